import PyProof.Rows.All
import Wide.All
import OpenK.AllK
import Wide.FinOn
import PyProof.EqAt
import PyProof.EqKinds
import PyProof.TupleCall
import HandS.ForMost
import HandS.Evl
import HandS.Wide
import HandS.Gcd
import HandS.IsInst
import HandS.Defaults
import HandS.Zip
import HandS.Conv
import HandS.Style
import HandS.TryOnly
import PyProof.ReprRoads
import HandS.Lambda
import HandS.Ends
import HandS.Words
import HandS.Flow
import HandS.List
import PyProof.LongRange
import PyProof.ListRange
import PyProof.ReprLen
import PyProof.CallFns
import HandS.ListItems
import HandS.SortInts
import KE.KExcInit
import KE.KIsAll
import KE.KTryMore
import HandS.ForExc
import HandS.ExcInit
import HandS.ExcIs
import HandS.ExcField
import HandS.FStr
import HandS.ClsMeth
import HandS.Head0
import HandS.Head1
import HandS.Head2
import HandS.HeadEnd
import HandS.HeadHook1
import HandS.HeadHook2
import HandS.HeadHook3
import HandS.HeadHook4
import HandS.HeadWalk
import KE.KStateDown
import HandS.Head3
import PySem.Challenge.RW_signbook_k57_more_rows_than_nets_are_sou
set_option Elab.async false
set_option linter.all false
set_option maxRecDepth 100000
set_option maxHeartbeats 2000000
namespace PySem
namespace SbE
open PySem.W PySem.Calls PyProof.Rows PySem.HandSPX Builtin Builtin.ObjectAttr
abbrev aeT : List Value := [.type "ArithmeticError", .type "Exception", .type "BaseException", .type "object"]
theorem ae_has (cs : Addr) (T : String) : (Value.ref cs :: aeT).contains (.type T) = aeT.contains (.type T) := by
  rw [List.contains_cons]
  rfl
theorem ae_pass (u : Value) (ca cs : Addr) : refuseLoop u "__setattr__" (.ref ca :: .ref cs :: aeT) = pure () := by
  rw [refuseLoop_ref, refuseLoop_ref]
  exact PySem.F.store_ArithmeticError.passes u
section
variable {pg : Program} {wd : World} {Ar : Around} {En : Value → Shared → Prop} {Rz : Result → Shared → Prop} {ha : Heap} {gs : Array GenState} {dn : Drawn} {tc : Nat} {st : OsState}
/-- self.nam = val, the first field of such an exception -/
theorem osaA {K : W.Frag} {nam : Str} {tk : Tok} {val : Value} {xa ca cs : Addr} {vs : Array Value} {kd : ClassData}
    (Y : K.In ha) (gx : ha.get? xa = some { cls := .ref ca, data := .fields vs }) (gk : W.clsIn K ca = some kd) (gm : kd.mro = .ref ca :: .ref cs :: aeT) (gd : kd.hasDict = true) (gn : W.findIn K (.ref ca) nam = some none)
    (next : ∀ hb tkb da, (∀ b o, b ≠ xa → ha.get? b = some o → hb.get? b = some o) → ha.objs.size ≤ da → da ≠ xa → hb.get? xa = some { cls := .ref ca, dict := some da, data := .fields vs } →
      hb.Ns1 da (fun y => if y = nam then some val else none) → Rz (.ok (.ret .none)) ⟨hb, gs, dn, tkb, st⟩) :
    codeAny (model pg wd) Ar (.call (.builtin "object.__setattr__") ⟨[.ref xa, .str nam tk, val], []⟩) Rz ⟨ha, gs, dn, tc, st⟩ := by
  have In0 : W.InstAt ha xa { cls := .ref ca, data := .fields vs } ca none := ⟨gx, rfl, rfl, trivial⟩
  have SO := PySem.F.store_object
  have gne : kd.mro.isEmpty = false := by rw [gm]; rfl
  have gob : kd.mro.contains (.type "object") = true := by rw [gm, List.contains_cons, ae_has, Bool.or_eq_true]; exact .inr (by decide +kernel)
  have xne : xa ≠ ha.objs.size := Nat.ne_of_lt (Heap.lt_size gx)
  have sb : W.Looks (model pg wd) ha (isInstance (.ref xa) (.type "object")) true := In0.type.andThen (W.looks_mroIn Y (by unfold W.mroIn; rw [gk, Option.bind_some, if_neg (by rw [gne]; decide), gob]))
  refine codeAny_call_builtin SO.slot.plain SO.entry (@W.check_slot (model pg wd) _ _ ⟨ha, gs, dn, tc, st⟩ "object.__setattr__" "object" "__setattr__" (.ref xa) [.str nam tk, val] [] _ SO.kind SO.split sb (SO.args (.ref xa) (.str nam tk) val) ?_)
  have lm : W.Looks (model pg wd) ha (mroOf (.ref ca)) kd.mro := (W.looks_clsIn Y gk).andThen .now
  have lt : W.Looks (model pg wd) ha (storeTaker? none) none := .now
  have lc : W.Looks (model pg wd) ha (classData ca) kd := W.looks_clsIn Y gk
  rw [W.osa_eq, refuse_eq]
  refine wpAny_bind (wpAny_bind (In0.type.at (wpAny_bind (lm.at ?_))))
  rw [gm, ae_pass]
  refine wpAny_pure (wpAny_bind (In0.type.at (wpAny_bind ((W.looks_findIn Y gn).at (wpAny_bind (lt.at ?_))))))
  show wpAny _ _ (storeInOwnDict (.ref xa) (.ref ca) (.str nam tk) nam val false) _ _ _
  obtain ⟨c1, c2, c3, c4, c5, c6, c7, c8, c9, c10, c11⟩ := kd
  dsimp only at gd
  subst gd
  unfold storeInOwnDict ownDictForStores
  repeat (first | with_reducible refine store_in_new ?_ ?_ | with_reducible refine wpAny_loadPart_at gx ?_ | with_reducible refine lc.at ?_ | wp_step)
  · exact ⟨_, #[], _, (Heap.get?_update_ne _ _ _ _ xne.symm).trans (Heap.get?_push_at rfl rfl), rfl, fun e he => absurd he (by simp), fun _ => rfl⟩
  · intro hb tkb hn hs
    have gx2 : (ha.push { cls := .type "dict", data := .dict #[] }).get? xa = some { cls := .ref ca, data := .fields vs } := Heap.get?_push_of_some _ gx
    refine next hb tkb ha.objs.size (fun b o nb ho => ?_) (Nat.le_refl _) xne.symm ?_ hn
    · exact (hs.2 b (Nat.ne_of_lt (Heap.lt_size ho))).trans ((Heap.get?_update_ne _ _ _ _ nb).trans (Heap.get?_push_of_some _ ho))
    · exact (hs.2 xa xne).trans (Heap.get?_update_self _ gx2 rfl)
end
end SbE
end PySem
namespace L2
open PySem PySem.Spec PyProof.Rows PySem.SbE
/-- what the written part says of such a class, whose base is the own class at cs -/
structure OwnA (K : PySem.W.Frag) (ca cs : Addr) : Prop where
  cls : ∃ nm q N bs sn sub ab col dd k0 k1 k2 k3 k5, K.lookup ca = some (excClassObj nm q ca N bs (.ref cs :: aeT) true sn sub ab col dd k0 k1 k2 k3 k5 "ArithmeticError.__new__")
  sa : PySem.W.findIn K (.ref ca) "__setattr__" = some (some (.builtin "object.__setattr__"))
  ex : PySem.W.subIn K (.ref ca) (.type "BaseException") = some true
  ty : PySem.W.typeIn K (.ref ca) = some (.type "type")
  kp : PySem.W.keepIn K (.ref ca) = true
section
variable {X : Cx} {pins : List (Addr × Obj)} {σ : St} {H : Hp} {s : Shared} {a ca cs da : Addr} {f : Str} {y : V} {u : Value} {E : Value → Shared → Prop} {A : Around}
theorem ostA {Q : Unit → Shared → Prop} (T : OwnA X.K ca cs) (I : Inv X pins σ H s) (e : H a = some (exo a ca none)) (gn : PySem.W.findIn X.K (.ref ca) f = some none) (ry : RelV y u)
    (k : ∀ da s', H da = none → da ≠ a → Inv X pins σ (upd (upd H da (exd da [(f, y)])) a (exo a ca (some da))) s' → Q () s') : wpAny (model X.prog X.w) A (setAttr (.ref a) f u) Q E s := by
  obtain ⟨nm, q, N, bs, sn, sub, ab, col, dd, k0, k1, k2, k3, k5, lk⟩ := T.cls
  obtain ⟨t1, go⟩ := exo_at I.hok e
  obtain ⟨hp, g, d, t, os⟩ := s
  refine PySem.W.set_plain I.kIn (ox := { cls := .ref ca, dict := none, data := .fields #[.ref t1, .none, .none, .none, .bool false, .none] }) (od := none) ⟨go, rfl, rfl, trivial⟩ T.sa ?_
  refine osaA (cs := cs) I.kIn go (kd := { name := nm, bases := bs, mro := .ref ca :: .ref cs :: aeT, ns := N, qualname := q, hasDict := true, slotNames := sn, subclasses := sub, abstract := ab, collection := col, hasDel := false }) (by unfold PySem.W.clsIn; rw [lk] <;> rfl) rfl rfl gn (fun hb tkb dx kk dn dne gxb hn => ?_)
  have dfree : H dx = none := I.hok.fresh dn
  have n1 : ∀ {b : Addr} {o : Obj}, hp.get? b = some o → b ≠ dx := fun {b o} z => Nat.ne_of_lt (Nat.lt_of_lt_of_le (Heap.lt_size z) dn)
  have n2 : ∀ {b : Addr}, H b = none → b ≠ a := fun {b} z w => by
    rw [w, e] at z
    cases z
  have U : Un X.fs [] H (upd (upd H dx (exd dx [(f, y)])) a (exo a ca (some dx))) hp hb := {
    keep := fun b o z n _ _ => kk b o (n2 n) z
    slot := fun b o z n _ _ => ⟨o.slots, kk b o (n2 n) z⟩
    free := fun b o z n _ => by rw [upd_ne (n2 n), upd_ne (n1 z)]; exact n
    there := fun b o z _ => by
      by_cases w : b = a
      · exact ⟨_, by rw [w]; exact gxb⟩
      · exact ⟨o, kk b o w z⟩
    tups := fun b xs z => by rw [upd_ne (at_ne e z exo_tup), upd_ne (ne_of_none z dfree)]; exact z
    frzs := fun b o v z => by rw [upd_ne (at_ne e z exo_frz), upd_ne (ne_of_none z dfree)]; exact z
    tbls := fun b ps z => ⟨#[], by rw [upd_ne (at_ne e z exo_tbl), upd_ne (ne_of_none z dfree), z]; simp⟩ }
  refine k dx _ dfree dne (I.un (t' := tkb) U fun b o z => ?_)
  by_cases w : b = a
  · subst w
    rw [upd_same] at z
    cases z
    exact exo_ok gxb
  · rw [upd_ne w] at z
    by_cases w2 : b = dx
    · subst w2
      rw [upd_same] at z
      cases z
      exact exd_ok hn (relO_put (fs := []) ry fun g => True.intro)
    · rw [upd_ne w2] at z
      refine (I.hok b o z).stay (fun c v hc zz => kk c v ?_ zz) (fun c hc => ?_) (fun c xs hc => ?_)
      · rcases hc with hc | hc
        · rw [hc]
          exact w
        · exact at_ne e hc exo_own
      · rw [upd_ne (at_ne e hc exo_own), upd_ne (ne_of_none hc dfree)]
        exact hc
      · rw [upd_ne (at_ne e hc exo_tup), upd_ne (ne_of_none hc dfree)]
        exact hc
/-- ArithmeticError.__init__(self, ..) -/
theorem initA {us : List Value} {Q : Value → Shared → Prop} (T : OwnA X.K ca cs) (I : Inv X pins σ H s) (e : H a = some (exo a ca none)) (hl : us.length ≤ sizeLine) (k : ∀ s', Inv X pins σ H s' → Q .none s') :
    wpAny (model X.prog X.w) A (call (.builtin "ArithmeticError.__init__") (.ref a :: us)) Q E s := by
  obtain ⟨nm, q, N, bs, sn, sub, ab, col, dd, k0, k1, k2, k3, k5, lk⟩ := T.cls
  obtain ⟨t1, go⟩ := exo_at I.hok e
  obtain ⟨hp, g, d, t, os⟩ := s
  refine wpAny_call (PySem.HandSPX.init_base PySem.F.excBase_ArithmeticError (ae_has cs) (I.kIn _ _ lk) go hl fun hb t2 kk gx => ?_)
  have J := I.write (t' := t) (x := a) (e := a) (o := exo a ca none) (by rw [e]; exact True.intro) (.inl rfl) kk ⟨_, gx⟩ (exo_ok gx)
  have same : upd H a (exo a ca none) = H := funext fun b => by
    by_cases w : b = a
    · rw [w, upd_same, e]
    · rw [upd_ne w]
  rw [same] at J
  exact k _ J
end
/-- Base.__init__(self, ..) -/
def tInitA (K : PySem.W.Frag) (ta : TA) : TE := fun σ H Q => ta σ H fun vs H1 => ∃ (a ca cs : Addr) (ws : List V), vs = .ref a :: ws ∧ ws.length ≤ 1000 ∧ OwnA K ca cs ∧ H1 a = some (exo a ca none) ∧ Q .non H1
/-- self.f = e -/
def tOstA (K : PySem.W.Frag) (f : Str) (to te : TE) : TS := fun D σ H => te σ H fun y H1 => to σ H1 fun x H2 => ∃ a ca cs : Addr, x = .ref a ∧ OwnA K ca cs ∧ PySem.W.findIn K (.ref ca) f = some none ∧
  H2 a = some (exo a ca none) ∧ ∀ dx, H2 dx = none → dx ≠ a → D.nx σ (upd (upd H2 dx (exd dx [(f, y)])) a (exo a ca (some dx)))
section
variable {X : Cx} {o e : Expr} {es : List Expr} {to te : TE} {ta : TA} {f B : Str} {p p' p1 p2 pos : Pos} {cs : Addr} {mc : Value}
theorem pe_initA {pl : Sem Bool} (hg : Gl X B) (hm : X.mg B = some (.ref cs)) (rd : PySem.W.readsIn X.K cs mc = true) (ga : PySem.W.specialIn X.K (.ref cs) "__getattribute__" = some (some (.builtin "type.__getattribute__")))
    (fi : PySem.W.findCls X.K (.ref cs) mc "__init__" = some (.val (.builtin "ArithmeticError.__init__"))) (ha : PA X (e :: es) ta) (hdb : (B == ("__debug__" : Str)) = false := by decide)
    (hc : eval (.Call (.Attribute (.Name B p1) "__init__" p2) (e :: es) [] pos) X.env = (do
      let b ← eval (.Name B p1) X.env
      standAt p2.atName
      let (g, fst) ← holding [b] (getMethod b "__init__" pl)
      callWith pos g fst (backTo pos (starEach (e :: es) X.env)) (backToKw pos (keywordEach [] X.env))) := by rfl)
    (he : starEach (e :: es) X.env = (false, eval e X.env) :: starEach es X.env := by rfl) (hpl : (backTo pos (starEach es X.env)).any (·.1) = false := by rfl) :
    PE X (.Call (.Attribute (.Name B p1) "__init__" p2) (e :: es) [] pos) (tInitA X.K ta) := by
  refine ⟨fun pins s σ H Q I h => ?_⟩
  refine PySem.W.methodCall_KW (ld_glob I hg hm ?_ hdb) hc
  refine PySem.W.method_cls I.kIn ga (PySem.W.cls_value I.kIn rd fi rfl ?_)
  show wpAny _ _ (callWith pos (Value.builtin "ArithmeticError.__init__") [] (backTo pos (starEach (e :: es) X.env)) []) _ _ _
  refine PyProof.Rows.callWith_method1 (thn (ha.run pos pins _ σ H _ (I.tok _) h) fun us s1 ⟨vs, H1, I1, r1, a, ca, cs', ws, ev, hl, T, ea, q⟩ => ?_) he hpl
  subst ev
  cases r1 with
  | @cons _ u0 _ ur ra rw' =>
    obtain rfl : u0 = Value.ref a := ra
    exact initA T I1 ea (by rw [← Paired.length rw', sizeLine_eq]; omega) fun s' J => ⟨.non, H1, J, rfl, q⟩
theorem ps_ostA (ho : PE X o to) (he : PE X e te) (hs : swapsWith e (some (.Attribute o f p')) pos.line X.env = pure false := by rfl) : PS X (.Assign [.Attribute o f p'] e pos) (tOstA X.K f to te) := by
  refine ⟨fun pins s σ H D I h => ?_⟩
  refine plainObj_wpAny_Assign_Attribute (thn (he.run pins s σ H _ I h) fun v s1 ⟨y, H1, I1, r1, q1⟩ => thn (ho.run pins s1 σ H1 _ I1 q1) fun u s2 ⟨x, H2, I2, r2, a, ca, cs, ex, T, hno, ea, q⟩ => ?_) hs
  subst ex
  obtain rfl : u = Value.ref a := r2
  exact ostA T I2 ea hno r1 fun dx s' n ne J => ⟨σ, _, J, q dx n ne⟩
end
/-- C(e, ..), C's own __init__ keeping sp -/
def tMkA (ca : Addr) (sp : Sp) (ta : TA) : St → Hp → XK → Prop := fun σ H Q => ta σ H fun vs H1 => vs.length ≤ 1000 ∧ ∀ a, H1 a = none → sp (.ref a :: vs) (upd H1 a (exo a ca none))
  (fun v H2 => v = .non ∧ ∃ (d : Addr) (fs : List (Str × V)), H2 a = some (exo a ca (some d)) ∧ H2 d = some (exd d fs) ∧ H1 d = none ∧ Q (.ref ca) (some d) (upd (del H2 a) d (.xd fs))) (fun _ _ _ => False)
theorem pmk_ownA {X : Cx} {CX : CXT} {x : Str} {e : Expr} {es : List Expr} {ta : TA} {p pos : Pos} {ca cs fi : Addr} {k : Nat} {fd : FuncData} {ps : List Str} {sp : Sp} (T : OwnA X.K ca cs) (iC : PySem.W.findIn X.K (.ref ca) "__init__" = some (some (.ref fi))) (tI : PySem.W.typeIn X.K (.ref fi) = some (.type "function"))
    (F1 : FnOk X.prog X.w X.K X.mg X.base CX k fi fd ps sp) (hr : Room (k + 1) X.A) (hb : Binds X.K fd ps []) (hx : Passes CX X (fun _ _ _ => False)) (hg : Gl X x) (hm : X.mg x = some (.ref ca)) (ha : PA X (e :: es) ta)
    (hdb : (x == ("__debug__" : Str)) = false := by decide) (he : starEach (e :: es) X.env = (false, eval e X.env) :: starEach es X.env := by rfl) (hpl : (backTo pos (starEach es X.env)).any (·.1) = false := by rfl) :
    PMk X (.Call (.Name x p) (e :: es) [] pos) (tMkA ca sp ta) := by
  intro pins s σ H Q I h
  obtain ⟨nm, q, N, bs, sn, sub, ab, col, dd, k0, k1, k2, k3, k5, lk⟩ := T.cls
  refine wpAny_Call_Name_kw (ld_glob I hg hm ?_ hdb)
  refine PySem.W.callWith_K (h₀ := X.base) I.ok.mod.kin T.kp (thn (ha.run pos pins s σ H _ I h) fun us s1 ⟨vs, H1, I1, r1, hz, q1⟩ => ⟨I1.kIn, ?_⟩) he hpl
  show wpAny _ _ (call (.ref ca) us) _ _ _
  obtain ⟨hp, g, dr, tk, os⟩ := s1
  have big : hp.objs.size ≤ hp.objs.size + 1 := Nat.le_succ _
  have hq := q1 (hp.objs.size + 1) (I1.hok.fresh big)
  have kk : ∀ b o, hp.get? b = some o → ((hp.push (PySem.W.kdv_tup us)).push (PySem.HandSPX.excO ca hp.objs.size)).get? b = some o := fun b o z => Heap.get?_push_of_some _ (Heap.get?_push_of_some _ z)
  have atE : ((hp.push (PySem.W.kdv_tup us)).push (PySem.HandSPX.excO ca hp.objs.size)).get? (hp.objs.size + 1) = some (PySem.HandSPX.excO ca hp.objs.size) := by heap_get
  have I2 := I1.laid (t' := tk) (a := hp.objs.size + 1) (o := exo (hp.objs.size + 1) ca none) (h' := (hp.push (PySem.W.kdv_tup us)).push (PySem.HandSPX.excO ca hp.objs.size)) kk big (exo_ok atE)
  have r2 : Vals (V.ref (hp.objs.size + 1) :: vs) (Value.ref (hp.objs.size + 1) :: us) := .cons rfl r1
  have hl : (Value.ref (hp.objs.size + 1) :: us).length = ps.length := by
    have z := r2.length
    rw [F1.len _ _ _ _ hq] at z
    exact z.symm
  have hus : us.length ≤ sizeLine := by
    rw [← Paired.length r1, sizeLine_eq]
    omega
  have hbd := hb _ (Value.ref (hp.objs.size + 1) :: us) I2.kIn (by rw [List.append_nil]; exact hl)
  rw [List.append_nil] at hbd
  refine wpAny_call (PySem.HandSPX.call_own PySem.F.excBase_ArithmeticError (ae_has cs) (I1.kIn _ _ lk) (PySem.W.looks_findIn I1.kIn iC) (fun self => PySem.W.bind_fn I1.kIn self tI) hus
    (codeAny_mono (F1.run _ X.stack _ _ ⟨Value.ref (hp.objs.size + 1) :: us, []⟩ (Value.ref (hp.objs.size + 1) :: us) _ _ (fun _ _ _ => False) (hr.make ca us []) (I2.env0.make ca us []) hbd r2 hq) fun r s' hq' => ?_))
  cases r with
  | error er => exact hx pins σ _ _ er s' I2 hq'
  | ok fl =>
    cases fl with
    | ret u =>
      obtain ⟨v, H2, os2, bare2, un2, hok2, rv, ev, d, fs, ea, ed, hd1, q2⟩ := hq'
      subst ev
      obtain ⟨h2, g2, d2, t2, os'⟩ := s'
      exact ⟨rv, mk_end (raises_own T.ex T.ty) I1 big kk un2 hok2 os2 bare2 ea ed hd1 q2⟩
    | next => exact False.elim hq'
    | brk => exact False.elim hq'
    | cont => exact False.elim hq'
end L2
namespace PySem
namespace SbE
open PySem PySem.Spec PySem.W PySem.Calls PyProof.Rows
section
variable {pg : Program} {wd : World} {Ar : Around} {En : Value → Shared → Prop} {st : Shared} {K : Frag} {xa D : Addr} {ob : Obj} {od : Option Obj}
theorem obj_data {nam : Str} {p g : Value} (hc : (clsIn K D).isSome = true) (h1 : findIn K (.ref D) nam = some (some p)) (h2 : specialIn K p "__get__" = some (some g)) (h3 : takesIn K p = some true) : findObj K D od nam = some (.bind g p) := by
  obtain ⟨kd, hc⟩ := Option.isSome_iff_exists.mp hc
  unfold findObj
  rw [hc, Option.bind_some, h1, Option.bind_some]
  simp [h2, h3]
/-- e.__class__, e an exception with a dict or without -/
theorem cls_exc {Q : Option Value → Shared → Prop} (h1 : findIn K (.ref D) "__getattribute__" = some (some (.builtin "BaseException.__getattribute__"))) (h2 : findIn K (.ref D) "__getattr__" = some none) (h3 : subIn K (.ref D) (.type "BaseException") = some true)
    (h4 : hasDictIn K D = true) (h5 : findIn K (.ref D) "__class__" = some (some (.builtin "object.__class__"))) (h6 : specialIn K (.builtin "object.__class__") "__get__" = some (some (.builtin "getset_descriptor.__get__"))) (h7 : takesIn K (.builtin "object.__class__") = some true)
    (h8 : mroIn K D (.type "object") = some true) (Y : K.In st.heap) (J : InstAt st.heap xa ob D od) (h : Q (some (.ref D)) { st with toks := st.toks + 1 }) : wpAny (model pg wd) Ar (getAttr? (.ref xa) "__class__") Q En st := by
  have fo : findObj K D od "__class__" = some (.bind (.builtin "getset_descriptor.__get__") (.builtin "object.__class__")) := obj_data (by obtain ⟨kd, hc, _⟩ := any_some h4; rw [hc]; rfl) h5 h6 h7
  obtain ⟨hh, g, d, t, os⟩ := st
  have T0 := J.type (M := model pg wd)
  have T1 := looks_findIn (M := model pg wd) Y h1
  have T2 := looks_findIn (M := model pg wd) Y h2
  have T3 := looks_find (M := model pg wd) Y J fo
  have sb : Looks (model pg wd) hh (isInstance (.ref xa) (.type "BaseException")) true := T0.andThen (looks_subIn Y h3)
  have z0 : (false && onTheHeap (Value.builtin "BaseException.__getattribute__")) = false := rfl
  have z2 : (Value.builtin "BaseException.__getattribute__" == Value.builtin "object.__getattribute__") = false := by decide +kernel
  have z1 : (onTheHeap (Value.ref D) && Value.builtin "BaseException.__getattribute__" == Value.builtin "object.__getattribute__") = false := by rw [z2]; rfl
  unfold getAttr? getAttrBy? getAttrBy
  refine wpAny_bind (wpAny_mkText (wpAny_bind (wpAny_attempt (wpAny_holding (wpAny_bind (T0.at (wpAny_bind (T1.at ?_))))))))
  show wpAny (model pg wd) _ (if (onTheHeap (Value.ref D) && Value.builtin "BaseException.__getattribute__" == Value.builtin "object.__getattribute__") = true then _ else _) _ _ _
  rw [z1, if_neg Bool.false_ne_true]
  unfold getAttrByItsOwn hookBefore
  refine wpAny_bind ?_
  rw [if_pos (show onTheHeap (Value.ref D) = true from rfl)]
  refine T2.at ?_
  refine wpAny_bind (wpAny_attempt (wpAny_holding ?_))
  unfold callGetattribute
  rw [z0, if_neg Bool.false_ne_true]
  unfold boundAndCalled
  rw [PySem.F.excAttr_ValueError.ga.bind (.ref xa)]
  refine wpAny_bind (wpAny_pure ?_)
  show wpAny (model pg wd) _ (call (.builtin "BaseException.__getattribute__") [.ref xa, .str "__class__" t]) _ _ _
  refine wpAny_call (codeAny_call_builtin PySem.F.excAttr_ValueError.ga.plain PySem.F.entry_bexc_ga ?_)
  refine @check_slot (model pg wd) _ _ ⟨hh, g, d, t + 1, os⟩ "BaseException.__getattribute__" "BaseException" "__getattribute__" (.ref xa) [.str "__class__" t] [] _ (by decide +kernel) (by decide +kernel) sb (PySem.F.args_bexc_ga (.ref xa) (.str "__class__" t)) ?_
  unfold Builtin.«object.__getattribute__»
  refine wpAny_bind (wpAny_of_eq (a := ((Value.ref xa : Value), [Value.str "__class__" t])) (by first | rfl | (simp only [slotArgs]; rfl)) ?_)
  refine wpAny_bind (wpAny_pure (wpAny_bind (T0.at (wpAny_bind (T3.at ?_)))))
  show wpAny (model pg wd) _ (holding [Value.builtin "object.__class__"] (call (.builtin "getset_descriptor.__get__") [.builtin "object.__class__", .ref xa, .ref D]) >>= ret) _ _ _
  refine wpAny_bind (wpAny_holding (wpAny_call (class_get (s := ⟨hh, g, d, t + 1, os⟩) (ox := ob) (od := od) Y J h8 ?_)))
  refine wpAny_pure ?_
  show wpAny (model pg wd) _ (handedOut (.ref D)) _ _ _
  rw [handedOut_of (v := .ref D) rfl]
  first
    | exact wpAny_pure (wpAny_pure h)
    | exact wpAny_pure h
    | exact wpAny_pure (wpAny_bind (wpAny_pure (wpAny_pure h)))
theorem kit_exc (h1 : findIn K (.ref D) "__getattribute__" = some (some (.builtin "BaseException.__getattribute__"))) (h2 : findIn K (.ref D) "__getattr__" = some none) (h3 : subIn K (.ref D) (.type "BaseException") = some true) (h4 : hasDictIn K D = true)
    (h5 : findIn K (.ref D) "__class__" = some (some (.builtin "object.__class__"))) (h6 : specialIn K (.builtin "object.__class__") "__get__" = some (some (.builtin "getset_descriptor.__get__"))) (h7 : takesIn K (.builtin "object.__class__") = some true) (h8 : mroIn K D (.type "object") = some true) :
    KitX K (.ref xa) (.ref D) (fun hh => InstAt hh xa ob D od) := by
  obtain ⟨kd, hc, _⟩ := any_some h4
  have at_ : ∃ c' d' sl', K.lookup D = some ⟨c', d', .cls kd, sl'⟩ := by
    unfold clsIn at hc
    split at hc
    · rename_i c' d' cd' sl' ho
      cases hc
      exact ⟨c', d', sl', ho⟩
    · cases hc
  obtain ⟨c', d', sl', lk⟩ := at_
  refine ⟨fun _ _ _ J => J.type, fun _ _ Y _ A' Q' E' s' k q => ?_, fun hh tp dd its n sl Y gt => ?_, fun Y J k => cls_exc h1 h2 h3 h4 h5 h6 h7 h8 Y J k⟩
  · unfold isType loadHead
    exact wpAny_bind (wpAny_loadPart (k _ _ (Y _ _ lk)) (wpAny_pure q))
  · refine Bool.eq_false_iff.mpr fun q => ?_
    have e : D = tp := Value.ref.inj (beq_iff_eq.mp q)
    subst e
    have z := (Y _ _ lk).symm.trans gt
    cases z
end
end SbE
end PySem
namespace L2
open PySem PySem.Spec PyProof.Rows PySem.SbE
/-- isinstance(e, c), e the exception that the suite holds, with fields or without -/
def rIsA (K : PySem.W.Frag) (cls : Value) (d : Option Addr) (a : Addr) : List V → Hp → VK → Prop := fun xs H Q => ∃ (D : Addr) (c : V) (cv : Value) (b : Bool), cls = .ref D ∧ ExcC K D ∧ xs = [.ref a, c] ∧ (∀ u, RelV c u → u = cv) ∧ PySem.W.kitOne K (.ref D) cv = some b ∧
  (d = none ∨ ∃ dd fs, d = some dd ∧ H dd = some (.xd fs)) ∧ Q (.bl b) H
theorem call_isA {X : Cx} {a : Addr} {cls : Value} {d : Option Addr} {oe : Obj} {pn : List (Addr × Obj)} (hz : Zc cls d oe) (hf : ∃ vs, oe.data = .fields vs) : CallR (X.suite a ((a, oe) :: pn)) (.builtin "isinstance") (rIsA X.K cls d a) := by
  intro pins s σ H xs us Q I r h
  obtain ⟨D, c, cv, b, ec, C, ex, hcv, e, hd, q⟩ := h
  subst ec ex
  cases r with
  | cons rx rr =>
    cases rr with
    | cons rt rr =>
      cases rr
      cases rx
      have ev := hcv _ rt
      subst ev
      obtain ⟨at_, _⟩ := I.pin (a, oe) (List.mem_append.mpr (.inl List.mem_cons_self))
      obtain ⟨vs, hv⟩ := hf
      have nc : PySem.W.notCls oe = true := by
        unfold PySem.W.notCls
        rw [hv] <;> rfl
      obtain ⟨od, J⟩ : ∃ od, PySem.W.InstAt s.heap a oe D od := by
        rcases hd with hd | ⟨dd, fs, hd, hx⟩
        · exact ⟨none, at_, hz.1, nc, by rw [hz.2, hd]; trivial⟩
        · have hok : ObjOk X.prog X.w H s.heap dd (.xd fs) := I.hok dd _ hx
          obtain ⟨mA, hns, _⟩ := hok
          obtain ⟨od, ho, _⟩ := lookIn_ns hns
          exact ⟨some od, at_, hz.1, nc, by rw [hz.2, hd]; exact ho⟩
      exact PySem.W.kia_one (kit_exc C.hg C.hk C.hs C.hd C.ha C.hn C.ht C.hm) I.kIn J e (fun z => nomatch z) fun tk => ⟨.bl b, H, I.kept (t' := tk) fun _ _ z => z, rfl, q⟩
end L2
namespace LamX
open PySem PySem.Spec PyProof.Rows L2
section
variable {X : Cx} {pins : List (Addr × Obj)} {σ : L2.St} {H : Hp} {s : Shared}
/-- x(), what it lets out told at the slots of the def that got the lambda -/
theorem act_at {CXg : CXT} {Eg : XK} {Ng : List Str} {qg : Str} {sg : Scope} {g f c' : Addr} {cdg pm ctv : Value} {params : Arguments} {body : Expr} {scope : Scope} {k i : Nat} {a : Str} {pn : List (Addr × Obj)} {xe : Value → Shared → Prop} {W : WX} {tb : XK → TE} {p1 p2 : Pos}
    (I : Inv X pins σ H s) (L : LamS X.env.scope scope) (hf : s.heap.get? f = some (PySem.W.kla_obj "<lambda>" (X.env.qual ++ "<lambda>") params body scope (cloFrom X.env.cells scope.names []) pm c' ctv)) (hfn : H f = none) (hfr : f ∉ frs X.stack)
    (hbind : bindArgs (PySem.W.kla_fn "<lambda>" (X.env.qual ++ "<lambda>") params body scope (cloFrom X.env.cells scope.names []) pm (.ref c') ctv) ⟨[], []⟩ = pure [])
    (tk : Takes ((cxOf CXg X.prog X.w X.K X.mg X.base Ng qg sg g cdg X.A X.stack s H Eg).tr pn xe) W) (hr : Room (k + 1) (X.A.deeper (envOfC qg sg s.heap.objs.size g cdg)))
    (hbody : ∀ (A : Around) (outer : List Env) (s : Shared) (H : Hp) (E : XK), Room k (A.deeper (lamEnv X scope s.heap.objs.size f c')) → PE (lamCx X A outer s H E scope f c') body (tb E))
    (hN : Ng[i]? = some a) (hv : Vis sg a) (hd : (a == ("__debug__" : Str)) = false := by decide) (hcd : (a == ("__classdict__" : Str)) = false := by decide) :
    PE ((cxOf CXg X.prog X.w X.K X.mg X.base Ng qg sg g cdg X.A X.stack s H Eg).tr pn xe) (.Call (.Name a p1) [] [] p2)
      (fun τ G Q => τ[i]? = some (some (.ref f)) ∧ G c' = some (CodeO c' (X.env.qual ++ "<lambda>")) ∧ tb (WE W τ) σ G Q) := by
  refine ⟨fun pz sz τ G Q J h => ?_⟩
  obtain ⟨hs, hc, ht⟩ := h
  refine wpAny_Call_Name_kw (thn ((pe_var (pos := p1) (i := i) hN hv hd hcd).run pz sz τ G (fun v G1 => v = .ref f ∧ G1 = G) J ⟨.ref f, hs, rfl, rfl⟩) fun u s1 ⟨v, G1, J1, r1, q1⟩ => ?_)
  obtain ⟨ev, eG⟩ := q1
  subst ev
  rw [eG] at J1
  obtain rfl : u = Value.ref f := r1
  have fat := J1.base.keep f _ hf hfn hfr (fun z => nomatch (show f ∈ ([] : List Addr) from z))
  refine PySem.W.callWith_F0 ⟨_, _, _, _, fat⟩ ?_
  have un : Un (frs X.stack) [] H G s.heap s1.heap := J1.base
  obtain ⟨⟨oc, vs, t, hoc, hdc, hvc⟩, _, _⟩ := J1.hok c' _ hc
  have rc : codeAny (model X.prog X.w) (X.A.deeper (envOfC qg sg s.heap.objs.size g cdg)) (.call (.ref f) ⟨[], []⟩) (CR (L2.CX X.prog X.w) (envOfC qg sg s.heap.objs.size g cdg :: X.stack) X.prog X.w G s1 Q (WE W τ)) s1 := by
    refine PySem.W.kla_callFunE hr.depth fat rfl L.co L.gen rfl ⟨c', oc, vs, t, rfl, hoc, hdc, hvc⟩ ?_
    rw [hbind]
    refine wpAny_pure (wpAny_newFunctionEnv (fun y hy => (L.own y hy).2) (fun y hy => absurd hy (by simp)) (fun hz hns hsb => ⟨J1.nolimit.fresh _ hsb, ?_⟩) L.kind)
    show codeAny _ _ (.expr body (lamEnv X scope s1.heap.objs.size f c')) _ _
    have kp : ∀ b o, s1.heap.get? b = some o → hz.get? b = some o := fun b o e => hsb.extBut b o (Nat.ne_of_lt (Heap.lt_size e)) (Heap.get?_push_of_some _ e)
    have JL : Inv (lamCx X (X.A.deeper (envOfC qg sg s.heap.objs.size g cdg)) (envOfC qg sg s.heap.objs.size g cdg :: X.stack) s1 G (WE W τ) scope f c') [] σ G { s1 with heap := hz, toks := s1.toks + ([] : List (Str × Value)).length } :=
      lam_start2 I L J1.env0 hr.hd un hns kp
    refine PySem.W.kla_codeExpr (wpAny_mono ((hbody _ _ s1 G (WE W τ) (hr.deeper _)).run [] _ _ G Q JL ht) (fun v s' hq => ?_) fun e s' hq => hq)
    obtain ⟨w', G', J', rv, q⟩ := hq
    exact ⟨w', G', J'.os, J'.bare, J'.base, J'.hok, rv, q⟩
  have pass := passAt tk τ
  refine wpAny_call (codeAny_mono rc fun r s' hq => ?_)
  cases r with
  | error e => exact pass pz G s1 e s' J1 hq
  | ok fl =>
    cases fl with
    | ret u => exact J1.after hq
    | next => exact False.elim hq
    | brk => exact False.elim hq
    | cont => exact False.elim hq
end
/-- the def that calls what it got, a exception told at its slots; TT: what it makes of the lambda's reading -/
def GivesAt (X : Cx) (Ng : List Str) (x : Str) (sg : Scope) (g : Addr) (cdg : Value) (bg : List Stmt) (a : Str) (q : Str) (TT : (XK → Hp → VK → Prop) → Hp → VK → Prop) : Prop :=
  ∀ (f c' : Addr) (s : Shared) (H : Hp) (Q : VK) (tl : XK → Hp → VK → Prop),
    (∀ (W : WX) (pn : List (Addr × Obj)) (xe : Value → Shared → Prop) (p1 p2 : Pos), Takes ((cxOf C8.CX0 X.prog X.w X.K X.mg X.base Ng x sg g cdg X.A X.stack s H C8.E0).tr pn xe) W →
      PE ((cxOf C8.CX0 X.prog X.w X.K X.mg X.base Ng x sg g cdg X.A X.stack s H C8.E0).tr pn xe) (.Call (.Name a p1) [] [] p2) (fun τ G Q => τ[0]? = some (some (.ref f)) ∧ G c' = some (CodeO c' q) ∧ tl (WE W τ) G Q)) →
    H c' = some (CodeO c' q) → TT tl H Q →
    ∃ t, PSs (cxOf C8.CX0 X.prog X.w X.K X.mg X.base Ng x sg g cdg X.A X.stack s H C8.E0).nox bg t ∧ t { nx := fun _ H' => Q .non H', rt := Q } (L2.start Ng [.ref f]) H
section
variable {X : Cx}
/-- x(lambda: body) -/
theorem pe_lamAt {T : List (Addr × Str)} {TT : (XK → Hp → VK → Prop) → Hp → VK → Prop} {x a : Str} {g c P : Addr} {k : Nat} {pg : Arguments} {bg : List Stmt} {sg : Scope} {dV kV doc pm cdv ct oc : Value} {an od : Option Addr} {osl : Array (Option Value)} {Ng : List Str}
    {params : Arguments} {body : Expr} {scope : Scope} {t : XK → TE} {p lpos pos : Pos} (hg : Gl X x) (hm : X.mg x = some (.ref g)) (hk : PySem.W.keepIn X.K (.ref g) = true)
    (lk : X.K.lookup g = some ⟨oc, od, .func (PySem.W.fnOf x x pg bg sg dV kV doc pm an cdv ct), osl⟩) (hcg : PySem.W.codeIn X.K cdv x = true) (hb : L2.Binds X.K (PySem.W.fnOf x x pg bg sg dV kV doc pm an cdv ct) [a] []) (Sg : FnScope Ng [a] sg) (hNg : Ng[0]? = some a) (hva : Vis sg a)
    (hG : GivesAt X Ng x sg g cdv bg a (X.env.qual ++ "<lambda>") TT)
    (TB : TabB X.base X.mg c P) (hcode : X.env.code = .ref c) (hmT : (P, X.env.qual ++ "<lambda>") ∈ T) (hu : ∀ p ∈ T, p.1 = P → p.2 = X.env.qual ++ "<lambda>") (hr : Room (k + 2) X.A) (L : LamS X.env.scope scope) (hdef : defaultsOf params X.env = ([], []))
    (hbind : ∀ (q : Str) (cl : List (Str × Addr)) (pm cv ctv : Value), bindArgs (PySem.W.kla_fn "<lambda>" q params body scope cl pm cv ctv) ⟨[], []⟩ = pure [])
    (hbody : ∀ (A : Around) (outer : List Env) (s : Shared) (H : Hp) (E : XK) (f c' : Addr), Room k (A.deeper (lamEnv X scope s.heap.objs.size f c')) → PE (lamCx X A outer s H E scope f c') body (t E))
    (hdb : (x == ("__debug__" : Str)) = false := by decide) (hd : (a == ("__debug__" : Str)) = false := by decide) (hcd : (a == ("__classdict__" : Str)) = false := by decide) :
    PE X (.Call (.Name x p) [.Lambda params body scope lpos] [] pos) (tLam T TT t) := by
  refine ⟨fun pins s σ H Q I h => ?_⟩
  obtain ⟨hT, h⟩ := h
  refine wpAny_Call_Name_kw (ld_glob I hg hm ?_ hdb)
  refine PySem.W.callWith_K (h₀ := X.base) I.ok.mod.kin hk ?_ (by rfl) (by rfl)
  show wpAny (model X.prog X.w) _ (spliced ((false, eval (.Lambda params body scope lpos) X.env) :: backTo pos (starEach [] X.env))) _ _ s
  refine Calls.spliced_cons (lam_make2 I TB hcode hmT hu hT hdef (L.has I.ok) fun f c' pm' ctv H1 s' I1 eN T1 hf hfn hfr hco => ?_)
  refine Calls.spliced_nil ⟨I1.kIn, ?_⟩
  have rc : codeAny (model X.prog X.w) X.A (.call (.ref g) ⟨[.ref f], []⟩) (CR C8.CX0 X.stack X.prog X.w H1 s' Q C8.E0) s' :=
    run_ofS (N := Ng) (ps := [a]) (us := [.ref f]) (vs := [.ref f]) lk hcg Sg hr I1.env0 (hb s' [.ref f] I1.kIn rfl) (.cons rfl .nil) rfl fun hr' => by
      obtain ⟨t', ht', hq'⟩ := hG f c' s' H1 Q (fun E H' Q' => t E σ H' Q') (fun W pn xe p1 p2 tk => act_at (i := 0) I1 L hf hfn hfr (hbind _ _ _ _ _) tk hr' (fun A outer s H E hr2 => hbody A outer s H E f c' hr2) hNg hva hd hcd) hco (h H1 eN T1)
      exact ⟨t', ht'.nox, hq'⟩
  refine wpAny_call (codeAny_mono rc fun r s2 hq => ?_)
  cases r with
  | error e => exact (show False from hq).elim
  | ok fl =>
    cases fl with
    | ret u => exact I1.after hq
    | next => exact False.elim hq
    | brk => exact False.elim hq
    | cont => exact False.elim hq
end
end LamX
namespace L2
open PySem PySem.Spec PyProof.Rows PySem.SbE
/-! facts of the classes as truths that the kernel reckons -/
def fiB (K : PySem.W.Frag) (C : Addr) : Bool := match PySem.W.findCls K (.ref C) (.type "type") "__init__" with
  | some (.val v) => decide (v = .builtin "ArithmeticError.__init__")
  | _ => false
theorem fiB_ok {K : PySem.W.Frag} {C : Addr} (h : fiB K C = true) : PySem.W.findCls K (.ref C) (.type "type") "__init__" = some (.val (.builtin "ArithmeticError.__init__")) := by
  unfold fiB at h
  split at h
  · rename_i v e
    rw [e, of_decide_eq_true h]
  · cases h
def ownK (C CS : Addr) : Obj → Bool
  | ⟨.type m, _, .cls kd, sl⟩ => decide (m = "type") && (decide (kd.mro = .ref C :: .ref CS :: aeT) && (kd.hasDict && (!kd.hasDel && match sl.toList with
    | [_, _, _, _, some (.builtin n), _] => decide (n = "ArithmeticError.__new__")
    | _ => false)))
  | _ => false
theorem ownK_ok {C CS : Addr} {o : Obj} (h : ownK C CS o = true) : ∃ nm q N bs sn sub ab col dd k0 k1 k2 k3 k5, o = excClassObj nm q C N bs (.ref CS :: aeT) true sn sub ab col dd k0 k1 k2 k3 k5 "ArithmeticError.__new__" := by
  obtain ⟨oc, od, dt, sl⟩ := o
  cases oc with
  | type m =>
    cases dt with
    | cls kd =>
      obtain ⟨h1, h⟩ := Bool.and_eq_true_iff.mp h
      obtain ⟨h2, h⟩ := Bool.and_eq_true_iff.mp h
      obtain ⟨h3, h⟩ := Bool.and_eq_true_iff.mp h
      obtain ⟨h4, h5⟩ := Bool.and_eq_true_iff.mp h
      have e1 := of_decide_eq_true h1
      have e2 := of_decide_eq_true h2
      obtain ⟨nm, bs, mro, ns, qn, hd, sn, sub, ab, col, del⟩ := kd
      dsimp only at h3 h4 e2
      have e4 : del = false := by
        cases del
        · rfl
        · cases h4
      subst e1 e2 h3 e4
      obtain ⟨l⟩ := sl
      dsimp only at h5
      obtain ⟨k0, k1, k2, k3, k5, e6⟩ : ∃ k0 k1 k2 k3 k5, l = [k0, k1, k2, k3, some (.builtin "ArithmeticError.__new__"), k5] := by
        split at h5
        · exact ⟨_, _, _, _, _, by rw [of_decide_eq_true h5]⟩
        · cases h5
      subst e6
      exact ⟨nm, qn, ns, bs, sn, sub, ab, col, od, k0, k1, k2, k3, k5, rfl⟩
    | _ => cases h
  | _ => cases dt <;> cases h
def ownB (K : PySem.W.Frag) (C CS : Addr) : Bool := (match K.lookup C with
  | some o => ownK C CS o
  | none => false) && (decide (PySem.W.findIn K (.ref C) "__setattr__" = some (some (.builtin "object.__setattr__"))) && (decide (PySem.W.subIn K (.ref C) (.type "BaseException") = some true) && (decide (PySem.W.typeIn K (.ref C) = some (.type "type")) && PySem.W.keepIn K (.ref C))))
theorem ownB_ok {K : PySem.W.Frag} {C CS : Addr} (h : ownB K C CS = true) : OwnA K C CS := by
  obtain ⟨h1, h⟩ := Bool.and_eq_true_iff.mp h
  obtain ⟨h2, h⟩ := Bool.and_eq_true_iff.mp h
  obtain ⟨h3, h⟩ := Bool.and_eq_true_iff.mp h
  obtain ⟨h4, h5⟩ := Bool.and_eq_true_iff.mp h
  refine ⟨?_, of_decide_eq_true h2, of_decide_eq_true h3, of_decide_eq_true h4, h5⟩
  cases e : K.lookup C with
  | none =>
    rw [e] at h1
    cases h1
  | some o =>
    rw [e] at h1
    obtain ⟨nm, q, N, bs, sn, sub, ab, col, dd, k0, k1, k2, k3, k5, eo⟩ := ownK_ok h1
    exact ⟨nm, q, N, bs, sn, sub, ab, col, dd, k0, k1, k2, k3, k5, by rw [eo]⟩
def ecB (K : PySem.W.Frag) (D : Addr) : Bool := decide (PySem.W.findIn K (.ref D) "__getattribute__" = some (some (.builtin "BaseException.__getattribute__"))) && (decide (PySem.W.findIn K (.ref D) "__getattr__" = some none) && (decide (PySem.W.subIn K (.ref D) (.type "BaseException") = some true) && (PySem.W.hasDictIn K D && (decide (PySem.W.findIn K (.ref D) "__class__" = some (some (.builtin "object.__class__"))) &&
  (decide (PySem.W.specialIn K (.builtin "object.__class__") "__get__" = some (some (.builtin "getset_descriptor.__get__"))) && (decide (PySem.W.takesIn K (.builtin "object.__class__") = some true) && decide (PySem.W.mroIn K D (.type "object") = some true)))))))
theorem ecB_ok {K : PySem.W.Frag} {D : Addr} (h : ecB K D = true) : ExcC K D := by
  obtain ⟨h1, h⟩ := Bool.and_eq_true_iff.mp h
  obtain ⟨h2, h⟩ := Bool.and_eq_true_iff.mp h
  obtain ⟨h3, h⟩ := Bool.and_eq_true_iff.mp h
  obtain ⟨h4, h⟩ := Bool.and_eq_true_iff.mp h
  obtain ⟨h5, h⟩ := Bool.and_eq_true_iff.mp h
  obtain ⟨h6, h⟩ := Bool.and_eq_true_iff.mp h
  obtain ⟨h7, h8⟩ := Bool.and_eq_true_iff.mp h
  exact ⟨of_decide_eq_true h1, of_decide_eq_true h2, of_decide_eq_true h3, h4, of_decide_eq_true h5, of_decide_eq_true h6, of_decide_eq_true h7, of_decide_eq_true h8⟩
theorem funD_fun {K : PySem.W.Frag} {x qual : Str} {st : Stmt} {f : Addr} {fd : FuncData} (F : FunD K x qual (defArgs st) (defBody st) (defScope st) [] [] f fd) : Fun K x qual st f fd := by
  obtain ⟨oc, od, dV, kV, doc, pm, an, cdv, ct, osl, e, lk, hcd, hD, _⟩ := F.ex
  rcases hD with ⟨_, rfl⟩ | ⟨z, _⟩
  · exact ⟨⟨oc, od, kV, doc, pm, an, cdv, ct, osl, e, lk, hcd⟩, F.kp⟩
  · exact absurd rfl z
/-! what a made exception leaves -/
/-- the heap behind C(x), C's __init__ storing one field -/
def excH (H : Hp) (a dx C : Addr) (f : Str) (x : V) : Hp := upd (del (upd (upd (upd H a (exo a C none)) dx (exd dx [(f, x)])) a (exo a C (some dx))) a) dx (.xd [(f, x)])
theorem excH_at {H : Hp} {a dx C : Addr} {f : Str} {x : V} : excH H a dx C f x dx = some (.xd [(f, x)]) := upd_same
theorem excH_keep {H : Hp} {a dx C : Addr} {f : Str} {x : V} (ha : H a = none) (hd : H dx = none) {b : Addr} {o : HO} (h : H b = some o) : excH H a dx C f x b = some o := by
  unfold excH
  rw [upd_ne (ne_of_none h hd), del_ne (ne_of_none h ha), upd_ne (ne_of_none h ha), upd_ne (ne_of_none h hd), upd_ne (ne_of_none h ha)]
  exact h
abbrev lamQ : Str := ("law.<locals>." : Str) ++ ("<lambda>" : Str)
end L2
namespace L2
open PySem PySem.Spec PyProof.Rows He
/-! the head's facts, over a written part that holds the statics, too -/
def asY (g : Addr → Option Obj) (n : Nat) : List Addr := cStatics :: asD g n
def obsY (n : Nat) (fa : List Fa) (fn : List DefD) (ts : List Tab) (tf : List Defn) (ex : PySem.W.Frag → Bool) (g : Addr → Option Obj) : AlX := (obsT fa fn ts (frT g (asY g n)), ex (frT g (asY g n)) && tabsB g tf (frT g (asY g n)))
theorem saysY {n : Nat} {fa : List Fa} {fn : List DefD} {ts : List Tab} {tf : List Defn} {ex : PySem.W.Frag → Bool} {w : World} {h : Heap} (e : obsY n fa fn ts tf ex h.get? = valX fn ts w) : SaysX fa fn ts tf ex w h (frT h.get? (asY h.get? n)) := by
  have a1 : obsT fa fn ts (frT h.get? (asY h.get? n)) = valT fn ts w := congrArg (fun z : AlX => z.1) e
  have a2 : (ex (frT h.get? (asY h.get? n)) && tabsB h.get? tf (frT h.get? (asY h.get? n))) = true := congrArg (fun z : AlX => z.2) e
  obtain ⟨b1, b2⟩ := Bool.and_eq_true_iff.mp a2
  have each : ∀ p ∈ tf, PySem.W.codeHdIn (frT h.get? (asY h.get? n)) (cT (frT h.get? (asY h.get? n)) p).1 (cT (frT h.get? (asY h.get? n)) p).2 = true ∧ ∃ o, h.get? (cT (frT h.get? (asY h.get? n)) p).2 = some o ∧ emptyTab o = true := fun p hp => by
    obtain ⟨d1, d2⟩ := Bool.and_eq_true_iff.mp (List.all_eq_true.mp b2 p hp)
    refine ⟨d1, ?_⟩
    split at d2
    · exact ⟨_, by assumption, d2⟩
    · cases d2
  refine { t := a1, more := b1, hd := fun p hp => (each p hp).1, out := fun p hp => ?_, empty := fun p hp => ?_ }
  · obtain ⟨_, o, q, z⟩ := each p hp
    exact frT_none q z
  · obtain ⟨_, o, q, z⟩ := each p hp
    rw [q, emptyTab_eq z]
def hookY (n : Nat) (fa : List Fa) (fn : List DefD) (ts : List Tab) (tf : List Defn) (ex : PySem.W.Frag → Bool) : PySem.W.Hook where
  α := AlX
  obs s := obsY n fa fn ts tf ex s.heap.get?
  val w := valX fn ts w
  says w h := ∃ K : PySem.W.Frag, K.In h ∧ SaysX fa fn ts tf ex w h K
  of _ _ e := ⟨_, frT_in, saysY e⟩
  keeps _ _ _ := fun ⟨K, hK, c⟩ k => ⟨K, PySem.W.Frag.In.keeps hK k, { t := c.t, more := c.more, hd := c.hd, out := c.out, empty := fun p hp => k _ _ (c.empty p hp) }⟩
theorem obsY_eq {n : Nat} {fa : List Fa} {fn : List DefD} {ts : List Tab} {tf : List Defn} {ex : PySem.W.Frag → Bool} {g : Addr → Option Obj} {s : Shared} (h : ∀ a, g a = s.heap.get? a) : obsY n fa fn ts tf ex g = (hookY n fa fn ts tf ex).obs s := congrArg (obsY n fa fn ts tf ex) (funext h)
end L2
namespace L2
open PySem PySem.Spec PyProof.Rows PySem.SbE
/-- isinstance(e, (c1, c2, ..)), e the exception that the suite holds, with fields or without -/
def rIsAT (K : PySem.W.Frag) (cls : Value) (d : Option Addr) (a : Addr) : List V → Hp → VK → Prop := fun xs H Q => ∃ (D tp : Addr) (cs : List V) (us : List Value) (b : Bool), cls = .ref D ∧ ExcC K D ∧ xs = [.ref a, .ref tp] ∧ H tp = some (.tup cs) ∧ Paired ClsV cs us ∧ PySem.W.kitAny K (.ref D) us = some b ∧
  (d = none ∨ ∃ dd fs, d = some dd ∧ H dd = some (.xd fs)) ∧ Q (.bl b) H
theorem call_isAT {X : Cx} {a : Addr} {cls : Value} {d : Option Addr} {oe : Obj} {pn : List (Addr × Obj)} (hz : Zc cls d oe) (hf : ∃ vs, oe.data = .fields vs) : CallR (X.suite a ((a, oe) :: pn)) (.builtin "isinstance") (rIsAT X.K cls d a) := by
  intro pins s σ H xs us Q I r h
  obtain ⟨D, tp, cs, ws, b, ec, C, ex, hT, k, e, hd, q⟩ := h
  subst ec ex
  obtain ⟨u1, u2, rfl, r1, r2⟩ := vals2 r
  cases (show u1 = Value.ref a from r1)
  cases (show u2 = Value.ref tp from r2)
  obtain ⟨at_, _⟩ := I.pin (a, oe) (List.mem_append.mpr (.inl List.mem_cons_self))
  obtain ⟨vs, hv⟩ := hf
  have nc : PySem.W.notCls oe = true := by
    unfold PySem.W.notCls
    rw [hv] <;> rfl
  obtain ⟨od, J⟩ : ∃ od, PySem.W.InstAt s.heap a oe D od := by
    rcases hd with hd | ⟨dd, fs, hd, hx⟩
    · exact ⟨none, at_, hz.1, nc, by rw [hz.2, hd]; trivial⟩
    · have hok : ObjOk X.prog X.w H s.heap dd (.xd fs) := I.hok dd _ hx
      obtain ⟨mA, hns, _⟩ := hok
      obtain ⟨od, ho, _⟩ := lookIn_ns hns
      exact ⟨some od, at_, hz.1, nc, by rw [hz.2, hd]; exact ho⟩
  obtain ⟨_, its, rv, o, h1, h2, n, h3⟩ := (show ObjOk X.prog X.w H s.heap tp (.tup cs) from I.hok tp _ hT)
  have e3 := ClsV.all k rv
  subst e3
  obtain ⟨oc, od2, dt, sl⟩ := o
  simp only at h2 h3
  subst h2 h3
  exact PySem.W.kia_tup (kit_exc C.hg C.hk C.hs C.hd C.ha C.hn C.ht C.hm) I.kIn J h1 e (fun z => nomatch z) fun tk => ⟨.bl b, H, I.kept (t' := tk) fun _ _ z => z, rfl, q⟩
open Evl in
theorem ev_isAT {K : PySem.W.Frag} {σ : L2.St} {H : Hp} {ta : TE} {tb : TA} {a D dd : Addr} {fs : List (Str × V)} {cs : List V} {us : List Value} {b : Bool} (ha : Ev ta σ H (.ref a)) (hb : EvU (tTup tb) σ H cs) (ec : ExcC K D) (hk : Paired ClsV cs us) (hy : PySem.W.kitAny K (.ref D) us = some b) (hd : H dd = some (.xd fs)) :
    Ev (tCB (rIsAT K (.ref D) (some dd) a) (tCons ta (tCons (tTup tb) tNil))) σ H (.bl b) := fun H1 e Q q =>
  ha H1 e _ fun H2 e2 => hb H2 (e.trans e2) _ fun t H3 nt e3 ht => ⟨D, t, cs, us, b, rfl, ec, rfl, ht, hk, hy, .inr ⟨dd, fs, rfl, ((e.trans e2).trans e3) _ _ hd⟩, q H3 (e2.trans e3)⟩
end L2
/-! places that hang together by ends: by cuts, by groups joined, by going round -/
namespace Gr
abbrev Edges := List (Int × Int)
/-- no cut that leaves all ends whole parts the two -/
def Same (es : Edges) (a b : Int) : Prop := ∀ S : Int → Bool, (∀ e ∈ es, S e.1 = S e.2) → S a = S b
theorem Same.refl {es : Edges} (a : Int) : Same es a a := fun _ _ => rfl
theorem Same.symm {es : Edges} {a b : Int} (h : Same es a b) : Same es b a := fun S hS => (h S hS).symm
theorem Same.trans {es : Edges} {a b c : Int} (h : Same es a b) (g : Same es b c) : Same es a c := fun S hS => (h S hS).trans (g S hS)
theorem Same.edge {es : Edges} {e : Int × Int} (h : e ∈ es) : Same es e.1 e.2 := fun S hS => hS e h
theorem Same.mono {es fs : Edges} {a b : Int} (h : Same es a b) (g : ∀ e ∈ es, e ∈ fs) : Same fs a b := fun S hS => h S fun e he => hS e (g e he)
/-- the group of each place, once the groups of two are one -/
def join (g : Int → Int) (a b : Int) : Int → Int := fun p => if g p = g b then g a else g p
def joins (es : Edges) (g : Int → Int) : Int → Int := es.foldl (fun g e => join g e.1 e.2) g
theorem joins_snoc (es : Edges) (e : Int × Int) (g : Int → Int) : joins (es ++ [e]) g = join (joins es g) e.1 e.2 := by
  unfold joins
  rw [List.foldl_append]
  rfl
theorem joins_mem {es : Edges} (P : Int → Prop) {g : Int → Int} (h : ∀ p, P p → P (g p)) (he : ∀ e ∈ es, P e.1) : ∀ p, P p → P (joins es g p) := by
  induction es generalizing g with
  | nil => exact h
  | cons e es ih =>
    refine ih (g := join g e.1 e.2) (fun p hp => ?_) fun f hf => he f (.tail _ hf)
    unfold join
    split
    · exact h _ (he e (.head _))
    · exact h p hp
/-- one group just where no cut parts them: to be gone through from the last end on -/
theorem joins_same : ∀ (n : Nat) (es : Edges), es.length = n → ∀ p q, (joins es id p = joins es id q ↔ Same es p q)
  | 0, es, hl, p, q => by
    rw [List.length_eq_zero_iff.mp hl]
    refine ⟨fun h => ?_, fun h => ?_⟩
    · have h : p = q := h
      rw [h]
      exact .refl q
    · have := h (fun x => decide (x = p)) (fun e he => by simp at he)
      show p = q
      have : decide (p = p) = decide (q = p) := this
      rw [decide_eq_true rfl] at this
      exact (of_decide_eq_true this.symm).symm
  | n + 1, es, hl, p, q => by
    obtain ⟨fs, e, rfl⟩ : ∃ fs e, es = fs ++ [e] := by
      have hn : es ≠ [] := fun z => by rw [z] at hl; simp at hl
      exact ⟨es.dropLast, es.getLast hn, (List.dropLast_concat_getLast hn).symm⟩
    have ih := joins_same n fs (by rw [List.length_append] at hl; simp at hl; omega)
    have up : ∀ {a b}, Same fs a b → Same (fs ++ [e]) a b := fun h => h.mono fun e he => List.mem_append_left _ he
    have ed : Same (fs ++ [e]) e.1 e.2 := .edge (List.mem_append_right _ (List.mem_singleton_self _))
    rw [joins_snoc]
    have key : ∀ p q, joins fs id p = joins fs id q → join (joins fs id) e.1 e.2 p = join (joins fs id) e.1 e.2 q := fun p q h => by
      unfold join
      rw [h]
    refine ⟨fun h => ?_, fun h => ?_⟩
    · have side : ∀ p, Same (fs ++ [e]) p (if joins fs id p = joins fs id e.2 then e.1 else p) := fun p => by
        split
        · exact (up ((ih p e.2).mp ‹_›)).trans ed.symm
        · exact .refl p
      have lab : ∀ p, join (joins fs id) e.1 e.2 p = joins fs id (if joins fs id p = joins fs id e.2 then e.1 else p) := fun p => by
        unfold join
        split <;> rfl
      rw [lab, lab] at h
      exact ((side p).trans (up ((ih _ _).mp h))).trans (side q).symm
    · have := h (fun x => decide (join (joins fs id) e.1 e.2 x = join (joins fs id) e.1 e.2 p)) (fun f hf => by
        have : join (joins fs id) e.1 e.2 f.1 = join (joins fs id) e.1 e.2 f.2 := by
          rcases List.mem_append.mp hf with h | h
          · exact key _ _ ((ih _ _).mpr (.edge h))
          · rw [List.mem_singleton.mp h]
            unfold join
            rw [if_pos rfl]
            split <;> rfl
        simp only [this])
      simp only [decide_true] at this
      exact (of_decide_eq_true this.symm).symm
/-- at least so many groups are left: places told apart by their groups -/
theorem apart {m : Nat} : ∀ (n : Nat) (es : Edges), es.length = n → ∀ R0 : List Int, R0.Nodup → ∃ R : List Int, R.Nodup ∧ (∀ x ∈ R, x ∈ R0) ∧ R0.length ≤ R.length + n ∧ ∀ x ∈ R, ∀ y ∈ R, joins es id x = joins es id y → x = y
  | 0, es, hl, R0, h0 => by
    rw [List.length_eq_zero_iff.mp hl]
    exact ⟨R0, h0, fun _ h => h, Nat.le_refl _, fun x _ y _ h => h⟩
  | n + 1, es, hl, R0, h0 => by
    obtain ⟨fs, e, rfl⟩ : ∃ fs e, es = fs ++ [e] := by
      have hn : es ≠ [] := fun z => by rw [z] at hl; simp at hl
      exact ⟨es.dropLast, es.getLast hn, (List.dropLast_concat_getLast hn).symm⟩
    obtain ⟨R, h1, h2, h3, h4⟩ := apart (m := m) n fs (by rw [List.length_append] at hl; simp at hl; omega) R0 h0
    have hd : ∀ x ∈ R, joins fs id x = joins fs id e.2 → R.length ≤ (R.filter fun y => joins fs id y != joins fs id e.2).length + 1 := fun x hx hg => by
      have : ∀ (L : List Int), L.Nodup → (∀ y ∈ L, joins fs id y = joins fs id e.2 → y = x) → L.length ≤ (L.filter fun y => joins fs id y != joins fs id e.2).length + 1 := by
        intro L
        induction L with
        | nil => intro _ _; exact Nat.zero_le _
        | cons y L ih =>
          intro nd hy
          have nd2 := List.nodup_cons.mp nd
          by_cases c : joins fs id y = joins fs id e.2
          · have yx := hy y (.head _) c
            have e1 : L.filter (fun y => joins fs id y != joins fs id e.2) = L := List.filter_eq_self.mpr fun z hz => bne_iff_ne.mpr fun q => nd2.1 (by rw [yx, ← hy z (.tail _ hz) q]; exact hz)
            rw [List.filter_cons_of_neg (by simpa using c), e1]
            exact Nat.le_refl _
          · rw [List.filter_cons_of_pos (by simpa using c), List.length_cons, List.length_cons]
            have := ih nd2.2 fun z hz => hy z (.tail _ hz)
            omega
      exact this R h1 fun y hy q => h4 y hy x hx (q.trans hg.symm)
    refine ⟨R.filter fun y => joins fs id y != joins fs id e.2, h1.filter _, fun x hx => h2 x (List.mem_filter.mp hx).1, ?_, fun x hx y hy h => ?_⟩
    · by_cases c : ∃ x ∈ R, joins fs id x = joins fs id e.2
      · obtain ⟨x, hx, hg⟩ := c
        have := hd x hx hg
        omega
      · have e1 : R.filter (fun y => joins fs id y != joins fs id e.2) = R := List.filter_eq_self.mpr fun z hz => bne_iff_ne.mpr fun q => c ⟨z, hz, q⟩
        rw [e1]
        omega
    · obtain ⟨x1, x2⟩ := List.mem_filter.mp hx
      obtain ⟨y1, y2⟩ := List.mem_filter.mp hy
      rw [joins_snoc] at h
      unfold join at h
      rw [if_neg (bne_iff_ne.mp x2), if_neg (bne_iff_ne.mp y2)] at h
      exact h4 x x1 y y1 h
/-- where all places of a list hang together there are at least as many ends, less one -/
theorem ends_many {es : Edges} {R0 : List Int} (nd : R0.Nodup) (h : ∀ a ∈ R0, ∀ b ∈ R0, Same es a b) : R0.length ≤ es.length + 1 := by
  obtain ⟨R, h1, h2, h3, h4⟩ := apart (m := 0) es.length es rfl R0 nd
  have : R.length ≤ 1 := by
    match R, h1, h2, h4 with
    | [], _, _, _ => exact Nat.zero_le _
    | [_], _, _, _ => exact Nat.le_refl _
    | x :: y :: l, h1, h2, h4 =>
      have := h4 x (.head _) y (.tail _ (.head _)) ((joins_same es.length es rfl x y).mpr (h x (h2 x (.head _)) y (h2 y (.tail _ (.head _)))))
      rw [this] at h1
      exact absurd (List.mem_cons_self) (List.nodup_cons.mp h1).1
  omega
/-- in a tree no end closes a round with those ahead of it -/
theorem no_round {es : Edges} {R0 : List Int} {i : Nat} {e : Int × Int} (nd : R0.Nodup) (h : ∀ a ∈ R0, ∀ b ∈ R0, Same es a b) (hl : es.length + 1 = R0.length) (hi : es[i]? = some e) : ¬ Same (es.take i) e.1 e.2 := fun z => by
  have hlt := (List.getElem?_eq_some_iff.mp hi).1
  have all : ∀ a b, Same es a b → Same (es.take i ++ es.drop (i + 1)) a b := fun a b g S hS => g S fun f hf => by
    have hf2 : f ∈ es.take i ++ e :: es.drop (i + 1) := by
      have : es.take i ++ e :: es.drop (i + 1) = es := by
        rw [← (List.getElem?_eq_some_iff.mp hi).2, ← List.drop_eq_getElem_cons hlt, List.take_append_drop]
      rw [this]
      exact hf
    rcases List.mem_append.mp hf2 with q | q
    · exact hS f (List.mem_append_left _ q)
    · rcases List.mem_cons.mp q with rfl | q
      · exact z S fun f hf => hS f (List.mem_append_left _ hf)
      · exact hS f (List.mem_append_right _ q)
  have := ends_many (es := es.take i ++ es.drop (i + 1)) nd fun a ha b hb => all a b (h a ha b hb)
  rw [List.length_append, List.length_take, List.length_drop] at this
  omega
/-! ### going round -/
/-- what a look at an end adds to what is found -/
def look (e : Int × Int) (F : List Int) : List Int :=
  let G := if F.contains e.1 && !F.contains e.2 then F ++ [e.2] else F
  if G.contains e.2 && !G.contains e.1 then G ++ [e.1] else G
def turn (es : Edges) (F : List Int) : List Int := es.foldl (fun F e => look e F) F
def turns (es : Edges) (F : List Int) : Nat → List Int
  | 0 => F
  | n + 1 => turn es (turns es F n)
theorem look_sub {e : Int × Int} {F : List Int} {x : Int} (h : x ∈ F) : x ∈ look e F := by
  unfold look
  by_cases c1 : e.1 ∈ F <;> by_cases c2 : e.2 ∈ F <;> simp [c1, c2, h]
theorem look_both {e : Int × Int} {F : List Int} (h : e.1 ∈ F ∨ e.2 ∈ F) : e.1 ∈ look e F ∧ e.2 ∈ look e F := by
  unfold look
  by_cases c1 : e.1 ∈ F <;> by_cases c2 : e.2 ∈ F
  · simp [c1, c2]
  · simp [c1, c2]
  · simp [c1, c2]
  · exact absurd h (by simp [c1, c2])
theorem look_mem {e : Int × Int} {F : List Int} {x : Int} (h : x ∈ look e F) : x ∈ F ∨ (x = e.2 ∧ e.1 ∈ F) ∨ (x = e.1 ∧ e.2 ∈ F) := by
  unfold look at h
  by_cases c1 : e.1 ∈ F <;> by_cases c2 : e.2 ∈ F
  · simp [c1, c2] at h
    exact .inl h
  · simp [c1, c2] at h
    rcases h with h | h
    · exact .inl h
    · exact .inr (.inl ⟨h, c1⟩)
  · simp [c1, c2] at h
    rcases h with h | h
    · exact .inl h
    · exact .inr (.inr ⟨h, c2⟩)
  · simp [c1, c2] at h
    exact .inl h
theorem turn_sub {x : Int} : ∀ {es : Edges} {F : List Int}, x ∈ F → x ∈ turn es F
  | [], _, h => h
  | e :: es, F, h => turn_sub (es := es) (F := look e F) (look_sub h)
theorem turn_both {e : Int × Int} : ∀ {es : Edges} {F : List Int}, e ∈ es → (e.1 ∈ F ∨ e.2 ∈ F) → e.1 ∈ turn es F ∧ e.2 ∈ turn es F
  | f :: es, F, h, g => by
    rcases List.mem_cons.mp h with rfl | h
    · have := look_both g
      exact ⟨turn_sub (es := es) this.1, turn_sub (es := es) this.2⟩
    · exact turn_both (es := es) (F := look f F) h (g.imp look_sub look_sub)
theorem turn_same {p : Int} {fs : Edges} : ∀ {es : Edges} {F : List Int}, (∀ e ∈ es, e ∈ fs) → (∀ x ∈ F, Same fs p x) → ∀ x ∈ turn es F, Same fs p x
  | [], _, _, h => h
  | e :: es, F, hs, h => turn_same (es := es) (F := look e F) (fun f hf => hs f (.tail _ hf)) fun x hx => by
    rcases look_mem hx with q | ⟨rfl, q⟩ | ⟨rfl, q⟩
    · exact h x q
    · exact (h _ q).trans (.edge (hs e (.head _)))
    · exact (h _ q).trans (Same.edge (hs e (.head _))).symm
theorem turns_same {p : Int} {es : Edges} : ∀ n, ∀ x ∈ turns es [p] n, Same es p x
  | 0, x, hx => by
    rw [List.mem_singleton.mp hx]
    exact .refl p
  | n + 1, x, hx => turn_same (es := es) (F := turns es [p] n) (fun _ h => h) (turns_same n) x hx
def Closed (es : Edges) (F : List Int) : Prop := ∀ e ∈ es, (e.1 ∈ F ↔ e.2 ∈ F)
theorem look_closed {e : Int × Int} {F : List Int} (h : e.1 ∈ F ↔ e.2 ∈ F) : look e F = F := by
  unfold look
  by_cases c : e.1 ∈ F
  · have := h.mp c
    simp [c, this]
  · have : ¬ e.2 ∈ F := fun z => c (h.mpr z)
    simp [c, this]
theorem turn_closed : ∀ {es : Edges} {F : List Int}, Closed es F → turn es F = F
  | [], _, _ => rfl
  | e :: es, F, h => by
    show turn es (look e F) = F
    rw [look_closed (h e (.head _))]
    exact turn_closed fun f hf => h f (.tail _ hf)
def un (F : List Int) (e : Int × Int) : Bool := !(F.contains e.1 && F.contains e.2)
def unused (es : Edges) (F : List Int) : Nat := (es.filter (un F)).length
theorem neg_ok {F : List Int} {f : Int × Int} (c : ¬ (f.1 ∈ F ∧ f.2 ∈ F)) : un F f = true := by
  unfold un
  cases h : (F.contains f.1 && F.contains f.2) with
  | false => rfl
  | true => exact absurd (by simpa using h) c
theorem neg_no {F : List Int} {f : Int × Int} (c : f.1 ∈ F ∧ f.2 ∈ F) : ¬ un F f = true := by simp [un, c.1, c.2]
theorem unused_le {fs : Edges} {F G : List Int} (h : ∀ x ∈ F, x ∈ G) : unused fs G ≤ unused fs F := by
  unfold unused
  refine List.Sublist.length_le ?_
  induction fs with
  | nil => exact .slnil
  | cons f fs ih =>
    by_cases c : f.1 ∈ F ∧ f.2 ∈ F
    · rw [List.filter_cons_of_neg (neg_no ⟨h _ c.1, h _ c.2⟩), List.filter_cons_of_neg (neg_no c)]
      exact ih
    · by_cases d : f.1 ∈ G ∧ f.2 ∈ G
      · rw [List.filter_cons_of_neg (neg_no d)]
        exact .trans ih (by rw [List.filter_cons_of_pos (neg_ok c)]; exact List.sublist_cons_self _ _)
      · rw [List.filter_cons_of_pos (neg_ok d), List.filter_cons_of_pos (neg_ok c)]
        exact ih.cons₂ _
theorem unused_lt {F G : List Int} {e : Int × Int} (h : ∀ x ∈ F, x ∈ G) (h1 : ¬ (e.1 ∈ F ∧ e.2 ∈ F)) (h2 : e.1 ∈ G ∧ e.2 ∈ G) : ∀ {fs : Edges}, e ∈ fs → unused fs G < unused fs F
  | f :: fs, he => by
    rcases List.mem_cons.mp he with rfl | he
    · have := unused_le (fs := fs) h
      unfold unused at this ⊢
      rw [List.filter_cons_of_neg (neg_no h2), List.filter_cons_of_pos (neg_ok h1), List.length_cons]
      omega
    · have ih := unused_lt h h1 h2 he
      unfold unused at ih ⊢
      by_cases c : f.1 ∈ F ∧ f.2 ∈ F
      · have a := h _ c.1
        have b := h _ c.2
        rw [List.filter_cons_of_neg (neg_no ⟨a, b⟩), List.filter_cons_of_neg (neg_no c)]
        exact ih
      · by_cases d : f.1 ∈ G ∧ f.2 ∈ G
        · rw [List.filter_cons_of_neg (neg_no d), List.filter_cons_of_pos (neg_ok c), List.length_cons]
          omega
        · rw [List.filter_cons_of_pos (neg_ok d), List.filter_cons_of_pos (neg_ok c), List.length_cons, List.length_cons]
          omega
theorem turns_closed {es : Edges} {F : List Int} : ∀ n, Closed es (turns es F n) ∨ unused es (turns es F n) + n ≤ es.length
  | 0 => .inr (by
    show (es.filter _).length + 0 ≤ es.length
    exact List.length_filter_le _ _)
  | n + 1 => by
    rcases turns_closed (es := es) (F := F) n with h | h
    · left
      show Closed es (turn es (turns es F n))
      rw [turn_closed h]
      exact h
    · by_cases c : Closed es (turns es F n)
      · left
        show Closed es (turn es (turns es F n))
        rw [turn_closed c]
        exact c
      · right
        have ⟨e, he⟩ := Classical.not_forall.mp c
        obtain ⟨he, hne⟩ := Classical.not_imp.mp he
        have h1 : ¬ (e.1 ∈ turns es F n ∧ e.2 ∈ turns es F n) := fun z => hne ⟨fun _ => z.2, fun _ => z.1⟩
        have h0 : e.1 ∈ turns es F n ∨ e.2 ∈ turns es F n := by
          apply Classical.byContradiction
          intro z
          exact hne ⟨fun q => absurd (.inl q) z, fun q => absurd (.inr q) z⟩
        have := unused_lt (G := turn es (turns es F n)) (fun x hx => turn_sub hx) h1 (turn_both he h0) he
        show unused es (turn es (turns es F n)) + (n + 1) ≤ es.length
        omega
/-- what the law finds by going round as often as there are ends -/
theorem turns_all {es : Edges} {p x : Int} : x ∈ turns es [p] es.length ↔ Same es p x := by
  refine ⟨turns_same _ x, fun h => ?_⟩
  have hp : ∀ n, p ∈ turns es [p] n := fun n => by
    induction n with
    | zero => exact List.mem_singleton_self _
    | succ n ih => exact turn_sub ih
  have hc : Closed es (turns es [p] es.length) := by
    rcases turns_closed (es := es) (F := [p]) es.length with h | h
    · exact h
    · intro e he
      have z : unused es (turns es [p] es.length) = 0 := by omega
      unfold unused at z
      have := List.filter_eq_nil_iff.mp (List.length_eq_zero_iff.mp z) e he
      simp [un] at this
      exact ⟨fun _ => this.2, fun _ => this.1⟩
  have := h (fun y => decide (y ∈ turns es [p] es.length)) fun e he => by
    have := hc e he
    simp only [this]
  simp only [hp, decide_true] at this
  exact of_decide_eq_true this.symm
end Gr
namespace Gr
def add (F : List Int) (a b : Int) : List Int := if F.contains a && !F.contains b then F ++ [b] else F
theorem look_add (e : Int × Int) (F : List Int) : look e F = add (add F e.1 e.2) e.2 e.1 := rfl
theorem add_len {F : List Int} {a b : Int} : (add F a b).length ≤ F.length + 1 := by
  unfold add
  split
  · rw [List.length_append, List.length_singleton]
    omega
  · omega
theorem turn_len : ∀ {es : Edges} {F : List Int}, (turn es F).length ≤ F.length + 2 * es.length
  | [], _ => Nat.le_refl _
  | e :: es, F => by
    have h1 := turn_len (es := es) (F := look e F)
    have h2 : (look e F).length ≤ F.length + 2 := by
      rw [look_add]
      exact Nat.le_trans add_len (Nat.add_le_add_right add_len 1)
    show (turn es (look e F)).length ≤ _
    rw [List.length_cons]
    omega
theorem turns_len {es : Edges} {F : List Int} : ∀ n, (turns es F n).length ≤ F.length + n * (2 * es.length)
  | 0 => by rw [Nat.zero_mul]; exact Nat.le_refl _
  | n + 1 => by
    have h1 := turns_len (es := es) (F := F) n
    have h2 := turn_len (es := es) (F := turns es F n)
    show (turn es (turns es F n)).length ≤ _
    rw [Nat.add_mul, Nat.one_mul]
    omega
end Gr
/-! all lists of choices, of any things -/
namespace LsA
open PySem PySem.Spec PyProof.Rows
open L2
variable {α : Type}
def grow (told : List (List α)) (some : List α) : List (List α) := told.flatMap fun a => some.map fun o => a ++ [o]
def allL (cs : List (List α)) : List (List α) := cs.foldl grow [[]]
theorem allL_snoc (cs : List (List α)) (c : List α) : allL (cs ++ [c]) = grow (allL cs) c := by
  unfold allL
  rw [List.foldl_append]
  rfl
theorem grow_len (told : List (List α)) (some : List α) : (grow told some).length = told.length * some.length := by
  unfold grow
  induction told with
  | nil => simp
  | cons a told ih => rw [List.flatMap_cons, List.length_append, ih, List.length_map, List.length_cons, Nat.add_mul, Nat.one_mul, Nat.add_comm]
theorem allL_len {b : Nat} {cs : List (List α)} (h : ∀ c ∈ cs, c.length ≤ b) : (allL cs).length ≤ b ^ cs.length := by
  have key : ∀ (n : Nat) (cs : List (List α)), cs.length = n → (∀ c ∈ cs, c.length ≤ b) → (allL cs).length ≤ b ^ n := by
    intro n
    induction n with
    | zero =>
      intro cs hl _
      rw [List.length_eq_zero_iff.mp hl]
      exact Nat.le_refl _
    | succ n ih =>
      intro cs hl h
      have ne : cs ≠ [] := fun z => by rw [z] at hl; cases hl
      have e := (List.dropLast_concat_getLast ne).symm
      rw [e] at hl h ⊢
      rw [List.length_append] at hl
      rw [allL_snoc, grow_len, Nat.pow_succ]
      exact Nat.mul_le_mul (ih _ (by simp at hl ⊢; omega) fun c hc => h c (List.mem_append_left _ hc)) (h _ (List.mem_append_right _ (List.mem_singleton_self _)))
  exact key _ cs rfl h
theorem allL_each : ∀ (n : Nat) (cs : List (List α)), cs.length = n → ∀ z ∈ allL cs, Paired (fun (y : α) (c : List α) => y ∈ c) z cs := by
  intro n
  induction n with
  | zero =>
    intro cs hl z hz
    rw [List.length_eq_zero_iff.mp hl] at hz ⊢
    rw [show allL [] = [[]] from rfl] at hz
    rw [List.mem_singleton.mp hz]
    exact .nil
  | succ n ih =>
    intro cs hl z hz
    have ne : cs ≠ [] := fun z => by rw [z] at hl; cases hl
    have e := (List.dropLast_concat_getLast ne).symm
    rw [e] at hl hz ⊢
    rw [List.length_append] at hl
    rw [allL_snoc] at hz
    unfold grow at hz
    obtain ⟨a, ha, hz⟩ := List.mem_flatMap.mp hz
    obtain ⟨o, ho, rfl⟩ := List.mem_map.mp hz
    exact Paired.snoc (ih _ (by simp at hl ⊢; omega) a ha) ho
end LsA
/-! xs[j] += e, xs a list -/
namespace AgL
open PySem PySem.Spec PyProof.Rows L2 HT
def rGetL (K : PySem.W.Frag) : V → V → Hp → VK → Prop := fun x y H Q => ∃ p xs j z, x = .ref p ∧ y = .int ((j : Nat) : Int) ∧ SqL K H p xs ∧ xs[j]? = some z ∧ Q z H
theorem get_list {X : Cx} : PGet X (rGetL X.K) := by
  intro pn s sl G x y v u R J rx ry told
  obtain ⟨p, xs, j, z, rfl, rfl, hq, he, fin⟩ := told
  cases rx
  obtain ⟨t, rfl⟩ := ry
  obtain ⟨its, r, pl, hz⟩ := J.list hq
  obtain ⟨w, ew, rw'⟩ := r.get he
  have hl := r.length
  have hn := line63
  have hj := (List.getElem?_eq_some_iff.mp he).1
  exact wpAny_getItem_list pl.isList (Int.natCast_nonneg j) (by omega) (by simpa using ew) ⟨z, G, J, rw', fin⟩
end AgL
/-! try .. except, where the body raises nothing: the clauses are never looked at -/
namespace TryC
open PySem PySem.Spec PyProof.Rows L2
theorem ps_try_calm {X : Cx} {body : List Stmt} {h₀ : ExceptHandler} {hds : List ExceptHandler} {pos : Pos} {tb : TS} (hb : ∀ (pn : List (Addr × Obj)) (xe : Value → Shared → Prop), PSs (X.tr pn xe) body tb) : PS X (.Try body (h₀ :: hds) [] [] pos) tb := by
  refine ⟨fun pn s sl G D J told => wpAny_Try_except ?_⟩
  have good := J.ok
  refine wpAny_mono ((hb (X.pn ++ pn) fun _ _ => False).run [] s sl G D (J.toTry _) told) (fun fl s1 out => ?_) (fun _ _ no => (show False from no).elim)
  cases fl with
  | next =>
    obtain ⟨a, b, c, d⟩ := out
    exact wpAny_execs_nil ⟨a, b, c.ofTry good, d⟩
  | brk =>
    obtain ⟨a, b, c, d⟩ := out
    exact ⟨a, b, c.ofTry good, d⟩
  | cont =>
    obtain ⟨a, b, c, d⟩ := out
    exact ⟨a, b, c.ofTry good, d⟩
  | ret u =>
    obtain ⟨v, a, b, c, r, d⟩ := out
    exact ⟨v, a, b, c.ofTry good, r, d⟩
end TryC
namespace SbE57
open PySem PySem.Spec PyProof.Rows L2 Evl HT LamX PySem.SbE
/-! ### the text -/
def topS (i : Nat) : Stmt := PySem.Challenge.pw_signbook_k57_more_rows_than_nets_are_sou.main.body.getD i (.Pass ⟨0, 0, 0, 0⟩)
def clsB : Stmt → List Stmt
  | .ClassDef (body := b) .. => b
  | _ => []
abbrev s_init_NoTree : Stmt := (clsB (topS 3)).getD 0 (.Pass ⟨0, 0, 0, 0⟩)
theorem sc_init_NoTree : FnScope ["self", "at"] ["self", "at"] (defScope s_init_NoTree) := ⟨rfl, rfl, rfl, by decide +kernel, rfl, by decide +kernel, by decide +kernel⟩
abbrev s_init_NoArcs : Stmt := (clsB (topS 4)).getD 0 (.Pass ⟨0, 0, 0, 0⟩)
theorem sc_init_NoArcs : FnScope ["self", "at"] ["self", "at"] (defScope s_init_NoArcs) := ⟨rfl, rfl, rfl, by decide +kernel, rfl, by decide +kernel, by decide +kernel⟩
abbrev s_init_TooMany : Stmt := (clsB (topS 5)).getD 0 (.Pass ⟨0, 0, 0, 0⟩)
theorem sc_init_TooMany : FnScope ["self", "many"] ["self", "many"] (defScope s_init_TooMany) := ⟨rfl, rfl, rfl, by decide +kernel, rfl, by decide +kernel, by decide +kernel⟩
abbrev s_is_whole : Stmt := topS 7
theorem sc_is_whole : FnScope ["thing"] ["thing"] (defScope s_is_whole) := ⟨rfl, rfl, rfl, by decide +kernel, rfl, by decide +kernel, by decide +kernel⟩
abbrev s_all_lists : Stmt := topS 9
theorem sc_all_lists : FnScope ["choices", "told", "some", "ahead", "one"] ["choices"] (defScope s_all_lists) := ⟨rfl, rfl, rfl, by decide +kernel, rfl, by decide +kernel, by decide +kernel⟩
abbrev s_is_table : Stmt := topS 12
theorem sc_is_table : FnScope ["thing", "row"] ["thing"] (defScope s_is_table) := ⟨rfl, rfl, rfl, by decide +kernel, rfl, by decide +kernel, by decide +kernel⟩
abbrev s_is_row : Stmt := topS 13
theorem sc_is_row : FnScope ["thing", "entry"] ["thing"] (defScope s_is_row) := ⟨rfl, rfl, rfl, by decide +kernel, rfl, by decide +kernel, by decide +kernel⟩
abbrev s_check_table : Stmt := topS 14
theorem sc_check_table : FnScope ["thing"] ["thing"] (defScope s_check_table) := ⟨rfl, rfl, rfl, by decide +kernel, rfl, by decide +kernel, by decide +kernel⟩
abbrev s_is_place : Stmt := topS 15
theorem sc_is_place : FnScope ["thing", "many"] ["thing", "many"] (defScope s_is_place) := ⟨rfl, rfl, rfl, by decide +kernel, rfl, by decide +kernel, by decide +kernel⟩
abbrev s_turned : Stmt := topS 16
theorem sc_turned : FnScope ["table", "at", "row"] ["table"] (defScope s_turned) := ⟨rfl, rfl, rfl, by decide +kernel, rfl, by decide +kernel, by decide +kernel⟩
abbrev s_net_table : Stmt := topS 19
theorem sc_net_table : FnScope ["ends", "arcs", "told", "at", "sides", "start", "stop"] ["ends", "arcs"] (defScope s_net_table) := ⟨rfl, rfl, rfl, by decide +kernel, rfl, by decide +kernel, by decide +kernel⟩
abbrev s_check_ends : Stmt := topS 20
theorem sc_check_ends : FnScope ["thing", "groups", "at", "end"] ["thing"] (defScope s_check_ends) := ⟨rfl, rfl, rfl, by decide +kernel, rfl, by decide +kernel, by decide +kernel⟩
abbrev s_check_arcs : Stmt := topS 21
theorem sc_check_arcs : FnScope ["thing", "many", "at", "arc"] ["thing", "many"] (defScope s_check_arcs) := ⟨rfl, rfl, rfl, by decide +kernel, rfl, by decide +kernel, by decide +kernel⟩
abbrev s_is_arc : Stmt := topS 22
theorem sc_is_arc : FnScope ["thing", "many", "place"] ["thing", "many"] (defScope s_is_arc) := ⟨rfl, rfl, rfl, by decide +kernel, rfl, by decide +kernel, by decide +kernel⟩
abbrev s_joined : Stmt := topS 23
theorem sc_joined : FnScope ["groups", "one", "other", "group"] ["groups", "one", "other"] (defScope s_joined) := ⟨rfl, rfl, rfl, by decide +kernel, rfl, by decide +kernel, by decide +kernel⟩
abbrev s_first_side : Stmt := topS 24
theorem sc_first_side : FnScope ["ends", "at", "groups", "start", "stop", "_", "group"] ["ends", "at"] (defScope s_first_side) := ⟨rfl, rfl, rfl, by decide +kernel, rfl, by decide +kernel, by decide +kernel⟩
abbrev s_as_net : Stmt := topS 25
theorem sc_as_net : FnScope ["table", "columns", "ends", "column"] ["table"] (defScope s_as_net) := ⟨rfl, rfl, rfl, by decide +kernel, rfl, by decide +kernel, by decide +kernel⟩
abbrev s_tree_for : Stmt := topS 26
theorem sc_tree_for : FnScope ["columns", "many", "ends", "grown", "found", "column"] ["columns", "many", "ends"] (defScope s_tree_for) := ⟨rfl, rfl, rfl, by decide +kernel, rfl, by decide +kernel, by decide +kernel⟩
abbrev s_all_grown : Stmt := topS 27
theorem sc_all_grown : FnScope ["ends", "new", "told", "place", "choices", "end", "grown"] ["ends"] (defScope s_all_grown) := ⟨rfl, rfl, rfl, by decide +kernel, rfl, by decide +kernel, by decide +kernel⟩
abbrev s_moved : Stmt := topS 28
theorem sc_moved : FnScope ["end", "place", "new", "start", "stop"] ["end", "place", "new"] (defScope s_moved) := ⟨rfl, rfl, rfl, by decide +kernel, rfl, by decide +kernel, by decide +kernel⟩
abbrev s_arc_for : Stmt := topS 29
theorem sc_arc_for : FnScope ["ends", "column", "over", "start", "stop", "entry", "rest", "_", "many"] ["ends", "column"] (defScope s_arc_for) := ⟨rfl, rfl, rfl, by decide +kernel, rfl, by decide +kernel, by decide +kernel⟩
abbrev s_is_net : Stmt := topS 30
theorem sc_is_net : FnScope ["table", "thing", "word", "ends", "arcs", "told"] ["table", "thing"] (defScope s_is_net) := ⟨rfl, rfl, rfl, by decide +kernel, rfl, by decide +kernel, by decide +kernel⟩
abbrev s__law_source_of : Stmt := topS 32
theorem sc__law_source_of : FnScope ["_law_cell"] ["_law_cell"] (defScope s__law_source_of) := ⟨rfl, rfl, rfl, by decide +kernel, rfl, by decide +kernel, by decide +kernel⟩
abbrev s__law_next : Stmt := topS 33
theorem sc__law_next : FnScope ["_law_source", "_law_many", "_law_found", "_law_prime", "_law_figure"] ["_law_source", "_law_many"] (defScope s__law_next) := ⟨rfl, rfl, rfl, by decide +kernel, rfl, by decide +kernel, by decide +kernel⟩
abbrev s__law_cell_at : Stmt := topS 34
theorem sc__law_cell_at : FnScope ["_law_script", "_law_k"] ["_law_script", "_law_k"] (defScope s__law_cell_at) := ⟨rfl, rfl, rfl, by decide +kernel, rfl, by decide +kernel, by decide +kernel⟩
abbrev s__law_mixed : Stmt := topS 35
theorem sc__law_mixed : FnScope ["_law_source", "_law_some", "_law_left", "_law_found"] ["_law_source", "_law_some"] (defScope s__law_mixed) := ⟨rfl, rfl, rfl, by decide +kernel, rfl, by decide +kernel, by decide +kernel⟩
abbrev s__law_ends : Stmt := topS 36
theorem sc__law_ends : FnScope ["_law_source", "_law_many", "_law_places", "_law_found", "_law_k", "_law_two"] ["_law_source", "_law_many"] (defScope s__law_ends) := ⟨rfl, rfl, rfl, by decide +kernel, rfl, by decide +kernel, by decide +kernel⟩
abbrev s__law_net : Stmt := topS 37
theorem sc__law_net : FnScope ["_law_ends_here", "_law_arcs", "_law_far", "_law_k", "_law_begin", "_law_goal", "_law_step", "_law_other", "_law_a", "_law_b"] ["_law_ends_here", "_law_arcs"] (defScope s__law_net) := ⟨rfl, rfl, rfl, by decide +kernel, rfl, by decide +kernel, by decide +kernel⟩
abbrev s__law_said : Stmt := topS 38
theorem sc__law_said : FnScope ["_law_table", "_law_found", "e"] ["_law_table"] (defScope s__law_said) := ⟨rfl, rfl, rfl, by decide +kernel, rfl, by decide +kernel, by decide +kernel⟩
abbrev s__law_named : Stmt := topS 39
theorem sc__law_named : FnScope ["_law_some", "_law_one", "_law_two", "_law_names", "_law_begin", "_law_goal"] ["_law_some", "_law_one", "_law_two"] (defScope s__law_named) := ⟨rfl, rfl, rfl, by decide +kernel, rfl, by decide +kernel, by decide +kernel⟩
abbrev s_law : Stmt := topS 40
theorem sc_law : FnScope ["_law_script", "_law_cell", "_law_source", "_law_many", "_law_ends_here", "_law_arcs", "_law_table", "_law_one", "_law_two", "_law_other", "_law_half", "_law_backward", "_law_k", "_law_arc"] ["_law_script"] (defScope s_law) := ⟨rfl, rfl, rfl, by decide +kernel, rfl, by decide +kernel, by decide +kernel⟩
/-- what the top has written -/
structure Txt (K : PySem.W.Frag) (mg : Str → Option Value) where
  f_init_NoTree : Addr
  fd_init_NoTree : FuncData
  F_init_NoTree : Fun K "__init__" "NoTree.__init__" s_init_NoTree f_init_NoTree fd_init_NoTree
  b_init_NoTree : Binds K fd_init_NoTree ["self", "at"] []
  f_init_NoArcs : Addr
  fd_init_NoArcs : FuncData
  F_init_NoArcs : Fun K "__init__" "NoArcs.__init__" s_init_NoArcs f_init_NoArcs fd_init_NoArcs
  b_init_NoArcs : Binds K fd_init_NoArcs ["self", "at"] []
  f_init_TooMany : Addr
  fd_init_TooMany : FuncData
  F_init_TooMany : Fun K "__init__" "TooMany.__init__" s_init_TooMany f_init_TooMany fd_init_TooMany
  b_init_TooMany : Binds K fd_init_TooMany ["self", "many"] []
  f_is_whole : Addr
  fd_is_whole : FuncData
  F_is_whole : Fun K "is_whole" "is_whole" s_is_whole f_is_whole fd_is_whole
  g_is_whole : mg "is_whole" = some (.ref f_is_whole)
  k_is_whole : PySem.W.keepIn K (.ref f_is_whole) = true
  b_is_whole : Binds K fd_is_whole ["thing"] []
  f_all_lists : Addr
  fd_all_lists : FuncData
  F_all_lists : Fun K "all_lists" "all_lists" s_all_lists f_all_lists fd_all_lists
  g_all_lists : mg "all_lists" = some (.ref f_all_lists)
  k_all_lists : PySem.W.keepIn K (.ref f_all_lists) = true
  b_all_lists : Binds K fd_all_lists ["choices"] []
  f_is_table : Addr
  fd_is_table : FuncData
  F_is_table : Fun K "is_table" "is_table" s_is_table f_is_table fd_is_table
  g_is_table : mg "is_table" = some (.ref f_is_table)
  k_is_table : PySem.W.keepIn K (.ref f_is_table) = true
  b_is_table : Binds K fd_is_table ["thing"] []
  f_is_row : Addr
  fd_is_row : FuncData
  F_is_row : Fun K "is_row" "is_row" s_is_row f_is_row fd_is_row
  g_is_row : mg "is_row" = some (.ref f_is_row)
  k_is_row : PySem.W.keepIn K (.ref f_is_row) = true
  b_is_row : Binds K fd_is_row ["thing"] []
  f_check_table : Addr
  fd_check_table : FuncData
  F_check_table : Fun K "check_table" "check_table" s_check_table f_check_table fd_check_table
  g_check_table : mg "check_table" = some (.ref f_check_table)
  k_check_table : PySem.W.keepIn K (.ref f_check_table) = true
  b_check_table : Binds K fd_check_table ["thing"] []
  f_is_place : Addr
  fd_is_place : FuncData
  F_is_place : Fun K "is_place" "is_place" s_is_place f_is_place fd_is_place
  g_is_place : mg "is_place" = some (.ref f_is_place)
  k_is_place : PySem.W.keepIn K (.ref f_is_place) = true
  b_is_place : Binds K fd_is_place ["thing", "many"] []
  f_turned : Addr
  fd_turned : FuncData
  F_turned : Fun K "turned" "turned" s_turned f_turned fd_turned
  g_turned : mg "turned" = some (.ref f_turned)
  k_turned : PySem.W.keepIn K (.ref f_turned) = true
  b_turned : Binds K fd_turned ["table"] []
  f_net_table : Addr
  fd_net_table : FuncData
  F_net_table : Fun K "net_table" "net_table" s_net_table f_net_table fd_net_table
  g_net_table : mg "net_table" = some (.ref f_net_table)
  k_net_table : PySem.W.keepIn K (.ref f_net_table) = true
  b_net_table : Binds K fd_net_table ["ends", "arcs"] []
  f_check_ends : Addr
  fd_check_ends : FuncData
  F_check_ends : Fun K "check_ends" "check_ends" s_check_ends f_check_ends fd_check_ends
  g_check_ends : mg "check_ends" = some (.ref f_check_ends)
  k_check_ends : PySem.W.keepIn K (.ref f_check_ends) = true
  b_check_ends : Binds K fd_check_ends ["thing"] []
  f_check_arcs : Addr
  fd_check_arcs : FuncData
  F_check_arcs : Fun K "check_arcs" "check_arcs" s_check_arcs f_check_arcs fd_check_arcs
  g_check_arcs : mg "check_arcs" = some (.ref f_check_arcs)
  k_check_arcs : PySem.W.keepIn K (.ref f_check_arcs) = true
  b_check_arcs : Binds K fd_check_arcs ["thing", "many"] []
  f_is_arc : Addr
  fd_is_arc : FuncData
  F_is_arc : Fun K "is_arc" "is_arc" s_is_arc f_is_arc fd_is_arc
  g_is_arc : mg "is_arc" = some (.ref f_is_arc)
  k_is_arc : PySem.W.keepIn K (.ref f_is_arc) = true
  b_is_arc : Binds K fd_is_arc ["thing", "many"] []
  f_joined : Addr
  fd_joined : FuncData
  F_joined : Fun K "joined" "joined" s_joined f_joined fd_joined
  g_joined : mg "joined" = some (.ref f_joined)
  k_joined : PySem.W.keepIn K (.ref f_joined) = true
  b_joined : Binds K fd_joined ["groups", "one", "other"] []
  f_first_side : Addr
  fd_first_side : FuncData
  F_first_side : Fun K "first_side" "first_side" s_first_side f_first_side fd_first_side
  g_first_side : mg "first_side" = some (.ref f_first_side)
  k_first_side : PySem.W.keepIn K (.ref f_first_side) = true
  b_first_side : Binds K fd_first_side ["ends", "at"] []
  f_as_net : Addr
  fd_as_net : FuncData
  F_as_net : Fun K "as_net" "as_net" s_as_net f_as_net fd_as_net
  g_as_net : mg "as_net" = some (.ref f_as_net)
  k_as_net : PySem.W.keepIn K (.ref f_as_net) = true
  b_as_net : Binds K fd_as_net ["table"] []
  f_tree_for : Addr
  fd_tree_for : FuncData
  F_tree_for : Fun K "tree_for" "tree_for" s_tree_for f_tree_for fd_tree_for
  g_tree_for : mg "tree_for" = some (.ref f_tree_for)
  k_tree_for : PySem.W.keepIn K (.ref f_tree_for) = true
  b_tree_for : Binds K fd_tree_for ["columns", "many", "ends"] []
  f_all_grown : Addr
  fd_all_grown : FuncData
  F_all_grown : Fun K "all_grown" "all_grown" s_all_grown f_all_grown fd_all_grown
  g_all_grown : mg "all_grown" = some (.ref f_all_grown)
  k_all_grown : PySem.W.keepIn K (.ref f_all_grown) = true
  b_all_grown : Binds K fd_all_grown ["ends"] []
  f_moved : Addr
  fd_moved : FuncData
  F_moved : Fun K "moved" "moved" s_moved f_moved fd_moved
  g_moved : mg "moved" = some (.ref f_moved)
  k_moved : PySem.W.keepIn K (.ref f_moved) = true
  b_moved : Binds K fd_moved ["end", "place", "new"] []
  f_arc_for : Addr
  fd_arc_for : FuncData
  F_arc_for : Fun K "arc_for" "arc_for" s_arc_for f_arc_for fd_arc_for
  g_arc_for : mg "arc_for" = some (.ref f_arc_for)
  k_arc_for : PySem.W.keepIn K (.ref f_arc_for) = true
  b_arc_for : Binds K fd_arc_for ["ends", "column"] []
  f_is_net : Addr
  fd_is_net : FuncData
  F_is_net : Fun K "is_net" "is_net" s_is_net f_is_net fd_is_net
  g_is_net : mg "is_net" = some (.ref f_is_net)
  k_is_net : PySem.W.keepIn K (.ref f_is_net) = true
  b_is_net : Binds K fd_is_net ["table", "thing"] []
  f__law_source_of : Addr
  fd__law_source_of : FuncData
  F__law_source_of : Fun K "_law_source_of" "_law_source_of" s__law_source_of f__law_source_of fd__law_source_of
  g__law_source_of : mg "_law_source_of" = some (.ref f__law_source_of)
  k__law_source_of : PySem.W.keepIn K (.ref f__law_source_of) = true
  b__law_source_of : Binds K fd__law_source_of ["_law_cell"] []
  f__law_next : Addr
  fd__law_next : FuncData
  F__law_next : Fun K "_law_next" "_law_next" s__law_next f__law_next fd__law_next
  g__law_next : mg "_law_next" = some (.ref f__law_next)
  k__law_next : PySem.W.keepIn K (.ref f__law_next) = true
  b__law_next : Binds K fd__law_next ["_law_source", "_law_many"] []
  f__law_cell_at : Addr
  fd__law_cell_at : FuncData
  F__law_cell_at : Fun K "_law_cell_at" "_law_cell_at" s__law_cell_at f__law_cell_at fd__law_cell_at
  g__law_cell_at : mg "_law_cell_at" = some (.ref f__law_cell_at)
  k__law_cell_at : PySem.W.keepIn K (.ref f__law_cell_at) = true
  b__law_cell_at : Binds K fd__law_cell_at ["_law_script", "_law_k"] []
  f__law_mixed : Addr
  fd__law_mixed : FuncData
  F__law_mixed : Fun K "_law_mixed" "_law_mixed" s__law_mixed f__law_mixed fd__law_mixed
  g__law_mixed : mg "_law_mixed" = some (.ref f__law_mixed)
  k__law_mixed : PySem.W.keepIn K (.ref f__law_mixed) = true
  b__law_mixed : Binds K fd__law_mixed ["_law_source", "_law_some"] []
  f__law_ends : Addr
  fd__law_ends : FuncData
  F__law_ends : Fun K "_law_ends" "_law_ends" s__law_ends f__law_ends fd__law_ends
  g__law_ends : mg "_law_ends" = some (.ref f__law_ends)
  k__law_ends : PySem.W.keepIn K (.ref f__law_ends) = true
  b__law_ends : Binds K fd__law_ends ["_law_source", "_law_many"] []
  f__law_net : Addr
  fd__law_net : FuncData
  F__law_net : Fun K "_law_net" "_law_net" s__law_net f__law_net fd__law_net
  g__law_net : mg "_law_net" = some (.ref f__law_net)
  k__law_net : PySem.W.keepIn K (.ref f__law_net) = true
  b__law_net : Binds K fd__law_net ["_law_ends_here", "_law_arcs"] []
  f__law_said : Addr
  fd__law_said : FuncData
  F__law_said : Fun K "_law_said" "_law_said" s__law_said f__law_said fd__law_said
  g__law_said : mg "_law_said" = some (.ref f__law_said)
  k__law_said : PySem.W.keepIn K (.ref f__law_said) = true
  b__law_said : Binds K fd__law_said ["_law_table"] []
  f__law_named : Addr
  fd__law_named : FuncData
  F__law_named : Fun K "_law_named" "_law_named" s__law_named f__law_named fd__law_named
  g__law_named : mg "_law_named" = some (.ref f__law_named)
  k__law_named : PySem.W.keepIn K (.ref f__law_named) = true
  b__law_named : Binds K fd__law_named ["_law_some", "_law_one", "_law_two"] []
  f_law : Addr
  fd_law : FuncData
  F_law : Fun K "law" "law" s_law f_law fd_law
  g_law : mg "law" = some (.ref f_law)
  k_law : PySem.W.keepIn K (.ref f_law) = true
  b_law : Binds K fd_law ["_law_script"] []
  t_MOST : Tok
  g_MOST : mg "MOST" = some (.int 8 t_MOST)
  t_MOST_ROWS : Tok
  g_MOST_ROWS : mg "MOST_ROWS" = some (.int 5 t_MOST_ROWS)
  n_all : mg "all" = none
  n_bool : mg "bool" = none
  n_enumerate : mg "enumerate" = none
  n_int : mg "int" = none
  n_isinstance : mg "isinstance" = none
  n_len : mg "len" = none
  n_list : mg "list" = none
  n_range : mg "range" = none
  n_sorted : mg "sorted" = none
  n_str : mg "str" = none
  n_tuple : mg "tuple" = none
  n_zip : mg "zip" = none
  f_SignError : Addr
  g_SignError : mg "SignError" = some (.ref f_SignError)
  f_BadTable : Addr
  g_BadTable : mg "BadTable" = some (.ref f_BadTable)
  f_NoTree : Addr
  g_NoTree : mg "NoTree" = some (.ref f_NoTree)
  f_NoArcs : Addr
  g_NoArcs : mg "NoArcs" = some (.ref f_NoArcs)
  f_TooMany : Addr
  g_TooMany : mg "TooMany" = some (.ref f_TooMany)
  k_SignError : PySem.W.keepIn K (.ref f_SignError) = true
  ex_SignError : PySem.W.subIn K (.ref f_SignError) (.type "BaseException") = some true
  tx_SignError : PySem.W.typeIn K (.ref f_SignError) = some (.type "type")
  k_BadTable : PySem.W.keepIn K (.ref f_BadTable) = true
  ex_BadTable : PySem.W.subIn K (.ref f_BadTable) (.type "BaseException") = some true
  tx_BadTable : PySem.W.typeIn K (.ref f_BadTable) = some (.type "type")
  x_BadTable : PySem.W.excIn K f_BadTable aeT "ArithmeticError.__new__" = true
  k_NoTree : PySem.W.keepIn K (.ref f_NoTree) = true
  ex_NoTree : PySem.W.subIn K (.ref f_NoTree) (.type "BaseException") = some true
  tx_NoTree : PySem.W.typeIn K (.ref f_NoTree) = some (.type "type")
  k_NoArcs : PySem.W.keepIn K (.ref f_NoArcs) = true
  ex_NoArcs : PySem.W.subIn K (.ref f_NoArcs) (.type "BaseException") = some true
  tx_NoArcs : PySem.W.typeIn K (.ref f_NoArcs) = some (.type "type")
  k_TooMany : PySem.W.keepIn K (.ref f_TooMany) = true
  ex_TooMany : PySem.W.subIn K (.ref f_TooMany) (.type "BaseException") = some true
  tx_TooMany : PySem.W.typeIn K (.ref f_TooMany) = some (.type "type")
  rd_SignError : PySem.W.readsIn K f_SignError (.type "type") = true
  ga_SignError : PySem.W.specialIn K (.ref f_SignError) "__getattribute__" = some (some (.builtin "type.__getattribute__"))
  fi_SignError : PySem.W.findCls K (.ref f_SignError) (.type "type") "__init__" = some (.val (.builtin "ArithmeticError.__init__"))
  own_NoTree : OwnA K f_NoTree f_SignError
  i_NoTree : PySem.W.findIn K (.ref f_NoTree) "__init__" = some (some (.ref f_init_NoTree))
  ty_NoTree : PySem.W.typeIn K (.ref f_init_NoTree) = some (.type "function")
  no_NoTree : PySem.W.findIn K (.ref f_NoTree) "at" = some none
  own_NoArcs : OwnA K f_NoArcs f_SignError
  i_NoArcs : PySem.W.findIn K (.ref f_NoArcs) "__init__" = some (some (.ref f_init_NoArcs))
  ty_NoArcs : PySem.W.typeIn K (.ref f_init_NoArcs) = some (.type "function")
  no_NoArcs : PySem.W.findIn K (.ref f_NoArcs) "at" = some none
  own_TooMany : OwnA K f_TooMany f_SignError
  i_TooMany : PySem.W.findIn K (.ref f_TooMany) "__init__" = some (some (.ref f_init_TooMany))
  ty_TooMany : PySem.W.typeIn K (.ref f_init_TooMany) = some (.type "function")
  no_TooMany : PySem.W.findIn K (.ref f_TooMany) "many" = some none
  xf_TooMany : XfC K f_TooMany
  ec_TooMany : ExcC K f_TooMany
  exm_TooMany : PySem.W.exmOne K (.ref f_TooMany) (.ref f_SignError) = some true
  kit_TooMany_TooMany : PySem.W.kitOne K (.ref f_TooMany) (.ref f_TooMany) = some true
  kit_TooMany_BadTable : PySem.W.kitOne K (.ref f_TooMany) (.ref f_BadTable) = some false
  kit_TooMany_NoTree : PySem.W.kitOne K (.ref f_TooMany) (.ref f_NoTree) = some false
  c_law : Addr
  P_law : Addr
  lkL : ∃ (oc : Value) (od : Option Addr) (kV doc pm : Value) (an : Option Addr) (ct : Value) (osl : Array (Option Value)), fd_law = PySem.W.fnOf "law" "law" (defArgs s_law) (defBody s_law) (defScope s_law) .none kV doc pm an (.ref c_law) ct ∧ K.lookup f_law = some ⟨oc, od, .func fd_law, osl⟩ ∧ PySem.W.codeIn K (.ref c_law) "law" = true
/-! ### numbers -/
def Bd (n : Nat) (i : Int) : Prop := i.natAbs < 2 ^ n
theorem Bd.mono {a b : Nat} {i : Int} (h : Bd a i) (hab : a ≤ b) : Bd b i := Nat.lt_of_lt_of_le h (Nat.pow_le_pow_right (by decide) hab)
theorem Bd.mul {a b : Nat} {i j : Int} (h : Bd a i) (g : Bd b j) : Bd (a + b) (i * j) := wide_lt h g
theorem Bd.add {a : Nat} {i j : Int} (h : Bd a i) (g : Bd a j) : Bd (a + 1) (i + j) := by
  have h1 : i.natAbs < 2 ^ a := h
  have h2 : j.natAbs < 2 ^ a := g
  show (i + j).natAbs < 2 ^ (a + 1)
  rw [Nat.pow_succ]
  omega
theorem Bd.sub {a : Nat} {i j : Int} (h : Bd a i) (g : Bd a j) : Bd (a + 1) (i - j) := by
  have h1 : i.natAbs < 2 ^ a := h
  have h2 : j.natAbs < 2 ^ a := g
  show (i - j).natAbs < 2 ^ (a + 1)
  rw [Nat.pow_succ]
  omega
theorem Bd.neg {a : Nat} {i : Int} (h : Bd a i) : Bd a (-i) := by
  show (-i).natAbs < 2 ^ a
  rw [Int.natAbs_neg]
  exact h
theorem Bd.abs {a : Nat} {i j : Int} (h : Bd a i) (e : j.natAbs ≤ i.natAbs) : Bd a j := Nat.lt_of_le_of_lt e h
theorem Bd.mulOk {a b : Nat} {i j : Int} (h : Bd a i) (g : Bd b j) (h0 : 0 < a := by decide) (h1 : 0 < b := by decide) (hs : a + b ≤ 1000000 := by decide) : CMulW i j := wide_mul h g h0 h1 hs
theorem Bd.divOk {b : Nat} {i j : Int} (h : 0 < j) (g : Bd b j) (h0 : 0 < b := by decide) (h9 : b ≤ 9000 := by decide) : CDivW i j := wide_div h g h0 h9
/-- // by a divisor other than 0 below 2 ^ 9000 -/
def CDivNW (_ j : Int) : Prop := j ≠ 0 ∧ j.natAbs.log2 < 9000
theorem Bd.divNOk {b : Nat} {i j : Int} (h : j ≠ 0) (g : Bd b j) (h0 : 0 < b := by decide) (h9 : b ≤ 9000 := by decide) : CDivNW i j := ⟨h, Nat.lt_of_lt_of_le (PySem.Flt.log2_lt_of h0 g) h9⟩
theorem op_fdivNW {X : Cx} : OpR X (binaryOp .FloorDiv) (rI CDivNW fun i j => .int (i.fdiv j)) := opI fun _ _ _ _ _ _ _ hc q => floordiv_int hc.1 q (.inl (PyProof.noPylong_of_log2 hc.2))
/-! ### heaps -/
/-- all but what stands at s is as it was -/
def ExB (s : Addr) (H H' : Hp) : Prop := ∀ b o, b ≠ s → H b = some o → H' b = some o
theorem ExB.trans {s : Addr} {H H1 H2 : Hp} (a : ExB s H H1) (b : ExB s H1 H2) : ExB s H H2 := fun c o n h => b c o n (a c o n h)
theorem ExB.refl (s : Addr) (H : Hp) : ExB s H H := fun _ _ _ h => h
theorem ExB.of {s : Addr} {H H1 : Hp} (a : Ex H H1) : ExB s H H1 := fun c o _ h => a c o h
theorem ExB.ex {s : Addr} {H H1 H2 : Hp} (a : ExB s H1 H2) (n : H s = none) (e : Ex H H1) : Ex H H2 := fun b o h => a b o (ne_of_none h n) (e b o h)
theorem ExB.upd (s : Addr) (H : Hp) (o : HO) : ExB s H (upd H s o) := fun b u n h => by
  rw [upd_ne n]
  exact h
theorem Ex.updB {s : Addr} {H H' : Hp} {o : HO} (e : Ex H H') : ExB s H (upd H' s o) := fun b u n h => by
  rw [upd_ne n]
  exact e b u h
/-- the source of a law's numbers: n at least the numbers made so far -/
def SrcAt (H : Hp) (s : Addr) (n : Int) : Prop := ∃ p q r : Int, H s = some (.lst [.int p, .int q, .int r]) ∧ 0 ≤ q ∧ q < 2147483647 ∧ 0 ≤ r ∧ r ≤ n
theorem SrcAt.ex {H H' : Hp} {s : Addr} {n : Int} (h : SrcAt H s n) (e : Ex H H') : SrcAt H' s n := by
  obtain ⟨p, q, r, h1, h2⟩ := h
  exact ⟨p, q, r, e _ _ h1, h2⟩
theorem SrcAt.exB {H H' : Hp} {s t : Addr} {n : Int} (h : SrcAt H s n) (e : ExB t H H') (ne : s ≠ t) : SrcAt H' s n := by
  obtain ⟨p, q, r, h1, h2⟩ := h
  exact ⟨p, q, r, e _ _ ne h1, h2⟩
theorem SrcAt.le {H : Hp} {s : Addr} {n m : Int} (h : SrcAt H s n) (e : n ≤ m) : SrcAt H s m := by
  obtain ⟨p, q, r, h1, h2, h3, h4, h5⟩ := h
  exact ⟨p, q, r, h1, h2, h3, h4, by omega⟩
theorem SrcAt.obj {H : Hp} {s : Addr} {n : Int} (h : SrcAt H s n) : ∃ o, H s = some o := by
  obtain ⟨p, q, r, h1, _⟩ := h
  exact ⟨_, h1⟩
/-- classes that is_whole is asked about -/
def tyOk (t : String) : Prop := t = "int" ∨ t = "bool" ∨ t = "NoneType" ∨ t = "str" ∨ t = "tuple" ∨ t = "list" ∨ t = "dict"
theorem ty_int {t : String} (h : tyOk t) : kitB t "int" = some (t == "int" || t == "bool") := by
  rcases h with rfl | rfl | rfl | rfl | rfl | rfl | rfl <;> decide +kernel
theorem ty_bool {t : String} (h : tyOk t) : kitB t "bool" = some (t == "bool") := by
  rcases h with rfl | rfl | rfl | rfl | rfl | rfl | rfl <;> decide +kernel
theorem ty_tuple {t : String} (h : tyOk t) : kitB t "tuple" = some (t == "tuple") := by
  rcases h with rfl | rfl | rfl | rfl | rfl | rfl | rfl <;> decide +kernel
theorem ty_list {t : String} (h : tyOk t) : kitB t "list" = some (t == "list") := by
  rcases h with rfl | rfl | rfl | rfl | rfl | rfl | rfl <;> decide +kernel
theorem prime_at (r : Int) (h : 0 ≤ r) : ∃ p : Int, atI [V.int 2147483647, V.int 2147483629, V.int 2147483587, V.int 2147483579, V.int 2147483563, V.int 2147483549, V.int 2147483543] (r % 7) = some (.int p) ∧ 0 < p ∧ p ≤ 2147483647 := by
  have h1 : 0 ≤ r % 7 := Int.emod_nonneg _ (by decide)
  have h2 : r % 7 < 7 := Int.emod_lt_of_pos _ (by decide)
  generalize r % 7 = k at h1 h2
  have hk : k = 0 ∨ k = 1 ∨ k = 2 ∨ k = 3 ∨ k = 4 ∨ k = 5 ∨ k = 6 := by omega
  rcases hk with rfl | rfl | rfl | rfl | rfl | rfl | rfl <;> exact ⟨_, rfl, by decide, by decide⟩
/-! ### data, lists, tables -/
mutual
theorem dp_mono {K : PySem.W.Frag} {H H' : Hp} (h : ∀ a xs, SqL K H a xs → SqL K H' a xs) (h2 : ∀ a xs, SqT K H a xs → SqT K H' a xs) : ∀ {v : V} {d : PyData}, Dp K H v d → Dp K H' v d
  | _, _, .non => .non
  | _, _, .bl b => .bl b
  | _, _, .int i => .int i
  | _, _, .str x => .str x
  | _, _, .lst a b => .lst (h _ _ a) (dpAll_mono h h2 b)
  | _, _, .tup a b => .tup (h2 _ _ a) (dpAll_mono h h2 b)
theorem dpAll_mono {K : PySem.W.Frag} {H H' : Hp} (h : ∀ a xs, SqL K H a xs → SqL K H' a xs) (h2 : ∀ a xs, SqT K H a xs → SqT K H' a xs) : ∀ {vs : List V} {ds : List PyData}, DpAll K H vs ds → DpAll K H' vs ds
  | _, _, .nil => .nil
  | _, _, .cons a b => .cons (dp_mono h h2 a) (dpAll_mono h h2 b)
end
theorem dp_ex {K : PySem.W.Frag} {H H' : Hp} (e : Ex H H') {v : V} {d : PyData} (h : Dp K H v d) : Dp K H' v d := dp_mono (fun _ _ => ex_l e) (fun _ _ => ex_t e) h
theorem dpAll_ex {K : PySem.W.Frag} {H H' : Hp} (e : Ex H H') {v : List V} {d : List PyData} (h : DpAll K H v d) : DpAll K H' v d := dpAll_mono (fun _ _ => ex_l e) (fun _ _ => ex_t e) h
def NiceD (d : PyData) : Prop := d.canLay0 = true ∧ d.depth ≤ 8
/-- v is data, whatever becomes of the object at s -/
def DatV (K : PySem.W.Frag) (H : Hp) (s : Addr) (v : V) : Prop := ∀ H', ExB s H H' → ∃ d, Dp K H' v d ∧ NiceD d
theorem DatV.exB {K : PySem.W.Frag} {H H' : Hp} {s : Addr} {v : V} (h : DatV K H s v) (e : ExB s H H') : DatV K H' s v := fun H2 e2 => h H2 (e.trans e2)
theorem datv_int {K : PySem.W.Frag} {H : Hp} {s : Addr} (i : Int) : DatV K H s (.int i) := fun _ _ => ⟨_, .int i, rfl, Nat.zero_le _⟩
theorem datv_pair {K : PySem.W.Frag} {H : Hp} {s a : Addr} {x y : Int} (h : H a = some (.tup [.int x, .int y])) (n : a ≠ s) : DatV K H s (.ref a) := fun H' e =>
  ⟨_, .tup (SqT.of (e _ _ n h)) (.cons (.int x) (.cons (.int y) .nil)), rfl, Nat.le_of_ble_eq_true rfl⟩
theorem dpAll_ints {K : PySem.W.Frag} {H : Hp} : ∀ ns : List Int, DpAll K H (ns.map V.int) (ns.map PyData.int)
  | [] => .nil
  | n :: r => .cons (.int n) (dpAll_ints r)
theorem canLay_ints : ∀ ns : List Int, PyData.canLayAll0 (ns.map PyData.int) = true
  | [] => rfl
  | n :: r => by
    show (true && PyData.canLayAll0 (r.map PyData.int)) = true
    rw [canLay_ints r]
    rfl
theorem depth_ints : ∀ ns : List Int, PyData.depthAll (ns.map PyData.int) = 0
  | [] => rfl
  | n :: r => by
    show max 0 (PyData.depthAll (r.map PyData.int)) = 0
    rw [depth_ints r]
    rfl
theorem datv_row {K : PySem.W.Frag} {H : Hp} {s a : Addr} {ns : List Int} (h : H a = some (.lst (ns.map V.int))) (n : a ≠ s) : DatV K H s (.ref a) := fun H' e =>
  ⟨_, .lst (SqL.of (e _ _ n h)) (dpAll_ints ns), canLay_ints ns, by
    show PyData.depthAll (ns.map PyData.int) + 1 ≤ 8
    rw [depth_ints]
    decide⟩
theorem dat_all {K : PySem.W.Frag} {H : Hp} {s : Addr} : ∀ {xs : List V}, (∀ v ∈ xs, DatV K H s v) → ∃ ds, DpAll K H xs ds ∧ PyData.canLayAll0 ds = true ∧ PyData.depthAll ds ≤ 8
  | [], _ => ⟨[], .nil, rfl, by decide⟩
  | x :: xs, h => by
    obtain ⟨d, h1, h2, h3⟩ := h x (List.mem_cons_self ..) H (ExB.refl _ _)
    obtain ⟨ds, g1, g2, g3⟩ := dat_all (xs := xs) fun v hv => h v (List.mem_cons_of_mem _ hv)
    refine ⟨d :: ds, .cons h1 g1, ?_, ?_⟩
    · show (d.canLay0 && PyData.canLayAll0 ds) = true
      rw [h2, g2]
      rfl
    · show max d.depth (PyData.depthAll ds) ≤ 8
      omega
theorem shaped_list {ds : List PyData} (h : PyData.canLayAll0 ds = true) (h2 : PyData.depthAll ds ≤ 60) : SeqAt.shaped (.list ds) = true := by
  unfold SeqAt.shaped
  have e1 : (PyData.list ds).canLay0 = true := h
  have e2 : (PyData.list ds).depth ≤ 64 := by
    show PyData.depthAll ds + 1 ≤ 64
    omega
  rw [e1, decide_eq_true e2]
  rfl
theorem eqv_nil (ds : List PyData) : PyData.eqv (.list ds) (.list []) = ds.isEmpty := by
  cases ds <;> rfl
theorem Paired.perm {α β : Type} {R : α → β → Prop} {xs xs' : List α} (hp : xs'.Perm xs) : ∀ {ys : List β}, Paired R xs ys → ∃ ys', ys'.Perm ys ∧ Paired R xs' ys' := by
  induction hp with
  | nil => intro ys h; exact ⟨ys, .refl _, h⟩
  | cons x _ ih =>
    intro ys h
    cases h with
    | cons r t =>
      obtain ⟨ys', p, q⟩ := ih t
      exact ⟨_ :: ys', p.cons _, .cons r q⟩
  | swap x y l =>
    intro ys h
    cases h with
    | cons r t =>
      cases t with
      | cons r2 t2 => exact ⟨_, List.Perm.swap .., .cons r2 (.cons r t2)⟩
  | trans _ _ ih1 ih2 =>
    intro ys h
    obtain ⟨y1, p1, q1⟩ := ih2 h
    obtain ⟨y2, p2, q2⟩ := ih1 q1
    exact ⟨y2, p2.trans p1, q2⟩
theorem fresh_B {s p : Addr} {H H' : Hp} (e : ExB s H H') (hp : H' p = none) (hs : ∃ o, H' s = some o) : H p = none := by
  cases q : H p with
  | none => rfl
  | some o =>
    by_cases h : p = s
    · subst h
      obtain ⟨o', ho'⟩ := hs
      rw [ho'] at hp
      cases hp
    · rw [e p o h q] at hp
      cases hp
theorem SrcAt.ne {H : Hp} {s p : Addr} {n : Int} (h : SrcAt H s n) (hp : H p = none) : p ≠ s := by
  intro e
  subst e
  obtain ⟨o, ho⟩ := h.obj
  rw [ho] at hp
  cases hp
theorem SrcAt.neT {H : Hp} {s p : Addr} {n : Int} {xs : List V} (h : SrcAt H s n) (hp : H p = some (.tup xs)) : p ≠ s := by
  intro e
  subst e
  obtain ⟨_, _, _, ho, _⟩ := h
  rw [ho] at hp
  cases hp
theorem ExB.l {K : PySem.W.Frag} {s a : Addr} {H H' : Hp} {xs : List V} (e : ExB s H H') (n : a ≠ s) (h : SqL K H a xs) : SqL K H' a xs := by
  rcases h with (h | ⟨o, h⟩) | h
  · exact .inl (.inl (e _ _ n h))
  · exact .inl (.inr ⟨o, e _ _ n h⟩)
  · exact .inr h
theorem seqIx {i n : Int} {k : Nat} (h0 : 0 ≤ i) (h1 : i < (k : Int)) : seqIndex? i k = some i.toNat := by
  unfold seqIndex?
  split <;> simp_all <;> omega
theorem erase_perm {α : Type} : ∀ {ls : List α} {k : Nat} {y : α}, ls[k]? = some y → (y :: ls.eraseIdx k).Perm ls
  | [], _, _, h => by simp at h
  | a :: l, 0, y, h => by
    have e := Option.some.inj h
    subst e
    exact .refl _
  | a :: l, k + 1, y, h => (List.Perm.swap a y _).trans ((erase_perm (ls := l) (k := k) h).cons a)
theorem perm_pop {α : Type} {fs ls : List α} {k : Nat} {y : α} (h : ls[k]? = some y) : ((fs ++ [y]) ++ ls.eraseIdx k).Perm (fs ++ ls) := by
  have h1 := erase_perm h
  rw [List.append_assoc]
  exact List.Perm.append_left fs h1
/-- the table at p: its rows at the places as -/
def RowsAt (H : Hp) : List Addr → List (List Int) → Prop := Paired fun a r => H a = some (.lst (r.map V.int))
def Tab (H : Hp) (p : Addr) (as : List Addr) (rows : List (List Int)) : Prop := H p = some (.lst (as.map V.ref)) ∧ RowsAt H as rows
theorem RowsAt.ex {H H' : Hp} (e : Ex H H') : ∀ {as : List Addr} {rows : List (List Int)}, RowsAt H as rows → RowsAt H' as rows
  | _, _, .nil => .nil
  | _, _, .cons h t => .cons (e _ _ h) (RowsAt.ex e t)
theorem Tab.ex {H H' : Hp} {p : Addr} {as : List Addr} {rows : List (List Int)} (h : Tab H p as rows) (e : Ex H H') : Tab H' p as rows := ⟨e _ _ h.1, h.2.ex e⟩
/-! ### edges -/
def EdgesAt (H : Hp) : List Addr → List (Int × Int) → Prop := Paired fun a e => H a = some (.tup [.int e.1, .int e.2])
theorem paired_imp {α β : Type} {R R' : α → β → Prop} (h : ∀ a b, R a b → R' a b) : ∀ {xs : List α} {ys : List β}, Paired R xs ys → Paired R' xs ys
  | _, _, .nil => .nil
  | _, _, .cons r t => .cons (h _ _ r) (paired_imp h t)
theorem EdgesAt.mono {H H' : Hp} {as : List Addr} {es : List (Int × Int)} (h : ∀ a xs, H a = some (.tup xs) → H' a = some (.tup xs)) (x : EdgesAt H as es) : EdgesAt H' as es := paired_imp (fun _ _ r => h _ _ r) x
theorem tups_B {H H' : Hp} {s : Addr} {n : Int} (hs : SrcAt H s n) (e : ExB s H H') : ∀ a xs, H a = some (.tup xs) → H' a = some (.tup xs) := fun a _ h => e a _ (hs.neT h) h
theorem tups_E {H H' : Hp} (e : Ex H H') : ∀ a xs, H a = some (.tup xs) → H' a = some (.tup xs) := fun a _ h => e a _ h
theorem tups_U {H : Hp} {l : Addr} {xs : List V} {o : HO} (h : H l = some (.lst xs)) : ∀ a ys, H a = some (.tup ys) → upd H l o a = some (.tup ys) := fun a ys g => by
  rw [upd_ne (ne_of g h (by intro z; cases z))]
  exact g
def Conn (es : List (Int × Int)) (m : Int) : Prop := ∀ S : Int → Bool, (∀ e ∈ es, S e.1 = S e.2) → ∀ a b, 0 ≤ a → a ≤ m → 0 ≤ b → b ≤ m → S a = S b
theorem Conn.perm {es es' : List (Int × Int)} {m : Int} (h : Conn es m) (p : es'.Perm es) : Conn es' m := fun S hS => h S fun e he => hS e (p.mem_iff.mpr he)
def EdgeTree (pl : List Int) (es : List (Int × Int)) : Prop := ∀ j, j < es.length → ∃ i a b, i ≤ j ∧ pl[i]? = some a ∧ pl[j + 1]? = some b ∧ (es[j]? = some (a, b) ∨ es[j]? = some (b, a))
theorem EdgeTree.more {pl : List Int} {es : List (Int × Int)} {e : Int × Int} {i : Nat} {a b : Int} (h : EdgeTree pl es) (hi : i ≤ es.length) (ha : pl[i]? = some a) (hb : pl[es.length + 1]? = some b) (he : e = (a, b) ∨ e = (b, a)) : EdgeTree pl (es ++ [e]) := by
  intro j hj
  rw [List.length_append] at hj
  have hj' : j < es.length + 1 := hj
  by_cases h1 : j < es.length
  · obtain ⟨i', a', b', x1, x2, x3, x4⟩ := h j h1
    refine ⟨i', a', b', x1, x2, x3, ?_⟩
    rw [List.getElem?_append_left h1]
    exact x4
  · have h2 : j = es.length := by omega
    subst h2
    refine ⟨i, a, b, hi, ha, hb, ?_⟩
    rw [List.getElem?_append_right (Nat.le_refl _), Nat.sub_self]
    rcases he with rfl | rfl
    · exact .inl rfl
    · exact .inr rfl
theorem EdgeTree.conn {pl : List Int} {es : List (Int × Int)} {m : Nat} (h : EdgeTree pl es) (hl : es.length = m) (hp : pl.length = m + 1) (hall : ∀ a : Int, 0 ≤ a → a ≤ m → a ∈ pl) : Conn es m := by
  intro S hS
  have key : ∀ j : Nat, ∀ j' : Nat, j' ≤ j → ∀ a, pl[j']? = some a → ∀ z, pl[0]? = some z → S a = S z := by
    intro j
    induction j with
    | zero =>
      intro j' hj' a ha z hz
      have : j' = 0 := by omega
      subst this
      rw [hz] at ha
      rw [Option.some.inj ha]
    | succ j ih =>
      intro j' hj' a ha z hz
      by_cases h1 : j' ≤ j
      · exact ih j' h1 a ha z hz
      · have h2 : j' = j + 1 := by omega
        subst h2
        have hlt : j + 1 < pl.length := (List.getElem?_eq_some_iff.mp ha).1
        obtain ⟨i, x, y, hi, hx, hy, he⟩ := h j (by omega)
        rw [ha] at hy
        have ey := Option.some.inj hy
        subst ey
        have hSe : S x = S a := by
          rcases he with he | he
          · exact hS (x, a) (List.mem_of_getElem? he)
          · exact (hS (a, x) (List.mem_of_getElem? he)).symm
        rw [← hSe]
        exact ih i hi x hx z hz
  intro a b ha ha' hb hb'
  obtain ⟨i, hi⟩ := List.getElem?_of_mem (hall a ha ha')
  obtain ⟨j, hj⟩ := List.getElem?_of_mem (hall b hb hb')
  have hz : ∃ z, pl[0]? = some z := ⟨_, List.getElem?_eq_getElem (by omega)⟩
  obtain ⟨z, hz⟩ := hz
  rw [key i i (Nat.le_refl _) a hi z hz, key j j (Nat.le_refl _) b hj z hz]
theorem paired_map {α β : Type} {R : α → β → Prop} (f : β → α) (h : ∀ b, R (f b) b) : ∀ ys : List β, Paired R (ys.map f) ys
  | [] => .nil
  | b :: r => .cons (h b) (paired_map f h r)
theorem paired_eq_map {α β : Type} {f : β → α} : ∀ {xs : List α} {ys : List β}, Paired (fun x y => x = f y) xs ys → xs = ys.map f
  | _, _, .nil => rfl
  | _, _, .cons r t => by rw [r, paired_eq_map t]; rfl
theorem perm_ints {ys : List V} {ns : List Int} (h : ys.Perm (ns.map V.int)) : ∃ pl : List Int, ys = pl.map V.int ∧ pl.Perm ns := by
  obtain ⟨pl, p, q⟩ := Paired.perm (R := fun (x : V) y => x = V.int y) h (paired_map V.int (fun _ => rfl) ns)
  exact ⟨pl, paired_eq_map q, p⟩
theorem perm_refs {β : Type} {R : Addr → β → Prop} {ys : List V} {as : List Addr} {es : List β} (h : ys.Perm (as.map V.ref)) (hx : Paired R as es) : ∃ (as' : List Addr) (es' : List β), ys = as'.map V.ref ∧ es'.Perm es ∧ Paired R as' es' ∧ as'.Perm as := by
  obtain ⟨as', p, q⟩ := Paired.perm (R := fun (x : V) y => x = V.ref y) h (paired_map V.ref (fun _ => rfl) as)
  obtain ⟨es', p2, q2⟩ := Paired.perm p hx
  exact ⟨as', es', paired_eq_map q, p2, q2, p⟩
def numsTo (m : Nat) : List Int := (List.range m).map fun i : Nat => (i : Int)
theorem rgV_nums (m : Int) : rgV 0 m = (numsTo m.toNat).map V.int := by
  unfold rgV numsTo
  rw [List.map_map, Int.sub_zero]
  refine List.map_congr_left fun i _ => ?_
  show V.int (0 + (i : Int)) = V.int (i : Int)
  rw [Int.zero_add]
theorem mem_numsTo {m : Nat} {a : Int} : a ∈ numsTo m ↔ 0 ≤ a ∧ a < m := by
  unfold numsTo
  rw [List.mem_map]
  constructor
  · rintro ⟨i, hi, rfl⟩
    have := List.mem_range.mp hi
    omega
  · rintro ⟨h0, h1⟩
    exact ⟨a.toNat, List.mem_range.mpr (by omega), by omega⟩
theorem numsTo_length (m : Nat) : (numsTo m).length = m := by
  unfold numsTo
  rw [List.length_map, List.length_range]
theorem paired_snoc {α β : Type} {R : α → β → Prop} {a : α} {b : β} {xs : List α} {ys : List β} (h : Paired R xs ys) (r : R a b) : Paired R (xs ++ [a]) (ys ++ [b]) := Paired.snoc h r
theorem paired_mem {α β : Type} {R : α → β → Prop} : ∀ {xs : List α} {ys : List β} {x : α}, Paired R xs ys → x ∈ xs → ∃ y, y ∈ ys ∧ R x y
  | _, _, _, .nil, h => by simp at h
  | _, _, x, .cons (a := a) r t, h => by
    rcases List.mem_cons.mp h with e | h
    · subst e
      exact ⟨_, List.mem_cons_self .., r⟩
    · obtain ⟨y, hy, hr⟩ := paired_mem t h
      exact ⟨y, List.mem_cons_of_mem _ hy, hr⟩
/-! ### loops and comprehensions over more -/
theorem for_enum {K : PySem.W.Frag} {a : Addr} {xs : List V} {g : TG} {tb : TS} {D : Ends} {σ : L2.St} {H : Hp} (Pv : Nat → L2.St → Hp → Prop) (h0 : Pv 0 σ H) (hq : ∀ i σ H, Pv i σ H → SqL K H a xs)
    (hs : ∀ (i : Nat) (x : V) (T : Addr) (σ : L2.St) (H : Hp), xs[i]? = some x → Pv i σ H → H T = none → g (.ref T) σ (upd H T (.tup [.int (i : Nat), x])) fun σ2 H2 => tb { D with nx := Pv (i + 1), ct := Pv (i + 1), bk := D.nx } σ2 H2) (hd : ∀ σ H, Pv xs.length σ H → D.nx σ H) :
    ∃ W : Nat → Nat → L2.St → Hp → Prop, (∃ m, W 0 m σ H) ∧ ∀ i m σ H, W i m σ H →
      ((Ite K a).stop i H ∧ D.nx σ H) ∨ ((Ite K a).go i H ∧ ∃ N : L2.St → Hp → Prop, (∀ σ' H', N σ' H' → ∃ m', m' < m ∧ W (i + 1) m' σ' H') ∧ ∀ v H', (Ite K a).yld i H v H' → g v σ H' fun σ2 H2 => tb { D with nx := N, ct := N, bk := D.nx } σ2 H2) := by
  refine ⟨fun i m σ H => m = xs.length - i ∧ i ≤ xs.length ∧ Pv i σ H, ⟨xs.length, rfl, Nat.zero_le _, h0⟩, ?_⟩
  rintro i m σ H ⟨rfl, hi, p⟩
  have qx := hq i σ H p
  by_cases hlt : i < xs.length
  · have hx : xs[i]? = some xs[i] := List.getElem?_eq_getElem hlt
    refine .inr ⟨⟨xs, _, qx, hx⟩, Pv (i + 1), fun σ' H' p' => ⟨xs.length - (i + 1), by omega, rfl, hlt, p'⟩, fun v H' y => ?_⟩
    obtain ⟨T, x', rfl, hT, rfl, f1⟩ := y
    exact hs i x' T σ H (f1 xs qx) p hT
  · have e : i = xs.length := by omega
    subst e
    exact .inl ⟨⟨xs, qx, Nat.le_refl _⟩, hd σ H p⟩
theorem lc_zip {K : PySem.W.Frag} {a b : Addr} {xs ys : List V} {g : TG} {tt : TT} {te : TE} {vs : List Nat} {σ : L2.St} {H1 : Hp} {D : Addr} {Qd : Hp → Prop} (hl : xs.length = ys.length) (Pv : Nat → Hp → Prop) (h0 : Pv 0 (upd H1 D (.lst []))) (hq : ∀ i H, Pv i H → SqL K H a xs ∧ SqL K H b ys)
    (hs : ∀ (i : Nat) (x y : V) (T : Addr) (H : Hp), xs[i]? = some x → ys[i]? = some y → Pv i H → H T = none → g (.ref T) (wipe σ vs) (upd H T (.tup [x, y])) fun σ2 H2 => wipe σ2 vs = wipe σ vs ∧ tt σ2 H2 fun b H3 =>
      if b = true then te σ2 H3 fun y H4 => ∃ acc, H4 D = some (.lst acc) ∧ acc.length < sizeLine ∧ Pv (i + 1) (upd H4 D (.lst (acc ++ [y]))) else Pv (i + 1) H3) (hd : ∀ H, Pv xs.length H → Qd H) :
    ∃ W : Nat → Nat → Hp → Prop, (∃ m, W 0 m (upd H1 D (.lst []))) ∧ ∀ i m H, W i m H →
      ((Itz K a b).stop i H ∧ Qd H) ∨ ((Itz K a b).go i H ∧ ∃ Nx : Hp → Prop, (∀ H', Nx H' → ∃ m', m' < m ∧ W (i + 1) m' H') ∧ ∀ x H', (Itz K a b).yld i H x H' → g x (wipe σ vs) H' fun σ2 H2 => wipe σ2 vs = wipe σ vs ∧ tt σ2 H2 fun b H3 =>
        if b = true then te σ2 H3 fun y H4 => ∃ acc, H4 D = some (.lst acc) ∧ acc.length < sizeLine ∧ Nx (upd H4 D (.lst (acc ++ [y]))) else Nx H3) := by
  refine ⟨fun i m H => m = xs.length - i ∧ i ≤ xs.length ∧ Pv i H, ⟨xs.length, rfl, Nat.zero_le _, h0⟩, ?_⟩
  rintro i m H ⟨rfl, hi, p⟩
  obtain ⟨qx, qy⟩ := hq i H p
  by_cases hlt : i < xs.length
  · have hx : xs[i]? = some xs[i] := List.getElem?_eq_getElem hlt
    have hlt2 : i < ys.length := by omega
    have hy : ys[i]? = some ys[i] := List.getElem?_eq_getElem hlt2
    refine .inr ⟨⟨xs, ys, _, _, qx, qy, hx, hy⟩, Pv (i + 1), fun H' p' => ⟨xs.length - (i + 1), by omega, rfl, hlt, p'⟩, fun v H' y => ?_⟩
    obtain ⟨T, x', y', rfl, hT, rfl, f1, f2⟩ := y
    exact hs i x' y' T H (f1 xs qx) (f2 ys qy) p hT
  · have e : i = xs.length := by omega
    subst e
    exact .inl ⟨⟨xs, ys, qx, qy, Or.inl (Nat.le_refl _)⟩, hd H p⟩
abbrev g2 (K : PySem.W.Frag) (j1 j2 : Nat) : TG := gTup K 2 (gCons (gName j1) (gCons (gName j2) gNil))
theorem take_snoc {α : Type} {l : List α} {i : Nat} {x : α} (h : l[i]? = some x) : l.take (i + 1) = l.take i ++ [x] := by
  rw [List.take_add_one, h]
  rfl
/-- [f(x, y) for x, y in zip(xs, ys)] -/
theorem el_zip {K : PySem.W.Frag} {ta : TA} {te : TE} {vs : List Nat} {j1 j2 : Nat} {σ : L2.St} {H : Hp} {a b : Addr} {xs ys : List Int} (f : Int → Int → Int) (h : EvA ta σ H [.ref a, .ref b]) (hx : SqL K H a (xs.map V.int)) (hy : SqL K H b (ys.map V.int)) (hl : xs.length = ys.length) (hz : xs.length ≤ 1000)
    (hw : ∀ u v, wipe (((wipe σ vs).set j1 (some u)).set j2 (some v)) vs = wipe σ vs)
    (he : ∀ x y H1, x ∈ xs → y ∈ ys → Ex H H1 → Ev te (((wipe σ vs).set j1 (some (.int x))).set j2 (some (.int y))) H1 (.int (f x y))) : EvL (tLc (iZip K ta) (g2 K j1 j2) tYes te vs) σ H ((List.zipWith f xs ys).map V.int) := fun H0 e Q q => h H0 e _ fun H1 e1 => by
  have hx1 := ex_l (e.trans e1) hx
  have hy1 := ex_l (e.trans e1) hy
  refine ⟨a, b, _, _, rfl, hx1, hy1, fun D hD => ?_⟩
  refine lc_zip (xs := xs.map V.int) (ys := ys.map V.int) (by rw [List.length_map, List.length_map]; exact hl) (fun i H' => Ex H1 H' ∧ H' D = some (.lst (((List.zipWith f xs ys).take i).map V.int))) ⟨Ex.new hD, upd_same⟩ (fun i H' p => ⟨ex_l p.1 hx1, ex_l p.1 hy1⟩) (fun i x y T H' gx gy p nT => ?_) (fun H' p => ?_)
  · obtain ⟨p1, p2⟩ := p
    rw [List.getElem?_map] at gx gy
    obtain ⟨x', hx', rfl⟩ := Option.map_eq_some_iff.mp gx
    obtain ⟨y', hy', rfl⟩ := Option.map_eq_some_iff.mp gy
    refine ⟨T, _, rfl, SqT.of upd_same, rfl, _, _, rfl, _, _, rfl, rfl, hw _ _, ?_⟩
    show te _ _ _
    have xT : Ex H' (upd H' T (.tup [.int x', .int y'])) := Ex.new nT
    refine he x' y' H (List.mem_of_getElem? hx') (List.mem_of_getElem? hy') (Ex.refl H) _ ((e.trans e1).trans (p1.trans xT)) _ fun H4 e4 => ?_
    refine ⟨_, e4 _ _ (xT _ _ p2), ?_, Ex.mut ((p1.trans xT).trans e4) hD, ?_⟩
    · rw [List.length_map, List.length_take]
      have := (List.getElem?_eq_some_iff.mp hx').1
      exact small1000 (by omega)
    · have hzz : (List.zipWith f xs ys)[i]? = some (f x' y') := by
        rw [List.getElem?_zipWith, hx', hy']
      rw [upd_same, take_snoc hzz, List.map_append]
      rfl
  · obtain ⟨p1, p2⟩ := p
    rw [List.take_of_length_le (by rw [List.length_zipWith, List.length_map]; omega)] at p2
    exact q D H' (fresh_back e1 hD) (e1.trans p1) p2
/-- [g(x, y) for x, y in qs], qs a list of pairs -/
theorem el_pairs {K : PySem.W.Frag} {n : Nat} {te : TE} {vs : List Nat} {j1 j2 : Nat} {σ : L2.St} {H : Hp} {a : Addr} {bs : List Addr} {qs : List (Int × Int)} (f : Int × Int → Int) (hσ : σ[n]? = some (some (.ref a))) (hx : H a = some (.lst (bs.map V.ref))) (hE : EdgesAt H bs qs) (hz : qs.length ≤ 1000)
    (hw : ∀ u v, wipe (((wipe σ vs).set j1 (some u)).set j2 (some v)) vs = wipe σ vs)
    (he : ∀ e H1, e ∈ qs → Ex H H1 → Ev te (((wipe σ vs).set j1 (some (.int e.1))).set j2 (some (.int e.2))) H1 (.int (f e))) : EvL (tLc (iList K (tVar n)) (g2 K j1 j2) tYes te vs) σ H ((qs.map f).map V.int) := fun H1 e1 Q q => by
  have hx1 := e1 _ _ hx
  have el : bs.length = qs.length := Paired.length hE
  refine ⟨_, hσ, a, rfl, ⟨_, SqL.of hx1⟩, fun D hD => ?_⟩
  refine lc_list (K := K) (a := a) (xs := bs.map V.ref) (fun i H' => Ex H1 H' ∧ H' D = some (.lst (((qs.map f).take i).map V.int))) ⟨Ex.new hD, upd_same⟩ (fun i H' _ p => SqL.of (p.1 _ _ hx1)) (fun i x H' gx p => ?_) (fun H' p => ?_)
  · obtain ⟨p1, p2⟩ := p
    rw [List.getElem?_map] at gx
    obtain ⟨b, hb, rfl⟩ := Option.map_eq_some_iff.mp gx
    obtain ⟨ed, hed, hr⟩ := paired_get hE hb
    refine ⟨b, _, rfl, SqT.of ((e1.trans p1) _ _ hr), rfl, _, _, rfl, _, _, rfl, rfl, hw _ _, ?_⟩
    show te _ _ _
    refine he ed H (List.mem_of_getElem? hed) (Ex.refl H) _ (e1.trans p1) _ fun H4 e4 => ?_
    refine ⟨_, e4 _ _ p2, ?_, Ex.mut (p1.trans e4) hD, ?_⟩
    · rw [List.length_map, List.length_take, List.length_map]
      exact small1000 (by omega)
    · have hzz : (qs.map f)[i]? = some (f ed) := by rw [List.getElem?_map, hed]; rfl
      rw [upd_same, take_snoc hzz, List.map_append]
      rfl
  · obtain ⟨p1, p2⟩ := p
    rw [List.take_of_length_le (by rw [List.length_map, List.length_map]; omega)] at p2
    exact q D H' hD p1 p2
/-- [[..] for i in range(m)]: new rows -/
theorem lc_rows {ta : TA} {te : TE} {vs : List Nat} {j : Nat} {σ : L2.St} {H : Hp} {Q : VK} {m : Nat} (F : Nat → List Int) (h : EvA ta σ H [.int (m : Int)]) (hm : m ≤ 1000) (hw : ∀ u, wipe ((wipe σ vs).set j (some u)) vs = wipe σ vs)
    (he : ∀ i H1, Ex H H1 → i < m → EvL te ((wipe σ vs).set j (some (.int (i : Int)))) H1 ((F i).map V.int))
    (k : ∀ p as H2, H p = none → (∀ a ∈ as, H a = none) → as.Nodup → p ∉ as → Ex H H2 → Tab H2 p as ((List.range m).map F) → Q (.ref p) H2) : tLc (iRng1 ta) (gName j) tYes te vs σ H Q := by
  refine h H (Ex.refl H) _ fun H1 e1 => ⟨(m : Int), rfl, by omega, by omega, fun D hD => ?_⟩
  have hDH : H D = none := fresh_back e1 hD
  refine lc_range (lo := 0) (n := (m : Int).toNat) (fun i H' => ∃ as, Ex H1 H' ∧ H' D = some (.lst (as.map V.ref)) ∧ RowsAt H' as ((List.range i).map F) ∧ (∀ a ∈ as, H a = none) ∧ as.Nodup ∧ D ∉ as) ⟨[], Ex.new hD, upd_same, .nil, fun a ha => by simp at ha, List.nodup_nil, by simp⟩ (fun i H' hi p => ?_) (fun H' p => ?_)
  · obtain ⟨as, p1, p2, p3, p4, p5, p6⟩ := p
    have el : as.length = i := by rw [Paired.length p3, List.length_map, List.length_range]
    have e0 : (0 : Int) + (i : Int) = (i : Int) := Int.zero_add _
    refine ⟨hw _, ?_⟩
    show te ((wipe σ vs).set j (some (.int ((0 : Int) + (i : Int))))) H' _
    rw [e0]
    refine he i H' (e1.trans p1) (by omega) H' (Ex.refl _) _ fun r H4 nr e4 hr => ?_
    have nrD : r ≠ D := fun z => by
      rw [z, p2] at nr
      cases nr
    refine ⟨_, e4 _ _ p2, ?_, as ++ [r], Ex.mut (p1.trans e4) hD, ?_, ?_, ?_, ?_, ?_⟩
    · rw [List.length_map, el]
      exact small1000 (by omega)
    · rw [upd_same, List.map_append]
      rfl
    · rw [List.range_succ, List.map_append]
      have st : ∀ a (l : List Int), a ≠ D → H4 a = some (.lst (l.map V.int)) → upd H4 D (.lst (as.map V.ref ++ [.ref r])) a = some (.lst (l.map V.int)) := fun a l n g => by
        rw [upd_ne n]
        exact g
      refine paired_snoc ?_ (st r _ nrD hr)
      have aux : ∀ {as' : List Addr} {rs : List (List Int)}, D ∉ as' → RowsAt H' as' rs → RowsAt (upd H4 D (.lst (as.map V.ref ++ [.ref r]))) as' rs := by
        intro as' rs hn hp
        induction hp with
        | nil => exact .nil
        | cons g t ih => exact .cons (st _ _ (fun z => hn (by rw [z]; exact List.mem_cons_self ..)) (e4 _ _ g)) (ih fun z => hn (List.mem_cons_of_mem _ z))
      exact aux p6 p3
    · intro a ha
      rcases List.mem_append.mp ha with h | h
      · exact p4 a h
      · have : a = r := by simpa using h
        rw [this]
        exact fresh_back (e1.trans p1) nr
    · refine List.nodup_append.mpr ⟨p5, by simp, fun a ha b hb => ?_⟩
      have : b = r := by simpa using hb
      rw [this]
      intro z
      rw [z] at ha
      obtain ⟨x, _, hx⟩ := paired_mem p3 ha
      rw [nr] at hx
      cases hx
    · intro ha
      rcases List.mem_append.mp ha with h | h
      · exact p6 h
      · exact nrD (by simpa using h : D = r).symm
  · obtain ⟨as, p1, p2, p3, p4, p5, p6⟩ := p
    have em : (m : Int).toNat = m := by omega
    rw [em] at p3
    exact k D as H' hDH p4 p5 p6 (e1.trans p1) ⟨p2, p3⟩
/-! ### a dict of rows by places -/
theorem nodup_sub {α : Type} [DecidableEq α] : ∀ {l1 l2 : List α}, l1.Nodup → (∀ x ∈ l1, x ∈ l2) → l1.length ≤ l2.length
  | [], _, _, _ => Nat.zero_le _
  | a :: t, l2, hn, hs => by
    have h1 := List.nodup_cons.mp hn
    have ha := hs a (List.mem_cons_self ..)
    have ih := nodup_sub (l1 := t) (l2 := l2.erase a) h1.2 fun x hx => (List.mem_erase_of_ne (fun z => h1.1 (by rw [← z]; exact hx))).mpr (hs x (List.mem_cons_of_mem _ hx))
    rw [List.length_erase_of_mem ha] at ih
    have := List.length_pos_of_mem ha
    simp only [List.length_cons]
    omega
theorem rep_flat : ∀ m : Nat, (List.replicate m [V.int 0]).flatten = (List.replicate m 0).map V.int
  | 0 => rfl
  | m + 1 => by
    rw [List.replicate_succ, List.flatten_cons, rep_flat m]
    rfl
theorem nodup_nums (m : Nat) : (numsTo m).Nodup := by
  unfold numsTo
  exact List.Pairwise.map _ (fun a b h z => h (by omega)) List.nodup_range
theorem val_mem : ∀ {kvs : List (Key × V)} {L : List Int} {x : Int}, kvs.map (·.1) = L.map Sum.inl → ((valV kvs (Sum.inl x : Key)).isSome = true ↔ x ∈ L)
  | [], L, x, h => by
    cases L with
    | nil => simp [valV]
    | cons a l => simp at h
  | kv :: r, L, x, h => by
    cases L with
    | nil => simp at h
    | cons a l =>
      have h1 : kv.1 = Sum.inl a ∧ r.map (·.1) = l.map Sum.inl := by
        have := List.cons.inj h
        exact ⟨this.1, this.2⟩
      have ih := val_mem (kvs := r) (L := l) (x := x) h1.2
      by_cases e : x = a
      · subst e
        rw [valV_pos h1.1]
        simp
      · have ne : ¬ kv.1 = Sum.inl x := by
          rw [h1.1]
          intro z
          exact e (Sum.inl.inj z).symm
        have e2 : valV (kv :: r) (Sum.inl x : Key) = valV r (Sum.inl x : Key) := by
          simp [valV, List.find?_cons, ne]
        rw [e2, ih, List.mem_cons]
        exact ⟨Or.inr, fun z => z.resolve_left e⟩
/-- the dict at d: rows of m whole numbers by the places L -/
structure FarOk (H : Hp) (d : Addr) (m : Nat) (kvs : List (Key × V)) (L : List Int) : Prop where
  at_ : H d = some (.dK kvs)
  keys : kvs.map (·.1) = L.map Sum.inl
  nd : L.Nodup
  inn : ∀ x ∈ L, 0 ≤ x ∧ x ≤ m
  row : ∀ x v, valV kvs (Sum.inl x : Key) = some v → ∃ (a : Addr) (ns : List Int), v = .ref a ∧ H a = some (.lst (ns.map V.int)) ∧ ns.length = m ∧ ∀ y ∈ ns, y.natAbs ≤ L.length
theorem FarOk.len {H : Hp} {d : Addr} {m : Nat} {kvs : List (Key × V)} {L : List Int} (h : FarOk H d m kvs L) : kvs.length = L.length := by
  rw [← List.length_map (f := (·.1)), h.keys, List.length_map]
theorem FarOk.le {H : Hp} {d : Addr} {m : Nat} {kvs : List (Key × V)} {L : List Int} (h : FarOk H d m kvs L) : L.length ≤ m + 1 := by
  have := nodup_sub (l2 := numsTo (m + 1)) h.nd fun x hx => mem_numsTo.mpr (by have := h.inn x hx; omega)
  rw [numsTo_length] at this
  exact this
theorem FarOk.all {H : Hp} {d : Addr} {m : Nat} {kvs : List (Key × V)} {L : List Int} (h : FarOk H d m kvs L) (hl : m < L.length) : ∀ x : Int, 0 ≤ x → x ≤ m → x ∈ L := by
  intro x h0 h1
  by_cases hx : x ∈ L
  · exact hx
  · have h2 := nodup_sub (l1 := x :: L) (l2 := numsTo (m + 1)) (List.nodup_cons.mpr ⟨hx, h.nd⟩) fun y hy => mem_numsTo.mpr (by
      rcases List.mem_cons.mp hy with rfl | hy
      · omega
      · have := h.inn y hy
        omega)
    rw [numsTo_length, List.length_cons] at h2
    omega
theorem FarOk.ex {H H' : Hp} {d : Addr} {m : Nat} {kvs : List (Key × V)} {L : List Int} (h : FarOk H d m kvs L) (e : Ex H H') : FarOk H' d m kvs L :=
  ⟨e _ _ h.at_, h.keys, h.nd, h.inn, fun x v hv => by
    obtain ⟨a, ns, h1, h2, h3, h4⟩ := h.row x v hv
    exact ⟨a, ns, h1, e _ _ h2, h3, h4⟩⟩
theorem FarOk.get {H : Hp} {d : Addr} {m : Nat} {kvs : List (Key × V)} {L : List Int} (h : FarOk H d m kvs L) {x : Int} (hx : x ∈ L) : ∃ (a : Addr) (ns : List Int), valV kvs (Sum.inl x : Key) = some (.ref a) ∧ H a = some (.lst (ns.map V.int)) ∧ ns.length = m ∧ ∀ y ∈ ns, y.natAbs ≤ L.length := by
  have hs := (val_mem h.keys).mpr hx
  obtain ⟨v, hv⟩ := Option.isSome_iff_exists.mp hs
  obtain ⟨a, ns, h1, h2, h3, h4⟩ := h.row x v hv
  subst h1
  exact ⟨a, ns, hv, h2, h3, h4⟩
theorem FarOk.no {H : Hp} {d : Addr} {m : Nat} {kvs : List (Key × V)} {L : List Int} (h : FarOk H d m kvs L) {x : Int} (hx : x ∉ L) : valV kvs (Sum.inl x : Key) = none := by
  cases q : valV kvs (Sum.inl x : Key) with
  | none => rfl
  | some v => exact absurd ((val_mem h.keys).mp (by rw [q]; rfl)) hx
theorem FarOk.some_ {H : Hp} {d : Addr} {m : Nat} {kvs : List (Key × V)} {L : List Int} (h : FarOk H d m kvs L) (x : Int) : (valV kvs (Sum.inl x : Key)).isSome = decide (x ∈ L) := by
  rw [Bool.eq_iff_iff, val_mem h.keys, decide_eq_true_iff]
theorem FarOk.put {H : Hp} {d : Addr} {m : Nat} {kvs : List (Key × V)} {L : List Int} {x : Int} {a : Addr} {ns : List Int} (h : FarOk H d m kvs L) (hx : x ∉ L) (h0 : 0 ≤ x ∧ x ≤ m) (ha : H a = some (.lst (ns.map V.int))) (hl : ns.length = m) (hb : ∀ y ∈ ns, y.natAbs ≤ L.length + 1) :
    FarOk (upd H d (.dK (putK kvs (Sum.inl x) (.ref a)))) d m (putK kvs (Sum.inl x) (.ref a)) (L ++ [x]) := by
  have hn := h.no hx
  have ne : ∀ b (l : List V), H b = some (.lst l) → b ≠ d := fun b l g => ne_of g h.at_ (by intro z; cases z)
  refine ⟨upd_same, ?_, ?_, ?_, ?_⟩
  · rw [putK_new _ hn, List.map_append, List.map_append, h.keys]
    rfl
  · refine List.nodup_append.mpr ⟨h.nd, by simp, fun y hy z hz => ?_⟩
    have : z = x := by simpa using hz
    rw [this]
    intro e
    exact hx (e ▸ hy)
  · intro y hy
    rcases List.mem_append.mp hy with q | q
    · exact h.inn y q
    · have : y = x := by simpa using q
      rw [this]
      exact h0
  · intro y v hv
    rw [valV_put] at hv
    rw [List.length_append]
    by_cases e : (Sum.inl y : Key) = Sum.inl x
    · rw [if_pos e] at hv
      have ev := Option.some.inj hv
      subst ev
      refine ⟨a, ns, rfl, ?_, hl, hb⟩
      rw [upd_ne (ne a _ ha)]
      exact ha
    · rw [if_neg e] at hv
      obtain ⟨b, l, h1, h2, h3, h4⟩ := h.row y v hv
      refine ⟨b, l, h1, ?_, h3, fun z hz => Nat.le_succ_of_le (h4 z hz)⟩
      rw [upd_ne (ne b _ h2)]
      exact h2
theorem ev_dget {σ : L2.St} {H : Hp} {i j : Nat} {d : Addr} {x : Int} {kvs : List (Key × V)} {v : V} (h1 : σ[i]? = some (some (.ref d))) (h2 : σ[j]? = some (some (.int x))) (hd : H d = some (.dK kvs)) (hv : valV kvs (Sum.inl x : Key) = some v) : Ev (tDGet (tVar i) (tVar j)) σ H v := fun H1 e Q q =>
  ⟨_, h1, _, h2, d, v, rfl, by rw [← hv]; exact DGet.k (k := Sum.inl x) (e _ _ hd), q H1 (Ex.refl _)⟩
/-- the kk-th number of the row that stands by x -/
def rowOf : Option HO → List Int
  | some (.lst xs) => xs.map fun v => match v with | .int i => i | _ => 0
  | _ => []
theorem rowOf_ints (ns : List Int) : rowOf (some (.lst (ns.map V.int))) = ns := by
  show (ns.map V.int).map (fun v => match v with | V.int i => i | _ => 0) = ns
  rw [List.map_map]
  exact List.map_id' ns
def valN (H : Hp) (kvs : List (Key × V)) (x : Int) (kk : Nat) : Int :=
  match valV kvs (Sum.inl x : Key) with
  | some (.ref a) => (rowOf (H a))[kk]?.getD 0
  | _ => 0
theorem valN_eq {H : Hp} {kvs : List (Key × V)} {x : Int} {kk : Nat} {a : Addr} {ns : List Int} (h : valV kvs (Sum.inl x : Key) = some (.ref a)) (g : H a = some (.lst (ns.map V.int))) : valN H kvs x kk = ns[kk]?.getD 0 := by
  unfold valN
  rw [h]
  show (rowOf (H a))[kk]?.getD 0 = _
  rw [g, rowOf_ints]
theorem atI_row {ns : List Int} {kk : Nat} (h : kk < ns.length) : atI (ns.map V.int) (kk : Int) = some (.int (ns[kk]?.getD 0)) := by
  refine atI_nat ?_
  rw [List.getElem?_map, List.getElem?_eq_getElem h]
  rfl
/-- a new table (new since H): m rows of w numbers, none greater than B -/
structure NewTab (H H' : Hp) (p : Addr) (as : List Addr) (rows : List (List Int)) (w B : Nat) : Prop where
  p0 : H p = none
  a0 : ∀ a ∈ as, H a = none
  nd : as.Nodup
  np : p ∉ as
  tab : Tab H' p as rows
  ok : ∀ r ∈ rows, r.length = w ∧ ∀ y ∈ r, y.natAbs ≤ B
theorem NewTab.ex {H H' H2 : Hp} {p : Addr} {as : List Addr} {rows : List (List Int)} {w B : Nat} (h : NewTab H H' p as rows w B) (e : Ex H' H2) : NewTab H H2 p as rows w B := ⟨h.p0, h.a0, h.nd, h.np, h.tab.ex e, h.ok⟩
theorem rows_but {H H' : Hp} : ∀ {as : List Addr} {rows : List (List Int)}, RowsAt H as rows → (∀ a ∈ as, ∀ o, H a = some o → H' a = some o) → RowsAt H' as rows
  | _, _, .nil, _ => .nil
  | _, _, .cons g t, h => .cons (h _ (List.mem_cons_self ..) _ g) (rows_but t fun a ha => h a (List.mem_cons_of_mem _ ha))
theorem NewTab.exB {H H' H2 : Hp} {s p : Addr} {as : List Addr} {rows : List (List Int)} {w B : Nat} (h : NewTab H H' p as rows w B) (e : ExB s H' H2) (hs : ∃ o, H s = some o) : NewTab H H2 p as rows w B := by
  obtain ⟨o, ho⟩ := hs
  have n1 : p ≠ s := fun z => by
    have := h.p0
    rw [z, ho] at this
    cases this
  have n2 : ∀ a ∈ as, a ≠ s := fun a ha z => by
    have := h.a0 a ha
    rw [z, ho] at this
    cases this
  exact ⟨h.p0, h.a0, h.nd, h.np, ⟨e _ _ n1 h.tab.1, rows_but h.tab.2 fun a ha o' g => e a o' (n2 a ha) g⟩, h.ok⟩
theorem NewTab.back {H0 H H' : Hp} {s p : Addr} {as : List Addr} {rows : List (List Int)} {w B : Nat} (h : NewTab H H' p as rows w B) (e : ExB s H0 H) (hs : ∃ o, H s = some o) : NewTab H0 H' p as rows w B :=
  ⟨fresh_B e h.p0 hs, fun a ha => fresh_B e (h.a0 a ha) hs, h.nd, h.np, h.tab, h.ok⟩
theorem NewTab.mono {H H' : Hp} {p : Addr} {as : List Addr} {rows : List (List Int)} {w B B' : Nat} (h : NewTab H H' p as rows w B) (hb : B ≤ B') : NewTab H H' p as rows w B' :=
  ⟨h.p0, h.a0, h.nd, h.np, h.tab, fun r hr => ⟨(h.ok r hr).1, fun y hy => Nat.le_trans ((h.ok r hr).2 y hy) hb⟩⟩
/-- found.append(a new row) -/
theorem NewTab.app {H H' H2 : Hp} {p r : Addr} {as : List Addr} {rows : List (List Int)} {row : List Int} {w B : Nat} (h : NewTab H H' p as rows w B) (e0 : ∀ a, H' a = none → H a = none) (e : Ex H' H2) (nr : H' r = none) (hr : H2 r = some (.lst (row.map V.int))) (hl : row.length = w) (hb : ∀ y ∈ row, y.natAbs ≤ B) :
    NewTab H (upd H2 p (.lst (as.map V.ref ++ [.ref r]))) p (as ++ [r]) (rows ++ [row]) w B := by
  have nrp : r ≠ p := fun z => by
    rw [z, h.tab.1] at nr
    cases nr
  have nra : r ∉ as := fun ha => by
    obtain ⟨x, _, hx⟩ := paired_mem h.tab.2 ha
    rw [nr] at hx
    cases hx
  refine ⟨h.p0, fun a ha => ?_, ?_, ?_, ⟨?_, ?_⟩, fun x hx => ?_⟩
  · rcases List.mem_append.mp ha with q | q
    · exact h.a0 a q
    · have : a = r := by simpa using q
      rw [this]
      exact e0 r nr
  · refine List.nodup_append.mpr ⟨h.nd, by simp, fun a ha b hb z => ?_⟩
    have : b = r := by simpa using hb
    exact nra (by rw [← this, ← z]; exact ha)
  · intro ha
    rcases List.mem_append.mp ha with q | q
    · exact h.np q
    · exact nrp (by simpa using q : p = r).symm
  · rw [upd_same, List.map_append]
    rfl
  · refine paired_snoc (rows_but h.tab.2 fun a ha o g => ?_) ?_
    · rw [upd_ne (fun z => h.np (by rw [← z]; exact ha))]
      exact e a o g
    · rw [upd_ne nrp]
      exact hr
  · rcases List.mem_append.mp hx with q | q
    · exact h.ok x q
    · have : x = row := by simpa using q
      rw [this]
      exact ⟨hl, hb⟩
theorem NewTab.new {H : Hp} {H1 : Hp} {p : Addr} {w B : Nat} (h : H p = none) (h1 : H1 p = some (.lst [])) : NewTab H H1 p [] [] w B := ⟨h, fun a ha => by simp at ha, List.nodup_nil, by simp, ⟨h1, .nil⟩, fun r hr => by simp at hr⟩
theorem noneB {s : Addr} {H H' : Hp} (e : ExB s H H') (hs : ∃ o, H' s = some o) : ∀ a, H' a = none → H a = none := fun a h => fresh_B e h hs
theorem ev_chain {r r' : R2} {ta tb tc : TE} {σ : L2.St} {H : Hp} {x y z : V} {b c : Bool} (ha : Ev ta σ H x) (hb : Ev tb σ H y) (hc : Ev tc σ H z) (h1 : RV r x y H (.bl b)) (h2 : RV r' y z H (.bl c)) : Ev (tChain r r' ta tb tc) σ H (.bl (b && c)) := fun H1 e Q q =>
  ha H1 e _ fun H2 e2 => hb H2 (e.trans e2) _ fun H3 e3 => h1 H3 ((e.trans e2).trans e3) _ fun H4 e4 => ⟨b, rfl, by
    cases b with
    | true =>
      show tc σ H4 _
      exact hc H4 (((e.trans e2).trans e3).trans e4) _ fun H5 e5 => h2 H5 ((((e.trans e2).trans e3).trans e4).trans e5) Q fun H6 e6 => q H6 ((((e2.trans e3).trans e4).trans e5).trans e6)
    | false =>
      show Q (.bl false) H4
      exact q H4 ((e2.trans e3).trans e4)⟩
theorem ev_int1 {ta : TE} {σ : L2.St} {H : Hp} {b : Bool} (h : Ev ta σ H (.bl b)) : Ev (tCB (fun xs H Q => (∃ i, xs = [V.int i] ∧ Q (V.int i) H) ∨ ∃ k, xs = [V.bl k] ∧ Q (V.int (if k = true then 1 else 0)) H) (tCons ta tNil)) σ H (.int (if b = true then 1 else 0)) := fun H1 e Q q =>
  h H1 e _ fun H2 e2 => .inr ⟨b, rfl, q H2 e2⟩
/-- [e for i in range(m)], e whole numbers -/
theorem el_rng {ta : TA} {te : TE} {vs : List Nat} {j m : Nat} {σ : L2.St} {H : Hp} (f : Nat → Int) (h : EvA ta σ H [.int (m : Int)]) (hm : m ≤ 1000) (hw : ∀ x, wipe ((wipe σ vs).set j (some x)) vs = wipe σ vs)
    (he : ∀ (i : Nat) H1, Ex H H1 → i < m → Ev te ((wipe σ vs).set j (some (.int (i : Int)))) H1 (.int (f i))) : EvL (tLc (iRng1 ta) (gName j) tYes te vs) σ H (((List.range m).map f).map V.int) := by
  have g := el_lcR1 (t := tYes) (te := te) (j := j) (vs := vs) (σ := σ) (H := H) (n := (m : Int)) (ta := ta) (fun _ => true) (fun o => .int (f o)) h (by omega) hw (fun o H1 e ho Hx ex Qx qx => qx Hx (Ex.refl _)) (fun o H1 e ho hf => he o H1 e (by omega))
  have eg : given (m : Int).toNat (fun _ => true) (fun o => V.int (f o)) = ((List.range m).map f).map V.int := by
    unfold given
    rw [Int.toNat_natCast, List.filter_eq_self.mpr (fun _ _ => rfl), List.map_map]
    rfl
  rw [eg] at g
  exact g
/-- [f(row) for row in rows] -/
theorem el_col {K : PySem.W.Frag} {n : Nat} {te : TE} {vs : List Nat} {j : Nat} {σ : L2.St} {H : Hp} {a : Addr} {bs : List Addr} {qs : List (List Int)} (f : List Int → Int) (hσ : σ[n]? = some (some (.ref a))) (hx : H a = some (.lst (bs.map V.ref))) (hE : RowsAt H bs qs) (hz : qs.length ≤ 1000)
    (hw : ∀ u, wipe ((wipe σ vs).set j (some u)) vs = wipe σ vs)
    (he : ∀ b r H1, r ∈ qs → H b = some (.lst (r.map V.int)) → Ex H H1 → Ev te ((wipe σ vs).set j (some (.ref b))) H1 (.int (f r))) : EvL (tLc (iList K (tVar n)) (gName j) tYes te vs) σ H ((qs.map f).map V.int) := fun H1 e1 Q q => by
  have hx1 := e1 _ _ hx
  have el : bs.length = qs.length := Paired.length hE
  refine ⟨_, hσ, a, rfl, ⟨_, SqL.of hx1⟩, fun D hD => ?_⟩
  refine lc_list (K := K) (a := a) (xs := bs.map V.ref) (fun i H' => Ex H1 H' ∧ H' D = some (.lst (((qs.map f).take i).map V.int))) ⟨Ex.new hD, upd_same⟩ (fun i H' _ p => SqL.of (p.1 _ _ hx1)) (fun i x H' gx p => ?_) (fun H' p => ?_)
  · obtain ⟨p1, p2⟩ := p
    rw [List.getElem?_map] at gx
    obtain ⟨b, hb, rfl⟩ := Option.map_eq_some_iff.mp gx
    obtain ⟨ed, hed, hr⟩ := paired_get hE hb
    refine ⟨hw _, ?_⟩
    show te _ _ _
    refine he b ed H (List.mem_of_getElem? hed) hr (Ex.refl H) _ (e1.trans p1) _ fun H4 e4 => ?_
    refine ⟨_, e4 _ _ p2, ?_, Ex.mut (p1.trans e4) hD, ?_⟩
    · rw [List.length_map, List.length_take, List.length_map]
      exact small1000 (by omega)
    · have hzz : (qs.map f)[i]? = some (f ed) := by rw [List.getElem?_map, hed]; rfl
      rw [upd_same, take_snoc hzz, List.map_append]
      rfl
  · obtain ⟨p1, p2⟩ := p
    rw [List.take_of_length_le (by rw [List.length_map, List.length_map]; omega)] at p2
    exact q D H' hD p1 p2
/-- [a number drawn for i in range(m)] -/
theorem lc_draw {ta : TA} {te : TE} {vs : List Nat} {j m : Nat} {σ : L2.St} {H : Hp} {Q : VK} {s : Addr} {n : Int} (P : Int → Prop) (h : EvA ta σ H [.int (m : Int)]) (hm : m ≤ 1000) (hs : SrcAt H s n) (hw : ∀ u, wipe ((wipe σ vs).set j (some u)) vs = wipe σ vs)
    (he : ∀ (i : Nat) H1, ExB s H H1 → i < m → SrcAt H1 s (n + i) → ∀ Q1 : VK, (∀ x H2, P x → ExB s H1 H2 → SrcAt H2 s (n + i + 1) → Q1 (.int x) H2) → te ((wipe σ vs).set j (some (.int (i : Int)))) H1 Q1)
    (k : ∀ (D : Addr) (ns : List Int) (H2 : Hp), H D = none → ExB s H H2 → SrcAt H2 s (n + m) → H2 D = some (.lst (ns.map V.int)) → ns.length = m → (∀ x ∈ ns, P x) → Q (.ref D) H2) : tLc (iRng1 ta) (gName j) tYes te vs σ H Q := by
  refine h H (Ex.refl H) _ fun H1 e1 => ⟨(m : Int), rfl, by omega, by omega, fun D hD => ?_⟩
  have hDH : H D = none := fresh_back e1 hD
  have hDs : D ≠ s := (hs.ex e1).ne hD
  refine lc_range (lo := 0) (n := (m : Int).toNat) (fun i H' => ∃ ns, ExB s H H' ∧ SrcAt H' s (n + i) ∧ H' D = some (.lst (ns.map V.int)) ∧ ns.length = i ∧ ∀ x ∈ ns, P x) ⟨[], ExB.of (e1.trans (Ex.new hD)), (hs.ex (e1.trans (Ex.new hD))).le (by omega), upd_same, rfl, fun x hx => by simp at hx⟩ (fun i H' hi p => ?_) (fun H' p => ?_)
  · obtain ⟨ns, p1, p2, p3, p4, p5⟩ := p
    have e0 : (0 : Int) + (i : Int) = (i : Int) := Int.zero_add _
    refine ⟨hw _, ?_⟩
    show te ((wipe σ vs).set j (some (.int ((0 : Int) + (i : Int))))) H' _
    rw [e0]
    refine he i H' p1 (by omega) p2 _ fun x H2 hx e2 s2 => ?_
    refine ⟨_, e2 _ _ hDs p3, small1000 (by rw [List.length_map]; omega), ns ++ [x], ?_, ?_, ?_, ?_, ?_⟩
    · refine fun b o nb hb => ?_
      rw [upd_ne (ne_of_none hb hDH)]
      exact e2 _ _ nb (p1 _ _ nb hb)
    · obtain ⟨a1, a2, a3, a4, a5, a6, a7, a8⟩ := s2
      exact ⟨a1, a2, a3, by rw [upd_ne hDs.symm]; exact a4, a5, a6, a7, by omega⟩
    · rw [upd_same, List.map_append]
      rfl
    · rw [List.length_append, p4]
      rfl
    · intro y hy
      rcases List.mem_append.mp hy with q | q
      · exact p5 y q
      · have : y = x := by simpa using q
        rw [this]
        exact hx
  · obtain ⟨ns, p1, p2, p3, p4, p5⟩ := p
    have em : (m : Int).toNat = m := by omega
    rw [em] at p4 p2
    exact k D ns H' hDH p1 p2 p3 p4 p5
/-- the same over a list of whole numbers -/
theorem lc_drawL {K : PySem.W.Frag} {tl te : TE} {vs : List Nat} {j : Nat} {σ : L2.St} {H : Hp} {Q : VK} {s a : Addr} {n : Int} {xs : List Int} (P : Int → Prop) (h : Ev tl σ H (.ref a)) (hx : H a = some (.lst (xs.map V.int))) (has : a ≠ s) (hm : xs.length ≤ 1000) (hs : SrcAt H s n) (hw : ∀ u, wipe ((wipe σ vs).set j (some u)) vs = wipe σ vs)
    (he : ∀ (i : Nat) (y : Int) H1, ExB s H H1 → i < xs.length → SrcAt H1 s (n + i) → ∀ Q1 : VK, (∀ x H2, P x → ExB s H1 H2 → SrcAt H2 s (n + i + 1) → Q1 (.int x) H2) → te ((wipe σ vs).set j (some (.int y))) H1 Q1)
    (k : ∀ (D : Addr) (ns : List Int) (H2 : Hp), H D = none → ExB s H H2 → SrcAt H2 s (n + xs.length) → H2 D = some (.lst (ns.map V.int)) → ns.length = xs.length → (∀ x ∈ ns, P x) → Q (.ref D) H2) : tLc (iList K tl) (gName j) tYes te vs σ H Q := by
  refine h H (Ex.refl H) _ fun H1 e1 => ⟨a, rfl, ⟨_, SqL.of (e1 _ _ hx)⟩, fun D hD => ?_⟩
  have hDH : H D = none := fresh_back e1 hD
  have hDs : D ≠ s := (hs.ex e1).ne hD
  refine lc_list (K := K) (a := a) (xs := xs.map V.int) (fun i H' => ∃ ns, ExB s H H' ∧ SrcAt H' s (n + i) ∧ H' D = some (.lst (ns.map V.int)) ∧ ns.length = i ∧ ∀ x ∈ ns, P x) ⟨[], ExB.of (e1.trans (Ex.new hD)), (hs.ex (e1.trans (Ex.new hD))).le (by omega), upd_same, rfl, fun x hx => by simp at hx⟩ (fun i H' _ ⟨_, p1, _⟩ => SqL.of (p1 _ _ has hx)) (fun i y H' gy p => ?_) (fun H' p => ?_)
  · obtain ⟨ns, p1, p2, p3, p4, p5⟩ := p
    rw [List.getElem?_map] at gy
    obtain ⟨y', hy', rfl⟩ := Option.map_eq_some_iff.mp gy
    have hi := (List.getElem?_eq_some_iff.mp hy').1
    refine ⟨hw _, ?_⟩
    show te _ H' _
    refine he i y' H' p1 hi p2 _ fun x H2 hx' e2 s2 => ?_
    refine ⟨_, e2 _ _ hDs p3, small1000 (by rw [List.length_map]; omega), ns ++ [x], ?_, ?_, ?_, ?_, ?_⟩
    · refine fun b o nb hb => ?_
      rw [upd_ne (ne_of_none hb hDH)]
      exact e2 _ _ nb (p1 _ _ nb hb)
    · obtain ⟨a1, a2, a3, a4, a5, a6, a7, a8⟩ := s2
      exact ⟨a1, a2, a3, by rw [upd_ne hDs.symm]; exact a4, a5, a6, a7, by omega⟩
    · rw [upd_same, List.map_append]
      rfl
    · rw [List.length_append, p4]
      rfl
    · intro z hz
      rcases List.mem_append.mp hz with q | q
      · exact p5 z q
      · have : z = x := by simpa using q
        rw [this]
        exact hx'
  · obtain ⟨ns, p1, p2, p3, p4, p5⟩ := p
    rw [List.length_map] at p4 p2
    exact k D ns H' hDH p1 p2 p3 p4 p5
theorem rows_set {H : Hp} {v : List V} {x : Addr} : ∀ {as : List Addr} {rows : List (List Int)} {k : Nat} {row : List Int}, RowsAt H as rows → as.Nodup → as[k]? = some x → v = row.map V.int → RowsAt (upd H x (.lst v)) as (rows.set k row)
  | _, _, _, _, .nil, _, h, _ => by simp at h
  | a :: as, r :: rows, 0, row, .cons g t, nd, h, hv => by
    have e : a = x := Option.some.inj h
    subst e
    have h1 := List.nodup_cons.mp nd
    refine .cons (by rw [upd_same, hv]) (rows_but t fun b hb o q => ?_)
    rw [upd_ne (fun z => h1.1 (by rw [← z]; exact hb))]
    exact q
  | a :: as, r :: rows, k + 1, row, .cons g t, nd, h, hv => by
    have h1 := List.nodup_cons.mp nd
    have hx : as[k]? = some x := h
    refine .cons ?_ (rows_set t h1.2 hx hv)
    rw [upd_ne (fun z => h1.1 (by rw [z]; exact List.mem_of_getElem? hx))]
    exact g
theorem NewTab.set {H H' : Hp} {p x : Addr} {as : List Addr} {rows : List (List Int)} {w B k j : Nat} {row : List Int} {y : Int} (h : NewTab H H' p as rows w B) (hx : as[k]? = some x) (hr : rows[k]? = some row) (hy : y.natAbs ≤ B) : NewTab H (upd H' x (.lst ((row.map V.int).set j (.int y)))) p as (rows.set k (row.set j y)) w B := by
  have npx : p ≠ x := fun z => h.np (by rw [z]; exact List.mem_of_getElem? hx)
  have o := h.ok row (List.mem_of_getElem? hr)
  refine ⟨h.p0, h.a0, h.nd, h.np, ⟨?_, rows_set h.tab.2 h.nd hx (by rw [List.map_set])⟩, fun r hr' => ?_⟩
  · rw [upd_ne npx]
    exact h.tab.1
  · rcases List.mem_or_eq_of_mem_set hr' with q | q
    · exact h.ok r q
    · rw [q]
      refine ⟨by rw [List.length_set]; exact o.1, fun z hz => ?_⟩
      rcases List.mem_or_eq_of_mem_set hz with q2 | q2
      · exact o.2 z q2
      · rw [q2]
        exact hy
section
variable {prog : Program} {w : World} {A : Around} {E : Value → Shared → Prop} {s : Shared}
theorem slice_rev2 {sl : Addr} {vl vu vs : Value} {Q : Int × Int × Nat → Shared → Prop} (hs : s.heap.IsSliceOf sl vl vu vs) (pl : IsPart vl none) (pu : IsPart vu none) (ps : IsPart vs (some (-1)))
    (h : Q (1, -1, 2) s) : wpAny (model prog w) A (Builtin.Slice.sliceApplied (.ref sl) (pure ((2 : Nat) : Int))) Q E s := by
  obtain ⟨os, hos, hcs, hds⟩ := id hs
  unfold Builtin.Slice.sliceApplied Builtin.Slice.sliceFields
  refine wpAny_bind (wpAny_bind (wpAny_field hos hds (x := vl) rfl (wpAny_bind (wpAny_field hos hds (x := vu) rfl (wpAny_bind (wpAny_field hos hds (x := vs) rfl (wpAny_pure ?_)))))))
  refine wpAny_bind (slicePart_ ps ?_)
  show wpAny _ _ (if ((-1 : Int) == 0) = true then _ else _) _ _ s
  rw [if_neg (by decide)]
  refine wpAny_bind (slicePart_ pl (wpAny_bind (slicePart_ pu (wpAny_bind (wpAny_pure ?_)))))
  exact wpAny_pure h
theorem item_rev2 {t sl : Addr} {x y vl vu vs : Value} {Q : Value → Shared → Prop} (ht : IsTup s.heap t #[x, y]) (hs : s.heap.IsSliceOf sl vl vu vs) (pl : IsPart vl none) (pu : IsPart vu none) (ps : IsPart vs (some (-1)))
    (h : Q (.ref s.heap.objs.size) { s with heap := s.heap.push { cls := .type "tuple", data := .seq #[y, x] } }) : wpAny (model prog w) A (getItem (.ref t) (.ref sl)) Q E s := by
  have htake : sizeOk (.seq (#[y, x] : Array Value)) := by
    show 2 ≤ sizeLine
    decide
  obtain ⟨os, hos, hcs, hds⟩ := id hs
  have hTs : s.TypeIs (.ref sl) "slice" := ⟨os, hos, hcs⟩
  unfold getItem
  try with_reducible refine wpAny_holding ?_
  first | refine wpAny_bind (wpAny_pure ?_) | skip
  refine wpAny_bind (wpAny_sequenceKey ht.typeIs (by decide) ?_)
  refine wpAny_bind (wpAny_callSpecial?_slot (name := Str.ofString "__getitem__") ht.typeIs PyProof.Rows.slot_tuple_getitem
    (wpAny_call_entry PyProof.Rows.slot_tuple_getitem ht.typeIs entry_tuple_getitem ?_ (args_tuple_getitem _ _)))
  show wpAny _ _ (Builtin.Tuple.tupleItemsOf (.ref t) >>= _) _ _ s
  refine wpAny_bind (tupleItemsOf_ ht ?_)
  refine wpAny_bind (wpAny_typeOf hTs ?_)
  rw [if_pos (by decide)]
  refine wpAny_bind (slice_rev2 hs pl pu ps ?_)
  show wpAny _ _ (if (((1 : Int) == 0 && (-1 : Int) == 1 && (2 : Nat) == 2) = true) then _ else _) _ _ s
  rw [if_neg (by decide)]
  first
    | exact wpAny_bind (m := Builtin.Tuple.tupleExact _) (wpAny_newObj_type (wpAny_pure ⟨_, rfl, wpAny_pure h⟩) htake)
    | exact wpAny_bind (m := Builtin.Tuple.tupleExact _) (wpAny_newObj_type (wpAny_bind (wpAny_pure (wpAny_pure ⟨_, rfl, wpAny_pure h⟩))) htake)
    | exact wpAny_bind (wpAny_bind (m := Builtin.Tuple.tupleExact _) (wpAny_newObj_type (wpAny_pure (wpAny_pure ⟨_, rfl, wpAny_pure h⟩)) htake))
    | exact wpAny_bind (wpAny_bind (m := Builtin.Tuple.tupleExact _) (wpAny_newObj_type (wpAny_pure ⟨_, rfl, wpAny_pure h⟩) htake))
end
section
variable {X : Cx}
/-- t[::-1], t a pair -/
def tRevT (K : PySem.W.Frag) (te : TE) : TE := fun σ H Q => te σ H fun v H1 => ∃ a x y, v = .ref a ∧ SqT K H1 a [x, y] ∧ ∀ p, H1 p = none → Q (.ref p) (upd H1 p (.tup [y, x]))
theorem pe_revT {e : Expr} {te : TE} {k : Nat} {p1 p2 p3 pos : Pos} (he : PE X e te) : PE X (.Subscript e (.Slice none none (some (.UnaryOp .USub (.Constant (.int 1) k p1) p2)) p3) pos) (tRevT X.K te) := by
  refine ⟨fun pins s σ H Q I h => ?_⟩
  refine Subscript_ (thn (he.run pins s σ H _ I h) fun v s1 ⟨z, H1, I1, r1, q1⟩ => ?_)
  obtain ⟨a, x, y, ex, hx, q⟩ := q1
  subst ex
  cases r1
  have hst : PO X (some (.UnaryOp .USub (.Constant (.int 1) k p1) p2)) (tPart (tUn (rU fun i => .int (-i)) (tC (.int 1)))) := po_some (pe_un un_neg pe_int)
  refine wpAny_Slice (thn (po_none.run pins s1 σ H1 (fun o H2 => o = none ∧ H2 = H1) I1 ⟨rfl, rfl⟩) fun vl s2 ⟨l, H2, I2, pl, el, e2⟩ => ?_)
  subst el e2
  refine thn (po_none.run pins s2 σ H2 (fun o H3 => o = none ∧ H3 = H2) I2 ⟨rfl, rfl⟩) fun vu s3 ⟨u, H3, I3, pu, eu, e3⟩ => ?_
  subst eu e3
  refine thn (hst.run pins s3 σ H3 (fun o H4 => o = some (-1) ∧ H4 = H3) I3 ⟨1, rfl, -1, rfl, rfl, rfl⟩) fun vs s4 ⟨o, H4, I4, ps, eo, e4⟩ => ?_
  subst eo e4
  have I5 : Inv X pins σ H4 { s4 with heap := s4.heap.push { cls := .type "slice", data := .fields #[vl, vu, vs] } } := I4.kept (t' := s4.toks) fun b ob q => Heap.get?_push_of_some _ q
  obtain ⟨its, r, ht, hz⟩ := I5.tuple hx
  obtain ⟨ua, ub, rfl, ra, rb⟩ := vals2 r
  show wpAny (model X.prog X.w) X.A (subscriptTail e (.Slice none none (some (.UnaryOp .USub (.Constant (.int 1) k p1) p2)) p3) (.ref a) (.ref s4.heap.objs.size)) (EP X pins σ Q) X.xe { s4 with heap := s4.heap.push { cls := .type "slice", data := .fields #[vl, vu, vs] } }
  refine tail_any (ops := [.ref a, .ref s4.heap.objs.size]) ht.typeIs (PyProof.Rows.slot_tuple_getitem.lookup) ?_ (by with_unfolding_all rfl)
  refine item_rev2 ht (Heap.IsSliceOf.new _ vl vu vs) pl pu ps ?_
  refine ⟨.ref _, _, I5.laid (t' := s4.toks) (o := .tup [y, x]) (fun b ob q => Heap.get?_push_of_some _ q) (Nat.le_refl _) ?_, rfl, q _ (I5.hok.fresh (Nat.le_refl _))⟩
  exact ⟨by show 2 ≤ sizeLine; decide, [ub, ua], .cons rb (.cons ra .nil), IsTup.new _ _⟩
end

theorem mem_dims {rows : List (List Int)} {w B : Nat} (h : ∀ r ∈ rows, r.length = w ∧ ∀ y ∈ r, y.natAbs ≤ B) {r : List Int} (hr : r ∈ rows) : r.length = w := (h r hr).1
/-- a table as the program takes it: 1 to 8 rows of 1 to 8 -/
structure TabOk (H : Hp) (p : Addr) (as : List Addr) (rows : List (List Int)) (m w : Nat) : Prop where
  tab : Tab H p as rows
  m_ : rows.length = m
  w_ : ∀ r ∈ rows, r.length = w
  b : 1 ≤ m ∧ m ≤ 8 ∧ 1 ≤ w ∧ w ≤ 8
theorem TabOk.ex {H H' : Hp} {p : Addr} {as : List Addr} {rows : List (List Int)} {m w : Nat} (h : TabOk H p as rows m w) (e : Ex H H') : TabOk H' p as rows m w := ⟨h.tab.ex e, h.m_, h.w_, h.b⟩
theorem TabOk.al {H : Hp} {p : Addr} {as : List Addr} {rows : List (List Int)} {m w : Nat} (h : TabOk H p as rows m w) : as.length = m := by rw [Paired.length h.tab.2, h.m_]
theorem TabOk.row0 {H : Hp} {p : Addr} {as : List Addr} {rows : List (List Int)} {m w : Nat} (h : TabOk H p as rows m w) : ∃ a0 r0, as[0]? = some a0 ∧ rows[0]? = some r0 ∧ H a0 = some (.lst (r0.map V.int)) ∧ r0.length = w ∧ atI (as.map V.ref) 0 = some (.ref a0) := by
  have hb := h.b
  have hl := h.al
  obtain ⟨a0, ha0⟩ : ∃ a0, as[0]? = some a0 := ⟨_, List.getElem?_eq_getElem (by omega)⟩
  obtain ⟨r0, hr0, hh⟩ := paired_get h.tab.2 ha0
  exact ⟨a0, r0, ha0, hr0, hh, h.w_ r0 (List.mem_of_getElem? hr0), atI_nat (j := 0) (by rw [List.getElem?_map, ha0]; rfl)⟩
theorem all_true (n : Nat) : (List.replicate n true).all id = true := by
  induction n with
  | zero => rfl
  | succ n ih => rw [List.replicate_succ, List.all_cons, ih]; rfl
/-- [f(x) for x in xs], each True -/
theorem el_yes {K : PySem.W.Frag} {n j : Nat} {a : Addr} {xs : List V} {te : TE} {vs : List Nat} {σ : L2.St} {H : Hp} (hσ : σ[n]? = some (some (.ref a))) (hx : H a = some (.lst xs)) (hl : xs.length ≤ 1000)
    (hs : ∀ x H', x ∈ xs → Ex H H' → Ev te ((wipe σ vs).set j (some x)) H' (.bl true)) (hw : ∀ x, wipe ((wipe σ vs).set j (some x)) vs = wipe σ vs) : EvL (tLc (iList K (tVar n)) (gName j) tYes te vs) σ H ((List.replicate xs.length true).map V.bl) := by
  intro H0 e0 Q0 q0
  have hx0 := e0 _ _ hx
  refine ⟨_, hσ, a, rfl, ⟨_, SqL.of hx0⟩, fun D hD => ?_⟩
  refine lc_list (K := K) (a := a) (xs := xs) (fun i H' => Ex H0 H' ∧ H' D = some (.lst ((List.replicate i true).map V.bl))) ⟨Ex.new hD, upd_same⟩ (fun i H' _ p => SqL.of (p.1 _ _ hx0)) (fun i x H' gx p => ?_) (fun H' p => ?_)
  · obtain ⟨p1, p2⟩ := p
    have hi := (List.getElem?_eq_some_iff.mp gx).1
    refine ⟨hw _, ?_⟩
    show te _ _ _
    refine hs x H (List.mem_of_getElem? gx) (Ex.refl H) _ (e0.trans p1) _ fun H4 e4 => ?_
    refine ⟨_, e4 _ _ p2, ?_, Ex.mut (p1.trans e4) hD, ?_⟩
    · rw [List.length_map, List.length_replicate]
      exact small1000 (by omega)
    · rw [upd_same, List.replicate_succ', List.map_append]
      rfl
  · obtain ⟨p1, p2⟩ := p
    exact q0 D H' hD p1 p2
theorem ev_all {K : PySem.W.Frag} {ta : TE} {n : Nat} {σ : L2.St} {H : Hp} (h : EvL ta σ H ((List.replicate n true).map V.bl)) : Ev (tCB (rAll K) (tCons ta tNil)) σ H (.bl true) := fun H1 e Q q =>
  h H1 e _ fun p H2 _ e2 hp => ⟨p, _, rfl, SqL.of hp, by rw [all_true]; exact q H2 e2⟩
theorem ev_fn {sp : Sp} {E : XK} {ta : TA} {σ : L2.St} {H : Hp} {vs : List V} {z : V} (h : EvA ta σ H vs) (hs : ∀ H1, Ex H H1 → ∀ Q : VK, (∀ H2, Ex H1 H2 → Q z H2) → sp vs H1 Q E) : Ev (tCall sp [] E ta) σ H z := fun H1 e Q q =>
  h H1 e _ fun H2 e2 => by
    rw [List.append_nil]
    exact hs H2 (e.trans e2) Q fun H3 e3 => q H3 (e2.trans e3)
theorem ev_isi {K : PySem.W.Frag} {ta tb : TE} {σ : L2.St} {H : Hp} {x : V} {n : String} {t : String} {b : Bool} (ha : Ev ta σ H x) (hb : Ev tb σ H (.ty n)) (ht : ∀ H1, Ex H H1 → TyX K H1 x (.type t)) (hk : kitB t n = some b) : Ev (tCB (rIsi K) (tCons ta (tCons tb tNil))) σ H (.bl b) := fun H1 e Q q =>
  ha H1 e _ fun H2 e2 => hb H2 (e.trans e2) _ fun H3 e3 => ⟨x, .ty n, _, _, b, rfl, .ty n, ht H3 ((e.trans e2).trans e3), kit_ty hk, q H3 (e2.trans e3)⟩
theorem rv_le {i j : Int} {H : Hp} : RV (rI0 fun i j => .bl (decide (i ≤ j))) (.int i) (.int j) H (.bl (decide (i ≤ j))) := rv_I0
/-- a rising list of places below n -/
def Rising (n : Int) (ns : List Int) : Prop := (∀ x ∈ ns, 0 ≤ x ∧ x < n) ∧ ns.Pairwise (· < ·)

/-- [[..] for y in ys], ys whole numbers: new rows -/
theorem lc_rowsL {K : PySem.W.Frag} {nn : Nat} {te : TE} {vs : List Nat} {j : Nat} {σ : L2.St} {H : Hp} {Q : VK} {a : Addr} {ys : List Int} (F : Int → List Int) (hσ : σ[nn]? = some (some (.ref a))) (hx : H a = some (.lst (ys.map V.int))) (hm : ys.length ≤ 1000) (hw : ∀ u, wipe ((wipe σ vs).set j (some u)) vs = wipe σ vs)
    (he : ∀ y H1, y ∈ ys → Ex H H1 → EvL te ((wipe σ vs).set j (some (.int y))) H1 ((F y).map V.int))
    (k : ∀ p as H2, H p = none → (∀ a ∈ as, H a = none) → as.Nodup → p ∉ as → Ex H H2 → Tab H2 p as (ys.map F) → Q (.ref p) H2) : tLc (iList K (tVar nn)) (gName j) tYes te vs σ H Q := by
  refine ⟨_, hσ, a, rfl, ⟨_, SqL.of hx⟩, fun D hD => ?_⟩
  refine lc_list (K := K) (a := a) (xs := ys.map V.int) (fun i H' => ∃ as, Ex H H' ∧ H' D = some (.lst (as.map V.ref)) ∧ RowsAt H' as ((ys.take i).map F) ∧ (∀ a ∈ as, H a = none) ∧ as.Nodup ∧ D ∉ as) ⟨[], Ex.new hD, upd_same, .nil, fun a ha => by simp at ha, List.nodup_nil, by simp⟩ (fun i H' _ ⟨_, p1, _⟩ => SqL.of (p1 _ _ hx)) (fun i x H' gx p => ?_) (fun H' p => ?_)
  · obtain ⟨as, p1, p2, p3, p4, p5, p6⟩ := p
    rw [List.getElem?_map] at gx
    obtain ⟨y, hy, rfl⟩ := Option.map_eq_some_iff.mp gx
    have hi := (List.getElem?_eq_some_iff.mp hy).1
    have el : as.length = i := by rw [Paired.length p3, List.length_map, List.length_take]; omega
    refine ⟨hw _, ?_⟩
    show te _ H' _
    refine he y H' (List.mem_of_getElem? hy) p1 H' (Ex.refl _) _ fun r H4 nr e4 hr => ?_
    have nrD : r ≠ D := fun z => by
      rw [z, p2] at nr
      cases nr
    refine ⟨_, e4 _ _ p2, ?_, as ++ [r], Ex.mut (p1.trans e4) hD, ?_, ?_, ?_, ?_, ?_⟩
    · rw [List.length_map, el]
      exact small1000 (by omega)
    · rw [upd_same, List.map_append]
      rfl
    · rw [take_snoc hy, List.map_append]
      refine paired_snoc (rows_but p3 fun b hb o g => ?_) ?_
      · rw [upd_ne (fun z => p6 (by rw [← z]; exact hb))]
        exact e4 _ _ g
      · rw [upd_ne nrD]
        exact hr
    · intro b hb
      rcases List.mem_append.mp hb with h | h
      · exact p4 b h
      · rw [show b = r by simpa using h]
        exact fresh_back p1 nr
    · refine List.nodup_append.mpr ⟨p5, by simp, fun b hb c hc z => ?_⟩
      have : c = r := by simpa using hc
      have hb' : r ∈ as := by rw [← this, ← z]; exact hb
      obtain ⟨x, _, hx'⟩ := paired_mem p3 hb'
      rw [nr] at hx'
      cases hx'
    · intro hb
      rcases List.mem_append.mp hb with h | h
      · exact p6 h
      · exact nrD (by simpa using h : D = r).symm
  · obtain ⟨as, p1, p2, p3, p4, p5, p6⟩ := p
    rw [List.length_map, List.take_length] at p3
    exact k D as H' hD p4 p5 p6 p1 ⟨p2, p3⟩
/-- [f(y) for y in ys], ys whole numbers -/
theorem el_mapI {K : PySem.W.Frag} {n : Nat} {te : TE} {vs : List Nat} {j : Nat} {σ : L2.St} {H : Hp} {a : Addr} {qs : List Int} (f : Int → Int) (hσ : σ[n]? = some (some (.ref a))) (hx : H a = some (.lst (qs.map V.int))) (hz : qs.length ≤ 1000)
    (hw : ∀ u, wipe ((wipe σ vs).set j (some u)) vs = wipe σ vs)
    (he : ∀ y H1, y ∈ qs → Ex H H1 → Ev te ((wipe σ vs).set j (some (.int y))) H1 (.int (f y))) : EvL (tLc (iList K (tVar n)) (gName j) tYes te vs) σ H ((qs.map f).map V.int) := fun H1 e1 Q q => by
  have hx1 := e1 _ _ hx
  refine ⟨_, hσ, a, rfl, ⟨_, SqL.of hx1⟩, fun D hD => ?_⟩
  refine lc_list (K := K) (a := a) (xs := qs.map V.int) (fun i H' => Ex H1 H' ∧ H' D = some (.lst (((qs.map f).take i).map V.int))) ⟨Ex.new hD, upd_same⟩ (fun i H' _ p => SqL.of (p.1 _ _ hx1)) (fun i x H' gx p => ?_) (fun H' p => ?_)
  · obtain ⟨p1, p2⟩ := p
    rw [List.getElem?_map] at gx
    obtain ⟨b, hb, rfl⟩ := Option.map_eq_some_iff.mp gx
    refine ⟨hw _, ?_⟩
    show te _ _ _
    refine he b H (List.mem_of_getElem? hb) (Ex.refl H) _ (e1.trans p1) _ fun H4 e4 => ?_
    refine ⟨_, e4 _ _ p2, ?_, Ex.mut (p1.trans e4) hD, ?_⟩
    · rw [List.length_map, List.length_take, List.length_map]
      exact small1000 (by omega)
    · have hzz : (qs.map f)[i]? = some (f b) := by rw [List.getElem?_map, hb]; rfl
      rw [upd_same, take_snoc hzz, List.map_append]
      rfl
  · obtain ⟨p1, p2⟩ := p
    rw [List.take_of_length_le (by rw [List.length_map, List.length_map]; omega)] at p2
    exact q D H' hD p1 p2
theorem TabOk.row {H : Hp} {p : Addr} {as : List Addr} {rows : List (List Int)} {m w : Nat} (h : TabOk H p as rows m w) {i : Int} (h0 : 0 ≤ i) (h1 : i < m) : ∃ a r, atI (as.map V.ref) i = some (.ref a) ∧ rows[i.toNat]? = some r ∧ H a = some (.lst (r.map V.int)) ∧ r.length = w := by
  have hl := h.al
  obtain ⟨a, ha⟩ : ∃ a, as[i.toNat]? = some a := ⟨_, List.getElem?_eq_getElem (by omega)⟩
  obtain ⟨r, hr, hh⟩ := paired_get h.tab.2 ha
  exact ⟨a, r, at_of (j := i.toNat) (by omega) (by rw [List.getElem?_map, ha]; rfl), hr, hh, h.w_ r (List.mem_of_getElem? hr)⟩
theorem atI_rowI {ns : List Int} {i : Int} (h0 : 0 ≤ i) (h : i < ns.length) : atI (ns.map V.int) i = some (.int (ns[i.toNat]?.getD 0)) := by
  have e : i = ((i.toNat : Nat) : Int) := by omega
  have h2 := atI_row (ns := ns) (kk := i.toNat) (by omega)
  rw [← e] at h2
  exact h2

/-- [[..] for x, row in zip(xs, rows)]: new rows -/
theorem lc_rowsZ {K : PySem.W.Frag} {ta : TA} {te : TE} {vs : List Nat} {j1 j2 : Nat} {σ : L2.St} {H : Hp} {Q : VK} {a b : Addr} {xs : List Int} {as : List Addr} {rows : List (List Int)} (F : Int → List Int → List Int) (h : EvA ta σ H [.ref a, .ref b]) (hx : H a = some (.lst (xs.map V.int))) (ht : Tab H b as rows) (hl : xs.length = rows.length) (hz : xs.length ≤ 1000)
    (hw : ∀ u v, wipe (((wipe σ vs).set j1 (some u)).set j2 (some v)) vs = wipe σ vs)
    (he : ∀ x c r H1, x ∈ xs → r ∈ rows → H c = some (.lst (r.map V.int)) → Ex H H1 → EvL te (((wipe σ vs).set j1 (some (.int x))).set j2 (some (.ref c))) H1 ((F x r).map V.int))
    (k : ∀ p bs H2, H p = none → (∀ a ∈ bs, H a = none) → bs.Nodup → p ∉ bs → Ex H H2 → Tab H2 p bs (List.zipWith F xs rows) → Q (.ref p) H2) : tLc (iZip K ta) (g2 K j1 j2) tYes te vs σ H Q := by
  refine h H (Ex.refl H) _ fun H1 e1 => ⟨a, b, _, _, rfl, SqL.of (e1 _ _ hx), SqL.of (e1 _ _ ht.1), fun D hD => ?_⟩
  have hDH : H D = none := fresh_back e1 hD
  have el0 : as.length = rows.length := Paired.length ht.2
  refine lc_zip (xs := xs.map V.int) (ys := as.map V.ref) (by rw [List.length_map, List.length_map, el0]; exact hl) (fun i H' => ∃ bs, Ex H1 H' ∧ H' D = some (.lst (bs.map V.ref)) ∧ RowsAt H' bs ((List.zipWith F xs rows).take i) ∧ (∀ a ∈ bs, H a = none) ∧ bs.Nodup ∧ D ∉ bs) ⟨[], Ex.new hD, upd_same, .nil, fun a ha => by simp at ha, List.nodup_nil, by simp⟩ (fun i H' ⟨_, p1, _⟩ => ⟨SqL.of ((e1.trans p1) _ _ hx), SqL.of ((e1.trans p1) _ _ ht.1)⟩) (fun i x y T H' gx gy p nT => ?_) (fun H' p => ?_)
  · obtain ⟨bs, p1, p2, p3, p4, p5, p6⟩ := p
    rw [List.getElem?_map] at gx gy
    obtain ⟨x', hx', rfl⟩ := Option.map_eq_some_iff.mp gx
    obtain ⟨c, hc, rfl⟩ := Option.map_eq_some_iff.mp gy
    obtain ⟨r, hr, hh⟩ := paired_get ht.2 hc
    have hi := (List.getElem?_eq_some_iff.mp hx').1
    have el : bs.length = i := by rw [Paired.length p3, List.length_take, List.length_zipWith]; omega
    have xT : Ex H' (upd H' T (.tup [.int x', .ref c])) := Ex.new nT
    refine ⟨T, _, rfl, SqT.of upd_same, rfl, _, _, rfl, _, _, rfl, rfl, hw _ _, ?_⟩
    show te _ _ _
    refine he x' c r H (List.mem_of_getElem? hx') (List.mem_of_getElem? hr) hh (Ex.refl H) _ ((e1.trans p1).trans xT) _ fun q H4 nq e4 hq => ?_
    have nqD : q ≠ D := fun z => by
      rw [z, xT _ _ p2] at nq
      cases nq
    have nqH' : H' q = none := fresh_back xT nq
    refine ⟨_, e4 _ _ (xT _ _ p2), ?_, bs ++ [q], Ex.mut ((p1.trans xT).trans e4) hD, ?_, ?_, ?_, ?_, ?_⟩
    · rw [List.length_map, el]
      exact small1000 (by omega)
    · rw [upd_same, List.map_append]
      rfl
    · have hzz : (List.zipWith F xs rows)[i]? = some (F x' r) := by rw [List.getElem?_zipWith, hx', hr]
      rw [take_snoc hzz]
      refine paired_snoc (rows_but p3 fun b hb o g => ?_) ?_
      · rw [upd_ne (fun z => p6 (by rw [← z]; exact hb))]
        exact e4 _ _ (xT _ _ g)
      · rw [upd_ne nqD]
        exact hq
    · intro b hb
      rcases List.mem_append.mp hb with h | h
      · exact p4 b h
      · rw [show b = q by simpa using h]
        exact fresh_back (e1.trans p1) nqH'
    · refine List.nodup_append.mpr ⟨p5, by simp, fun b hb c' hc' z => ?_⟩
      have : c' = q := by simpa using hc'
      have hb' : q ∈ bs := by rw [← this, ← z]; exact hb
      obtain ⟨y, _, hy⟩ := paired_mem p3 hb'
      rw [nqH'] at hy
      cases hy
    · intro hb
      rcases List.mem_append.mp hb with h | h
      · exact p6 h
      · exact nqD (by simpa using h : D = q).symm
  · obtain ⟨bs, p1, p2, p3, p4, p5, p6⟩ := p
    rw [List.take_of_length_le (by rw [List.length_zipWith, List.length_map]; omega)] at p3
    exact k D bs H' hDH p4 p5 p6 (e1.trans p1) ⟨p2, p3⟩
theorem flat_ints (ns : List Int) : (ns.map V.int).all flatV = true := by
  rw [List.all_eq_true]
  intro x hx
  obtain ⟨i, _, rfl⟩ := List.mem_map.mp hx
  rfl
/-- -1 at the picked places, else 1 -/
def sgnAt (ns : List Int) (kk : Nat) : Int := if inV (.int (kk : Int)) (ns.map V.int) = true then -1 else 1
theorem sgnAt_two (ns : List Int) (kk : Nat) : sgnAt ns kk = 1 ∨ sgnAt ns kk = -1 := by
  unfold sgnAt
  split
  · exact .inr rfl
  · exact .inl rfl
def sgns (ns : List Int) (m : Nat) : List Int := (List.range m).map (sgnAt ns)
theorem sgns_mem {ns : List Int} {m : Nat} {x : Int} (h : x ∈ sgns ns m) : x = 1 ∨ x = -1 := by
  obtain ⟨kk, _, rfl⟩ := List.mem_map.mp h
  exact sgnAt_two ns kk
def signedOf (rows : List (List Int)) (ris cis : List Int) (m w : Nat) : List (List Int) := List.zipWith (fun s r => List.zipWith (fun c y => s * c * y) (sgns cis w) r) (sgns ris m) rows
theorem bd_sgn {x : Int} (h : x = 1 ∨ x = -1) : Bd 2 x := by
  rcases h with rfl | rfl <;> (unfold Bd; decide)
/-! ### NoPick -/
def RaiseTM (C : Addr) (H : Hp) (i : Int) (E : XK) : Prop := ∀ d H', Ex H H' → H' d = some (.xd [("many", .int i)]) → E (.ref C) (some d) H'
theorem RaiseTM.ex {C : Addr} {H H1 : Hp} {i : Int} {E : XK} (h : RaiseTM C H i E) (e : Ex H H1) : RaiseTM C H1 i E := fun d H' e' => h d H' (e.trans e')
def spTM (K : PySem.W.Frag) : Sp := fun vs H Q _ => ∃ (a C CS : Addr) (i : Int), vs = [.ref a, .int i] ∧ OwnA K C CS ∧ PySem.W.findIn K (.ref C) "many" = some none ∧ i.natAbs.log2 < 1920 ∧ H a = some (exo a C none) ∧ ∀ dx, H dx = none → dx ≠ a → Q .non (upd (upd H dx (exd dx [("many", .int i)])) a (exo a C (some dx)))
theorem tm_made {K : PySem.W.Frag} {C CS : Addr} (own : OwnA K C CS) (no : PySem.W.findIn K (.ref C) "many" = some none) {H1 : Hp} {i : Int} {W : XK} (hi : i.natAbs.log2 < 1920) (h : RaiseTM C H1 i W) :
    [V.int i].length ≤ 1000 ∧ ∀ a, H1 a = none → spTM K (.ref a :: [V.int i]) (upd H1 a (exo a C none))
      (fun v H2 => v = .non ∧ ∃ (d : Addr) (fs : List (Str × V)), H2 a = some (exo a C (some d)) ∧ H2 d = some (exd d fs) ∧ H1 d = none ∧ W (.ref C) (some d) (upd (del H2 a) d (.xd fs))) (fun _ _ _ => False) := by
  refine ⟨(by show 1 ≤ 1000; decide), fun a ha => ⟨a, C, CS, i, rfl, own, no, hi, upd_same, fun dx hd nd => ⟨rfl, dx, [("many", .int i)], upd_same, ?_, ?_, ?_⟩⟩⟩
  · rw [upd_ne nd]
    exact upd_same
  · rw [upd_ne nd] at hd
    exact hd
  · rw [upd_ne nd] at hd
    exact h dx _ (fun b o hb => excH_keep ha hd hb) excH_at
theorem log_small {i : Int} (h : -1 ≤ i) (h2 : i ≤ 100) : i.natAbs.log2 < 1920 := by
  by_cases z : i.natAbs = 0
  · rw [z]
    decide
  · exact (Nat.log2_lt z).mpr (Nat.lt_of_le_of_lt (show i.natAbs ≤ 100 by omega) (by decide +kernel))
theorem int_text_small {i : Int} (h : i.natAbs.log2 < 1920) : (Str.ofString (toString i)).length ≤ 1000 := by
  have h2 : i.natAbs < 10 ^ 600 := by
    by_cases z : i.natAbs = 0
    · rw [z]; decide +kernel
    · exact Nat.lt_of_lt_of_le ((Nat.log2_lt z).mp h) (by decide +kernel)
  have e := PySem.int_text_length_le10 (k := 600) (by decide) h2
  rw [PySem.ofString_length]
  omega

section
variable {P : Program} {w : World} {K : PySem.W.Frag} {mg : Str → Option Value} {base : Heap}
-- TODO init_NoTree
-- TODO init_NoArcs
-- DEF is_whole

def sp_is_whole (K : PySem.W.Frag) : Sp := fun vs H Q _ => ∃ (x : V) (t : String), vs = [x] ∧ TyX K H x (.type t) ∧ tyOk t ∧ Q (.bl (t == "int")) H

theorem ok_is_whole (T : Txt K mg) : FnOk P w K mg base CX0 1 T.f_is_whole T.fd_is_whole ["thing"] (sp_is_whole K) := by
  refine Fun.ok T.F_is_whole sc_is_whole (fun vs H Q E h => ?_) (fun cdv A outer s H vs Q E hr h => ?_)
  · obtain ⟨_, _, rfl, _⟩ := h; rfl
  · refine ⟨_, (pss_one (ps_ret (pe_and (pe_callB (id := "isinstance") (r := rIsi K) call_isi (by rfl) T.n_isinstance (by decide +kernel) (pa_cons (pv 0) (pa_cons (pe_bltn (v := .ty "int") (by rfl) T.n_int (by decide +kernel) rfl) pa_nil))) (pe_one (pe_not (pe_callB (id := "isinstance") (r := rIsi K) call_isi (by rfl) T.n_isinstance (by decide +kernel) (pa_cons (pv 0) (pa_cons (pe_bltn (v := .ty "bool") (by rfl) T.n_bool (by decide +kernel) rfl) pa_nil)))))))), ?_⟩
    obtain ⟨x, t, rfl, ty, ok, q⟩ := h
    refine ⟨x, rfl, x, _, _, _, _, rfl, ClsV.ty _, ty, kit_ty (ty_int ok), _, rfl, ?_⟩
    rcases ok with rfl | rfl | rfl | rfl | rfl | rfl | rfl
    · exact iteT ⟨x, rfl, x, _, _, _, _, rfl, ClsV.ty _, ty, kit_ty (ty_bool (.inl rfl)), _, rfl, q⟩
    · exact iteT ⟨x, rfl, x, _, _, _, _, rfl, ClsV.ty _, ty, kit_ty (ty_bool (.inr (.inl rfl))), _, rfl, q⟩
    all_goals exact iteF q
-- DEF joined
theorem paired_app {α β : Type} {R : α → β → Prop} : ∀ {xs : List α} {ys : List β} {xs2 : List α} {ys2 : List β}, Paired R xs ys → Paired R xs2 ys2 → Paired R (xs ++ xs2) (ys ++ ys2)
  | _, _, _, _, .nil, h => h
  | _, _, _, _, .cons a t, h => .cons a (paired_app t h)
theorem paired_take {α β : Type} {R : α → β → Prop} : ∀ {xs : List α} {ys : List β} (n : Nat), Paired R xs ys → Paired R (xs.take n) (ys.take n)
  | _, _, 0, _ => by rw [List.take_zero, List.take_zero]; exact .nil
  | _, _, n + 1, .nil => by rw [List.take_nil, List.take_nil]; exact .nil
  | _, _, n + 1, .cons a t => .cons a (paired_take n t)
theorem el_cat {ta tb : TE} {σ : L2.St} {H : Hp} {xs ys : List V} (ha : EvL ta σ H xs) (hb : EvL tb σ H ys) (hz : xs.length + ys.length ≤ 100000) : EvL (tOp rCat ta tb) σ H (xs ++ ys) := fun H1 e Q q =>
  ha H1 e _ fun p H2 np e2 hp => hb H2 (e.trans e2) _ fun r H3 nr e3 hr => ⟨p, r, xs, ys, rfl, rfl, e3 _ _ hp, hr, sz_of hz, fun l nl => q l _ (fresh_back (e2.trans e3) nl) ((e2.trans e3).trans (Ex.new nl)) upd_same⟩
theorem paired_drop {α β : Type} {R : α → β → Prop} : ∀ {xs : List α} {ys : List β} (n : Nat), Paired R xs ys → Paired R (xs.drop n) (ys.drop n)
  | _, _, 0, h => h
  | _, _, n + 1, .nil => by rw [List.drop_nil, List.drop_nil]; exact .nil
  | _, _, n + 1, .cons a t => paired_drop n t

theorem six_at {n j : Nat} (hj : j < n) (h8 : n ≤ 8) : HT.sIx n n (some (j : Int)) = j := by
  have hn : n = 1 ∨ n = 2 ∨ n = 3 ∨ n = 4 ∨ n = 5 ∨ n = 6 ∨ n = 7 ∨ n = 8 := by omega
  have hm : j = 0 ∨ j = 1 ∨ j = 2 ∨ j = 3 ∨ j = 4 ∨ j = 5 ∨ j = 6 ∨ j = 7 := by omega
  rcases hn with rfl | rfl | rfl | rfl | rfl | rfl | rfl | rfl <;> rcases hm with rfl | rfl | rfl | rfl | rfl | rfl | rfl | rfl <;> first | rfl | omega
theorem six_at1 {n j : Nat} (hj : j < n) (h8 : n ≤ 8) : HT.sIx n 0 (some ((j : Int) + 1)) = j + 1 := by
  have hn : n = 1 ∨ n = 2 ∨ n = 3 ∨ n = 4 ∨ n = 5 ∨ n = 6 ∨ n = 7 ∨ n = 8 := by omega
  have hm : j = 0 ∨ j = 1 ∨ j = 2 ∨ j = 3 ∨ j = 4 ∨ j = 5 ∨ j = 6 ∨ j = 7 := by omega
  rcases hn with rfl | rfl | rfl | rfl | rfl | rfl | rfl | rfl <;> rcases hm with rfl | rfl | rfl | rfl | rfl | rfl | rfl | rfl <;> first | rfl | omega
theorem cut_outR (l : List Addr) {j : Nat} (hj : j < l.length) (h8 : l.length ≤ 8) : cutV (l.map V.ref) none (some (j : Int)) ++ cutV (l.map V.ref) (some ((j : Int) + 1)) none = (l.take j ++ l.drop (j + 1)).map V.ref := by
  have e0 : HT.sIx (l.map V.ref).length 0 none = 0 := rfl
  have e1 : HT.sIx (l.map V.ref).length (l.map V.ref).length none = (l.map V.ref).length := rfl
  have e2 : HT.sIx (l.map V.ref).length (l.map V.ref).length (some (j : Int)) = j := by
    rw [List.length_map]
    exact six_at hj h8
  have e3 : HT.sIx (l.map V.ref).length 0 (some ((j : Int) + 1)) = j + 1 := by
    rw [List.length_map]
    exact six_at1 hj h8
  unfold cutV
  rw [e0, e1, e2, e3, List.drop_zero, Nat.sub_zero, List.map_append, List.map_take, List.map_drop]
  congr 1
  exact List.take_of_length_le (by rw [List.length_drop, List.length_map]; exact Nat.le_refl _)

/-- all ends but one -/
def but {α : Type} (es : List α) (i : Nat) : List α := es.take i ++ es.drop (i + 1)
theorem el_rgL {te : TE} {σ : L2.St} {H : Hp} {k : Nat} (h : Ev te σ H (.int (k : Int))) (hk : k ≤ 1000) : EvL (tLstRg (tRg1 te)) σ H ((numsTo k).map V.int) := fun H1 e Q q => h H1 e _ fun H2 e2 => ⟨_, rfl, by unfold RgOk; omega, fun p np => by
  rw [rgV_nums, Int.toNat_natCast]
  exact q p _ (fresh_back e2 np) (e2.trans (Ex.new np)) upd_same⟩
def sd (es : Gr.Edges) (i : Nat) (x : Int) : Int := if Gr.joins (but es i) id x = Gr.joins (but es i) id (es[i]?.getD (0, 0)).1 then 1 else 0
def netT (es qs : Gr.Edges) : List (List Int) := (List.range es.length).map fun i => qs.map fun f => sd es i f.1 - sd es i f.2
def Tree (es : Gr.Edges) : Prop := 1 ≤ es.length ∧ es.length ≤ 8 ∧ (∀ e ∈ es, 0 ≤ e.1 ∧ e.1 ≤ es.length ∧ 0 ≤ e.2 ∧ e.2 ≤ es.length) ∧ (∀ a ∈ numsTo (es.length + 1), ∀ b ∈ numsTo (es.length + 1), Gr.Same es a b)
/-- the list of the groups of so many places -/
def grpL (k : Nat) (g : Int → Int) : List Int := (numsTo k).map g
theorem grp_len {k : Nat} {g : Int → Int} : (grpL k g).length = k := by
  unfold grpL
  rw [List.length_map, numsTo_length]
theorem grp_at {k : Nat} {g : Int → Int} {a : Int} (h0 : 0 ≤ a) (h1 : a < k) : atI ((grpL k g).map V.int) a = some (.int (g a)) := by
  refine at_of (j := a.toNat) (by omega) ?_
  unfold grpL numsTo
  rw [List.getElem?_map, List.getElem?_map, List.getElem?_map, List.getElem?_range (by omega)]
  show some (V.int (g ((a.toNat : Nat) : Int))) = _
  rw [Int.toNat_of_nonneg h0]
def sp_joined (K : PySem.W.Frag) : Sp := fun vs H Q _ => ∃ (p : Addr) (k : Nat) (g : Int → Int) (a b : Int), vs = [.ref p, .int a, .int b] ∧ H p = some (.lst ((grpL k g).map V.int)) ∧ k ≤ 1000 ∧ 0 ≤ a ∧ a < k ∧ 0 ≤ b ∧ b < k ∧
  ∀ q H', H q = none → Ex H H' → H' q = some (.lst ((grpL k (Gr.join g a b)).map V.int)) → Q (.ref q) H'

theorem ok_joined (T : Txt K mg) : FnOk P w K mg base CX0 1 T.f_joined T.fd_joined ["groups", "one", "other"] (sp_joined K) := by
  refine Fun.ok T.F_joined sc_joined (fun vs H Q E h => ?_) (fun cdv A outer s H vs Q E hr h => ?_)
  · obtain ⟨_, _, _, _, _, rfl, _⟩ := h; rfl
  · refine ⟨_, (pss_one (ps_ret (pe_lc (own := [("group", 3)]) (wi := iList K _) (g := gName 3) (tt := tYes) rfl sc_joined.nd (pi_list (pv 0)) (blkOk_by (N := ["groups", "one", "other", "group"]) (sc := (defScope s_joined)) (by decide +kernel)) (fun _ _ _ _ _ => pg_name (i := 3) sc_joined.nd rfl (Or.inl rfl)) (fun _ _ _ _ _ => pts_nil) (fun _ _ _ _ _ => (pe_ifExp (pt_cmpR op_eq (pv 3) (pe_ix (r := rIxL K) ix_list (pv 0) (pv 2) (fun _ _ => rfl)) (nomark _)) (pe_ix (r := rIxL K) ix_list (pv 0) (pv 1) (fun _ _ => rfl)) (pv 3)))))), ?_⟩
    obtain ⟨p, k, g, a, b, rfl, hp, hk, a0, a1, b0, b1, kk⟩ := h
    refine s_retL (el_mapI (K := K) (n := 0) (fun x => if x = g b then g a else x) rfl hp (by rw [grp_len]; exact hk) (fun u => rfl) fun y H1 hy e1 => ?_) fun q H1 nq e1 hq => kk q H1 nq e1 ?_
    · refine ev_if (b := decide (y = g b)) (et_is (et_test (ev_op (ev_var rfl) (ev_op (ev_var rfl) (ev_var rfl) (rv_ixL (SqL.of (e1 _ _ hp)) (grp_at b0 b1))) (rv_eq rfl))) ?_) (fun z => ?_) (fun z => ?_)
      · by_cases c : y = g b
        · rw [c, decide_eq_true rfl, decide_eq_true rfl]
        · rw [decide_eq_false c, decide_eq_false (fun z => c (V.int.inj z))]
      · rw [if_pos (of_decide_eq_true z)]
        exact ev_op (ev_var rfl) (ev_var rfl) (rv_ixL (SqL.of (e1 _ _ hp)) (grp_at a0 a1))
      · rw [if_neg (of_decide_eq_false z)]
        exact ev_var rfl
    · have e : (grpL k g).map (fun x => if x = g b then g a else x) = grpL k (Gr.join g a b) := by
        unfold grpL
        rw [List.map_map]
        rfl
      rw [hq, e]
-- DEF _law_source_of

def sp__law_source_of (K : PySem.W.Frag) : Sp := fun vs H Q _ => ∃ c : Int, vs = [.int c] ∧ ∀ (s : Addr) (H' : Hp), H s = none → Ex H H' → SrcAt H' s 0 → Q (.ref s) H'

theorem ok__law_source_of (T : Txt K mg) : FnOk P w K mg base CX0 1 T.f__law_source_of T.fd__law_source_of ["_law_cell"] (sp__law_source_of K) := by
  refine Fun.ok T.F__law_source_of sc__law_source_of (fun vs H Q E h => ?_) (fun cdv A outer s H vs Q E hr h => ?_)
  · obtain ⟨_, rfl, _⟩ := h; rfl
  · refine ⟨_, (pss_one (ps_ret (pe_lst (pa_cons (pe_op op_mul (pv 0) (pe_callTy (T := "int") call_int1 (by rfl) T.n_int (by decide +kernel) (pa_cons (pe_cmpR op_ge (pv 0) (pe_op op_pow pe_int pe_int) (nomark _)) pa_nil))) (pa_cons (pe_op op_mod (pv 0) pe_int) (pa_cons pe_int pa_nil)))))), ?_⟩
    obtain ⟨c, rfl, k⟩ := h
    refine ⟨_, rfl, _, rfl, _, _, rfl, rfl, ⟨by decide, by decide, by decide⟩, _, _, rfl, rfl, .inr ⟨_, rfl, _, _, rfl, rfl, .inr ?_, ?_⟩⟩
    · split <;> exact ⟨by decide, by decide⟩
    refine ⟨_, rfl, _, _, rfl, rfl, (by show (0 : Int) < 2147483647; decide), (by show 3 ≤ sizeLine; decide), fun s hs => ?_⟩
    exact k s _ hs (Ex.new hs) ⟨_, _, _, upd_same, Int.emod_nonneg _ (by decide), Int.emod_lt_of_pos _ (by decide), Int.le_refl _, Int.le_refl _⟩
-- DEF _law_next

def sp__law_next (K : PySem.W.Frag) : Sp := fun vs H Q _ => ∃ (s : Addr) (m n : Int), vs = [.ref s, .int m] ∧ SrcAt H s n ∧ n ≤ 1000000000 ∧ 0 < m ∧ Bd 8000 m ∧
  ∀ (f : Int) (H' : Hp), 0 ≤ f → f < m → ExB s H H' → SrcAt H' s (n + 1) → Q (.int f) H'

theorem ok__law_next (T : Txt K mg) : FnOk P w K mg base CX0 1 T.f__law_next T.fd__law_next ["_law_source", "_law_many"] (sp__law_next K) := by
  refine Fun.ok T.F__law_next sc__law_next (fun vs H Q E h => ?_) (fun cdv A outer s H vs Q E hr h => ?_)
  · obtain ⟨_, _, _, rfl, _⟩ := h; rfl
  · refine ⟨_, (pss_cons (ps_if (pt_cmpR op_gt (pe_ix (r := rIxL K) ix_list (pv 0) pe_int (fun _ _ => rfl)) pe_int (nomark _))
        (pss_cons (ps_set (i := 2) sc__law_next.nd rfl (by first | exact Or.inl rfl | exact Or.inr rfl) (pe_op op_mod (pe_ix (r := rIxL K) ix_list (pv 0) pe_int (fun _ _ => rfl)) (pv 1)))
          (pss_cons (ps_asg (pe_op op_fdivW (pe_ix (r := rIxL K) ix_list (pv 0) pe_int (fun _ _ => rfl)) (pv 1)) (pg_sub (pv 0) pe_int set_list))
          (pss_one (ps_ret (pv 2)))))
        pss_nil)
      (pss_cons (ps_asg (pe_op op_add (pe_ix (r := rIxL K) ix_list (pv 0) pe_int (fun _ _ => rfl)) pe_int) (pg_sub (pv 0) pe_int set_list))
      (pss_cons (ps_set (i := 3) sc__law_next.nd rfl (by first | exact Or.inl rfl | exact Or.inr rfl) (pe_ix (r := rIxL K) ix_list (pe_lst (pa_cons pe_int (pa_cons pe_int (pa_cons pe_int (pa_cons pe_int (pa_cons pe_int (pa_cons pe_int (pa_cons pe_int pa_nil)))))))) (pe_op op_mod (pe_ix (r := rIxL K) ix_list (pv 0) pe_int (fun _ _ => rfl)) pe_int) (fun _ _ => rfl)))
      (pss_cons (ps_set (i := 4) sc__law_next.nd rfl (by first | exact Or.inl rfl | exact Or.inr rfl) (pe_op op_mod (pe_op op_pow (pe_op op_add (pe_op op_add (pe_ix (r := rIxL K) ix_list (pv 0) pe_int (fun _ _ => rfl)) (pe_op op_mul pe_int (pe_ix (r := rIxL K) ix_list (pv 0) pe_int (fun _ _ => rfl)))) pe_int) pe_int) (pv 3)))
      (pss_cons (ps_set (i := 4) sc__law_next.nd rfl (by first | exact Or.inl rfl | exact Or.inr rfl) (pe_op op_mod (pe_op op_mul (pe_op op_add (pv 4) (pe_ix (r := rIxL K) ix_list (pv 0) pe_int (fun _ _ => rfl))) (pe_op op_add (pe_op op_fdiv (pv 4) pe_int) pe_int)) (pv 3)))
      (pss_one (ps_ret (pe_op op_mod (pe_op op_fdiv (pv 4) pe_int) (pv 1))))))))), ?_⟩
    obtain ⟨s, m, n, rfl, ⟨p, u, r, hs, hu0, hu1, hr0, hr1⟩, hn, hm, bm, k⟩ := h
    refine ⟨_, rfl, s, _, _, _, rfl, rfl, SqL.of hs, rfl, _, _, rfl, rfl, _, rfl, ?_⟩
    refine ite2 (fun hp => ?_) (fun _ => ?_)
    · refine ⟨_, rfl, s, _, _, _, rfl, rfl, SqL.of hs, rfl, _, rfl, _, _, rfl, rfl, hm, ?_⟩
      refine ⟨_, rfl, s, _, _, _, rfl, rfl, SqL.of hs, rfl, _, rfl, _, _, rfl, rfl, Bd.divOk hm (bm.mono (by decide : 8000 ≤ 9000)), ?_⟩
      refine ⟨_, rfl, s, _, _, 0, rfl, rfl, hs, rfl, ?_⟩
      refine ⟨_, rfl, ?_⟩
      exact k _ _ (Int.emod_nonneg _ (by omega)) (Int.emod_lt_of_pos _ hm) (ExB.upd _ _ _) ⟨_, _, _, upd_same, hu0, hu1, hr0, by omega⟩
    · refine ⟨_, rfl, s, _, _, _, rfl, rfl, SqL.of hs, rfl, _, _, rfl, rfl, ?_⟩
      refine ⟨_, rfl, s, _, _, 2, rfl, rfl, hs, rfl, ?_⟩
      have hs2 : upd H s (.lst [.int p, .int u, .int (r + 1)]) s = some (.lst [.int p, .int u, .int (r + 1)]) := upd_same
      show tSeq _ _ _ _ (upd H s (.lst [.int p, .int u, .int (r + 1)]))
      generalize hH : upd H s (.lst [.int p, .int u, .int (r + 1)]) = H2 at hs2 ⊢
      refine ⟨(by show 7 ≤ sizeLine; decide), fun l hl => ?_⟩
      have nls : s ≠ l := ne_of_none hs2 hl
      have hs3 : upd H2 l (.lst [V.int 2147483647, V.int 2147483629, V.int 2147483587, V.int 2147483579, V.int 2147483563, V.int 2147483549, V.int 2147483543]) s = some (.lst [.int p, .int u, .int (r + 1)]) := by
        rw [upd_ne nls]
        exact hs2
      obtain ⟨pr, hpr, hp0, hp1⟩ := prime_at (r + 1) (by omega)
      refine ⟨_, rfl, s, _, _, _, rfl, rfl, SqL.of hs3, rfl, _, _, rfl, rfl, (by show (0 : Int) < 7; decide), l, _, _, _, rfl, rfl, SqL.of upd_same, hpr, ?_⟩
      have eH : ExB s H2 (upd H2 l (.lst [V.int 2147483647, V.int 2147483629, V.int 2147483587, V.int 2147483579, V.int 2147483563, V.int 2147483549, V.int 2147483543])) := ExB.of (Ex.new hl)
      generalize upd H2 l (.lst [V.int 2147483647, V.int 2147483629, V.int 2147483587, V.int 2147483579, V.int 2147483563, V.int 2147483549, V.int 2147483543]) = H3 at hs3 eH ⊢
      -- figure
      refine ⟨_, rfl, s, _, _, _, rfl, rfl, SqL.of hs3, rfl, _, rfl, s, _, _, _, rfl, rfl, SqL.of hs3, rfl, _, _, rfl, rfl, .inl ⟨by decide, by decide⟩, _, _, rfl, rfl, _, _, rfl, rfl, _, _, rfl, rfl, ⟨by decide, by decide, ?_⟩, ?_⟩
      · show (u + 7919 * (r + 1) + 1).natAbs < 2 ^ 64
        omega
      refine ⟨_, rfl, _, _, rfl, rfl, hp0, ?_⟩
      have f0 : 0 ≤ (u + 7919 * (r + 1) + 1) ^ (5 : Int).toNat % pr := Int.emod_nonneg _ (by omega)
      have f1 : (u + 7919 * (r + 1) + 1) ^ (5 : Int).toNat % pr < pr := Int.emod_lt_of_pos _ hp0
      show tSeq _ _ _ [some (.ref s), some (.int m), _, some (.int pr), some (.int ((u + 7919 * (r + 1) + 1) ^ (5 : Int).toNat % pr))] _
      generalize (u + 7919 * (r + 1) + 1) ^ (5 : Int).toNat % pr = f at f0 f1 ⊢
      refine ⟨_, rfl, _, rfl, s, _, _, _, rfl, rfl, SqL.of hs3, rfl, _, _, rfl, rfl, ?_⟩
      refine ⟨_, rfl, _, _, rfl, rfl, ⟨by decide, by decide⟩, _, _, rfl, rfl, _, _, rfl, rfl, .inl ?_, ?_⟩
      · constructor <;> omega
      refine ⟨_, rfl, _, _, rfl, rfl, hp0, ?_⟩
      refine ⟨_, rfl, _, _, rfl, rfl, ⟨by decide, by decide⟩, _, rfl, _, _, rfl, rfl, hm, ?_⟩
      refine k _ _ (Int.emod_nonneg _ (by omega)) (Int.emod_lt_of_pos _ hm) (ExB.trans ?_ eH) ⟨_, _, _, hs3, hu0, hu1, by omega, by omega⟩
      rw [← hH]
      exact ExB.upd _ _ _
-- DEF _law_cell_at

def sp__law_cell_at (K : PySem.W.Frag) : Sp := fun vs H Q _ => ∃ (a : Addr) (ns : List Int) (k : Int), vs = [.ref a, .int k] ∧ SqL K H a (ns.map V.int) ∧ 0 ≤ k ∧ ∀ c : Int, Q (.int c) H

theorem ok__law_cell_at (T : Txt K mg) : FnOk P w K mg base CX0 1 T.f__law_cell_at T.fd__law_cell_at ["_law_script", "_law_k"] (sp__law_cell_at K) := by
  refine Fun.ok T.F__law_cell_at sc__law_cell_at (fun vs H Q E h => ?_) (fun cdv A outer s H vs Q E hr h => ?_)
  · obtain ⟨_, _, _, rfl, _⟩ := h; rfl
  · refine ⟨_, (pss_cons (ps_if (pt_cmpR op_lt (pv 1) (pe_callB (id := "len") (r := rLenS K) call_len_seq (by rfl) T.n_len PySem.boot_len (pa_cons (pv 0) pa_nil)) (nomark _))
        (pss_one (ps_ret (pe_ix (r := rIxL K) ix_list (pv 0) (pv 1) (fun _ _ => rfl))))
        pss_nil)
      (pss_one (ps_ret pe_int))), ?_⟩
    obtain ⟨a, ns, k, rfl, hS, hk, q⟩ := h
    refine ⟨_, rfl, _, rfl, a, _, rfl, .inl hS, _, _, rfl, rfl, _, rfl, ?_⟩
    refine ite2 (fun hp => ?_) (fun _ => q 0)
    have hlt : k < ((ns.map V.int).length : Int) := of_decide_eq_true hp
    rw [List.length_map] at hlt
    have hn : k.toNat < ns.length := by omega
    have g : (ns.map V.int)[k.toNat]? = some (.int ns[k.toNat]) := by
      rw [List.getElem?_map, List.getElem?_eq_getElem hn]
      rfl
    refine ⟨_, rfl, _, rfl, a, _, k, _, rfl, rfl, hS, at_of (j := k.toNat) (by omega) g, ?_⟩
    exact q _
-- DEF is_row

def sp_is_row (K : PySem.W.Frag) : Sp := fun vs H Q _ => ∃ (a : Addr) (ns : List Int), vs = [.ref a] ∧ H a = some (.lst (ns.map V.int)) ∧ 1 ≤ ns.length ∧ ns.length ≤ 8 ∧ ∀ H', Ex H H' → Q (.bl true) H'

theorem ok_is_row (T : Txt K mg) : FnOk P w K mg base CX0 2 T.f_is_row T.fd_is_row ["thing"] (sp_is_row K) := by
  refine Fun.ok T.F_is_row sc_is_row (fun vs H Q E h => ?_) (fun cdv A outer s H vs Q E hr h => ?_)
  · obtain ⟨_, _, rfl, _⟩ := h; rfl
  · refine ⟨_, (pss_cons (ps_if (PW.pt (pw_or (pt_not (pt_val (pe_callB (id := "isinstance") (r := rIsi K) call_isi (by rfl) T.n_isinstance (by decide +kernel) (pa_cons (pv 0) (pa_cons (pe_bltn (v := .ty "list") (by rfl) T.n_list (by decide +kernel) rfl) pa_nil))))) (pw_or1 (pt_not (pt_chain op_le op_le pe_int (pe_callB (id := "len") (r := rLenS K) call_len_seq (by rfl) T.n_len PySem.boot_len (pa_cons (pv 0) pa_nil)) (pe_glob (v := .int 8) (by rfl) T.g_MOST ⟨_, rfl⟩))))))
        (pss_one (ps_ret pe_bl))
        pss_nil)
      (pss_one (ps_ret (pe_callB (id := "all") (r := rAll K) (cr_all rfl) (by rfl) T.n_all (by decide +kernel) (pa_cons (pe_lc (own := [("entry", 1)]) (wi := iList K _) (g := gName 1) (tt := tYes) rfl sc_is_row.nd (pi_list (pv 0)) (blkOk_by (N := ["thing", "entry"]) (sc := (defScope s_is_row)) (by decide +kernel)) (fun _ _ _ _ _ => pg_name (i := 1) sc_is_row.nd rfl (Or.inl rfl)) (fun _ _ _ _ _ => pts_nil) (fun _ _ _ _ _ => (pe_call (ok_is_whole T) hr (by rfl) T.g_is_whole T.k_is_whole T.b_is_whole .nil pass0 (pa_cons (pv 1) pa_nil)))) pa_nil))))), ?_⟩
    obtain ⟨a, ns, rfl, ha, h1, h8, k⟩ := h
    refine q_when (b := false) (et_is (et_or (et_not (et_B (ev_isi (t := "list") (b := true) (ev_var rfl) ev_c (fun H1 e => .base (.lst (e _ _ ha))) (by decide +kernel)))) (fun _ => et_not (et_test (ev_chain ev_c (ev_is (ev_len (ev_var rfl) (SqL.of ha)) (by rw [List.length_map])) ev_c rv_le rv_le)))) ?_) (fun z => nomatch z) (fun _ H1 e1 => ?_)
    · rw [decide_eq_true (show (1 : Int) ≤ (ns.length : Int) by omega), decide_eq_true (show (ns.length : Int) ≤ 8 by omega)]
      rfl
    refine s_ret (ev_all (el_yes (a := a) rfl (e1 _ _ ha) (by rw [List.length_map]; omega) (fun x H' hx e => ?_) (fun x => rfl))) fun H2 e2 => k H2 (e1.trans e2)
    obtain ⟨i, _, rfl⟩ := List.mem_map.mp hx
    exact ev_fn (ea_cons (ev_var rfl) ea_nil) fun H3 e3 Q3 q3 => ⟨_, "int", rfl, .base (.int _), .inl rfl, q3 H3 (Ex.refl _)⟩
-- DEF is_place

def sp_is_place (K : PySem.W.Frag) : Sp := fun vs H Q _ => ∃ (x n : Int), vs = [.int x, .int n] ∧ ∀ H', Ex H H' → Q (.bl (decide (0 ≤ x) && decide (x < n))) H'

theorem ok_is_place (T : Txt K mg) : FnOk P w K mg base CX0 2 T.f_is_place T.fd_is_place ["thing", "many"] (sp_is_place K) := by
  refine Fun.ok T.F_is_place sc_is_place (fun vs H Q E h => ?_) (fun cdv A outer s H vs Q E hr h => ?_)
  · obtain ⟨_, _, rfl, _⟩ := h; rfl
  · refine ⟨_, (pss_one (ps_ret (pe_and (pe_call (ok_is_whole T) hr (by rfl) T.g_is_whole T.k_is_whole T.b_is_whole .nil pass0 (pa_cons (pv 0) pa_nil)) (pe_one (pe_chain op_le op_lt pe_int (pv 0) (pv 1)))))), ?_⟩
    obtain ⟨x, n, rfl, k⟩ := h
    exact s_ret (ev_andV (a := true) (ev_fn (ea_cons (ev_var rfl) ea_nil) fun H3 e3 Q3 q3 => ⟨_, "int", rfl, .base (.int _), .inl rfl, q3 H3 (Ex.refl _)⟩) (fun _ => ev_chain ev_c (ev_var rfl) (ev_var rfl) rv_le rv_I0)) k
-- DEF first_side

def sp_first_side (K : PySem.W.Frag) : Sp := fun vs H Q _ => ∃ (p : Addr) (as : List Addr) (es : Gr.Edges) (i : Nat) (e : Int × Int), vs = [.ref p, .int i] ∧ H p = some (.lst (as.map V.ref)) ∧ EdgesAt H as es ∧ es.length ≤ 8 ∧ (∀ e ∈ es, 0 ≤ e.1 ∧ e.1 ≤ es.length ∧ 0 ≤ e.2 ∧ e.2 ≤ es.length) ∧ es[i]? = some e ∧
  ∀ q H', H q = none → Ex H H' → H' q = some (.lst ((grpL (es.length + 1) fun x => if Gr.joins (but es i) id x = Gr.joins (but es i) id e.1 then 1 else 0).map V.int)) → Q (.ref q) H'

theorem ok_first_side (T : Txt K mg) : FnOk P w K mg base CX0 2 T.f_first_side T.fd_first_side ["ends", "at"] (sp_first_side K) := by
  refine Fun.ok T.F_first_side sc_first_side (fun vs H Q E h => ?_) (fun cdv A outer s H vs Q E hr h => ?_)
  · obtain ⟨_, _, _, _, _, rfl, _⟩ := h; rfl
  · refine ⟨_, (pss_cut (ps_set (i := 2) sc_first_side.nd rfl (by first | exact Or.inl rfl | exact Or.inr rfl) (pe_listRg rfl (by rfl) T.n_list (prg_1 (by rfl) T.n_range (pe_op op_add (pe_callB (id := "len") (r := rLenS K) call_len_seq (by rfl) T.n_len PySem.boot_len (pa_cons (pv 0) pa_nil)) pe_int))))
      (pss_cons (ps_for PassesOwn.never rfl (pi_list (pe_op op_cat (pe_slice (r := rSlL K) sl_list (pv 0) po_none (po_some (pv 1))) (pe_slice (r := rSlL K) sl_list (pv 0) (po_some (pe_op op_add (pv 1) pe_int)) po_none))) (pg_tup rfl (pgs_cons (pg_name (i := 3) sc_first_side.nd rfl (by first | exact Or.inl rfl | exact Or.inr rfl)) (pgs_cons (pg_name (i := 4) sc_first_side.nd rfl (by first | exact Or.inl rfl | exact Or.inr rfl)) pgs_nil)))
        (pss_one (ps_set (i := 2) sc_first_side.nd rfl (by first | exact Or.inl rfl | exact Or.inr rfl) (pe_call (ok_joined T) hr (by rfl) T.g_joined T.k_joined T.b_joined .nil pass0 (pa_cons (pv 2) (pa_cons (pv 3) (pa_cons (pv 4) pa_nil)))))))
      (pss_cons (ps_asg (pe_ix (r := rIxL K) ix_list (pv 0) (pv 1) (fun _ _ => rfl)) (pg_tup rfl (pgs_cons (pg_name (i := 3) sc_first_side.nd rfl (by first | exact Or.inl rfl | exact Or.inr rfl)) (pgs_cons (pg_name (i := 5) sc_first_side.nd rfl (by first | exact Or.inl rfl | exact Or.inr rfl)) pgs_nil))))
      (pss_one (ps_ret (pe_lc (own := [("group", 6)]) (wi := iList K _) (g := gName 6) (tt := tYes) rfl sc_first_side.nd (pi_list (pv 2)) (blkOk_by (N := ["ends", "at", "groups", "start", "stop", "_", "group"]) (sc := (defScope s_first_side)) (by decide +kernel)) (fun _ _ _ _ _ => pg_name (i := 6) sc_first_side.nd rfl (Or.inl rfl)) (fun _ _ _ _ _ => pts_nil) (fun _ _ _ _ _ => (pe_ifExp (pt_cmpR op_eq (pv 6) (pe_ix (r := rIxL K) ix_list (pv 2) (pv 3) (fun _ _ => rfl)) (nomark _)) pe_int pe_int)))))))), ?_⟩
    obtain ⟨p, as, es, i, e, rfl, hp, hE, h8, hb, hi, k⟩ := h
    have hlt := (List.getElem?_eq_some_iff.mp hi).1
    have al : as.length = es.length := Paired.length hE
    have hbut : EdgesAt H (but as i) (but es i) := paired_app (paired_take i hE) (paired_drop (i + 1) hE)
    have bsub : ∀ f ∈ but es i, f ∈ es := fun f hf => (List.mem_append.mp hf).elim List.mem_of_mem_take List.mem_of_mem_drop
    refine ⟨fun σ' H' => ∃ pg, σ' = [some (.ref p), some (.int i), some (.ref pg), none, none, none, none] ∧ Ex H H' ∧ H' pg = some (.lst ((grpL (es.length + 1) id).map V.int)), ?_, ?_⟩
    · refine s_asgL (el_rgL (k := es.length + 1) (ev_is (ev_op (ev_len (ev_var rfl) (SqL.of hp)) ev_c rv_I0) (by rw [List.length_map, al, Int.natCast_add]; rfl)) (by omega)) fun pg H1 _ e1 h1 => ⟨pg, rfl, e1, ?_⟩
      rw [h1]
      unfold grpL
      rw [List.map_id]
    rintro σ' H1 ⟨pg, rfl, e1, hg⟩
    have lst := el_cat (ta := tSl (rSlL K) (tVar 0) tNoPart (tPart (tVar 1))) (tb := tSl (rSlL K) (tVar 0) (tPart (tOp (rI0 fun i j => .int (i + j)) (tVar 1) (tC (.int 1)))) tNoPart) (σ := [some (.ref p), some (.int i), some (.ref pg), none, none, none, none]) (H := H1) (el_sl (K := K) (ev_var rfl) eo_none (eo_some (ev_var rfl)) (SqL.of (e1 _ _ hp))) (el_sl (K := K) (ev_var rfl) (eo_some (ev_op (ev_var rfl) ev_c rv_I0)) eo_none (SqL.of (e1 _ _ hp))) (by
      have c1 := cutV_length (as.map V.ref) none (some (i : Int))
      have c2 := cutV_length (as.map V.ref) (some ((i : Int) + 1)) none
      rw [List.length_map] at c1 c2
      omega)
    rw [cut_outR as (by omega) (by omega)] at lst
    refine q_forNL lst (fun pl n σ' H' => ∃ (pg : Addr) (y3 y4 : Option V), σ' = [some (.ref p), some (.int i), some (.ref pg), y3, y4, none, none] ∧ Ex H H' ∧ H' pl = some (.lst ((but as i).map V.ref)) ∧ H' pg = some (.lst ((grpL (es.length + 1) (Gr.joins ((but es i).take n) id)).map V.int))) (fun pl H2 _ e2 h2 => ⟨pg, _, _, rfl, e1.trans e2, h2, e2 _ _ hg⟩) (fun pl n σ' H' _ ⟨_, _, _, _, _, h, _⟩ => SqL.of h) (fun pl n x σ' H2 hx hP => ?_) (fun pl σ' H2 hP => ?_)
    · obtain ⟨pg, y3, y4, rfl, e2, hl, hg2⟩ := hP
      rw [List.getElem?_map] at hx
      obtain ⟨a, ha, rfl⟩ := Option.map_eq_some_iff.mp hx
      obtain ⟨f, hf, ht⟩ := paired_get hbut ha
      have bf := hb f (bsub f (List.mem_of_getElem? hf))
      refine ⟨a, _, rfl, SqT.of (tups_E e2 _ _ ht), rfl, _, _, rfl, _, _, rfl, rfl, ?_⟩
      refine ⟨_, rfl, _, rfl, _, rfl, pg, es.length + 1, _, f.1, f.2, rfl, hg2, by omega, by omega, by omega, by omega, by omega, fun q H3 nq e3 hq => ⟨q, _, _, rfl, e2.trans e3, e3 _ _ hl, ?_⟩⟩
      rw [hq, take_snoc hf, Gr.joins_snoc]
    · obtain ⟨pg, y3, y4, rfl, e2, hl, hg2⟩ := hP
      have lb : (List.take i as ++ List.drop (i + 1) as).length = (but es i).length := Paired.length hbut
      rw [List.length_map, lb, List.take_length] at hg2
      have hia : i < as.length := by omega
      obtain ⟨f, hf, ht⟩ := paired_get hE (List.getElem?_eq_getElem hia)
      rw [hi] at hf
      cases hf
      have be := hb e (List.mem_of_getElem? hi)
      have at1 : atI (as.map V.ref) (i : Int) = some (.ref as[i]) := atI_nat (by rw [List.getElem?_map, List.getElem?_eq_getElem hia]; rfl)
      refine ⟨_, rfl, _, rfl, p, _, _, _, rfl, rfl, SqL.of (e2 _ _ hp), at1, ?_⟩
      refine ⟨as[i], _, rfl, SqT.of (tups_E e2 _ _ ht), rfl, _, _, rfl, _, _, rfl, rfl, ?_⟩
      refine s_retL (el_mapI (K := K) (n := 2) (fun y => if y = Gr.joins (but es i) id e.1 then 1 else 0) rfl hg2 (by rw [grp_len]; omega) (fun u => rfl) fun y H3 hy e3 => ?_) fun q H3 nq e3 hq => k q H3 (fresh_back e2 nq) (e2.trans e3) ?_
      · refine ev_if (b := decide (y = Gr.joins (but es i) id e.1)) (et_is (et_test (ev_op (ev_var rfl) (ev_op (ev_var rfl) (ev_var rfl) (rv_ixL (SqL.of (e3 _ _ hg2)) (grp_at (by omega) (by omega)))) (rv_eq rfl))) ?_) (fun z => ?_) (fun z => ?_)
        · by_cases c : y = Gr.joins (but es i) id e.1
          · rw [c, decide_eq_true rfl, decide_eq_true rfl]
          · rw [decide_eq_false c, decide_eq_false (fun z => c (V.int.inj z))]
        · rw [if_pos (of_decide_eq_true z)]
          exact ev_c
        · rw [if_neg (of_decide_eq_false z)]
          exact ev_c
      · have e4 : (grpL (es.length + 1) (Gr.joins (but es i) id)).map (fun y => if y = Gr.joins (but es i) id e.1 then 1 else 0) = grpL (es.length + 1) fun x => if Gr.joins (but es i) id x = Gr.joins (but es i) id e.1 then 1 else 0 := by
          unfold grpL
          rw [List.map_map]
          rfl
        rw [hq, e4]
-- DEF _law_mixed

def sp__law_mixed (K : PySem.W.Frag) : Sp := fun vs H Q _ => ∃ (s l : Addr) (n : Int) (xs : List V), vs = [.ref s, .ref l] ∧ SrcAt H s n ∧ n ≤ 500000000 ∧ l ≠ s ∧ SqL K H l xs ∧ xs.length ≤ 100 ∧ (∀ v ∈ xs, DatV K H s v) ∧
  ∀ (ys : List V) (p : Addr) (H' : Hp), ys.Perm xs → H p = none → ExB s H H' → SrcAt H' s (n + 100) → H' p = some (.lst ys) → Q (.ref p) H'

theorem ok__law_mixed (T : Txt K mg) : FnOk P w K mg base CX0 2 T.f__law_mixed T.fd__law_mixed ["_law_source", "_law_some"] (sp__law_mixed K) := by
  refine Fun.ok T.F__law_mixed sc__law_mixed (fun vs H Q E h => ?_) (fun cdv A outer s H vs Q E hr h => ?_)
  · obtain ⟨_, _, _, _, rfl, _⟩ := h; rfl
  · refine ⟨_, (pss_cons (ps_set (i := 2) sc__law_mixed.nd rfl (by first | exact Or.inl rfl | exact Or.inr rfl) (pe_callTy (T := "list") (r := rListS K) call_list_of (by rfl) T.n_list (by decide +kernel) (pa_cons (pv 1) pa_nil)))
      (pss_cons (ps_set (i := 3) sc__law_mixed.nd rfl (by first | exact Or.inl rfl | exact Or.inr rfl) (pe_lst pa_nil))
      (pss_cons (ps_while PassesOwn.never (pt_cmpR (r := rNeD K) (op_neD hr.units) (pv 2) (pe_lst pa_nil) (nomark _))
        (pss_one (ps_expr (pe_bm PySem.F.plainAttrs_list PySem.F.slot_list_append PySem.F.type_list_append mt_append (pv 3) (pa_cons (pe_bm PySem.F.plainAttrs_list PySem.F.slot_list_pop PySem.F.type_list_pop mt_popAt (pv 2) (pa_cons (pe_call (ok__law_next T) hr (by rfl) T.g__law_next T.k__law_next T.b__law_next .nil pass0 (pa_cons (pv 0) (pa_cons (pe_callB (id := "len") (r := rLenS K) call_len_seq (by rfl) T.n_len PySem.boot_len (pa_cons (pv 2) pa_nil)) pa_nil))) pa_nil)) pa_nil)))))
      (pss_one (ps_ret (pv 3)))))), ?_⟩
    obtain ⟨s, l, n, xs, rfl, hs, hn, nls, hl, h1, hd, k⟩ := h
    -- left, found
    refine ⟨_, rfl, l, xs, rfl, .inl hl, fun q nq => ?_⟩
    refine ⟨Nat.zero_le _, fun p np => ?_⟩
    have nqs : q ≠ s := hs.ne nq
    have nps : p ≠ s := (hs.ex (Ex.new nq)).ne np
    have npq : p ≠ q := (ne_of_none upd_same np).symm
    have npH : H p = none := fresh_back (Ex.new nq) np
    refine ⟨fun m σ H' => ∃ ls fs : List V, σ = [some (.ref s), some (.ref l), some (.ref q), some (.ref p)] ∧ m = ls.length ∧ (fs ++ ls).Perm xs ∧ H' q = some (.lst ls) ∧ H' p = some (.lst fs) ∧ ExB s H H' ∧ SrcAt H' s (n + fs.length),
      ⟨xs.length, xs, [], rfl, rfl, .refl _, ?_, upd_same, ?_, ?_⟩, ?_⟩
    · rw [upd_ne npq.symm]
      exact upd_same
    · exact ExB.of ((Ex.new nq).trans (Ex.new np))
    · exact (hs.ex ((Ex.new nq).trans (Ex.new np))).le (by simp)
    rintro m σ H1 ⟨ls, fs, rfl, rfl, hp, hq, hpf, e1, s1⟩
    have hlen : fs.length + ls.length = xs.length := by
      rw [← List.length_append]
      exact hp.length_eq
    obtain ⟨ds, d1, d2, d3⟩ := dat_all (K := K) (H := H1) (s := s) (xs := ls) fun v hv => (hd v (hp.mem_iff.mp (List.mem_append_right _ hv))).exB e1
    refine ⟨_, rfl, Nat.zero_le _, fun z nz => ?_⟩
    have x1 : Ex H1 (upd H1 z (.lst [])) := Ex.new nz
    refine ⟨_, _, .lst (SqL.of (x1 _ _ hq)) (dpAll_ex x1 d1), .lst (SqL.of upd_same) .nil, shaped_list d2 (by omega), rfl, _, rfl, ?_⟩
    rw [eqv_nil]
    cases ls with
    | nil =>
      cases d1
      refine iteF ?_
      refine ⟨_, rfl, ?_⟩
      rw [List.append_nil] at hp
      exact k fs p _ hp npH (e1.trans (ExB.of x1)) ((s1.ex x1).le (by have := hp.length_eq; omega)) (x1 _ _ hpf)
    | cons y0 ls0 =>
      cases d1 with
      | cons _ _ =>
        refine iteT ?_
        refine ⟨fun σ' H' => ∃ ls' fs' : List V, σ' = [some (.ref s), some (.ref l), some (.ref q), some (.ref p)] ∧ ls'.length < (y0 :: ls0).length ∧ (fs' ++ ls').Perm xs ∧ H' q = some (.lst ls') ∧ H' p = some (.lst fs') ∧ ExB s H H' ∧ SrcAt H' s (n + fs'.length),
          fun σ' H' ⟨ls', fs', a1, a2, a3, a4, a5, a6, a7⟩ => ⟨ls'.length, a2, ls', fs', a1, rfl, a3, a4, a5, a6, a7⟩, ?_⟩
        refine ⟨_, rfl, .inl ⟨rfl, _, SqL.of (x1 _ _ hpf)⟩, _, rfl, .inl ⟨rfl, _, SqL.of (x1 _ _ hq)⟩, _, rfl, _, rfl, q, _, rfl, .inl (SqL.of (x1 _ _ hq)), s, _, n + fs.length, rfl, s1.ex x1, by omega, (by simp only [List.length_cons]; omega), ?_, fun f H2 f0 f1 e2 s2 => ?_⟩
        · show (((y0 :: ls0).length : Nat) : Int).natAbs < 2 ^ 8000
          rw [Int.natAbs_natCast]
          exact Nat.lt_of_le_of_lt (show (y0 :: ls0).length ≤ 100 by omega) (by decide +kernel)
        · have hk : f.toNat < (y0 :: ls0).length := by omega
          have hy := List.getElem?_eq_getElem hk
          refine ⟨q, _, f, f.toNat, _, rfl, rfl, e2 _ _ nqs (x1 _ _ hq), by omega, by omega, seqIx (n := 0) f0 f1, hy, ?_⟩
          refine ⟨p, fs, _, rfl, rfl, ?_, small1000 (by omega), ?_⟩
          · rw [upd_ne npq]
            exact e2 _ _ nps (x1 _ _ hpf)
          · refine ⟨_, _, rfl, ?_, (perm_pop hy).trans hp, ?_, upd_same, ?_, ?_⟩
            · rw [List.length_eraseIdx_of_lt hk]
              omega
            · rw [upd_ne npq.symm]
              exact upd_same
            · refine fun b o nb h => ?_
              have nbp := ne_of_none h npH
              have nbq := ne_of_none h nq
              rw [upd_ne nbp, upd_ne nbq]
              exact e2 _ _ nb (x1 _ _ (e1 _ _ nb h))
            · have s3 : SrcAt H2 s (n + ((fs ++ [(y0 :: ls0)[f.toNat]]).length : Nat)) := s2.le (by rw [List.length_append]; simp; omega)
              obtain ⟨a1, a2, a3, a4, a5⟩ := s3
              exact ⟨a1, a2, a3, by rw [upd_ne nps.symm, upd_ne nqs.symm]; exact a4, a5⟩
-- DEF is_table

def sp_is_table (K : PySem.W.Frag) : Sp := fun vs H Q _ => ∃ (p : Addr) (as : List Addr) (rows : List (List Int)) (m w : Nat), vs = [.ref p] ∧ TabOk H p as rows m w ∧ ∀ H', Ex H H' → Q (.bl true) H'

theorem ok_is_table (T : Txt K mg) : FnOk P w K mg base CX0 3 T.f_is_table T.fd_is_table ["thing"] (sp_is_table K) := by
  refine Fun.ok T.F_is_table sc_is_table (fun vs H Q E h => ?_) (fun cdv A outer s H vs Q E hr h => ?_)
  · obtain ⟨_, _, _, _, _, rfl, _⟩ := h; rfl
  · refine ⟨_, (pss_cons (ps_if (PW.pt (pw_or (pt_not (pt_val (pe_callB (id := "isinstance") (r := rIsi K) call_isi (by rfl) T.n_isinstance (by decide +kernel) (pa_cons (pv 0) (pa_cons (pe_bltn (v := .ty "list") (by rfl) T.n_list (by decide +kernel) rfl) pa_nil))))) (pw_or1 (pt_not (pt_chain op_le op_le pe_int (pe_callB (id := "len") (r := rLenS K) call_len_seq (by rfl) T.n_len PySem.boot_len (pa_cons (pv 0) pa_nil)) (pe_glob (v := .int 8) (by rfl) T.g_MOST ⟨_, rfl⟩))))))
        (pss_one (ps_ret pe_bl))
        pss_nil)
      (pss_cons (ps_if (pt_not (pt_val (pe_callB (id := "all") (r := rAll K) (cr_all rfl) (by rfl) T.n_all (by decide +kernel) (pa_cons (pe_lc (own := [("row", 1)]) (wi := iList K _) (g := gName 1) (tt := tYes) rfl sc_is_table.nd (pi_list (pv 0)) (blkOk_by (N := ["thing", "row"]) (sc := (defScope s_is_table)) (by decide +kernel)) (fun _ _ _ _ _ => pg_name (i := 1) sc_is_table.nd rfl (Or.inl rfl)) (fun _ _ _ _ _ => pts_nil) (fun _ _ _ _ _ => (pe_call (ok_is_row T) hr (by rfl) T.g_is_row T.k_is_row T.b_is_row .nil pass0 (pa_cons (pv 1) pa_nil)))) pa_nil))))
        (pss_one (ps_ret pe_bl))
        pss_nil)
      (pss_one (ps_ret (pe_callB (id := "all") (r := rAll K) (cr_all rfl) (by rfl) T.n_all (by decide +kernel) (pa_cons (pe_lc (own := [("row", 1)]) (wi := iList K _) (g := gName 1) (tt := tYes) rfl sc_is_table.nd (pi_list (pv 0)) (blkOk_by (N := ["thing", "row"]) (sc := (defScope s_is_table)) (by decide +kernel)) (fun _ _ _ _ _ => pg_name (i := 1) sc_is_table.nd rfl (Or.inl rfl)) (fun _ _ _ _ _ => pts_nil) (fun _ _ _ _ _ => (pe_cmpR op_eq (pe_callB (id := "len") (r := rLenS K) call_len_seq (by rfl) T.n_len PySem.boot_len (pa_cons (pv 1) pa_nil)) (pe_callB (id := "len") (r := rLenS K) call_len_seq (by rfl) T.n_len PySem.boot_len (pa_cons (pe_ix (r := rIxL K) ix_list (pv 0) pe_int (fun _ _ => rfl)) pa_nil)) (nomark _)))) pa_nil)))))), ?_⟩
    obtain ⟨p, as, rows, m, w, rfl, hT, k⟩ := h
    have hb := hT.b
    refine q_when (b := false) (et_is (et_or (et_not (et_B (ev_isi (t := "list") (b := true) (ev_var rfl) ev_c (fun H1 e => .base (.lst (e _ _ hT.tab.1))) (by decide +kernel)))) (fun _ => et_not (et_test (ev_chain ev_c (ev_is (ev_len (ev_var rfl) (SqL.of hT.tab.1)) (by rw [List.length_map, hT.al])) ev_c rv_le rv_le)))) ?_) (fun z => nomatch z) (fun _ H1 e1 => ?_)
    · rw [decide_eq_true (show (1 : Int) ≤ (m : Int) by omega), decide_eq_true (show (m : Int) ≤ 8 by omega)]
      rfl
    have hT1 := hT.ex e1
    refine q_when (b := false) (et_not (et_B (ev_all (el_yes (a := p) rfl hT1.tab.1 (by rw [List.length_map, hT.al]; omega) (fun x H' hx e => ?_) (fun x => rfl))))) (fun z => nomatch z) (fun _ H2 e2 => ?_)
    · obtain ⟨a, ha, rfl⟩ := List.mem_map.mp hx
      obtain ⟨r, hr, hh⟩ := paired_mem hT1.tab.2 ha
      have := hT1.w_ r hr
      exact ev_fn (ea_cons (ev_var rfl) ea_nil) fun H3 e3 Q3 q3 => ⟨a, r, rfl, (e.trans e3) _ _ hh, by omega, by omega, q3⟩
    have hT2 := hT1.ex e2
    refine s_ret (ev_all (el_yes (a := p) rfl hT2.tab.1 (by rw [List.length_map, hT.al]; omega) (fun x H' hx e => ?_) (fun x => rfl))) fun H3 e3 => k H3 ((e1.trans e2).trans e3)
    obtain ⟨a, ha, rfl⟩ := List.mem_map.mp hx
    obtain ⟨r, hr, hh⟩ := paired_mem hT2.tab.2 ha
    obtain ⟨a0, r0, _, _, hh0, hl0, at0⟩ := hT2.row0
    have := hT2.w_ r hr
    refine ev_is (ev_op (ev_len (ev_var rfl) (SqL.of (e _ _ hh))) (ev_len (ev_op (ev_var rfl) ev_c (rv_ixL (SqL.of (e _ _ hT2.tab.1)) at0)) (SqL.of (e _ _ hh0))) (rv_eq rfl)) ?_
    rw [List.length_map, List.length_map, hl0, this]
    exact congrArg V.bl (decide_eq_true rfl)
-- DEF is_arc
theorem el_yesT {K : PySem.W.Frag} {n j : Nat} {a : Addr} {xs : List V} {te : TE} {vs : List Nat} {σ : L2.St} {H : Hp} (hσ : σ[n]? = some (some (.ref a))) (hx : H a = some (.tup xs)) (hl : xs.length ≤ 1000)
    (hs : ∀ x H', x ∈ xs → Ex H H' → Ev te ((wipe σ vs).set j (some x)) H' (.bl true)) (hw : ∀ x, wipe ((wipe σ vs).set j (some x)) vs = wipe σ vs) : EvL (tLc (iTup K (tVar n)) (gName j) tYes te vs) σ H ((List.replicate xs.length true).map V.bl) := by
  intro H0 e0 Q0 q0
  have hx0 := e0 _ _ hx
  refine ⟨_, hσ, a, rfl, ⟨_, SqT.of hx0⟩, fun D hD => ?_⟩
  refine lc_tup (K := K) (a := a) (xs := xs) (fun i H' => Ex H0 H' ∧ H' D = some (.lst ((List.replicate i true).map V.bl))) ⟨Ex.new hD, upd_same⟩ (fun i H' _ p => SqT.of (p.1 _ _ hx0)) (fun i x H' gx p => ?_) (fun H' p => ?_)
  · obtain ⟨p1, p2⟩ := p
    have hi := (List.getElem?_eq_some_iff.mp gx).1
    refine ⟨hw _, ?_⟩
    show te _ _ _
    refine hs x H (List.mem_of_getElem? gx) (Ex.refl H) _ (e0.trans p1) _ fun H4 e4 => ?_
    refine ⟨_, e4 _ _ p2, ?_, Ex.mut (p1.trans e4) hD, ?_⟩
    · rw [List.length_map, List.length_replicate]
      exact small1000 (by omega)
    · rw [upd_same, List.replicate_succ', List.map_append]
      rfl
  · obtain ⟨p1, p2⟩ := p
    exact q0 D H' hD p1 p2

theorem ev_lenT {K : PySem.W.Frag} {ta : TE} {σ : L2.St} {H : Hp} {p : Addr} {xs : List V} (ha : Ev ta σ H (.ref p)) (h : SqT K H p xs) : Ev (tCB (rLenS K) (tCons ta tNil)) σ H (.int (xs.length : Int)) := fun H1 e Q q =>
  ha H1 e _ fun H2 e2 => ⟨p, xs, rfl, Or.inr (ex_t (e.trans e2) h), q H2 e2⟩
def sp_is_arc (K : PySem.W.Frag) : Sp := fun vs H Q _ => ∃ (t : Addr) (a b n : Int), vs = [.ref t, .int n] ∧ H t = some (.tup [.int a, .int b]) ∧ 0 ≤ a ∧ a < n ∧ 0 ≤ b ∧ b < n ∧ ∀ H', Ex H H' → Q (.bl true) H'

theorem ok_is_arc (T : Txt K mg) : FnOk P w K mg base CX0 3 T.f_is_arc T.fd_is_arc ["thing", "many"] (sp_is_arc K) := by
  refine Fun.ok T.F_is_arc sc_is_arc (fun vs H Q E h => ?_) (fun cdv A outer s H vs Q E hr h => ?_)
  · obtain ⟨_, _, _, _, rfl, _⟩ := h; rfl
  · refine ⟨_, (pss_one (ps_ret (pe_and (pe_callB (id := "isinstance") (r := rIsi K) call_isi (by rfl) T.n_isinstance (by decide +kernel) (pa_cons (pv 0) (pa_cons (pe_bltn (v := .ty "tuple") (by rfl) T.n_tuple (by decide +kernel) rfl) pa_nil))) (pe_and (pe_cmpR op_eq (pe_callB (id := "len") (r := rLenS K) call_len_seq (by rfl) T.n_len PySem.boot_len (pa_cons (pv 0) pa_nil)) pe_int (nomark _)) (pe_one (pe_callB (id := "all") (r := rAll K) (cr_all rfl) (by rfl) T.n_all (by decide +kernel) (pa_cons (pe_lc (own := [("place", 2)]) (wi := iTup K _) (g := gName 2) (tt := tYes) rfl sc_is_arc.nd (pi_tup (pv 0)) (blkOk_by (N := ["thing", "many", "place"]) (sc := (defScope s_is_arc)) (by decide +kernel)) (fun _ _ _ _ _ => pg_name (i := 2) sc_is_arc.nd rfl (Or.inl rfl)) (fun _ _ _ _ _ => pts_nil) (fun _ _ _ _ _ => (pe_call (ok_is_place T) hr (by rfl) T.g_is_place T.k_is_place T.b_is_place .nil pass0 (pa_cons (pv 2) (pa_cons (pv 1) pa_nil))))) pa_nil))))))), ?_⟩
    obtain ⟨t, a, b, n, rfl, ht, a0, a1, b0, b1, k⟩ := h
    refine s_ret (ev_andV (a := true) (b := true) (ev_isi (t := "tuple") (b := true) (ev_var rfl) ev_c (fun H1 e => .base (.tup (e _ _ ht))) (by decide +kernel)) (fun _ => ev_andV (a := true) (b := true) (ev_is (ev_op (ev_lenT (ev_var rfl) (SqT.of ht)) ev_c (rv_eq rfl)) rfl) (fun _ => ev_all (el_yesT (a := t) rfl ht (by show 2 ≤ 1000; decide) (fun x H' hx e => ?_) (fun x => rfl))))) fun H2 e2 => k H2 e2
    rcases List.mem_cons.mp hx with rfl | hx
    · exact ev_fn (sp := sp_is_place K) (ea_cons (ev_var rfl) (ea_cons (ev_var rfl) ea_nil)) fun H3 e3 Q3 q3 => ⟨a, n, rfl, fun H4 e4 => by rw [decide_eq_true a0, decide_eq_true a1]; exact q3 H4 e4⟩
    · rw [List.mem_singleton.mp hx]
      exact ev_fn (sp := sp_is_place K) (ea_cons (ev_var rfl) (ea_cons (ev_var rfl) ea_nil)) fun H3 e3 Q3 q3 => ⟨b, n, rfl, fun H4 e4 => by rw [decide_eq_true b0, decide_eq_true b1]; exact q3 H4 e4⟩
-- DEF _law_ends

def sp__law_ends (K : PySem.W.Frag) : Sp := fun vs H Q _ => ∃ (s : Addr) (n m : Int), vs = [.ref s, .int m] ∧ SrcAt H s n ∧ n ≤ 400000000 ∧ 1 ≤ m ∧ m ≤ 8 ∧
  ∀ (as : List Addr) (es : List (Int × Int)) (p : Addr) (H' : Hp), (es.length : Int) = m → (∀ e ∈ es, 0 ≤ e.1 ∧ e.1 ≤ m ∧ 0 ≤ e.2 ∧ e.2 ≤ m) → Conn es m → EdgesAt H' as es → H' p = some (.lst (as.map V.ref)) → H p = none → ExB s H H' → SrcAt H' s (n + 300) → Q (.ref p) H'

theorem ok__law_ends (T : Txt K mg) : FnOk P w K mg base CX0 3 T.f__law_ends T.fd__law_ends ["_law_source", "_law_many"] (sp__law_ends K) := by
  refine Fun.ok T.F__law_ends sc__law_ends (fun vs H Q E h => ?_) (fun cdv A outer s H vs Q E hr h => ?_)
  · obtain ⟨_, _, _, rfl, _⟩ := h; rfl
  · refine ⟨_, (pss_cons (ps_set (i := 2) sc__law_ends.nd rfl (by first | exact Or.inl rfl | exact Or.inr rfl) (pe_call (ok__law_mixed T) hr (by rfl) T.g__law_mixed T.k__law_mixed T.b__law_mixed .nil pass0 (pa_cons (pv 0) (pa_cons (pe_listRg rfl (by rfl) T.n_list (prg_1 (by rfl) T.n_range (pe_op op_add (pv 1) pe_int))) pa_nil))))
      (pss_cons (ps_set (i := 3) sc__law_ends.nd rfl (by first | exact Or.inl rfl | exact Or.inr rfl) (pe_lst pa_nil))
      (pss_cons (ps_for PassesOwn.never rfl (pi_range1 (by rfl) T.n_range (pa_cons (pv 1) pa_nil)) (pg_name (i := 4) sc__law_ends.nd rfl (by first | exact Or.inl rfl | exact Or.inr rfl))
        (pss_cut (ps_set (i := 5) sc__law_ends.nd rfl (by first | exact Or.inl rfl | exact Or.inr rfl) (pe_tup (pa_cons (pe_ix (r := rIxL K) ix_list (pv 2) (pe_call (ok__law_next T) (hr.mono (by decide)) (by rfl) T.g__law_next T.k__law_next T.b__law_next .nil pass0 (pa_cons (pv 0) (pa_cons (pe_op op_add (pv 4) pe_int) pa_nil))) (fun _ _ => rfl)) (pa_cons (pe_ix (r := rIxL K) ix_list (pv 2) (pe_op op_add (pv 4) pe_int) (fun _ _ => rfl)) pa_nil))))
          (pss_one (ps_expr (pe_bm PySem.F.plainAttrs_list PySem.F.slot_list_append PySem.F.type_list_append mt_append (pv 3) (pa_cons (pe_ix (r := rIxL K) ix_list (pe_lst (pa_cons (pv 5) (pa_cons (pe_revT (pv 5)) pa_nil))) (pe_call (ok__law_next T) (hr.mono (by decide)) (by rfl) T.g__law_next T.k__law_next T.b__law_next .nil pass0 (pa_cons (pv 0) (pa_cons pe_int pa_nil))) (fun _ _ => rfl)) pa_nil))))))
      (pss_one (ps_ret (pe_call (ok__law_mixed T) hr (by rfl) T.g__law_mixed T.k__law_mixed T.b__law_mixed .nil pass0 (pa_cons (pv 0) (pa_cons (pv 3) pa_nil)))))))), ?_⟩
    obtain ⟨s, n, m, rfl, hs, hn, hm1, hm8, k⟩ := h
    refine ⟨_, rfl, _, rfl, _, _, rfl, rfl, _, rfl, RgOk.of_le (by omega) (by omega) (by omega) (by omega), fun q nq => ?_⟩
    have x1 := Ex.new (o := .lst (rgV 0 (m + 1))) nq
    refine ⟨s, q, n, _, rfl, hs.ex x1, by omega, hs.ne nq, SqL.of upd_same, ?_, ?_, fun ys p1 H1 hp np1 e1 s1 h1 => ?_⟩
    · rw [rgV_length]
      omega
    · intro v hv
      rw [rgV_nums] at hv
      obtain ⟨i, _, rfl⟩ := List.mem_map.mp hv
      exact datv_int i
    rw [rgV_nums] at hp
    obtain ⟨pl, rfl, hpl⟩ := perm_ints hp
    have np1H : H p1 = none := fresh_back x1 np1
    have e01 : ExB s H H1 := (ExB.of x1).trans e1
    have hpll : pl.length = m.toNat + 1 := by
      rw [hpl.length_eq, numsTo_length]
      omega
    have hplm : ∀ a, a ∈ pl ↔ 0 ≤ a ∧ a ≤ m := fun a => by
      rw [hpl.mem_iff, mem_numsTo]
      omega
    have np1s : p1 ≠ s := (hs.ex x1).ne np1
    clear hp x1 e1 np1 nq
    -- found
    refine ⟨Nat.zero_le _, fun p2 np2 => ?_⟩
    have x2 : Ex H1 (upd H1 p2 (.lst [])) := Ex.new np2
    have np2s : p2 ≠ s := s1.ne np2
    have np12 : p1 ≠ p2 := ne_of_none h1 np2
    have np2H : H p2 = none := fresh_B e01 np2 s1.obj
    refine ⟨_, rfl, _, rfl, by omega, by omega, for_range (lo := 0) (n := m.toNat) (fun i σ H' => ∃ (y4 y5 : Option V) (as : List Addr) (es : List (Int × Int)), σ = [some (.ref s), some (.int m), some (.ref p1), some (.ref p2), y4, y5] ∧ es.length = i ∧ EdgesAt H' as es ∧ H' p2 = some (.lst (as.map V.ref)) ∧
      ExB s H H' ∧ SrcAt H' s (n + 100 + 2 * i) ∧ H' p1 = some (.lst (pl.map V.int)) ∧ EdgeTree pl es ∧ (∀ e ∈ es, 0 ≤ e.1 ∧ e.1 ≤ m ∧ 0 ≤ e.2 ∧ e.2 ≤ m)) ?_ ?_ ?_⟩
    · exact ⟨_, _, [], [], rfl, rfl, .nil, upd_same, e01.trans (ExB.of x2), (s1.ex x2).le (by omega), x2 _ _ h1, fun j hj => absurd hj (Nat.not_lt_zero _), fun e he => by simp at he⟩
    · rintro i σ H2 hi ⟨y4, y5, as, es, rfl, hes, hE, h2, e2, s2, g1, hT, hb⟩
      have hsz := hes
      have sat : ∀ {j : Nat}, j < pl.length → ∃ z, (pl.map V.int)[j]? = some (.int z) ∧ pl[j]? = some z := fun {j} hj => ⟨pl[j], by rw [List.getElem?_map, List.getElem?_eq_getElem hj]; rfl, List.getElem?_eq_getElem hj⟩
      -- two
      refine ⟨fun σ' H' => ∃ (t : Addr) (f : Nat) (a b : Int), σ' = [some (.ref s), some (.int m), some (.ref p1), some (.ref p2), some (.int (0 + (i : Int))), some (.ref t)] ∧ H' t = some (.tup [.int a, .int b]) ∧ f ≤ i ∧ pl[f]? = some a ∧ pl[i + 1]? = some b ∧ ExB s H2 H' ∧ SrcAt H' s (n + 100 + 2 * i + 1), ?_, ?_⟩
      · refine ⟨_, rfl, _, rfl, _, rfl, _, _, rfl, rfl, s, _, _, rfl, s2, by omega, by omega, ?_, fun f H3 f0 f1 e3 s3 => ?_⟩
        · unfold Bd
          exact Nat.lt_of_lt_of_le (show (0 + (i : Int) + 1).natAbs < 1024 by omega) (by decide +kernel)
        · obtain ⟨a, ha, ha'⟩ := sat (j := f.toNat) (by omega)
          obtain ⟨b, hb, hb'⟩ := sat (j := i + 1) (by omega)
          refine ⟨p1, _, _, _, rfl, rfl, SqL.of (e3 _ _ np1s g1), at_of (j := f.toNat) (by omega) ha, ?_⟩
          refine ⟨_, rfl, _, rfl, _, _, rfl, rfl, p1, _, _, _, rfl, rfl, SqL.of (e3 _ _ np1s g1), at_of (j := i + 1) (by omega) hb, (by show 2 ≤ sizeLine; decide), fun t nt => ?_⟩
          exact ⟨t, f.toNat, a, b, rfl, upd_same, by omega, ha', hb', e3.trans (ExB.of (Ex.new nt)), s3.ex (Ex.new nt)⟩
      · rintro σ' H3 ⟨t, f, a, b, rfl, ht, hf, ha, hb', e3, s3⟩
        have h2' := e3 _ _ np2s h2
        refine ⟨_, rfl, .inl ⟨rfl, _, SqL.of h2'⟩, _, rfl, _, rfl, t, _, _, rfl, SqT.of ht, fun u nu => ?_⟩
        have xu : Ex H3 (upd H3 u (.tup [.int b, .int a])) := Ex.new nu
        refine ⟨(by show 2 ≤ sizeLine; decide), fun l nl => ?_⟩
        have xl : Ex (upd H3 u (.tup [.int b, .int a])) (upd (upd H3 u (.tup [.int b, .int a])) l (.lst [.ref t, .ref u])) := Ex.new nl
        have xx := xu.trans xl
        refine ⟨_, rfl, s, 2, _, rfl, s3.ex xx, by omega, by decide, (by unfold Bd; decide +kernel), fun g H4 g0 gl e4 s4 => ?_⟩
        have nls : l ≠ s := (s3.ex xu).ne nl
        have hl4 := e4 _ _ nls (upd_same (H := upd H3 u (.tup [.int b, .int a])) (a := l) (o := .lst [.ref t, .ref u]))
        have st : ∀ c xs, H2 c = some (.tup xs) → H4 c = some (.tup xs) := fun c xs h => tups_B (s3.ex xx) e4 _ _ (tups_E xx _ _ (tups_B s2 e3 _ _ h))
        have st3 : ∀ c xs, H3 c = some (.tup xs) → H4 c = some (.tup xs) := fun c xs h => tups_B (s3.ex xx) e4 _ _ (tups_E xx _ _ h)
        have stu : H4 u = some (.tup [.int b, .int a]) := tups_B (s3.ex xx) e4 _ _ (xl _ _ upd_same)
        have p2' := e4 _ _ np2s (xx _ _ h2')
        have al : as.length = i := by rw [Paired.length hE, hes]
        have fin : ∀ (v : Addr) (e : Int × Int), H4 v = some (.tup [.int e.1, .int e.2]) → (e = (a, b) ∨ e = (b, a)) → rAppend (.ref p2) [.ref v] H4 fun _ H' => ∃ (y4 y5 : Option V) (as : List Addr) (es : List (Int × Int)), [some (V.ref s), some (.int m), some (.ref p1), some (.ref p2), some (.int (0 + (i : Int))), some (.ref t)] = [some (.ref s), some (.int m), some (.ref p1), some (.ref p2), y4, y5] ∧ es.length = i + 1 ∧ EdgesAt H' as es ∧ H' p2 = some (.lst (as.map V.ref)) ∧
            ExB s H H' ∧ SrcAt H' s (n + 100 + 2 * ((i + 1 : Nat) : Int)) ∧ H' p1 = some (.lst (pl.map V.int)) ∧ EdgeTree pl es ∧ (∀ e ∈ es, 0 ≤ e.1 ∧ e.1 ≤ m ∧ 0 ≤ e.2 ∧ e.2 ≤ m) := by
          intro v e hv he
          refine ⟨p2, _, _, rfl, rfl, p2', small1000 (by rw [List.length_map]; omega), _, _, as ++ [v], es ++ [e], rfl, ?_, ?_, ?_, ?_, ?_, ?_, ?_, ?_⟩
          · rw [List.length_append, hes]
            rfl
          · exact paired_imp (fun c d h => tups_U p2' _ _ h) (paired_snoc (EdgesAt.mono st hE) hv)
          · rw [upd_same, List.map_append]
            rfl
          · refine fun c o nc h => ?_
            rw [upd_ne (ne_of_none h np2H)]
            exact e4 _ _ nc (xx _ _ (e3 _ _ nc (e2 _ _ nc h)))
          · obtain ⟨a1, a2, a3, a4, a5, a6, a7, a8⟩ := s4
            exact ⟨a1, a2, a3, by rw [upd_ne np2s.symm]; exact a4, a5, a6, a7, by omega⟩
          · rw [upd_ne np12]
            exact e4 _ _ np1s (xx _ _ (e3 _ _ np1s g1))
          · exact hT.more (by omega) ha (by rw [hes]; exact hb') he
          · intro e' he'
            rcases List.mem_append.mp he' with h | h
            · exact hb e' h
            · have e1 : e' = e := by simpa using h
              subst e1
              have ma := (hplm a).mp (List.mem_of_getElem? ha)
              have mb := (hplm b).mp (List.mem_of_getElem? hb')
              rcases he with rfl | rfl
              · exact ⟨ma.1, ma.2, mb.1, mb.2⟩
              · exact ⟨mb.1, mb.2, ma.1, ma.2⟩
        have hg : g = 0 ∨ g = 1 := by omega
        rcases hg with rfl | rfl
        · exact ⟨l, _, _, .ref t, rfl, rfl, SqL.of hl4, rfl, fin t (a, b) (st3 _ _ ht) (.inl rfl)⟩
        · exact ⟨l, _, _, .ref u, rfl, rfl, SqL.of hl4, rfl, fin u (b, a) stu (.inr rfl)⟩
    · rintro σ H2 ⟨y4, y5, as, es, rfl, hes, hE, h2, e2, s2, g1, hT, hb⟩
      have al : as.length = m.toNat := by rw [Paired.length hE, hes]
      refine ⟨_, rfl, _, rfl, s, p2, _, _, rfl, s2, by omega, np2s, SqL.of h2, (by rw [List.length_map]; omega), fun v hv => ?_, fun ys p H3 hp np e3 s3 h3 => ?_⟩
      · obtain ⟨c, hc, rfl⟩ := List.mem_map.mp hv
        obtain ⟨d, _, hd⟩ := paired_mem hE hc
        exact datv_pair hd (s2.neT hd)
      · obtain ⟨as', es', rfl, pe, hE', _⟩ := perm_refs hp hE
        refine k as' es' p H3 ?_ (fun e he => hb e (pe.mem_iff.mp he)) ?_ (EdgesAt.mono (tups_B s2 e3) hE') h3 (fresh_B e2 np s2.obj) (e2.trans e3) (s3.le (by omega))
        · rw [pe.length_eq, hes]
          omega
        · have c := EdgeTree.conn (m := m.toNat) hT hes hpll fun a h0 h1 => (hplm a).mpr ⟨h0, by omega⟩
          have c2 := c.perm pe
          have em : ((m.toNat : Nat) : Int) = m := by omega
          rw [em] at c2
          exact c2
-- DEF check_table

def sp_check_table (K : PySem.W.Frag) : Sp := fun vs H Q _ => ∃ (p : Addr) (as : List Addr) (rows : List (List Int)) (m w : Nat), vs = [.ref p] ∧ TabOk H p as rows m w ∧ ∀ H', Ex H H' → Q .non H'

theorem ok_check_table (T : Txt K mg) : FnOk P w K mg base CX0 4 T.f_check_table T.fd_check_table ["thing"] (sp_check_table K) := by
  refine Fun.ok T.F_check_table sc_check_table (fun vs H Q E h => ?_) (fun cdv A outer s H vs Q E hr h => ?_)
  · obtain ⟨_, _, _, _, _, rfl, _⟩ := h; rfl
  · refine ⟨_, (pss_one (ps_if (pt_not (pt_val (pe_call (ok_is_table T) hr (by rfl) T.g_is_table T.k_is_table T.b_is_table .nil pass0 (pa_cons (pv 0) pa_nil))))
        (pss_one ps_never)
        pss_nil)), ?_⟩
    obtain ⟨p, as, rows, m, w, rfl, hT, k⟩ := h
    exact ⟨_, rfl, p, as, rows, m, w, rfl, hT, fun H' e => ⟨true, rfl, iteF (k H' e)⟩⟩
-- DEF check_ends

theorem s_callN {sp : Sp} {E : XK} {ta : TA} {vs : List V} {D : Ends} {σ : L2.St} {H : Hp} {i : Nat} (ha : EvA ta σ H vs) (h : ∀ H1, Ex H H1 → sp vs H1 (fun v H2 => D.nx (σ.set i (some v)) H2) E) : tAsg (tCall sp [] E ta) (gName i) D σ H := ha H (Ex.refl H) _ fun H1 e => by
  rw [List.append_nil]
  exact h H1 e
def sp_check_ends (K : PySem.W.Frag) : Sp := fun vs H Q _ => ∃ (p : Addr) (as : List Addr) (es : Gr.Edges), vs = [.ref p] ∧ H p = some (.lst (as.map V.ref)) ∧ EdgesAt H as es ∧ 1 ≤ es.length ∧ es.length ≤ 8 ∧ (∀ e ∈ es, 0 ≤ e.1 ∧ e.1 ≤ es.length ∧ 0 ≤ e.2 ∧ e.2 ≤ es.length) ∧ (∀ a ∈ numsTo (es.length + 1), ∀ b ∈ numsTo (es.length + 1), Gr.Same es a b) ∧ ∀ H', Ex H H' → Q .non H'

theorem ok_check_ends (T : Txt K mg) : FnOk P w K mg base CX0 4 T.f_check_ends T.fd_check_ends ["thing"] (sp_check_ends K) := by
  refine Fun.ok T.F_check_ends sc_check_ends (fun vs H Q E h => ?_) (fun cdv A outer s H vs Q E hr h => ?_)
  · obtain ⟨_, _, _, rfl, _⟩ := h; rfl
  · refine ⟨_, (pss_cons (ps_if (PW.pt (pw_or (pt_not (pt_val (pe_callB (id := "isinstance") (r := rIsi K) call_isi (by rfl) T.n_isinstance (by decide +kernel) (pa_cons (pv 0) (pa_cons (pe_bltn (v := .ty "list") (by rfl) T.n_list (by decide +kernel) rfl) pa_nil))))) (pw_or1 (pt_not (pt_chain op_le op_le pe_int (pe_callB (id := "len") (r := rLenS K) call_len_seq (by rfl) T.n_len PySem.boot_len (pa_cons (pv 0) pa_nil)) (pe_glob (v := .int 8) (by rfl) T.g_MOST ⟨_, rfl⟩))))))
        (pss_one ps_never)
        pss_nil)
      (pss_cut (ps_set (i := 1) sc_check_ends.nd rfl (by first | exact Or.inl rfl | exact Or.inr rfl) (pe_listRg rfl (by rfl) T.n_list (prg_1 (by rfl) T.n_range (pe_op op_add (pe_callB (id := "len") (r := rLenS K) call_len_seq (by rfl) T.n_len PySem.boot_len (pa_cons (pv 0) pa_nil)) pe_int))))
      (pss_one (ps_for PassesOwn.never rfl (pi_enum (by rfl) T.n_enumerate (pa_cons (pv 0) pa_nil)) (pg_tup rfl (pgs_cons (pg_name (i := 2) sc_check_ends.nd rfl (by first | exact Or.inl rfl | exact Or.inr rfl)) (pgs_cons (pg_name (i := 3) sc_check_ends.nd rfl (by first | exact Or.inl rfl | exact Or.inr rfl)) pgs_nil)))
        (pss_cons (ps_if (PW.pt (pw_or (pt_not (pt_val (pe_call (ok_is_arc T) hr (by rfl) T.g_is_arc T.k_is_arc T.b_is_arc .nil pass0 (pa_cons (pv 3) (pa_cons (pe_callB (id := "len") (r := rLenS K) call_len_seq (by rfl) T.n_len PySem.boot_len (pa_cons (pv 1) pa_nil)) pa_nil))))) (pw_or1 (pt_cmpR op_eq (pe_ix (r := rIxL K) ix_list (pv 1) (pe_ix (r := rIxT K) ix_tup (pv 3) pe_int (fun _ _ => rfl)) (fun _ _ => rfl)) (pe_ix (r := rIxL K) ix_list (pv 1) (pe_ix (r := rIxT K) ix_tup (pv 3) pe_int (fun _ _ => rfl)) (fun _ _ => rfl)) (nomark _)))))
            (pss_one ps_never)
            pss_nil)
          (pss_one (ps_set (i := 1) sc_check_ends.nd rfl (by first | exact Or.inl rfl | exact Or.inr rfl) (pe_call (ok_joined T) (hr.mono (by decide)) (by rfl) T.g_joined T.k_joined T.b_joined .nil pass0 (pa_cons (pv 1) (pa_cons (pe_ix (r := rIxT K) ix_tup (pv 3) pe_int (fun _ _ => rfl)) (pa_cons (pe_ix (r := rIxT K) ix_tup (pv 3) pe_int (fun _ _ => rfl)) pa_nil))))))))))), ?_⟩
    obtain ⟨p, as, es, rfl, hp, hE, l1, l8, hb, hT, k⟩ := h
    have al : as.length = es.length := Paired.length hE
    refine q_when (b := false) (et_is (et_or (et_not (et_B (ev_isi (t := "list") (b := true) (ev_var rfl) ev_c (fun H1 e => .base (.lst (e _ _ hp))) (by decide +kernel)))) (fun _ => et_not (et_test (ev_chain ev_c (ev_is (ev_len (ev_var rfl) (SqL.of hp)) (by rw [List.length_map, al])) ev_c rv_le rv_le)))) ?_) (fun z => nomatch z) (fun _ H1 e1 => ?_)
    · rw [decide_eq_true (show (1 : Int) ≤ (es.length : Int) by omega), decide_eq_true (show (es.length : Int) ≤ 8 by omega)]
      rfl
    refine ⟨fun σ' H' => ∃ pg, σ' = [some (.ref p), some (.ref pg), none, none] ∧ Ex H H' ∧ H' pg = some (.lst ((grpL (es.length + 1) id).map V.int)), ?_, ?_⟩
    · refine s_asgL (el_rgL (k := es.length + 1) (ev_is (ev_op (ev_len (ev_var rfl) (SqL.of (e1 _ _ hp))) ev_c rv_I0) (by rw [List.length_map, al, Int.natCast_add]; rfl)) (by omega)) fun pg H2 _ e2 h2 => ⟨pg, rfl, e1.trans e2, ?_⟩
      rw [h2]
      unfold grpL
      rw [List.map_id]
    rintro σ' H2 ⟨pg, rfl, e2, hg⟩
    refine ⟨_, rfl, p, _, rfl, SqL.of (e2 _ _ hp), ?_⟩
    refine for_enum (K := K) (a := p) (xs := as.map V.ref) (fun i σ H' => ∃ (pg : Addr) (y2 y3 : Option V), σ = [some (.ref p), some (.ref pg), y2, y3] ∧ Ex H H' ∧ H' pg = some (.lst ((grpL (es.length + 1) (Gr.joins (es.take i) id)).map V.int))) ⟨pg, _, _, rfl, e2, hg⟩ (fun i σ H' ⟨_, _, _, _, h, _⟩ => SqL.of (h _ _ hp)) (fun i x t σ H3 hx hP nt => ?_) (fun σ H3 ⟨_, _, _, _, h, _⟩ => k H3 h)
    obtain ⟨pg, y2, y3, rfl, e3, hg3⟩ := hP
    rw [List.getElem?_map] at hx
    obtain ⟨a, ha, rfl⟩ := Option.map_eq_some_iff.mp hx
    obtain ⟨f, hf, hft⟩ := paired_get hE ha
    have bf := hb f (List.mem_of_getElem? hf)
    have xt : Ex H3 (upd H3 t (.tup [.int (i : Nat), .ref a])) := Ex.new nt
    have nr : Gr.joins (es.take i) id f.1 ≠ Gr.joins (es.take i) id f.2 := fun z => Gr.no_round (R0 := numsTo (es.length + 1)) (nodup_nums _) hT (by rw [numsTo_length]) hf ((Gr.joins_same _ _ rfl f.1 f.2).mp z)
    refine ⟨t, _, rfl, SqT.of upd_same, rfl, _, _, rfl, _, _, rfl, rfl, ?_⟩
    have hgx := xt _ _ hg3
    have htx := tups_E (e3.trans xt) _ _ hft
    have ix0 : ∀ {G : Hp}, Ex (upd H3 t (.tup [.int (i : Nat), .ref a])) G → Ev (tOp (rIxT K) (tVar 3) (tC (.int 0))) [some (.ref p), some (.ref pg), some (.int (i : Nat)), some (.ref a)] G (.int f.1) := fun {G} e => ev_op (ev_var rfl) ev_c (rv_ixT (SqT.of (tups_E e _ _ htx)) rfl)
    have ix1 : ∀ {G : Hp}, Ex (upd H3 t (.tup [.int (i : Nat), .ref a])) G → Ev (tOp (rIxT K) (tVar 3) (tC (.int 1))) [some (.ref p), some (.ref pg), some (.int (i : Nat)), some (.ref a)] G (.int f.2) := fun {G} e => ev_op (ev_var rfl) ev_c (rv_ixT (SqT.of (tups_E e _ _ htx)) rfl)
    refine q_when (σ := [some (.ref p), some (.ref pg), some (.int (i : Nat)), some (.ref a)]) (b := false) (et_is (et_or (a := false) (b := false) (et_is (et_not (et_B (b := true) (ev_fn (sp := sp_is_arc K) (ea_cons (ev_var rfl) (ea_cons (ev_is (ev_len (ev_var rfl) (SqL.of hgx)) (by rw [List.length_map, grp_len])) ea_nil)) fun H4 e4 Q4 q4 => ⟨a, f.1, f.2, ((es.length + 1 : Nat) : Int), rfl, tups_E e4 _ _ htx, bf.1, by omega, bf.2.2.1, by omega, q4⟩))) rfl) (fun _ => et_is (et_test (ev_op (ev_op (ev_var rfl) (ix0 (Ex.refl _)) (rv_ixL (SqL.of hgx) (grp_at bf.1 (by omega)))) (ev_op (ev_var rfl) (ix1 (Ex.refl _)) (rv_ixL (SqL.of hgx) (grp_at bf.2.2.1 (by omega)))) (rv_eq rfl))) (decide_eq_false fun z => nr (V.int.inj z)))) rfl) (fun z => nomatch z) (fun _ H4 e4 => ?_)
    refine s_callN (ea_cons (ev_var (i := 1) rfl) (ea_cons (ix0 e4) (ea_cons (ix1 e4) ea_nil))) fun H5 e5 => ⟨pg, es.length + 1, _, f.1, f.2, rfl, (e4.trans e5) _ _ hgx, by omega, bf.1, by omega, bf.2.2.1, by omega, fun q H6 nq e6 hq => ⟨q, _, _, rfl, (e3.trans xt).trans ((e4.trans e5).trans e6), ?_⟩⟩
    rw [hq, take_snoc hf, Gr.joins_snoc]
-- DEF check_arcs

def sp_check_arcs (K : PySem.W.Frag) : Sp := fun vs H Q _ => ∃ (p : Addr) (as : List Addr) (es : Gr.Edges) (n : Int), vs = [.ref p, .int n] ∧ H p = some (.lst (as.map V.ref)) ∧ EdgesAt H as es ∧ 1 ≤ es.length ∧ es.length ≤ 8 ∧ (∀ e ∈ es, 0 ≤ e.1 ∧ e.1 < n ∧ 0 ≤ e.2 ∧ e.2 < n) ∧ ∀ H', Ex H H' → Q .non H'

theorem ok_check_arcs (T : Txt K mg) : FnOk P w K mg base CX0 4 T.f_check_arcs T.fd_check_arcs ["thing", "many"] (sp_check_arcs K) := by
  refine Fun.ok T.F_check_arcs sc_check_arcs (fun vs H Q E h => ?_) (fun cdv A outer s H vs Q E hr h => ?_)
  · obtain ⟨_, _, _, _, rfl, _⟩ := h; rfl
  · refine ⟨_, (pss_cons (ps_if (PW.pt (pw_or (pt_not (pt_val (pe_callB (id := "isinstance") (r := rIsi K) call_isi (by rfl) T.n_isinstance (by decide +kernel) (pa_cons (pv 0) (pa_cons (pe_bltn (v := .ty "list") (by rfl) T.n_list (by decide +kernel) rfl) pa_nil))))) (pw_or1 (pt_not (pt_chain op_le op_le pe_int (pe_callB (id := "len") (r := rLenS K) call_len_seq (by rfl) T.n_len PySem.boot_len (pa_cons (pv 0) pa_nil)) (pe_glob (v := .int 8) (by rfl) T.g_MOST ⟨_, rfl⟩))))))
        (pss_one ps_never)
        pss_nil)
      (pss_one (ps_for PassesOwn.never rfl (pi_enum (by rfl) T.n_enumerate (pa_cons (pv 0) pa_nil)) (pg_tup rfl (pgs_cons (pg_name (i := 2) sc_check_arcs.nd rfl (by first | exact Or.inl rfl | exact Or.inr rfl)) (pgs_cons (pg_name (i := 3) sc_check_arcs.nd rfl (by first | exact Or.inl rfl | exact Or.inr rfl)) pgs_nil)))
        (pss_one (ps_if (pt_not (pt_val (pe_call (ok_is_arc T) hr (by rfl) T.g_is_arc T.k_is_arc T.b_is_arc .nil pass0 (pa_cons (pv 3) (pa_cons (pv 1) pa_nil)))))
            (pss_one ps_never)
            pss_nil))))), ?_⟩
    obtain ⟨p, as, es, n, rfl, hp, hE, l1, l8, hb, k⟩ := h
    have al : as.length = es.length := Paired.length hE
    refine q_when (b := false) (et_is (et_or (et_not (et_B (ev_isi (t := "list") (b := true) (ev_var rfl) ev_c (fun H1 e => .base (.lst (e _ _ hp))) (by decide +kernel)))) (fun _ => et_not (et_test (ev_chain ev_c (ev_is (ev_len (ev_var rfl) (SqL.of hp)) (by rw [List.length_map, al])) ev_c rv_le rv_le)))) ?_) (fun z => nomatch z) (fun _ H1 e1 => ?_)
    · rw [decide_eq_true (show (1 : Int) ≤ (es.length : Int) by omega), decide_eq_true (show (es.length : Int) ≤ 8 by omega)]
      rfl
    refine ⟨_, rfl, p, _, rfl, SqL.of (e1 _ _ hp), ?_⟩
    refine for_enum (K := K) (a := p) (xs := as.map V.ref) (fun i σ H' => ∃ y2 y3 : Option V, σ = [some (.ref p), some (.int n), y2, y3] ∧ Ex H H') ⟨_, _, rfl, e1⟩ (fun i σ H' ⟨_, _, _, h⟩ => SqL.of (h _ _ hp)) (fun i x t σ H2 hx hP nt => ?_) (fun σ H2 ⟨_, _, _, h⟩ => k H2 h)
    obtain ⟨y2, y3, rfl, e2⟩ := hP
    rw [List.getElem?_map] at hx
    obtain ⟨a, ha, rfl⟩ := Option.map_eq_some_iff.mp hx
    obtain ⟨f, hf, hft⟩ := paired_get hE ha
    have bf := hb f (List.mem_of_getElem? hf)
    have xt : Ex H2 (upd H2 t (.tup [.int (i : Nat), .ref a])) := Ex.new nt
    refine ⟨t, _, rfl, SqT.of upd_same, rfl, _, _, rfl, _, _, rfl, rfl, ?_⟩
    refine s_when (b := false) (et_is (et_not (et_B (b := true) (ev_fn (sp := sp_is_arc K) (ea_cons (ev_var rfl) (ea_cons (ev_var rfl) ea_nil)) fun H3 e3 Q3 q3 => ⟨a, f.1, f.2, n, rfl, tups_E ((e2.trans xt).trans e3) _ _ hft, bf.1, bf.2.1, bf.2.2.1, bf.2.2.2, q3⟩))) rfl) (fun z => nomatch z) (fun _ H3 e3 => ⟨_, _, rfl, (e2.trans xt).trans e3⟩)
-- DEF turned

def transp (rows : List (List Int)) (w : Nat) : List (List Int) := (List.range w).map fun kk => rows.map fun r => r[kk]?.getD 0
def sp_turned (K : PySem.W.Frag) : Sp := fun vs H Q _ => ∃ (p : Addr) (as : List Addr) (rows : List (List Int)) (m w : Nat), vs = [.ref p] ∧ TabOk H p as rows m w ∧
  ∀ q bs H', H q = none → (∀ a ∈ bs, H a = none) → bs.Nodup → q ∉ bs → Ex H H' → Tab H' q bs (transp rows w) → Q (.ref q) H'

theorem ok_turned (T : Txt K mg) : FnOk P w K mg base CX0 5 T.f_turned T.fd_turned ["table"] (sp_turned K) := by
  refine Fun.ok T.F_turned sc_turned (fun vs H Q E h => ?_) (fun cdv A outer s H vs Q E hr h => ?_)
  · obtain ⟨_, _, _, _, _, rfl, _⟩ := h; rfl
  · refine ⟨_, (pss_cons (ps_expr (pe_call (ok_check_table T) hr (by rfl) T.g_check_table T.k_check_table T.b_check_table .nil pass0 (pa_cons (pv 0) pa_nil)))
      (pss_one (ps_ret (pe_lc (own := [("at", 1)]) (g := gName 1) (tt := tYes) rfl sc_turned.nd (pi_range1 (by rfl) T.n_range (pa_cons (pe_callB (id := "len") (r := rLenS K) call_len_seq (by rfl) T.n_len PySem.boot_len (pa_cons (pe_ix (r := rIxL K) ix_list (pv 0) pe_int (fun _ _ => rfl)) pa_nil)) pa_nil)) (blkOk_by (N := ["table", "at", "row"]) (sc := (defScope s_turned)) (by decide +kernel)) (fun _ _ _ _ _ => pg_name (i := 1) sc_turned.nd rfl (Or.inr rfl)) (fun _ _ _ _ _ => pts_nil) (fun _ _ _ _ _ => (pe_lc (own := [("row", 2)]) (wi := iList K _) (g := gName 2) (tt := tYes) rfl sc_turned.nd (pi_list (pv 0)) (blkOk_by (N := ["table", "at", "row"]) (sc := (relS ({ kind := .function, names := [(".0", .local), ("at", .cell), ("table", .free)], isGenerator := false, isCoroutine := false } : Scope) (defScope s_turned))) (by decide +kernel)) (fun _ _ _ _ _ => pg_name (i := 2) sc_turned.nd rfl (Or.inl rfl)) (fun _ _ _ _ _ => pts_nil) (fun _ _ _ _ _ => (pe_ix (r := rIxL K) ix_list (pv 2) (pv 1) (fun _ _ => rfl))))))))), ?_⟩
    obtain ⟨p, as, rows, m, w, rfl, hT, k⟩ := h
    refine ⟨_, rfl, p, as, rows, m, w, rfl, hT, fun H1 e1 => ?_⟩
    have hT1 := hT.ex e1
    have hb := hT.b
    obtain ⟨a0, r0, _, _, hh0, hl0, at0⟩ := hT1.row0
    refine lc_rows (m := w) (F := fun kk => rows.map fun r => r[kk]?.getD 0) (ea_cons (ev_is (ev_len (ev_op (ev_var rfl) ev_c (rv_ixL (SqL.of hT1.tab.1) at0)) (SqL.of hh0)) (by rw [List.length_map, hl0])) ea_nil) (by omega) (fun u => rfl) (fun kk H3 x3 hkk => ?_) (fun q bs H3 nq nbs nd nqb x3 ht => ?_)
    · refine el_col (K := K) (f := fun r => r[kk]?.getD 0) rfl (x3 _ _ hT1.tab.1) (hT1.tab.2.ex x3) (by rw [hT.m_]; omega) (fun u => rfl) fun b r H4 hr hb' x4 => ?_
      have lr := hT.w_ r hr
      exact ev_op (ev_var rfl) (ev_var rfl) (rv_ixL (SqL.of (x4 _ _ hb')) (atI_row (by omega)))
    · exact k q bs H3 (fresh_back e1 nq) (fun a ha => fresh_back e1 (nbs a ha)) nd nqb (e1.trans x3) ht
-- DEF net_table

def sp_net_table (K : PySem.W.Frag) : Sp := fun vs H Q _ => ∃ (p q : Addr) (as bs : List Addr) (es qs : Gr.Edges), vs = [.ref p, .ref q] ∧ H p = some (.lst (as.map V.ref)) ∧ EdgesAt H as es ∧ H q = some (.lst (bs.map V.ref)) ∧ EdgesAt H bs qs ∧ Tree es ∧ 1 ≤ qs.length ∧ qs.length ≤ 8 ∧ (∀ e ∈ qs, 0 ≤ e.1 ∧ e.1 ≤ es.length ∧ 0 ≤ e.2 ∧ e.2 ≤ es.length) ∧
  ∀ c cs H', H c = none → (∀ a ∈ cs, H a = none) → c ∉ cs → Ex H H' → Tab H' c cs (netT es qs) → Q (.ref c) H'

theorem ok_net_table (T : Txt K mg) : FnOk P w K mg base CX0 5 T.f_net_table T.fd_net_table ["ends", "arcs"] (sp_net_table K) := by
  refine Fun.ok T.F_net_table sc_net_table (fun vs H Q E h => ?_) (fun cdv A outer s H vs Q E hr h => ?_)
  · obtain ⟨_, _, _, _, _, _, rfl, _⟩ := h; rfl
  · refine ⟨_, (pss_cons (ps_expr (pe_call (ok_check_ends T) hr (by rfl) T.g_check_ends T.k_check_ends T.b_check_ends .nil pass0 (pa_cons (pv 0) pa_nil)))
      (pss_cons (ps_expr (pe_call (ok_check_arcs T) hr (by rfl) T.g_check_arcs T.k_check_arcs T.b_check_arcs .nil pass0 (pa_cons (pv 1) (pa_cons (pe_op op_add (pe_callB (id := "len") (r := rLenS K) call_len_seq (by rfl) T.n_len PySem.boot_len (pa_cons (pv 0) pa_nil)) pe_int) pa_nil))))
      (pss_cut (ps_set (i := 2) sc_net_table.nd rfl (by first | exact Or.inl rfl | exact Or.inr rfl) (pe_lst pa_nil))
      (pss_cons (ps_for PassesOwn.never rfl (pi_range1 (by rfl) T.n_range (pa_cons (pe_callB (id := "len") (r := rLenS K) call_len_seq (by rfl) T.n_len PySem.boot_len (pa_cons (pv 0) pa_nil)) pa_nil)) (pg_name (i := 3) sc_net_table.nd rfl (by first | exact Or.inl rfl | exact Or.inr rfl))
        (pss_cut (ps_set (i := 4) sc_net_table.nd rfl (by first | exact Or.inl rfl | exact Or.inr rfl) (pe_call (ok_first_side T) (hr.mono (by decide)) (by rfl) T.g_first_side T.k_first_side T.b_first_side .nil pass0 (pa_cons (pv 0) (pa_cons (pv 3) pa_nil))))
          (pss_one (ps_expr (pe_bm PySem.F.plainAttrs_list PySem.F.slot_list_append PySem.F.type_list_append mt_append (pv 2) (pa_cons (pe_lc (own := [("start", 5), ("stop", 6)]) (wi := iList K _) (g := gTup K 2 (gCons (gName 5) (gCons (gName 6) gNil))) (tt := tYes) rfl sc_net_table.nd (pi_list (pv 1)) (blkOk_by (N := ["ends", "arcs", "told", "at", "sides", "start", "stop"]) (sc := (defScope s_net_table)) (by decide +kernel)) (fun _ _ _ _ _ => (pg_tup rfl (pgs_cons (pg_name (i := 5) sc_net_table.nd rfl (Or.inl rfl)) (pgs_cons (pg_name (i := 6) sc_net_table.nd rfl (Or.inl rfl)) pgs_nil)))) (fun _ _ _ _ _ => pts_nil) (fun _ _ _ _ _ => (pe_op op_sub (pe_ix (r := rIxL K) ix_list (pv 4) (pv 5) (fun _ _ => rfl)) (pe_ix (r := rIxL K) ix_list (pv 4) (pv 6) (fun _ _ => rfl))))) pa_nil))))))
      (pss_one (ps_ret (pv 2))))))), ?_⟩
    obtain ⟨p, q, as, bs, es, qs, rfl, hp, hE, hq, hA, ⟨l1, l8, hb, hT⟩, m1, m8, hqb, k⟩ := h
    have al : as.length = es.length := Paired.length hE
    refine ⟨_, rfl, p, as, es, rfl, hp, hE, l1, l8, hb, hT, fun H1 e1 => ?_⟩
    refine q_drop (σ := [some (.ref p), some (.ref q), none, none, none, none, none]) (v := .non) (ev_fn (sp := sp_check_arcs K) (E := E0) (ea_cons (ev_var (i := 1) rfl) (ea_cons (ev_is (ev_op (ev_len (ev_var (i := 0) rfl) (SqL.of (e1 _ _ hp))) ev_c rv_I0) (show _ = V.int ((es.length + 1 : Nat) : Int) by rw [List.length_map, al, Int.natCast_add]; rfl)) ea_nil)) fun H2 e2 Q2 q2 => ⟨q, bs, qs, ((es.length + 1 : Nat) : Int), rfl, (e1.trans e2) _ _ hq, EdgesAt.mono (tups_E (e1.trans e2)) hA, m1, m8, fun f hf => by have := hqb f hf; omega, fun H3 e3 => q2 H3 e3⟩) fun H2 e2 => ?_
    have e12 := e1.trans e2
    refine ⟨fun σ' H' => ∃ pt, σ' = [some (.ref p), some (.ref q), some (.ref pt), none, none, none, none] ∧ Ex H H' ∧ H pt = none ∧ H' pt = some (.lst []), ?_, ?_⟩
    · exact s_asgL (el_lst (vs := []) ea_nil (Nat.le_of_ble_eq_true rfl)) fun pt H3 nt e3 h3 => ⟨pt, rfl, e12.trans e3, fresh_back e12 nt, h3⟩
    rintro σ' H3 ⟨pt, rfl, e3, nt, h3⟩
    refine q_forR1 (n := (es.length : Int)) (ea_cons (ev_is (ev_len (ev_var (i := 0) rfl) (SqL.of (e3 _ _ hp))) (by rw [List.length_map, al])) ea_nil) (by omega) (fun i σ H' => ∃ (cs : List Addr) (y3 y4 y5 y6 : Option V), σ = [some (.ref p), some (.ref q), some (.ref pt), y3, y4, y5, y6] ∧ Ex H H' ∧ H' pt = some (.lst (cs.map V.ref)) ∧ RowsAt H' cs ((List.range i).map fun i => qs.map fun f => sd es i f.1 - sd es i f.2) ∧ (∀ a ∈ cs, H a = none) ∧ pt ∉ cs) (fun H4 e4 => ⟨[], _, _, _, _, rfl, e3.trans e4, e4 _ _ h3, .nil, fun a ha => by simp at ha, by simp⟩) (fun i σ H4 hi hP => ?_) (fun σ H4 hP => ?_)
    rotate_left
    · obtain ⟨cs, y3, y4, y5, y6, rfl, e4, h4, hr, nc, npt⟩ := hP
      rw [Int.toNat_natCast] at hr
      exact ⟨_, rfl, k pt cs H4 nt nc npt e4 ⟨h4, hr⟩⟩
    obtain ⟨cs, y3, y4, y5, y6, rfl, e4, h4, hr, nc, npt⟩ := hP
    have hin : i < es.length := by omega
    have hie : es[i]? = some es[i] := List.getElem?_eq_getElem hin
    refine ⟨fun σ' H' => ∃ ps, σ' = [some (.ref p), some (.ref q), some (.ref pt), some (.int (i : Int)), some (.ref ps), y5, y6] ∧ Ex H4 H' ∧ H' ps = some (.lst ((grpL (es.length + 1) (sd es i)).map V.int)), ?_, ?_⟩
    · refine ⟨_, rfl, _, rfl, p, as, es, i, es[i], rfl, e4 _ _ hp, EdgesAt.mono (tups_E e4) hE, l8, hb, hie, fun ps H5 _ e5 h5 => ⟨ps, rfl, e5, ?_⟩⟩
      rw [h5]
      unfold sd
      rw [hie]
      rfl
    rintro σ' H5 ⟨ps, rfl, e5, h5⟩
    refine s_appL (l := pt) (ys := (qs.map fun f => sd es i f.1 - sd es i f.2).map V.int) (e5 _ _ h4) (ev_var rfl) (el_pairs (K := K) (n := 1) (fun f => sd es i f.1 - sd es i f.2) rfl ((e4.trans e5) _ _ hq) (EdgesAt.mono (tups_E (e4.trans e5)) hA) (by omega) (fun u v => rfl) fun f H6 hf e6 => ?_) ?_ fun u H6 nu e6 hu => ?_
    · have bf := hqb f hf
      exact ev_op (ev_op (ev_var rfl) (ev_var rfl) (rv_ixL (SqL.of (e6 _ _ h5)) (grp_at bf.1 (by omega)))) (ev_op (ev_var rfl) (ev_var rfl) (rv_ixL (SqL.of (e6 _ _ h5)) (grp_at bf.2.2.1 (by omega)))) rv_I0
    · have := Paired.length hr
      rw [List.length_map, List.length_range] at this
      rw [List.length_map]
      omega
    · have e46 := e5.trans e6
      have nupt : u ≠ pt := fun z => by
        have := e5 _ _ h4
        rw [← z, nu] at this
        cases this
      refine ⟨cs ++ [u], _, _, _, _, rfl, Ex.mut (e4.trans e46) nt, ?_, ?_, fun a ha => ?_, fun ha => ?_⟩
      · rw [upd_same, List.map_append]
        rfl
      · rw [List.range_succ, List.map_append]
        have npt2 : ∀ a ∈ cs ++ [u], a ≠ pt := fun a ha => by
          rcases List.mem_append.mp ha with h | h
          · exact fun z => npt (by rw [← z]; exact h)
          · rw [List.mem_singleton.mp h]
            exact nupt
        refine rows_but (paired_snoc (hr.ex e46) hu) fun a ha o h => ?_
        rw [upd_ne (npt2 a ha)]
        exact h
      · rcases List.mem_append.mp ha with h | h
        · exact nc a h
        · rw [List.mem_singleton.mp h]
          exact fresh_back (e4.trans e5) nu
      · rcases List.mem_append.mp ha with h | h
        · exact npt h
        · exact nupt (List.mem_singleton.mp h).symm
-- DEF init_TooMany

theorem ok_init_TooMany (T : Txt K mg) : FnOk P w K mg base CX0 1 T.f_init_TooMany T.fd_init_TooMany ["self", "many"] (spTM K) := by
  refine Fun.ok T.F_init_TooMany sc_init_TooMany (fun vs H Q E h => ?_) (fun cdv A outer s H vs Q E hr h => ?_)
  · obtain ⟨_, _, _, _, rfl, _⟩ := h; rfl
  · refine ⟨_, (pss_cons (ps_expr (pe_initA (by rfl) T.g_SignError T.rd_SignError T.ga_SignError T.fi_SignError (pa_cons (pv 0) (pa_cons (pe_joined (PJ.cons pe_str (PJ.cons (pe_fmt (pv 1)) PJ.nil))) pa_nil))))
      (pss_one (ps_ostA (pv 0) (pv 1)))), ?_⟩
    obtain ⟨a, C, CS, i, rfl, own, no, hi, ha, k⟩ := h
    have ht := int_text_small hi
    refine ⟨_, rfl, _, rfl, ?_, _, rfl, .inr ⟨i, rfl, hi, _, rfl, ?_, a, C, CS, [_], rfl, (by show 1 ≤ 1000; decide), own, ha, _, rfl, _, rfl, a, C, CS, rfl, own, no, ha, fun dx hd nd => k dx hd nd⟩⟩
    · rw [sizeLine_eq]
      decide +kernel
    · rw [sizeLine_eq, Str.length_append]
      have e1 : (Str.empty ++ ("more than " : Str)).length = 10 := by decide +kernel
      rw [e1]
      omega
-- DEF all_lists

/-- lists of anything in a list -/
def RowsV (H : Hp) : List Addr → List (List V) → Prop := Paired fun a r => H a = some (.lst r)
def TabV (H : Hp) (p : Addr) (as : List Addr) (rows : List (List V)) : Prop := H p = some (.lst (as.map V.ref)) ∧ RowsV H as rows
theorem RowsV.ex {H H' : Hp} {as : List Addr} {rows : List (List V)} (h : RowsV H as rows) (e : Ex H H') : RowsV H' as rows := paired_imp (fun _ _ r => e _ _ r) h
theorem TabV.ex {H H' : Hp} {p : Addr} {as : List Addr} {rows : List (List V)} (h : TabV H p as rows) (e : Ex H H') : TabV H' p as rows := ⟨e _ _ h.1, h.2.ex e⟩
theorem rowsV_but {H H' : Hp} : ∀ {as : List Addr} {rows : List (List V)}, RowsV H as rows → (∀ a ∈ as, ∀ o, H a = some o → H' a = some o) → RowsV H' as rows
  | _, _, .nil, _ => .nil
  | _, _, .cons g t, h => .cons (h _ (List.mem_cons_self ..) _ g) (rowsV_but t fun a ha => h a (List.mem_cons_of_mem _ ha))
structure TN (s : Addr) (H : Hp) (p : Addr) (as : List Addr) (rows : List (List Int)) : Prop where
  tab : Tab H p as rows
  ps : p ≠ s
  ass : ∀ a ∈ as, a ≠ s
theorem TN.ex {s : Addr} {H H' : Hp} {p : Addr} {as : List Addr} {rows : List (List Int)} (h : TN s H p as rows) (e : Ex H H') : TN s H' p as rows := ⟨h.tab.ex e, h.ps, h.ass⟩
theorem TN.exB {s : Addr} {H H' : Hp} {p : Addr} {as : List Addr} {rows : List (List Int)} (h : TN s H p as rows) (e : ExB s H H') : TN s H' p as rows := ⟨⟨e _ _ h.ps h.tab.1, rows_but h.tab.2 fun a ha o g => e a o (h.ass a ha) g⟩, h.ps, h.ass⟩
theorem TN.of {s : Addr} {n : Int} {H0 H : Hp} {p : Addr} {as : List Addr} {rows : List (List Int)} (hs : SrcAt H0 s n) (hp : H0 p = none) (ha : ∀ a ∈ as, H0 a = none) (h : Tab H p as rows) : TN s H p as rows := ⟨h, hs.ne hp, fun a q => hs.ne (ha a q)⟩
theorem dp_rows {K : PySem.W.Frag} {H : Hp} : ∀ {as : List Addr} {rows : List (List Int)}, RowsAt H as rows → DpAll K H (as.map V.ref) (rows.map fun r => PyData.list (r.map PyData.int))
  | _, _, .nil => .nil
  | _, _, .cons h t => .cons (.lst (SqL.of h) (dpAll_ints _)) (dp_rows t)
theorem canLay_rows : ∀ rows : List (List Int), PyData.canLayAll0 (rows.map fun r => PyData.list (r.map PyData.int)) = true
  | [] => rfl
  | r :: rs => by
    show (PyData.canLayAll0 (r.map PyData.int) && PyData.canLayAll0 (rs.map fun r => PyData.list (r.map PyData.int))) = true
    rw [canLay_ints, canLay_rows rs]
    rfl
theorem depth_rows : ∀ rows : List (List Int), PyData.depthAll (rows.map fun r => PyData.list (r.map PyData.int)) ≤ 1
  | [] => Nat.zero_le _
  | r :: rs => by
    show max (PyData.depthAll (r.map PyData.int) + 1) (PyData.depthAll (rs.map fun r => PyData.list (r.map PyData.int))) ≤ 1
    have := depth_rows rs
    rw [depth_ints]
    omega
theorem rv_neT {K : PySem.W.Frag} {H : Hp} {p q : Addr} {as bs : List Addr} {rows : List (List Int)} (hp : Tab H p as rows) (hq : Tab H q bs rows) : RV (rNeD K) (.ref p) (.ref q) H (.bl false) := fun H1 e Q k => by
  have sh : SeqAt.shaped (.list (rows.map fun r => PyData.list (r.map PyData.int))) = true := shaped_list (canLay_rows rows) (Nat.le_trans (depth_rows rows) (by decide))
  refine ⟨_, _, .lst (SqL.of (e _ _ hp.1)) (dp_rows (hp.2.ex e)), .lst (SqL.of (e _ _ hq.1)) (dp_rows (hq.2.ex e)), sh, sh, ?_⟩
  rw [SeqAt.eqv_refl _ (SeqAt.canLay_of_shaped sh)]
  exact k H1 (Ex.refl _)
theorem cutV_ints (ns : List Int) (lo hi : Option Int) : ∃ zs : List Int, cutV (ns.map V.int) lo hi = zs.map V.int := by
  refine ⟨(ns.drop (HT.sIx (ns.map V.int).length 0 lo)).take (HT.sIx (ns.map V.int).length (ns.map V.int).length hi - HT.sIx (ns.map V.int).length 0 lo), ?_⟩
  unfold cutV
  rw [List.map_take, List.map_drop]
theorem lc_rowsT {K : PySem.W.Frag} {nn : Nat} {te : TE} {vs : List Nat} {j : Nat} {σ : L2.St} {H : Hp} {Q : VK} {a : Addr} {as0 : List Addr} {rows : List (List Int)} (F : List Int → List Int) (hσ : σ[nn]? = some (some (.ref a))) (ht : Tab H a as0 rows) (hm : rows.length ≤ 1000) (hw : ∀ u, wipe ((wipe σ vs).set j (some u)) vs = wipe σ vs)
    (he : ∀ c r H1, r ∈ rows → H c = some (.lst (r.map V.int)) → Ex H H1 → EvL te ((wipe σ vs).set j (some (.ref c))) H1 ((F r).map V.int))
    (k : ∀ p as H2, H p = none → (∀ a ∈ as, H a = none) → as.Nodup → p ∉ as → Ex H H2 → Tab H2 p as (rows.map F) → Q (.ref p) H2) : tLc (iList K (tVar nn)) (gName j) tYes te vs σ H Q := by
  refine ⟨_, hσ, a, rfl, ⟨_, SqL.of ht.1⟩, fun D hD => ?_⟩
  refine lc_list (K := K) (a := a) (xs := as0.map V.ref) (fun i H' => ∃ as, Ex H H' ∧ H' D = some (.lst (as.map V.ref)) ∧ RowsAt H' as ((rows.take i).map F) ∧ (∀ a ∈ as, H a = none) ∧ as.Nodup ∧ D ∉ as) ⟨[], Ex.new hD, upd_same, .nil, fun a ha => by simp at ha, List.nodup_nil, by simp⟩ (fun i H' _ ⟨_, p1, _⟩ => SqL.of (p1 _ _ ht.1)) (fun i x H' gx p => ?_) (fun H' p => ?_)
  · obtain ⟨as, p1, p2, p3, p4, p5, p6⟩ := p
    rw [List.getElem?_map] at gx
    obtain ⟨c0, hc0, rfl⟩ := Option.map_eq_some_iff.mp gx
    obtain ⟨y, hy, hh⟩ := paired_get ht.2 hc0
    have hi := (List.getElem?_eq_some_iff.mp hy).1
    have el : as.length = i := by rw [Paired.length p3, List.length_map, List.length_take]; omega
    refine ⟨hw _, ?_⟩
    show te _ H' _
    refine he c0 y H' (List.mem_of_getElem? hy) hh p1 H' (Ex.refl _) _ fun r H4 nr e4 hr => ?_
    have nrD : r ≠ D := fun z => by
      rw [z, p2] at nr
      cases nr
    refine ⟨_, e4 _ _ p2, ?_, as ++ [r], Ex.mut (p1.trans e4) hD, ?_, ?_, ?_, ?_, ?_⟩
    · rw [List.length_map, el]
      exact small1000 (by omega)
    · rw [upd_same, List.map_append]
      rfl
    · rw [take_snoc hy, List.map_append]
      refine paired_snoc (rows_but p3 fun b hb o g => ?_) ?_
      · rw [upd_ne (fun z => p6 (by rw [← z]; exact hb))]
        exact e4 _ _ g
      · rw [upd_ne nrD]
        exact hr
    · intro b hb
      rcases List.mem_append.mp hb with h | h
      · exact p4 b h
      · rw [show b = r by simpa using h]
        exact fresh_back p1 nr
    · refine List.nodup_append.mpr ⟨p5, by simp, fun b hb c hc z => ?_⟩
      have : c = r := by simpa using hc
      have hb' : r ∈ as := by rw [← this, ← z]; exact hb
      obtain ⟨x, _, hx'⟩ := paired_mem p3 hb'
      rw [nr] at hx'
      cases hx'
    · intro hb
      rcases List.mem_append.mp hb with h | h
      · exact p6 h
      · exact nrD (by simpa using h : D = r).symm
  · obtain ⟨as, p1, p2, p3, p4, p5, p6⟩ := p
    rw [List.length_map, Paired.length ht.2, List.take_length] at p3
    exact k D as H' hD p4 p5 p6 p1 ⟨p2, p3⟩
theorem el_catVL {ta tb : TE} {σ : L2.St} {H : Hp} {a : Addr} {xs ys : List V} (ha : Ev ta σ H (.ref a)) (h : H a = some (.lst xs)) (hb : EvL tb σ H ys) (hz : xs.length + ys.length ≤ 100000) : EvL (tOp rCat ta tb) σ H (xs ++ ys) := fun H1 e Q q =>
  ha H1 e _ fun H2 e2 => hb H2 (e.trans e2) _ fun r H3 nr e3 hr => ⟨a, r, xs, ys, rfl, rfl, ((e.trans e2).trans e3) _ _ h, hr, sz_of hz, fun l nl => q l _ (fresh_back (e2.trans e3) nl) ((e2.trans e3).trans (Ex.new nl)) upd_same⟩

/-- [F(r, z) for r in rows for z in zs]: new lists -/
theorem lc2_grow {K : PySem.W.Frag} {n1 n2 j j1 : Nat} {te : TE} {vs vs1 : List Nat} {σ : L2.St} {H : Hp} {Q : VK} {p q : Addr} {as : List Addr} {rows : List (List V)} {zs : List V} (F : List V → V → List V)
    (h1 : σ[n1]? = some (some (.ref p))) (ht : TabV H p as rows) (h2 : ∀ u, ((wipe σ vs).set j (some u))[n2]? = some (some (.ref q))) (hq : H q = some (.lst zs)) (hm : rows.length * zs.length ≤ 50000)
    (hw : ∀ u, wipe ((wipe σ vs).set j (some u)) vs = wipe σ vs) (hw1 : ∀ u v, wipe ((wipe ((wipe σ vs).set j (some u)) vs1).set j1 (some v)) vs1 = wipe ((wipe σ vs).set j (some u)) vs1)
    (he : ∀ c r z H1, r ∈ rows → z ∈ zs → H1 c = some (.lst r) → Ex H H1 → EvL te ((wipe ((wipe σ vs).set j (some (.ref c))) vs1).set j1 (some z)) H1 (F r z))
    (k : ∀ D bs H2, H D = none → (∀ b ∈ bs, H b = none) → bs.Nodup → D ∉ bs → Ex H H2 → TabV H2 D bs (rows.flatMap fun r => zs.map (F r)) → Q (.ref D) H2) :
    tLc2 (iList K (tVar n1)) (gName j) tYes (iList K (tVar n2)) (gName j1) tYes te vs vs1 σ H Q := by
  refine ⟨_, h1, p, rfl, ⟨_, SqL.of ht.1⟩, fun D hD => ?_⟩
  let Inv (rs : List (List V)) (G : Hp) : Prop := ∃ bs, Ex H G ∧ G D = some (.lst (bs.map V.ref)) ∧ RowsV G bs rs ∧ (∀ b ∈ bs, H b = none) ∧ bs.Nodup ∧ D ∉ bs
  have len : ∀ {rs : List (List V)} {G : Hp} {bs : List Addr}, RowsV G bs rs → bs.length = rs.length := fun h => Paired.length h
  refine ⟨fun i m G => m = rows.length - i ∧ i ≤ rows.length ∧ Inv ((rows.take i).flatMap fun r => zs.map (F r)) G, ⟨rows.length, by simp, Nat.zero_le _, [], Ex.new hD, upd_same, .nil, fun b hb => (nomatch hb), List.nodup_nil, fun z => nomatch z⟩, ?_⟩
  rintro i m G ⟨rfl, hi, bs, b1, b2, b3, b4, b5, b6⟩
  have al : as.length = rows.length := Paired.length ht.2
  by_cases hlt : i < rows.length
  rotate_left
  · have e : i = rows.length := by omega
    subst e
    rw [List.take_length] at b3
    exact .inl ⟨⟨_, SqL.of (b1 _ _ ht.1), by rw [List.length_map]; omega⟩, k D bs G hD b4 b5 b6 b1 ⟨b2, b3⟩⟩
  have ha : as[i]? = some as[i] := List.getElem?_eq_getElem (by omega)
  obtain ⟨r, hr, hh⟩ := paired_get ht.2 ha
  have hx : (as.map V.ref)[i]? = some (.ref as[i]) := by rw [List.getElem?_map, ha]; rfl
  refine .inr ⟨⟨_, _, SqL.of (b1 _ _ ht.1), hx⟩, Inv ((rows.take (i + 1)).flatMap fun r => zs.map (F r)), fun G' g' => ⟨rows.length - (i + 1), by omega, rfl, hlt, g'⟩, fun x G' y => ?_⟩
  obtain ⟨rfl, y⟩ := y
  have ex := y _ (SqL.of (b1 _ _ ht.1))
  rw [hx] at ex
  cases ex
  refine ⟨hw _, ?_⟩
  dsimp only [tYes]
  rw [if_pos rfl]
  refine ⟨_, h2 _, q, rfl, ⟨_, SqL.of (b1 _ _ hq)⟩, ?_⟩
  refine ⟨fun jj kk G => kk = zs.length - jj ∧ jj ≤ zs.length ∧ Inv (((rows.take i).flatMap fun r => zs.map (F r)) ++ (zs.take jj).map (F r)) G, ⟨zs.length, by simp, Nat.zero_le _, bs, b1, b2, by rw [List.take_zero, List.map_nil, List.append_nil]; exact b3, b4, b5, b6⟩, ?_⟩
  rintro jj kk G2 ⟨rfl, hj, cs, c1, c2, c3, c4, c5, c6⟩
  by_cases hlt2 : jj < zs.length
  rotate_left
  · have e : jj = zs.length := by omega
    subst e
    rw [List.take_length] at c3
    refine .inl ⟨⟨_, SqL.of (c1 _ _ hq), by omega⟩, cs, c1, c2, ?_, c4, c5, c6⟩
    rw [take_snoc hr, List.flatMap_append, List.flatMap_cons, List.flatMap_nil, List.append_nil]
    exact c3
  have hz : zs[jj]? = some zs[jj] := List.getElem?_eq_getElem hlt2
  have hx2 : zs[jj]? = some zs[jj] := hz
  refine .inr ⟨⟨_, _, SqL.of (c1 _ _ hq), hx2⟩, Inv (((rows.take i).flatMap fun r => zs.map (F r)) ++ (zs.take (jj + 1)).map (F r)), fun G' g' => ⟨zs.length - (jj + 1), by omega, rfl, hlt2, g'⟩, fun x G' y => ?_⟩
  obtain ⟨rfl, y⟩ := y
  have ex := y _ (SqL.of (c1 _ _ hq))
  rw [hx2] at ex
  cases ex
  refine ⟨hw1 _ _, ?_⟩
  rw [if_pos rfl]
  refine he as[i] r zs[jj] _ (List.mem_of_getElem? hr) (List.getElem_mem hlt2) (c1 _ _ hh) c1 _ (Ex.refl _) _ fun u G3 nu e3 hu => ?_
  have nuD : u ≠ D := fun z => by
    rw [z, c2] at nu
    cases nu
  have lc : cs.length ≤ 50000 := by
    rw [len c3, List.length_append, List.length_map, List.length_take, List.length_flatMap]
    have : ((rows.take i).map fun r => (zs.map (F r)).length).sum = i * zs.length := by
      have : ((rows.take i).map fun r => (zs.map (F r)).length) = List.replicate i zs.length := by
        rw [List.eq_replicate_iff]
        refine ⟨by rw [List.length_map, List.length_take]; omega, fun b hb => ?_⟩
        obtain ⟨r, _, rfl⟩ := List.mem_map.mp hb
        rw [List.length_map]
      rw [this, List.sum_replicate_nat]
    rw [this]
    have h3 : (i + 1) * zs.length ≤ rows.length * zs.length := Nat.mul_le_mul_right _ hlt
    rw [Nat.add_mul, Nat.one_mul] at h3
    omega
  refine ⟨_, e3 _ _ c2, by rw [List.length_map]; exact sz_lt (by omega), cs ++ [u], Ex.mut (c1.trans e3) hD, ?_, ?_, ?_, ?_, ?_⟩
  · rw [upd_same, List.map_append]
    rfl
  · rw [take_snoc hz, List.map_append, ← List.append_assoc]
    refine paired_snoc (rowsV_but c3 fun b hb o g => ?_) ?_
    · rw [upd_ne (fun z => c6 (by rw [← z]; exact hb))]
      exact e3 _ _ g
    · rw [upd_ne nuD]
      exact hu
  · intro b hb
    rcases List.mem_append.mp hb with h | h
    · exact c4 b h
    · rw [List.mem_singleton.mp h]
      exact fresh_back c1 nu
  · refine List.nodup_append.mpr ⟨c5, by simp, fun b hb c hc z => ?_⟩
    have : c = u := by simpa using hc
    have hb' : u ∈ cs := by rw [← this, ← z]; exact hb
    obtain ⟨x, _, hx'⟩ := paired_mem c3 hb'
    rw [nu] at hx'
    cases hx'
  · intro hb
    rcases List.mem_append.mp hb with h | h
    · exact c6 h
    · exact nuD (List.mem_singleton.mp h).symm
def sp_all_lists (K : PySem.W.Frag) : Sp := fun vs H Q _ => ∃ (p : Addr) (cs : List Addr) (choices : List (List V)) (b : Nat), vs = [.ref p] ∧ TabV H p cs choices ∧ (∀ c ∈ choices, c.length ≤ b) ∧ 1 ≤ b ∧ b ^ choices.length ≤ 5000 ∧ b ≤ 10 ∧ choices.length ≤ 20 ∧
  ∀ q bs H', H q = none → (∀ a ∈ bs, H a = none) → bs.Nodup → q ∉ bs → Ex H H' → TabV H' q bs (LsA.allL choices) → Q (.ref q) H'

theorem ok_all_lists (T : Txt K mg) : FnOk P w K mg base CX0 1 T.f_all_lists T.fd_all_lists ["choices"] (sp_all_lists K) := by
  refine Fun.ok T.F_all_lists sc_all_lists (fun vs H Q E h => ?_) (fun cdv A outer s H vs Q E hr h => ?_)
  · obtain ⟨_, _, _, _, rfl, _⟩ := h; rfl
  · refine ⟨_, (pss_cut (ps_set (i := 1) sc_all_lists.nd rfl (by first | exact Or.inl rfl | exact Or.inr rfl) (pe_lst (pa_cons (pe_lst pa_nil) pa_nil)))
      (pss_cons (ps_for PassesOwn.never rfl (pi_list (pv 0)) (pg_name (i := 2) sc_all_lists.nd rfl (by first | exact Or.inl rfl | exact Or.inr rfl))
        (pss_one (ps_setLc2 (i := 1) (own := [("ahead", 3), ("one", 4)]) (vs1 := [4]) (wi := iList K _) (g := gName 3) (tt := tYes) (wi1 := iList K _) (g1 := gName 4) (tt1 := tYes) rfl sc_all_lists.nd rfl rfl (sw_true rfl rfl rfl (by decide +kernel)) (pi_list (pv 1)) (blkOk_by (N := ["choices", "told", "some", "ahead", "one"]) (sc := (defScope s_all_lists)) (by decide +kernel)) (by decide) (fun _ _ _ _ _ => pg_name (i := 3) sc_all_lists.nd rfl (Or.inl rfl)) (fun _ _ _ _ _ => pts_nil) (fun _ _ _ _ _ => (pi_list (pv 2))) (fun _ _ _ _ _ => pg_name (i := 4) sc_all_lists.nd rfl (Or.inl rfl)) (fun _ _ _ _ _ => pts_nil) (fun _ _ _ _ _ => (pe_op op_cat (pv 3) (pe_lst (pa_cons (pv 4) pa_nil)))))))
      (pss_one (ps_ret (pv 1))))), ?_⟩
    obtain ⟨p, cs, choices, b, rfl, hT, hc, b1, hb, b10, c20, k⟩ := h
    have cl : cs.length = choices.length := Paired.length hT.2
    refine ⟨fun σ' H' => ∃ (q : Addr) (bs : List Addr), σ' = [some (.ref p), some (.ref q), none, none, none] ∧ Ex H H' ∧ H q = none ∧ (∀ a ∈ bs, H a = none) ∧ bs.Nodup ∧ q ∉ bs ∧ TabV H' q bs [[]], ?_, ?_⟩
    · refine ⟨Nat.zero_le _, fun l nl => ⟨(by show 1 ≤ sizeLine; decide), fun t nt => ⟨t, [l], rfl, (Ex.new nl).trans (Ex.new nt), fresh_back (Ex.new nl) nt, fun a ha => by rw [List.mem_singleton.mp ha]; exact nl, by simp, fun z => ?_, upd_same, .cons (Ex.new nt _ _ upd_same) .nil⟩⟩⟩
      rw [List.mem_singleton.mp z, upd_same] at nt
      cases nt
    rintro σ' H1 ⟨q, bs, rfl, e1, nq, nbs, nd, qb, hq⟩
    refine q_forL (xs := cs.map V.ref) (ev_var (i := 0) rfl) (SqL.of (e1 _ _ hT.1)) (fun i σ' H' => ∃ (q : Addr) (bs : List Addr) (y2 : Option V), σ' = [some (.ref p), some (.ref q), y2, none, none] ∧ Ex H H' ∧ H q = none ∧ (∀ a ∈ bs, H a = none) ∧ bs.Nodup ∧ q ∉ bs ∧ TabV H' q bs (LsA.allL (choices.take i))) (fun H2 e2 => ⟨q, bs, _, rfl, e1.trans e2, nq, nbs, nd, qb, hq.ex e2⟩) (fun i σ' H' _ ⟨_, _, _, _, h, _⟩ => SqL.of (h _ _ hT.1)) (fun i x σ' H2 hx hP => ?_) (fun σ' H2 hP => ?_)
    · obtain ⟨q, bs, y2, rfl, e2, nq, nbs, nd, qb, hq⟩ := hP
      rw [List.getElem?_map] at hx
      obtain ⟨c, hc', rfl⟩ := Option.map_eq_some_iff.mp hx
      obtain ⟨zs, hz, hh⟩ := paired_get hT.2 hc'
      have hi := (List.getElem?_eq_some_iff.mp hz).1
      have l1 : (LsA.allL (choices.take i)).length ≤ 5000 := by
        have := LsA.allL_len (b := b) (cs := choices.take i) fun c h => hc c (List.mem_of_mem_take h)
        refine Nat.le_trans this (Nat.le_trans (Nat.pow_le_pow_right b1 ?_) hb)
        rw [List.length_take]
        omega
      show tAsg _ (gName 1) _ [some (.ref p), some (.ref q), some (.ref c), none, none] H2
      refine lc2_grow (K := K) (n1 := 1) (n2 := 2) (σ := [some (.ref p), some (.ref q), some (.ref c), none, none]) (vs := [3, 4]) (vs1 := [4]) (j := 3) (j1 := 4) (F := fun r z => r ++ [z]) rfl hq (fun u => rfl) (e2 _ _ hh) ?_ (fun u => rfl) (fun u v => rfl) (fun c r z H3 hr hz hc e3 => ?_) (fun D ds H3 nD nds ndd Dd e3 h3 => ⟨D, ds, _, rfl, e2.trans e3, fresh_back e2 nD, fun a ha => fresh_back e2 (nds a ha), ndd, Dd, ?_⟩)
      · have l2 := hc zs (List.mem_of_getElem? hz)
        exact Nat.le_trans (Nat.mul_le_mul l1 (Nat.le_trans l2 b10)) (by decide)
      · refine el_catVL (ev_var rfl) hc (el_lst (vs := [z]) (ea_cons (ev_var rfl) ea_nil) (Nat.le_of_ble_eq_true rfl)) ?_
        have l3 := Paired.length (LsA.allL_each _ _ rfl r hr)
        rw [l3, List.length_take]
        show _ + 1 ≤ 100000
        omega
      · rw [take_snoc hz, LsA.allL_snoc]
        exact h3
    · obtain ⟨q, bs, y2, rfl, e2, nq, nbs, nd, qb, hq⟩ := hP
      rw [List.length_map, cl, List.take_length] at hq
      exact ⟨_, rfl, k q bs H2 nq nbs nd qb e2 hq⟩
-- DEF moved

/-! how much comes to each place, and the arc whose way it is -/
namespace Af
open PySem PySem.Spec PyProof.Rows
def addAt (os : List Int) (i : Nat) (x : Int) : List Int := os.set i (os[i]?.getD 0 + x)
def turn1 (os : List Int) (e : Int × Int) (x : Int) : List Int := addAt (addAt os e.1.toNat x) e.2.toNat (-x)
def overL : List Int → List (Int × Int) → List Int → List Int
  | os, e :: es, x :: xs => overL (turn1 os e x) es xs
  | os, _, _ => os
theorem addAt_len (os : List Int) (i : Nat) (x : Int) : (addAt os i x).length = os.length := List.length_set ..
theorem turn1_len (os : List Int) (e : Int × Int) (x : Int) : (turn1 os e x).length = os.length := by
  unfold turn1
  rw [addAt_len, addAt_len]
theorem overL_len : ∀ (os : List Int) (es : List (Int × Int)) (xs : List Int), (overL os es xs).length = os.length
  | os, e :: es, x :: xs => by
    show (overL (turn1 os e x) es xs).length = _
    rw [overL_len, turn1_len]
  | os, [], _ => by unfold overL; rfl
  | os, _ :: _, [] => by unfold overL; rfl
theorem overL_snoc : ∀ (os : List Int) (es : List (Int × Int)) (xs : List Int) (e : Int × Int) (x : Int), es.length = xs.length → overL os (es ++ [e]) (xs ++ [x]) = turn1 (overL os es xs) e x
  | os, [], [], e, x, _ => rfl
  | os, a :: es, y :: xs, e, x, h => overL_snoc (turn1 os a y) es xs e x (by simpa using h)
  | os, [], _ :: _, _, _, h => by simp at h
  | os, _ :: _, [], _, _, h => by simp at h
theorem overL_cut : ∀ (os : List Int) (es : List (Int × Int)) (xs : List Int), es.length ≤ xs.length → overL os es (xs.take es.length) = overL os es xs
  | os, [], xs, _ => by cases xs <;> rfl
  | os, a :: es, y :: xs, h => overL_cut (turn1 os a y) es xs (by simpa using h)
  | os, _ :: _, [], h => by simp at h
def nz (os : List Int) : List Int := os.filter fun x => decide (x ≠ 0)
def zero (n : Nat) : List Int := (List.range n).map fun _ => 0
/-- an arc whose way leaves this at the places, or none -/
def arcOf (os : List Int) : Option (Int × Int) := if nz os = [] then some (0, 0) else if nz os = [1, -1] ∨ nz os = [-1, 1] then some (((os.idxOf 1 : Nat) : Int), ((os.idxOf (-1) : Nat) : Int)) else none
theorem two_perm {l : List Int} (h : [(-1 : Int), 1].Perm l) : l = [1, -1] ∨ l = [-1, 1] := by
  have hl := h.length_eq
  match l, hl with
  | [a, b], _ =>
    have ha : a ∈ [(-1 : Int), 1] := h.mem_iff.mpr (by simp)
    have hb : b ∈ [(-1 : Int), 1] := h.mem_iff.mpr (by simp)
    have h1 : (-1 : Int) ∈ [a, b] := h.mem_iff.mp (by simp)
    have h2 : (1 : Int) ∈ [a, b] := h.mem_iff.mp (by simp)
    simp only [List.mem_cons, List.not_mem_nil, or_false] at ha hb h1 h2
    simp only [List.cons.injEq, and_true]
    omega
theorem perm_two {l l' : List Int} (h : l'.Perm l) (s : l'.Pairwise (· ≤ ·)) (h2 : l = [1, -1] ∨ l = [-1, 1]) : l' = [-1, 1] := by
  have p : l'.Perm [-1, 1] := by
    rcases h2 with rfl | rfl
    · exact h.trans (List.Perm.swap ..)
    · exact h
  have hl := p.length_eq
  match l', hl with
  | [a, b], _ =>
    rcases two_perm p.symm with e | e
    · rw [e] at s
      simp at s
    · exact e
theorem eqv_two : ∀ l : List Int, PyData.eqv (.list (l.map .int)) (.list [.int (-1), .int 1]) = true → l = [-1, 1]
  | [], h => by cases h
  | [a], h => by
    have : (PyData.eqv (.int a) (.int (-1)) && false) = true := h
    simp at this
  | [a, b], h => by
    have : (PyData.eqv (.int a) (.int (-1)) && (PyData.eqv (.int b) (.int 1) && true)) = true := h
    simp [PyData.eqv] at this
    rw [this.1, this.2]
  | a :: b :: c :: l, h => by
    have : (PyData.eqv (.int a) (.int (-1)) && (PyData.eqv (.int b) (.int 1) && false)) = true := h
    simp at this
end Af
/-- a loop over zip, the first list not longer than the second -/
theorem for_zipMin {K : PySem.W.Frag} {a b : Addr} {xs ys : List V} {g : TG} {tb : TS} {D : Ends} {σ : L2.St} {H : Hp} (hl : xs.length ≤ ys.length) (Inv : Nat → L2.St → Hp → Prop) (start : Inv 0 σ H) (both : ∀ i σ H, Inv i σ H → SqL K H a xs ∧ SqL K H b ys)
    (step : ∀ (i : Nat) (x y : V) (T : Addr) (σ : L2.St) (H : Hp), xs[i]? = some x → ys[i]? = some y → Inv i σ H → H T = none → g (.ref T) σ (upd H T (.tup [x, y])) fun σ2 H2 => tb { D with nx := Inv (i + 1), ct := Inv (i + 1), bk := D.nx } σ2 H2) (fin : ∀ σ H, Inv xs.length σ H → D.nx σ H) :
    ∃ W : Nat → Nat → L2.St → Hp → Prop, (∃ m, W 0 m σ H) ∧ ∀ i m σ H, W i m σ H →
      ((Itz K a b).stop i H ∧ D.nx σ H) ∨ ((Itz K a b).go i H ∧ ∃ N : L2.St → Hp → Prop, (∀ σ' H', N σ' H' → ∃ m', m' < m ∧ W (i + 1) m' σ' H') ∧ ∀ v H', (Itz K a b).yld i H v H' → g v σ H' fun σ2 H2 => tb { D with nx := N, ct := N, bk := D.nx } σ2 H2) := by
  refine ⟨fun i m σ H => i + m = xs.length ∧ Inv i σ H, ⟨xs.length, Nat.zero_add _, start⟩, fun i m σ H told => ?_⟩
  obtain ⟨him, inv⟩ := told
  have sq := both i σ H inv
  cases m with
  | zero =>
    have hi : i = xs.length := by omega
    rw [hi] at inv ⊢
    exact .inl ⟨⟨xs, ys, sq.1, sq.2, .inl (Nat.le_refl _)⟩, fin σ H inv⟩
  | succ m =>
    have i1 : i < xs.length := by omega
    have i2 : i < ys.length := by omega
    refine .inr ⟨⟨xs, ys, xs[i], ys[i], sq.1, sq.2, List.getElem?_eq_getElem i1, List.getElem?_eq_getElem i2⟩, Inv (i + 1), fun σ' H' inv' => ⟨m, Nat.lt_succ_self m, by omega, inv'⟩, ?_⟩
    rintro v H' ⟨T, x', y', rfl, nT, rfl, f1, f2⟩
    exact step i x' y' T σ H (f1 xs sq.1) (f2 ys sq.2) inv nT
theorem s_retIf {t : TT} {ta tb : TE} {D : Ends} {σ : L2.St} {H : Hp} {b : Bool} (h : EvT t σ H b) (h1 : b = true → ∀ H1, Ex H H1 → ta σ H1 D.rt) (h2 : b = false → ∀ H1, Ex H H1 → tb σ H1 D.rt) : tRet (tIf t ta tb) D σ H := h H (Ex.refl H) _ fun H1 e1 => by
  cases b with
  | true => exact h1 rfl H1 e1
  | false => exact h2 rfl H1 e1
theorem ix_to {os : List Int} {u : Int} (u0 : 0 ≤ u) (ul : u < os.length) : ixN (os.map V.int).length u = some u.toNat := by
  have := ixN_nat (n := (os.map V.int).length) (j := u.toNat) (by rw [List.length_map]; omega)
  rwa [Int.toNat_of_nonneg u0] at this
theorem at_to {os : List Int} {u : Int} (u0 : 0 ≤ u) (ul : u < os.length) : (os.map V.int)[u.toNat]? = some (.int (os[u.toNat]?.getD 0)) := by
  rw [List.getElem?_map, List.getElem?_eq_getElem (show u.toNat < os.length by omega)]
  rfl
theorem put_to (os : List Int) (i : Nat) (z : Int) : (os.map V.int).set i (.int z) = (os.set i z).map V.int := by
  rw [List.map_set]
theorem aug_add {K : PySem.W.Frag} {n1 n2 n3 : Nat} {σ : L2.St} {H : Hp} {D : Ends} {po : Addr} {os : List Int} {u x : Int} (h1 : σ[n1]? = some (some (.ref po))) (h2 : σ[n2]? = some (some (.int u))) (h3 : σ[n3]? = some (some (.int x))) (ho : H po = some (.lst (os.map V.int))) (u0 : 0 ≤ u) (ul : u < os.length)
    (k : D.nx σ (upd H po (.lst ((Af.addAt os u.toNat x).map V.int)))) : tAugS (tVar n1) (tVar n2) (tVar n3) (AgL.rGetL K) (ipI fun i j => i + j) rSetL D σ H :=
  ⟨_, h1, _, h2, po, _, u.toNat, _, rfl, by rw [Int.toNat_of_nonneg u0], SqL.of ho, at_to u0 ul, _, h3, _, _, rfl, rfl, po, _, u, u.toNat, rfl, rfl, ho, ix_to u0 ul, by rw [put_to]; exact k⟩
theorem aug_sub {K : PySem.W.Frag} {n1 n2 n3 : Nat} {σ : L2.St} {H : Hp} {D : Ends} {po : Addr} {os : List Int} {u x : Int} (h1 : σ[n1]? = some (some (.ref po))) (h2 : σ[n2]? = some (some (.int u))) (h3 : σ[n3]? = some (some (.int x))) (ho : H po = some (.lst (os.map V.int))) (u0 : 0 ≤ u) (ul : u < os.length)
    (k : D.nx σ (upd H po (.lst ((Af.addAt os u.toNat (-x)).map V.int)))) : tAugS (tVar n1) (tVar n2) (tVar n3) (AgL.rGetL K) (ipI fun i j => i - j) rSetL D σ H :=
  ⟨_, h1, _, h2, po, _, u.toNat, _, rfl, by rw [Int.toNat_of_nonneg u0], SqL.of ho, at_to u0 ul, _, h3, _, _, rfl, rfl, po, _, u, u.toNat, rfl, rfl, ho, ix_to u0 ul, by rw [put_to]; exact k⟩
theorem asg_callB {r : List V → Hp → VK → Prop} {te : TE} {g : TG} {D : Ends} {σ : L2.St} {H : Hp} (h : te σ H fun v H1 => r [v] H1 (fun x H2 => g x σ H2 D.nx)) : tAsg (tCB r (tCons te tNil)) g D σ H := h
theorem sh_ints (z : List Int) : SeqAt.shaped (.list (z.map .int)) = true := by
  unfold SeqAt.shaped
  have l : (PyData.list (z.map .int)).canLay0 = true := canLay_ints z
  have d : (PyData.list (z.map .int)).depth ≤ 1 := by
    show PyData.depthAll (z.map PyData.int) + 1 ≤ 1
    rw [depth_ints]
    decide
  rw [l, decide_eq_true (Nat.le_trans d (by decide))]
  rfl
theorem idx_at {x : Int} : ∀ {os : List Int}, x ∈ os → os[os.idxOf x]? = some x ∧ ∀ m z, m < os.idxOf x → os[m]? = some z → z ≠ x
  | a :: l, h => by
    by_cases e : a = x
    · subst e
      have e0 : (a :: l).idxOf a = 0 := by simp
      rw [e0]
      exact ⟨rfl, fun m z h => absurd h (Nat.not_lt_zero _)⟩
    · have hl : x ∈ l := by
        rcases List.mem_cons.mp h with r | r
        · exact absurd r.symm e
        · exact r
      have e0 : (a :: l).idxOf x = l.idxOf x + 1 := by
        rw [List.idxOf_cons, beq_eq_false_iff_ne.mpr e]
        rfl
      rw [e0]
      have ih := idx_at hl
      refine ⟨ih.1, fun m z hm hz => ?_⟩
      cases m with
      | zero =>
        cases hz
        exact e
      | succ m => exact ih.2 m z (by omega) hz
theorem all_flat : ∀ os : List Int, (os.map V.int).all flatV = true
  | [] => rfl
  | a :: l => by
    show (flatV (.int a) && (l.map V.int).all flatV) = true
    rw [all_flat l]
    rfl
theorem ev_index {K : PySem.W.Frag} {i : Nat} {te : TE} {σ : L2.St} {H : Hp} {a : Addr} {os : List Int} {x : Int} (h : σ[i]? = some (some (.ref a))) (ha : H a = some (.lst (os.map V.int))) (hx : x ∈ os) (he : Ev te σ H (.int x)) : Ev (tBM K "list" (rIndex K) (tVar i) (tCons te tNil)) σ H (.int ((os.idxOf x : Nat) : Int)) := fun H1 e1 Q q =>
  ⟨_, h, .inl ⟨rfl, _, SqL.of (e1 _ _ ha)⟩, he H1 e1 _ fun H2 e2 => by
    obtain ⟨i1, i2⟩ := idx_at hx
    refine ⟨a, _, .int x, os.idxOf x, .int x, rfl, rfl, SqL.of ((e1.trans e2) _ _ ha), rfl, all_flat os, by rw [List.getElem?_map, i1]; rfl, by show ((x == x)) = true; simp, fun m z' hm hz => ?_, q H2 e2⟩
    rw [List.getElem?_map] at hz
    obtain ⟨z, hz2, rfl⟩ := Option.map_eq_some_iff.mp hz
    show (z == x) = false
    exact beq_eq_false_iff_ne.mpr (i2 m z hm hz2)⟩
/-- [x for x in xs if p(x)], numbers -/
theorem el_keepI {K : PySem.W.Frag} {nn j : Nat} {tt : TT} {vs : List Nat} {σ : L2.St} {H : Hp} {a : Addr} {os : List Int} (p : Int → Bool) (hσ : σ[nn]? = some (some (.ref a))) (ha : H a = some (.lst (os.map V.int))) (hm : os.length ≤ 1000) (hw : ∀ u, wipe ((wipe σ vs).set j (some u)) vs = wipe σ vs) (hj : ∀ u, ((wipe σ vs).set j (some u))[j]? = some (some u))
    (hc : ∀ y H1, y ∈ os → Ex H H1 → EvT tt ((wipe σ vs).set j (some (.int y))) H1 (p y)) : EvL (tLc (iList K (tVar nn)) (gName j) tt (tVar j) vs) σ H ((os.filter p).map V.int) := fun H0 e0 Q q => by
  have ha0 := e0 _ _ ha
  refine ⟨_, hσ, a, rfl, ⟨_, SqL.of ha0⟩, fun D hD => ?_⟩
  refine lc_list (K := K) (a := a) (xs := os.map V.int) (fun i H' => Ex H0 H' ∧ H' D = some (.lst (((os.take i).filter p).map V.int))) ⟨Ex.new hD, upd_same⟩ (fun i H' _ pp => SqL.of (pp.1 _ _ ha0)) (fun i x H' gx pp => ?_) (fun H' pp => ?_)
  · obtain ⟨p1, p2⟩ := pp
    rw [List.getElem?_map] at gx
    obtain ⟨y, hy, rfl⟩ := Option.map_eq_some_iff.mp gx
    refine ⟨hw _, ?_⟩
    refine hc y H' (List.mem_of_getElem? hy) (e0.trans p1) H' (Ex.refl _) _ fun H3 e3 => ?_
    by_cases hp : p y = true
    · rw [if_pos hp]
      refine ⟨_, hj _, _, e3 _ _ p2, ?_, Ex.mut (p1.trans e3) hD, ?_⟩
      · rw [List.length_map]
        refine small1000 (Nat.le_trans (List.length_filter_le _ _) ?_)
        rw [List.length_take]
        omega
      · rw [upd_same, take_snoc hy, List.filter_append, List.filter_cons_of_pos hp, List.map_append]
        rfl
    · rw [if_neg hp]
      refine ⟨p1.trans e3, ?_⟩
      rw [take_snoc hy, List.filter_append, List.filter_cons_of_neg hp, List.filter_nil, List.append_nil]
      exact e3 _ _ p2
  · obtain ⟨p1, p2⟩ := pp
    rw [List.length_map, List.take_length] at p2
    exact q D H' hD p1 p2
def ArcV (H : Hp) (v : V) (o : Option (Int × Int)) : Prop := match o with
  | none => v = .non
  | some e => ∃ t, v = .ref t ∧ H t = some (.tup [.int e.1, .int e.2])

def mv (e : Int × Int) (i n : Int) : Int × Int := if e.1 = i then (n, e.2) else (e.1, n)
def sp_moved (K : PySem.W.Frag) : Sp := fun vs H Q _ => ∃ (p : Addr) (e : Int × Int) (i n : Int), vs = [.ref p, .int i, .int n] ∧ H p = some (.tup [.int e.1, .int e.2]) ∧ ∀ t H', H t = none → Ex H H' → H' t = some (.tup [.int (mv e i n).1, .int (mv e i n).2]) → Q (.ref t) H'

theorem ok_moved (T : Txt K mg) : FnOk P w K mg base CX0 1 T.f_moved T.fd_moved ["end", "place", "new"] (sp_moved K) := by
  refine Fun.ok T.F_moved sc_moved (fun vs H Q E h => ?_) (fun cdv A outer s H vs Q E hr h => ?_)
  · obtain ⟨_, _, _, _, rfl, _⟩ := h; rfl
  · refine ⟨_, (pss_cons (ps_asg (pv 0) (pg_tup rfl (pgs_cons (pg_name (i := 3) sc_moved.nd rfl (by first | exact Or.inl rfl | exact Or.inr rfl)) (pgs_cons (pg_name (i := 4) sc_moved.nd rfl (by first | exact Or.inl rfl | exact Or.inr rfl)) pgs_nil))))
      (pss_one (ps_ret (pe_ifExp (pt_cmpR op_eq (pv 3) (pv 1) (nomark _)) (pe_tup (pa_cons (pv 2) (pa_cons (pv 4) pa_nil))) (pe_tup (pa_cons (pv 3) (pa_cons (pv 2) pa_nil))))))), ?_⟩
    obtain ⟨p, ⟨a, b⟩, i, n, rfl, hp, k⟩ := h
    refine ⟨_, rfl, p, _, rfl, SqT.of hp, rfl, _, _, rfl, _, _, rfl, rfl, ?_⟩
    have mt : a = i → mv (a, b) i n = (n, b) := fun h => if_pos h
    have mf : a ≠ i → mv (a, b) i n = (a, n) := fun h => if_neg h
    refine s_retIf (σ := [some (.ref p), some (.int i), some (.int n), some (.int a), some (.int b)]) (b := decide (V.int a = V.int i)) (et_test (ev_op (ev_var (i := 3) rfl) (ev_var (i := 1) rfl) (rv_eq rfl))) (fun z H1 e1 => ?_) (fun z H1 e1 => ?_)
    · refine (eu_tup (ea_cons (ev_var (i := 2) rfl) (ea_cons (ev_var (i := 4) rfl) ea_nil)) (Nat.le_of_ble_eq_true rfl)) H1 e1 _ fun t H2 nt e2 ht => k t H2 (fresh_back e1 nt) (e1.trans e2) ?_
      rw [mt (V.int.inj (of_decide_eq_true z))]
      exact ht
    · refine (eu_tup (ea_cons (ev_var (i := 3) rfl) (ea_cons (ev_var (i := 2) rfl) ea_nil)) (Nat.le_of_ble_eq_true rfl)) H1 e1 _ fun t H2 nt e2 ht => k t H2 (fresh_back e1 nt) (e1.trans e2) ?_
      rw [mf fun q => of_decide_eq_false z (by rw [q])]
      exact ht
-- DEF arc_for

def sp_arc_for (K : PySem.W.Frag) : Sp := fun vs H Q _ => ∃ (p q : Addr) (as : List Addr) (es : List (Int × Int)) (ns : List Int), vs = [.ref p, .ref q] ∧ H p = some (.lst (as.map V.ref)) ∧ EdgesAt H as es ∧ es.length ≤ 8 ∧ (∀ e ∈ es, 0 ≤ e.1 ∧ e.1 ≤ es.length ∧ 0 ≤ e.2 ∧ e.2 ≤ es.length) ∧ H q = some (.lst (ns.map V.int)) ∧ es.length ≤ ns.length ∧
  ∀ v H', Ex H H' → ArcV H' v (Af.arcOf (Af.overL (Af.zero (es.length + 1)) es ns)) → Q v H'

theorem ok_arc_for (T : Txt K mg) : FnOk P w K mg base CX0 1 T.f_arc_for T.fd_arc_for ["ends", "column"] (sp_arc_for K) := by
  refine Fun.ok T.F_arc_for sc_arc_for (fun vs H Q E h => ?_) (fun cdv A outer s H vs Q E hr h => ?_)
  · obtain ⟨_, _, _, _, _, rfl, _⟩ := h; rfl
  · refine ⟨_, (pss_cut (ps_setLc (i := 2) (own := [("_", 7)]) (g := gName 7) (tt := tYes) rfl sc_arc_for.nd rfl rfl (sw_true rfl rfl rfl (by decide +kernel)) (pi_range1 (by rfl) T.n_range (pa_cons (pe_op op_add (pe_callB (id := "len") (r := rLenS K) call_len_seq (by rfl) T.n_len PySem.boot_len (pa_cons (pv 0) pa_nil)) pe_int) pa_nil)) (blkOk_by (N := ["ends", "column", "over", "start", "stop", "entry", "rest", "_", "many"]) (sc := (defScope s_arc_for)) (by decide +kernel)) (fun _ _ _ _ _ => pg_name (i := 7) sc_arc_for.nd rfl (Or.inl rfl)) (fun _ _ _ _ _ => pts_nil) (fun _ _ _ _ _ => pe_int))
      (pss_cons (ps_for PassesOwn.never rfl (pi_zip (by rfl) T.n_zip (pa_cons (pv 0) (pa_cons (pv 1) pa_nil))) (pg_tup rfl (pgs_cons (pg_tup rfl (pgs_cons (pg_name (i := 3) sc_arc_for.nd rfl (by first | exact Or.inl rfl | exact Or.inr rfl)) (pgs_cons (pg_name (i := 4) sc_arc_for.nd rfl (by first | exact Or.inl rfl | exact Or.inr rfl)) pgs_nil))) (pgs_cons (pg_name (i := 5) sc_arc_for.nd rfl (by first | exact Or.inl rfl | exact Or.inr rfl)) pgs_nil)))
        (pss_cons (ps_augS (pv 2) (pv 3) AgL.get_list (pv 5) ip_add set_list)
          (pss_one (ps_augS (pv 2) (pv 4) AgL.get_list (pv 5) ip_sub set_list))))
      (pss_cut (ps_set (i := 6) sc_arc_for.nd rfl (by first | exact Or.inl rfl | exact Or.inr rfl) (pe_callB (id := "sorted") (r := rSortedI K) cr_sortedI (by rfl) T.n_sorted (by decide +kernel) (pa_cons (pe_lc (own := [("many", 8)]) (wi := iList K _) (g := gName 8) (tt := _) rfl sc_arc_for.nd (pi_list (pv 2)) (blkOk_by (N := ["ends", "column", "over", "start", "stop", "entry", "rest", "_", "many"]) (sc := (defScope s_arc_for)) (by decide +kernel)) (fun _ _ _ _ _ => pg_name (i := 8) sc_arc_for.nd rfl (Or.inl rfl)) (fun _ _ _ _ _ => pts_one (pt_cmpR op_ne (pv 8) pe_int (nomark _))) (fun _ _ _ _ _ => (pv 8))) pa_nil)))
      (pss_cons (ps_if (pt_not (pt_truth (pv 6) (by intro _; rfl)))
        (pss_one (ps_ret (pe_tup (pa_cons pe_int (pa_cons pe_int pa_nil)))))
        pss_nil)
      (pss_one (ps_ret (pe_ifExp (pt_cmpR (r := rEqD K) (op_eqD hr.units) (pv 6) (pe_lst (pa_cons (pe_un un_neg pe_int) (pa_cons pe_int pa_nil))) (nomark _)) (pe_tup (pa_cons (pe_bm PySem.F.plainAttrs_list PySem.F.slot_list_index PySem.F.type_list_index mt_index (pv 2) (pa_cons pe_int pa_nil)) (pa_cons (pe_bm PySem.F.plainAttrs_list PySem.F.slot_list_index PySem.F.type_list_index mt_index (pv 2) (pa_cons (pe_un un_neg pe_int) pa_nil)) pa_nil))) pe_non))))))), ?_⟩
    obtain ⟨p, q, as, es, ns, rfl, hp, hE, e8, hb, hq, hl, k⟩ := h
    have el : as.length = es.length := Paired.length hE
    refine ⟨fun σ' H' => ∃ po, σ' = [some (.ref p), some (.ref q), some (.ref po), none, none, none, none, none, none] ∧ Ex H H' ∧ H po = none ∧ H' po = some (.lst ((Af.zero (es.length + 1)).map V.int)), ?_, ?_⟩
    · exact s_asgL (σ := [some (.ref p), some (.ref q), none, none, none, none, none, none, none]) (el_rng (m := es.length + 1) (vs := [7]) (j := 7) (fun _ => 0) (ea_cons (ev_is (ev_op (ev_len (ev_var (i := 0) rfl) (SqL.of hp)) ev_c rv_I0) (by rw [List.length_map, el]; rfl)) ea_nil) (by omega) (fun u => rfl) (fun i H3 e3 hi => ev_c)) fun po H1 npo e1 hpo => ⟨po, rfl, e1, npo, hpo⟩
    rintro σ' H1 ⟨po, rfl, e1, npo, hpo⟩
    refine ⟨_, rfl, _, rfl, p, q, _, _, rfl, SqL.of (e1 _ _ hp), SqL.of (e1 _ _ hq), ?_⟩
    have npp : po ≠ p := fun z => by rw [z, hp] at npo; cases npo
    have npq : po ≠ q := fun z => by rw [z, hq] at npo; cases npo
    refine for_zipMin (K := K) (xs := as.map V.ref) (ys := ns.map V.int) (by rw [List.length_map, List.length_map]; omega) (fun i σ' H' => ∃ y3 y4 y5 : Option V, σ' = [some (.ref p), some (.ref q), some (.ref po), y3, y4, y5, none, none, none] ∧ Ex H H' ∧ H' po = some (.lst ((Af.overL (Af.zero (es.length + 1)) (es.take i) (ns.take i)).map V.int))) ⟨_, _, _, rfl, e1, hpo⟩ (fun i σ' H' ⟨_, _, _, _, h, _⟩ => ⟨SqL.of (h _ _ hp), SqL.of (h _ _ hq)⟩) (fun i x y T σ' H2 hx hy hP nT => ?_) (fun σ' H2 hP => ?_)
    · obtain ⟨y3, y4, y5, rfl, e2, ho⟩ := hP
      rw [List.getElem?_map] at hx hy
      obtain ⟨c, hc, rfl⟩ := Option.map_eq_some_iff.mp hx
      obtain ⟨n, hn, rfl⟩ := Option.map_eq_some_iff.mp hy
      obtain ⟨⟨u, v⟩, he, hh⟩ := paired_get hE hc
      obtain ⟨u0, u1, v0, v1⟩ := hb _ (List.mem_of_getElem? he)
      have xt := Ex.new (o := .tup [V.ref c, .int n]) nT
      have npT : po ≠ T := fun z => by rw [z] at ho; rw [ho] at nT; cases nT
      refine ⟨T, _, rfl, SqT.of upd_same, rfl, _, _, rfl, ⟨c, _, rfl, SqT.of (xt _ _ (e2 _ _ hh)), rfl, _, _, rfl, _, _, rfl, rfl, _, _, rfl, rfl, ?_⟩⟩
      have lo : (Af.overL (Af.zero (es.length + 1)) (es.take i) (ns.take i)).length = es.length + 1 := by
        rw [Af.overL_len]
        unfold Af.zero
        rw [List.length_map, List.length_range]
      dsimp only at u0 u1 v0 v1
      refine aug_add (σ := [some (.ref p), some (.ref q), some (.ref po), some (.int u), some (.int v), some (.int n), none, none, none]) (u := u) (x := n) rfl rfl rfl (xt _ _ ho) u0 (by omega) ?_
      refine aug_sub (σ := [some (.ref p), some (.ref q), some (.ref po), some (.int u), some (.int v), some (.int n), none, none, none]) (u := v) (x := n) rfl rfl rfl upd_same v0 (by rw [Af.addAt_len]; omega) ⟨_, _, _, rfl, Ex.mut (Ex.mut (e2.trans xt) npo) npo, ?_⟩
      have i1 := (List.getElem?_eq_some_iff.mp he).1
      have i2 := (List.getElem?_eq_some_iff.mp hn).1
      rw [upd_same, take_snoc he, take_snoc hn, Af.overL_snoc _ _ _ _ _ (by rw [List.length_take, List.length_take]; omega)]
      rfl
    obtain ⟨y3, y4, y5, rfl, e2, ho⟩ := hP
    rw [List.length_map, el, List.take_length, Af.overL_cut _ _ _ hl] at ho
    have lo : (Af.overL (Af.zero (es.length + 1)) es ns).length = es.length + 1 := by
      rw [Af.overL_len]
      unfold Af.zero
      rw [List.length_map, List.length_range]
    generalize Af.overL (Af.zero (es.length + 1)) es ns = os at ho lo k
    refine ⟨fun σ' H' => ∃ (pr : Addr) (ms : List Int), σ' = [some (.ref p), some (.ref q), some (.ref po), y3, y4, y5, some (.ref pr), none, none] ∧ Ex H2 H' ∧ ms.Perm (Af.nz os) ∧ ms.Pairwise (· ≤ ·) ∧ H' pr = some (.lst (ms.map V.int)), ?_, ?_⟩
    · refine asg_callB (σ := [some (.ref p), some (.ref q), some (.ref po), y3, y4, y5, none, none, none]) ?_
      refine (el_keepI (K := K) (nn := 2) (j := 8) (vs := [8]) (σ := [some (.ref p), some (.ref q), some (.ref po), y3, y4, y5, none, none, none]) (fun x => decide (x ≠ 0)) rfl ho (by omega) (fun u => rfl) (fun u => rfl) (fun y H3 hy e3 => et_is (et_test (ev_op (ev_var (i := 8) rfl) ev_c (rv_ne rfl))) ?_)) H2 (Ex.refl _) _ fun pk H3 nk e3 hk => ⟨pk, _, rfl, SqL.of hk, fun ms pr pm sm npr => ⟨pr, ms, rfl, e3.trans (Ex.new npr), pm, sm, upd_same⟩⟩
      by_cases z : y = 0
      · rw [z]; rfl
      · rw [decide_eq_false fun q => z (V.int.inj q), decide_eq_true z]; rfl
    rintro σ' H3 ⟨pr, ms, rfl, e3, pm, sm, hpr⟩
    have e23 := e2.trans e3
    refine s_when (σ := [some (.ref p), some (.ref q), some (.ref po), y3, y4, y5, some (.ref pr), none, none]) (b := !(!(ms.map V.int).isEmpty)) (et_not (fun H4 e4 Q4 q4 => ⟨_, rfl, _, .inl ⟨_, SqL.of (e4 _ _ hpr), rfl⟩, q4 H4 (Ex.refl _)⟩)) (fun z H4 e4 => ?_) (fun z H4 e4 => ?_)
    · refine s_retU (eu_tup (ea_cons ev_c (ea_cons ev_c ea_nil)) (Nat.le_of_ble_eq_true rfl)) fun t H5 nt e5 ht => k (.ref t) H5 (e23.trans (e4.trans e5)) ?_
      have m0 : ms = [] := by
        cases ms with
        | nil => rfl
        | cons a l => cases z
      rw [m0] at pm
      have h : Af.arcOf os = some (0, 0) := if_pos pm.symm.eq_nil
      rw [h]
      exact ⟨t, rfl, ht⟩
    have ms0 : Af.nz os ≠ [] := fun q => by
      rw [q] at pm
      rw [pm.eq_nil] at z
      cases z
    dsimp only
    have ho4 := (e3.trans e4) _ _ ho
    have hpr4 := e4 _ _ hpr
    refine s_retIf (σ := [some (.ref p), some (.ref q), some (.ref po), y3, y4, y5, some (.ref pr), none, none]) (b := PyData.eqv (.list (ms.map .int)) (.list [.int (-1), .int 1])) ?_ (fun ze H5 e5 => ?_) (fun ze H5 e5 => ?_)
    · exact fun H5 e5 Q5 q5 => ⟨_, rfl, (el_lst (σ := [some (.ref p), some (.ref q), some (.ref po), y3, y4, y5, some (.ref pr), none, none]) (vs := [.int (-1), .int 1]) (ea_cons (ev_un (x := .int 1) ev_c ru_neg) (ea_cons ev_c ea_nil)) (Nat.le_of_ble_eq_true rfl)) H5 (Ex.refl _) _ fun L H6 nL e6 hL => ⟨.list (ms.map .int), .list [.int (-1), .int 1], .lst (SqL.of ((e5.trans e6) _ _ hpr4)) (dpAll_ints _), .lst (SqL.of hL) (dpAll_ints [-1, 1]), sh_ints _, sh_ints [-1, 1], _, rfl, q5 H6 e6⟩⟩
    · have me := Af.eqv_two ms ze
      rw [me] at pm
      have h2 := Af.two_perm pm
      have h : Af.arcOf os = some (((os.idxOf 1 : Nat) : Int), ((os.idxOf (-1) : Nat) : Int)) := by
        unfold Af.arcOf
        rw [if_neg ms0, if_pos h2]
      have hin : ∀ x : Int, x ∈ Af.nz os → x ∈ os := fun x hx => (List.mem_filter.mp hx).1
      have h1m : (1 : Int) ∈ os := hin _ (by rcases h2 with e | e <;> rw [e] <;> simp)
      have h2m : (-1 : Int) ∈ os := hin _ (by rcases h2 with e | e <;> rw [e] <;> simp)
      have ho5 := e5 _ _ ho4
      refine (eu_tup (σ := [some (.ref p), some (.ref q), some (.ref po), y3, y4, y5, some (.ref pr), none, none]) (ea_cons (ev_index (K := K) (i := 2) rfl ho5 h1m ev_c) (ea_cons (ev_index (K := K) (i := 2) rfl ho5 h2m (ev_un (x := .int 1) ev_c ru_neg)) ea_nil)) (Nat.le_of_ble_eq_true rfl)) H5 (Ex.refl _) _ fun t H6 nt e6 ht => k (.ref t) H6 (e23.trans (e4.trans (e5.trans e6))) ?_
      rw [h]
      exact ⟨t, rfl, ht⟩
    · have h : Af.arcOf os = none := by
        unfold Af.arcOf
        rw [if_neg ms0, if_neg fun h2 => ?_]
        have me := Af.perm_two pm sm h2
        rw [me] at ze
        exact absurd ze (by decide)
      refine k .non H5 (e23.trans (e4.trans e5)) ?_
      rw [h]
      rfl
-- DEF _law_net
/-! what a net's table is by differences along the ends; places named otherwise; arcs turned round (needs Gr, but, sd, netT, Tree) -/
namespace Nl
open Gr
theorem same_of_mem {es fs : Edges} {a b : Int} (h : ∀ e, e ∈ es ↔ e ∈ fs) : Same es a b ↔ Same fs a b :=
  ⟨fun s => s.mono fun e he => (h e).mp he, fun s => s.mono fun e he => (h e).mpr he⟩
theorem but_len {es : Edges} {i : Nat} {e : Int × Int} (hi : es[i]? = some e) : (but es i).length + 1 = es.length := by
  have := (List.getElem?_eq_some_iff.mp hi).1
  unfold but
  rw [List.length_append, List.length_take, List.length_drop]
  omega
theorem but_mem {es : Edges} {i : Nat} {e : Int × Int} (hi : es[i]? = some e) : ∀ f, f ∈ but es i ++ [e] ↔ f ∈ es := by
  intro f
  have hl := (List.getElem?_eq_some_iff.mp hi).1
  have hs : es = es.take i ++ e :: es.drop (i + 1) := by
    have e1 : es.drop i = e :: es.drop (i + 1) := by
      rw [List.drop_eq_getElem_cons hl, (List.getElem?_eq_some_iff.mp hi).2]
    rw [← e1, List.take_append_drop]
  unfold but
  conv => rhs; rw [hs]
  simp only [List.mem_append, List.mem_cons, List.not_mem_nil, or_false]
  constructor
  · rintro ((h | h) | h)
    · exact .inl h
    · exact .inr (.inr h)
    · exact .inr (.inl h)
  · rintro (h | h | h)
    · exact .inl (.inl h)
    · exact .inr h
    · exact .inl (.inr h)
/-- without it, an end's places hang together no more -/
theorem cut_apart {es : Edges} {R : List Int} (nd : R.Nodup) (h : ∀ a ∈ R, ∀ b ∈ R, Same es a b) (hl : es.length + 1 = R.length) {i : Nat} {e : Int × Int} (hi : es[i]? = some e) : ¬ Same (but es i) e.1 e.2 := by
  have bl := but_len hi
  have hm := but_mem hi
  have key := no_round (es := but es i ++ [e]) (R0 := R) (i := (but es i).length) (e := e) nd (fun a ha b hb => (same_of_mem hm).mpr (h a ha b hb)) (by rw [List.length_append]; show _ + 1 + 1 = _; omega) (by rw [List.getElem?_append_right (Nat.le_refl _), Nat.sub_self]; rfl)
  rw [List.take_left] at key
  exact key
theorem nums_nodup (k : Nat) : (numsTo k).Nodup := by
  unfold numsTo List.Nodup
  rw [List.pairwise_map]
  exact (List.nodup_range (n := k)).imp fun {a b} h z => h (by have : (a : Int) = (b : Int) := z; omega)
theorem tree_cut {es : Edges} (T : Tree es) {i : Nat} {e : Int × Int} (hi : es[i]? = some e) : ¬ Same (but es i) e.1 e.2 :=
  cut_apart (nums_nodup _) T.2.2.2 (by rw [numsTo_length]) hi
theorem sd_begin {es : Edges} {i : Nat} {e : Int × Int} (hi : es[i]? = some e) : sd es i e.1 = 1 := by
  unfold sd
  rw [hi]
  exact if_pos rfl
theorem sd_goal {es : Edges} (T : Tree es) {i : Nat} {e : Int × Int} (hi : es[i]? = some e) : sd es i e.2 = 0 := by
  unfold sd
  rw [hi]
  refine if_neg fun z => tree_cut T hi ?_
  exact ((joins_same _ _ rfl _ _).mp z).symm
theorem sd_same {es : Edges} {i : Nat} {x y : Int} (h : Same (but es i) x y) : sd es i x = sd es i y := by
  unfold sd
  rw [(joins_same _ _ rfl _ _).mpr h]
theorem sd_other {es : Edges} {i k : Nat} {f : Int × Int} (hk : es[k]? = some f) (n : k ≠ i) : sd es i f.1 = sd es i f.2 := by
  refine sd_same (.edge ?_)
  have hl := (List.getElem?_eq_some_iff.mp hk).1
  unfold but
  by_cases h : k < i
  · refine List.mem_append_left _ (List.mem_of_getElem? (i := k) ?_)
    rw [List.getElem?_take_of_lt h]
    exact hk
  · refine List.mem_append_right _ (List.mem_of_getElem? (i := k - (i + 1)) ?_)
    rw [List.getElem?_drop, show i + 1 + (k - (i + 1)) = k by omega]
    exact hk
/-- what is alike at both places of each end is alike at all that hang together -/
theorem alike {es : Edges} {c : Int → Int} (h : ∀ e ∈ es, c e.1 = c e.2) {a b : Int} (s : Same es a b) : c a = c b := by
  have := s (fun x => decide (c x = c a)) fun e he => by
    show decide (c e.1 = c a) = decide (c e.2 = c a)
    rw [h e he]
  have h2 : decide (c a = c a) = decide (c b = c a) := this
  rw [decide_eq_true rfl] at h2
  exact (of_decide_eq_true h2.symm).symm
/-- whatever differs by one along its own end, and by nothing along the others, tells the net's entries -/
theorem net_pot {es : Edges} (T : Tree es) {i : Nat} {F : Int → Int} (h : ∀ (k : Nat) f, es[k]? = some f → F f.2 - F f.1 = if k = i then 1 else 0) {a b : Int} (s : Same es a b) : F b - F a = sd es i a - sd es i b := by
  have := alike (c := fun x => F x + sd es i x) (es := es) (fun e he => by
    obtain ⟨k, hk⟩ := List.mem_iff_getElem?.mp he
    have hd := h k e hk
    show F e.1 + sd es i e.1 = F e.2 + sd es i e.2
    by_cases z : k = i
    · subst z
      rw [if_pos rfl] at hd
      rw [sd_begin hk, sd_goal T hk]
      omega
    · rw [if_neg z] at hd
      rw [sd_other hk z]
      omega) s
  have : F a + sd es i a = F b + sd es i b := this
  omega
/-! places named otherwise -/
def nm (p : Int → Int) (e : Int × Int) : Int × Int := (p e.1, p e.2)
theorem same_nm {p r : Int → Int} (h : ∀ x, r (p x) = x) {es : Edges} {a b : Int} : Same (es.map (nm p)) (p a) (p b) ↔ Same es a b := by
  constructor
  · intro s S hS
    have := s (fun x => S (r x)) fun e he => by
      obtain ⟨f, hf, rfl⟩ := List.mem_map.mp he
      show S (r (p f.1)) = S (r (p f.2))
      rw [h, h]
      exact hS f hf
    have h2 : S (r (p a)) = S (r (p b)) := this
    rwa [h, h] at h2
  · intro s S hS
    exact s (fun x => S (p x)) fun e he => hS (nm p e) (List.mem_map.mpr ⟨e, he, rfl⟩)
theorem but_map {p : Int → Int} (es : Edges) (i : Nat) : but (es.map (nm p)) i = (but es i).map (nm p) := by
  unfold but
  rw [List.map_append, List.map_take, List.map_drop]
theorem sd_nm {p r : Int → Int} (h : ∀ x, r (p x) = x) {es : Edges} {i : Nat} (hi : i < es.length) (x : Int) : sd (es.map (nm p)) i (p x) = sd es i x := by
  have he : es[i]? = some es[i] := List.getElem?_eq_getElem hi
  have he2 : (es.map (nm p))[i]? = some (nm p es[i]) := by rw [List.getElem?_map, he]; rfl
  unfold sd
  rw [he, he2, but_map]
  have e1 : (joins ((but es i).map (nm p)) id (p x) = joins ((but es i).map (nm p)) id (p es[i].1)) ↔ (joins (but es i) id x = joins (but es i) id es[i].1) := by
    rw [joins_same _ _ rfl, joins_same _ _ rfl]
    exact same_nm h
  by_cases z : joins (but es i) id x = joins (but es i) id es[i].1
  · exact (if_pos (e1.mpr z)).trans (if_pos z).symm
  · exact (if_neg fun q => z (e1.mp q)).trans (if_neg z).symm
theorem net_nm {p r : Int → Int} (h : ∀ x, r (p x) = x) (es qs : Edges) : netT (es.map (nm p)) (qs.map (nm p)) = netT es qs := by
  unfold netT
  rw [List.length_map]
  refine List.map_congr_left fun i hi => ?_
  have hi := List.mem_range.mp hi
  rw [List.map_map]
  refine List.map_congr_left fun f _ => ?_
  show sd (es.map (nm p)) i (p f.1) - sd (es.map (nm p)) i (p f.2) = _
  rw [sd_nm h hi, sd_nm h hi]
theorem tree_nm {p r : Int → Int} (h : ∀ x, r (p x) = x) (h2 : ∀ x, p (r x) = x) {es : Edges} (hp : ∀ x : Int, 0 ≤ x → x ≤ es.length → 0 ≤ p x ∧ p x ≤ es.length) (hr : ∀ x : Int, 0 ≤ x → x ≤ es.length → 0 ≤ r x ∧ r x ≤ es.length) (T : Tree es) : Tree (es.map (nm p)) := by
  obtain ⟨t1, t2, t3, t4⟩ := T
  unfold Tree
  rw [List.length_map]
  refine ⟨t1, t2, fun e he => ?_, fun a ha b hb => ?_⟩
  · obtain ⟨f, hf, rfl⟩ := List.mem_map.mp he
    obtain ⟨a1, a2, a3, a4⟩ := t3 f hf
    exact ⟨(hp _ a1 a2).1, (hp _ a1 a2).2, (hp _ a3 a4).1, (hp _ a3 a4).2⟩
  · have bd : ∀ x, x ∈ numsTo (es.length + 1) ↔ 0 ≤ x ∧ x ≤ es.length := fun x => by
      unfold numsTo
      constructor
      · intro hx
        obtain ⟨n, hn, rfl⟩ := List.mem_map.mp hx
        have := List.mem_range.mp hn
        omega
      · rintro ⟨x0, x1⟩
        exact List.mem_map.mpr ⟨x.toNat, List.mem_range.mpr (by omega), by omega⟩
    have ha := (bd a).mp ha
    have hb := (bd b).mp hb
    have ra := hr a ha.1 ha.2
    have rb := hr b hb.1 hb.2
    have s := (same_nm h (es := es)).mpr (t4 (r a) ((bd _).mpr ra) (r b) ((bd _).mpr rb))
    rwa [h2, h2] at s
/-! arcs turned round -/
theorem net_back (es qs : Edges) : netT es (qs.map fun f => (f.2, f.1)) = (netT es qs).map fun r => r.map fun y => -y := by
  unfold netT
  rw [List.map_map]
  refine List.map_congr_left fun i _ => ?_
  rw [List.map_map]
  show _ = (qs.map fun f => sd es i f.1 - sd es i f.2).map fun y => -y
  rw [List.map_map]
  refine List.map_congr_left fun f _ => ?_
  show sd es i f.2 - sd es i f.1 = -(sd es i f.1 - sd es i f.2)
  omega
/-- two names taken for one another -/
def two (u v : Int) (x : Int) : Int := if x = u then v else if x = v then u else x
theorem two_two (u v x : Int) : two u v (two u v x) = x := by
  unfold two
  split
  · rename_i h
    subst h
    split
    · rename_i h; exact h
    · rw [if_pos rfl]
  · rename_i h
    split
    · rename_i h2
      subst h2
      rw [if_pos rfl]
    · rfl
/-! the far ends found one after another: each found by an end of its own -/
def Used (es : Edges) (m : Nat) (f : Int → Nat → Int) (L : List Int) : Prop := ∃ U : List Nat, U.Nodup ∧ U.length + 1 = L.length ∧ ∀ k ∈ U, ∃ e, es[k]? = some e ∧ e.1 ∈ L ∧ e.2 ∈ L ∧ ∀ j, j < m → f e.2 j - f e.1 j = if k = j then 1 else 0
theorem used_one {es : Edges} {m : Nat} {f : Int → Nat → Int} {x : Int} : Used es m f [x] := ⟨[], List.nodup_nil, rfl, fun k hk => nomatch hk⟩
theorem used_alike {es : Edges} {m : Nat} {f g : Int → Nat → Int} {L : List Int} (h : Used es m f L) (a : ∀ y ∈ L, ∀ j, j < m → g y j = f y j) : Used es m g L := by
  obtain ⟨U, u1, u2, u3⟩ := h
  refine ⟨U, u1, u2, fun k hk => ?_⟩
  obtain ⟨e, e1, e2, e3, e4⟩ := u3 k hk
  exact ⟨e, e1, e2, e3, fun j hj => by rw [a _ e2 j hj, a _ e3 j hj]; exact e4 j hj⟩
theorem used_more {es : Edges} {m : Nat} {f g : Int → Nat → Int} {L : List Int} {x : Int} {k : Nat} {e : Int × Int} (h : Used es m f L) (nx : x ∉ L) (hk : es[k]? = some e) (he : (e.1 ∈ L ∧ e.2 = x) ∨ (e.2 ∈ L ∧ e.1 = x)) (a : ∀ y ∈ L, ∀ j, j < m → g y j = f y j)
    (d : ∀ j, j < m → g e.2 j - g e.1 j = if k = j then 1 else 0) : Used es m g (L ++ [x]) := by
  obtain ⟨U, u1, u2, u3⟩ := used_alike h a
  have nk : k ∉ U := fun z => by
    obtain ⟨e', e1, e2, e3, _⟩ := u3 k z
    rw [hk] at e1
    cases e1
    rcases he with ⟨_, q⟩ | ⟨_, q⟩
    · exact nx (q ▸ e3)
    · exact nx (q ▸ e2)
  have m1 : e.1 ∈ L ++ [x] := by
    rcases he with ⟨q, _⟩ | ⟨_, q⟩
    · exact List.mem_append_left _ q
    · exact List.mem_append_right _ (List.mem_singleton.mpr q)
  have m2 : e.2 ∈ L ++ [x] := by
    rcases he with ⟨_, q⟩ | ⟨q, _⟩
    · exact List.mem_append_right _ (List.mem_singleton.mpr q)
    · exact List.mem_append_left _ q
  refine ⟨U ++ [k], ?_, by rw [List.length_append, List.length_append]; show U.length + 1 + 1 = L.length + 1; omega, fun k' hk' => ?_⟩
  · refine List.nodup_append.mpr ⟨u1, by simp, fun b hb c hc z => ?_⟩
    have : c = k := by simpa using hc
    exact nk (by rw [← this, ← z]; exact hb)
  · rcases List.mem_append.mp hk' with q | q
    · obtain ⟨e', e1, e2, e3, e4⟩ := u3 k' q
      exact ⟨e', e1, List.mem_append_left _ e2, List.mem_append_left _ e3, e4⟩
    · rw [List.mem_singleton.mp q]
      exact ⟨e, hk, m1, m2, d⟩
/-- once all places are found, each end has been used: the net's entries are the differences -/
theorem used_net {es : Edges} {f : Int → Nat → Int} {L : List Int} (T : Tree es) (h : Used es es.length f L) (hl : L.length = es.length + 1) {i : Nat} (hi : i < es.length) {a b : Int} (s : Same es a b) : f b i - f a i = sd es i a - sd es i b := by
  obtain ⟨U, u1, u2, u3⟩ := h
  have sub : ∀ k ∈ U, k ∈ List.range es.length := fun k hk => by
    obtain ⟨e, e1, _⟩ := u3 k hk
    exact List.mem_range.mpr (List.getElem?_eq_some_iff.mp e1).1
  have all : ∀ k, k < es.length → k ∈ U := fun k hk => by
    by_cases z : k ∈ U
    · exact z
    · exfalso
      have nd : (k :: U).Nodup := List.nodup_cons.mpr ⟨z, u1⟩
      have le := List.Nodup.length_le_of_subset nd (l₂ := List.range es.length) (fun x hx => by
        rcases List.mem_cons.mp hx with rfl | hx
        · exact List.mem_range.mpr hk
        · exact sub x hx)
      rw [List.length_cons, List.length_range] at le
      omega
  refine net_pot T (F := fun x => f x i) (fun k e hk => ?_) s
  obtain ⟨e', e1, _, _, e4⟩ := u3 k (all k (List.getElem?_eq_some_iff.mp hk).1)
  rw [hk] at e1
  cases e1
  exact e4 i hi
theorem used_table {es qs : Edges} {f : Int → Nat → Int} {L : List Int} (T : Tree es) (h : Used es es.length f L) (hl : L.length = es.length + 1) (hq : ∀ e ∈ qs, 0 ≤ e.1 ∧ e.1 ≤ es.length ∧ 0 ≤ e.2 ∧ e.2 ≤ es.length) : ((List.range es.length).map fun k => qs.map fun e => f e.2 k - f e.1 k) = netT es qs := by
  have bd : ∀ x : Int, 0 ≤ x → x ≤ es.length → x ∈ numsTo (es.length + 1) := fun x x0 x1 => by
    unfold numsTo
    exact List.mem_map.mpr ⟨x.toNat, List.mem_range.mpr (by omega), by omega⟩
  unfold netT
  refine List.map_congr_left fun i hi => ?_
  refine List.map_congr_left fun e he => ?_
  obtain ⟨a1, a2, a3, a4⟩ := hq e he
  exact used_net T h hl (List.mem_range.mp hi) (T.2.2.2 _ (bd _ a1 a2) _ (bd _ a3 a4))
end Nl
theorem dec_natT (x y : Nat) : decide (V.int (x : Int) = V.int (y : Int)) = decide (x = y) := by
  by_cases h : x = y
  · rw [h, decide_eq_true rfl, decide_eq_true rfl]
  · rw [decide_eq_false h, decide_eq_false fun z => h (by have := V.int.inj z; omega)]

theorem tree_conn {es : List (Int × Int)} {m : Nat} (hl : es.length = m) (T : Tree es) : Conn es m := fun S hS a b a0 a1 b0 b1 => by
  have bd : ∀ x : Int, 0 ≤ x → x ≤ m → x ∈ numsTo (es.length + 1) := fun x x0 x1 => mem_numsTo.mpr (by rw [hl]; omega)
  exact T.2.2.2 _ (bd a a0 a1) _ (bd b b0 b1) S hS
structure FarX (es : List (Int × Int)) (H : Hp) (d : Addr) (m : Nat) (kvs : List (Key × V)) (L : List Int) : Prop extends FarOk H d m kvs L where
  used : Nl.Used es m (valN H kvs) L
theorem FarOk.val_ex {H H' : Hp} {d : Addr} {m : Nat} {kvs : List (Key × V)} {L : List Int} (h : FarOk H d m kvs L) (e : Ex H H') : ∀ y ∈ L, ∀ j, j < m → valN H' kvs y j = valN H kvs y j := fun y hy j _ => by
  obtain ⟨a, ns, h1, h2, _⟩ := h.get hy
  rw [valN_eq h1 h2, valN_eq h1 (e _ _ h2)]
theorem FarX.ex {es : List (Int × Int)} {H H' : Hp} {d : Addr} {m : Nat} {kvs : List (Key × V)} {L : List Int} (h : FarX es H d m kvs L) (e : Ex H H') : FarX es H' d m kvs L := ⟨h.toFarOk.ex e, Nl.used_alike h.used (h.toFarOk.val_ex e)⟩
theorem FarX.put {es : List (Int × Int)} {H : Hp} {d : Addr} {m : Nat} {kvs : List (Key × V)} {L : List Int} {x : Int} {a : Addr} {ns : List Int} {i : Nat} {e : Int × Int} (h : FarX es H d m kvs L) (hx : x ∉ L) (h0 : 0 ≤ x ∧ x ≤ m) (ha : H a = some (.lst (ns.map V.int))) (hl : ns.length = m) (hb : ∀ y ∈ ns, y.natAbs ≤ L.length + 1) (hi : es[i]? = some e) (he : e.1 ∈ L ∧ e.2 = x ∨ e.2 ∈ L ∧ e.1 = x)
    (hd : ∀ j, j < m → (if e.2 = x then ns[j]?.getD 0 else valN H kvs e.2 j) - (if e.1 = x then ns[j]?.getD 0 else valN H kvs e.1 j) = if i = j then 1 else 0) :
    FarX es (upd H d (.dK (putK kvs (Sum.inl x) (.ref a)))) d m (putK kvs (Sum.inl x) (.ref a)) (L ++ [x]) := by
  have P := h.toFarOk.put hx h0 ha hl hb
  have hn := h.toFarOk.no hx
  have ne : ∀ b (l : List V), H b = some (.lst l) → b ≠ d := fun b l g => ne_of g h.toFarOk.at_ (by intro z; cases z)
  have old : ∀ y ∈ L, ∀ j, valN (upd H d (.dK (putK kvs (Sum.inl x) (.ref a)))) (putK kvs (Sum.inl x) (.ref a)) y j = valN H kvs y j := fun y hy j => by
    obtain ⟨b, us, h1, h2, _⟩ := h.toFarOk.get hy
    have nyx : y ≠ x := fun z => hx (z ▸ hy)
    have v2 : valV (putK kvs (Sum.inl x) (.ref a)) (Sum.inl y : Key) = some (.ref b) := by
      rw [valV_put, if_neg (fun z => nyx (Sum.inl.inj z))]
      exact h1
    rw [valN_eq h1 h2, valN_eq v2 (by rw [upd_ne (ne _ _ h2)]; exact h2)]
  have new : ∀ j, valN (upd H d (.dK (putK kvs (Sum.inl x) (.ref a)))) (putK kvs (Sum.inl x) (.ref a)) x j = ns[j]?.getD 0 := fun j => by
    have v2 : valV (putK kvs (Sum.inl x) (.ref a)) (Sum.inl x : Key) = some (.ref a) := by rw [valV_put, if_pos rfl]
    exact valN_eq v2 (by rw [upd_ne (ne _ _ ha)]; exact ha)
  have one : ∀ y j, (y ∈ L ∨ y = x) → (if y = x then ns[j]?.getD 0 else valN H kvs y j) = valN (upd H d (.dK (putK kvs (Sum.inl x) (.ref a)))) (putK kvs (Sum.inl x) (.ref a)) y j := fun y j hy => by
    by_cases z : y = x
    · rw [if_pos z, z, new]
    · rw [if_neg z, old y (hy.resolve_right z)]
  refine ⟨P, Nl.used_more h.used hx hi he (fun y hy j _ => old y hy j) fun j hj => ?_⟩
  have := hd j hj
  rw [one e.2 j (by rcases he with ⟨_, q⟩ | ⟨q, _⟩; exact .inr q; exact .inl q), one e.1 j (by rcases he with ⟨q, _⟩ | ⟨_, q⟩; exact .inl q; exact .inr q)] at this
  exact this
def sp__law_net (K : PySem.W.Frag) : Sp := fun vs H Q _ => ∃ (pE pA : Addr) (as bs : List Addr) (es qs : List (Int × Int)) (m : Nat), vs = [.ref pE, .ref pA] ∧ es.length = m ∧ H pE = some (.lst (as.map V.ref)) ∧ EdgesAt H as es ∧ H pA = some (.lst (bs.map V.ref)) ∧ EdgesAt H bs qs ∧ qs.length ≤ 8 ∧
  Tree es ∧ (∀ e ∈ qs, 0 ≤ e.1 ∧ e.1 ≤ m ∧ 0 ≤ e.2 ∧ e.2 ≤ m) ∧
  ∀ (rs : List Addr) (p : Addr) (H' : Hp), H p = none → (∀ a ∈ rs, H a = none) → rs.Nodup → p ∉ rs → Ex H H' → Tab H' p rs (netT es qs) → Q (.ref p) H'

theorem ok__law_net (T : Txt K mg) : FnOk P w K mg base CX0 1 T.f__law_net T.fd__law_net ["_law_ends_here", "_law_arcs"] (sp__law_net K) := by
  refine Fun.ok T.F__law_net sc__law_net (fun vs H Q E h => ?_) (fun cdv A outer s H vs Q E hr h => ?_)
  · obtain ⟨_, _, _, _, _, _, _, rfl, _⟩ := h; rfl
  · refine ⟨_, (pss_cons (ps_set (i := 2) sc__law_net.nd rfl (by first | exact Or.inl rfl | exact Or.inr rfl) (pe_disp (pps_cons (pe_ix (r := rIxT K) ix_tup (pe_ix (r := rIxL K) ix_list (pv 0) pe_int (fun _ _ => rfl)) pe_int (fun _ _ => rfl)) (pe_op op_rep (pe_lst (pa_cons pe_int pa_nil)) (pe_callB (id := "len") (r := rLenS K) call_len_seq (by rfl) T.n_len PySem.boot_len (pa_cons (pv 0) pa_nil))) pps_nil) (by rfl) (by rfl) (fun z => by cases z) (by decide)))
      (pss_cons (ps_while PassesOwn.never (pt_cmpR op_le (pe_callB (id := "len") call_lenD (by rfl) T.n_len PySem.boot_len (pa_cons (pv 2) pa_nil)) (pe_callB (id := "len") (r := rLenS K) call_len_seq (by rfl) T.n_len PySem.boot_len (pa_cons (pv 0) pa_nil)) (nomark _))
        (pss_one (ps_for PassesOwn.never rfl (pi_enum (by rfl) T.n_enumerate (pa_cons (pv 0) pa_nil)) (pg_tup rfl (pgs_cons (pg_name (i := 3) sc__law_net.nd rfl (by first | exact Or.inl rfl | exact Or.inr rfl)) (pgs_cons (pg_tup rfl (pgs_cons (pg_name (i := 4) sc__law_net.nd rfl (by first | exact Or.inl rfl | exact Or.inr rfl)) (pgs_cons (pg_name (i := 5) sc__law_net.nd rfl (by first | exact Or.inl rfl | exact Or.inr rfl)) pgs_nil))) pgs_nil)))
            (pss_cons (ps_setLc (i := 6) (own := [("_law_other", 7)]) (g := gName 7) (tt := tYes) rfl sc__law_net.nd rfl rfl (sw_true rfl rfl rfl (by decide +kernel)) (pi_range1 (by rfl) T.n_range (pa_cons (pe_callB (id := "len") (r := rLenS K) call_len_seq (by rfl) T.n_len PySem.boot_len (pa_cons (pv 0) pa_nil)) pa_nil)) (blkOk_by (N := ["_law_ends_here", "_law_arcs", "_law_far", "_law_k", "_law_begin", "_law_goal", "_law_step", "_law_other", "_law_a", "_law_b"]) (sc := (defScope s__law_net)) (by decide +kernel)) (fun _ _ _ _ _ => pg_name (i := 7) sc__law_net.nd rfl (Or.inl rfl)) (fun _ _ _ _ _ => pts_nil) (fun _ _ _ _ _ => (pe_callTy (T := "int") call_int1 (by rfl) T.n_int (by decide +kernel) (pa_cons (pe_cmpR op_eq (pv 3) (pv 7) (nomark _)) pa_nil))))
              (pss_one (ps_if (PW.pt (pw_and (pt_cmp (pc_din (hu_of hr) (pv 4) (pv 2))) (pw_and1 (pt_cmp (pc_dnotin (hu_of hr) (pv 5) (pv 2))))))
                (pss_one (ps_dput (hu_of hr) (pv 2) (pv 5) (pe_lc (own := [("_law_a", 8), ("_law_b", 9)]) (wi := iZip K _) (g := gTup K 2 (gCons (gName 8) (gCons (gName 9) gNil))) (tt := tYes) rfl sc__law_net.nd (pi_zip (by rfl) T.n_zip (pa_cons (pe_dget (hu_of hr) (pv 2) (pv 4) (fun _ _ => rfl)) (pa_cons (pv 6) pa_nil))) (blkOk_by (N := ["_law_ends_here", "_law_arcs", "_law_far", "_law_k", "_law_begin", "_law_goal", "_law_step", "_law_other", "_law_a", "_law_b"]) (sc := (defScope s__law_net)) (by decide +kernel)) (fun _ _ _ _ _ => (pg_tup rfl (pgs_cons (pg_name (i := 8) sc__law_net.nd rfl (Or.inl rfl)) (pgs_cons (pg_name (i := 9) sc__law_net.nd rfl (Or.inl rfl)) pgs_nil)))) (fun _ _ _ _ _ => pts_nil) (fun _ _ _ _ _ => (pe_op op_add (pv 8) (pv 9)))) rfl))
                (pss_one (ps_if (PW.pt (pw_and (pt_cmp (pc_din (hu_of hr) (pv 5) (pv 2))) (pw_and1 (pt_cmp (pc_dnotin (hu_of hr) (pv 4) (pv 2))))))
                    (pss_one (ps_dput (hu_of hr) (pv 2) (pv 4) (pe_lc (own := [("_law_a", 8), ("_law_b", 9)]) (wi := iZip K _) (g := gTup K 2 (gCons (gName 8) (gCons (gName 9) gNil))) (tt := tYes) rfl sc__law_net.nd (pi_zip (by rfl) T.n_zip (pa_cons (pe_dget (hu_of hr) (pv 2) (pv 5) (fun _ _ => rfl)) (pa_cons (pv 6) pa_nil))) (blkOk_by (N := ["_law_ends_here", "_law_arcs", "_law_far", "_law_k", "_law_begin", "_law_goal", "_law_step", "_law_other", "_law_a", "_law_b"]) (sc := (defScope s__law_net)) (by decide +kernel)) (fun _ _ _ _ _ => (pg_tup rfl (pgs_cons (pg_name (i := 8) sc__law_net.nd rfl (Or.inl rfl)) (pgs_cons (pg_name (i := 9) sc__law_net.nd rfl (Or.inl rfl)) pgs_nil)))) (fun _ _ _ _ _ => pts_nil) (fun _ _ _ _ _ => (pe_op op_sub (pv 8) (pv 9)))) rfl))
                    pss_nil))))))))
      (pss_one (ps_ret (pe_lc (own := [("_law_k", 3)]) (g := gName 3) (tt := tYes) rfl sc__law_net.nd (pi_range1 (by rfl) T.n_range (pa_cons (pe_callB (id := "len") (r := rLenS K) call_len_seq (by rfl) T.n_len PySem.boot_len (pa_cons (pv 0) pa_nil)) pa_nil)) (blkOk_by (N := ["_law_ends_here", "_law_arcs", "_law_far", "_law_k", "_law_begin", "_law_goal", "_law_step", "_law_other", "_law_a", "_law_b"]) (sc := (defScope s__law_net)) (by decide +kernel)) (fun _ _ _ _ _ => pg_name (i := 3) sc__law_net.nd rfl (Or.inr rfl)) (fun _ _ _ _ _ => pts_nil) (fun _ _ _ _ _ => (pe_lc (own := [("_law_begin", 4), ("_law_goal", 5)]) (wi := iList K _) (g := gTup K 2 (gCons (gName 4) (gCons (gName 5) gNil))) (tt := tYes) rfl sc__law_net.nd (pi_list (pv 1)) (blkOk_by (N := ["_law_ends_here", "_law_arcs", "_law_far", "_law_k", "_law_begin", "_law_goal", "_law_step", "_law_other", "_law_a", "_law_b"]) (sc := (relS ({ kind := .function, names := [(".0", .local), ("_law_k", .cell), ("_law_arcs", .free), ("_law_far", .free)], isGenerator := false, isCoroutine := false } : Scope) (defScope s__law_net))) (by decide +kernel)) (fun _ _ _ _ _ => (pg_tup rfl (pgs_cons (pg_name (i := 4) sc__law_net.nd rfl (Or.inl rfl)) (pgs_cons (pg_name (i := 5) sc__law_net.nd rfl (Or.inl rfl)) pgs_nil)))) (fun _ _ _ _ _ => pts_nil) (fun _ _ _ _ _ => (pe_op op_sub (pe_ix (r := rIxL K) ix_list (pe_dget (hu_of hr) (pv 2) (pv 5) (fun _ _ => rfl)) (pv 3) (fun _ _ => rfl)) (pe_ix (r := rIxL K) ix_list (pe_dget (hu_of hr) (pv 2) (pv 4) (fun _ _ => rfl)) (pv 3) (fun _ _ => rfl))))))))))), ?_⟩
    obtain ⟨pE, pA, as, bs, es, qs, m, rfl, hes, hE, hEE, hA, hAE, hq8, hTr, hq0, k⟩ := h
    have hm1 : 1 ≤ m := hes ▸ hTr.1
    have hm8 : m ≤ 8 := hes ▸ hTr.2.1
    have he0 : ∀ e ∈ es, 0 ≤ e.1 ∧ e.1 ≤ m ∧ 0 ≤ e.2 ∧ e.2 ≤ m := hes ▸ hTr.2.2.1
    have hC : Conn es m := tree_conn hes hTr
    have hal : as.length = m := by rw [Paired.length hEE, hes]
    -- far
    obtain ⟨a0, as', rfl⟩ : ∃ a0 as', as = a0 :: as' := by
      cases as with
      | nil => simp at hal; omega
      | cons a r => exact ⟨a, r, rfl⟩
    obtain ⟨e0, es', rfl, h00⟩ : ∃ e0 es', es = e0 :: es' ∧ H a0 = some (.tup [.int e0.1, .int e0.2]) := by
      cases hEE with
      | cons g t => exact ⟨_, _, rfl, g⟩
    have hE0 := he0 e0 (List.mem_cons_self ..)
    refine fun d nd => ?_
    have x0 : Ex H (upd H d (.dK [])) := Ex.new nd
    refine ⟨_, rfl, pE, _, 0, _, rfl, rfl, SqL.of (x0 _ _ hE), atI_nat (j := 0) rfl, a0, _, 0, _, rfl, rfl, SqT.of (x0 _ _ h00), rfl, ?_⟩
    refine ⟨Nat.le_of_ble_eq_true rfl, fun z1 nz1 => ?_⟩
    have x1 : Ex (upd H d (.dK [])) (upd (upd H d (.dK [])) z1 (.lst [.int 0])) := Ex.new nz1
    refine ⟨_, rfl, pE, _, rfl, .inl (SqL.of ((x0.trans x1) _ _ hE)), z1, _, _, rfl, rfl, upd_same, ?_, ?_, ?_, fun z2 nz2 => ?_⟩
    · rw [List.length_map, hal]; omega
    · rw [List.length_map, hal]; omega
    · rw [List.length_map, hal]
      exact sz_of (by simp; omega)
    have zz : (List.replicate (((a0 :: as').map V.ref).length : Int).toNat [V.int 0]).flatten = (List.replicate m 0).map V.int := by
      rw [List.length_map, hal, Int.toNat_natCast]
      exact rep_flat m
    rw [zz]
    have x2 : Ex (upd (upd H d (.dK [])) z1 (.lst [.int 0])) (upd (upd (upd H d (.dK [])) z1 (.lst [.int 0])) z2 (.lst ((List.replicate m 0).map V.int))) := Ex.new nz2
    have hd2 := (x1.trans x2) _ _ (upd_same (H := H) (a := d) (o := .dK []))
    refine ⟨hd2, [(Sum.inl e0.1, .ref z2)], rfl, Nat.le_of_ble_eq_true rfl, ?_⟩
    have xa := (x0.trans x1).trans x2
    have hz2 : upd (upd (upd H d (.dK [])) z1 (.lst [.int 0])) z2 (.lst ((List.replicate m 0).map V.int)) z2 = some (.lst ((List.replicate m 0).map V.int)) := upd_same
    generalize upd (upd (upd H d (.dK [])) z1 (.lst [.int 0])) z2 (.lst ((List.replicate m 0).map V.int)) = H2 at hd2 xa hz2 ⊢
    clear x0 x1 x2 nz1 nz2 zz
    have z2d : z2 ≠ d := ne_of hz2 hd2 (by intro z; cases z)
    have F0 : FarOk (upd H2 d (.dK (mergeK [] [(Sum.inl e0.1, .ref z2)]))) d m [(Sum.inl e0.1, .ref z2)] [e0.1] := by
      refine ⟨upd_same, rfl, by simp, fun x hx => ?_, fun x v hv => ?_⟩
      · have : x = e0.1 := by simpa using hx
        rw [this]
        exact ⟨hE0.1, hE0.2.1⟩
      · have hx : x = e0.1 ∧ v = .ref z2 := by
          by_cases h : (Sum.inl e0.1 : Key) = Sum.inl x
          · rw [valV_pos (p := (Sum.inl e0.1, V.ref z2)) h] at hv
            exact ⟨(Sum.inl.inj h).symm, (Option.some.inj hv).symm⟩
          · have : valV [((Sum.inl e0.1 : Key), V.ref z2)] (Sum.inl x : Key) = none := by simp [valV, List.find?_cons, h]
            rw [this] at hv
            cases hv
        obtain ⟨_, rfl⟩ := hx
        refine ⟨z2, List.replicate m 0, rfl, ?_, List.length_replicate, fun y hy => ?_⟩
        · rw [upd_ne z2d]
          exact hz2
        · rw [List.eq_of_mem_replicate hy]
          exact Nat.zero_le _
    replace F0 : FarX (e0 :: es') (upd H2 d (.dK (mergeK [] [(Sum.inl e0.1, .ref z2)]))) d m [(Sum.inl e0.1, .ref z2)] [e0.1] := ⟨F0, Nl.used_one⟩
    have XB : ExB d H (upd H2 d (.dK (mergeK [] [(Sum.inl e0.1, .ref z2)]))) := Ex.updB xa
    have ndl : ∀ {b : Addr} {o : HO}, H b = some o → b ≠ d := fun g => ne_of_none g nd
    generalize upd H2 d (.dK (mergeK [] [(Sum.inl e0.1, .ref z2)])) = H3 at F0 XB
    clear hz2 hd2 xa
    -- the loop
    refine ⟨fun μ σ H' => ∃ (y3 y4 y5 y6 y7 y8 y9 : Option V) (kvs : List (Key × V)) (L : List Int), σ = [some (.ref pE), some (.ref pA), some (.ref d), y3, y4, y5, y6, y7, y8, y9] ∧ μ = m + 1 - L.length ∧ ExB d H H' ∧ FarX (e0 :: es') H' d m kvs L ∧ 1 ≤ L.length,
      ⟨m, _, _, _, _, _, _, _, _, _, rfl, rfl, XB, F0, Nat.le_refl 1⟩, ?_⟩
    rintro μ σ H4 ⟨y3, y4, y5, y6, y7, y8, y9, kvs, L, rfl, rfl, e4, F4, hL1⟩
    refine ⟨_, rfl, d, kvs, rfl, F4.at_, _, rfl, pE, _, rfl, .inl (SqL.of (e4 _ _ (ndl hE) hE)), _, _, rfl, rfl, _, rfl, ?_⟩
    rw [F4.len, List.length_map, hal]
    refine ite2 (fun hc => ?_) (fun hc => ?_)
    · have hLm : L.length ≤ m := by have := of_decide_eq_true hc; omega
      refine ⟨fun σ' H' => ∃ (y3 y4 y5 y6 y7 y8 y9 : Option V) (kvs' : List (Key × V)) (L' : List Int), σ' = [some (.ref pE), some (.ref pA), some (.ref d), y3, y4, y5, y6, y7, y8, y9] ∧ L.length < L'.length ∧ ExB d H H' ∧ FarX (e0 :: es') H' d m kvs' L',
        fun σ' H' ⟨z3, z4, z5, z6, z7, z8, z9, kvs', L', a1, a2, a3, a4⟩ => ⟨m + 1 - L'.length, by omega, z3, z4, z5, z6, z7, z8, z9, kvs', L', a1, rfl, a3, a4, by omega⟩, ?_⟩
      refine ⟨_, rfl, pE, _, rfl, SqL.of (e4 _ _ (ndl hE) hE), for_enum (xs := (a0 :: as').map V.ref) (fun i σ' H' => ∃ (y3 y4 y5 y6 y7 y8 y9 : Option V) (kvs' : List (Key × V)) (L' : List Int), σ' = [some (.ref pE), some (.ref pA), some (.ref d), y3, y4, y5, y6, y7, y8, y9] ∧ ExB d H H' ∧ FarX (e0 :: es') H' d m kvs' L' ∧
        (L.length < L'.length ∨ (L' = L ∧ ∀ j, j < i → ∀ e, (e0 :: es')[j]? = some e → (e.1 ∈ L ↔ e.2 ∈ L)))) ?_ (fun i σ' H' ⟨_, _, _, _, _, _, _, _, _, _, x, _, _⟩ => SqL.of (x _ _ (ndl hE) hE)) ?_ ?_⟩
      · exact ⟨_, _, _, _, _, _, _, _, _, rfl, e4, F4, .inr ⟨rfl, fun j hj => absurd hj (Nat.not_lt_zero _)⟩⟩
      · rintro i x T σ' H5 hi ⟨z3, z4, z5, z6, z7, z8, z9, kvs', L', rfl, e5, F5, hor⟩ nT
        rw [List.getElem?_map] at hi
        obtain ⟨ai, hai, rfl⟩ := Option.map_eq_some_iff.mp hi
        obtain ⟨ei, hei, hti⟩ := paired_get hEE hai
        have xT : Ex H5 (upd H5 T (.tup [.int (i : Nat), .ref ai])) := Ex.new nT
        have mi := he0 ei (List.mem_of_getElem? hei)
        refine ⟨T, _, rfl, SqT.of upd_same, rfl, _, _, rfl, _, _, rfl, ⟨ai, _, rfl, SqT.of (xT _ _ (e5 _ _ (ndl hti) hti)), rfl, _, _, rfl, _, _, rfl, rfl, rfl, ?_⟩⟩
        have F6 := F5.ex xT
        have e6 : ExB d H (upd H5 T (.tup [.int (i : Nat), .ref ai])) := e5.trans (ExB.of xT)
        generalize upd H5 T (.tup [.int (i : Nat), .ref ai]) = H6 at F6 e6 ⊢
        -- step
        have Est : EvL (tLc (iRng1 (tCons (tCB (rLenS K) (tCons (tVar 0) tNil)) tNil)) (gName 7) tYes (tCB (fun xs H Q => (∃ i, xs = [V.int i] ∧ Q (V.int i) H) ∨ ∃ k, xs = [V.bl k] ∧ Q (V.int (if k = true then 1 else 0)) H) (tCons (tOp rEq (tVar 3) (tVar 7)) tNil)) [7])
            [some (.ref pE), some (.ref pA), some (.ref d), some (.int (i : Nat)), some (.int ei.1), some (.int ei.2), z6, z7, z8, z9] H6 (((List.range m).map fun o => if decide (V.int (i : Nat) = V.int (o : Nat)) = true then (1 : Int) else 0).map V.int) := by
          have g := el_lcR1 (t := tYes) (te := tCB (fun xs H Q => (∃ i, xs = [V.int i] ∧ Q (V.int i) H) ∨ ∃ k, xs = [V.bl k] ∧ Q (V.int (if k = true then 1 else 0)) H) (tCons (tOp rEq (tVar 3) (tVar 7)) tNil)) (j := 7) (vs := [7]) (σ := [some (.ref pE), some (.ref pA), some (.ref d), some (.int (i : Nat)), some (.int ei.1), some (.int ei.2), z6, z7, z8, z9]) (H := H6) (n := (m : Int)) (ta := tCons (tCB (rLenS K) (tCons (tVar 0) tNil)) tNil)
            (fun _ => true) (fun o => .int (if decide (V.int (i : Nat) = V.int (o : Nat)) = true then 1 else 0)) (ea_cons (ev_is (ev_len (ev_var rfl) (SqL.of (e6 _ _ (ndl hE) hE))) (by rw [List.length_map, hal])) ea_nil) (by omega) (fun x => rfl) (fun o H1 e ho Hx ex Qx qx => qx Hx (Ex.refl _)) (fun o H1 e ho hf H2 e2 Q2 q2 => ⟨_, rfl, _, rfl, rfl, .inr ⟨_, rfl, q2 H2 (Ex.refl _)⟩⟩)
          have eg : given (m : Int).toNat (fun _ => true) (fun o => V.int (if decide (V.int (i : Nat) = V.int (o : Nat)) = true then 1 else 0)) = ((List.range m).map fun o => if decide (V.int (i : Nat) = V.int (o : Nat)) = true then (1 : Int) else 0).map V.int := by
            unfold given
            rw [Int.toNat_natCast, List.filter_eq_self.mpr (fun _ _ => rfl), List.map_map]
            rfl
          rw [eg] at g
          exact g
        refine q_asgL Est fun st H7 _ e7 hst => ?_
        have F7 := F6.ex e7
        have e07 := e6.trans (ExB.of e7)
        have stb : ∀ y ∈ (List.range m).map fun o => if decide (V.int (i : Nat) = V.int (o : Nat)) = true then (1 : Int) else 0, y = 0 ∨ y = 1 := by
          intro y hy
          obtain ⟨o, _, rfl⟩ := List.mem_map.mp hy
          split
          · exact .inr rfl
          · exact .inl rfl
        have stl : ((List.range m).map fun o => if decide (V.int (i : Nat) = V.int (o : Nat)) = true then (1 : Int) else 0).length = m := by
          rw [List.length_map, List.length_range]
        have stv : ∀ j, j < m → ((List.range m).map fun o => if decide (V.int (i : Nat) = V.int (o : Nat)) = true then (1 : Int) else 0)[j]? = some (if i = j then 1 else 0) := by
          intro j hj
          rw [List.getElem?_map, List.getElem?_range hj]
          show some (if decide (V.int (i : Nat) = V.int (j : Nat)) = true then (1 : Int) else 0) = _
          rw [dec_natT]
          by_cases z : i = j
          · rw [if_pos (decide_eq_true z), if_pos z]
          · rw [if_neg (by simp [z]), if_neg z]
        generalize ((List.range m).map fun o => if decide (V.int (i : Nat) = V.int (o : Nat)) = true then (1 : Int) else 0) = sl at hst stb stl stv
        -- the ifs
        have nxt : ∀ H', ExB d H H' → FarX (e0 :: es') H' d m kvs' L' → (ei.1 ∈ L' ↔ ei.2 ∈ L') → ∃ (y3 y4 y5 y6 y7 y8 y9 : Option V) (kvs' : List (Key × V)) (L' : List Int), [some (V.ref pE), some (.ref pA), some (.ref d), some (.int (i : Nat)), some (.int ei.1), some (.int ei.2), some (.ref st), z7, z8, z9] = [some (.ref pE), some (.ref pA), some (.ref d), y3, y4, y5, y6, y7, y8, y9] ∧ ExB d H H' ∧ FarX (e0 :: es') H' d m kvs' L' ∧
            (L.length < L'.length ∨ (L' = L ∧ ∀ j, j < i + 1 → ∀ e, (e0 :: es')[j]? = some e → (e.1 ∈ L ↔ e.2 ∈ L))) := by
          intro H' x1 x2 x3
          refine ⟨_, _, _, _, _, _, _, kvs', L', rfl, x1, x2, ?_⟩
          rcases hor with h | ⟨rfl, h⟩
          · exact .inl h
          · refine .inr ⟨rfl, fun j hj e he => ?_⟩
            by_cases hji : j < i
            · exact h j hji e he
            · have : j = i := by omega
              subst this
              rw [hei] at he
              have := Option.some.inj he
              rw [← this]
              exact x3
        have grow : ∀ (x : Int) (a : Addr) (ns : List Int) (H' : Hp), ExB d H H' → FarX (e0 :: es') H' d m kvs' L' → x ∉ L' → 0 ≤ x ∧ x ≤ m → H' a = some (.lst (ns.map V.int)) → ns.length = m → (∀ y ∈ ns, y.natAbs ≤ L'.length + 1) → (ei.1 ∈ L' ∧ ei.2 = x ∨ ei.2 ∈ L' ∧ ei.1 = x) → (∀ j, j < m → (if ei.2 = x then ns[j]?.getD 0 else valN H' kvs' ei.2 j) - (if ei.1 = x then ns[j]?.getD 0 else valN H' kvs' ei.1 j) = if i = j then 1 else 0) → ∃ (y3 y4 y5 y6 y7 y8 y9 : Option V) (kvs2 : List (Key × V)) (L2 : List Int), [some (V.ref pE), some (.ref pA), some (.ref d), some (.int (i : Nat)), some (.int ei.1), some (.int ei.2), some (.ref st), z7, z8, z9] = [some (.ref pE), some (.ref pA), some (.ref d), y3, y4, y5, y6, y7, y8, y9] ∧ ExB d H (upd H' d (.dK (putK kvs' (Sum.inl x) (.ref a)))) ∧ FarX (e0 :: es') (upd H' d (.dK (putK kvs' (Sum.inl x) (.ref a)))) d m kvs2 L2 ∧
            (L.length < L2.length ∨ (L2 = L ∧ ∀ j, j < i + 1 → ∀ e, (e0 :: es')[j]? = some e → (e.1 ∈ L ↔ e.2 ∈ L))) := by
          intro x a ns H' x1 x2 x3 x4 x5 x6 x7 x8 x9
          refine ⟨_, _, _, _, _, _, _, _, L' ++ [x], rfl, x1.trans (ExB.upd _ _ _), x2.put x3 x4 x5 x6 x7 hei x8 x9, .inl ?_⟩
          rw [List.length_append]
          simp only [List.length_cons, List.length_nil]
          rcases hor with h | ⟨rfl, _⟩ <;> omega
        have hkv : kvs'.length < sizeLine := small1000 (by have := F7.len; have := F7.le; omega)
        show tIfS _ _ _ _ [some (V.ref pE), some (.ref pA), some (.ref d), some (.int (i : Nat)), some (.int ei.1), some (.int ei.2), some (.ref st), z7, z8, z9] H7
        refine ⟨_, rfl, _, rfl, d, _, rfl, DGet.k (k := Sum.inl ei.1) F7.at_, _, rfl, ?_⟩
        rw [F7.some_ ei.1]
        have snd : (∀ H', Ex H7 H' → ei.1 ∉ L' ∨ ei.2 ∈ L' → tIfS (tAnd (tB (tDIn (tVar 5) (tVar 2))) (tB (tDNotIn (tVar 4) (tVar 2)))) (sDPut (tVar 2) (tVar 4) (tLc (iZip K (tCons (tDGet (tVar 2) (tVar 5)) (tCons (tVar 6) tNil))) (g2 K 8 9) tYes (tOp (rI0 fun i j => V.int (i - j)) (tVar 8) (tVar 9)) [8, 9])) tNext
            { nx := fun σ' H' => ∃ (y3 y4 y5 y6 y7 y8 y9 : Option V) (kvs' : List (Key × V)) (L' : List Int), σ' = [some (.ref pE), some (.ref pA), some (.ref d), y3, y4, y5, y6, y7, y8, y9] ∧ ExB d H H' ∧ FarX (e0 :: es') H' d m kvs' L' ∧ (L.length < L'.length ∨ (L' = L ∧ ∀ j, j < i + 1 → ∀ e, (e0 :: es')[j]? = some e → (e.1 ∈ L ↔ e.2 ∈ L))), rt := Q,
              bk := fun σ' H' => ∃ (y3 y4 y5 y6 y7 y8 y9 : Option V) (kvs' : List (Key × V)) (L' : List Int), σ' = [some (.ref pE), some (.ref pA), some (.ref d), y3, y4, y5, y6, y7, y8, y9] ∧ L.length < L'.length ∧ ExB d H H' ∧ FarX (e0 :: es') H' d m kvs' L',
              ct := fun σ' H' => ∃ (y3 y4 y5 y6 y7 y8 y9 : Option V) (kvs' : List (Key × V)) (L' : List Int), σ' = [some (.ref pE), some (.ref pA), some (.ref d), y3, y4, y5, y6, y7, y8, y9] ∧ ExB d H H' ∧ FarX (e0 :: es') H' d m kvs' L' ∧ (L.length < L'.length ∨ (L' = L ∧ ∀ j, j < i + 1 → ∀ e, (e0 :: es')[j]? = some e → (e.1 ∈ L ↔ e.2 ∈ L))) }
            [some (V.ref pE), some (.ref pA), some (.ref d), some (.int (i : Nat)), some (.int ei.1), some (.int ei.2), some (.ref st), z7, z8, z9] H') := by
          intro H' x1 hno
          have F8 := F7.ex x1
          have e8 := e07.trans (ExB.of x1)
          refine ⟨_, rfl, _, rfl, d, _, rfl, DGet.k (k := Sum.inl ei.2) F8.at_, _, rfl, ?_⟩
          rw [F8.some_ ei.2]
          by_cases h2 : ei.2 ∈ L'
          · rw [decide_eq_true h2]
            refine iteT ?_
            refine ⟨_, rfl, _, rfl, d, _, rfl, DGet.k (k := Sum.inl ei.1) F8.at_, _, rfl, ?_⟩
            rw [F8.some_ ei.1]
            by_cases h1 : ei.1 ∈ L'
            · rw [decide_eq_true h1]
              exact iteF (nxt _ e8 F8 ⟨fun _ => h2, fun _ => h1⟩)
            · rw [decide_eq_false h1]
              refine iteT ?_
              obtain ⟨ar, ns, hv, har, hnl, hnb⟩ := F8.get h2
              refine el_zip (K := K) (f := fun i j => i - j) (xs := ns) (ys := sl) (ea_cons (ev_dget rfl rfl F8.at_ hv) (ea_cons (ev_var rfl) ea_nil)) (SqL.of har) (SqL.of (x1 _ _ hst)) (by rw [hnl, stl]) (by omega) (fun u v => rfl) (fun x y H1 _ _ _ => ev_op (ev_var rfl) (ev_var rfl) rv_I0) H' (Ex.refl _) _ fun r H9 nr e9 hr => ?_
              have F9 := F8.ex e9
              refine ⟨_, rfl, _, rfl, d, _, rfl, DPut.k (k := Sum.inl ei.1) F9.at_ hkv, ?_⟩
              refine grow _ r _ H9 (e8.trans (ExB.of e9)) F9 h1 ⟨mi.1, mi.2.1⟩ hr (by rw [List.length_zipWith]; omega) (fun y hy => ?_) (.inr ⟨h2, rfl⟩) (fun j hj => ?_)
              rotate_left
              · have n12 : ei.2 ≠ ei.1 := fun z => h1 (z ▸ h2)
                rw [if_neg n12, if_pos rfl, valN_eq hv (e9 _ _ har), List.getElem?_zipWith, stv j hj, List.getElem?_eq_getElem (show j < ns.length by omega)]
                show ns[j] - (ns[j] - _) = _
                omega
              obtain ⟨u, v, hu, hv', rfl⟩ : ∃ u v, u ∈ ns ∧ v ∈ sl ∧ u - v = y := by
                obtain ⟨j, hj⟩ := List.getElem?_of_mem hy
                rw [List.getElem?_zipWith] at hj
                cases h3 : ns[j]? with
                | none => rw [h3] at hj; simp at hj
                | some u =>
                  cases h4 : sl[j]? with
                  | none => rw [h3, h4] at hj; simp at hj
                  | some v =>
                    rw [h3, h4] at hj
                    exact ⟨u, v, List.mem_of_getElem? h3, List.mem_of_getElem? h4, Option.some.inj hj⟩
              have b1 := hnb u hu
              rcases stb v hv' with rfl | rfl <;> omega
          · rw [decide_eq_false h2]
            refine iteF ?_
            have h1 : ei.1 ∉ L' := hno.resolve_right h2
            exact nxt _ e8 F8 ⟨fun z => absurd z h1, fun z => absurd z h2⟩
        by_cases h1 : ei.1 ∈ L'
        · rw [decide_eq_true h1]
          refine iteT ?_
          refine ⟨_, rfl, _, rfl, d, _, rfl, DGet.k (k := Sum.inl ei.2) F7.at_, _, rfl, ?_⟩
          rw [F7.some_ ei.2]
          by_cases h2 : ei.2 ∈ L'
          · rw [decide_eq_true h2]
            exact iteF (snd H7 (Ex.refl _) (.inr h2))
          · rw [decide_eq_false h2]
            refine iteT ?_
            obtain ⟨ar, ns, hv, har, hnl, hnb⟩ := F7.get h1
            refine el_zip (K := K) (f := fun i j => i + j) (xs := ns) (ys := sl) (ea_cons (ev_dget rfl rfl F7.at_ hv) (ea_cons (ev_var rfl) ea_nil)) (SqL.of har) (SqL.of hst) (by rw [hnl, stl]) (by omega) (fun u v => rfl) (fun x y H1 _ _ _ => ev_op (ev_var rfl) (ev_var rfl) rv_I0) H7 (Ex.refl _) _ fun r H9 nr e9 hr => ?_
            have F9 := F7.ex e9
            refine ⟨_, rfl, _, rfl, d, _, rfl, DPut.k (k := Sum.inl ei.2) F9.at_ hkv, ?_⟩
            refine grow _ r _ H9 (e07.trans (ExB.of e9)) F9 h2 ⟨mi.2.2.1, mi.2.2.2⟩ hr (by rw [List.length_zipWith]; omega) (fun y hy => ?_) (.inl ⟨h1, rfl⟩) (fun j hj => ?_)
            rotate_left
            · have n12 : ei.1 ≠ ei.2 := fun z => h2 (z ▸ h1)
              rw [if_pos rfl, if_neg n12, valN_eq hv (e9 _ _ har), List.getElem?_zipWith, stv j hj, List.getElem?_eq_getElem (show j < ns.length by omega)]
              show ns[j] + _ - ns[j] = _
              omega
            obtain ⟨u, v, hu, hv', rfl⟩ : ∃ u v, u ∈ ns ∧ v ∈ sl ∧ u + v = y := by
              obtain ⟨j, hj⟩ := List.getElem?_of_mem hy
              rw [List.getElem?_zipWith] at hj
              cases h3 : ns[j]? with
              | none => rw [h3] at hj; simp at hj
              | some u =>
                cases h4 : sl[j]? with
                | none => rw [h3, h4] at hj; simp at hj
                | some v =>
                  rw [h3, h4] at hj
                  exact ⟨u, v, List.mem_of_getElem? h3, List.mem_of_getElem? h4, Option.some.inj hj⟩
            have b1 := hnb u hu
            rcases stb v hv' with rfl | rfl <;> omega
        · rw [decide_eq_false h1]
          exact iteF (snd H7 (Ex.refl _) (.inl h1))
      · rintro σ' H5 ⟨z3, z4, z5, z6, z7, z8, z9, kvs', L', rfl, e5, F5, hor⟩
        refine ⟨z3, z4, z5, z6, z7, z8, z9, kvs', L', rfl, ?_, e5, F5⟩
        rcases hor with h | ⟨rfl, h⟩
        · exact h
        · exfalso
          rw [List.length_map, hal] at h
          obtain ⟨x0, hx0⟩ : ∃ x0, x0 ∈ L' := by
            cases L' with
            | nil => simp at hL1
            | cons x r => exact ⟨x, List.mem_cons_self ..⟩
          have hS := hC (fun x => decide (x ∈ L')) (fun e he => by
            obtain ⟨j, hj⟩ := List.getElem?_of_mem he
            have := h j (by have := (List.getElem?_eq_some_iff.mp hj).1; omega) e hj
            by_cases q : e.1 ∈ L'
            · rw [decide_eq_true q, decide_eq_true (this.mp q)]
            · rw [decide_eq_false q, decide_eq_false (fun z => q (this.mpr z))])
          have hall : ∀ x ∈ numsTo (m + 1), x ∈ L' := by
            intro x hx
            have hx := mem_numsTo.mp hx
            have i0 := F5.inn x0 hx0
            have := hS x x0 (by omega) (by omega) i0.1 i0.2
            rw [decide_eq_true hx0] at this
            exact of_decide_eq_true this
          have := nodup_sub (nodup_nums (m + 1)) hall
          rw [numsTo_length] at this
          omega
    · have hLm : m < L.length := by
        have : ¬ ((L.length : Int) ≤ (m : Int)) := fun z => hc (decide_eq_true z)
        omega
      have hall := F4.all hLm
      have hEl := e4 _ _ (ndl hE) hE
      have hAl := e4 _ _ (ndl hA) hA
      have hAE4 : EdgesAt H4 bs qs := EdgesAt.mono (fun a xs g => e4 _ _ (ndl g) g) hAE
      -- the rows
      refine lc_rows (m := m) (F := fun kk => qs.map fun e => (valN H4 kvs e.2 kk) - (valN H4 kvs e.1 kk)) (ea_cons (ev_is (ev_len (ev_var rfl) (SqL.of hEl)) (by rw [List.length_map, hal])) ea_nil) (by omega) (fun u => rfl) ?_ ?_
      · intro kk H5 x5 hkk
        refine el_pairs (K := K) (f := fun e => (valN H4 kvs e.2 kk) - (valN H4 kvs e.1 kk)) rfl (x5 _ _ hAl) (EdgesAt.mono (tups_E x5) hAE4) (by omega) (fun u v => rfl) fun e H6 he x6 => ?_
        have mq := hq0 e he
        obtain ⟨a1, n1, v1, g1, l1, b1⟩ := F4.get (hall e.1 mq.1 mq.2.1)
        obtain ⟨a2, n2, v2, g2, l2, b2⟩ := F4.get (hall e.2 mq.2.2.1 mq.2.2.2)
        have x46 := x5.trans x6
        rw [valN_eq v1 g1, valN_eq v2 g2]
        refine ev_op (ev_op (ev_dget rfl rfl (x46 _ _ F4.at_) v2) (ev_var rfl) (rv_ixL (SqL.of (x46 _ _ g2)) (atI_row (by omega)))) (ev_op (ev_dget rfl rfl (x46 _ _ F4.at_) v1) (ev_var rfl) (rv_ixL (SqL.of (x46 _ _ g1)) (atI_row (by omega)))) rv_I0
      · intro p rs H5 np nrs ndr npr x5 ht
        have hH : ∀ {a : Addr}, H4 a = none → H a = none := fun {a} g => fresh_B e4 g ⟨_, F4.at_⟩
        have eN : ((List.range m).map fun kk => qs.map fun e => (valN H4 kvs e.2 kk) - (valN H4 kvs e.1 kk)) = netT (e0 :: es') qs := by
          have hU := F4.used
          have hl : L.length = m + 1 := by have := F4.le; omega
          subst hes
          exact Nl.used_table hTr hU hl hq0
        rw [eN] at ht
        exact k rs p H5 (hH np) (fun a ha => hH (nrs a ha)) ndr npr (fun b o g => (e4.trans (ExB.of x5)) b o (ndl g) g) ht
-- DEF _law_named

/-- [(f(a, b), g(a, b)) for a, b in edges] -/
theorem lc_edges2 {K : PySem.W.Frag} {nn j1 j2 : Nat} {te : TE} {vs : List Nat} {σ : L2.St} {H : Hp} {Q : VK} {a : Addr} {as0 : List Addr} {es : List (Int × Int)} (F : Int × Int → Int × Int) (hσ : σ[nn]? = some (some (.ref a))) (ha : H a = some (.lst (as0.map V.ref))) (hE : EdgesAt H as0 es) (hm : es.length ≤ 1000) (hw : ∀ u v, wipe (((wipe σ vs).set j1 (some u)).set j2 (some v)) vs = wipe σ vs)
    (he : ∀ e H1, e ∈ es → Ex H H1 → EvU te (((wipe σ vs).set j1 (some (.int e.1))).set j2 (some (.int e.2))) H1 [.int (F e).1, .int (F e).2])
    (k : ∀ D bs H2, H D = none → Ex H H2 → H2 D = some (.lst (bs.map V.ref)) → EdgesAt H2 bs (es.map F) → Q (.ref D) H2) : tLc (iList K (tVar nn)) (g2 K j1 j2) tYes te vs σ H Q := by
  refine ⟨_, hσ, a, rfl, ⟨_, SqL.of ha⟩, fun D hD => ?_⟩
  refine lc_list (K := K) (a := a) (xs := as0.map V.ref) (fun i H' => ∃ bs, Ex H H' ∧ H' D = some (.lst (bs.map V.ref)) ∧ EdgesAt H' bs ((es.take i).map F)) ⟨[], Ex.new hD, upd_same, .nil⟩ (fun i H' _ ⟨_, p1, _⟩ => SqL.of (p1 _ _ ha)) (fun i x H' gx p => ?_) (fun H' p => ?_)
  · obtain ⟨bs, p1, p2, p3⟩ := p
    rw [List.getElem?_map] at gx
    obtain ⟨c0, hc0, rfl⟩ := Option.map_eq_some_iff.mp gx
    obtain ⟨y, hy, hh⟩ := paired_get hE hc0
    have hi := (List.getElem?_eq_some_iff.mp hy).1
    have el : bs.length = i := by rw [Paired.length p3, List.length_map, List.length_take]; omega
    refine ⟨c0, _, rfl, SqT.of (p1 _ _ hh), rfl, _, _, rfl, _, _, rfl, rfl, hw _ _, ?_⟩
    show te _ _ _
    refine he y H (List.mem_of_getElem? hy) (Ex.refl _) _ p1 _ fun r H4 nr e4 hr => ?_
    have p24 := e4 _ _ p2
    refine ⟨_, p24, ?_, bs ++ [r], Ex.mut (p1.trans e4) hD, ?_, ?_⟩
    · rw [List.length_map, el]
      exact small1000 (by omega)
    · rw [upd_same, List.map_append]
      rfl
    · rw [take_snoc hy, List.map_append]
      refine paired_snoc (paired_imp (fun b q h => tups_U p24 _ _ (e4 _ _ h)) p3) ?_
      exact tups_U p24 _ _ hr
  · obtain ⟨bs, p1, p2, p3⟩ := p
    have l0 : as0.length = es.length := Paired.length hE
    rw [List.length_map, l0, List.take_length] at p3
    exact k D bs H' hD p1 p2 p3
theorem ev_named {σ : L2.St} {H : Hp} {i j : Nat} {d : Addr} {x z : Int} {kvs : List (Key × V)} (h1 : σ[i]? = some (some (.ref d))) (h2 : σ[j]? = some (some (.int x))) (hd : H d = some (.dK kvs)) (hv : (valV kvs (Sum.inl x : Key)).getD (.int x) = .int z) : Ev (tDGet2 (tVar i) (tVar j) (tVar j)) σ H (.int z) := fun H1 e Q q =>
  ⟨_, h1, d, rfl, .inl ⟨kvs, .inl (e _ _ hd)⟩, _, h2, _, h2, _, DGet.k (k := Sum.inl x) (e _ _ hd), by
    rw [hv]
    exact q H1 (Ex.refl _)⟩
def sp__law_named (K : PySem.W.Frag) : Sp := fun vs H Q _ => ∃ (p : Addr) (as : List Addr) (es : List (Int × Int)) (u v : Int), vs = [.ref p, .int u, .int v] ∧ H p = some (.lst (as.map V.ref)) ∧ EdgesAt H as es ∧ es.length ≤ 100 ∧ u ≠ v ∧
  ∀ q bs H', H q = none → Ex H H' → H' q = some (.lst (bs.map V.ref)) → EdgesAt H' bs (es.map (Nl.nm (Nl.two u v))) → Q (.ref q) H'

theorem ok__law_named (T : Txt K mg) : FnOk P w K mg base CX0 1 T.f__law_named T.fd__law_named ["_law_some", "_law_one", "_law_two"] (sp__law_named K) := by
  refine Fun.ok T.F__law_named sc__law_named (fun vs H Q E h => ?_) (fun cdv A outer s H vs Q E hr h => ?_)
  · obtain ⟨_, _, _, _, _, rfl, _⟩ := h; rfl
  · refine ⟨_, (pss_cut (ps_set (i := 3) sc__law_named.nd rfl (by first | exact Or.inl rfl | exact Or.inr rfl) (pe_disp (pps_cons (pv 1) (pv 2) (pps_cons (pv 2) (pv 1) pps_nil)) (by rfl) (by rfl) (fun z => by cases z) (by decide)))
      (pss_one (ps_ret (pe_lc (own := [("_law_begin", 4), ("_law_goal", 5)]) (wi := iList K _) (g := gTup K 2 (gCons (gName 4) (gCons (gName 5) gNil))) (tt := tYes) rfl sc__law_named.nd (pi_list (pv 0)) (blkOk_by (N := ["_law_some", "_law_one", "_law_two", "_law_names", "_law_begin", "_law_goal"]) (sc := (defScope s__law_named)) (by decide +kernel)) (fun _ _ _ _ _ => (pg_tup rfl (pgs_cons (pg_name (i := 4) sc__law_named.nd rfl (Or.inl rfl)) (pgs_cons (pg_name (i := 5) sc__law_named.nd rfl (Or.inl rfl)) pgs_nil)))) (fun _ _ _ _ _ => pts_nil) (fun _ _ _ _ _ => (pe_tup (pa_cons (pe_dget2 (hu_of hr) (pv 3) (pv 4) (pv 4) ⟨by rfl, by rfl, by rfl, by rfl⟩) (pa_cons (pe_dget2 (hu_of hr) (pv 3) (pv 5) (pv 5) ⟨by rfl, by rfl, by rfl, by rfl⟩) pa_nil)))))))), ?_⟩
    obtain ⟨p, as, es, u, v, rfl, hp, hE, hl, nuv, k⟩ := h
    refine ⟨fun σ' H' => ∃ (d : Addr) (kvs : List (Key × V)), σ' = [some (.ref p), some (.int u), some (.int v), some (.ref d), none, none] ∧ Ex H H' ∧ H' d = some (.dK kvs) ∧ ∀ x : Int, (valV kvs (Sum.inl x : Key)).getD (.int x) = .int (Nl.two u v x), ?_, ?_⟩
    · refine fun d nd => ?_
      refine ⟨_, rfl, _, rfl, _, rfl, _, rfl, upd_same, [(Sum.inl u, .int v), (Sum.inl v, .int u)], rfl, Nat.le_of_ble_eq_true rfl, ?_⟩
      refine ⟨d, _, rfl, Ex.mut (Ex.new nd) nd, upd_same, fun x => ?_⟩
      show (valV (putK (putK [] (Sum.inl u) (.int v)) (Sum.inl v) (.int u)) (Sum.inl x : Key)).getD (.int x) = _
      rw [valV_put, valV_put]
      unfold Nl.two
      by_cases h1 : x = u
      · rw [if_pos h1, if_neg (fun z => nuv (h1 ▸ Sum.inl.inj z)), if_pos (by rw [h1])]
        rfl
      · rw [if_neg h1]
        by_cases h2 : x = v
        · rw [if_pos h2, if_pos (by rw [h2])]
          rfl
        · rw [if_neg h2, if_neg (fun z => h2 (Sum.inl.inj z)), if_neg (fun z => h1 (Sum.inl.inj z))]
          rfl
    rintro σ' H1 ⟨d, kvs, rfl, e1, hd, hv⟩
    refine lc_edges2 (K := K) (nn := 0) (j1 := 4) (j2 := 5) (vs := [4, 5]) (σ := [some (.ref p), some (.int u), some (.int v), some (.ref d), none, none]) (Nl.nm (Nl.two u v)) rfl (e1 _ _ hp) (EdgesAt.mono (fun a xs g => e1 _ _ g) hE) (by omega) (fun a b => rfl) (fun e H2 he e2 => eu_tup (ea_cons (ev_named rfl rfl (e2 _ _ hd) (hv e.1)) (ea_cons (ev_named rfl rfl (e2 _ _ hd) (hv e.2)) ea_nil)) (Nat.le_of_ble_eq_true rfl)) (fun D bs H2 nD e2 hD hbs => k D bs H2 (fresh_back e1 nD) (e1.trans e2) hD hbs)
-- DEF all_grown

theorem growA_rel {α β : Type} {R : α → β → Prop} {told : List (List α)} {told' : List (List β)} (h : Paired (Paired R) told told') {c : List α} {d : List β} (hc : Paired R c d) : Paired (Paired R) (LsA.grow told c) (LsA.grow told' d) := by
  unfold LsA.grow
  induction h with
  | nil => exact .nil
  | cons r t ih =>
    rw [List.flatMap_cons, List.flatMap_cons]
    refine paired_app ?_ ih
    clear ih t
    induction hc with
    | nil => exact .nil
    | cons p q ih2 => exact .cons (Paired.snoc r p) ih2
theorem all_rel {α β : Type} {R : α → β → Prop} {cs : List (List α)} {ds : List (List β)} (h : Paired (Paired R) cs ds) : Paired (Paired R) (LsA.allL cs) (LsA.allL ds) := by
  have key : ∀ (told : List (List α)) (told' : List (List β)), Paired (Paired R) told told' → Paired (Paired R) (cs.foldl LsA.grow told) (ds.foldl LsA.grow told') := by
    induction h with
    | nil => exact fun _ _ h => h
    | cons r t ih => exact fun told told' h => ih _ _ (growA_rel h r)
  exact key _ _ (.cons .nil .nil)
namespace Af
/-- an end may stay, or go to the new place -/
def ways (i n : Int) (e : Int × Int) : List (Int × Int) := if e.1 = i ∨ e.2 = i then [e, mv e i n] else [e]
def grownAt (es : List (Int × Int)) (n i : Int) : List (List (Int × Int)) := (LsA.allL (es.map (ways i n))).map fun g => g ++ [(i, n)]
def grown (es : List (Int × Int)) : List (List (Int × Int)) := (List.range (es.length + 1)).flatMap fun (i : Nat) => grownAt es ((es.length + 1 : Nat) : Int) (i : Int)
end Af
def EdgeV (H : Hp) (v : V) (e : Int × Int) : Prop := ∃ c, v = .ref c ∧ H c = some (.tup [.int e.1, .int e.2])
def TreeAt (H : Hp) (a : Addr) (es : List (Int × Int)) : Prop := ∃ bs : List Addr, H a = some (.lst (bs.map V.ref)) ∧ EdgesAt H bs es
def TreesAt (H : Hp) (p : Addr) (as : List Addr) (ts : List (List (Int × Int))) : Prop := H p = some (.lst (as.map V.ref)) ∧ Paired (TreeAt H) as ts
theorem EdgesAt.exx {H H' : Hp} {as : List Addr} {es : List (Int × Int)} (h : EdgesAt H as es) (e : Ex H H') : EdgesAt H' as es := EdgesAt.mono (fun a xs g => e _ _ g) h
theorem TreeAt.ex {H H' : Hp} {a : Addr} {es : List (Int × Int)} (h : TreeAt H a es) (e : Ex H H') : TreeAt H' a es := by
  obtain ⟨bs, h1, h2⟩ := h
  exact ⟨bs, e _ _ h1, h2.exx e⟩
theorem trees_ex {H H' : Hp} {as : List Addr} {ts : List (List (Int × Int))} (h : Paired (TreeAt H) as ts) (e : Ex H H') : Paired (TreeAt H') as ts := paired_imp (fun _ _ r => r.ex e) h
theorem EdgeV.ex {H H' : Hp} {v : V} {x : Int × Int} (h : EdgeV H v x) (e : Ex H H') : EdgeV H' v x := by
  obtain ⟨c, rfl, h⟩ := h
  exact ⟨c, rfl, e _ _ h⟩
theorem edges_of {H : Hp} : ∀ {vs : List V} {es : List (Int × Int)}, Paired (EdgeV H) vs es → ∃ bs : List Addr, vs = bs.map V.ref ∧ EdgesAt H bs es
  | _, _, .nil => ⟨[], rfl, .nil⟩
  | _, _, .cons r t => by
    obtain ⟨c, rfl, h⟩ := r
    obtain ⟨bs, rfl, h2⟩ := edges_of t
    exact ⟨c :: bs, rfl, .cons h h2⟩

theorem trees_but {H H' : Hp} {D : Addr} {xs : List V} (hD : H D = some (.lst xs)) (e : ∀ b u, b ≠ D → H b = some u → H' b = some u) : ∀ {ts : List Addr} {l : List (List (Int × Int))}, Paired (TreeAt H) ts l → D ∉ ts → Paired (TreeAt H') ts l
  | _, _, .nil, _ => .nil
  | _, _, .cons r t, n => by
    obtain ⟨bs, h1, h2⟩ := r
    refine .cons ⟨bs, e _ _ (fun z => n (by rw [z]; exact .head _)) h1, EdgesAt.mono (fun a xs g => e _ _ (fun z => ?_) g) h2⟩ (trees_but hD e t fun z => n (.tail _ z))
    rw [z, hD] at g
    cases g
theorem tree_len {H : Hp} {ts : List Addr} {l : List (List (Int × Int))} (h : Paired (TreeAt H) ts l) : ts.length = l.length := Paired.length h
theorem inV_two (a x y : Int) : inV (.int a) [.int x, .int y] = decide (x = a ∨ y = a) := by
  unfold inV
  rw [Bool.eq_iff_iff, decide_eq_true_eq]
  show ((x == a) || ((y == a) || false)) = true ↔ _
  simp only [Bool.or_false, Bool.or_eq_true, beq_iff_eq]
/-- [the ways of e for e in edges] -/
theorem lc_choices {K : PySem.W.Frag} {nn j : Nat} {te : TE} {vs : List Nat} {σ : L2.St} {H : Hp} {Q : VK} {a : Addr} {as0 : List Addr} {es : List (Int × Int)} (W : Int × Int → List (Int × Int)) (hσ : σ[nn]? = some (some (.ref a))) (ha : H a = some (.lst (as0.map V.ref))) (hE : EdgesAt H as0 es) (hm : es.length ≤ 1000) (hw : ∀ u, wipe ((wipe σ vs).set j (some u)) vs = wipe σ vs)
    (he : ∀ c e H1, e ∈ es → H1 c = some (.tup [.int e.1, .int e.2]) → Ex H H1 → ∀ Q : VK, (∀ r us H2, H1 r = none → Ex H1 H2 → H2 r = some (.lst us) → Paired (EdgeV H2) us (W e) → Q (.ref r) H2) → te ((wipe σ vs).set j (some (.ref c))) H1 Q)
    (k : ∀ D cs cvs H2, H D = none → Ex H H2 → TabV H2 D cs cvs → Paired (Paired (EdgeV H2)) cvs (es.map W) → Q (.ref D) H2) : tLc (iList K (tVar nn)) (gName j) tYes te vs σ H Q := by
  refine ⟨_, hσ, a, rfl, ⟨_, SqL.of ha⟩, fun D hD => ?_⟩
  have keep : ∀ {H1 H2 : Hp} {xs : List V}, H1 D = some (.lst xs) → (∀ b u, b ≠ D → H1 b = some u → H2 b = some u) → ∀ {cvs : List (List V)} {l : List (List (Int × Int))}, Paired (Paired (EdgeV H1)) cvs l → Paired (Paired (EdgeV H2)) cvs l := fun hd e _ _ h => paired_imp (fun _ _ r => paired_imp (fun v x q => by
    obtain ⟨c, rfl, g⟩ := q
    refine ⟨c, rfl, e _ _ (fun z => ?_) g⟩
    rw [z, hd] at g
    cases g) r) h
  refine lc_list (K := K) (a := a) (xs := as0.map V.ref) (fun i H' => ∃ cs cvs, Ex H H' ∧ H' D = some (.lst (cs.map V.ref)) ∧ RowsV H' cs cvs ∧ Paired (Paired (EdgeV H')) cvs ((es.take i).map W) ∧ D ∉ cs) ⟨[], [], Ex.new hD, upd_same, .nil, .nil, fun z => nomatch z⟩ (fun i H' _ ⟨_, _, p1, _⟩ => SqL.of (p1 _ _ ha)) (fun i x H' gx p => ?_) (fun H' p => ?_)
  · obtain ⟨cs, cvs, p1, p2, p3, p4, p6⟩ := p
    rw [List.getElem?_map] at gx
    obtain ⟨c0, hc0, rfl⟩ := Option.map_eq_some_iff.mp gx
    obtain ⟨y, hy, hh⟩ := paired_get hE hc0
    have hi := (List.getElem?_eq_some_iff.mp hy).1
    have el : cs.length = i := by rw [Paired.length p3, Paired.length p4, List.length_map, List.length_take]; omega
    refine ⟨hw _, ?_⟩
    show te _ H' _
    refine he c0 y H' (List.mem_of_getElem? hy) (p1 _ _ hh) p1 _ fun r us H4 nr e4 hr hus => ?_
    have nrD : r ≠ D := fun z => by
      rw [z, p2] at nr
      cases nr
    have p24 := e4 _ _ p2
    have up : ∀ b u, b ≠ D → H4 b = some u → upd H4 D (.lst (cs.map V.ref ++ [V.ref r])) b = some u := fun b u nb g => by
      rw [upd_ne nb]
      exact g
    refine ⟨_, p24, ?_, cs ++ [r], cvs ++ [us], Ex.mut (p1.trans e4) hD, ?_, ?_, ?_, ?_⟩
    · rw [List.length_map, el]
      exact small1000 (by omega)
    · rw [upd_same, List.map_append]
      rfl
    · refine paired_snoc (rowsV_but p3 fun b hb o g => ?_) ?_
      · exact up _ _ (fun z => p6 (by rw [← z]; exact hb)) (e4 _ _ g)
      · exact up _ _ nrD hr
    · rw [take_snoc hy, List.map_append]
      refine Paired.snoc (keep p24 up (paired_imp (fun _ _ r => paired_imp (fun _ _ q => q.ex e4) r) p4)) ?_
      have := keep (cvs := [us]) (l := [W y]) p24 up (.cons hus .nil)
      cases this with
      | cons r _ => exact r
    · intro hb
      rcases List.mem_append.mp hb with h | h
      · exact p6 h
      · exact nrD (List.mem_singleton.mp h).symm
  · obtain ⟨cs, cvs, p1, p2, p3, p4, p6⟩ := p
    have l0 : as0.length = es.length := Paired.length hE
    rw [List.length_map, l0, List.take_length] at p4
    exact k D cs cvs H' hD p1 ⟨p2, p3⟩ p4
def sp_all_grown (K : PySem.W.Frag) : Sp := fun vs H Q _ => ∃ (p : Addr) (as : List Addr) (es : List (Int × Int)), vs = [.ref p] ∧ H p = some (.lst (as.map V.ref)) ∧ EdgesAt H as es ∧ es.length ≤ 4 ∧
  ∀ q bs H', H q = none → Ex H H' → TreesAt H' q bs (Af.grown es) → Q (.ref q) H'

theorem ok_all_grown (T : Txt K mg) : FnOk P w K mg base CX0 2 T.f_all_grown T.fd_all_grown ["ends"] (sp_all_grown K) := by
  refine Fun.ok T.F_all_grown sc_all_grown (fun vs H Q E h => ?_) (fun cdv A outer s H vs Q E hr h => ?_)
  · obtain ⟨_, _, _, rfl, _⟩ := h; rfl
  · refine ⟨_, (pss_cons (ps_set (i := 1) sc_all_grown.nd rfl (by first | exact Or.inl rfl | exact Or.inr rfl) (pe_op op_add (pe_callB (id := "len") (r := rLenS K) call_len_seq (by rfl) T.n_len PySem.boot_len (pa_cons (pv 0) pa_nil)) pe_int))
      (pss_cut (ps_set (i := 2) sc_all_grown.nd rfl (by first | exact Or.inl rfl | exact Or.inr rfl) (pe_lst pa_nil))
      (pss_cons (ps_for PassesOwn.never rfl (pi_range1 (by rfl) T.n_range (pa_cons (pv 1) pa_nil)) (pg_name (i := 3) sc_all_grown.nd rfl (by first | exact Or.inl rfl | exact Or.inr rfl))
        (pss_cut (ps_setLc (i := 4) (own := [("end", 5)]) (wi := iList K _) (g := gName 5) (tt := tYes) rfl sc_all_grown.nd rfl rfl (sw_true rfl rfl rfl (by decide +kernel)) (pi_list (pv 0)) (blkOk_by (N := ["ends", "new", "told", "place", "choices", "end", "grown"]) (sc := (defScope s_all_grown)) (by decide +kernel)) (fun _ _ _ _ _ => pg_name (i := 5) sc_all_grown.nd rfl (Or.inl rfl)) (fun _ _ _ _ _ => pts_nil) (fun _ _ _ _ _ => (pe_ifExp (pt_cmpR (r := rIn K false) op_in_seq (pv 3) (pv 5) (by rfl)) (pe_lst (pa_cons (pv 5) (pa_cons (pe_call (ok_moved T) hr (by rfl) T.g_moved T.k_moved T.b_moved .nil pass0 (pa_cons (pv 5) (pa_cons (pv 3) (pa_cons (pv 1) pa_nil)))) pa_nil))) (pe_lst (pa_cons (pv 5) pa_nil)))))
          (pss_one (ps_expr (pe_bm PySem.F.plainAttrs_list PySem.F.slot_list_extend PySem.F.type_list_extend mt_extend (pv 2) (pa_cons (pe_lc (own := [("grown", 6)]) (wi := iList K _) (g := gName 6) (tt := tYes) rfl sc_all_grown.nd (pi_list (pe_call (ok_all_lists T) hr (by rfl) T.g_all_lists T.k_all_lists T.b_all_lists .nil pass0 (pa_cons (pv 4) pa_nil))) (blkOk_by (N := ["ends", "new", "told", "place", "choices", "end", "grown"]) (sc := (defScope s_all_grown)) (by decide +kernel)) (fun _ _ _ _ _ => pg_name (i := 6) sc_all_grown.nd rfl (Or.inl rfl)) (fun _ _ _ _ _ => pts_nil) (fun _ _ _ _ _ => (pe_op op_cat (pv 6) (pe_lst (pa_cons (pe_tup (pa_cons (pv 3) (pa_cons (pv 1) pa_nil))) pa_nil))))) pa_nil))))))
      (pss_one (ps_ret (pv 2)))))), ?_⟩
    obtain ⟨p, as, es, rfl, hp, hE, e4, k⟩ := h
    have el : as.length = es.length := Paired.length hE
    refine s_asg (σ := [some (.ref p), none, none, none, none, none, none]) (v := .int ((es.length + 1 : Nat) : Int)) (ev_is (ev_op (ev_len (ev_var (i := 0) rfl) (SqL.of hp)) ev_c rv_I0) (by rw [List.length_map, el]; rfl)) fun H1 e1 => ?_
    refine ⟨fun σ' H' => ∃ pt, σ' = [some (.ref p), some (.int ((es.length + 1 : Nat) : Int)), some (.ref pt), none, none, none, none] ∧ Ex H H' ∧ H pt = none ∧ H' pt = some (.lst []), ?_, ?_⟩
    · exact s_asgL (σ := [some (.ref p), some (.int ((es.length + 1 : Nat) : Int)), none, none, none, none, none]) (el_lst (vs := []) ea_nil (Nat.le_of_ble_eq_true rfl)) fun pt H2 npt e2 hpt => ⟨pt, rfl, e1.trans e2, fresh_back e1 npt, hpt⟩
    rintro σ' H2 ⟨pt, rfl, e2, npt, hpt⟩
    refine s_forR1 (σ := [some (.ref p), some (.int ((es.length + 1 : Nat) : Int)), some (.ref pt), none, none, none, none]) (n := es.length + 1) (ea_cons (ev_var (i := 1) rfl) ea_nil) (by omega) (fun a σ' H' => ∃ (bs : List Addr) (y3 y4 : Option V), σ' = [some (.ref p), some (.int ((es.length + 1 : Nat) : Int)), some (.ref pt), y3, y4, none, none] ∧ Ex H H' ∧ H' pt = some (.lst (bs.map V.ref)) ∧ pt ∉ bs ∧ bs.length ≤ 16 * a ∧ Paired (TreeAt H') bs ((List.range a).flatMap fun (i : Nat) => Af.grownAt es ((es.length + 1 : Nat) : Int) (i : Int))) (fun H3 e3 => ⟨[], _, _, rfl, e2.trans e3, e3 _ _ hpt, (fun z => nomatch z), Nat.zero_le _, .nil⟩) (fun a σ' H3 ha hP => ?_) (fun σ' H3 hP => ?_)
    rotate_left
    · obtain ⟨bs, y3, y4, rfl, e3, ht, ntb, lbs, hbs⟩ := hP
      exact s_ret (ev_var (i := 2) rfl) fun H4 e4 => k pt bs H4 npt (e3.trans e4) ⟨e4 _ _ ht, trees_ex hbs e4⟩
    obtain ⟨bs, y3, y4, rfl, e3, ht, ntb, lbs, hbs⟩ := hP
    have hE3 := hE.exx e3
    refine ⟨fun σ' H' => ∃ (pc : Addr) (cs : List Addr) (cvs : List (List V)), σ' = [some (.ref p), some (.int ((es.length + 1 : Nat) : Int)), some (.ref pt), some (.int (a : Int)), some (.ref pc), none, none] ∧ Ex H3 H' ∧ TabV H' pc cs cvs ∧ Paired (Paired (EdgeV H')) cvs (es.map (Af.ways (a : Int) ((es.length + 1 : Nat) : Int))), ?_, ?_⟩
    · refine lc_choices (K := K) (nn := 0) (j := 5) (vs := [5]) (σ := [some (.ref p), some (.int ((es.length + 1 : Nat) : Int)), some (.ref pt), some (.int (a : Int)), y4, none, none]) (Af.ways (a : Int) ((es.length + 1 : Nat) : Int)) rfl (e3 _ _ hp) hE3 (by omega) (fun u => rfl) (fun c e H4 he hc e34 Q2 q2 => ?_) (fun D cs cvs H4 nD e34 hT hcv => ⟨D, cs, cvs, rfl, e34, hT, hcv⟩)
      refine ⟨_, rfl, _, rfl, c, _, rfl, .inr (SqT.of hc), rfl, rfl, _, rfl, ?_⟩
      rw [if_neg Bool.false_ne_true, inV_two]
      dsimp only
      by_cases h : e.1 = (a : Int) ∨ e.2 = (a : Int)
      · rw [if_pos (decide_eq_true h)]
        refine ⟨_, rfl, _, rfl, _, rfl, _, rfl, c, e, (a : Int), ((es.length + 1 : Nat) : Int), rfl, hc, fun t H5 nt e45 ht => ⟨(by show 2 ≤ sizeLine; decide), fun r nr => ?_⟩⟩
        have xr := Ex.new (o := .lst [V.ref c, .ref t]) nr
        refine q2 r [.ref c, .ref t] _ (fresh_back e45 nr) (e45.trans xr) upd_same ?_
        rw [Af.ways, if_pos h]
        exact .cons ⟨c, rfl, (e45.trans xr) _ _ hc⟩ (.cons ⟨t, rfl, xr _ _ ht⟩ .nil)
      · rw [if_neg (fun z => h (of_decide_eq_true z))]
        refine ⟨_, rfl, (by show 1 ≤ sizeLine; decide), fun r nr => ?_⟩
        have xr := Ex.new (o := .lst [V.ref c]) nr
        refine q2 r [.ref c] _ nr xr upd_same ?_
        rw [Af.ways, if_neg h]
        exact .cons ⟨c, rfl, xr _ _ hc⟩ .nil
    rintro σ' H4 ⟨pc, cs, cvs, rfl, e34, hT, hcv⟩
    have lv : cvs.length = es.length := by rw [Paired.length hcv, List.length_map]
    have l2 : ∀ v ∈ cvs, v.length ≤ 2 := fun v hv => by
      obtain ⟨d, hd, r⟩ := paired_mem hcv hv
      obtain ⟨e, _, rfl⟩ := List.mem_map.mp hd
      rw [Paired.length r]
      unfold Af.ways
      split <;> simp
    have ht4 := e34 _ _ ht
    refine ⟨_, rfl, .inl ⟨rfl, _, SqL.of ht4⟩, ?_⟩
    refine ⟨_, rfl, pc, cs, cvs, 2, rfl, hT, l2, by decide, ?_, by decide, by omega, fun u us H5 nu nus _ _ e45 hu => ?_⟩
    · rw [lv]
      exact Nat.le_trans (Nat.pow_le_pow_right (by decide) e4) (by decide)
    have hrel := all_rel (paired_imp (fun _ _ r => paired_imp (fun _ _ q => q.ex e45) r) hcv)
    have lA : (LsA.allL cvs).length ≤ 16 := by
      refine Nat.le_trans (LsA.allL_len (b := 2) l2) ?_
      rw [lv]
      exact Nat.le_trans (Nat.pow_le_pow_right (by decide) e4) (by decide)
    generalize LsA.allL cvs = rows at hu hrel lA
    have hT5 : H5 pt = _ := e45 _ _ ht4
    refine ⟨u, rfl, ⟨_, SqL.of hu.1⟩, fun D hD => ?_⟩
    have eG : (LsA.allL (es.map (Af.ways (a : Int) ((es.length + 1 : Nat) : Int)))).map (fun g => g ++ [((a : Int), ((es.length + 1 : Nat) : Int))]) = Af.grownAt es ((es.length + 1 : Nat) : Int) (a : Int) := rfl
    refine lc_list (K := K) (a := u) (xs := us.map V.ref) (fun i H' => ∃ ts : List Addr, Ex H5 H' ∧ H' D = some (.lst (ts.map V.ref)) ∧ Paired (TreeAt H') ts (((LsA.allL (es.map (Af.ways (a : Int) ((es.length + 1 : Nat) : Int)))).take i).map fun g => g ++ [((a : Int), ((es.length + 1 : Nat) : Int))]) ∧ D ∉ ts ∧ (∀ b ∈ ts, H5 b = none)) ⟨[], Ex.new hD, upd_same, .nil, (fun z => nomatch z), fun b hb => nomatch hb⟩ (fun i H' _ ⟨_, p1, _⟩ => SqL.of (p1 _ _ hu.1)) (fun i x H' gx pp => ?_) (fun H' pp => ?_)
    · obtain ⟨ts, p1, p2, p3, p4, p5⟩ := pp
      rw [List.getElem?_map] at gx
      obtain ⟨c1, hc1, rfl⟩ := Option.map_eq_some_iff.mp gx
      obtain ⟨r, hr, hh⟩ := paired_get hu.2 hc1
      obtain ⟨g, hg, hrg⟩ := paired_get hrel hr
      obtain ⟨gs, rfl, hgs⟩ := edges_of hrg
      have hi := (List.getElem?_eq_some_iff.mp hr).1
      have hi2 := (List.getElem?_eq_some_iff.mp hg).1
      have lts : ts.length = i := by rw [Paired.length p3, List.length_map, List.length_take]; omega
      refine ⟨rfl, ?_⟩
      dsimp only [tYes]
      rw [if_pos rfl]
      refine ⟨_, rfl, _, rfl, _, rfl, (by show 2 ≤ sizeLine; decide), fun t nt => ⟨(by show 1 ≤ sizeLine; decide), fun l nl => ?_⟩⟩
      have xt := Ex.new (o := .tup [V.int (a : Int), .int ((es.length + 1 : Nat) : Int)]) nt
      have xl := Ex.new (o := .lst [V.ref t]) nl
      have lg : gs.length ≤ 100 := by
        have q := Paired.length hgs
        have q2 := Paired.length (LsA.allL_each _ _ rfl g (List.mem_of_getElem? hg))
        rw [List.length_map] at q2
        omega
      refine ⟨c1, l, gs.map V.ref, [.ref t], rfl, rfl, xl _ _ (xt _ _ (p1 _ _ hh)), upd_same, sz_of (by rw [List.length_map]; show _ + 1 ≤ 100000; omega), fun w nw => ?_⟩
      have xw := Ex.new (o := .lst (gs.map V.ref ++ [V.ref t])) nw
      have ee := xt.trans (xl.trans xw)
      have pD := ee _ _ p2
      have hw' : upd (upd (upd H' t (.tup [V.int (a : Int), .int ((es.length + 1 : Nat) : Int)])) l (.lst [V.ref t])) w (.lst (gs.map V.ref ++ [V.ref t])) w = some (.lst ((gs ++ [t]).map V.ref)) := by rw [upd_same, List.map_append]; rfl
      have ht' : upd (upd (upd H' t (.tup [V.int (a : Int), .int ((es.length + 1 : Nat) : Int)])) l (.lst [V.ref t])) w (.lst (gs.map V.ref ++ [V.ref t])) t = some (.tup [V.int (a : Int), .int ((es.length + 1 : Nat) : Int)]) := xw _ _ (xl _ _ upd_same)
      have nw5 := fresh_back p1 (fresh_back (xt.trans xl) nw)
      have nwD : w ≠ D := fun z => by
        rw [z, (xt.trans xl) _ _ p2] at nw
        cases nw
      have up : ∀ b u, b ≠ D → upd (upd (upd H' t (.tup [V.int (a : Int), .int ((es.length + 1 : Nat) : Int)])) l (.lst [V.ref t])) w (.lst (gs.map V.ref ++ [V.ref t])) b = some u → upd (upd (upd (upd H' t (.tup [V.int (a : Int), .int ((es.length + 1 : Nat) : Int)])) l (.lst [V.ref t])) w (.lst (gs.map V.ref ++ [V.ref t]))) D (.lst (ts.map V.ref ++ [V.ref w])) b = some u := fun b u nb q => by
        rw [upd_ne nb]
        exact q
      refine ⟨_, pD, ?_, ts ++ [w], Ex.mut (p1.trans ee) hD, ?_, ?_, ?_, ?_⟩
      · rw [List.length_map, lts]
        exact small1000 (by omega)
      · rw [upd_same, List.map_append]
        rfl
      · rw [take_snoc hg, List.map_append]
        refine Paired.snoc (trees_but pD up (trees_ex p3 ee) p4) ⟨gs ++ [t], up _ _ nwD hw', Paired.snoc (EdgesAt.mono (fun b xs q => up _ _ (fun z => ?_) (ee _ _ (p1 _ _ q))) hgs) (up _ _ (fun z => ?_) ht')⟩
        · have := (p1.trans ee) _ _ q
          rw [z, pD] at this
          cases this
        · rw [z, p2] at nt
          cases nt
      · intro hb
        rcases List.mem_append.mp hb with h | h
        · exact p4 h
        · exact nwD (List.mem_singleton.mp h).symm
      · intro b hb
        rcases List.mem_append.mp hb with h | h
        · exact p5 b h
        · rw [List.mem_singleton.mp h]
          exact nw5
    · obtain ⟨ts, p1, p2, p3, p4, p5⟩ := pp
      have lus : us.length = rows.length := Paired.length hu.2
      rw [List.length_map, lus, Paired.length hrel, List.take_length] at p3
      have lts : ts.length ≤ 16 := by
        rw [Paired.length p3, List.length_map, ← Paired.length hrel]
        exact lA
      have hptD := p1 _ _ hT5
      have np : pt ∉ ts := fun z => by
        have := p5 _ z
        rw [hT5] at this
        cases this
      have up : ∀ b u, b ≠ pt → H' b = some u → upd H' pt (.lst (bs.map V.ref ++ ts.map V.ref)) b = some u := fun b u nb q => by
        rw [upd_ne nb]
        exact q
      refine ⟨pt, D, bs.map V.ref, ts.map V.ref, rfl, rfl, hptD, p2, sz_of (by rw [List.length_map, List.length_map]; omega), bs ++ ts, _, _, rfl, Ex.mut (e3.trans (e34.trans (e45.trans p1))) npt, ?_, ?_, ?_, ?_⟩
      · rw [upd_same, List.map_append]
      · intro z
        rcases List.mem_append.mp z with h | h
        · exact ntb h
        · exact np h
      · rw [List.length_append]
        omega
      · rw [List.range_succ, List.flatMap_append, List.flatMap_cons, List.flatMap_nil, List.append_nil]
        exact paired_app (trees_but hptD up (trees_ex hbs (e34.trans (e45.trans p1))) ntb) (trees_but hptD up p3 np)
-- DEF is_net
def EvR (te : TE) (σ : L2.St) (H : Hp) (rows : List (List Int)) : Prop := ∀ H1, Ex H H1 → ∀ Q : VK, (∀ p as H2, Ex H1 H2 → Tab H2 p as rows → Q (.ref p) H2) → te σ H1 Q
theorem rv_eqT {K : PySem.W.Frag} {H : Hp} {p q : Addr} {as bs : List Addr} {rows : List (List Int)} (hp : Tab H p as rows) (hq : Tab H q bs rows) : RV (rEqD K) (.ref p) (.ref q) H (.bl true) := fun H1 e Q k => by
  have sh : SeqAt.shaped (.list (rows.map fun r => PyData.list (r.map PyData.int))) = true := shaped_list (canLay_rows rows) (Nat.le_trans (depth_rows rows) (by decide))
  refine ⟨_, _, .lst (SqL.of (e _ _ hp.1)) (dp_rows (hp.2.ex e)), .lst (SqL.of (e _ _ hq.1)) (dp_rows (hq.2.ex e)), sh, sh, ?_⟩
  rw [SeqAt.eqv_refl _ (SeqAt.canLay_of_shaped sh)]
  exact k H1 (Ex.refl _)
theorem ev_eqR {K : PySem.W.Frag} {ta tb : TE} {σ : L2.St} {H : Hp} {rows : List (List Int)} (ha : EvR ta σ H rows) (hb : EvR tb σ H rows) : Ev (tOp (rEqD K) ta tb) σ H (.bl true) := fun H1 e Q k =>
  ha H1 e _ fun p as H2 e2 hp => hb H2 (e.trans e2) _ fun q bs H3 e3 hq => rv_eqT (hp.ex e3) hq H3 (Ex.refl _) Q fun H4 e4 => k H4 ((e2.trans e3).trans e4)

theorem eqvI : ∀ xs ys : List Int, PyData.eqvAll (xs.map .int) (ys.map .int) = decide (xs = ys)
  | [], [] => rfl
  | [], _ :: _ => rfl
  | _ :: _, [] => rfl
  | x :: xs, y :: ys => by
    show (PyData.eqv (.int x) (.int y) && PyData.eqvAll (xs.map .int) (ys.map .int)) = _
    rw [eqvI xs ys]
    by_cases h : x = y
    · by_cases g : xs = ys
      · simp [PyData.eqv, h, g]
      · simp [PyData.eqv, h, g]
    · simp [PyData.eqv, h]
theorem eqvT : ∀ A B : List (List Int), PyData.eqvAll (A.map fun r => .list (r.map .int)) (B.map fun r => .list (r.map .int)) = decide (A = B)
  | [], [] => rfl
  | [], _ :: _ => rfl
  | _ :: _, [] => rfl
  | x :: xs, y :: ys => by
    show (PyData.eqvAll (x.map .int) (y.map .int) && PyData.eqvAll (xs.map fun r => PyData.list (r.map .int)) (ys.map fun r => PyData.list (r.map .int))) = _
    rw [eqvT xs ys, eqvI]
    by_cases h : x = y
    · by_cases g : xs = ys
      · simp [h, g]
      · simp [h, g]
    · simp [h]
theorem rv_eqG {K : PySem.W.Frag} {H : Hp} {p q : Addr} {as bs : List Addr} {A B : List (List Int)} (hp : Tab H p as A) (hq : Tab H q bs B) : RV (rEqD K) (.ref p) (.ref q) H (.bl (decide (A = B))) := fun H1 e Q k => by
  have sh : ∀ R : List (List Int), SeqAt.shaped (.list (R.map fun r => PyData.list (r.map PyData.int))) = true := fun R => shaped_list (canLay_rows R) (Nat.le_trans (depth_rows R) (by decide))
  refine ⟨_, _, .lst (SqL.of (e _ _ hp.1)) (dp_rows (hp.2.ex e)), .lst (SqL.of (e _ _ hq.1)) (dp_rows (hq.2.ex e)), sh A, sh B, ?_⟩
  have h2 : PyData.eqv (.list (A.map fun r => PyData.list (r.map PyData.int))) (.list (B.map fun r => PyData.list (r.map PyData.int))) = decide (A = B) := eqvT A B
  rw [h2]
  exact k H1 (Ex.refl _)
def sp_is_net (K : PySem.W.Frag) : Sp := fun vs H Q _ => ∃ (p t pe pa : Addr) (as0 as bs : List Addr) (rows : List (List Int)) (m w : Nat) (es qs : List (Int × Int)), vs = [.ref p, .ref t] ∧ TabOk H p as0 rows m w ∧ H t = some (.tup [.str "net", .ref pe, .ref pa]) ∧ H pe = some (.lst (as.map V.ref)) ∧ EdgesAt H as es ∧ H pa = some (.lst (bs.map V.ref)) ∧ EdgesAt H bs qs ∧ Tree es ∧ 1 ≤ qs.length ∧ qs.length ≤ 8 ∧ (∀ e ∈ qs, 0 ≤ e.1 ∧ e.1 ≤ es.length ∧ 0 ≤ e.2 ∧ e.2 ≤ es.length) ∧
  ∀ H', Ex H H' → Q (.bl (decide (netT es qs = rows))) H'

theorem ok_is_net (T : Txt K mg) : FnOk P w K mg base CX0 6 T.f_is_net T.fd_is_net ["table", "thing"] (sp_is_net K) := by
  refine Fun.ok T.F_is_net sc_is_net (fun vs H Q E h => ?_) (fun cdv A outer s H vs Q E hr h => ?_)
  · obtain ⟨_, _, _, _, _, _, _, _, _, _, _, _, rfl, _⟩ := h; rfl
  · refine ⟨_, (pss_cons (ps_expr (pe_call (ok_check_table T) (hr.mono (by decide)) (by rfl) T.g_check_table T.k_check_table T.b_check_table .nil pass0 (pa_cons (pv 0) pa_nil)))
      (pss_cons (ps_if (PW.pt (pw_or (pt_not (pt_val (pe_callB (id := "isinstance") (r := rIsi K) call_isi (by rfl) T.n_isinstance (by decide +kernel) (pa_cons (pv 1) (pa_cons (pe_bltn (v := .ty "tuple") (by rfl) T.n_tuple (by decide +kernel) rfl) pa_nil))))) (pw_or1 (pt_cmpR op_ne (pe_callB (id := "len") (r := rLenS K) call_len_seq (by rfl) T.n_len PySem.boot_len (pa_cons (pv 1) pa_nil)) pe_int (nomark _)))))
        (pss_one (ps_ret pe_bl))
        pss_nil)
      (pss_cons (ps_asg (pv 1) (pg_tup rfl (pgs_cons (pg_name (i := 2) sc_is_net.nd rfl (by first | exact Or.inl rfl | exact Or.inr rfl)) (pgs_cons (pg_name (i := 3) sc_is_net.nd rfl (by first | exact Or.inl rfl | exact Or.inr rfl)) (pgs_cons (pg_name (i := 4) sc_is_net.nd rfl (by first | exact Or.inl rfl | exact Or.inr rfl)) pgs_nil)))))
      (pss_cons (ps_if (PW.pt (pw_or (pt_not (pt_val (pe_callB (id := "isinstance") (r := rIsi K) call_isi (by rfl) T.n_isinstance (by decide +kernel) (pa_cons (pv 2) (pa_cons (pe_bltn (v := .ty "str") (by rfl) T.n_str (by decide +kernel) rfl) pa_nil))))) (pw_or1 (pt_cmpR op_ne (pv 2) pe_str (nomark _)))))
        (pss_one (ps_ret pe_bl))
        pss_nil)
      (pss_cons (TryC.ps_try_calm (fun pn xe => (pss_one (ps_set (i := 5) sc_is_net.nd rfl (by first | exact Or.inl rfl | exact Or.inr rfl) (pe_call (ok_net_table T) hr (by rfl) T.g_net_table T.k_net_table T.b_net_table .nil pass0 (pa_cons (pv 3) (pa_cons (pv 4) pa_nil)))))))
      (pss_one (ps_ret (pe_cmpR (r := rEqD K) (op_eqD hr.units) (pv 5) (pv 0) (nomark _))))))))), ?_⟩
    obtain ⟨p, t, pe, pa, as0, as, bs, rows, m, w, es, qs, rfl, hT, ht, hpe, hE, hpa, hA, T0, q1, q8, hq, k⟩ := h
    refine ⟨_, rfl, p, as0, rows, m, w, rfl, hT, fun H1 e1 => ?_⟩
    have ht1 := e1 _ _ ht
    refine q_when (σ := [some (.ref p), some (.ref t), none, none, none, none]) (b := false) (et_is (et_or (a := false) (b := false) (et_is (et_not (et_B (b := true) (ev_isi (t := "tuple") (b := true) (ev_var (i := 1) rfl) ev_c (fun H1 e => .base (.tup (e _ _ ht1))) (by decide +kernel)))) rfl) (fun _ => et_is (et_test (ev_op (ev_lenT (ev_var (i := 1) rfl) (SqT.of ht1)) ev_c (rv_ne rfl))) rfl)) rfl) (fun z => nomatch z) fun _ H2 e2 => ?_
    have ht2 := e2 _ _ ht1
    refine ⟨_, rfl, t, _, rfl, SqT.of ht2, rfl, _, _, rfl, _, _, rfl, _, _, rfl, rfl, ?_⟩
    refine q_when (σ := [some (.ref p), some (.ref t), some (.str "net"), some (.ref pe), some (.ref pa), none]) (b := false) (et_is (et_or (a := false) (b := false) (et_is (et_not (et_B (b := true) (ev_isi (t := "str") (b := true) (ev_var (i := 2) rfl) ev_c (fun H1 e => .base (.str _)) (by decide +kernel)))) rfl) (fun _ => et_is (et_test (ev_op (ev_var (i := 2) rfl) ev_c (rv_ne rfl))) (by rw [decide_eq_true rfl]; rfl))) rfl) (fun z => nomatch z) fun _ H3 e3 => ?_
    have e13 := e1.trans (e2.trans e3)
    refine ⟨_, rfl, _, rfl, pe, pa, as, bs, es, qs, rfl, e13 _ _ hpe, hE.exx e13, e13 _ _ hpa, hA.exx e13, T0, q1, q8, hq, fun c cs H4 nc ncs cn e4 hc => ?_⟩
    have e14 := e13.trans e4
    exact s_ret (ev_op (ev_var (i := 5) rfl) (ev_var (i := 0) rfl) (rv_eqG hc (hT.ex e14).tab)) fun H5 e5 => k H5 (e14.trans e5)
-- DEF tree_for
theorem el_colB {K : PySem.W.Frag} {n : Nat} {te : TE} {vs : List Nat} {j : Nat} {σ : L2.St} {H : Hp} {a : Addr} {bs : List Addr} {qs : List (List Int)} (f : List Int → Bool) (hσ : σ[n]? = some (some (.ref a))) (hx : H a = some (.lst (bs.map V.ref))) (hE : RowsAt H bs qs) (hz : qs.length ≤ 1000)
    (hw : ∀ u, wipe ((wipe σ vs).set j (some u)) vs = wipe σ vs)
    (he : ∀ b r H1, r ∈ qs → H b = some (.lst (r.map V.int)) → Ex H H1 → Ev te ((wipe σ vs).set j (some (.ref b))) H1 (.bl (f r))) : EvL (tLc (iList K (tVar n)) (gName j) tYes te vs) σ H ((qs.map f).map V.bl) := fun H1 e1 Q q => by
  have hx1 := e1 _ _ hx
  have el : bs.length = qs.length := Paired.length hE
  refine ⟨_, hσ, a, rfl, ⟨_, SqL.of hx1⟩, fun D hD => ?_⟩
  refine lc_list (K := K) (a := a) (xs := bs.map V.ref) (fun i H' => Ex H1 H' ∧ H' D = some (.lst (((qs.map f).take i).map V.bl))) ⟨Ex.new hD, upd_same⟩ (fun i H' _ p => SqL.of (p.1 _ _ hx1)) (fun i x H' gx p => ?_) (fun H' p => ?_)
  · obtain ⟨p1, p2⟩ := p
    rw [List.getElem?_map] at gx
    obtain ⟨b, hb, rfl⟩ := Option.map_eq_some_iff.mp gx
    obtain ⟨ed, hed, hr⟩ := paired_get hE hb
    refine ⟨hw _, ?_⟩
    show te _ _ _
    refine he b ed H (List.mem_of_getElem? hed) hr (Ex.refl H) _ (e1.trans p1) _ fun H4 e4 => ?_
    refine ⟨_, e4 _ _ p2, ?_, Ex.mut (p1.trans e4) hD, ?_⟩
    · rw [List.length_map, List.length_take, List.length_map]
      exact small1000 (by omega)
    · have hzz : (qs.map f)[i]? = some (f ed) := by rw [List.getElem?_map, hed]; rfl
      rw [upd_same, take_snoc hzz, List.map_append]
      rfl
  · obtain ⟨p1, p2⟩ := p
    rw [List.take_of_length_le (by rw [List.length_map, List.length_map]; omega)] at p2
    exact q D H' hD p1 p2

theorem for_call {K : PySem.W.Frag} {sp : Sp} {E : XK} {te : TE} {g : TG} {tb : TS} {D : Ends} {σ : L2.St} {H : Hp} (h : te σ H fun v H1 => sp [v] H1 (fun v2 H3 => tFor (iList K (tC v2)) g tb D σ H3) E) : tFor (iList K (tCall sp [] E (tCons te tNil))) g tb D σ H := h
theorem ev_allL {K : PySem.W.Frag} {ta : TE} {σ : L2.St} {H : Hp} {bs : List Bool} (h : EvL ta σ H (bs.map V.bl)) : Ev (tCB (rAll K) (tCons ta tNil)) σ H (.bl (bs.all id)) := fun H1 e Q q => h H1 e _ fun p H2 _ e2 hp => ⟨p, bs, rfl, SqL.of hp, q H2 e2⟩
def InB (es : List (Int × Int)) : Prop := ∀ e ∈ es, 0 ≤ e.1 ∧ e.1 ≤ es.length ∧ 0 ≤ e.2 ∧ e.2 ≤ es.length
theorem mem_of_pair {α β : Type} {R : α → β → Prop} : ∀ {xs : List α} {ys : List β} {x : α}, Paired R xs ys → x ∈ xs → ∃ y ∈ ys, R x y
  | _, _, _, .nil, h => nomatch h
  | _, _, _, .cons r t, h => by
    rcases List.mem_cons.mp h with rfl | h
    · exact ⟨_, .head _, r⟩
    · obtain ⟨y, hy, r'⟩ := mem_of_pair t h
      exact ⟨y, .tail _ hy, r'⟩
theorem grown_ok {es g : List (Int × Int)} (hb : InB es) (hg : g ∈ Af.grown es) : g.length = es.length + 1 ∧ InB g := by
  unfold Af.grown at hg
  obtain ⟨i, hi, hg⟩ := List.mem_flatMap.mp hg
  have i1 := List.mem_range.mp hi
  unfold Af.grownAt at hg
  obtain ⟨r, hr, rfl⟩ := List.mem_map.mp hg
  have pr := LsA.allL_each _ _ rfl r hr
  have lr : r.length = es.length := by rw [Paired.length pr, List.length_map]
  have lg : (r ++ [((i : Int), ((es.length + 1 : Nat) : Int))]).length = es.length + 1 := by
    rw [List.length_append, lr]
    rfl
  refine ⟨lg, fun e he => ?_⟩
  rw [lg]
  rcases List.mem_append.mp he with h | h
  · obtain ⟨w, hw, hew⟩ := mem_of_pair pr h
    obtain ⟨e0, he0, rfl⟩ := List.mem_map.mp hw
    have b0 := hb e0 he0
    unfold Af.ways at hew
    split at hew
    · rcases List.mem_cons.mp hew with rfl | hew
      · omega
      · rw [List.mem_singleton.mp hew]
        unfold mv
        split
        · show 0 ≤ ((es.length + 1 : Nat) : Int) ∧ ((es.length + 1 : Nat) : Int) ≤ ((es.length + 1 : Nat) : Int) ∧ 0 ≤ e0.2 ∧ e0.2 ≤ ((es.length + 1 : Nat) : Int)
          omega
        · show 0 ≤ e0.1 ∧ e0.1 ≤ ((es.length + 1 : Nat) : Int) ∧ 0 ≤ ((es.length + 1 : Nat) : Int) ∧ ((es.length + 1 : Nat) : Int) ≤ ((es.length + 1 : Nat) : Int)
          omega
    · rw [List.mem_singleton.mp hew]
      omega
  · rw [List.mem_singleton.mp h]
    show 0 ≤ (i : Int) ∧ (i : Int) ≤ ((es.length + 1 : Nat) : Int) ∧ 0 ≤ ((es.length + 1 : Nat) : Int) ∧ ((es.length + 1 : Nat) : Int) ≤ ((es.length + 1 : Nat) : Int)
    omega
def FoundV (H : Hp) (v : V) (m : Nat) : Prop := v = .non ∨ ∃ a bs fs, v = .ref a ∧ H a = some (.lst (bs.map V.ref)) ∧ EdgesAt H bs fs ∧ fs.length = m ∧ InB fs
theorem FoundV.ex {H H' : Hp} {v : V} {m : Nat} (h : FoundV H v m) (e : Ex H H') : FoundV H' v m := by
  rcases h with h | ⟨a, bs, fs, h0, h1, h2, h3, h4⟩
  · exact .inl h
  · exact .inr ⟨a, bs, fs, h0, e _ _ h1, h2.exx e, h3, h4⟩
def arcTo (es : List (Int × Int)) (c : List Int) : Option (Int × Int) := Af.arcOf (Af.overL (Af.zero (es.length + 1)) es c)

def sp_tree_for (K : PySem.W.Frag) (N : Nat) : Sp := fun vs H Q _ => ∃ (p q : Addr) (as cs : List Addr) (cols : List (List Int)) (es : List (Int × Int)) (m : Nat), vs = [.ref q, .int m, .ref p] ∧ H p = some (.lst (as.map V.ref)) ∧ EdgesAt H as es ∧ es.length ≤ m ∧ m ≤ 5 ∧ m - es.length < N ∧ Tab H q cs cols ∧ (∀ c ∈ cols, c.length = m) ∧ cols.length ≤ 8 ∧ InB es ∧
  ∀ v H', Ex H H' → FoundV H' v m → Q v H'
theorem zero_tree_for {K : PySem.W.Frag} {vs : List V} {H : Hp} {Q : VK} {E : XK} (h : sp_tree_for K 0 vs H Q E) : False := by
  obtain ⟨_, _, _, _, _, _, _, _, _, _, _, _, hn, _⟩ := h
  exact absurd hn (Nat.not_lt_zero _)

theorem okr_tree_for (T : Txt K mg) : ∀ n : Nat, FnOk P w K mg base CX0 (n + 3) T.f_tree_for T.fd_tree_for ["columns", "many", "ends"] (sp_tree_for K n)
  | 0 => ⟨fun vs H Q E h => (zero_tree_for h).elim, fun A outer s H args us vs Q E hr e0 hb r h => (zero_tree_for h).elim⟩
  | n + 1 => by
    have ih := okr_tree_for T n
    refine Fun.ok T.F_tree_for sc_tree_for (fun vs H Q E h => ?_) (fun cdv A outer s H vs Q E hr h => ?_)
    · obtain ⟨_, _, _, _, _, _, _, rfl, _⟩ := h; rfl
    · refine ⟨_, (pss_cons (ps_if (pt_cmpR op_eq (pe_callB (id := "len") (r := rLenS K) call_len_seq (by rfl) T.n_len PySem.boot_len (pa_cons (pv 2) pa_nil)) (pv 1) (nomark _))
        (pss_one (ps_ret (pv 2)))
        pss_nil)
      (pss_cons (ps_for PassesOwn.never rfl (pi_list (pe_call (ok_all_grown T) (hr.mono (by omega)) (by rfl) T.g_all_grown T.k_all_grown T.b_all_grown .nil pass0 (pa_cons (pv 2) pa_nil))) (pg_name (i := 3) sc_tree_for.nd rfl (by first | exact Or.inl rfl | exact Or.inr rfl))
        (pss_one (ps_if (pt_val (pe_callB (id := "all") (r := rAll K) (cr_all rfl) (by rfl) T.n_all (by decide +kernel) (pa_cons (pe_lc (own := [("column", 5)]) (wi := iList K _) (g := gName 5) (tt := tYes) rfl sc_tree_for.nd (pi_list (pv 0)) (blkOk_by (N := ["columns", "many", "ends", "grown", "found", "column"]) (sc := (defScope s_tree_for)) (by decide +kernel)) (fun _ _ _ _ _ => pg_name (i := 5) sc_tree_for.nd rfl (Or.inl rfl)) (fun _ _ _ _ _ => pts_nil) (fun _ _ _ _ _ => (pe_cmpR op_notN (pe_call (ok_arc_for T) (hr.mono (by omega)) (by rfl) T.g_arc_for T.k_arc_for T.b_arc_for .nil pass0 (pa_cons (pv 3) (pa_cons (pv 5) pa_nil))) pe_non (nomark _)))) pa_nil)))
            (pss_cut (ps_set (i := 4) sc_tree_for.nd rfl (by first | exact Or.inl rfl | exact Or.inr rfl) (pe_call ih hr (by rfl) T.g_tree_for T.k_tree_for T.b_tree_for .nil pass0 (pa_cons (pv 0) (pa_cons (pv 1) (pa_cons (pv 3) pa_nil)))))
              (pss_one (ps_if (pt_cmpR op_notN (pv 4) pe_non (nomark _))
                (pss_one (ps_ret (pv 4)))
                pss_nil)))
            pss_nil)))
      (pss_one (ps_ret pe_non)))), ?_⟩
      obtain ⟨p, q, as, cs, cols, es, m, rfl, hp, hE, em, m5, hN, hq, hc, c8, hb, k⟩ := h
      have el : as.length = es.length := Paired.length hE
      refine q_when (σ := [some (.ref q), some (.int m), some (.ref p), none, none, none]) (b := decide (es.length = m)) (et_is (et_test (ev_op (ev_is (ev_len (ev_var (i := 2) rfl) (SqL.of hp)) (by rw [List.length_map, el])) (ev_var (i := 1) rfl) (rv_eq rfl))) (dec_natT es.length m)) (fun z H1 e1 => ?_) (fun z H1 e1 => ?_)
      · exact s_ret (ev_var (i := 2) rfl) fun H2 e2 => k (.ref p) H2 (e1.trans e2) (.inr ⟨p, as, es, rfl, (e1.trans e2) _ _ hp, hE.exx (e1.trans e2), of_decide_eq_true z, hb⟩)
      have z := of_decide_eq_false z
      refine for_call (σ := [some (.ref q), some (.int m), some (.ref p), none, none, none]) ?_
      refine ⟨_, rfl, p, as, es, rfl, e1 _ _ hp, hE.exx e1, by omega, fun u us H2 nu e2 hu => ?_⟩
      have e12 := e1.trans e2
      refine ⟨u, rfl, ⟨_, SqL.of hu.1⟩, for_list (K := K) (a := u) (xs := us.map V.ref) (fun i σ' H' => ∃ y3 y4 : Option V, σ' = [some (.ref q), some (.int m), some (.ref p), y3, y4, none] ∧ Ex H2 H') ⟨_, _, rfl, Ex.refl _⟩ (fun i σ' H' _ ⟨_, _, _, h⟩ => SqL.of (h _ _ hu.1)) (fun i x σ' H3 hx hP => ?_) (fun σ' H3 hP => ?_)⟩
      rotate_left
      · obtain ⟨y3, y4, rfl, e3⟩ := hP
        exact k .non H3 (e12.trans e3) (.inl rfl)
      obtain ⟨y3, y4, rfl, e3⟩ := hP
      rw [List.getElem?_map] at hx
      obtain ⟨a, ha, rfl⟩ := Option.map_eq_some_iff.mp hx
      obtain ⟨g, hg, bs, h1, h2⟩ := paired_get hu.2 ha
      obtain ⟨lg, bg⟩ := grown_ok hb (List.mem_of_getElem? hg)
      have e13 := e12.trans e3
      have hq3 := hq.ex e13
      refine s_when (σ := [some (.ref q), some (.int m), some (.ref p), some (.ref a), y4, none]) (b := (cols.map fun c => (arcTo g c).isSome).all id) (et_B (ev_allL (el_colB (K := K) (n := 0) (vs := [5]) (j := 5) (fun c => (arcTo g c).isSome) rfl hq3.1 hq3.2 (by omega) (fun u => rfl) (fun b r H4 hr hbr e4 => fun H5 e5 Q5 q5 => ?_)))) (fun z2 H4 e4 => ?_) (fun z2 H4 e4 => ⟨_, _, rfl, e3.trans e4⟩)
      · have e35 := e4.trans e5
        refine ⟨_, rfl, _, rfl, a, b, bs, g, r, rfl, (e3.trans e35) _ _ h1, h2.exx (e3.trans e35), by omega, bg, e35 _ _ hbr, by rw [hc r hr]; omega, fun v H6 e6 hv => ⟨rfl, ?_⟩⟩
        show Q5 (.bl (!decide (v = .non))) H6
        have : (!decide (v = .non)) = (arcTo g r).isSome := by
          unfold arcTo
          cases ho : Af.arcOf (Af.overL (Af.zero (g.length + 1)) g r) with
          | none =>
            rw [ho] at hv
            have hv : v = .non := hv
            rw [hv]
            rfl
          | some e =>
            rw [ho] at hv
            obtain ⟨t, rfl, _⟩ := hv
            rfl
        rw [this]
        exact q5 H6 e6
      dsimp only
      have e14 := e3.trans e4
      refine ⟨fun σ' H' => ∃ v : V, σ' = [some (.ref q), some (.int m), some (.ref p), some (.ref a), some v, none] ∧ Ex H4 H' ∧ FoundV H' v m, ?_, ?_⟩
      · exact ⟨_, rfl, _, rfl, _, rfl, a, q, bs, cs, cols, g, m, rfl, e14 _ _ h1, h2.exx e14, by omega, m5, by omega, hq.ex (e12.trans e14), hc, c8, bg, fun v H5 e5 hv => ⟨v, rfl, e5, hv⟩⟩
      rintro σ' H5 ⟨v, rfl, e5, hv⟩
      refine s_when (σ := [some (.ref q), some (.int m), some (.ref p), some (.ref a), some v, none]) (b := !decide (v = .non)) (et_test (ev_op (ev_var (i := 4) rfl) ev_c (fun G g Q1 k1 => ⟨rfl, k1 G (Ex.refl _)⟩))) (fun z3 H6 e6 => ?_) (fun z3 H6 e6 => ⟨_, _, rfl, e14.trans (e5.trans e6)⟩)
      exact s_ret (ev_var (i := 4) rfl) fun H7 e7 => k v H7 (e12.trans (e14.trans (e5.trans (e6.trans e7)))) (hv.ex (e6.trans e7))
theorem ok_tree_for (T : Txt K mg) : FnOk P w K mg base CX0 9 T.f_tree_for T.fd_tree_for ["columns", "many", "ends"] (sp_tree_for K 6) := okr_tree_for T 6
-- DEF as_net

/-- [f(row) for row in table], whatever it tells -/
theorem lc_any {K : PySem.W.Frag} {nn j : Nat} {te : TE} {vs : List Nat} {σ : L2.St} {H : Hp} {Q : VK} {a : Addr} {as0 : List Addr} {rows : List (List Int)} (hσ : σ[nn]? = some (some (.ref a))) (ha : H a = some (.lst (as0.map V.ref))) (hE : RowsAt H as0 rows) (hm : rows.length ≤ 1000) (hw : ∀ u, wipe ((wipe σ vs).set j (some u)) vs = wipe σ vs)
    (he : ∀ c r H1, r ∈ rows → H1 c = some (.lst (r.map V.int)) → Ex H H1 → ∀ Q1 : VK, (∀ v H2, Ex H1 H2 → Q1 v H2) → te ((wipe σ vs).set j (some (.ref c))) H1 Q1)
    (k : ∀ D xs H2, H D = none → Ex H H2 → H2 D = some (.lst xs) → Q (.ref D) H2) : tLc (iList K (tVar nn)) (gName j) tYes te vs σ H Q := by
  refine ⟨_, hσ, a, rfl, ⟨_, SqL.of ha⟩, fun D hD => ?_⟩
  refine lc_list (K := K) (a := a) (xs := as0.map V.ref) (fun i H' => ∃ xs : List V, Ex H H' ∧ H' D = some (.lst xs) ∧ xs.length = i) ⟨[], Ex.new hD, upd_same, rfl⟩ (fun i H' _ ⟨_, p1, _⟩ => SqL.of (p1 _ _ ha)) (fun i x H' gx p => ?_) (fun H' p => ?_)
  · obtain ⟨xs, p1, p2, p3⟩ := p
    rw [List.getElem?_map] at gx
    obtain ⟨c0, hc0, rfl⟩ := Option.map_eq_some_iff.mp gx
    obtain ⟨y, hy, hh⟩ := paired_get hE hc0
    have hi := (List.getElem?_eq_some_iff.mp hy).1
    refine ⟨hw _, ?_⟩
    show te _ _ _
    refine he c0 y H' (List.mem_of_getElem? hy) (p1 _ _ hh) p1 _ fun v H4 e4 => ⟨_, e4 _ _ p2, small1000 (by omega), xs ++ [v], Ex.mut (p1.trans e4) hD, upd_same, ?_⟩
    rw [List.length_append, p3]
    rfl
  · obtain ⟨xs, p1, p2, p3⟩ := p
    exact k D xs H' hD p1 p2
theorem transp_dims {rows : List (List Int)} {w : Nat} : (transp rows w).length = w ∧ ∀ c ∈ transp rows w, c.length = rows.length := by
  unfold transp
  refine ⟨by rw [List.length_map, List.length_range], fun c hc => ?_⟩
  obtain ⟨j, _, rfl⟩ := List.mem_map.mp hc
  rw [List.length_map]
def sp_as_net (K : PySem.W.Frag) (C : Addr) : Sp := fun vs H Q E => ∃ (p : Addr) (as : List Addr) (rows : List (List Int)) (m w : Nat), vs = [.ref p] ∧ TabOk H p as rows m w ∧ (6 ≤ m → RaiseTM C H 5 E) ∧ (m ≤ 5 → ∀ v H', Ex H H' → Q v H')

theorem ok_as_net (T : Txt K mg) : FnOk P w K mg base (L2.CX P w) 10 T.f_as_net T.fd_as_net ["table"] (sp_as_net K T.f_TooMany) := by
  refine Fun.okX T.F_as_net sc_as_net (fun vs H Q E h => ?_) (fun cdv A outer s H vs Q E hr h => ?_)
  · obtain ⟨_, _, _, _, _, rfl, _⟩ := h; rfl
  · refine ⟨_, (pss_cons (ps_expr (pe_call (ok_check_table T) (hr.mono (by decide)) (by rfl) T.g_check_table T.k_check_table T.b_check_table .nil pass0 (pa_cons (pv 0) pa_nil)))
      (pss_cons (ps_if (pt_cmpR op_gt (pe_callB (id := "len") (r := rLenS K) call_len_seq (by rfl) T.n_len PySem.boot_len (pa_cons (pv 0) pa_nil)) (pe_glob (v := .int 5) (by rfl) T.g_MOST_ROWS ⟨_, rfl⟩) (nomark _))
        (pss_one (ps_raise rfl (takes_of rfl rfl rfl rfl) (pmk_ownA T.own_TooMany T.i_TooMany T.ty_TooMany (ok_init_TooMany T) (hr.mono (by decide)) T.b_init_TooMany pass0 (by rfl) T.g_TooMany (pa_cons (pe_glob (v := .int 5) (by rfl) T.g_MOST_ROWS ⟨_, rfl⟩) pa_nil))))
        pss_nil)
      (pss_cons (ps_set (i := 1) sc_as_net.nd rfl (by first | exact Or.inl rfl | exact Or.inr rfl) (pe_call (ok_turned T) (hr.mono (by decide)) (by rfl) T.g_turned T.k_turned T.b_turned .nil pass0 (pa_cons (pv 0) pa_nil)))
      (pss_cut (ps_set (i := 2) sc_as_net.nd rfl (by first | exact Or.inl rfl | exact Or.inr rfl) (pe_call (ok_tree_for T) hr (by rfl) T.g_tree_for T.k_tree_for T.b_tree_for .nil pass0 (pa_cons (pv 1) (pa_cons (pe_callB (id := "len") (r := rLenS K) call_len_seq (by rfl) T.n_len PySem.boot_len (pa_cons (pv 0) pa_nil)) (pa_cons (pe_lst pa_nil) pa_nil)))))
      (pss_cons (ps_if (pt_cmpR op_isN (pv 2) pe_non (nomark _))
        (pss_one (ps_ret pe_non))
        pss_nil)
      (pss_one (ps_ret (pe_tup (pa_cons pe_str (pa_cons (pv 2) (pa_cons (pe_lc (own := [("column", 3)]) (wi := iList K _) (g := gName 3) (tt := tYes) rfl sc_as_net.nd (pi_list (pv 1)) (blkOk_by (N := ["table", "columns", "ends", "column"]) (sc := (defScope s_as_net)) (by decide +kernel)) (fun _ _ _ _ _ => pg_name (i := 3) sc_as_net.nd rfl (Or.inl rfl)) (fun _ _ _ _ _ => pts_nil) (fun _ _ _ _ _ => (pe_call (ok_arc_for T) (hr.mono (by decide)) (by rfl) T.g_arc_for T.k_arc_for T.b_arc_for .nil pass0 (pa_cons (pv 2) (pa_cons (pv 3) pa_nil))))) pa_nil))))))))))), ?_⟩
    obtain ⟨p, as, rows, m, w, rfl, hT, kE, kQ⟩ := h
    have al := hT.al
    have hd := hT.b
    refine ⟨_, rfl, p, as, rows, m, w, rfl, hT, fun H1 e1 => ?_⟩
    dsimp only
    refine q_when (σ := [some (.ref p), none, none, none]) (b := decide ((5 : Int) < m)) (et_test (ev_op (ev_is (ev_len (ev_var (i := 0) rfl) (SqL.of (e1 _ _ hT.tab.1))) (by rw [List.length_map, al])) ev_c (rv_I0 (g := fun i j => .bl (decide (j < i)))))) (fun z H2 e2 => ?_) (fun z H2 e2 => ?_)
    · have z := of_decide_eq_true z
      exact tm_made T.own_TooMany T.no_TooMany (by decide) (RaiseTM.ex (kE (by omega)) (e1.trans e2))
    have z := of_decide_eq_false z
    have m5 : m ≤ 5 := by omega
    have k := kQ m5
    have e12 := e1.trans e2
    refine ⟨_, rfl, p, as, rows, m, w, rfl, hT.ex e12, fun q bs H3 nq nbs _ _ e3 h3 => ?_⟩
    obtain ⟨tl, tc⟩ := transp_dims (rows := rows) (w := w)
    have e13 := e12.trans e3
    refine ⟨fun σ' H' => ∃ v : V, σ' = [some (.ref p), some (.ref q), some v, none] ∧ Ex H3 H' ∧ FoundV H' v m, ?_, ?_⟩
    · refine ⟨_, rfl, _, rfl, p, _, rfl, .inl (SqL.of (e13 _ _ hT.tab.1)), (by show 0 ≤ sizeLine; decide), fun pl npl => ?_⟩
      have xl := Ex.new (o := .lst []) npl
      refine ⟨pl, q, [], bs, transp rows w, [], m, by rw [List.length_map, al]; rfl, upd_same, .nil, Nat.zero_le _, m5, by show m - 0 < 6; omega, h3.ex xl, fun c hc => by rw [tc c hc, hT.m_], by rw [tl]; omega, fun e he => (nomatch he), fun v H4 e4 hv => ⟨v, rfl, xl.trans e4, hv⟩⟩
    rintro σ' H4 ⟨v, rfl, e4, hv⟩
    have e14 := e13.trans e4
    refine q_when (σ := [some (.ref p), some (.ref q), some v, none]) (b := decide (v = .non)) (et_test (ev_op (ev_var (i := 2) rfl) ev_c (fun G g Q1 k1 => ⟨rfl, k1 G (Ex.refl _)⟩))) (fun z3 H5 e5 => ?_) (fun z3 H5 e5 => ?_)
    · exact s_ret ev_c fun H6 e6 => k _ H6 (e14.trans (e5.trans e6))
    have z3 := of_decide_eq_false z3
    rcases hv.ex e5 with rfl | ⟨a, as', es, rfl, ha, hE, el, hb⟩
    · exact absurd rfl z3
    have e15 := e14.trans e5
    have h35 := h3.ex (e4.trans e5)
    refine ⟨_, rfl, lc_any (K := K) (nn := 1) (j := 3) (vs := [3]) (σ := [some (.ref p), some (.ref q), some (.ref a), none]) rfl h35.1 h35.2 (by rw [tl]; omega) (fun u => rfl) (fun c r H6 hr hc e6 Q1 q1 => ?_) (fun D xs H6 nD e6 hD => ⟨(by show 3 ≤ sizeLine; decide), fun t nt => k _ _ ((e15.trans e6).trans (Ex.new nt))⟩)⟩
    exact ⟨_, rfl, _, rfl, a, c, as', es, r, rfl, e6 _ _ ha, hE.exx e6, by omega, hb, hc, by rw [tc r hr, hT.m_, el]; exact Nat.le_refl _, fun v H7 e7 _ => q1 v H7 e7⟩
-- DEF _law_said
theorem ev_isA {K : PySem.W.Frag} {σ : L2.St} {H : Hp} {ta tb : TE} {a D C dd : Addr} {fs : List (Str × V)} {b : Bool} (ha : Ev ta σ H (.ref a)) (hb : Ev tb σ H (.ref C)) (ec : ExcC K D) (hk : PySem.W.kitOne K (.ref D) (.ref C) = some b) (hd : H dd = some (.xd fs)) :
    Ev (tCB (rIsA K (.ref D) (some dd) a) (tCons ta (tCons tb tNil))) σ H (.bl b) := fun H1 e Q q =>
  ha H1 e _ fun H2 e2 => hb H2 (e.trans e2) _ fun H3 e3 => ⟨D, .ref C, .ref C, b, rfl, ec, rfl, fun u r => r, hk, .inr ⟨dd, fs, rfl, ((e.trans e2).trans e3) _ _ hd⟩, q H3 (e2.trans e3)⟩
theorem ev_xf {σ : L2.St} {H : Hp} {ta : TE} {a C dd : Addr} {fs : List (Str × V)} {f : Str} {v : V} (ha : Ev ta σ H (.ref a)) (hd : H dd = some (.xd fs)) (hl : fs.lookup f = some v) : Ev (tXf a (.ref C) (some dd) C f ta) σ H v := fun H1 e Q q =>
  ha H1 e _ fun H2 e2 => ⟨rfl, rfl, dd, fs, v, rfl, (e.trans e2) _ _ hd, hl, q H2 e2⟩

def sp__law_said (K : PySem.W.Frag) : Sp := fun vs H Q _ => ∃ (p : Addr) (as : List Addr) (rows : List (List Int)) (m w : Nat), vs = [.ref p] ∧ TabOk H p as rows m w ∧ ∀ H', Ex H H' → Q (if m ≤ 5 then .str "told" else .int 5) H'

theorem ok__law_said (T : Txt K mg) : FnOk P w K mg base CX0 11 T.f__law_said T.fd__law_said ["_law_table"] (sp__law_said K) := by
  refine Fun.ok T.F__law_said sc__law_said (fun vs H Q E h => ?_) (fun cdv A outer s H vs Q E hr h => ?_)
  · obtain ⟨_, _, _, _, _, rfl, _⟩ := h; rfl
  · refine ⟨_, (pss_cons (ps_set (i := 1) sc__law_said.nd rfl (by first | exact Or.inl rfl | exact Or.inr rfl) pe_str)
      (pss_cons (ps_try_as (i := 2) rfl rfl sc__law_said.nd rfl rfl ⟨by rfl, by decide, .inl T.g_SignError⟩ LamX.takes0 (fun W pn xe tk _ => (pss_one (ps_expr (pe_callS (ok_as_net T) hr (by rfl) T.g_as_net T.k_as_net T.b_as_net (passAt tk) (pa_cons (pv 0) pa_nil))))) (fun a oe cls d pn hz hf => (pss_cons (ps_set (i := 1) sc__law_said.nd rfl (by first | exact Or.inl rfl | exact Or.inr rfl) pe_str)
          (pss_one (ps_if (PW.pt (pw_and (pt_val (pe_callB (id := "isinstance") (r := rIsA K cls d a) (call_isA hz hf) (by rfl) T.n_isinstance (by decide +kernel) (pa_cons (pv 2) (pa_cons (pe_glob (v := .ref T.f_TooMany) (by rfl) T.g_TooMany rfl) pa_nil)))) (pw_and1 (pt_not (pt_val (pe_callB (id := "isinstance") (r := rIsAT K cls d a) (call_isAT hz hf) (by rfl) T.n_isinstance (by decide +kernel) (pa_cons (pv 2) (pa_cons (pe_tup (pa_cons (pe_glob (v := .ref T.f_BadTable) (by rfl) T.g_BadTable rfl) (pa_cons (pe_glob (v := .ref T.f_NoTree) (by rfl) T.g_NoTree rfl) pa_nil))) pa_nil))))))))
            (pss_one (ps_set (i := 1) sc__law_said.nd rfl (by first | exact Or.inl rfl | exact Or.inr rfl) (pe_xf T.xf_TooMany T.no_TooMany hz hf (pv 2))))
            pss_nil)))))
      (pss_one (ps_ret (pv 1))))), ?_⟩
    obtain ⟨p, as, rows, m, w, rfl, hT, k⟩ := h
    refine ⟨_, rfl, p, as, rows, m, w, rfl, hT, fun h6 => ?_, fun h5 v H' e' => ?_⟩
    rotate_left
    · rw [if_pos h5] at k
      exact ⟨_, rfl, k H' e'⟩
    rw [if_neg (by omega)] at k
    refine fun d H' e' hd => ⟨true, T.exm_TooMany, fun _ a ha => ?_, fun z => nomatch z⟩
    refine s_when (b := true) (et_is (et_and (et_B (ev_isA (ev_var rfl) ev_c T.ec_TooMany T.kit_TooMany_TooMany hd)) fun _ => et_not (et_B (ev_isAT (ev_var rfl) (eu_tup (ea_cons ev_c (ea_cons ev_c ea_nil)) (Nat.le_of_ble_eq_true rfl)) T.ec_TooMany (.cons (.own _) (.cons (.own _) .nil)) (kitAny_cons T.kit_TooMany_BadTable (fun _ => kitAny_cons T.kit_TooMany_NoTree (fun _ => kitAny_nil) (fun z => nomatch z)) (fun z => nomatch z)) hd))) rfl) (fun _ H2 e2 => ?_) (fun z => nomatch z)
    exact s_asg (ev_xf (ev_var rfl) (e2 _ _ hd) (by simp [List.lookup])) fun H3 e3 => ⟨_, rfl, k H3 ((e'.trans e2).trans e3)⟩
-- DEF law

theorem pe_revTK {X : Cx} {K : PySem.W.Frag} {e : Expr} {te : TE} {k : Nat} {p1 p2 p3 pos : Pos} (he : PE X e te) (hK : X.K = K := by rfl) : PE X (.Subscript e (.Slice none none (some (.UnaryOp .USub (.Constant (.int 1) k p1) p2)) p3) pos) (tRevT K te) := by
  subst hK
  exact pe_revT he
theorem rep_refs (l : Addr) : ∀ k, (List.replicate k [V.ref l]).flatten = (List.replicate k l).map V.ref
  | 0 => rfl
  | k + 1 => by
    rw [List.replicate_succ, List.replicate_succ, List.flatten_cons, rep_refs l k]
    rfl
theorem paired_rep {α β : Type} {R : α → β → Prop} {a : α} {b : β} (h : R a b) : ∀ k, Paired R (List.replicate k a) (List.replicate k b)
  | 0 => .nil
  | k + 1 => .cons h (paired_rep h k)
theorem cut_n {xs : List V} {n : Nat} (h : n ≤ xs.length) : cutV xs none (some (n : Int)) = xs.take n := by
  unfold cutV
  rw [HT.sIx_none, HT.sIx_nat, Nat.min_eq_left h, List.drop_zero, Nat.sub_zero]
theorem neg_row : ∀ r : List Int, r.map (fun y => -y) = r ↔ r = List.replicate r.length 0
  | [] => by simp
  | x :: r => by
    have ih := neg_row r
    rw [List.map_cons, List.cons.injEq, ih, List.length_cons, List.replicate_succ, List.cons.injEq]
    constructor
    · rintro ⟨a, b⟩
      exact ⟨by omega, b⟩
    · rintro ⟨a, b⟩
      exact ⟨by omega, b⟩
theorem neg_tab {w : Nat} : ∀ R : List (List Int), (∀ r ∈ R, r.length = w) → ((R.map fun r => r.map fun y => -y) = R ↔ R = List.replicate R.length (List.replicate w 0))
  | [], _ => by simp
  | r :: R, h => by
    have ih := neg_tab R fun q hq => h q (List.mem_cons_of_mem _ hq)
    have n1 := neg_row r
    rw [h r (List.mem_cons_self ..)] at n1
    rw [List.map_cons, List.cons.injEq, ih, n1, List.length_cons, List.replicate_succ, List.cons.injEq]
structure NetF (H : Hp) (p : Addr) (as0 : List Addr) (rows : List (List Int)) (m w : Nat) (pe : Addr) (as : List Addr) (es : List (Int × Int)) (pa : Addr) (bs : List Addr) (qs : List (Int × Int)) : Prop where
  t : TabOk H p as0 rows m w
  e : H pe = some (.lst (as.map V.ref))
  eE : EdgesAt H as es
  a : H pa = some (.lst (bs.map V.ref))
  aE : EdgesAt H bs qs
  tr : Tree es
  q1 : 1 ≤ qs.length
  q8 : qs.length ≤ 8
  q : ∀ e ∈ qs, 0 ≤ e.1 ∧ e.1 ≤ es.length ∧ 0 ≤ e.2 ∧ e.2 ≤ es.length
section
variable {K : PySem.W.Frag} {E : XK} {σ : L2.St} {H : Hp} {p pe pa t : Addr} {as0 as bs : List Addr} {rows : List (List Int)} {m w : Nat} {es qs : List (Int × Int)}
theorem NetF.ex {H' : Hp} (F : NetF H p as0 rows m w pe as es pa bs qs) (x : Ex H H') : NetF H' p as0 rows m w pe as es pa bs qs := ⟨F.t.ex x, x _ _ F.e, F.eE.exx x, x _ _ F.a, F.aE.exx x, F.tr, F.q1, F.q8, F.q⟩
theorem net_said (F : NetF H p as0 rows m w pe as es pa bs qs) (ht : H t = some (.tup [.str "net", .ref pe, .ref pa])) {Q : VK} (k : ∀ H', Ex H H' → Q (.bl (decide (netT es qs = rows))) H') : sp_is_net K [.ref p, .ref t] H Q E :=
  ⟨p, t, pe, pa, as0, as, bs, rows, m, w, es, qs, rfl, F.t, ht, F.e, F.eE, F.a, F.aE, F.tr, F.q1, F.q8, F.q, k⟩
theorem ev_netN {i j k : Nat} (h1 : σ[i]? = some (some (.ref p))) (h2 : σ[j]? = some (some (.ref pe))) (h3 : σ[k]? = some (some (.ref pa))) (F : NetF H p as0 rows m w pe as es pa bs qs) : Ev (tCall (sp_is_net K) [] E (tCons (tVar i) (tCons (tTup (tCons (tC (.str "net")) (tCons (tVar j) (tCons (tVar k) tNil)))) tNil))) σ H (.bl (decide (netT es qs = rows))) := fun H1 e1 Q q =>
  ⟨_, h1, _, h2, _, h3, (by show 3 ≤ sizeLine; decide), fun t nt => net_said (K := K) (E := E) (F.ex (e1.trans (Ex.new nt))) upd_same fun H' e => q H' ((Ex.new nt).trans e)⟩
theorem ev_netV {i j : Nat} (h1 : σ[i]? = some (some (.ref p))) (h2 : σ[j]? = some (some (.ref t))) (ht : H t = some (.tup [.str "net", .ref pe, .ref pa])) (F : NetF H p as0 rows m w pe as es pa bs qs) : Ev (tCall (sp_is_net K) [] E (tCons (tVar i) (tCons (tVar j) tNil))) σ H (.bl (decide (netT es qs = rows))) := fun H1 e1 Q q =>
  ⟨_, h1, _, h2, net_said (K := K) (E := E) (F.ex e1) (e1 _ _ ht) q⟩
theorem er_lnet {ta : TA} (h : EvA ta σ H [.ref pe, .ref pa]) (F : NetF H p as0 rows m w pe as es pa bs qs) : EvR (tCall (sp__law_net K) [] E ta) σ H (netT es qs) := fun H1 e1 Q q =>
  h H1 e1 _ fun H2 e2 => by
    have F2 := F.ex (e1.trans e2)
    exact ⟨pe, pa, as, bs, es, qs, es.length, rfl, rfl, F2.e, F2.eE, F2.a, F2.aE, F.q8, F.tr, F.q, fun rs p' H' _ _ _ _ e3 h3 => q p' rs H' (e2.trans e3) h3⟩
end
theorem net_dims (es qs : List (Int × Int)) : (netT es qs).length = es.length ∧ ∀ r ∈ netT es qs, r.length = qs.length := by
  unfold netT
  refine ⟨by rw [List.length_map, List.length_range], fun r hr => ?_⟩
  obtain ⟨j, _, rfl⟩ := List.mem_map.mp hr
  rw [List.length_map]
/-- [e[::-1] for e in edges] -/
theorem lc_back {K : PySem.W.Frag} {nn j : Nat} {vs : List Nat} {σ : L2.St} {H : Hp} {Q : VK} {a : Addr} {as0 : List Addr} {es : List (Int × Int)} (hσ : σ[nn]? = some (some (.ref a))) (ha : H a = some (.lst (as0.map V.ref))) (hE : EdgesAt H as0 es) (hm : es.length ≤ 1000) (hw : ∀ u, wipe ((wipe σ vs).set j (some u)) vs = wipe σ vs)
    (hj : ∀ u, ((wipe σ vs).set j (some u))[j]? = some (some u))
    (k : ∀ D bs H2, H D = none → Ex H H2 → H2 D = some (.lst (bs.map V.ref)) → EdgesAt H2 bs (es.map fun e => (e.2, e.1)) → Q (.ref D) H2) : tLc (iList K (tVar nn)) (gName j) tYes (tRevT K (tVar j)) vs σ H Q := by
  refine ⟨_, hσ, a, rfl, ⟨_, SqL.of ha⟩, fun D hD => ?_⟩
  refine lc_list (K := K) (a := a) (xs := as0.map V.ref) (fun i H' => ∃ bs, Ex H H' ∧ H' D = some (.lst (bs.map V.ref)) ∧ EdgesAt H' bs ((es.take i).map fun e => (e.2, e.1))) ⟨[], Ex.new hD, upd_same, .nil⟩ (fun i H' _ ⟨_, p1, _⟩ => SqL.of (p1 _ _ ha)) (fun i x H' gx p => ?_) (fun H' p => ?_)
  · obtain ⟨bs, p1, p2, p3⟩ := p
    rw [List.getElem?_map] at gx
    obtain ⟨c0, hc0, rfl⟩ := Option.map_eq_some_iff.mp gx
    obtain ⟨y, hy, hh⟩ := paired_get hE hc0
    have hi := (List.getElem?_eq_some_iff.mp hy).1
    have el : bs.length = i := by rw [Paired.length p3, List.length_map, List.length_take]; omega
    refine ⟨hw _, _, hj _, c0, _, _, rfl, SqT.of (p1 _ _ hh), fun r nr => ?_⟩
    have e4 := Ex.new (o := .tup [V.int y.2, .int y.1]) nr
    have p24 := e4 _ _ p2
    refine ⟨_, p24, ?_, bs ++ [r], Ex.mut (p1.trans e4) hD, ?_, ?_⟩
    · rw [List.length_map, el]
      exact small1000 (by omega)
    · rw [upd_same, List.map_append]
      rfl
    · rw [take_snoc hy, List.map_append]
      refine paired_snoc (paired_imp (fun b q h => tups_U p24 _ _ (e4 _ _ h)) p3) ?_
      exact tups_U p24 _ _ upd_same
  · obtain ⟨bs, p1, p2, p3⟩ := p
    have l0 : as0.length = es.length := Paired.length hE
    rw [List.length_map, l0, List.take_length] at p3
    exact k D bs H' hD p1 p2 p3
def sp_law (K : PySem.W.Frag) (P : Addr) : Sp := fun vs H Q _ => ∃ (a : Addr) (ns : List Int), vs = [.ref a] ∧ SqL K H a (ns.map V.int) ∧ ns.length ≤ 63 ∧ H P = some (.tbl #[]) ∧ ∀ H', Q (.bl true) H'

theorem ok_law (T : Txt K mg) (TB : TabB base mg T.c_law T.P_law) : FnOk P w K mg base CX0 12 T.f_law T.fd_law ["_law_script"] (sp_law K T.P_law) := by
  obtain ⟨ocL, odL, kVL, docL, pmL, anL, ctL, oslL, eL, lkL, hcL⟩ := T.lkL
  rw [eL] at lkL ⊢
  refine fn_of lkL hcL sc_law (fun vs H Q E h => ?_) (fun A outer s H vs Q E hr h => ?_)
  · obtain ⟨_, _, rfl, _⟩ := h; rfl
  · refine ⟨_, PSs.nox (pss_cons (ps_for PassesOwn.never rfl (pi_list (pe_op op_cat (pe_lst (pa_cons (pe_call (ok__law_cell_at T) (hr.mono (by decide)) (by rfl) T.g__law_cell_at T.k__law_cell_at T.b__law_cell_at .nil pass0 (pa_cons (pv 0) (pa_cons pe_int pa_nil))) pa_nil)) (pe_slice (r := rSlL K) sl_list (pv 0) (po_some pe_int) (po_some pe_int)))) (pg_name (i := 1) sc_law.nd rfl (by first | exact Or.inl rfl | exact Or.inr rfl))
        (pss_cons (ps_set (i := 2) sc_law.nd rfl (by first | exact Or.inl rfl | exact Or.inr rfl) (pe_call (ok__law_source_of T) (hr.mono (by decide)) (by rfl) T.g__law_source_of T.k__law_source_of T.b__law_source_of .nil pass0 (pa_cons (pv 1) pa_nil)))
          (pss_cut (ps_set (i := 3) sc_law.nd rfl (by first | exact Or.inl rfl | exact Or.inr rfl) (pe_op op_add pe_int (pe_call (ok__law_next T) (hr.mono (by decide)) (by rfl) T.g__law_next T.k__law_next T.b__law_next .nil pass0 (pa_cons (pv 2) (pa_cons pe_int pa_nil)))))
          (pss_cut (ps_set (i := 4) sc_law.nd rfl (by first | exact Or.inl rfl | exact Or.inr rfl) (pe_call (ok__law_ends T) (hr.mono (by decide)) (by rfl) T.g__law_ends T.k__law_ends T.b__law_ends .nil pass0 (pa_cons (pv 2) (pa_cons (pv 3) pa_nil))))
          (pss_cut (ps_setLc (i := 5) (own := [("_law_k", 12)]) (g := gName 12) (tt := tYes) rfl sc_law.nd rfl rfl (sw_true rfl rfl rfl (by decide +kernel)) (pi_range1 (by rfl) T.n_range (pa_cons (pe_op op_add pe_int (pe_call (ok__law_next T) (hr.mono (by decide)) (by rfl) T.g__law_next T.k__law_next T.b__law_next .nil pass0 (pa_cons (pv 2) (pa_cons pe_int pa_nil)))) pa_nil)) (blkOk_by (N := ["_law_script", "_law_cell", "_law_source", "_law_many", "_law_ends_here", "_law_arcs", "_law_table", "_law_one", "_law_two", "_law_other", "_law_half", "_law_backward", "_law_k", "_law_arc"]) (sc := (defScope s_law)) (by decide +kernel)) (fun _ _ _ _ _ => pg_name (i := 12) sc_law.nd rfl (Or.inl rfl)) (fun _ _ _ _ _ => pts_nil) (fun _ _ _ _ _ => (pe_tup (pa_cons (pe_call (ok__law_next T) (hr.mono (by decide)) (by rfl) T.g__law_next T.k__law_next T.b__law_next .nil pass0 (pa_cons (pv 2) (pa_cons (pe_op op_add (pv 3) pe_int) pa_nil))) (pa_cons (pe_call (ok__law_next T) (hr.mono (by decide)) (by rfl) T.g__law_next T.k__law_next T.b__law_next .nil pass0 (pa_cons (pv 2) (pa_cons (pe_op op_add (pv 3) pe_int) pa_nil))) pa_nil)))))
          (pss_cut (ps_set (i := 6) sc_law.nd rfl (by first | exact Or.inl rfl | exact Or.inr rfl) (pe_call (ok_net_table T) (hr.mono (by decide)) (by rfl) T.g_net_table T.k_net_table T.b_net_table .nil pass0 (pa_cons (pv 4) (pa_cons (pv 5) pa_nil))))
          (pss_cut (ps_asg (pe_slice (r := rSlL K) sl_list (pe_call (ok__law_mixed T) (hr.mono (by decide)) (by rfl) T.g__law_mixed T.k__law_mixed T.b__law_mixed .nil pass0 (pa_cons (pv 2) (pa_cons (pe_listRg rfl (by rfl) T.n_list (prg_1 (by rfl) T.n_range (pe_op op_add (pv 3) pe_int))) pa_nil))) po_none (po_some pe_int)) (pg_lst rfl (pgs_cons (pg_name (i := 7) sc_law.nd rfl (by first | exact Or.inl rfl | exact Or.inr rfl)) (pgs_cons (pg_name (i := 8) sc_law.nd rfl (by first | exact Or.inl rfl | exact Or.inr rfl)) pgs_nil))))
          (pss_cut (ps_if (PW.pt (pw_or (pt_cmpR op_ne (pe_call (ok__law_said T) hr (by rfl) T.g__law_said T.k__law_said T.b__law_said .nil pass0 (pa_cons (pv 6) pa_nil)) (pe_ix (r := rIxL K) ix_list (pe_lst (pa_cons pe_int (pa_cons pe_str pa_nil))) (pe_callTy (T := "int") call_int1 (by rfl) T.n_int (by decide +kernel) (pa_cons (pe_cmpR op_lt (pv 3) pe_int (nomark _)) pa_nil)) (fun _ _ => rfl)) (nomark _)) (pw_or1 (pt_cmpR op_ne (pe_call (ok__law_said T) hr (by rfl) T.g__law_said T.k__law_said T.b__law_said .nil pass0 (pa_cons (pe_op op_rep (pe_lst (pa_cons (pe_lst (pa_cons pe_int pa_nil)) pa_nil)) (pe_op op_add pe_int (pe_call (ok__law_next T) (hr.mono (by decide)) (by rfl) T.g__law_next T.k__law_next T.b__law_next .nil pass0 (pa_cons (pv 2) (pa_cons pe_int pa_nil))))) pa_nil)) pe_int (nomark _)))))
            (pss_one (ps_ret pe_bl))
            pss_nil)
          (pss_cut (ps_set (i := 9) sc_law.nd rfl (by first | exact Or.inl rfl | exact Or.inr rfl) (pe_tup (pa_cons pe_str (pa_cons (pe_call (ok__law_named T) (hr.mono (by decide)) (by rfl) T.g__law_named T.k__law_named T.b__law_named .nil pass0 (pa_cons (pv 4) (pa_cons (pv 7) (pa_cons (pv 8) pa_nil)))) (pa_cons (pe_call (ok__law_named T) (hr.mono (by decide)) (by rfl) T.g__law_named T.k__law_named T.b__law_named .nil pass0 (pa_cons (pv 5) (pa_cons (pv 7) (pa_cons (pv 8) pa_nil)))) pa_nil)))))
          (pss_cut (ps_if (PW.pt (pw_or (pt_cmpR (r := rNeD K) (op_neD hr.units) (pv 6) (pe_call (ok__law_net T) (hr.mono (by decide)) (by rfl) T.g__law_net T.k__law_net T.b__law_net .nil pass0 (pa_cons (pv 4) (pa_cons (pv 5) pa_nil))) (nomark _)) (pw_or (pt_not (pt_val (pe_call (ok_is_net T) (hr.mono (by decide)) (by rfl) T.g_is_net T.k_is_net T.b_is_net .nil pass0 (pa_cons (pv 6) (pa_cons (pe_tup (pa_cons pe_str (pa_cons (pv 4) (pa_cons (pv 5) pa_nil)))) pa_nil))))) (pw_or1 (pt_not (pt_val (pe_call (ok_is_net T) (hr.mono (by decide)) (by rfl) T.g_is_net T.k_is_net T.b_is_net .nil pass0 (pa_cons (pv 6) (pa_cons (pv 9) pa_nil)))))))))
            (pss_one (ps_ret pe_bl))
            pss_nil)
          (pss_cut (ps_set (i := 10) sc_law.nd rfl (by first | exact Or.inl rfl | exact Or.inr rfl) (pe_tup (pa_cons pe_str (pa_cons (pe_call (ok__law_named T) (hr.mono (by decide)) (by rfl) T.g__law_named T.k__law_named T.b__law_named .nil pass0 (pa_cons (pv 4) (pa_cons (pv 7) (pa_cons (pv 8) pa_nil)))) (pa_cons (pv 5) pa_nil)))))
          (pss_cut (ps_if (pt_cmpR op_ne (pe_call (ok_is_net T) (hr.mono (by decide)) (by rfl) T.g_is_net T.k_is_net T.b_is_net .nil pass0 (pa_cons (pv 6) (pa_cons (pv 10) pa_nil))) (pe_cmpR (r := rEqD K) (op_eqD hr.units) (pe_call (ok__law_net T) (hr.mono (by decide)) (by rfl) T.g__law_net T.k__law_net T.b__law_net .nil pass0 (pa_cons (pe_ix (r := rIxT K) ix_tup (pv 10) pe_int (fun _ _ => rfl)) (pa_cons (pv 5) pa_nil))) (pv 6) (nomark _)) (nomark _))
            (pss_one (ps_ret pe_bl))
            pss_nil)
          (pss_cut (ps_set (i := 11) sc_law.nd rfl (by first | exact Or.inl rfl | exact Or.inr rfl) (pe_tup (pa_cons pe_str (pa_cons (pv 4) (pa_cons (pe_lc (own := [("_law_arc", 13)]) (wi := iList K _) (g := gName 13) (tt := tYes) rfl sc_law.nd (pi_list (pv 5)) (blkOk_by (N := ["_law_script", "_law_cell", "_law_source", "_law_many", "_law_ends_here", "_law_arcs", "_law_table", "_law_one", "_law_two", "_law_other", "_law_half", "_law_backward", "_law_k", "_law_arc"]) (sc := (defScope s_law)) (by decide +kernel)) (fun _ _ _ _ _ => pg_name (i := 13) sc_law.nd rfl (Or.inl rfl)) (fun _ _ _ _ _ => pts_nil) (fun _ _ _ _ _ => (pe_revTK (K := K) (pv 13)))) pa_nil)))))
          (pss_one (ps_if (pt_cmpR op_ne (pe_call (ok_is_net T) (hr.mono (by decide)) (by rfl) T.g_is_net T.k_is_net T.b_is_net .nil pass0 (pa_cons (pv 6) (pa_cons (pv 11) pa_nil))) (pe_cmpR (r := rEqD K) (op_eqD hr.units) (pv 6) (pe_op op_rep (pe_lst (pa_cons (pe_op op_rep (pe_lst (pa_cons pe_int pa_nil)) (pe_callB (id := "len") (r := rLenS K) call_len_seq (by rfl) T.n_len PySem.boot_len (pa_cons (pv 5) pa_nil))) pa_nil)) (pv 3)) (nomark _)) (nomark _))
            (pss_one (ps_ret pe_bl))
            pss_nil)))))))))))))))
      (pss_one (ps_ret pe_bl))), ?_⟩
    obtain ⟨a0, ns, rfl, hS, hlen, hP, q⟩ := h
    clear hP
    refine ⟨_, rfl, a0, ns, 0, rfl, hS, by decide, fun c0 => ⟨(by show 1 ≤ sizeLine; decide), fun p0 np0 => ⟨_, rfl, ?_⟩⟩⟩
    have x0 := Ex.new (o := .lst [V.int c0]) np0
    refine ⟨1, rfl, 6, rfl, a0, _, rfl, ex_l x0 hS, fun p1 np1 => ?_⟩
    obtain ⟨ys, hys⟩ := cutV_ints ns (some 1) (some 6)
    have hyl : ys.length ≤ 63 := by
      have h1 := cutV_length (ns.map V.int) (some 1) (some 6)
      rw [hys, List.length_map, List.length_map] at h1
      omega
    rw [hys]
    have x1 := Ex.new (o := .lst (ys.map V.int)) np1
    refine ⟨p0, p1, _, _, rfl, rfl, x1 _ _ upd_same, upd_same, ?_, fun p2 np2 => ?_⟩
    · have : ([V.int c0].length + (ys.map V.int).length) ≤ 1000 := by
        rw [List.length_map]
        show 1 + ys.length ≤ 1000
        omega
      exact Nat.le_trans this (by decide)
    refine ⟨p2, rfl, ⟨_, SqL.of upd_same⟩, for_list (K := K) (a := p2) (xs := [V.int c0] ++ ys.map V.int) (fun i σ H' => ∃ y1 y2 y3 y4 y5 y6 y7 y8 y9 y10 y11 y12 y13 : Option V, σ = [some (.ref a0), y1, y2, y3, y4, y5, y6, y7, y8, y9, y10, y11, y12, y13] ∧ H' p2 = some (.lst ([V.int c0] ++ ys.map V.int)))
      ⟨_, _, _, _, _, _, _, _, _, _, _, _, _, rfl, upd_same⟩ (fun i σ H' _ ⟨_, _, _, _, _, _, _, _, _, _, _, _, _, _, h⟩ => SqL.of h) ?_ (fun σ H' _ => q H')⟩
    rintro i x σ H0 hi ⟨y1, y2, y3, y4, y5, y6, y7, y8, y9, y10, y11, y12, y13, rfl, hp2⟩
    obtain ⟨c, rfl⟩ : ∃ c : Int, x = .int c := by
      rcases List.mem_append.mp (List.mem_of_getElem? hi) with h | h
      · exact ⟨c0, by simpa using h⟩
      · obtain ⟨c, _, rfl⟩ := List.mem_map.mp h
        exact ⟨c, rfl⟩
    generalize p2 = pL at hp2 ⊢
    clear hi hyl hys hS hlen x0 x1 np2 np1 np0 p2
    refine ⟨_, rfl, c, rfl, fun s H1 n1 e1 s1 => ?_⟩
    refine ⟨fun σ' H' => ∃ m : Nat, σ' = [some (.ref a0), some (.int c), some (.ref s), some (.int m), y4, y5, y6, y7, y8, y9, y10, y11, y12, y13] ∧ 4 ≤ m ∧ m ≤ 8 ∧ ExB s H1 H' ∧ SrcAt H' s (0 + 1), ?_, ?_⟩
    · refine ⟨_, rfl, s, 5, _, rfl, s1, by decide, by decide, (by unfold Bd; decide), fun f H2 f0 f1 e2 s2 => ⟨_, _, rfl, rfl, (4 + f).toNat, ?_, by omega, by omega, e2, s2⟩⟩
      exact congrArg (fun z : Int => [some (.ref a0), some (.int c), some (.ref s), some (.int z), y4, y5, y6, y7, y8, y9, y10, y11, y12, y13]) (show (4 + f) = ((4 + f).toNat : Int) by omega)
    rintro σ' H2 ⟨m, rfl, m1, m8, e2, s2⟩
    -- ends
    refine ⟨fun σ' H' => ∃ (pe : Addr) (as : List Addr) (es : Gr.Edges), σ' = [some (.ref a0), some (.int c), some (.ref s), some (.int m), some (.ref pe), y5, y6, y7, y8, y9, y10, y11, y12, y13] ∧ es.length = m ∧ Tree es ∧ EdgesAt H' as es ∧ H' pe = some (.lst (as.map V.ref)) ∧ ExB s H2 H' ∧ SrcAt H' s (0 + 1 + 300) ∧ pe ≠ s, ?_, ?_⟩
    · refine ⟨_, rfl, _, rfl, s, _, m, rfl, s2, by omega, by omega, by omega, fun as es p H3 hl hb hc hE hp np e3 s3 => ⟨p, as, es, rfl, by omega, ⟨by omega, by omega, fun e he => by have := hb e he; omega, fun a ha b hb S hS => ?_⟩, hE, hp, e3, s3, s2.ne np⟩⟩
      have ha := mem_numsTo.mp ha
      have hb := mem_numsTo.mp hb
      exact hc S hS a b ha.1 (by omega) hb.1 (by omega)
    rintro σ' H3 ⟨pe, as, es, rfl, el, hTr, hE, hp, e3, s3, nps⟩
    have E3 : Ex H0 H3 := e3.ex n1 (e2.ex n1 e1)
    have hL3 := E3 _ _ hp2
    have nL : pL ≠ s := fun z => by rw [z, n1] at hp2; cases hp2
    clear e1 e2 e3 s1 s2 E3 hp2 n1
    -- arcs
    refine ⟨fun σ' H' => ∃ (pq : Addr) (bs : List Addr) (qs : Gr.Edges), σ' = [some (.ref a0), some (.int c), some (.ref s), some (.int m), some (.ref pe), some (.ref pq), y6, y7, y8, y9, y10, y11, y12, y13] ∧ 1 ≤ qs.length ∧ qs.length ≤ 8 ∧ (∀ e ∈ qs, 0 ≤ e.1 ∧ e.1 ≤ (m : Int) ∧ 0 ≤ e.2 ∧ e.2 ≤ (m : Int)) ∧ EdgesAt H' bs qs ∧ H' pq = some (.lst (bs.map V.ref)) ∧ ExB s H3 H' ∧ SrcAt H' s 400 ∧ pq ≠ s, ?_, ?_⟩
    · refine ⟨_, rfl, s, 8, _, rfl, s3, by omega, by decide, (by unfold Bd; decide), fun f H4 f0 f1 e4 s4 => ⟨_, _, rfl, rfl, ?_⟩⟩
      obtain ⟨w, hw⟩ : ∃ w : Nat, 1 + f = (w : Int) := ⟨(1 + f).toNat, by omega⟩
      refine ⟨(w : Int), (by show [V.int (1 + f)] = _; rw [hw]), by omega, by omega, fun D hD => ?_⟩
      have hDs : D ≠ s := s4.ne hD
      refine lc_range (lo := 0) (n := (w : Int).toNat) (fun i H' => ∃ (bs : List Addr) (qs : List (Int × Int)), H' D = some (.lst (bs.map V.ref)) ∧ EdgesAt H' bs qs ∧ qs.length = i ∧ ExB s H4 H' ∧ SrcAt H' s (0 + 1 + 300 + 1 + 2 * i) ∧ ∀ e ∈ qs, 0 ≤ e.1 ∧ e.1 ≤ (m : Int) ∧ 0 ≤ e.2 ∧ e.2 ≤ (m : Int))
        ⟨[], [], upd_same, .nil, rfl, ExB.of (Ex.new hD), (s4.ex (Ex.new hD)).le (by omega), fun e he => by simp at he⟩ (fun i H5 hi p => ?_) (fun H5 p => ?_)
      · obtain ⟨bs, qs, h1, h2, h3, h4, h5, h6⟩ := p
        have bm : Bd 8000 ((m : Int) + 1) := by
          unfold Bd
          exact Nat.lt_of_lt_of_le (show ((m : Int) + 1).natAbs < 1024 by omega) (by decide +kernel)
        refine ⟨rfl, ?_⟩
        refine ⟨_, rfl, _, rfl, _, _, rfl, rfl, s, _, _, rfl, h5, by omega, by omega, bm, fun f H2 f0 f1 e2 s2 => ?_⟩
        refine ⟨_, rfl, _, rfl, _, _, rfl, rfl, s, _, _, rfl, s2, by omega, by omega, bm, fun g H3 g0 gl e3 s3 => ?_⟩
        refine ⟨(by show 2 ≤ sizeLine; decide), fun t nt => ?_⟩
        have xt : Ex H3 (upd H3 t (.tup [.int f, .int g])) := Ex.new nt
        have e13 := e2.trans e3
        have hD3 := e13 _ _ hDs h1
        have el : bs.length = i := by rw [Paired.length h2, h3]
        refine ⟨_, xt _ _ hD3, small1000 (by rw [List.length_map]; omega), bs ++ [t], qs ++ [(f, g)], ?_, ?_, ?_, ?_, ?_, ?_⟩
        · rw [upd_same, List.map_append]
          rfl
        · exact paired_imp (fun c d h => tups_U (xt _ _ hD3) _ _ h) (paired_snoc (EdgesAt.mono (fun c xs h => xt _ _ (tups_B h5 e13 _ _ h)) h2) (upd_same : upd H3 t (.tup [.int f, .int g]) t = some (.tup [.int f, .int g])))
        · rw [List.length_append, h3]
          rfl
        · refine fun b o nb h => ?_
          rw [upd_ne (ne_of_none h hD)]
          exact xt _ _ (e13 _ _ nb (h4 _ _ nb h))
        · obtain ⟨a1, a2, a3, a4, a5, a6, a7, a8⟩ := s3.ex xt
          exact ⟨a1, a2, a3, by rw [upd_ne hDs.symm]; exact a4, a5, a6, a7, by omega⟩
        · intro e he
          rcases List.mem_append.mp he with q | q
          · exact h6 e q
          · rw [List.mem_singleton.mp q]
            exact ⟨f0, by show f ≤ (m : Int); omega, g0, by show g ≤ (m : Int); omega⟩
      · obtain ⟨bs, qs, h1, h2, h3, h4, h5, h6⟩ := p
        exact ⟨D, bs, qs, rfl, by omega, by omega, h6, h2, h1, e4.trans h4, h5.le (by omega), hDs⟩
    rintro σ' H4 ⟨pq, bs, qs, rfl, q1, q8, hqb, hA, hq, e4, s4, nqs⟩
    replace hL3 := e4 _ _ nL hL3
    replace hp := e4 _ _ nps hp
    replace hE := EdgesAt.mono (tups_B s3 e4) hE
    clear e4 s3
    -- table
    have hqb2 : ∀ e ∈ qs, 0 ≤ e.1 ∧ e.1 ≤ es.length ∧ 0 ≤ e.2 ∧ e.2 ≤ es.length := fun e he => by rw [el]; exact hqb e he
    refine ⟨fun σ' H' => ∃ (pt : Addr) (ts : List Addr), σ' = [some (.ref a0), some (.int c), some (.ref s), some (.int m), some (.ref pe), some (.ref pq), some (.ref pt), y7, y8, y9, y10, y11, y12, y13] ∧ Ex H4 H' ∧ Tab H' pt ts (netT es qs) ∧ pt ≠ s ∧ (∀ a ∈ ts, a ≠ s), ?_, ?_⟩
    · exact ⟨_, rfl, _, rfl, pe, pq, as, bs, es, qs, rfl, hp, hE, hq, hA, hTr, q1, q8, hqb2, fun t ts H5 nt nts ntt e5 h5 => ⟨t, ts, rfl, e5, h5, s4.ne nt, fun a ha => s4.ne (nts a ha)⟩⟩
    rintro σ' H5 ⟨pt, ts, rfl, e5, hT5, nts, ntts⟩
    obtain ⟨dl, dw⟩ := net_dims es qs
    have F5 : NetF H5 pt ts (netT es qs) m qs.length pe as es pq bs qs := ⟨⟨hT5, by rw [dl, el], dw, by omega, m8, q1, q8⟩, e5 _ _ hp, hE.exx e5, e5 _ _ hq, hA.exx e5, hTr, q1, q8, hqb2⟩
    replace hL3 := e5 _ _ hL3
    have s5 := s4.ex e5
    clear hp hE hq hA e5 s4 hT5
    -- two of the places
    refine ⟨fun σ' H' => ∃ u v : Int, σ' = [some (.ref a0), some (.int c), some (.ref s), some (.int m), some (.ref pe), some (.ref pq), some (.ref pt), some (.int u), some (.int v), y9, y10, y11, y12, y13] ∧ u ≠ v ∧ 0 ≤ u ∧ u ≤ m ∧ 0 ≤ v ∧ v ≤ m ∧ ExB s H5 H' ∧ SrcAt H' s 500, ?_, ?_⟩
    · refine ⟨_, rfl, _, rfl, _, _, rfl, rfl, _, rfl, RgOk.of_le (by omega) (by omega) (by omega) (by omega), fun r nr => ?_⟩
      have x1 := Ex.new (o := .lst (rgV 0 ((m : Int) + 1))) nr
      refine ⟨s, r, 400, _, rfl, s5.ex x1, by omega, s5.ne nr, SqL.of upd_same, ?_, ?_, fun ys p1 H6 hp np1 e6 s6 h6 => ?_⟩
      · rw [rgV_length]
        omega
      · intro v hv
        rw [rgV_nums] at hv
        obtain ⟨i, _, rfl⟩ := List.mem_map.mp hv
        exact datv_int i
      rw [rgV_nums] at hp
      obtain ⟨pl, rfl, hpl⟩ := perm_ints hp
      have nd : pl.Nodup := hpl.nodup_iff.mpr (nodup_nums _)
      have hl : pl.length = m + 1 := by
        rw [hpl.length_eq, numsTo_length]
        omega
      obtain ⟨u, v, rest, rfl⟩ : ∃ u v rest, pl = u :: v :: rest := by
        match pl, hl with
        | u :: v :: rest, _ => exact ⟨u, v, rest, rfl⟩
        | [u], h => simp at h; omega
        | [], h => simp at h
      have hu := mem_numsTo.mp (hpl.mem_iff.mp (List.mem_cons_self ..))
      have hv := mem_numsTo.mp (hpl.mem_iff.mp (List.mem_cons_of_mem _ (List.mem_cons_self ..)))
      have nuv : u ≠ v := fun z => by
        rw [z] at nd
        exact (List.nodup_cons.mp nd).1 (List.mem_cons_self ..)
      refine ⟨2, rfl, p1, _, rfl, SqL.of h6, fun p3 np3 => ?_⟩
      have hc : cutV ((u :: v :: rest).map V.int) none (some 2) = [V.int u, .int v] := by
        have := cut_n (xs := (u :: v :: rest).map V.int) (n := 2) (by simp)
        exact this
      rw [hc]
      have x3 := Ex.new (o := .lst [V.int u, .int v]) np3
      exact ⟨p3, _, rfl, SqL.of upd_same, rfl, _, _, rfl, _, _, rfl, rfl, u, v, rfl, nuv, hu.1, by omega, hv.1, by omega, ((ExB.of x1).trans e6).trans (ExB.of x3), (s6.ex x3).le (by omega)⟩
    rintro σ' H6 ⟨u, v, rfl, nuv, u0, u1, v0, v1, e6, s6⟩
    have F6 : NetF H6 pt ts (netT es qs) m qs.length pe as es pq bs qs := ⟨⟨⟨e6 _ _ nts F5.t.tab.1, rows_but F5.t.tab.2 fun a ha o h => e6 _ _ (ntts a ha) h⟩, F5.t.m_, F5.t.w_, F5.t.b⟩, e6 _ _ nps F5.e, EdgesAt.mono (tups_B s5 e6) F5.eE, e6 _ _ nqs F5.a, EdgesAt.mono (tups_B s5 e6) F5.aE, hTr, q1, q8, hqb2⟩
    replace hL3 := e6 _ _ nL hL3
    clear F5 s5 e6
    -- refused where there are many
    refine ⟨fun σ' H' => σ' = [some (.ref a0), some (.int c), some (.ref s), some (.int m), some (.ref pe), some (.ref pq), some (.ref pt), some (.int u), some (.int v), y9, y10, y11, y12, y13] ∧ NetF H' pt ts (netT es qs) m qs.length pe as es pq bs qs ∧ H' pL = some (.lst ([V.int c0] ++ ys.map V.int)), ?_, ?_⟩
    · have et1 : EvT (tTest (tOp rNe (tCall (sp__law_said K) [] E0 (tCons (tVar 6) tNil)) (tOp (rIxL K) (tLst (tCons (tC (.int 5)) (tCons (tC (.str "told")) tNil))) (tCB (fun xs H Q => (∃ i, xs = [V.int i] ∧ Q (V.int i) H) ∨ ∃ k, xs = [V.bl k] ∧ Q (V.int (if k = true then 1 else 0)) H) (tCons (tOp (rI0 fun i j => V.bl (decide (i < j))) (tVar 3) (tC (V.int 6))) tNil))))) [some (.ref a0), some (.int c), some (.ref s), some (.int m), some (.ref pe), some (.ref pq), some (.ref pt), some (.int u), some (.int v), y9, y10, y11, y12, y13] H6 false := by
        refine et_is (et_test (ev_op (x := if m ≤ 5 then .str "told" else .int 5) (y := if m ≤ 5 then .str "told" else .int 5) (ev_fn (ea_cons (ev_var rfl) ea_nil) fun H7 e7 Q7 q7 => ⟨pt, ts, netT es qs, m, qs.length, rfl, (F6.ex e7).t, q7⟩) (ev_opL1 (el_lst (ea_cons ev_c (ea_cons ev_c ea_nil)) (Nat.le_of_ble_eq_true rfl)) (fun H7 e7 => ev_int1 (ev_op (ev_var rfl) ev_c rv_I0)) (fun p H7 hp e7 => rv_ixL (SqL.of hp) ?_)) (rv_ne ?_))) ?_
        · by_cases z : m ≤ 5
          · rw [if_pos z, if_pos (decide_eq_true (show (m : Int) < 6 by omega))]
            rfl
          · rw [if_neg z, if_neg (by rw [decide_eq_false (show ¬ (m : Int) < 6 by omega)]; exact Bool.false_ne_true)]
            rfl
        · by_cases z : m ≤ 5
          · rw [if_pos z]
            rfl
          · rw [if_neg z]
            rfl
        · rw [decide_eq_true rfl]
          rfl
      refine et1 H6 (Ex.refl _) _ fun H7 e7 => iteF ?_
      have F7 := F6.ex e7
      have hL7 := e7 _ _ hL3
      have s7 := s6.ex e7
      refine ⟨(by show 1 ≤ sizeLine; decide), fun l1 nl1 => ⟨(by show 1 ≤ sizeLine; decide), fun l2 nl2 => ?_⟩⟩
      have x1 := Ex.new (o := .lst [V.int 9]) nl1
      have x2 := Ex.new (o := .lst [V.ref l1]) nl2
      have x12 := x1.trans x2
      have n1 : l1 ≠ s := s7.ne nl1
      have n2 : l2 ≠ s := (s7.ex x1).ne nl2
      refine ⟨_, rfl, s, 3, _, rfl, s7.ex x12, by omega, by decide, (by unfold Bd; decide), fun f H8 f0 f1 e8 s8 => ?_⟩
      have h1 : H8 l1 = some (.lst [V.int 9]) := e8 _ _ n1 (x2 _ _ upd_same)
      have h2 : H8 l2 = some (.lst [V.ref l1]) := e8 _ _ n2 upd_same
      refine ⟨_, _, rfl, rfl, l2, 6 + f, _, rfl, rfl, h2, by omega, by omega, ?_, fun p np => ?_⟩
      · show 1 * (6 + f).toNat ≤ sizeLine
        exact Nat.le_trans (show 1 * (6 + f).toNat ≤ 1000 by omega) (by decide)
      have xp := Ex.new (o := .lst (List.replicate (6 + f).toNat [V.ref l1]).flatten) np
      have tp : TabOk (upd H8 p (.lst (List.replicate (6 + f).toNat [V.ref l1]).flatten)) p (List.replicate (6 + f).toNat l1) (List.replicate (6 + f).toNat [9]) (6 + f).toNat 1 := ⟨⟨by rw [upd_same, rep_refs], paired_rep (R := fun a (r : List Int) => upd H8 p (.lst (List.replicate (6 + f).toNat [V.ref l1]).flatten) a = some (.lst (r.map V.int))) (xp _ _ h1) _⟩, by rw [List.length_replicate], fun r hr => by rw [(List.mem_replicate.mp hr).2]; rfl, by omega⟩
      refine ⟨p, _, _, _, _, rfl, tp, fun H9 e9 => ?_⟩
      rw [if_neg (by omega)]
      have e79 : ExB s H7 H9 := ((ExB.of x12).trans e8).trans (ExB.of (xp.trans e9))
      exact ⟨rfl, _, rfl, iteF ⟨rfl, ⟨⟨⟨e79 _ _ nts F7.t.tab.1, rows_but F7.t.tab.2 fun a ha o h => e79 _ _ (ntts a ha) h⟩, F7.t.m_, F7.t.w_, F7.t.b⟩, e79 _ _ nps F7.e, EdgesAt.mono (tups_B s7 e79) F7.eE, e79 _ _ nqs F7.a, EdgesAt.mono (tups_B s7 e79) F7.aE, hTr, q1, q8, hqb2⟩, e79 _ _ nL hL7⟩⟩
    rintro σ' H7 ⟨rfl, F7, hL7⟩
    clear F6 hL3 s6 nL nps nqs nts ntts
    have two2 := Nl.two_two u v
    have twob : ∀ x : Int, 0 ≤ x → x ≤ es.length → 0 ≤ Nl.two u v x ∧ Nl.two u v x ≤ es.length := fun x x0 x1 => by
      unfold Nl.two
      rw [el] at x1 ⊢
      split
      · exact ⟨v0, v1⟩
      · split
        · exact ⟨u0, u1⟩
        · exact ⟨x0, x1⟩
    have hTr2 : Tree (es.map (Nl.nm (Nl.two u v))) := Nl.tree_nm two2 two2 twob twob hTr
    have hqb3 : ∀ f : Gr.Edges, (∀ e ∈ f, 0 ≤ e.1 ∧ e.1 ≤ es.length ∧ 0 ≤ e.2 ∧ e.2 ≤ es.length) → ∀ e ∈ f.map (Nl.nm (Nl.two u v)), 0 ≤ e.1 ∧ e.1 ≤ es.length ∧ 0 ≤ e.2 ∧ e.2 ≤ es.length := fun f hf e he => by
      obtain ⟨d, hd, rfl⟩ := List.mem_map.mp he
      have := hf d hd
      have a1 := twob _ this.1 this.2.1
      have a2 := twob _ this.2.2.1 this.2.2.2
      exact ⟨a1.1, a1.2, a2.1, a2.2⟩
    -- otherwise named
    refine ⟨fun σ' H' => ∃ t pe2 pq2 as2 bs2, σ' = [some (.ref a0), some (.int c), some (.ref s), some (.int m), some (.ref pe), some (.ref pq), some (.ref pt), some (.int u), some (.int v), some (.ref t), y10, y11, y12, y13] ∧ Ex H7 H' ∧ H' t = some (.tup [.str "net", .ref pe2, .ref pq2]) ∧ NetF H' pt ts (netT es qs) m qs.length pe2 as2 (es.map (Nl.nm (Nl.two u v))) pq2 bs2 (qs.map (Nl.nm (Nl.two u v))), ?_, ?_⟩
    · refine ⟨_, rfl, _, rfl, _, rfl, pe, as, es, u, v, rfl, F7.e, F7.eE, by omega, nuv, fun pe2 as2 H8 _ e8 h8 hE8 => ?_⟩
      refine ⟨_, rfl, _, rfl, _, rfl, pq, bs, qs, u, v, rfl, (F7.ex e8).a, (F7.ex e8).aE, by omega, nuv, fun pq2 bs2 H9 _ e9 h9 hE9 => ⟨(by show 3 ≤ sizeLine; decide), fun t nt => ?_⟩⟩
      have xt := Ex.new (o := .tup [V.str "net", .ref pe2, .ref pq2]) nt
      have F9 := F7.ex ((e8.trans e9).trans xt)
      exact ⟨t, pe2, pq2, as2, bs2, rfl, (e8.trans e9).trans xt, upd_same, F9.t, (e9.trans xt) _ _ h8, hE8.exx (e9.trans xt), xt _ _ h9, hE9.exx xt, hTr2, by rw [List.length_map]; exact q1, by rw [List.length_map]; exact q8, fun e he => by rw [List.length_map]; exact hqb3 qs hqb2 e he⟩
    rintro σ' H8 ⟨t, pe2, pq2, as2, bs2, rfl, e8, ht, G8⟩
    have F8 := F7.ex e8
    have hL8 := e8 _ _ hL7
    clear F7 hL7 e8
    have eN : netT (es.map (Nl.nm (Nl.two u v))) (qs.map (Nl.nm (Nl.two u v))) = netT es qs := Nl.net_nm two2 es qs
    refine ⟨fun σ' H' => σ' = [some (.ref a0), some (.int c), some (.ref s), some (.int m), some (.ref pe), some (.ref pq), some (.ref pt), some (.int u), some (.int v), some (.ref t), y10, y11, y12, y13] ∧ Ex H8 H', ?_, ?_⟩
    · refine s_when (b := false) (et_is (et_or (a := false) (b := false) (et_test (fun H9 e9 Q9 q9 => ⟨_, rfl, er_lnet (K := K) (E := E0) (ea_cons (ev_var rfl) (ea_cons (ev_var rfl) ea_nil)) (F8.ex e9) H9 (Ex.refl _) _ fun p as' H10 e10 h10 => rv_neT (F8.ex (e9.trans e10)).t.tab h10 H10 (Ex.refl _) _ fun H11 e11 => q9 H11 (e10.trans e11)⟩)) (fun _ => et_is (et_or (a := false) (b := false) (et_is (et_not (et_B (ev_netN rfl rfl rfl F8))) (by rw [decide_eq_true rfl]; rfl)) (fun _ => et_is (et_not (et_B (ev_netV rfl rfl ht G8))) (by rw [eN, decide_eq_true rfl]; rfl))) rfl)) rfl) (fun z => nomatch z) (fun _ H9 e9 => ⟨rfl, e9⟩)
    rintro σ' H9 ⟨rfl, e9⟩
    have F9 := F8.ex e9
    have hL9 := e9 _ _ hL8
    clear F8 hL8 e9 G8 ht eN
    -- the ends alone named otherwise
    refine ⟨fun σ' H' => ∃ th pe3 as3, σ' = [some (.ref a0), some (.int c), some (.ref s), some (.int m), some (.ref pe), some (.ref pq), some (.ref pt), some (.int u), some (.int v), some (.ref t), some (.ref th), y11, y12, y13] ∧ Ex H9 H' ∧ H' th = some (.tup [.str "net", .ref pe3, .ref pq]) ∧ NetF H' pt ts (netT es qs) m qs.length pe3 as3 (es.map (Nl.nm (Nl.two u v))) pq bs qs, ?_, ?_⟩
    · refine ⟨_, rfl, _, rfl, _, rfl, pe, as, es, u, v, rfl, F9.e, F9.eE, by omega, nuv, fun pe2 as2 H8 _ e8 h8 hE8 => ?_⟩
      refine ⟨_, rfl, (by show 3 ≤ sizeLine; decide), fun th nt => ?_⟩
      have xt := Ex.new (o := .tup [V.str "net", .ref pe2, .ref pq]) nt
      have F10 := F9.ex (e8.trans xt)
      exact ⟨th, pe2, as2, rfl, e8.trans xt, upd_same, F10.t, xt _ _ h8, hE8.exx xt, F10.a, F10.aE, hTr2, q1, q8, fun e he => by rw [List.length_map]; exact hqb2 e he⟩
    rintro σ' H10 ⟨th, pe3, as3, rfl, e10, hth, G10⟩
    have F10 := F9.ex e10
    have hL10 := e10 _ _ hL9
    clear F9 hL9 e10
    refine ⟨fun σ' H' => σ' = [some (.ref a0), some (.int c), some (.ref s), some (.int m), some (.ref pe), some (.ref pq), some (.ref pt), some (.int u), some (.int v), some (.ref t), some (.ref th), y11, y12, y13] ∧ Ex H10 H', ?_, ?_⟩
    · refine s_when (b := false) (et_is (et_test (ev_op (ev_netV rfl rfl hth G10) (fun H11 e11 Q11 q11 => er_lnet (K := K) (E := E0) (ea_cons (ev_op (ev_var rfl) ev_c (rv_ixT (SqT.of (e11 _ _ hth)) rfl)) (ea_cons (ev_var rfl) ea_nil)) (G10.ex e11) H11 (Ex.refl _) _ fun p as' H12 e12 h12 => ⟨_, rfl, rv_eqG h12 (G10.ex (e11.trans e12)).t.tab H12 (Ex.refl _) _ fun H13 e13 => q11 H13 (e12.trans e13)⟩) (rv_ne rfl))) (by rw [decide_eq_true rfl]; rfl)) (fun z => nomatch z) (fun _ H11 e11 => ⟨rfl, e11⟩)
    rintro σ' H11 ⟨rfl, e11⟩
    have F11 := F10.ex e11
    have hL11 := e11 _ _ hL10
    clear F10 hL10 e11 G10 hth
    -- the arcs turned round
    refine ⟨fun σ' H' => ∃ tb pq3 bs3, σ' = [some (.ref a0), some (.int c), some (.ref s), some (.int m), some (.ref pe), some (.ref pq), some (.ref pt), some (.int u), some (.int v), some (.ref t), some (.ref th), some (.ref tb), y12, y13] ∧ Ex H11 H' ∧ H' tb = some (.tup [.str "net", .ref pe, .ref pq3]) ∧ NetF H' pt ts (netT es qs) m qs.length pe as es pq3 bs3 (qs.map fun e => (e.2, e.1)), ?_, ?_⟩
    · refine ⟨_, rfl, lc_back (K := K) (nn := 5) (j := 13) (vs := [13]) (σ := [some (.ref a0), some (.int c), some (.ref s), some (.int m), some (.ref pe), some (.ref pq), some (.ref pt), some (.int u), some (.int v), some (.ref t), some (.ref th), y11, y12, y13]) rfl F11.a F11.aE (by omega) (fun u => rfl) (fun u => rfl) fun D bs3 H12 _ e12 hD hB => ⟨(by show 3 ≤ sizeLine; decide), fun tb nt => ?_⟩⟩
      have xt := Ex.new (o := .tup [V.str "net", .ref pe, .ref D]) nt
      have F12 := F11.ex (e12.trans xt)
      exact ⟨tb, D, bs3, rfl, e12.trans xt, upd_same, F12.t, F12.e, F12.eE, xt _ _ hD, hB.exx xt, hTr, by rw [List.length_map]; exact q1, by rw [List.length_map]; exact q8, fun e he => by
        obtain ⟨d, hd, rfl⟩ := List.mem_map.mp he
        have := hqb2 d hd
        exact ⟨this.2.2.1, this.2.2.2, this.1, this.2.1⟩⟩
    rintro σ' H12 ⟨tb, pq3, bs3, rfl, e12, htb, G12⟩
    have F12 := F11.ex e12
    have hL12 := e12 _ _ hL11
    clear F11 hL11 e12
    have eB : decide (netT es (qs.map fun e => (e.2, e.1)) = netT es qs) = decide (netT es qs = List.replicate m (List.replicate qs.length 0)) := by
      have h1 := Nl.net_back es qs
      have h2 := neg_tab (netT es qs) dw
      rw [dl, el] at h2
      rw [h1]
      exact decide_eq_decide.mpr h2
    refine s_when (b := false) (et_is (et_test (ev_op (ev_is (ev_netV rfl rfl htb G12) (congrArg V.bl eB)) (fun H13 e13 Q13 q13 => ⟨_, rfl, ?_⟩) (rv_ne rfl))) (by rw [decide_eq_true rfl]; rfl)) (fun z => nomatch z) (fun _ H13 e13 => ⟨_, _, _, _, _, _, _, _, _, _, _, _, _, rfl, e13 _ _ hL12⟩)
    refine ⟨(by show 1 ≤ sizeLine; decide), fun l1 nl1 => ⟨_, rfl, pq, _, rfl, .inl (SqL.of ((e13.trans (Ex.new nl1)) _ _ F12.a)), ?_⟩⟩
    have x1 := Ex.new (o := .lst [V.int 0]) nl1
    have lb : bs.length = qs.length := Paired.length F12.aE
    rw [List.length_map, lb]
    refine ⟨l1, _, _, rfl, rfl, upd_same, by omega, by omega, (by show 1 * (qs.length : Int).toNat ≤ sizeLine; exact Nat.le_trans (show 1 * (qs.length : Int).toNat ≤ 1000 by omega) (by decide)), fun l2 nl2 => ⟨(by show 1 ≤ sizeLine; decide), fun l3 nl3 => ⟨_, rfl, l3, _, _, rfl, rfl, upd_same, by omega, by omega, (by show 1 * (m : Int).toNat ≤ sizeLine; exact Nat.le_trans (show 1 * (m : Int).toNat ≤ 1000 by omega) (by decide)), fun l4 nl4 => ?_⟩⟩⟩
    rw [Int.toNat_natCast] at nl3 nl4 ⊢
    rw [Int.toNat_natCast]
    have x2 := Ex.new (o := .lst (List.replicate qs.length [V.int 0]).flatten) nl2
    have x3 := Ex.new (o := .lst [V.ref l2]) nl3
    have x4 := Ex.new (o := .lst (List.replicate m [V.ref l2]).flatten) nl4
    have x14 := (x1.trans x2).trans (x3.trans x4)
    refine rv_eqG ((F12.ex (e13.trans x14)).t.tab) (q := l4) (bs := List.replicate m l2) (B := List.replicate m (List.replicate qs.length 0)) ⟨by rw [upd_same, rep_refs], paired_rep (R := fun a (r : List Int) => _ = some (HO.lst (r.map V.int))) (by rw [← rep_flat]; exact (x3.trans x4) _ _ upd_same) _⟩ _ (Ex.refl _) _ fun H14 e14 => q13 H14 (x14.trans e14)
end
/-! ### the head: facts by names, the run -/
def d_init_NoTree : He.DefD := ⟨("NoTree", some "__init__"), "__init__", "NoTree.__init__", defArgs s_init_NoTree, defBody s_init_NoTree, defScope s_init_NoTree, [], []⟩
def d_init_NoArcs : He.DefD := ⟨("NoArcs", some "__init__"), "__init__", "NoArcs.__init__", defArgs s_init_NoArcs, defBody s_init_NoArcs, defScope s_init_NoArcs, [], []⟩
def d_init_TooMany : He.DefD := ⟨("TooMany", some "__init__"), "__init__", "TooMany.__init__", defArgs s_init_TooMany, defBody s_init_TooMany, defScope s_init_TooMany, [], []⟩
def d_is_whole : He.DefD := ⟨("is_whole", none), "is_whole", "is_whole", defArgs s_is_whole, defBody s_is_whole, defScope s_is_whole, [], []⟩
def d_all_lists : He.DefD := ⟨("all_lists", none), "all_lists", "all_lists", defArgs s_all_lists, defBody s_all_lists, defScope s_all_lists, [], []⟩
def d_is_table : He.DefD := ⟨("is_table", none), "is_table", "is_table", defArgs s_is_table, defBody s_is_table, defScope s_is_table, [], []⟩
def d_is_row : He.DefD := ⟨("is_row", none), "is_row", "is_row", defArgs s_is_row, defBody s_is_row, defScope s_is_row, [], []⟩
def d_check_table : He.DefD := ⟨("check_table", none), "check_table", "check_table", defArgs s_check_table, defBody s_check_table, defScope s_check_table, [], []⟩
def d_is_place : He.DefD := ⟨("is_place", none), "is_place", "is_place", defArgs s_is_place, defBody s_is_place, defScope s_is_place, [], []⟩
def d_turned : He.DefD := ⟨("turned", none), "turned", "turned", defArgs s_turned, defBody s_turned, defScope s_turned, [], []⟩
def d_net_table : He.DefD := ⟨("net_table", none), "net_table", "net_table", defArgs s_net_table, defBody s_net_table, defScope s_net_table, [], []⟩
def d_check_ends : He.DefD := ⟨("check_ends", none), "check_ends", "check_ends", defArgs s_check_ends, defBody s_check_ends, defScope s_check_ends, [], []⟩
def d_check_arcs : He.DefD := ⟨("check_arcs", none), "check_arcs", "check_arcs", defArgs s_check_arcs, defBody s_check_arcs, defScope s_check_arcs, [], []⟩
def d_is_arc : He.DefD := ⟨("is_arc", none), "is_arc", "is_arc", defArgs s_is_arc, defBody s_is_arc, defScope s_is_arc, [], []⟩
def d_joined : He.DefD := ⟨("joined", none), "joined", "joined", defArgs s_joined, defBody s_joined, defScope s_joined, [], []⟩
def d_first_side : He.DefD := ⟨("first_side", none), "first_side", "first_side", defArgs s_first_side, defBody s_first_side, defScope s_first_side, [], []⟩
def d_as_net : He.DefD := ⟨("as_net", none), "as_net", "as_net", defArgs s_as_net, defBody s_as_net, defScope s_as_net, [], []⟩
def d_tree_for : He.DefD := ⟨("tree_for", none), "tree_for", "tree_for", defArgs s_tree_for, defBody s_tree_for, defScope s_tree_for, [], []⟩
def d_all_grown : He.DefD := ⟨("all_grown", none), "all_grown", "all_grown", defArgs s_all_grown, defBody s_all_grown, defScope s_all_grown, [], []⟩
def d_moved : He.DefD := ⟨("moved", none), "moved", "moved", defArgs s_moved, defBody s_moved, defScope s_moved, [], []⟩
def d_arc_for : He.DefD := ⟨("arc_for", none), "arc_for", "arc_for", defArgs s_arc_for, defBody s_arc_for, defScope s_arc_for, [], []⟩
def d_is_net : He.DefD := ⟨("is_net", none), "is_net", "is_net", defArgs s_is_net, defBody s_is_net, defScope s_is_net, [], []⟩
def d__law_source_of : He.DefD := ⟨("_law_source_of", none), "_law_source_of", "_law_source_of", defArgs s__law_source_of, defBody s__law_source_of, defScope s__law_source_of, [], []⟩
def d__law_next : He.DefD := ⟨("_law_next", none), "_law_next", "_law_next", defArgs s__law_next, defBody s__law_next, defScope s__law_next, [], []⟩
def d__law_cell_at : He.DefD := ⟨("_law_cell_at", none), "_law_cell_at", "_law_cell_at", defArgs s__law_cell_at, defBody s__law_cell_at, defScope s__law_cell_at, [], []⟩
def d__law_mixed : He.DefD := ⟨("_law_mixed", none), "_law_mixed", "_law_mixed", defArgs s__law_mixed, defBody s__law_mixed, defScope s__law_mixed, [], []⟩
def d__law_ends : He.DefD := ⟨("_law_ends", none), "_law_ends", "_law_ends", defArgs s__law_ends, defBody s__law_ends, defScope s__law_ends, [], []⟩
def d__law_net : He.DefD := ⟨("_law_net", none), "_law_net", "_law_net", defArgs s__law_net, defBody s__law_net, defScope s__law_net, [], []⟩
def d__law_said : He.DefD := ⟨("_law_said", none), "_law_said", "_law_said", defArgs s__law_said, defBody s__law_said, defScope s__law_said, [], []⟩
def d__law_named : He.DefD := ⟨("_law_named", none), "_law_named", "_law_named", defArgs s__law_named, defBody s__law_named, defScope s__law_named, [], []⟩
def d_law : He.DefD := ⟨("law", none), "law", "law", defArgs s_law, defBody s_law, defScope s_law, [], []⟩
def fnL : List He.DefD := [d_init_NoTree, d_init_NoArcs, d_init_TooMany, d_is_whole, d_all_lists, d_is_table, d_is_row, d_check_table, d_is_place, d_turned, d_net_table, d_check_ends, d_check_arcs, d_is_arc, d_joined, d_first_side, d_as_net, d_tree_for, d_all_grown, d_moved, d_arc_for, d_is_net, d__law_source_of, d__law_next, d__law_cell_at, d__law_mixed, d__law_ends, d__law_net, d__law_said, d__law_named, d_law]
def faL : List He.Fa := [.glo "is_whole", .glo "all_lists", .glo "is_table", .glo "is_row", .glo "check_table", .glo "is_place", .glo "turned", .glo "net_table", .glo "check_ends", .glo "check_arcs", .glo "is_arc", .glo "joined", .glo "first_side", .glo "as_net", .glo "tree_for", .glo "all_grown", .glo "moved", .glo "arc_for", .glo "is_net", .glo "_law_source_of", .glo "_law_next", .glo "_law_cell_at", .glo "_law_mixed", .glo "_law_ends", .glo "_law_net", .glo "_law_said", .glo "_law_named", .glo "law", .glo "SignError", .glo "BadTable", .glo "NoTree", .glo "NoArcs", .glo "TooMany", .free "all", .free "bool", .free "enumerate", .free "int", .free "isinstance", .free "len", .free "list", .free "range", .free "sorted", .free "str", .free "tuple", .free "zip", .int "MOST" 8, .int "MOST_ROWS" 5]
def exs (K : PySem.W.Frag) : List Bool := [
  decide (PySem.W.keepIn K (.ref (He.ga K "SignError")) = true),
  decide (PySem.W.subIn K (.ref (He.ga K "SignError")) (.type "BaseException") = some true),
  decide (PySem.W.typeIn K (.ref (He.ga K "SignError")) = some (.type "type")),
  decide (PySem.W.keepIn K (.ref (He.ga K "BadTable")) = true),
  decide (PySem.W.subIn K (.ref (He.ga K "BadTable")) (.type "BaseException") = some true),
  decide (PySem.W.typeIn K (.ref (He.ga K "BadTable")) = some (.type "type")),
  decide (PySem.W.excIn K (He.ga K "BadTable") aeT "ArithmeticError.__new__" = true),
  decide (PySem.W.keepIn K (.ref (He.ga K "NoTree")) = true),
  decide (PySem.W.subIn K (.ref (He.ga K "NoTree")) (.type "BaseException") = some true),
  decide (PySem.W.typeIn K (.ref (He.ga K "NoTree")) = some (.type "type")),
  decide (PySem.W.keepIn K (.ref (He.ga K "NoArcs")) = true),
  decide (PySem.W.subIn K (.ref (He.ga K "NoArcs")) (.type "BaseException") = some true),
  decide (PySem.W.typeIn K (.ref (He.ga K "NoArcs")) = some (.type "type")),
  decide (PySem.W.keepIn K (.ref (He.ga K "TooMany")) = true),
  decide (PySem.W.subIn K (.ref (He.ga K "TooMany")) (.type "BaseException") = some true),
  decide (PySem.W.typeIn K (.ref (He.ga K "TooMany")) = some (.type "type")),
  decide (PySem.W.readsIn K (He.ga K "SignError") (.type "type") = true),
  decide (PySem.W.specialIn K (.ref (He.ga K "SignError")) "__getattribute__" = some (some (.builtin "type.__getattribute__"))),
  fiB K (He.ga K "SignError"),
  ownB K (He.ga K "NoTree") (He.ga K "SignError"),
  decide (PySem.W.findIn K (.ref (He.ga K "NoTree")) "__init__" = some (some (.ref (He.fAd K ("NoTree", some "__init__"))))),
  decide (PySem.W.typeIn K (.ref (He.fAd K ("NoTree", some "__init__"))) = some (.type "function")),
  decide (PySem.W.findIn K (.ref (He.ga K "NoTree")) "at" = some none),
  ownB K (He.ga K "NoArcs") (He.ga K "SignError"),
  decide (PySem.W.findIn K (.ref (He.ga K "NoArcs")) "__init__" = some (some (.ref (He.fAd K ("NoArcs", some "__init__"))))),
  decide (PySem.W.typeIn K (.ref (He.fAd K ("NoArcs", some "__init__"))) = some (.type "function")),
  decide (PySem.W.findIn K (.ref (He.ga K "NoArcs")) "at" = some none),
  ownB K (He.ga K "TooMany") (He.ga K "SignError"),
  decide (PySem.W.findIn K (.ref (He.ga K "TooMany")) "__init__" = some (some (.ref (He.fAd K ("TooMany", some "__init__"))))),
  decide (PySem.W.typeIn K (.ref (He.fAd K ("TooMany", some "__init__"))) = some (.type "function")),
  decide (PySem.W.findIn K (.ref (He.ga K "TooMany")) "many" = some none),
  xfB K (He.ga K "TooMany"),
  ecB K (He.ga K "TooMany"),
  decide (PySem.W.exmOne K (.ref (He.ga K "TooMany")) (.ref (He.ga K "SignError")) = some true),
  decide (PySem.W.kitOne K (.ref (He.ga K "TooMany")) (.ref (He.ga K "TooMany")) = some true),
  decide (PySem.W.kitOne K (.ref (He.ga K "TooMany")) (.ref (He.ga K "BadTable")) = some false),
  decide (PySem.W.kitOne K (.ref (He.ga K "TooMany")) (.ref (He.ga K "NoTree")) = some false)]
def exL (K : PySem.W.Frag) : Bool := (exs K).all id
theorem ex_at {K : PySem.W.Frag} (h : exL K = true) (i : Nat) {b : Bool} (e : (exs K)[i]? = some b) : b = true := List.all_eq_true.mp h b (List.mem_of_getElem? e)
def tfL : List He.Defn := [("law", none)]
abbrev RL : PySem.W.OpenRow := PySem.W.OpenLaw.row PySem.Challenge.rw_signbook_k57_more_rows_than_nets_are_sou
abbrev hkL : PySem.W.Hook := L2.hookY 4 faL fnL [] tfL exL
def obL (s : PySem.W.SharedT) : He.AlX := L2.obsY 4 faL fnL [] tfL exL (HandSHeadRun.getT s)
theorem ob_eqL (s : PySem.W.SharedT) : obL s = hkL.obs s.abs := L2.obsY_eq (HandSHeadRun.getT_eq s)
def looseL : List Str := (["SignError", "BadTable", "NoTree", "NoArcs", "TooMany", "is_whole", "all_lists", "MOST", "is_table", "is_row", "check_table", "is_place", "turned", "MOST_ROWS", "net_table", "check_ends", "check_arcs", "is_arc", "joined", "first_side", "as_net", "tree_for", "all_grown", "moved", "arc_for", "is_net", "_law_source_of", "_law_next", "_law_cell_at", "_law_mixed"] : List Str) ++ (["_law_ends", "_law_net", "_law_said", "_law_named"] : List Str)
theorem runL (w : World) : HandSHeadRun.RunEq RL (PySem.W.view RL.prog [40]) hkL obL 60000 looseL w := by
  intro os
  kernel_rfl
theorem factsL {w : World} {K : PySem.W.Frag} {h : Heap} {mg : Str → Option Value} {fa : Addr} (X : K.In h) (G : h.Ns mainGlobals mg) (hfa : mg ("law" : Str) = some (.ref fa)) (c : He.SaysX faL fnL [] tfL exL w h K) : LamX.LawAtS PySem.Challenge.rw_signbook_k57_more_rows_than_nets_are_sou w K CX0 12 63 "_law_script" mg fa h := by
  have cd : He.SaysD faL fnL K := congrArg (fun z : He.AlT => z.1) c.t
  have ce : exL K = true := c.more
  obtain ⟨fd0, D0⟩ := cd.def_ 0 (d := d_init_NoTree) rfl
  obtain ⟨fd1, D1⟩ := cd.def_ 1 (d := d_init_NoArcs) rfl
  obtain ⟨fd2, D2⟩ := cd.def_ 2 (d := d_init_TooMany) rfl
  obtain ⟨fd3, D3⟩ := cd.def_ 3 (d := d_is_whole) rfl
  obtain ⟨fd4, D4⟩ := cd.def_ 4 (d := d_all_lists) rfl
  obtain ⟨fd5, D5⟩ := cd.def_ 5 (d := d_is_table) rfl
  obtain ⟨fd6, D6⟩ := cd.def_ 6 (d := d_is_row) rfl
  obtain ⟨fd7, D7⟩ := cd.def_ 7 (d := d_check_table) rfl
  obtain ⟨fd8, D8⟩ := cd.def_ 8 (d := d_is_place) rfl
  obtain ⟨fd9, D9⟩ := cd.def_ 9 (d := d_turned) rfl
  obtain ⟨fd10, D10⟩ := cd.def_ 10 (d := d_net_table) rfl
  obtain ⟨fd11, D11⟩ := cd.def_ 11 (d := d_check_ends) rfl
  obtain ⟨fd12, D12⟩ := cd.def_ 12 (d := d_check_arcs) rfl
  obtain ⟨fd13, D13⟩ := cd.def_ 13 (d := d_is_arc) rfl
  obtain ⟨fd14, D14⟩ := cd.def_ 14 (d := d_joined) rfl
  obtain ⟨fd15, D15⟩ := cd.def_ 15 (d := d_first_side) rfl
  obtain ⟨fd16, D16⟩ := cd.def_ 16 (d := d_as_net) rfl
  obtain ⟨fd17, D17⟩ := cd.def_ 17 (d := d_tree_for) rfl
  obtain ⟨fd18, D18⟩ := cd.def_ 18 (d := d_all_grown) rfl
  obtain ⟨fd19, D19⟩ := cd.def_ 19 (d := d_moved) rfl
  obtain ⟨fd20, D20⟩ := cd.def_ 20 (d := d_arc_for) rfl
  obtain ⟨fd21, D21⟩ := cd.def_ 21 (d := d_is_net) rfl
  obtain ⟨fd22, D22⟩ := cd.def_ 22 (d := d__law_source_of) rfl
  obtain ⟨fd23, D23⟩ := cd.def_ 23 (d := d__law_next) rfl
  obtain ⟨fd24, D24⟩ := cd.def_ 24 (d := d__law_cell_at) rfl
  obtain ⟨fd25, D25⟩ := cd.def_ 25 (d := d__law_mixed) rfl
  obtain ⟨fd26, D26⟩ := cd.def_ 26 (d := d__law_ends) rfl
  obtain ⟨fd27, D27⟩ := cd.def_ 27 (d := d__law_net) rfl
  obtain ⟨fd28, D28⟩ := cd.def_ 28 (d := d__law_said) rfl
  obtain ⟨fd29, D29⟩ := cd.def_ 29 (d := d__law_named) rfl
  obtain ⟨fd30, D30⟩ := cd.def_ 30 (d := d_law) rfl
  have F0 : Fun K "__init__" "NoTree.__init__" s_init_NoTree (He.fAd K ("NoTree", some "__init__")) fd0 := funD_fun D0
  have b0 := F0.binds (ps := ["self", "at"]) fun _ _ _ _ _ _ us hl => match us, hl with | [_, _], _ => rfl
  have F1 : Fun K "__init__" "NoArcs.__init__" s_init_NoArcs (He.fAd K ("NoArcs", some "__init__")) fd1 := funD_fun D1
  have b1 := F1.binds (ps := ["self", "at"]) fun _ _ _ _ _ _ us hl => match us, hl with | [_, _], _ => rfl
  have F2 : Fun K "__init__" "TooMany.__init__" s_init_TooMany (He.fAd K ("TooMany", some "__init__")) fd2 := funD_fun D2
  have b2 := F2.binds (ps := ["self", "many"]) fun _ _ _ _ _ _ us hl => match us, hl with | [_, _], _ => rfl
  have F3 : Fun K "is_whole" "is_whole" s_is_whole (He.ga K "is_whole") fd3 := funD_fun D3
  have b3 := F3.binds (ps := ["thing"]) fun _ _ _ _ _ _ us hl => match us, hl with | [_], _ => rfl
  have F4 : Fun K "all_lists" "all_lists" s_all_lists (He.ga K "all_lists") fd4 := funD_fun D4
  have b4 := F4.binds (ps := ["choices"]) fun _ _ _ _ _ _ us hl => match us, hl with | [_], _ => rfl
  have F5 : Fun K "is_table" "is_table" s_is_table (He.ga K "is_table") fd5 := funD_fun D5
  have b5 := F5.binds (ps := ["thing"]) fun _ _ _ _ _ _ us hl => match us, hl with | [_], _ => rfl
  have F6 : Fun K "is_row" "is_row" s_is_row (He.ga K "is_row") fd6 := funD_fun D6
  have b6 := F6.binds (ps := ["thing"]) fun _ _ _ _ _ _ us hl => match us, hl with | [_], _ => rfl
  have F7 : Fun K "check_table" "check_table" s_check_table (He.ga K "check_table") fd7 := funD_fun D7
  have b7 := F7.binds (ps := ["thing"]) fun _ _ _ _ _ _ us hl => match us, hl with | [_], _ => rfl
  have F8 : Fun K "is_place" "is_place" s_is_place (He.ga K "is_place") fd8 := funD_fun D8
  have b8 := F8.binds (ps := ["thing", "many"]) fun _ _ _ _ _ _ us hl => match us, hl with | [_, _], _ => rfl
  have F9 : Fun K "turned" "turned" s_turned (He.ga K "turned") fd9 := funD_fun D9
  have b9 := F9.binds (ps := ["table"]) fun _ _ _ _ _ _ us hl => match us, hl with | [_], _ => rfl
  have F10 : Fun K "net_table" "net_table" s_net_table (He.ga K "net_table") fd10 := funD_fun D10
  have b10 := F10.binds (ps := ["ends", "arcs"]) fun _ _ _ _ _ _ us hl => match us, hl with | [_, _], _ => rfl
  have F11 : Fun K "check_ends" "check_ends" s_check_ends (He.ga K "check_ends") fd11 := funD_fun D11
  have b11 := F11.binds (ps := ["thing"]) fun _ _ _ _ _ _ us hl => match us, hl with | [_], _ => rfl
  have F12 : Fun K "check_arcs" "check_arcs" s_check_arcs (He.ga K "check_arcs") fd12 := funD_fun D12
  have b12 := F12.binds (ps := ["thing", "many"]) fun _ _ _ _ _ _ us hl => match us, hl with | [_, _], _ => rfl
  have F13 : Fun K "is_arc" "is_arc" s_is_arc (He.ga K "is_arc") fd13 := funD_fun D13
  have b13 := F13.binds (ps := ["thing", "many"]) fun _ _ _ _ _ _ us hl => match us, hl with | [_, _], _ => rfl
  have F14 : Fun K "joined" "joined" s_joined (He.ga K "joined") fd14 := funD_fun D14
  have b14 := F14.binds (ps := ["groups", "one", "other"]) fun _ _ _ _ _ _ us hl => match us, hl with | [_, _, _], _ => rfl
  have F15 : Fun K "first_side" "first_side" s_first_side (He.ga K "first_side") fd15 := funD_fun D15
  have b15 := F15.binds (ps := ["ends", "at"]) fun _ _ _ _ _ _ us hl => match us, hl with | [_, _], _ => rfl
  have F16 : Fun K "as_net" "as_net" s_as_net (He.ga K "as_net") fd16 := funD_fun D16
  have b16 := F16.binds (ps := ["table"]) fun _ _ _ _ _ _ us hl => match us, hl with | [_], _ => rfl
  have F17 : Fun K "tree_for" "tree_for" s_tree_for (He.ga K "tree_for") fd17 := funD_fun D17
  have b17 := F17.binds (ps := ["columns", "many", "ends"]) fun _ _ _ _ _ _ us hl => match us, hl with | [_, _, _], _ => rfl
  have F18 : Fun K "all_grown" "all_grown" s_all_grown (He.ga K "all_grown") fd18 := funD_fun D18
  have b18 := F18.binds (ps := ["ends"]) fun _ _ _ _ _ _ us hl => match us, hl with | [_], _ => rfl
  have F19 : Fun K "moved" "moved" s_moved (He.ga K "moved") fd19 := funD_fun D19
  have b19 := F19.binds (ps := ["end", "place", "new"]) fun _ _ _ _ _ _ us hl => match us, hl with | [_, _, _], _ => rfl
  have F20 : Fun K "arc_for" "arc_for" s_arc_for (He.ga K "arc_for") fd20 := funD_fun D20
  have b20 := F20.binds (ps := ["ends", "column"]) fun _ _ _ _ _ _ us hl => match us, hl with | [_, _], _ => rfl
  have F21 : Fun K "is_net" "is_net" s_is_net (He.ga K "is_net") fd21 := funD_fun D21
  have b21 := F21.binds (ps := ["table", "thing"]) fun _ _ _ _ _ _ us hl => match us, hl with | [_, _], _ => rfl
  have F22 : Fun K "_law_source_of" "_law_source_of" s__law_source_of (He.ga K "_law_source_of") fd22 := funD_fun D22
  have b22 := F22.binds (ps := ["_law_cell"]) fun _ _ _ _ _ _ us hl => match us, hl with | [_], _ => rfl
  have F23 : Fun K "_law_next" "_law_next" s__law_next (He.ga K "_law_next") fd23 := funD_fun D23
  have b23 := F23.binds (ps := ["_law_source", "_law_many"]) fun _ _ _ _ _ _ us hl => match us, hl with | [_, _], _ => rfl
  have F24 : Fun K "_law_cell_at" "_law_cell_at" s__law_cell_at (He.ga K "_law_cell_at") fd24 := funD_fun D24
  have b24 := F24.binds (ps := ["_law_script", "_law_k"]) fun _ _ _ _ _ _ us hl => match us, hl with | [_, _], _ => rfl
  have F25 : Fun K "_law_mixed" "_law_mixed" s__law_mixed (He.ga K "_law_mixed") fd25 := funD_fun D25
  have b25 := F25.binds (ps := ["_law_source", "_law_some"]) fun _ _ _ _ _ _ us hl => match us, hl with | [_, _], _ => rfl
  have F26 : Fun K "_law_ends" "_law_ends" s__law_ends (He.ga K "_law_ends") fd26 := funD_fun D26
  have b26 := F26.binds (ps := ["_law_source", "_law_many"]) fun _ _ _ _ _ _ us hl => match us, hl with | [_, _], _ => rfl
  have F27 : Fun K "_law_net" "_law_net" s__law_net (He.ga K "_law_net") fd27 := funD_fun D27
  have b27 := F27.binds (ps := ["_law_ends_here", "_law_arcs"]) fun _ _ _ _ _ _ us hl => match us, hl with | [_, _], _ => rfl
  have F28 : Fun K "_law_said" "_law_said" s__law_said (He.ga K "_law_said") fd28 := funD_fun D28
  have b28 := F28.binds (ps := ["_law_table"]) fun _ _ _ _ _ _ us hl => match us, hl with | [_], _ => rfl
  have F29 : Fun K "_law_named" "_law_named" s__law_named (He.ga K "_law_named") fd29 := funD_fun D29
  have b29 := F29.binds (ps := ["_law_some", "_law_one", "_law_two"]) fun _ _ _ _ _ _ us hl => match us, hl with | [_, _, _], _ => rfl
  have F30 : Fun K "law" "law" s_law (He.ga K "law") fd30 := funD_fun D30
  have b30 := F30.binds (ps := ["_law_script"]) fun _ _ _ _ _ _ us hl => match us, hl with | [_], _ => rfl
  obtain ⟨tk_MOST, gk_MOST⟩ := He.int_ok X G (cd.fact 45 (f := .int "MOST" 8) rfl)
  obtain ⟨tk_MOST_ROWS, gk_MOST_ROWS⟩ := He.int_ok X G (cd.fact 46 (f := .int "MOST_ROWS" 5) rfl)
  have e := hfa.symm.trans (He.glo_ok X G (cd.fact 27 (f := .glo "law") rfl))
  cases e
  obtain ⟨ocL, odL, kVL, docL, pmL, anL, cdvL, ctL, oslL, eL, lkL, hcL⟩ := F30.ex
  obtain ⟨cL, ecL⟩ := He.codeIn_ref hcL
  subst ecL
  have eC : He.codeOf K ("law", none) = cL := by
    have lk2 := lkL
    rw [eL] at lk2
    exact He.codeOf_eq (p := ("law", none)) lk2 rfl
  let T : Txt K mg := {
    f_init_NoTree := (He.fAd K ("NoTree", some "__init__")), fd_init_NoTree := fd0, F_init_NoTree := F0, b_init_NoTree := b0,
    f_init_NoArcs := (He.fAd K ("NoArcs", some "__init__")), fd_init_NoArcs := fd1, F_init_NoArcs := F1, b_init_NoArcs := b1,
    f_init_TooMany := (He.fAd K ("TooMany", some "__init__")), fd_init_TooMany := fd2, F_init_TooMany := F2, b_init_TooMany := b2,
    f_is_whole := (He.ga K "is_whole"), fd_is_whole := fd3, F_is_whole := F3, g_is_whole := He.glo_ok X G (cd.fact 0 (f := .glo "is_whole") rfl), k_is_whole := F3.kp, b_is_whole := b3,
    f_all_lists := (He.ga K "all_lists"), fd_all_lists := fd4, F_all_lists := F4, g_all_lists := He.glo_ok X G (cd.fact 1 (f := .glo "all_lists") rfl), k_all_lists := F4.kp, b_all_lists := b4,
    f_is_table := (He.ga K "is_table"), fd_is_table := fd5, F_is_table := F5, g_is_table := He.glo_ok X G (cd.fact 2 (f := .glo "is_table") rfl), k_is_table := F5.kp, b_is_table := b5,
    f_is_row := (He.ga K "is_row"), fd_is_row := fd6, F_is_row := F6, g_is_row := He.glo_ok X G (cd.fact 3 (f := .glo "is_row") rfl), k_is_row := F6.kp, b_is_row := b6,
    f_check_table := (He.ga K "check_table"), fd_check_table := fd7, F_check_table := F7, g_check_table := He.glo_ok X G (cd.fact 4 (f := .glo "check_table") rfl), k_check_table := F7.kp, b_check_table := b7,
    f_is_place := (He.ga K "is_place"), fd_is_place := fd8, F_is_place := F8, g_is_place := He.glo_ok X G (cd.fact 5 (f := .glo "is_place") rfl), k_is_place := F8.kp, b_is_place := b8,
    f_turned := (He.ga K "turned"), fd_turned := fd9, F_turned := F9, g_turned := He.glo_ok X G (cd.fact 6 (f := .glo "turned") rfl), k_turned := F9.kp, b_turned := b9,
    f_net_table := (He.ga K "net_table"), fd_net_table := fd10, F_net_table := F10, g_net_table := He.glo_ok X G (cd.fact 7 (f := .glo "net_table") rfl), k_net_table := F10.kp, b_net_table := b10,
    f_check_ends := (He.ga K "check_ends"), fd_check_ends := fd11, F_check_ends := F11, g_check_ends := He.glo_ok X G (cd.fact 8 (f := .glo "check_ends") rfl), k_check_ends := F11.kp, b_check_ends := b11,
    f_check_arcs := (He.ga K "check_arcs"), fd_check_arcs := fd12, F_check_arcs := F12, g_check_arcs := He.glo_ok X G (cd.fact 9 (f := .glo "check_arcs") rfl), k_check_arcs := F12.kp, b_check_arcs := b12,
    f_is_arc := (He.ga K "is_arc"), fd_is_arc := fd13, F_is_arc := F13, g_is_arc := He.glo_ok X G (cd.fact 10 (f := .glo "is_arc") rfl), k_is_arc := F13.kp, b_is_arc := b13,
    f_joined := (He.ga K "joined"), fd_joined := fd14, F_joined := F14, g_joined := He.glo_ok X G (cd.fact 11 (f := .glo "joined") rfl), k_joined := F14.kp, b_joined := b14,
    f_first_side := (He.ga K "first_side"), fd_first_side := fd15, F_first_side := F15, g_first_side := He.glo_ok X G (cd.fact 12 (f := .glo "first_side") rfl), k_first_side := F15.kp, b_first_side := b15,
    f_as_net := (He.ga K "as_net"), fd_as_net := fd16, F_as_net := F16, g_as_net := He.glo_ok X G (cd.fact 13 (f := .glo "as_net") rfl), k_as_net := F16.kp, b_as_net := b16,
    f_tree_for := (He.ga K "tree_for"), fd_tree_for := fd17, F_tree_for := F17, g_tree_for := He.glo_ok X G (cd.fact 14 (f := .glo "tree_for") rfl), k_tree_for := F17.kp, b_tree_for := b17,
    f_all_grown := (He.ga K "all_grown"), fd_all_grown := fd18, F_all_grown := F18, g_all_grown := He.glo_ok X G (cd.fact 15 (f := .glo "all_grown") rfl), k_all_grown := F18.kp, b_all_grown := b18,
    f_moved := (He.ga K "moved"), fd_moved := fd19, F_moved := F19, g_moved := He.glo_ok X G (cd.fact 16 (f := .glo "moved") rfl), k_moved := F19.kp, b_moved := b19,
    f_arc_for := (He.ga K "arc_for"), fd_arc_for := fd20, F_arc_for := F20, g_arc_for := He.glo_ok X G (cd.fact 17 (f := .glo "arc_for") rfl), k_arc_for := F20.kp, b_arc_for := b20,
    f_is_net := (He.ga K "is_net"), fd_is_net := fd21, F_is_net := F21, g_is_net := He.glo_ok X G (cd.fact 18 (f := .glo "is_net") rfl), k_is_net := F21.kp, b_is_net := b21,
    f__law_source_of := (He.ga K "_law_source_of"), fd__law_source_of := fd22, F__law_source_of := F22, g__law_source_of := He.glo_ok X G (cd.fact 19 (f := .glo "_law_source_of") rfl), k__law_source_of := F22.kp, b__law_source_of := b22,
    f__law_next := (He.ga K "_law_next"), fd__law_next := fd23, F__law_next := F23, g__law_next := He.glo_ok X G (cd.fact 20 (f := .glo "_law_next") rfl), k__law_next := F23.kp, b__law_next := b23,
    f__law_cell_at := (He.ga K "_law_cell_at"), fd__law_cell_at := fd24, F__law_cell_at := F24, g__law_cell_at := He.glo_ok X G (cd.fact 21 (f := .glo "_law_cell_at") rfl), k__law_cell_at := F24.kp, b__law_cell_at := b24,
    f__law_mixed := (He.ga K "_law_mixed"), fd__law_mixed := fd25, F__law_mixed := F25, g__law_mixed := He.glo_ok X G (cd.fact 22 (f := .glo "_law_mixed") rfl), k__law_mixed := F25.kp, b__law_mixed := b25,
    f__law_ends := (He.ga K "_law_ends"), fd__law_ends := fd26, F__law_ends := F26, g__law_ends := He.glo_ok X G (cd.fact 23 (f := .glo "_law_ends") rfl), k__law_ends := F26.kp, b__law_ends := b26,
    f__law_net := (He.ga K "_law_net"), fd__law_net := fd27, F__law_net := F27, g__law_net := He.glo_ok X G (cd.fact 24 (f := .glo "_law_net") rfl), k__law_net := F27.kp, b__law_net := b27,
    f__law_said := (He.ga K "_law_said"), fd__law_said := fd28, F__law_said := F28, g__law_said := He.glo_ok X G (cd.fact 25 (f := .glo "_law_said") rfl), k__law_said := F28.kp, b__law_said := b28,
    f__law_named := (He.ga K "_law_named"), fd__law_named := fd29, F__law_named := F29, g__law_named := He.glo_ok X G (cd.fact 26 (f := .glo "_law_named") rfl), k__law_named := F29.kp, b__law_named := b29,
    f_law := (He.ga K "law"), fd_law := fd30, F_law := F30, g_law := He.glo_ok X G (cd.fact 27 (f := .glo "law") rfl), k_law := F30.kp, b_law := b30,
    f_SignError := He.ga K "SignError", g_SignError := He.glo_ok X G (cd.fact 28 (f := .glo "SignError") rfl),
    f_BadTable := He.ga K "BadTable", g_BadTable := He.glo_ok X G (cd.fact 29 (f := .glo "BadTable") rfl),
    f_NoTree := He.ga K "NoTree", g_NoTree := He.glo_ok X G (cd.fact 30 (f := .glo "NoTree") rfl),
    f_NoArcs := He.ga K "NoArcs", g_NoArcs := He.glo_ok X G (cd.fact 31 (f := .glo "NoArcs") rfl),
    f_TooMany := He.ga K "TooMany", g_TooMany := He.glo_ok X G (cd.fact 32 (f := .glo "TooMany") rfl),
    n_all := He.free_ok X G (cd.fact 33 (f := .free "all") rfl),
    n_bool := He.free_ok X G (cd.fact 34 (f := .free "bool") rfl),
    n_enumerate := He.free_ok X G (cd.fact 35 (f := .free "enumerate") rfl),
    n_int := He.free_ok X G (cd.fact 36 (f := .free "int") rfl),
    n_isinstance := He.free_ok X G (cd.fact 37 (f := .free "isinstance") rfl),
    n_len := He.free_ok X G (cd.fact 38 (f := .free "len") rfl),
    n_list := He.free_ok X G (cd.fact 39 (f := .free "list") rfl),
    n_range := He.free_ok X G (cd.fact 40 (f := .free "range") rfl),
    n_sorted := He.free_ok X G (cd.fact 41 (f := .free "sorted") rfl),
    n_str := He.free_ok X G (cd.fact 42 (f := .free "str") rfl),
    n_tuple := He.free_ok X G (cd.fact 43 (f := .free "tuple") rfl),
    n_zip := He.free_ok X G (cd.fact 44 (f := .free "zip") rfl),
    t_MOST := tk_MOST, g_MOST := gk_MOST,
    t_MOST_ROWS := tk_MOST_ROWS, g_MOST_ROWS := gk_MOST_ROWS,
    k_SignError := of_decide_eq_true (ex_at ce 0 rfl),
    ex_SignError := of_decide_eq_true (ex_at ce 1 rfl),
    tx_SignError := of_decide_eq_true (ex_at ce 2 rfl),
    k_BadTable := of_decide_eq_true (ex_at ce 3 rfl),
    ex_BadTable := of_decide_eq_true (ex_at ce 4 rfl),
    tx_BadTable := of_decide_eq_true (ex_at ce 5 rfl),
    x_BadTable := of_decide_eq_true (ex_at ce 6 rfl),
    k_NoTree := of_decide_eq_true (ex_at ce 7 rfl),
    ex_NoTree := of_decide_eq_true (ex_at ce 8 rfl),
    tx_NoTree := of_decide_eq_true (ex_at ce 9 rfl),
    k_NoArcs := of_decide_eq_true (ex_at ce 10 rfl),
    ex_NoArcs := of_decide_eq_true (ex_at ce 11 rfl),
    tx_NoArcs := of_decide_eq_true (ex_at ce 12 rfl),
    k_TooMany := of_decide_eq_true (ex_at ce 13 rfl),
    ex_TooMany := of_decide_eq_true (ex_at ce 14 rfl),
    tx_TooMany := of_decide_eq_true (ex_at ce 15 rfl),
    rd_SignError := of_decide_eq_true (ex_at ce 16 rfl),
    ga_SignError := of_decide_eq_true (ex_at ce 17 rfl),
    fi_SignError := fiB_ok (ex_at ce 18 rfl),
    own_NoTree := ownB_ok (ex_at ce 19 rfl),
    i_NoTree := of_decide_eq_true (ex_at ce 20 rfl),
    ty_NoTree := of_decide_eq_true (ex_at ce 21 rfl),
    no_NoTree := of_decide_eq_true (ex_at ce 22 rfl),
    own_NoArcs := ownB_ok (ex_at ce 23 rfl),
    i_NoArcs := of_decide_eq_true (ex_at ce 24 rfl),
    ty_NoArcs := of_decide_eq_true (ex_at ce 25 rfl),
    no_NoArcs := of_decide_eq_true (ex_at ce 26 rfl),
    own_TooMany := ownB_ok (ex_at ce 27 rfl),
    i_TooMany := of_decide_eq_true (ex_at ce 28 rfl),
    ty_TooMany := of_decide_eq_true (ex_at ce 29 rfl),
    no_TooMany := of_decide_eq_true (ex_at ce 30 rfl),
    xf_TooMany := xfB_ok (ex_at ce 31 rfl),
    ec_TooMany := ecB_ok (ex_at ce 32 rfl),
    exm_TooMany := of_decide_eq_true (ex_at ce 33 rfl),
    kit_TooMany_TooMany := of_decide_eq_true (ex_at ce 34 rfl),
    kit_TooMany_BadTable := of_decide_eq_true (ex_at ce 35 rfl),
    kit_TooMany_NoTree := of_decide_eq_true (ex_at ce 36 rfl),
    c_law := cL, P_law := He.tabOf K cL, lkL := ⟨ocL, odL, kVL, docL, pmL, anL, ctL, oslL, eL, lkL, hcL⟩ }
  have m0 : (("law", none) : He.Defn) ∈ tfL := List.mem_singleton.mpr rfl
  have q1 := c.empty _ m0
  have q2 := c.out _ m0
  have q3 := c.hd _ m0
  have eT : He.cT K ("law", none) = (cL, He.tabOf K cL) := by unfold He.cT; rw [eC]
  rw [eT] at q1 q2 q3
  refine ⟨fd30, [(cL, He.tabOf K cL)], sp_law K (He.tabOf K cL), fun p hp => ?_, fun p hp => ?_, fun p hp => ?_, ?_, ?_, ?_⟩
  · rw [List.mem_singleton.mp hp]; exact q1
  · rw [List.mem_singleton.mp hp]; exact q2
  · rw [List.mem_singleton.mp hp]; exact PySem.W.codeHd_of_K X q3
  · intro s u; exact FunD.bindsA (ps := ["_law_script"]) D30 (fun _ _ _ _ _ _ us hl => match us, hl with | [_], _ => rfl) s [u] rfl
  · intro H a ns hl hbits hP hS; exact ⟨a, ns, rfl, hS, hl, hP _ (List.mem_singleton.mpr rfl), fun _ => rfl⟩
  · intro base _ _ hB; exact ok_law (base := base) T (hB _ (List.mem_singleton.mpr rfl))
end SbE57
open PySem PySem.W PySem.Calls PyProof.Rows
set_option maxRecDepth 100000 in
set_option maxHeartbeats 0 in
theorem PySem.Challenge.cw_signbook_k57_more_rows_than_nets_are_sou_holds : PySem.Challenge.rw_signbook_k57_more_rows_than_nets_are_sou.Holds := by
  w_on; o_law
  refine HandSHeadRun.head_any (r := OpenLaw.row PySem.Challenge.rw_signbook_k57_more_rows_than_nets_are_sou) (q := view (OpenLaw.row PySem.Challenge.rw_signbook_k57_more_rows_than_nets_are_sou).prog [40]) (H := SbE57.hkL) (ob := SbE57.obL) (M := 60000) (loose := SbE57.looseL) (d := HandSHeadRun.topDef (OpenLaw.row PySem.Challenge.rw_signbook_k57_more_rows_than_nets_are_sou).prog 40) (kwd := []) SbE57.ob_eqL
    (by kernel_rfl) (fun s => by kernel_rfl) SbE57.runL (by kernel_rfl) (by kernel_rfl) (by kernel_rfl) (by rfl) (by first | assumption | decide +kernel) (by decide +kernel) ⟨rfl, rfl, rfl, rfl, rfl, by decide +kernel⟩ ?hw ?hc
  case hw => w_witness2
  case hc =>
    refine LamX.walk_ofTsE (l := PySem.Challenge.rw_signbook_k57_more_rows_than_nets_are_sou) (n := 63) (k := 12) (x := "_law_script") (CX := fun _ => L2.CX0) rfl (by decide) (by kernel_rfl) ⟨rfl, by decide, by decide⟩ ?F (fun _ _ _ _ _ z => z)
    intro w mg fa h Y G hmg0
    obtain ⟨K, KX, c⟩ := Y
    have hmg : mg ("law" : PySem.Str) = some (.ref fa) := by
      have e : (HandSHeadRun.topDef (OpenLaw.row PySem.Challenge.rw_signbook_k57_more_rows_than_nets_are_sou).prog 40).name = ("law" : PySem.Str) := by kernel_rfl
      rw [← e]
      exact hmg0
    exact ⟨K, KX, SbE57.factsL KX G hmg c⟩
