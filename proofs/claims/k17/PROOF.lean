import PyProof.Rows.All
import Wide.All
import OpenK.AllK
import Wide.FinOn
import PyProof.EqAt
import PyProof.EqKinds
import PyProof.TupleCall
import HandS.ForMost
import HandS.Evl
import HandS.Wide
import HandS.Gcd
import HandS.IsInst
import HandS.Defaults
import HandS.Zip
import HandS.Conv
import HandS.Style
import HandS.TryOnly
import PyProof.ReprRoads
import HandS.Lambda
import HandS.Ends
import HandS.Words
import HandS.Flow
import HandS.List
import PyProof.LongRange
import PyProof.ListRange
import PyProof.ReprLen
import PyProof.CallFns
import PyProof.ZipIter
import HandS.RevRange
import HandS.SortKw
import HandS.ClsMeth
import KE.KSortKey
import KE.SortKeyHeap
import KE.DataMinKey
import KE.DataMinMax
import KE.KExcInit
import KE.KIsAll
import KE.KTryMore
import HandS.ForExc
import HandS.ExcInit
import HandS.ExcIs
import HandS.ExcField
import HandS.FStr
import HandS.Head0
import HandS.Head1
import HandS.Head2
import HandS.HeadEnd
import HandS.HeadHook1
import HandS.HeadHook2
import HandS.HeadHook3
import HandS.HeadHook4
import HandS.HeadWalk
import KE.KStateDown
import HandS.Head3
import HandS.ListItems
import HandS.SortInts
import HandS.FStrTup
import PyProof.ReprHeads
import PyProof.ReprLoop
import PySem.Challenge.RW_signbook_k17_books
set_option Elab.async false
set_option linter.all false
set_option maxRecDepth 100000
set_option maxHeartbeats 2000000
namespace PySem
namespace SbE
open PySem.W PySem.Calls PyProof.Rows PySem.HandSPX Builtin Builtin.ObjectAttr
abbrev aeT : List Value := [.type "ArithmeticError", .type "Exception", .type "BaseException", .type "object"]
theorem ae_has (cs : Addr) (T : String) : (Value.ref cs :: aeT).contains (.type T) = aeT.contains (.type T) := by
  rw [List.contains_cons]
  rfl
theorem ae_pass (u : Value) (ca cs : Addr) : refuseLoop u "__setattr__" (.ref ca :: .ref cs :: aeT) = pure () := by
  rw [refuseLoop_ref, refuseLoop_ref]
  exact PySem.F.store_ArithmeticError.passes u
section
variable {pg : Program} {wd : World} {Ar : Around} {En : Value → Shared → Prop} {Rz : Result → Shared → Prop} {ha : Heap} {gs : Array GenState} {dn : Drawn} {tc : Nat} {st : OsState}
/-- self.nam = val, the first field of such an exception -/
theorem osaA {K : W.Frag} {nam : Str} {tk : Tok} {val : Value} {xa ca cs : Addr} {vs : Array Value} {kd : ClassData}
    (Y : K.In ha) (gx : ha.get? xa = some { cls := .ref ca, data := .fields vs }) (gk : W.clsIn K ca = some kd) (gm : kd.mro = .ref ca :: .ref cs :: aeT) (gd : kd.hasDict = true) (gn : W.findIn K (.ref ca) nam = some none)
    (next : ∀ hb tkb da, (∀ b o, b ≠ xa → ha.get? b = some o → hb.get? b = some o) → ha.objs.size ≤ da → da ≠ xa → hb.get? xa = some { cls := .ref ca, dict := some da, data := .fields vs } →
      hb.Ns1 da (fun y => if y = nam then some val else none) → Rz (.ok (.ret .none)) ⟨hb, gs, dn, tkb, st⟩) :
    codeAny (model pg wd) Ar (.call (.builtin "object.__setattr__") ⟨[.ref xa, .str nam tk, val], []⟩) Rz ⟨ha, gs, dn, tc, st⟩ := by
  have In0 : W.InstAt ha xa { cls := .ref ca, data := .fields vs } ca none := ⟨gx, rfl, rfl, trivial⟩
  have SO := PySem.F.store_object
  have gne : kd.mro.isEmpty = false := by rw [gm]; rfl
  have gob : kd.mro.contains (.type "object") = true := by rw [gm, List.contains_cons, ae_has, Bool.or_eq_true]; exact .inr (by decide +kernel)
  have xne : xa ≠ ha.objs.size := Nat.ne_of_lt (Heap.lt_size gx)
  have sb : W.Looks (model pg wd) ha (isInstance (.ref xa) (.type "object")) true := In0.type.andThen (W.looks_mroIn Y (by unfold W.mroIn; rw [gk, Option.bind_some, if_neg (by rw [gne]; decide), gob]))
  refine codeAny_call_builtin SO.slot.plain SO.entry (@W.check_slot (model pg wd) _ _ ⟨ha, gs, dn, tc, st⟩ "object.__setattr__" "object" "__setattr__" (.ref xa) [.str nam tk, val] [] _ SO.kind SO.split sb (SO.args (.ref xa) (.str nam tk) val) ?_)
  have lm : W.Looks (model pg wd) ha (mroOf (.ref ca)) kd.mro := (W.looks_clsIn Y gk).andThen .now
  have lt : W.Looks (model pg wd) ha (storeTaker? none) none := .now
  have lc : W.Looks (model pg wd) ha (classData ca) kd := W.looks_clsIn Y gk
  rw [W.osa_eq, refuse_eq]
  refine wpAny_bind (wpAny_bind (In0.type.at (wpAny_bind (lm.at ?_))))
  rw [gm, ae_pass]
  refine wpAny_pure (wpAny_bind (In0.type.at (wpAny_bind ((W.looks_findIn Y gn).at (wpAny_bind (lt.at ?_))))))
  show wpAny _ _ (storeInOwnDict (.ref xa) (.ref ca) (.str nam tk) nam val false) _ _ _
  obtain ⟨c1, c2, c3, c4, c5, c6, c7, c8, c9, c10, c11⟩ := kd
  dsimp only at gd
  subst gd
  unfold storeInOwnDict ownDictForStores
  repeat (first | with_reducible refine store_in_new ?_ ?_ | with_reducible refine wpAny_loadPart_at gx ?_ | with_reducible refine lc.at ?_ | wp_step)
  · exact ⟨_, #[], _, (Heap.get?_update_ne _ _ _ _ xne.symm).trans (Heap.get?_push_at rfl rfl), rfl, fun e he => absurd he (by simp), fun _ => rfl⟩
  · intro hb tkb hn hs
    have gx2 : (ha.push { cls := .type "dict", data := .dict #[] }).get? xa = some { cls := .ref ca, data := .fields vs } := Heap.get?_push_of_some _ gx
    refine next hb tkb ha.objs.size (fun b o nb ho => ?_) (Nat.le_refl _) xne.symm ?_ hn
    · exact (hs.2 b (Nat.ne_of_lt (Heap.lt_size ho))).trans ((Heap.get?_update_ne _ _ _ _ nb).trans (Heap.get?_push_of_some _ ho))
    · exact (hs.2 xa xne).trans (Heap.get?_update_self _ gx2 rfl)
end
end SbE
end PySem
namespace L2
open PySem PySem.Spec PyProof.Rows PySem.SbE
/-- what the written part says of such a class, whose base is the own class at cs -/
structure OwnA (K : PySem.W.Frag) (ca cs : Addr) : Prop where
  cls : ∃ nm q N bs sn sub ab col dd k0 k1 k2 k3 k5, K.lookup ca = some (excClassObj nm q ca N bs (.ref cs :: aeT) true sn sub ab col dd k0 k1 k2 k3 k5 "ArithmeticError.__new__")
  sa : PySem.W.findIn K (.ref ca) "__setattr__" = some (some (.builtin "object.__setattr__"))
  ex : PySem.W.subIn K (.ref ca) (.type "BaseException") = some true
  ty : PySem.W.typeIn K (.ref ca) = some (.type "type")
  kp : PySem.W.keepIn K (.ref ca) = true
section
variable {X : Cx} {pins : List (Addr × Obj)} {σ : St} {H : Hp} {s : Shared} {a ca cs da : Addr} {f : Str} {y : V} {u : Value} {E : Value → Shared → Prop} {A : Around}
theorem ostA {Q : Unit → Shared → Prop} (T : OwnA X.K ca cs) (I : Inv X pins σ H s) (e : H a = some (exo a ca none)) (gn : PySem.W.findIn X.K (.ref ca) f = some none) (ry : RelV y u)
    (k : ∀ da s', H da = none → da ≠ a → Inv X pins σ (upd (upd H da (exd da [(f, y)])) a (exo a ca (some da))) s' → Q () s') : wpAny (model X.prog X.w) A (setAttr (.ref a) f u) Q E s := by
  obtain ⟨nm, q, N, bs, sn, sub, ab, col, dd, k0, k1, k2, k3, k5, lk⟩ := T.cls
  obtain ⟨t1, go⟩ := exo_at I.hok e
  obtain ⟨hp, g, d, t, os⟩ := s
  refine PySem.W.set_plain I.kIn (ox := { cls := .ref ca, dict := none, data := .fields #[.ref t1, .none, .none, .none, .bool false, .none] }) (od := none) ⟨go, rfl, rfl, trivial⟩ T.sa ?_
  refine osaA (cs := cs) I.kIn go (kd := { name := nm, bases := bs, mro := .ref ca :: .ref cs :: aeT, ns := N, qualname := q, hasDict := true, slotNames := sn, subclasses := sub, abstract := ab, collection := col, hasDel := false }) (by unfold PySem.W.clsIn; rw [lk] <;> rfl) rfl rfl gn (fun hb tkb dx kk dn dne gxb hn => ?_)
  have dfree : H dx = none := I.hok.fresh dn
  have n1 : ∀ {b : Addr} {o : Obj}, hp.get? b = some o → b ≠ dx := fun {b o} z => Nat.ne_of_lt (Nat.lt_of_lt_of_le (Heap.lt_size z) dn)
  have n2 : ∀ {b : Addr}, H b = none → b ≠ a := fun {b} z w => by
    rw [w, e] at z
    cases z
  have U : Un X.fs [] H (upd (upd H dx (exd dx [(f, y)])) a (exo a ca (some dx))) hp hb := {
    keep := fun b o z n _ _ => kk b o (n2 n) z
    slot := fun b o z n _ _ => ⟨o.slots, kk b o (n2 n) z⟩
    free := fun b o z n _ => by rw [upd_ne (n2 n), upd_ne (n1 z)]; exact n
    there := fun b o z _ => by
      by_cases w : b = a
      · exact ⟨_, by rw [w]; exact gxb⟩
      · exact ⟨o, kk b o w z⟩
    tups := fun b xs z => by rw [upd_ne (at_ne e z exo_tup), upd_ne (ne_of_none z dfree)]; exact z
    frzs := fun b o v z => by rw [upd_ne (at_ne e z exo_frz), upd_ne (ne_of_none z dfree)]; exact z
    tbls := fun b ps z => ⟨#[], by rw [upd_ne (at_ne e z exo_tbl), upd_ne (ne_of_none z dfree), z]; simp⟩ }
  refine k dx _ dfree dne (I.un (t' := tkb) U fun b o z => ?_)
  by_cases w : b = a
  · subst w
    rw [upd_same] at z
    cases z
    exact exo_ok gxb
  · rw [upd_ne w] at z
    by_cases w2 : b = dx
    · subst w2
      rw [upd_same] at z
      cases z
      exact exd_ok hn (relO_put (fs := []) ry fun g => True.intro)
    · rw [upd_ne w2] at z
      refine (I.hok b o z).stay (fun c v hc zz => kk c v ?_ zz) (fun c hc => ?_) (fun c xs hc => ?_)
      · rcases hc with hc | hc
        · rw [hc]
          exact w
        · exact at_ne e hc exo_own
      · rw [upd_ne (at_ne e hc exo_own), upd_ne (ne_of_none hc dfree)]
        exact hc
      · rw [upd_ne (at_ne e hc exo_tup), upd_ne (ne_of_none hc dfree)]
        exact hc
/-- ArithmeticError.__init__(self, ..) -/
theorem initA {us : List Value} {Q : Value → Shared → Prop} (T : OwnA X.K ca cs) (I : Inv X pins σ H s) (e : H a = some (exo a ca none)) (hl : us.length ≤ sizeLine) (k : ∀ s', Inv X pins σ H s' → Q .none s') :
    wpAny (model X.prog X.w) A (call (.builtin "ArithmeticError.__init__") (.ref a :: us)) Q E s := by
  obtain ⟨nm, q, N, bs, sn, sub, ab, col, dd, k0, k1, k2, k3, k5, lk⟩ := T.cls
  obtain ⟨t1, go⟩ := exo_at I.hok e
  obtain ⟨hp, g, d, t, os⟩ := s
  refine wpAny_call (PySem.HandSPX.init_base PySem.F.excBase_ArithmeticError (ae_has cs) (I.kIn _ _ lk) go hl fun hb t2 kk gx => ?_)
  have J := I.write (t' := t) (x := a) (e := a) (o := exo a ca none) (by rw [e]; exact True.intro) (.inl rfl) kk ⟨_, gx⟩ (exo_ok gx)
  have same : upd H a (exo a ca none) = H := funext fun b => by
    by_cases w : b = a
    · rw [w, upd_same, e]
    · rw [upd_ne w]
  rw [same] at J
  exact k _ J
end
/-- Base.__init__(self, ..) -/
def tInitA (K : PySem.W.Frag) (ta : TA) : TE := fun σ H Q => ta σ H fun vs H1 => ∃ (a ca cs : Addr) (ws : List V), vs = .ref a :: ws ∧ ws.length ≤ 1000 ∧ OwnA K ca cs ∧ H1 a = some (exo a ca none) ∧ Q .non H1
/-- self.f = e -/
def tOstA (K : PySem.W.Frag) (f : Str) (to te : TE) : TS := fun D σ H => te σ H fun y H1 => to σ H1 fun x H2 => ∃ a ca cs : Addr, x = .ref a ∧ OwnA K ca cs ∧ PySem.W.findIn K (.ref ca) f = some none ∧
  H2 a = some (exo a ca none) ∧ ∀ dx, H2 dx = none → dx ≠ a → D.nx σ (upd (upd H2 dx (exd dx [(f, y)])) a (exo a ca (some dx)))
section
variable {X : Cx} {o e : Expr} {es : List Expr} {to te : TE} {ta : TA} {f B : Str} {p p' p1 p2 pos : Pos} {cs : Addr} {mc : Value}
theorem pe_initA {pl : Sem Bool} (hg : Gl X B) (hm : X.mg B = some (.ref cs)) (rd : PySem.W.readsIn X.K cs mc = true) (ga : PySem.W.specialIn X.K (.ref cs) "__getattribute__" = some (some (.builtin "type.__getattribute__")))
    (fi : PySem.W.findCls X.K (.ref cs) mc "__init__" = some (.val (.builtin "ArithmeticError.__init__"))) (ha : PA X (e :: es) ta) (hdb : (B == ("__debug__" : Str)) = false := by decide)
    (hc : eval (.Call (.Attribute (.Name B p1) "__init__" p2) (e :: es) [] pos) X.env = (do
      let b ← eval (.Name B p1) X.env
      standAt p2.atName
      let (g, fst) ← holding [b] (getMethod b "__init__" pl)
      callWith pos g fst (backTo pos (starEach (e :: es) X.env)) (backToKw pos (keywordEach [] X.env))) := by rfl)
    (he : starEach (e :: es) X.env = (false, eval e X.env) :: starEach es X.env := by rfl) (hpl : (backTo pos (starEach es X.env)).any (·.1) = false := by rfl) :
    PE X (.Call (.Attribute (.Name B p1) "__init__" p2) (e :: es) [] pos) (tInitA X.K ta) := by
  refine ⟨fun pins s σ H Q I h => ?_⟩
  refine PySem.W.methodCall_KW (ld_glob I hg hm ?_ hdb) hc
  refine PySem.W.method_cls I.kIn ga (PySem.W.cls_value I.kIn rd fi rfl ?_)
  show wpAny _ _ (callWith pos (Value.builtin "ArithmeticError.__init__") [] (backTo pos (starEach (e :: es) X.env)) []) _ _ _
  refine PyProof.Rows.callWith_method1 (thn (ha.run pos pins _ σ H _ (I.tok _) h) fun us s1 ⟨vs, H1, I1, r1, a, ca, cs', ws, ev, hl, T, ea, q⟩ => ?_) he hpl
  subst ev
  cases r1 with
  | @cons _ u0 _ ur ra rw' =>
    obtain rfl : u0 = Value.ref a := ra
    exact initA T I1 ea (by rw [← Paired.length rw', sizeLine_eq]; omega) fun s' J => ⟨.non, H1, J, rfl, q⟩
theorem ps_ostA (ho : PE X o to) (he : PE X e te) (hs : swapsWith e (some (.Attribute o f p')) pos.line X.env = pure false := by rfl) : PS X (.Assign [.Attribute o f p'] e pos) (tOstA X.K f to te) := by
  refine ⟨fun pins s σ H D I h => ?_⟩
  refine plainObj_wpAny_Assign_Attribute (thn (he.run pins s σ H _ I h) fun v s1 ⟨y, H1, I1, r1, q1⟩ => thn (ho.run pins s1 σ H1 _ I1 q1) fun u s2 ⟨x, H2, I2, r2, a, ca, cs, ex, T, hno, ea, q⟩ => ?_) hs
  subst ex
  obtain rfl : u = Value.ref a := r2
  exact ostA T I2 ea hno r1 fun dx s' n ne J => ⟨σ, _, J, q dx n ne⟩
end
/-- C(e, ..), C's own __init__ keeping sp -/
def tMkA (ca : Addr) (sp : Sp) (ta : TA) : St → Hp → XK → Prop := fun σ H Q => ta σ H fun vs H1 => vs.length ≤ 1000 ∧ ∀ a, H1 a = none → sp (.ref a :: vs) (upd H1 a (exo a ca none))
  (fun v H2 => v = .non ∧ ∃ (d : Addr) (fs : List (Str × V)), H2 a = some (exo a ca (some d)) ∧ H2 d = some (exd d fs) ∧ H1 d = none ∧ Q (.ref ca) (some d) (upd (del H2 a) d (.xd fs))) (fun _ _ _ => False)
theorem pmk_ownA {X : Cx} {CX : CXT} {x : Str} {e : Expr} {es : List Expr} {ta : TA} {p pos : Pos} {ca cs fi : Addr} {k : Nat} {fd : FuncData} {ps : List Str} {sp : Sp} (T : OwnA X.K ca cs) (iC : PySem.W.findIn X.K (.ref ca) "__init__" = some (some (.ref fi))) (tI : PySem.W.typeIn X.K (.ref fi) = some (.type "function"))
    (F1 : FnOk X.prog X.w X.K X.mg X.base CX k fi fd ps sp) (hr : Room (k + 1) X.A) (hb : Binds X.K fd ps []) (hx : Passes CX X (fun _ _ _ => False)) (hg : Gl X x) (hm : X.mg x = some (.ref ca)) (ha : PA X (e :: es) ta)
    (hdb : (x == ("__debug__" : Str)) = false := by decide) (he : starEach (e :: es) X.env = (false, eval e X.env) :: starEach es X.env := by rfl) (hpl : (backTo pos (starEach es X.env)).any (·.1) = false := by rfl) :
    PMk X (.Call (.Name x p) (e :: es) [] pos) (tMkA ca sp ta) := by
  intro pins s σ H Q I h
  obtain ⟨nm, q, N, bs, sn, sub, ab, col, dd, k0, k1, k2, k3, k5, lk⟩ := T.cls
  refine wpAny_Call_Name_kw (ld_glob I hg hm ?_ hdb)
  refine PySem.W.callWith_K (h₀ := X.base) I.ok.mod.kin T.kp (thn (ha.run pos pins s σ H _ I h) fun us s1 ⟨vs, H1, I1, r1, hz, q1⟩ => ⟨I1.kIn, ?_⟩) he hpl
  show wpAny _ _ (call (.ref ca) us) _ _ _
  obtain ⟨hp, g, dr, tk, os⟩ := s1
  have big : hp.objs.size ≤ hp.objs.size + 1 := Nat.le_succ _
  have hq := q1 (hp.objs.size + 1) (I1.hok.fresh big)
  have kk : ∀ b o, hp.get? b = some o → ((hp.push (PySem.W.kdv_tup us)).push (PySem.HandSPX.excO ca hp.objs.size)).get? b = some o := fun b o z => Heap.get?_push_of_some _ (Heap.get?_push_of_some _ z)
  have atE : ((hp.push (PySem.W.kdv_tup us)).push (PySem.HandSPX.excO ca hp.objs.size)).get? (hp.objs.size + 1) = some (PySem.HandSPX.excO ca hp.objs.size) := by heap_get
  have I2 := I1.laid (t' := tk) (a := hp.objs.size + 1) (o := exo (hp.objs.size + 1) ca none) (h' := (hp.push (PySem.W.kdv_tup us)).push (PySem.HandSPX.excO ca hp.objs.size)) kk big (exo_ok atE)
  have r2 : Vals (V.ref (hp.objs.size + 1) :: vs) (Value.ref (hp.objs.size + 1) :: us) := .cons rfl r1
  have hl : (Value.ref (hp.objs.size + 1) :: us).length = ps.length := by
    have z := r2.length
    rw [F1.len _ _ _ _ hq] at z
    exact z.symm
  have hus : us.length ≤ sizeLine := by
    rw [← Paired.length r1, sizeLine_eq]
    omega
  have hbd := hb _ (Value.ref (hp.objs.size + 1) :: us) I2.kIn (by rw [List.append_nil]; exact hl)
  rw [List.append_nil] at hbd
  refine wpAny_call (PySem.HandSPX.call_own PySem.F.excBase_ArithmeticError (ae_has cs) (I1.kIn _ _ lk) (PySem.W.looks_findIn I1.kIn iC) (fun self => PySem.W.bind_fn I1.kIn self tI) hus
    (codeAny_mono (F1.run _ X.stack _ _ ⟨Value.ref (hp.objs.size + 1) :: us, []⟩ (Value.ref (hp.objs.size + 1) :: us) _ _ (fun _ _ _ => False) (hr.make ca us []) (I2.env0.make ca us []) hbd r2 hq) fun r s' hq' => ?_))
  cases r with
  | error er => exact hx pins σ _ _ er s' I2 hq'
  | ok fl =>
    cases fl with
    | ret u =>
      obtain ⟨v, H2, os2, bare2, un2, hok2, rv, ev, d, fs, ea, ed, hd1, q2⟩ := hq'
      subst ev
      obtain ⟨h2, g2, d2, t2, os'⟩ := s'
      exact ⟨rv, mk_end (raises_own T.ex T.ty) I1 big kk un2 hok2 os2 bare2 ea ed hd1 q2⟩
    | next => exact False.elim hq'
    | brk => exact False.elim hq'
    | cont => exact False.elim hq'
end L2
namespace PySem
namespace SbE
open PySem PySem.Spec PySem.W PySem.Calls PyProof.Rows
section
variable {pg : Program} {wd : World} {Ar : Around} {En : Value → Shared → Prop} {st : Shared} {K : Frag} {xa D : Addr} {ob : Obj} {od : Option Obj}
theorem obj_data {nam : Str} {p g : Value} (hc : (clsIn K D).isSome = true) (h1 : findIn K (.ref D) nam = some (some p)) (h2 : specialIn K p "__get__" = some (some g)) (h3 : takesIn K p = some true) : findObj K D od nam = some (.bind g p) := by
  obtain ⟨kd, hc⟩ := Option.isSome_iff_exists.mp hc
  unfold findObj
  rw [hc, Option.bind_some, h1, Option.bind_some]
  simp [h2, h3]
/-- e.__class__, e an exception with a dict or without -/
theorem cls_exc {Q : Option Value → Shared → Prop} (h1 : findIn K (.ref D) "__getattribute__" = some (some (.builtin "BaseException.__getattribute__"))) (h2 : findIn K (.ref D) "__getattr__" = some none) (h3 : subIn K (.ref D) (.type "BaseException") = some true)
    (h4 : hasDictIn K D = true) (h5 : findIn K (.ref D) "__class__" = some (some (.builtin "object.__class__"))) (h6 : specialIn K (.builtin "object.__class__") "__get__" = some (some (.builtin "getset_descriptor.__get__"))) (h7 : takesIn K (.builtin "object.__class__") = some true)
    (h8 : mroIn K D (.type "object") = some true) (Y : K.In st.heap) (J : InstAt st.heap xa ob D od) (h : Q (some (.ref D)) { st with toks := st.toks + 1 }) : wpAny (model pg wd) Ar (getAttr? (.ref xa) "__class__") Q En st := by
  have fo : findObj K D od "__class__" = some (.bind (.builtin "getset_descriptor.__get__") (.builtin "object.__class__")) := obj_data (by obtain ⟨kd, hc, _⟩ := any_some h4; rw [hc]; rfl) h5 h6 h7
  obtain ⟨hh, g, d, t, os⟩ := st
  have T0 := J.type (M := model pg wd)
  have T1 := looks_findIn (M := model pg wd) Y h1
  have T2 := looks_findIn (M := model pg wd) Y h2
  have T3 := looks_find (M := model pg wd) Y J fo
  have sb : Looks (model pg wd) hh (isInstance (.ref xa) (.type "BaseException")) true := T0.andThen (looks_subIn Y h3)
  have z0 : (false && onTheHeap (Value.builtin "BaseException.__getattribute__")) = false := rfl
  have z2 : (Value.builtin "BaseException.__getattribute__" == Value.builtin "object.__getattribute__") = false := by decide +kernel
  have z1 : (onTheHeap (Value.ref D) && Value.builtin "BaseException.__getattribute__" == Value.builtin "object.__getattribute__") = false := by rw [z2]; rfl
  unfold getAttr? getAttrBy? getAttrBy
  refine wpAny_bind (wpAny_mkText (wpAny_bind (wpAny_attempt (wpAny_holding (wpAny_bind (T0.at (wpAny_bind (T1.at ?_))))))))
  show wpAny (model pg wd) _ (if (onTheHeap (Value.ref D) && Value.builtin "BaseException.__getattribute__" == Value.builtin "object.__getattribute__") = true then _ else _) _ _ _
  rw [z1, if_neg Bool.false_ne_true]
  unfold getAttrByItsOwn hookBefore
  refine wpAny_bind ?_
  rw [if_pos (show onTheHeap (Value.ref D) = true from rfl)]
  refine T2.at ?_
  refine wpAny_bind (wpAny_attempt (wpAny_holding ?_))
  unfold callGetattribute
  rw [z0, if_neg Bool.false_ne_true]
  unfold boundAndCalled
  rw [PySem.F.excAttr_ValueError.ga.bind (.ref xa)]
  refine wpAny_bind (wpAny_pure ?_)
  show wpAny (model pg wd) _ (call (.builtin "BaseException.__getattribute__") [.ref xa, .str "__class__" t]) _ _ _
  refine wpAny_call (codeAny_call_builtin PySem.F.excAttr_ValueError.ga.plain PySem.F.entry_bexc_ga ?_)
  refine @check_slot (model pg wd) _ _ ⟨hh, g, d, t + 1, os⟩ "BaseException.__getattribute__" "BaseException" "__getattribute__" (.ref xa) [.str "__class__" t] [] _ (by decide +kernel) (by decide +kernel) sb (PySem.F.args_bexc_ga (.ref xa) (.str "__class__" t)) ?_
  unfold Builtin.«object.__getattribute__»
  refine wpAny_bind (wpAny_of_eq (a := ((Value.ref xa : Value), [Value.str "__class__" t])) (by first | rfl | (simp only [slotArgs]; rfl)) ?_)
  refine wpAny_bind (wpAny_pure (wpAny_bind (T0.at (wpAny_bind (T3.at ?_)))))
  show wpAny (model pg wd) _ (holding [Value.builtin "object.__class__"] (call (.builtin "getset_descriptor.__get__") [.builtin "object.__class__", .ref xa, .ref D]) >>= ret) _ _ _
  refine wpAny_bind (wpAny_holding (wpAny_call (class_get (s := ⟨hh, g, d, t + 1, os⟩) (ox := ob) (od := od) Y J h8 ?_)))
  refine wpAny_pure ?_
  show wpAny (model pg wd) _ (handedOut (.ref D)) _ _ _
  rw [handedOut_of (v := .ref D) rfl]
  first
    | exact wpAny_pure (wpAny_pure h)
    | exact wpAny_pure h
    | exact wpAny_pure (wpAny_bind (wpAny_pure (wpAny_pure h)))
theorem kit_exc (h1 : findIn K (.ref D) "__getattribute__" = some (some (.builtin "BaseException.__getattribute__"))) (h2 : findIn K (.ref D) "__getattr__" = some none) (h3 : subIn K (.ref D) (.type "BaseException") = some true) (h4 : hasDictIn K D = true)
    (h5 : findIn K (.ref D) "__class__" = some (some (.builtin "object.__class__"))) (h6 : specialIn K (.builtin "object.__class__") "__get__" = some (some (.builtin "getset_descriptor.__get__"))) (h7 : takesIn K (.builtin "object.__class__") = some true) (h8 : mroIn K D (.type "object") = some true) :
    KitX K (.ref xa) (.ref D) (fun hh => InstAt hh xa ob D od) := by
  obtain ⟨kd, hc, _⟩ := any_some h4
  have at_ : ∃ c' d' sl', K.lookup D = some ⟨c', d', .cls kd, sl'⟩ := by
    unfold clsIn at hc
    split at hc
    · rename_i c' d' cd' sl' ho
      cases hc
      exact ⟨c', d', sl', ho⟩
    · cases hc
  obtain ⟨c', d', sl', lk⟩ := at_
  refine ⟨fun _ _ _ J => J.type, fun _ _ Y _ A' Q' E' s' k q => ?_, fun hh tp dd its n sl Y gt => ?_, fun Y J k => cls_exc h1 h2 h3 h4 h5 h6 h7 h8 Y J k⟩
  · unfold isType loadHead
    exact wpAny_bind (wpAny_loadPart (k _ _ (Y _ _ lk)) (wpAny_pure q))
  · refine Bool.eq_false_iff.mpr fun q => ?_
    have e : D = tp := Value.ref.inj (beq_iff_eq.mp q)
    subst e
    have z := (Y _ _ lk).symm.trans gt
    cases z
end
end SbE
end PySem
namespace L2
open PySem PySem.Spec PyProof.Rows PySem.SbE
/-- isinstance(e, c), e the exception that the suite holds, with fields or without -/
def rIsA (K : PySem.W.Frag) (cls : Value) (d : Option Addr) (a : Addr) : List V → Hp → VK → Prop := fun xs H Q => ∃ (D : Addr) (c : V) (cv : Value) (b : Bool), cls = .ref D ∧ ExcC K D ∧ xs = [.ref a, c] ∧ (∀ u, RelV c u → u = cv) ∧ PySem.W.kitOne K (.ref D) cv = some b ∧
  (d = none ∨ ∃ dd fs, d = some dd ∧ H dd = some (.xd fs)) ∧ Q (.bl b) H
theorem call_isA {X : Cx} {a : Addr} {cls : Value} {d : Option Addr} {oe : Obj} {pn : List (Addr × Obj)} (hz : Zc cls d oe) (hf : ∃ vs, oe.data = .fields vs) : CallR (X.suite a ((a, oe) :: pn)) (.builtin "isinstance") (rIsA X.K cls d a) := by
  intro pins s σ H xs us Q I r h
  obtain ⟨D, c, cv, b, ec, C, ex, hcv, e, hd, q⟩ := h
  subst ec ex
  cases r with
  | cons rx rr =>
    cases rr with
    | cons rt rr =>
      cases rr
      cases rx
      have ev := hcv _ rt
      subst ev
      obtain ⟨at_, _⟩ := I.pin (a, oe) (List.mem_append.mpr (.inl List.mem_cons_self))
      obtain ⟨vs, hv⟩ := hf
      have nc : PySem.W.notCls oe = true := by
        unfold PySem.W.notCls
        rw [hv] <;> rfl
      obtain ⟨od, J⟩ : ∃ od, PySem.W.InstAt s.heap a oe D od := by
        rcases hd with hd | ⟨dd, fs, hd, hx⟩
        · exact ⟨none, at_, hz.1, nc, by rw [hz.2, hd]; trivial⟩
        · have hok : ObjOk X.prog X.w H s.heap dd (.xd fs) := I.hok dd _ hx
          obtain ⟨mA, hns, _⟩ := hok
          obtain ⟨od, ho, _⟩ := lookIn_ns hns
          exact ⟨some od, at_, hz.1, nc, by rw [hz.2, hd]; exact ho⟩
      exact PySem.W.kia_one (kit_exc C.hg C.hk C.hs C.hd C.ha C.hn C.ht C.hm) I.kIn J e (fun z => nomatch z) fun tk => ⟨.bl b, H, I.kept (t' := tk) fun _ _ z => z, rfl, q⟩
end L2
namespace LamX
open PySem PySem.Spec PyProof.Rows L2
section
variable {X : Cx} {pins : List (Addr × Obj)} {σ : L2.St} {H : Hp} {s : Shared}
/-- x(), what it lets out told at the slots of the def that got the lambda -/
theorem act_at {CXg : CXT} {Eg : XK} {Ng : List Str} {qg : Str} {sg : Scope} {g f c' : Addr} {cdg pm ctv : Value} {params : Arguments} {body : Expr} {scope : Scope} {k i : Nat} {a : Str} {pn : List (Addr × Obj)} {xe : Value → Shared → Prop} {W : WX} {tb : XK → TE} {p1 p2 : Pos}
    (I : Inv X pins σ H s) (L : LamS X.env.scope scope) (hf : s.heap.get? f = some (PySem.W.kla_obj "<lambda>" (X.env.qual ++ "<lambda>") params body scope (cloFrom X.env.cells scope.names []) pm c' ctv)) (hfn : H f = none) (hfr : f ∉ frs X.stack)
    (hbind : bindArgs (PySem.W.kla_fn "<lambda>" (X.env.qual ++ "<lambda>") params body scope (cloFrom X.env.cells scope.names []) pm (.ref c') ctv) ⟨[], []⟩ = pure [])
    (tk : Takes ((cxOf CXg X.prog X.w X.K X.mg X.base Ng qg sg g cdg X.A X.stack s H Eg).tr pn xe) W) (hr : Room (k + 1) (X.A.deeper (envOfC qg sg s.heap.objs.size g cdg)))
    (hbody : ∀ (A : Around) (outer : List Env) (s : Shared) (H : Hp) (E : XK), Room k (A.deeper (lamEnv X scope s.heap.objs.size f c')) → PE (lamCx X A outer s H E scope f c') body (tb E))
    (hN : Ng[i]? = some a) (hv : Vis sg a) (hd : (a == ("__debug__" : Str)) = false := by decide) (hcd : (a == ("__classdict__" : Str)) = false := by decide) :
    PE ((cxOf CXg X.prog X.w X.K X.mg X.base Ng qg sg g cdg X.A X.stack s H Eg).tr pn xe) (.Call (.Name a p1) [] [] p2)
      (fun τ G Q => τ[i]? = some (some (.ref f)) ∧ G c' = some (CodeO c' (X.env.qual ++ "<lambda>")) ∧ tb (WE W τ) σ G Q) := by
  refine ⟨fun pz sz τ G Q J h => ?_⟩
  obtain ⟨hs, hc, ht⟩ := h
  refine wpAny_Call_Name_kw (thn ((pe_var (pos := p1) (i := i) hN hv hd hcd).run pz sz τ G (fun v G1 => v = .ref f ∧ G1 = G) J ⟨.ref f, hs, rfl, rfl⟩) fun u s1 ⟨v, G1, J1, r1, q1⟩ => ?_)
  obtain ⟨ev, eG⟩ := q1
  subst ev
  rw [eG] at J1
  obtain rfl : u = Value.ref f := r1
  have fat := J1.base.keep f _ hf hfn hfr (fun z => nomatch (show f ∈ ([] : List Addr) from z))
  refine PySem.W.callWith_F0 ⟨_, _, _, _, fat⟩ ?_
  have un : Un (frs X.stack) [] H G s.heap s1.heap := J1.base
  obtain ⟨⟨oc, vs, t, hoc, hdc, hvc⟩, _, _⟩ := J1.hok c' _ hc
  have rc : codeAny (model X.prog X.w) (X.A.deeper (envOfC qg sg s.heap.objs.size g cdg)) (.call (.ref f) ⟨[], []⟩) (CR (L2.CX X.prog X.w) (envOfC qg sg s.heap.objs.size g cdg :: X.stack) X.prog X.w G s1 Q (WE W τ)) s1 := by
    refine PySem.W.kla_callFunE hr.depth fat rfl L.co L.gen rfl ⟨c', oc, vs, t, rfl, hoc, hdc, hvc⟩ ?_
    rw [hbind]
    refine wpAny_pure (wpAny_newFunctionEnv (fun y hy => (L.own y hy).2) (fun y hy => absurd hy (by simp)) (fun hz hns hsb => ⟨J1.nolimit.fresh _ hsb, ?_⟩) L.kind)
    show codeAny _ _ (.expr body (lamEnv X scope s1.heap.objs.size f c')) _ _
    have kp : ∀ b o, s1.heap.get? b = some o → hz.get? b = some o := fun b o e => hsb.extBut b o (Nat.ne_of_lt (Heap.lt_size e)) (Heap.get?_push_of_some _ e)
    have JL : Inv (lamCx X (X.A.deeper (envOfC qg sg s.heap.objs.size g cdg)) (envOfC qg sg s.heap.objs.size g cdg :: X.stack) s1 G (WE W τ) scope f c') [] σ G { s1 with heap := hz, toks := s1.toks + ([] : List (Str × Value)).length } :=
      lam_start2 I L J1.env0 hr.hd un hns kp
    refine PySem.W.kla_codeExpr (wpAny_mono ((hbody _ _ s1 G (WE W τ) (hr.deeper _)).run [] _ _ G Q JL ht) (fun v s' hq => ?_) fun e s' hq => hq)
    obtain ⟨w', G', J', rv, q⟩ := hq
    exact ⟨w', G', J'.os, J'.bare, J'.base, J'.hok, rv, q⟩
  have pass := passAt tk τ
  refine wpAny_call (codeAny_mono rc fun r s' hq => ?_)
  cases r with
  | error e => exact pass pz G s1 e s' J1 hq
  | ok fl =>
    cases fl with
    | ret u => exact J1.after hq
    | next => exact False.elim hq
    | brk => exact False.elim hq
    | cont => exact False.elim hq
end
/-- the def that calls what it got, a exception told at its slots; TT: what it makes of the lambda's reading -/
def GivesAt (X : Cx) (Ng : List Str) (x : Str) (sg : Scope) (g : Addr) (cdg : Value) (bg : List Stmt) (a : Str) (q : Str) (TT : (XK → Hp → VK → Prop) → Hp → VK → Prop) : Prop :=
  ∀ (f c' : Addr) (s : Shared) (H : Hp) (Q : VK) (tl : XK → Hp → VK → Prop),
    (∀ (W : WX) (pn : List (Addr × Obj)) (xe : Value → Shared → Prop) (p1 p2 : Pos), Takes ((cxOf C8.CX0 X.prog X.w X.K X.mg X.base Ng x sg g cdg X.A X.stack s H C8.E0).tr pn xe) W →
      PE ((cxOf C8.CX0 X.prog X.w X.K X.mg X.base Ng x sg g cdg X.A X.stack s H C8.E0).tr pn xe) (.Call (.Name a p1) [] [] p2) (fun τ G Q => τ[0]? = some (some (.ref f)) ∧ G c' = some (CodeO c' q) ∧ tl (WE W τ) G Q)) →
    H c' = some (CodeO c' q) → TT tl H Q →
    ∃ t, PSs (cxOf C8.CX0 X.prog X.w X.K X.mg X.base Ng x sg g cdg X.A X.stack s H C8.E0).nox bg t ∧ t { nx := fun _ H' => Q .non H', rt := Q } (L2.start Ng [.ref f]) H
section
variable {X : Cx}
/-- x(lambda: body) -/
theorem pe_lamAt {T : List (Addr × Str)} {TT : (XK → Hp → VK → Prop) → Hp → VK → Prop} {x a : Str} {g c P : Addr} {k : Nat} {pg : Arguments} {bg : List Stmt} {sg : Scope} {dV kV doc pm cdv ct oc : Value} {an od : Option Addr} {osl : Array (Option Value)} {Ng : List Str}
    {params : Arguments} {body : Expr} {scope : Scope} {t : XK → TE} {p lpos pos : Pos} (hg : Gl X x) (hm : X.mg x = some (.ref g)) (hk : PySem.W.keepIn X.K (.ref g) = true)
    (lk : X.K.lookup g = some ⟨oc, od, .func (PySem.W.fnOf x x pg bg sg dV kV doc pm an cdv ct), osl⟩) (hcg : PySem.W.codeIn X.K cdv x = true) (hb : L2.Binds X.K (PySem.W.fnOf x x pg bg sg dV kV doc pm an cdv ct) [a] []) (Sg : FnScope Ng [a] sg) (hNg : Ng[0]? = some a) (hva : Vis sg a)
    (hG : GivesAt X Ng x sg g cdv bg a (X.env.qual ++ "<lambda>") TT)
    (TB : TabB X.base X.mg c P) (hcode : X.env.code = .ref c) (hmT : (P, X.env.qual ++ "<lambda>") ∈ T) (hu : ∀ p ∈ T, p.1 = P → p.2 = X.env.qual ++ "<lambda>") (hr : Room (k + 2) X.A) (L : LamS X.env.scope scope) (hdef : defaultsOf params X.env = ([], []))
    (hbind : ∀ (q : Str) (cl : List (Str × Addr)) (pm cv ctv : Value), bindArgs (PySem.W.kla_fn "<lambda>" q params body scope cl pm cv ctv) ⟨[], []⟩ = pure [])
    (hbody : ∀ (A : Around) (outer : List Env) (s : Shared) (H : Hp) (E : XK) (f c' : Addr), Room k (A.deeper (lamEnv X scope s.heap.objs.size f c')) → PE (lamCx X A outer s H E scope f c') body (t E))
    (hdb : (x == ("__debug__" : Str)) = false := by decide) (hd : (a == ("__debug__" : Str)) = false := by decide) (hcd : (a == ("__classdict__" : Str)) = false := by decide) :
    PE X (.Call (.Name x p) [.Lambda params body scope lpos] [] pos) (tLam T TT t) := by
  refine ⟨fun pins s σ H Q I h => ?_⟩
  obtain ⟨hT, h⟩ := h
  refine wpAny_Call_Name_kw (ld_glob I hg hm ?_ hdb)
  refine PySem.W.callWith_K (h₀ := X.base) I.ok.mod.kin hk ?_ (by rfl) (by rfl)
  show wpAny (model X.prog X.w) _ (spliced ((false, eval (.Lambda params body scope lpos) X.env) :: backTo pos (starEach [] X.env))) _ _ s
  refine Calls.spliced_cons (lam_make2 I TB hcode hmT hu hT hdef (L.has I.ok) fun f c' pm' ctv H1 s' I1 eN T1 hf hfn hfr hco => ?_)
  refine Calls.spliced_nil ⟨I1.kIn, ?_⟩
  have rc : codeAny (model X.prog X.w) X.A (.call (.ref g) ⟨[.ref f], []⟩) (CR C8.CX0 X.stack X.prog X.w H1 s' Q C8.E0) s' :=
    run_ofS (N := Ng) (ps := [a]) (us := [.ref f]) (vs := [.ref f]) lk hcg Sg hr I1.env0 (hb s' [.ref f] I1.kIn rfl) (.cons rfl .nil) rfl fun hr' => by
      obtain ⟨t', ht', hq'⟩ := hG f c' s' H1 Q (fun E H' Q' => t E σ H' Q') (fun W pn xe p1 p2 tk => act_at (i := 0) I1 L hf hfn hfr (hbind _ _ _ _ _) tk hr' (fun A outer s H E hr2 => hbody A outer s H E f c' hr2) hNg hva hd hcd) hco (h H1 eN T1)
      exact ⟨t', ht'.nox, hq'⟩
  refine wpAny_call (codeAny_mono rc fun r s2 hq => ?_)
  cases r with
  | error e => exact (show False from hq).elim
  | ok fl =>
    cases fl with
    | ret u => exact I1.after hq
    | next => exact False.elim hq
    | brk => exact False.elim hq
    | cont => exact False.elim hq
end
end LamX
namespace L2
open PySem PySem.Spec PyProof.Rows PySem.SbE
/-! facts of the classes as truths that the kernel reckons -/
def fiB (K : PySem.W.Frag) (C : Addr) : Bool := match PySem.W.findCls K (.ref C) (.type "type") "__init__" with
  | some (.val v) => decide (v = .builtin "ArithmeticError.__init__")
  | _ => false
theorem fiB_ok {K : PySem.W.Frag} {C : Addr} (h : fiB K C = true) : PySem.W.findCls K (.ref C) (.type "type") "__init__" = some (.val (.builtin "ArithmeticError.__init__")) := by
  unfold fiB at h
  split at h
  · rename_i v e
    rw [e, of_decide_eq_true h]
  · cases h
def ownK (C CS : Addr) : Obj → Bool
  | ⟨.type m, _, .cls kd, sl⟩ => decide (m = "type") && (decide (kd.mro = .ref C :: .ref CS :: aeT) && (kd.hasDict && (!kd.hasDel && match sl.toList with
    | [_, _, _, _, some (.builtin n), _] => decide (n = "ArithmeticError.__new__")
    | _ => false)))
  | _ => false
theorem ownK_ok {C CS : Addr} {o : Obj} (h : ownK C CS o = true) : ∃ nm q N bs sn sub ab col dd k0 k1 k2 k3 k5, o = excClassObj nm q C N bs (.ref CS :: aeT) true sn sub ab col dd k0 k1 k2 k3 k5 "ArithmeticError.__new__" := by
  obtain ⟨oc, od, dt, sl⟩ := o
  cases oc with
  | type m =>
    cases dt with
    | cls kd =>
      obtain ⟨h1, h⟩ := Bool.and_eq_true_iff.mp h
      obtain ⟨h2, h⟩ := Bool.and_eq_true_iff.mp h
      obtain ⟨h3, h⟩ := Bool.and_eq_true_iff.mp h
      obtain ⟨h4, h5⟩ := Bool.and_eq_true_iff.mp h
      have e1 := of_decide_eq_true h1
      have e2 := of_decide_eq_true h2
      obtain ⟨nm, bs, mro, ns, qn, hd, sn, sub, ab, col, del⟩ := kd
      dsimp only at h3 h4 e2
      have e4 : del = false := by
        cases del
        · rfl
        · cases h4
      subst e1 e2 h3 e4
      obtain ⟨l⟩ := sl
      dsimp only at h5
      obtain ⟨k0, k1, k2, k3, k5, e6⟩ : ∃ k0 k1 k2 k3 k5, l = [k0, k1, k2, k3, some (.builtin "ArithmeticError.__new__"), k5] := by
        split at h5
        · exact ⟨_, _, _, _, _, by rw [of_decide_eq_true h5]⟩
        · cases h5
      subst e6
      exact ⟨nm, qn, ns, bs, sn, sub, ab, col, od, k0, k1, k2, k3, k5, rfl⟩
    | _ => cases h
  | _ => cases dt <;> cases h
def ownB (K : PySem.W.Frag) (C CS : Addr) : Bool := (match K.lookup C with
  | some o => ownK C CS o
  | none => false) && (decide (PySem.W.findIn K (.ref C) "__setattr__" = some (some (.builtin "object.__setattr__"))) && (decide (PySem.W.subIn K (.ref C) (.type "BaseException") = some true) && (decide (PySem.W.typeIn K (.ref C) = some (.type "type")) && PySem.W.keepIn K (.ref C))))
theorem ownB_ok {K : PySem.W.Frag} {C CS : Addr} (h : ownB K C CS = true) : OwnA K C CS := by
  obtain ⟨h1, h⟩ := Bool.and_eq_true_iff.mp h
  obtain ⟨h2, h⟩ := Bool.and_eq_true_iff.mp h
  obtain ⟨h3, h⟩ := Bool.and_eq_true_iff.mp h
  obtain ⟨h4, h5⟩ := Bool.and_eq_true_iff.mp h
  refine ⟨?_, of_decide_eq_true h2, of_decide_eq_true h3, of_decide_eq_true h4, h5⟩
  cases e : K.lookup C with
  | none =>
    rw [e] at h1
    cases h1
  | some o =>
    rw [e] at h1
    obtain ⟨nm, q, N, bs, sn, sub, ab, col, dd, k0, k1, k2, k3, k5, eo⟩ := ownK_ok h1
    exact ⟨nm, q, N, bs, sn, sub, ab, col, dd, k0, k1, k2, k3, k5, by rw [eo]⟩
def ecB (K : PySem.W.Frag) (D : Addr) : Bool := decide (PySem.W.findIn K (.ref D) "__getattribute__" = some (some (.builtin "BaseException.__getattribute__"))) && (decide (PySem.W.findIn K (.ref D) "__getattr__" = some none) && (decide (PySem.W.subIn K (.ref D) (.type "BaseException") = some true) && (PySem.W.hasDictIn K D && (decide (PySem.W.findIn K (.ref D) "__class__" = some (some (.builtin "object.__class__"))) &&
  (decide (PySem.W.specialIn K (.builtin "object.__class__") "__get__" = some (some (.builtin "getset_descriptor.__get__"))) && (decide (PySem.W.takesIn K (.builtin "object.__class__") = some true) && decide (PySem.W.mroIn K D (.type "object") = some true)))))))
theorem ecB_ok {K : PySem.W.Frag} {D : Addr} (h : ecB K D = true) : ExcC K D := by
  obtain ⟨h1, h⟩ := Bool.and_eq_true_iff.mp h
  obtain ⟨h2, h⟩ := Bool.and_eq_true_iff.mp h
  obtain ⟨h3, h⟩ := Bool.and_eq_true_iff.mp h
  obtain ⟨h4, h⟩ := Bool.and_eq_true_iff.mp h
  obtain ⟨h5, h⟩ := Bool.and_eq_true_iff.mp h
  obtain ⟨h6, h⟩ := Bool.and_eq_true_iff.mp h
  obtain ⟨h7, h8⟩ := Bool.and_eq_true_iff.mp h
  exact ⟨of_decide_eq_true h1, of_decide_eq_true h2, of_decide_eq_true h3, h4, of_decide_eq_true h5, of_decide_eq_true h6, of_decide_eq_true h7, of_decide_eq_true h8⟩
theorem funD_fun {K : PySem.W.Frag} {x qual : Str} {st : Stmt} {f : Addr} {fd : FuncData} (F : FunD K x qual (defArgs st) (defBody st) (defScope st) [] [] f fd) : Fun K x qual st f fd := by
  obtain ⟨oc, od, dV, kV, doc, pm, an, cdv, ct, osl, e, lk, hcd, hD, _⟩ := F.ex
  rcases hD with ⟨_, rfl⟩ | ⟨z, _⟩
  · exact ⟨⟨oc, od, kV, doc, pm, an, cdv, ct, osl, e, lk, hcd⟩, F.kp⟩
  · exact absurd rfl z
/-! what a made exception leaves -/
/-- the heap behind C(x), C's __init__ storing one field -/
def excH (H : Hp) (a dx C : Addr) (f : Str) (x : V) : Hp := upd (del (upd (upd (upd H a (exo a C none)) dx (exd dx [(f, x)])) a (exo a C (some dx))) a) dx (.xd [(f, x)])
theorem excH_at {H : Hp} {a dx C : Addr} {f : Str} {x : V} : excH H a dx C f x dx = some (.xd [(f, x)]) := upd_same
theorem excH_keep {H : Hp} {a dx C : Addr} {f : Str} {x : V} (ha : H a = none) (hd : H dx = none) {b : Addr} {o : HO} (h : H b = some o) : excH H a dx C f x b = some o := by
  unfold excH
  rw [upd_ne (ne_of_none h hd), del_ne (ne_of_none h ha), upd_ne (ne_of_none h ha), upd_ne (ne_of_none h hd), upd_ne (ne_of_none h ha)]
  exact h
abbrev lamQ : Str := ("_law_picks.<locals>." : Str) ++ ("<lambda>" : Str)
end L2
namespace L2
open PySem PySem.Spec PyProof.Rows He
/-! the head's facts, over a written part that holds the statics, too -/
def asY (g : Addr → Option Obj) (n : Nat) : List Addr := cStatics :: asD g n
def obsY (n : Nat) (fa : List Fa) (fn : List DefD) (ts : List Tab) (tf : List Defn) (ex : PySem.W.Frag → Bool) (g : Addr → Option Obj) : AlX := (obsT fa fn ts (frT g (asY g n)), ex (frT g (asY g n)) && tabsB g tf (frT g (asY g n)))
theorem saysY {n : Nat} {fa : List Fa} {fn : List DefD} {ts : List Tab} {tf : List Defn} {ex : PySem.W.Frag → Bool} {w : World} {h : Heap} (e : obsY n fa fn ts tf ex h.get? = valX fn ts w) : SaysX fa fn ts tf ex w h (frT h.get? (asY h.get? n)) := by
  have a1 : obsT fa fn ts (frT h.get? (asY h.get? n)) = valT fn ts w := congrArg (fun z : AlX => z.1) e
  have a2 : (ex (frT h.get? (asY h.get? n)) && tabsB h.get? tf (frT h.get? (asY h.get? n))) = true := congrArg (fun z : AlX => z.2) e
  obtain ⟨b1, b2⟩ := Bool.and_eq_true_iff.mp a2
  have each : ∀ p ∈ tf, PySem.W.codeHdIn (frT h.get? (asY h.get? n)) (cT (frT h.get? (asY h.get? n)) p).1 (cT (frT h.get? (asY h.get? n)) p).2 = true ∧ ∃ o, h.get? (cT (frT h.get? (asY h.get? n)) p).2 = some o ∧ emptyTab o = true := fun p hp => by
    obtain ⟨d1, d2⟩ := Bool.and_eq_true_iff.mp (List.all_eq_true.mp b2 p hp)
    refine ⟨d1, ?_⟩
    split at d2
    · exact ⟨_, by assumption, d2⟩
    · cases d2
  refine { t := a1, more := b1, hd := fun p hp => (each p hp).1, out := fun p hp => ?_, empty := fun p hp => ?_ }
  · obtain ⟨_, o, q, z⟩ := each p hp
    exact frT_none q z
  · obtain ⟨_, o, q, z⟩ := each p hp
    rw [q, emptyTab_eq z]
def hookY (n : Nat) (fa : List Fa) (fn : List DefD) (ts : List Tab) (tf : List Defn) (ex : PySem.W.Frag → Bool) : PySem.W.Hook where
  α := AlX
  obs s := obsY n fa fn ts tf ex s.heap.get?
  val w := valX fn ts w
  says w h := ∃ K : PySem.W.Frag, K.In h ∧ SaysX fa fn ts tf ex w h K
  of _ _ e := ⟨_, frT_in, saysY e⟩
  keeps _ _ _ := fun ⟨K, hK, c⟩ k => ⟨K, PySem.W.Frag.In.keeps hK k, { t := c.t, more := c.more, hd := c.hd, out := c.out, empty := fun p hp => k _ _ (c.empty p hp) }⟩
theorem obsY_eq {n : Nat} {fa : List Fa} {fn : List DefD} {ts : List Tab} {tf : List Defn} {ex : PySem.W.Frag → Bool} {g : Addr → Option Obj} {s : Shared} (h : ∀ a, g a = s.heap.get? a) : obsY n fa fn ts tf ex g = (hookY n fa fn ts tf ex).obs s := congrArg (obsY n fa fn ts tf ex) (funext h)
end L2
/-! a lambda with one parameter: made by the def, called by a built-in -/
namespace Lam1
open PySem PySem.Spec PyProof.Rows L2 LamX
/-- the parameter x, captured names and globals, nothing else -/
structure LamP (sc scope : Scope) (x : Str) : Prop where
  kind : scope.kind = .function
  co : scope.isCoroutine = false
  gen : scope.isGenerator = false
  cell : ∀ y ∈ scope.names, y.2 ≠ .cell
  loc : ∀ y ∈ scope.names, y.2 = .local → y.1 = x
  par : scope.names.lookup x = some .local
  free : ∀ y ∈ scope.names, y.2 = .free → sc.names.lookup y.1 = some .cell ∨ sc.names.lookup y.1 = some .free
def lamPB (sc scope : Scope) (x : Str) : Bool :=
  decide (scope.kind = .function) && !scope.isCoroutine && !scope.isGenerator && decide (scope.names.lookup x = some .local) && scope.names.all fun y => !decide (y.2 = .cell) && (!decide (y.2 = .local) || decide (y.1 = x)) && (!decide (y.2 = .free) || decide (sc.names.lookup y.1 = some .cell) || decide (sc.names.lookup y.1 = some .free))
theorem lamP_by {sc scope : Scope} {x : Str} (h : lamPB sc scope x = true) : LamP sc scope x := by
  unfold lamPB at h
  simp only [Bool.and_eq_true, Bool.or_eq_true, Bool.not_eq_true', decide_eq_true_eq, decide_eq_false_iff_not, List.all_eq_true] at h
  obtain ⟨⟨⟨⟨k1, k2⟩, k3⟩, k4⟩, k5⟩ := h
  refine ⟨k1, k2, k3, fun y hy => (k5 y hy).1.1, fun y hy e => ?_, k4, fun y hy e => ?_⟩
  · rcases (k5 y hy).1.2 with z | z
    · exact absurd e z
    · exact z
  · rcases (k5 y hy).2 with (z | z) | z
    · exact absurd e z
    · exact .inl z
    · exact .inr z
theorem LamP.has {X : Cx} {scope : Scope} {x : Str} (L : LamP X.env.scope scope x) (ok : X.Ok) : ∀ y ∈ scope.names, y.2 = .free → ∃ c, X.env.cells.lookup y.1 = some c := fun y hy e => (L.free y hy e).elim (fun k => ok.has _ (.inl k)) fun k => ok.has _ (.inr k)
section
variable {X : Cx} {pins : List (Addr × Obj)} {σ : L2.St} {H HZ : Hp} {s s1 : Shared}
theorem startP {A : Around} {outer : List Env} {E : XK} {scope : Scope} {x : Str} {i : Nat} {z : V} {u : Value} {f c' : Addr} {h₁ : Heap} {tk : Nat} (I : Inv X pins σ H s) (L : LamP X.env.scope scope x) (hN : X.N.Nodup) (hi : X.N[i]? = some x) (rz : RelV z u)
    (e0 : Env0 X.prog X.w X.K X.mg X.base A outer s1 HZ) (hd : A.handled = none)
    (un : Un (frs X.stack) [] H HZ s.heap s1.heap) (hns : h₁.Ns s1.heap.objs.size fun y => ([(x, u)] : List (Str × Value)).reverse.lookup y) (kp : ∀ b o, s1.heap.get? b = some o → h₁.get? b = some o) :
    Inv (lamCx X A outer s1 HZ E scope f c') [] (σ.set i (some z)) HZ { s1 with heap := h₁, toks := tk } := by
  have has := L.has I.ok
  have toCell : ∀ {y c}, (cloFrom X.env.cells scope.names []).lookup y = some c → X.env.cells.lookup y = some c := fun {y c} e => by
    rcases cloFrom_mem (PySem.mem_of_lookup e) with hm | ⟨h1, h2⟩
    · cases hm
    · obtain ⟨c1, hc⟩ := has _ h1 rfl
      have hc : X.env.cells.lookup y = some c1 := hc
      have e2 : c = c1 := by
        rw [h2, hc] <;> rfl
      rw [e2]
      exact hc
  have caught : ∀ {y}, scope.names.lookup y = some .free → ∃ c, (cloFrom X.env.cells scope.names []).lookup y = some c := fun {y} hl => by
    have hy : (y, NameKind.free) ∈ scope.names := PySem.mem_of_lookup hl
    exact mem_lookup (cloFrom_has (cells := X.env.cells) (acc := []) hy)
  have stays : ∀ {c : Addr} {v : Option Value}, H c = none → s.heap.IsCell c v → h₁.IsCell c v := fun {c v} n ⟨o, ho, hd⟩ => by
    obtain ⟨sl, q⟩ := un.any ho n (by simp)
    exact ⟨_, kp _ _ q, hd⟩
  have none_ : ∀ b : Addr, b ∉ (lamCx X A outer s1 HZ E scope f c').ex := fun b z => absurd (show b ∈ ([] : List Addr) from z) (by simp)
  refine ⟨⟨e0.mod, L.kind, rfl, rfl, Nat.le_refl _, fun y z c e1 e2 => I.ok.inj y z c (toCell e1) (toCell e2), fun y hy => ?_, fun y c z _ => ?_, fun _ => hd, Around.frames_deeper e0.frames, .inr ⟨rfl, rfl⟩, fun b z => absurd z (none_ b), e0.bs, e0.bsz, fun b _ _ => none_ b,
      fun b z => absurd z (none_ b), e0.funs, e0.frf⟩,
    rfl, e0.bare, Un.kept kp, ⟨_, hns, fun j y v e1 e2 e3 => ?_⟩, fun y c e => ?_, e0.hok.fresh (Nat.le_refl _), fun y c e => ?_, fun q hq => absurd (show q ∈ ([] : List (Addr × Obj)) ++ [] from hq) (by simp), e0.hok.kept kp, by rw [List.length_set]; exact I.len⟩
  · have hy : scope.names.lookup y = some .cell ∨ scope.names.lookup y = some .free := hy
    rcases hy with hy | hy
    · exact absurd rfl (L.cell _ (PySem.mem_of_lookup hy))
    · exact caught hy
  · have z : false = true := z
    cases z
  · have e1 : X.N[j]? = some y := e1
    have e3 : Vis scope y := e3
    by_cases hyx : y = x
    · have hij : j = i := List.getElem?_inj (List.getElem?_eq_some_iff.mp e1).1 hN |>.mp (by rw [e1, hi, hyx])
      rw [hij] at e2
      have li : i < σ.length := by
        rw [I.len]
        exact (List.getElem?_eq_some_iff.mp hi).1
      rw [List.getElem?_set_self li] at e2
      cases e2
      refine ⟨u, rz, .inl ⟨by rw [hyx]; exact L.par, ?_⟩⟩
      rw [hyx]
      show ([(x, u)] : List (Str × Value)).reverse.lookup x = some u
      simp [List.lookup]
    · have hji : i ≠ j := fun q => by
        rw [← q, hi] at e1
        exact hyx (Option.some.inj e1).symm
      rw [List.getElem?_set_ne hji] at e2
      rcases e3 with k | k | k
      · exact absurd (L.loc _ (PySem.mem_of_lookup k) rfl) hyx
      · exact absurd rfl (L.cell _ (PySem.mem_of_lookup k))
      · obtain ⟨m, hn, hl⟩ := I.loc
        have hvis : Vis X.env.scope y := (L.free _ (PySem.mem_of_lookup k) rfl).elim (fun k => .inr (.inl k)) (fun k => .inr (.inr k))
        obtain ⟨w', r, q⟩ := hl j y v e1 e2 hvis
        obtain ⟨c2, h2⟩ := caught k
        refine ⟨w', r, .inr ⟨.inr k, c2, h2, ?_⟩⟩
        have c1 := toCell h2
        rcases q with ⟨k', _⟩ | ⟨_, c3, e', z⟩
        · have k' : X.env.scope.names.lookup y = some .local := k'
          rcases L.free _ (PySem.mem_of_lookup k) rfl with k2 | k2 <;> rw [show X.env.scope.names.lookup y = _ from k2] at k' <;> cases k'
        · rw [c1] at e'
          cases e'
          exact stays (I.freeC y _ c1) z
  · obtain ⟨w', z⟩ := I.cell y c (toCell e)
    exact ⟨w', stays (I.freeC y c (toCell e)) z⟩
  · obtain ⟨v, o, ho, hd⟩ := I.cell y c (toCell e)
    exact un.free c o ho (I.freeC y c (toCell e)) (by simp)
/-- the lambda called with a value, from a later state -/
theorem callP {A1 : Around} {k i : Nat} {scope : Scope} {x : Str} {params : Arguments} {body : Expr} {f c' : Addr} {pm ctv : Value} {z : V} {v : Value} {Q : VK} {tb : TE} (I : Inv X pins σ H s) (L : LamP X.env.scope scope x) (hN : X.N.Nodup) (hi : X.N[i]? = some x) (rz : RelV z v)
    (hf : s.heap.get? f = some (PySem.W.kla_obj "<lambda>" (X.env.qual ++ "<lambda>") params body scope (cloFrom X.env.cells scope.names []) pm c' ctv)) (hfn : H f = none) (hfr : f ∉ frs X.stack) (hco : HZ c' = some (CodeO c' (X.env.qual ++ "<lambda>")))
    (hbind : ∀ u, bindArgs (PySem.W.kla_fn "<lambda>" (X.env.qual ++ "<lambda>") params body scope (cloFrom X.env.cells scope.names []) pm (.ref c') ctv) ⟨[u], []⟩ = pure [(x, u)])
    (e0 : Env0 X.prog X.w X.K X.mg X.base A1 X.stack s1 HZ) (un : Un (frs X.stack) [] H HZ s.heap s1.heap) (lim : s1.heap.NoLimit) (hr : Room (k + 1) A1)
    (hbody : ∀ (A : Around) (outer : List Env) (s : Shared) (H : Hp), Room k (A.deeper (lamEnv X scope s.heap.objs.size f c')) → PE (lamCx X A outer s H C8.E0 scope f c') body tb) (ht : tb (σ.set i (some z)) HZ Q) :
    codeAny (model X.prog X.w) A1 (.call (.ref f) ⟨[v], []⟩) (CR (L2.CX X.prog X.w) X.stack X.prog X.w HZ s1 Q C8.E0) s1 := by
  have fat : s1.heap.get? f = some (PySem.W.kla_obj "<lambda>" (X.env.qual ++ "<lambda>") params body scope (cloFrom X.env.cells scope.names []) pm c' ctv) := un.keep f _ hf hfn hfr (fun z => nomatch (show f ∈ ([] : List Addr) from z))
  obtain ⟨⟨oc, vs, t, hoc, hdc, hvc⟩, _, _⟩ := e0.hok c' _ hco
  refine PySem.W.kla_callFunE hr.depth fat rfl L.co L.gen rfl ⟨c', oc, vs, t, rfl, hoc, hdc, hvc⟩ ?_
  rw [hbind]
  refine wpAny_pure (wpAny_newFunctionEnv L.cell (fun y hy => by rw [List.mem_singleton.mp hy]; exact L.par) (fun h₁ hns hsb => ⟨lim.fresh _ hsb, ?_⟩) L.kind)
  show codeAny _ _ (.expr body (lamEnv X scope s1.heap.objs.size f c')) _ _
  have kp : ∀ b o, s1.heap.get? b = some o → h₁.get? b = some o := fun b o e => hsb.extBut b o (Nat.ne_of_lt (Heap.lt_size e)) (Heap.get?_push_of_some _ e)
  have J : Inv (lamCx X A1 X.stack s1 HZ C8.E0 scope f c') [] (σ.set i (some z)) HZ { s1 with heap := h₁, toks := s1.toks + ([(x, v)] : List (Str × Value)).length } := startP I L hN hi rz e0 hr.hd un hns kp
  refine PySem.W.kla_codeExpr (wpAny_mono ((hbody _ _ s1 HZ (hr.deeper _)).run [] _ _ HZ Q J ht) (fun v s' hq => ?_) fun e s' hq => hq)
  obtain ⟨w', G', J', rv, q⟩ := hq
  exact ⟨w', G', J'.os, J'.bare, J'.base, J'.hok, rv, q⟩
end
end Lam1
/-! sorted(xs, key=f), f's calls told by an invariant over states -/
namespace SrtJ
open PySem PySem.W PySem.Calls PyProof.Rows
/-- all but the object at a -/
def freed (h : Heap) (a : Addr) : Heap := h.update a fun o => { o with data := .freed }
theorem freed_at {h : Heap} {a : Addr} : (freed h a).get? a = none := by
  unfold freed Heap.get? Heap.update
  simp only [Array.getElem?_modify]
  cases e : h.objs[a]? <;> simp
theorem freed_ne {h : Heap} {a b : Addr} (n : b ≠ a) : (freed h a).get? b = h.get? b := Heap.get?_update_other _ _ n.symm
section
variable {prog : Program} {w : World} {A : Around} {E : Value → Shared → Prop} {s : Shared} {a kS : Addr} {b : Bool} {vs : List Value} {kz : List PyData} {P : PySem.Fin → Shared → Prop}
theorem restJ {f : Value} {e1 : Nat} (J : Nat → Shared → List Value → Prop) (apart : kS ≠ a) (hlen : kz.length = vs.length) (fits : vs.length ≤ sizeLine) (hal : AllAlike kz) (hsk : Sortable kz) (hu : ∀ d, d ∈ kz → A.units + d.depth < cLine)
    (nk : s.heap.get? kS = some (seqObj "list" #[] 0)) (na : s.heap.get? a = some (seqObj "list" #[] e1)) (j0 : J 0 s [])
    (still : ∀ j t keys h', J j t keys → Heap.SameBut kS t.heap h' → J j { t with heap := h' } keys)
    (turn : ∀ j v t keys ok oa, vs[j]? = some v → J j t keys → t.heap.get? kS = some ok → t.heap.get? a = some oa → wpAny (model prog w) A (call f [v]) (fun u t' => J (j + 1) t' (keys ++ [u]) ∧ t'.heap.get? kS = some ok ∧ t'.heap.get? a = some oa) (fun _ _ => False) t)
    (data : ∀ t keys, J vs.length t keys → EachIs (fun v d => ∃ as, Reads t.heap v d as) keys kz)
    (fin : ∀ t keys h' tk out c, J vs.length t keys → (∀ x o, x ≠ a → x ≠ kS → t.heap.get? x = some o → h'.get? x = some o) → h'.get? a = some (seqObj "list" (List.toArray out) c) → KeyedOut b kz vs out → P (.done (.ret .none)) { t with heap := h', toks := tk }) :
    wpAny (model prog w) A (ksk_rest a f b vs.toArray e1 (.ref kS)) P E s := by
  unfold ksk_rest
  refine wpAny_bind (wpAny_rule ?_)
  rw [← Array.forIn_toList, List.toList_toArray]
  refine wpAny_bind (ksk_fold (fun j t => ∃ keys c, J j t keys ∧ t.heap.get? kS = some (seqObj "list" (List.toArray keys) c) ∧ t.heap.get? a = some (seqObj "list" #[] e1) ∧ keys.length = j) vs 0 s ⟨[], 0, j0, nk, na, rfl⟩ ?one ?all)
  case one =>
    rintro j v t hv ⟨keys, c, hj, ok, oa, hk⟩
    simp only [Nat.zero_add] at hj hk ⊢
    have lt : j < vs.length := (List.getElem?_eq_some_iff.mp hv).1
    refine wpAny_bind (wpAny_attempt (wpAny_mono (turn j v t keys _ _ hv hj ok oa) (fun u t' told => ?_) fun _ _ no => no.elim))
    obtain ⟨hj', ok', oa'⟩ := told
    have sb := Heap.SameBut.update t'.heap kS (Obj.mapSeq (·.push u))
    obtain ⟨c2, at2⟩ : ∃ c2, (t'.heap.update kS (Obj.mapSeq (·.push u))).get? kS = some (seqObj "list" ((List.toArray keys).push u) c2) := ⟨_, get?_update_seq ok' (·.push u)⟩
    refine wpAny_bind (listUpdate_at ok' rfl ?_ (by rw [List.size_toArray]; omega) (by rw [Array.size_push, List.size_toArray]; omega))
    refine wpAny_pure ⟨rfl, keys ++ [u], c2, still _ _ _ _ hj' sb, ?_, (sb.2 a apart.symm).trans oa', by rw [List.length_append, hk]; rfl⟩
    have e : (List.toArray keys).push u = List.toArray (keys ++ [u]) := by simp
    rw [← e]
    exact at2
  case all =>
    rintro t ⟨keys, c, hj, ok, oa, hk⟩
    rw [Nat.zero_add] at hj hk
    refine wpAny_bind (listItems_at ok rfl ?_)
    have rd := data t keys hj
    have e : keys = (List.toArray keys).toList := by simp
    refine keyH_end (κ := dataKind t.heap kz) (h₁ := freed t.heap kS) (fun x o nx q => ?_) freed_at ok oa apart (by rw [← e]; exact SortsAt.data rd hal hsk hu) (by rw [List.size_toArray]; exact hk) fits fun h' tk c' kp at_ => ?_
    · by_cases z : x = kS
      · rw [z, freed_at] at q
        cases q
      · rw [freed_ne z] at q
        exact q
    · refine fin t keys h' tk _ c' hj (fun x o n1 n2 q => kp x o n1 (by rw [freed_ne n2]; exact q)) at_ ⟨t.heap, keys, hal, by rw [← e], rd⟩
/-- sorted(l, key=f) -/
theorem sortedJ {l : Addr} {f : Value} {kw : List (Str × Value)} {Q : Value → Shared → Prop} (J : Nat → Shared → List Value → Prop) (hl : s.heap.IsList l vs.toArray) (fits : vs.length ≤ sizeLine) (hlen : kz.length = vs.length) (hal : AllAlike kz) (hsk : Sortable kz) (hu : ∀ d, d ∈ kz → A.units + 2 + d.depth < cLine)
    (ha1 : argsOk "sorted" ⟨[.ref l], kw⟩) (ha2 : ∀ x, argsOk "list.sort" ⟨[.ref x], kw⟩) (ht : ∀ x, Builtin.«list.sort» ⟨[.ref x], kw⟩ = ksk_tree x f b)
    (j0 : ∀ h', (∀ x o, s.heap.get? x = some o → h'.get? x = some o) → J 0 { s with heap := h' } [])
    (still : ∀ j t keys h', J j t keys → Heap.SameBut (s.heap.objs.size + 3) t.heap h' → J j { t with heap := h' } keys)
    (turn : ∀ j v t keys ok oa, vs[j]? = some v → J j t keys → t.heap.get? (s.heap.objs.size + 3) = some ok → t.heap.get? (s.heap.objs.size + 1) = some oa → wpAny (model prog w) A.in1.in1 (call f [v]) (fun u t' => J (j + 1) t' (keys ++ [u]) ∧ t'.heap.get? (s.heap.objs.size + 3) = some ok ∧ t'.heap.get? (s.heap.objs.size + 1) = some oa) (fun _ _ => False) t)
    (data : ∀ t keys, J vs.length t keys → EachIs (fun v d => ∃ as, Reads t.heap v d as) keys kz)
    (fin : ∀ t keys h' tk out c, J vs.length t keys → (∀ x o, x ≠ s.heap.objs.size + 1 → x ≠ s.heap.objs.size + 3 → t.heap.get? x = some o → h'.get? x = some o) → h'.get? (s.heap.objs.size + 1) = some (seqObj "list" (List.toArray out) c) → KeyedOut b kz vs out → Q (.ref (s.heap.objs.size + 1)) { t with heap := h', toks := tk }) :
    wpAny (model prog w) A (call (.builtin "sorted") [.ref l] kw) Q E s := by
  refine sorted_of_sort hl fits ha1 ha2 fun E' => ?_
  rw [ht]
  have here := copyHeap_at s.heap vs
  have sz0 : (copyHeap s.heap vs).objs.size = s.heap.objs.size + 2 := by
    unfold copyHeap
    rw [size_push', Heap.size_update, size_push']
  obtain ⟨e1, here1⟩ : ∃ e1, ((copyHeap s.heap vs).update (s.heap.objs.size + 1) (Obj.mapSeq fun _ => (#[] : Array Value))).get? (s.heap.objs.size + 1) = some (seqObj "list" #[] e1) := ⟨_, get?_update_seq here fun _ => #[]⟩
  unfold ksk_tree
  refine wpAny_bind (listItems_at here rfl ?_)
  refine wpAny_bind (listUpdate_at here rfl ?_ (by rw [List.size_toArray]; exact fits) (Nat.zero_le _))
  refine wpAny_bind (seqEpoch_at here1 rfl ?_)
  refine wpAny_bind (wpAny_newTuple ?_ (by show vs.length ≤ _; exact fits))
  refine wpAny_bind (wpAny_newList ?_ (Nat.zero_le _))
  refine wpAny_holding ?_
  have sz3 : (((copyHeap s.heap vs).update (s.heap.objs.size + 1) (Obj.mapSeq fun _ => (#[] : Array Value))).push (seqObj "tuple" vs.toArray 0)).objs.size = s.heap.objs.size + 3 := by rw [size_push', Heap.size_update, sz0]
  have main := restJ (prog := prog) (w := w) (A := A.in1.in1) (E := E') (s := { s with heap := (((copyHeap s.heap vs).update (s.heap.objs.size + 1) (Obj.mapSeq fun _ => (#[] : Array Value))).push (seqObj "tuple" vs.toArray 0)).push (seqObj "list" #[] 0) }) (a := s.heap.objs.size + 1) (kS := s.heap.objs.size + 3) (b := b) (vs := vs) (kz := kz) (f := f) (e1 := e1)
    (P := fun f s' => f = .done (.ret .none) ∧ Q (.ref (s.heap.objs.size + 1)) s') J (Nat.ne_of_gt (Nat.lt_succ_of_lt (Nat.lt_succ_self _))) hlen fits hal hsk (fun d hd => hu d hd) (by rw [← sz3]; exact Heap.get?_push_size _ rfl) (Heap.get?_push_of_some _ (Heap.get?_push_of_some _ here1))
    (j0 _ fun x o q => Heap.get?_push_of_some _ (Heap.get?_push_of_some _ ((Heap.get?_update_other _ _ (Nat.ne_of_gt (Nat.lt_succ_of_lt (Heap.lt_size q)))).trans (copyHeap_old q)))) still turn data fun t keys h' tk out c hj kp at_ ko => ⟨rfl, fin t keys h' tk out c hj kp at_ ko⟩
  show wpAny _ _ (ksk_rest (s.heap.objs.size + 1) f b vs.toArray _ (.ref (((copyHeap s.heap vs).update (s.heap.objs.size + 1) (Obj.mapSeq fun _ => (#[] : Array Value))).push (seqObj "tuple" vs.toArray 0)).objs.size)) _ _ _
  rw [sz3]
  exact main
end
end SrtJ
/-! sorted(xs, key=lambda x: ..): the reading -/
namespace Lam1
open PySem PySem.W PySem.Spec PyProof.Rows L2 LamX Evl
section
variable {K : PySem.W.Frag} {H H' : Hp}
mutual
theorem dpx (e : Ex H H') : ∀ {v : V} {d : PyData}, Dp K H v d → Dp K H' v d
  | _, _, .non => .non
  | _, _, .bl b => .bl b
  | _, _, .int i => .int i
  | _, _, .str x => .str x
  | _, _, .lst a b => .lst (ex_l e a) (dpxs e b)
  | _, _, .tup a b => .tup (ex_t e a) (dpxs e b)
theorem dpxs (e : Ex H H') : ∀ {vs : List V} {ds : List PyData}, DpAll K H vs ds → DpAll K H' vs ds
  | _, _, .nil => .nil
  | _, _, .cons a b => .cons (dpx e a) (dpxs e b)
end
theorem dp_more : ∀ {ws : List V} {ds : List PyData} {w : V} {d : PyData}, DpAll K H ws ds → Dp K H w d → DpAll K H (ws ++ [w]) (ds ++ [d])
  | _, _, _, _, .nil, h => .cons h .nil
  | _, _, _, _, .cons a b, h => .cons a (dp_more b h)
end
section
variable {X : Cx} {pins : List (Addr × Obj)} {σ : L2.St} {H : Hp} {s : Shared}
theorem dp_each (I : Inv X pins σ H s) : ∀ {ws : List V} {ds : List PyData} {us : List Value}, DpAll X.K H ws ds → Vals ws us → EachIs (fun v d => ∃ as, Reads s.heap v d as) us ds
  | _, _, _, .nil, .nil => .nil
  | _, _, _, .cons a b, .cons r rr => .cons (Dp.reads I _ _ _ a r) (dp_each I b rr)
theorem each_vals : ∀ {xs : List V} {us : List Value}, Vals xs us → EachIs (fun u x => RelV x u) us xs
  | _, _, .nil => .nil
  | _, _, .cons r rr => .cons r (each_vals rr)
theorem vals_each : ∀ {us : List Value} {xs : List V}, EachIs (fun u x => RelV x u) us xs → Vals xs us
  | _, _, .nil => .nil
  | _, _, .cons r rr => .cons r (vals_each rr)
theorem not_frame (I : Inv X pins σ H s) {a : Addr} (h : s.heap.objs.size ≤ a) : a ∉ frs X.stack := fun z => by
  rcases List.mem_cons.mp (I.stkSub _ z) with e | e
  · have l := I.lt
    rw [← e] at l
    exact Nat.lt_irrefl _ (Nat.lt_of_lt_of_le l h)
  · exact I.nofs h e
/-- an object that the start knows nothing of is changed, or tracked from now on -/
theorem un_new {fs : List Addr} {H1 : Hp} {h h1 h2 : Heap} {a : Addr} (u : Un fs [] H H1 h h1) (na : h.get? a = none) (nt : H1 a = none) (k : ∀ b o, b ≠ a → h.get? b ≠ none → h1.get? b = some o → h2.get? b = some o) (ob : Option HO) : Un fs [] H (match ob with | none => H1 | some o => upd H1 a o) h h2 := by
  have ne : ∀ b o, h.get? b = some o → b ≠ a := fun b o e z => by rw [z, na] at e; cases e
  have at_ : ∀ b, b ≠ a → (match ob with | none => H1 | some o => upd H1 a o) b = H1 b := fun b n => by
    cases ob with
    | none => rfl
    | some o => exact upd_ne n
  refine ⟨fun b o e n f x => k b o (ne b o e) (by rw [e]; exact fun z => nomatch z) (u.keep b o e n f x), fun b o e n f x => ?_, fun b o e n x => by rw [at_ b (ne b o e)]; exact u.free b o e n x, fun b o e x => ?_, fun b xs e => ?_, fun b o xs e => ?_, fun b ps e => ?_⟩
  · obtain ⟨sl, q⟩ := u.slot b o e n f x
    exact ⟨sl, k b _ (ne b o e) (by rw [e]; exact fun z => nomatch z) q⟩
  · obtain ⟨o', q⟩ := u.there b o e x
    exact ⟨o', k b _ (ne b o e) (by rw [e]; exact fun z => nomatch z) q⟩
  · have q := u.tups b xs e
    rw [at_ b (ne_of_none q nt)]
    exact q
  · have q := u.frzs b o xs e
    rw [at_ b (ne_of_none q nt)]
    exact q
  · obtain ⟨m, q⟩ := u.tbls b ps e
    exact ⟨m, by rw [at_ b (ne_of_none q nt)]; exact q⟩
theorem hok_but {P : Program} {w : World} {h h' : Heap} {A : Addr → Prop} (hok : HOk P w H h) (nt : ∀ a, A a → H a = none) (k : ∀ b o, ¬ A b → h.get? b = some o → h'.get? b = some o) : HOk P w H h' := fun b u e =>
  (hok b u e).stay (fun c v hc q => k c v (fun z => by
    rcases hc with r | r
    · rw [r] at z
      rw [nt b z] at e
      cases e
    · rw [nt c z] at r
      cases r) q) (fun _ q => q) fun _ _ q => q
theorem hok_adopt {P : Program} {w : World} {h : Heap} {a : Addr} {o : HO} (hok : HOk P w H h) (nt : H a = none) (new : ObjOk P w (upd H a o) h a o) : HOk P w (upd H a o) h := fun b u e => by
  by_cases z : b = a
  · subst z
    rw [upd_same] at e
    cases e
    exact new
  · rw [upd_ne z] at e
    exact (hok b u e).stay (fun c v hc q => q) (fun d q => by rw [upd_ne (ne_of_none q nt)]; exact q) fun d xs q => by rw [upd_ne (ne_of_none q nt)]; exact q
def oneOf (P : V → Hp → Prop) : List V → Hp → Prop
  | [y], H => P y H
  | _, _ => False
theorem oneOf_has {P : V → Hp → Prop} : ∀ {vs : List V} {H : Hp}, oneOf P vs H → ∃ y, vs = [y] ∧ P y H
  | [], _, h => h.elim
  | [y], _, h => ⟨y, rfl, h⟩
  | _ :: _ :: _, _, h => h.elim
def tSortLam (K : PySem.W.Frag) (T : List (Addr × Str)) (ta : TE) (i : Nat) (tb : TE) : TE := fun σ H Q => ta σ H fun x H1 => Tabs T H1 ∧ ∀ H2, ExtN H1 H2 → Tabs T H2 → ∃ (l : Addr) (xs : List V) (key : V → PyData), x = .ref l ∧ SqL K H2 l xs ∧ PySem.W.AllAlike (xs.map key) ∧ PySem.W.Sortable (xs.map key) ∧ (∀ y ∈ xs, (key y).depth ≤ 20) ∧
  (∀ y ∈ xs, ∀ H3, Ex H2 H3 → tb (σ.set i (some y)) H3 fun w H4 => Ex H3 H4 ∧ Dp K H4 w (key y)) ∧ ∀ p H3, H2 p = none → Ex H2 H3 → H3 p = none → Q (.ref p) (upd H3 p (.lst (xs.mergeSort (PySem.W.dataLe false key))))
theorem pe_sortedLam {T : List (Addr × Str)} {c P : Addr} {k i : Nat} {x : Str} {params : Arguments} {body : Expr} {scope : Scope} {ta tb : TE} {e : Expr} {p lpos kpos pos : Pos} (hg : Gl X "sorted") (hm : X.mg "sorted" = none) (ha : PE X e ta) (hN : X.N.Nodup) (hi : X.N[i]? = some x) (L : LamP X.env.scope scope x)
    (TB : TabB X.base X.mg c P) (hcode : X.env.code = .ref c) (hmT : (P, X.env.qual ++ "<lambda>") ∈ T) (hu : ∀ p ∈ T, p.1 = P → p.2 = X.env.qual ++ "<lambda>") (hr : Room (k + 3) X.A) (hdef : defaultsOf params X.env = ([], []))
    (hbind : ∀ (q : Str) (cl : List (Str × Addr)) (pm cv ctv u : Value), bindArgs (PySem.W.kla_fn "<lambda>" q params body scope cl pm cv ctv) ⟨[u], []⟩ = pure [(x, u)])
    (hbody : ∀ (A : Around) (outer : List Env) (s : Shared) (H : Hp) (f c' : Addr), Room k (A.deeper (lamEnv X scope s.heap.objs.size f c')) → PE (lamCx X A outer s H C8.E0 scope f c') body tb)
    (hs : starEach [e] X.env = (false, eval e X.env) :: starEach [] X.env := by rfl) (he : backTo pos (starEach [e] X.env) = (false, eval e X.env) :: backTo pos (starEach [] X.env) := by rfl) (hpl : (backTo pos (starEach [e] X.env)).any (·.1) = false := by rfl) :
    PE X (.Call (.Name "sorted" p) [e] [⟨some "key", .Lambda params body scope lpos, kpos⟩] pos) (tSortLam X.K T ta i tb) := by
  refine ⟨fun pins s σ H Q I h => ?_⟩
  refine wpAny_Call_Name_kw (ld_blt I hg hm (by rfl) ?_)
  refine PyProof.Rows.callWith_kw (thn ((pa_cons ha pa_nil hs).run pos pins s σ H (oneOf (fun y H1 => Tabs T H1 ∧ ∀ H2, ExtN H1 H2 → Tabs T H2 → ∃ (l : Addr) (xs : List V) (key : V → PyData), y = .ref l ∧ SqL X.K H2 l xs ∧ PySem.W.AllAlike (xs.map key) ∧ PySem.W.Sortable (xs.map key) ∧ (∀ y ∈ xs, (key y).depth ≤ 20) ∧
    (∀ y ∈ xs, ∀ H3, Ex H2 H3 → tb (σ.set i (some y)) H3 fun w H4 => Ex H3 H4 ∧ Dp X.K H4 w (key y)) ∧ ∀ p H3, H2 p = none → Ex H2 H3 → H3 p = none → Q (.ref p) (upd H3 p (.lst (xs.mergeSort (PySem.W.dataLe false key)))))) I h) fun us s1 ⟨vs, H1, I1, r1, q1⟩ => ?_) he hpl (by rfl) (by rfl)
  obtain ⟨y, rfl, hT, q1⟩ := oneOf_has q1
  show wpAny _ _ (evalAll ((do let v ← eval (.Lambda params body scope lpos) X.env; standAt pos; pure v) :: [])) _ _ s1
  refine wpAny_evalAll_cons (wpAny_bind (lam_make2 I1 TB hcode hmT hu hT hdef (L.has I1.ok) fun f c' pm' ctv H2 s2 I2 eN T2 hf hfn hfr hco => wpAny_bind (wpAny_standAt (wpAny_pure (wpAny_evalAll_nil ?_)))))
  obtain ⟨l, xs, key, rfl, hl, hal, hsk, hdp, ht, q⟩ := q1 H2 eN T2
  cases r1 with
  | cons ru rn =>
    cases rn
    cases ru
    obtain ⟨its, rv, pl, hz⟩ := I2.list hl
    have hlen := rv.length
    have n1 : s2.heap.get? (s2.heap.objs.size + 1) = none := Heap.get?_none_of_le (Nat.le_succ _)
    have n3 : s2.heap.get? (s2.heap.objs.size + 3) = none := Heap.get?_none_of_le (Nat.le_add_right _ _)
    have ap : s2.heap.objs.size + 3 ≠ s2.heap.objs.size + 1 := Nat.ne_of_gt (Nat.lt_succ_of_lt (Nat.lt_succ_self _))
    have toInv : ∀ {t : Shared} {Hj : Hp}, Un (frs X.stack) [] H2 Hj s2.heap t.heap → HOk X.prog X.w Hj t.heap → t.os = s2.os → AllBare t.gens → Inv X pins σ Hj t := fun {t Hj} un ok os bare => by
      obtain ⟨hh, g, d, tk, os'⟩ := t
      obtain rfl : os' = s2.os := os
      exact I2.call un ok bare (fun b hb => nomatch hb)
    refine SrtJ.sortedJ (kz := xs.map key) (fun j t keys => ∃ Hj ws, Un (frs X.stack) [] H2 Hj s2.heap t.heap ∧ HOk X.prog X.w Hj t.heap ∧ t.os = s2.os ∧ AllBare t.gens ∧ Ex H2 Hj ∧ Hj (s2.heap.objs.size + 1) = none ∧ Hj (s2.heap.objs.size + 3) = none ∧ Vals ws keys ∧ DpAll X.K Hj ws ((xs.map key).take j))
      pl.isList (by rw [← hlen]; exact hz) (by rw [List.length_map, hlen]) hal hsk (fun d hd => ?_) (ksk_s1 _ _) (fun _ => ksk_l1 _ _) (fun x => ksk_t1 _ _) (fun h' keep => ?_) ?_ ?_ ?_ ?_
    · obtain ⟨y, hy, rfl⟩ := List.mem_map.mp hd
      have := hdp y hy
      have := hr.un
      omega
    · exact ⟨H2, [], Un.kept keep, I2.hok.kept keep, rfl, I2.bare, Ex.refl _, I2.hok.fresh (Nat.le_succ _), I2.hok.fresh (Nat.le_add_right _ _), .nil, by rw [List.take_zero]; exact .nil⟩
    · rintro j t keys h' ⟨Hj, ws, un, ok, os, bare, ex, e1, e3, rw_, dp⟩ sb
      refine ⟨Hj, ws, un_new un n3 e3 (fun b o nb _ q => (sb.2 b nb).trans q) none, hok_but (A := fun b => b = s2.heap.objs.size + 3) ok (fun a z => by rw [z]; exact e3) (fun b o nb q => (sb.2 b nb).trans q), os, bare, ex, e1, e3, rw_, dp⟩
    · rintro j v t keys o3 o1 hv ⟨Hj, ws, un, ok, os, bare, ex, e1, e3, rw_, dp⟩ h3 h1
      have It := toInv un ok os bare
      have lt : j < its.length := (List.getElem?_eq_some_iff.mp hv).1
      have hx : xs[j]? = some xs[j] := List.getElem?_eq_getElem (by omega)
      obtain ⟨u0, hu0, ru0⟩ := rv.get hx
      rw [hv] at hu0
      cases hu0
      have E0 := It.env0
      have rc := callP (A1 := X.A.in1.in1) (Q := fun w H4 => Ex Hj H4 ∧ Dp X.K H4 w (key xs[j])) I2 L hN hi ru0 hf hfn hfr (ex _ _ hco) (fun u => hbind _ _ _ _ _ u) ⟨E0.frames, E0.mod, E0.bs, E0.bsz, E0.funs, E0.frf, E0.hok, E0.bare⟩ un It.nolimit (hr.in1.in1) (hbody · · · · f c') (ht _ (List.getElem_mem _) Hj ex)
      refine wpAny_call (codeAny_mono rc fun r s' hq => ?_)
      cases r with
      | error e => exact (show False from by
          obtain ⟨_, _, _, _, _, _, _, _, _, _, _, _, z⟩ := hq
          exact z)
      | ok fl =>
        cases fl with
        | ret u =>
          obtain ⟨w, H4, os4, bare4, un4, ok4, r4, ex4, dp4⟩ := hq
          refine ⟨⟨H4, ws ++ [w], un.trans un4, ok4, os4.trans os, bare4, ex.trans ex4, un4.free _ _ h1 e1 (fun z => nomatch z), un4.free _ _ h3 e3 (fun z => nomatch z), rw_.append (.cons r4 .nil), ?_⟩, un4.keep _ _ h3 e3 (not_frame I2 (Nat.le_add_right _ _)) (fun z => nomatch z), un4.keep _ _ h1 e1 (not_frame I2 (Nat.le_succ _)) (fun z => nomatch z)⟩
          have ek : (xs.map key).take (j + 1) = (xs.map key).take j ++ [key xs[j]] := by
            rw [List.take_add_one, List.getElem?_map, hx]
            rfl
          rw [ek]
          exact dp_more (dpxs ex4 dp) dp4
        | next => exact False.elim hq
        | brk => exact False.elim hq
        | cont => exact False.elim hq
    · rintro t keys ⟨Hj, ws, un, ok, os, bare, ex, e1, e3, rw_, dp⟩
      have full : (xs.map key).take its.length = xs.map key := List.take_of_length_le (by rw [List.length_map, hlen]; exact Nat.le_refl _)
      rw [full] at dp
      exact dp_each (toInv un ok os bare) dp rw_
    · rintro t keys h' tk out cc ⟨Hj, ws, un, ok, os, bare, ex, e1, e3, rw_, dp⟩ kp at_ ko
      have outs := vals_each (PySem.W.keyedOut_each key ko (each_vals rv))
      have k1 : HOk X.prog X.w Hj h' := hok_but (A := fun b => b = s2.heap.objs.size + 1 ∨ b = s2.heap.objs.size + 3) ok (fun a z => by
        rcases z with z | z
        · rw [z]; exact e1
        · rw [z]; exact e3) (fun b o nb q => kp b o (fun z => nb (.inl z)) (fun z => nb (.inr z)) q)
      have lo : (xs.mergeSort (PySem.W.dataLe false key)).length ≤ sizeLine := by
        rw [List.length_mergeSort]
        exact hz
      have new : ObjOk X.prog X.w (upd Hj (s2.heap.objs.size + 1) (.lst (xs.mergeSort (PySem.W.dataLe false key)))) h' (s2.heap.objs.size + 1) (.lst (xs.mergeSort (PySem.W.dataLe false key))) := ⟨lo, out, cc, outs, at_⟩
      have u2 : Un (frs X.stack) [] H2 (upd Hj (s2.heap.objs.size + 1) (.lst (xs.mergeSort (PySem.W.dataLe false key)))) s2.heap h' := un_new un n1 e1 (fun b o nb hb q => kp b o nb (fun z => hb (by rw [z]; exact n3)) q) (some _)
      have If : Inv X pins σ (upd Hj (s2.heap.objs.size + 1) (.lst (xs.mergeSort (PySem.W.dataLe false key)))) { t with heap := h', toks := tk } := by
        obtain ⟨hh, g, d, tk', os'⟩ := t
        obtain rfl : os' = s2.os := os
        exact I2.call (d' := d) u2 (hok_adopt k1 e1 new) bare (fun b hb => nomatch hb)
      exact ⟨.ref _, _, If, rfl, q _ Hj (I2.hok.fresh (Nat.le_succ _)) ex e1⟩
end
end Lam1
/-! picks of so many of the first numbers, the least ahead -/
namespace Cb
/-- all rising lists of so many of lo .. n - 1, the least ahead -/
def C (n : Nat) : Nat → Nat → List (List Nat)
  | 0, _ => [[]]
  | r + 1, lo => (List.range' lo (n - lo)).flatMap fun i => (C n r (i + 1)).map (i :: ·)
theorem C_step (n r lo : Nat) (h : lo < n) : C n (r + 1) lo = (C n r (lo + 1)).map (lo :: ·) ++ C n (r + 1) (lo + 1) := by
  have e : ∀ m, C n (r + 1) m = (List.range' m (n - m)).flatMap fun i => (C n r (i + 1)).map (i :: ·) := fun m => rfl
  obtain ⟨k, hk⟩ : ∃ k, n - lo = k + 1 := ⟨n - lo - 1, by omega⟩
  have h2 : n - (lo + 1) = k := by omega
  rw [e, e, hk, h2, List.range'_succ, List.flatMap_cons]
theorem C_end (n r lo : Nat) (h : n ≤ lo) : C n (r + 1) lo = [] := by
  unfold C
  rw [show n - lo = 0 by omega]
  rfl
/-- the next one, as the table's own recursion has it -/
def nxt (n : Nat) : List Nat → Option (List Nat)
  | [] => none
  | a :: l => match nxt n l with
    | some m => some (a :: m)
    | none => if a != n - (l.length + 1) then some (List.range' (a + 1) (l.length + 1)) else none
/-- the next one, as the iterator finds it -/
def step (n : Nat) (indices : List Nat) : Option (List Nat) :=
  let r := indices.length
  match (List.range r).reverse.find? fun i => indices.getD i 0 != i + n - r with
  | none => none
  | some i => some (indices.take i ++ (List.range (r - i)).map (indices.getD i 0 + 1 + ·))
theorem step_nxt (n : Nat) : ∀ l : List Nat, step n l = nxt n l
  | [] => rfl
  | a :: l => by
    have ih := step_nxt n l
    have e1 : (List.range (l.length + 1)).reverse = (List.range l.length).reverse.map (· + 1) ++ [0] := by
      rw [List.range_succ_eq_map, List.reverse_cons, List.map_reverse]
    have e2 : (fun i => (a :: l).getD i 0 != i + n - (l.length + 1)) ∘ (· + 1) = fun i => l.getD i 0 != i + n - l.length := by
      funext i
      show (l.getD i 0 != i + 1 + n - (l.length + 1)) = _
      rw [show i + 1 + n - (l.length + 1) = i + n - l.length by omega]
    unfold step nxt
    rw [← ih]
    unfold step
    simp only [List.length_cons]
    rw [e1, List.find?_append, List.find?_map, e2]
    cases h : List.find? (fun i => l.getD i 0 != i + n - l.length) (List.range l.length).reverse with
    | some i =>
      simp only [Option.map_some, Option.some_or, List.take_succ_cons, List.getD_cons_succ, List.cons_append]
      rw [show l.length + 1 - (i + 1) = l.length - i by omega]
    | none =>
      simp only [Option.map_none, Option.none_or]
      by_cases z : (a != n - (l.length + 1)) = true
      · have z2 : ((a :: l).getD 0 0 != 0 + n - (l.length + 1)) = true := by rw [Nat.zero_add]; exact z
        have z3 : List.find? (fun i => (a :: l).getD i 0 != i + n - (l.length + 1)) [0] = some 0 := List.find?_cons_of_pos (p := fun i => (a :: l).getD i 0 != i + n - (l.length + 1)) z2
        rw [z3, if_pos z]
        simp only [List.take_zero, List.nil_append, Nat.sub_zero]
        rw [List.range'_eq_map_range]
        rfl
      · have z2 : ¬ ((a :: l).getD 0 0 != 0 + n - (l.length + 1)) = true := by rw [Nat.zero_add]; exact z
        have z3 : List.find? (fun i => (a :: l).getD i 0 != i + n - (l.length + 1)) [0] = none := List.find?_cons_of_neg (p := fun i => (a :: l).getD i 0 != i + n - (l.length + 1)) z2
        rw [z3, if_neg z]
def Ok (n r lo : Nat) : Prop := (r + lo ≤ n → (C n r lo)[0]? = some (List.range' lo r)) ∧ (n < r + lo → lo ≤ n → C n r lo = []) ∧ ∀ i l, (C n r lo)[i]? = some l → l.length = r ∧ nxt n l = (C n r lo)[i + 1]?
theorem ok (n : Nat) : ∀ r d lo, lo + d = n → Ok n r lo
  | 0, d, lo, h => ⟨fun _ => rfl, fun h1 _ => by omega, fun i l hi => by
    cases i with
    | zero =>
      cases hi
      exact ⟨rfl, rfl⟩
    | succ i => cases i <;> cases hi⟩
  | r + 1, 0, lo, h => by
    have e : C n (r + 1) lo = [] := C_end n r lo (by omega)
    exact ⟨fun h1 => by omega, fun _ _ => e, fun i l hi => by rw [e] at hi; cases hi⟩
  | r + 1, d + 1, lo, h => by
    have hlo : lo < n := by omega
    have A := ok n r d (lo + 1) (by omega)
    have B := ok n (r + 1) d (lo + 1) (by omega)
    have e := C_step n r lo hlo
    refine ⟨fun h1 => ?_, fun h1 _ => ?_, fun i l hi => ?_⟩
    · rw [e, List.getElem?_append_left (by
        have := A.1 (by omega)
        have := (List.getElem?_eq_some_iff.mp this).1
        rwa [List.length_map]), List.getElem?_map, A.1 (by omega), List.range'_succ]
      rfl
    · rw [e, A.2.1 (by omega) (by omega), B.2.1 (by omega) (by omega)]
      rfl
    · rw [e] at hi ⊢
      by_cases c : i < ((C n r (lo + 1)).map (lo :: ·)).length
      · rw [List.getElem?_append_left c, List.getElem?_map] at hi
        obtain ⟨m, hm, rfl⟩ := Option.map_eq_some_iff.mp hi
        obtain ⟨l1, l2⟩ := A.2.2 i m hm
        refine ⟨by rw [List.length_cons, l1], ?_⟩
        unfold nxt
        rw [l2]
        by_cases c2 : i + 1 < ((C n r (lo + 1)).map (lo :: ·)).length
        · rw [List.getElem?_append_left c2, List.getElem?_map]
          rw [List.length_map] at c2
          rw [List.getElem?_eq_getElem c2]
          rfl
        · rw [List.getElem?_append_right (by omega)]
          rw [List.length_map] at c c2 ⊢
          rw [List.getElem?_eq_none (by omega), show i + 1 - (C n r (lo + 1)).length = 0 by omega]
          show (if lo != n - (m.length + 1) then some (List.range' (lo + 1) (m.length + 1)) else none) = _
          rw [l1]
          have ne : ¬ (n < r + (lo + 1)) := fun z => by
            rw [A.2.1 z (by omega)] at c
            cases c
          by_cases q : r + 1 + (lo + 1) ≤ n
          · rw [B.1 q, if_pos (by simp; omega)]
          · rw [B.2.1 (by omega) (by omega), if_neg (by simp; omega)]
            rfl
      · rw [List.getElem?_append_right (by omega)] at hi
        obtain ⟨l1, l2⟩ := B.2.2 _ l hi
        refine ⟨l1, ?_⟩
        rw [l2, List.getElem?_append_right (by omega), show i + 1 - ((C n r (lo + 1)).map (lo :: ·)).length = i - ((C n r (lo + 1)).map (lo :: ·)).length + 1 by omega]
/-- all picks of r of n places -/
def all (n r : Nat) : List (List Nat) := C n r 0
theorem all_none {n r : Nat} (h : n < r) : all n r = [] := (ok n r n 0 (by omega)).2.1 (by omega) (by omega)
theorem all_head {n r : Nat} (h : r ≤ n) : (all n r)[0]? = some (List.range r) := by
  rw [List.range_eq_range']
  exact (ok n r n 0 (by omega)).1 (by omega)
theorem all_next {n r i : Nat} {l : List Nat} (h : (all n r)[i]? = some l) : step n l = (all n r)[i + 1]? := by
  rw [step_nxt]
  exact ((ok n r n 0 (by omega)).2.2 i l h).2
theorem all_len {n r i : Nat} {l : List Nat} (h : (all n r)[i]? = some l) : l.length = r := ((ok n r n 0 (by omega)).2.2 i l h).1
/-- what is among them: the rising lists of so many places -/
theorem mem_C {n : Nat} : ∀ {r lo : Nat} {l : List Nat}, l ∈ C n r lo ↔ l.length = r ∧ l.Pairwise (· < ·) ∧ ∀ x ∈ l, lo ≤ x ∧ x < n
  | 0, lo, l => by
    show l ∈ [[]] ↔ _
    rw [List.mem_singleton]
    constructor
    · rintro rfl
      exact ⟨rfl, .nil, fun x hx => nomatch hx⟩
    · rintro ⟨h, _⟩
      exact List.length_eq_zero_iff.mp h
  | r + 1, lo, l => by
    unfold C
    rw [List.mem_flatMap]
    constructor
    · rintro ⟨i, hi, hl⟩
      obtain ⟨m, hm, rfl⟩ := List.mem_map.mp hl
      obtain ⟨a, b, c⟩ := mem_C.mp hm
      rw [List.mem_range'_1] at hi
      refine ⟨by rw [List.length_cons, a], .cons (fun y hy => ?_) b, fun x hx => ?_⟩
      · have := c y hy
        omega
      · rcases List.mem_cons.mp hx with rfl | hx
        · omega
        · have := c x hx
          omega
    · rintro ⟨a, b, c⟩
      cases l with
      | nil => simp at a
      | cons i m =>
        have ci := c i (List.mem_cons_self ..)
        refine ⟨i, by rw [List.mem_range'_1]; omega, List.mem_map.mpr ⟨m, mem_C.mpr ⟨by simpa using a, (List.pairwise_cons.mp b).2, fun x hx => ?_⟩, rfl⟩⟩
        have h1 := (List.pairwise_cons.mp b).1 x hx
        have h2 := c x (List.mem_cons_of_mem _ hx)
        omega
theorem mem_all {n r : Nat} {l : List Nat} : l ∈ all n r ↔ l.length = r ∧ l.Pairwise (· < ·) ∧ ∀ x ∈ l, x < n := by
  unfold all
  rw [mem_C]
  constructor
  · rintro ⟨a, b, c⟩
    exact ⟨a, b, fun x hx => (c x hx).2⟩
  · rintro ⟨a, b, c⟩
    exact ⟨a, b, fun x hx => ⟨Nat.zero_le _, c x hx⟩⟩
end Cb
/-! combinations(..): the facts of the type -/
namespace PySem
namespace F
theorem slot_comb_init : Slot "itertools.combinations" "__init__" "object.__init__" :=
  .of (owner := "object") (n := "__init__") (by rw [typeLookup_type, builtinLookup_eq_fast]; kernel_rfl) (by decide +kernel) (by decide +kernel) (by decide +kernel)
    (by first | exact .inl (by decide +kernel) | exact .inr (by decide +kernel)) (by rw [isSubtype_type]; kernel_rfl)
theorem slot_comb_next : Slot "itertools.combinations" "__next__" "itertools.combinations.__next__" :=
  .of (owner := "itertools.combinations") (n := "__next__") (by rw [typeLookup_type, builtinLookup_eq_fast]; kernel_rfl) (by decide +kernel) (by decide +kernel) (by decide +kernel)
    (by first | exact .inl (by decide +kernel) | exact .inr (by decide +kernel)) (by rw [isSubtype_type]; kernel_rfl)
theorem slot_comb_iter : Slot "itertools.combinations" "__iter__" "itertools.combinations.__iter__" :=
  .of (owner := "itertools.combinations") (n := "__iter__") (by rw [typeLookup_type, builtinLookup_eq_fast]; kernel_rfl) (by decide +kernel) (by decide +kernel) (by decide +kernel)
    (by first | exact .inl (by decide +kernel) | exact .inr (by decide +kernel)) (by rw [isSubtype_type]; kernel_rfl)
theorem owner_comb : Manifest.owners.lookup (String.ofList ['s', 'n', 'o', 'i', 't', 'a', 'n', 'i', 'b', 'm', 'o', 'c', '.', 's', 'l', 'o', 'o', 't', 'r', 'e', 't', 'i'].reverse) = some Manifest.sig_itertools_combinations := by kernel_rfl
theorem args_comb_next_1 (a : Value) : argsOk "itertools.combinations.__next__" ⟨[a], []⟩ := by
  unfold argsOk; rw [signature?_of (id := "itertools.combinations.__next__") (n := ['_', '_', 't', 'x', 'e', 'n', '_', '_']) (o := ['s', 'n', 'o', 'i', 't', 'a', 'n', 'i', 'b', 'm', 'o', 'c', '.', 's', 'l', 'o', 'o', 't', 'r', 'e', 't', 'i']) (by kernel_rfl) owner_comb]; kernel_rfl
theorem args_comb_iter_1 (a : Value) : argsOk "itertools.combinations.__iter__" ⟨[a], []⟩ := by
  unfold argsOk; rw [signature?_of (id := "itertools.combinations.__iter__") (n := ['_', '_', 'r', 'e', 't', 'i', '_', '_']) (o := ['s', 'n', 'o', 'i', 't', 'a', 'n', 'i', 'b', 'm', 'o', 'c', '.', 's', 'l', 'o', 'o', 't', 'r', 'e', 't', 'i']) (by kernel_rfl) owner_comb]; kernel_rfl
theorem mro_comb : mroOf (.type "itertools.combinations") = pure [.type "itertools.combinations", .type "object"] := by rw [mroOf_type]; kernel_rfl
theorem lookup_comb_new : typeLookup (.type "itertools.combinations") "__new__" = pure (some (.builtin "itertools.combinations.__new__")) := by rw [typeLookup_type, builtinLookup_eq_fast]; kernel_rfl
theorem called_comb : TypeCalled "itertools.combinations" "itertools.combinations.__new__" "object.__init__" :=
  ⟨by decide +kernel, by decide +kernel, ⟨_, _, mro_comb⟩, madeBy_type mro_comb lookup_comb_new (by decide +kernel), by decide +kernel, by rw [isSubtype_type]; kernel_rfl, slot_comb_init⟩
theorem typeCall_comb_2 (a b : Value) : checkTypeCall "itertools.combinations" ⟨[a, b], []⟩ = pure () := by kernel_rfl
theorem newCall_comb_2 (a b : Value) : checkBuiltinCall "itertools.combinations.__new__" ⟨[.type "itertools.combinations", a, b], []⟩ = pure () := by kernel_rfl
theorem entry_comb_new : entryFor table "itertools.combinations.__new__" = some Builtin.«itertools.combinations.__new__» := entryFor_of_tree (by kernel_rfl)
theorem entry_comb_next : entryFor table "itertools.combinations.__next__" = some Builtin.«itertools.combinations.__next__» := entryFor_of_tree (by kernel_rfl)
theorem entry_comb_iter : entryFor table "itertools.combinations.__iter__" = some Builtin.«dict_keyiterator.__iter__» :=
  entryFor_alias (id' := "dict_keyiterator.__iter__") (by kernel_rfl) (by first | rfl | decide +kernel | (unfold String.splitOn; simp +decide [String.splitOnAux])) (by decide +kernel) (by kernel_rfl)
theorem plain_comb_new : plainId "itertools.combinations.__new__" = true := by decide +kernel
end F
end PySem
/-! combinations(..): made and stepped on -/
namespace PySem
abbrev IsComb (h : Heap) (c p : Addr) (st : Int) (last : Value) (idx : List Nat) : Prop := h.get? c = some { cls := .type "itertools.combinations", dict := none, data := .fields (Value.ref p :: rawInt st :: last :: idx.map fun (i : Nat) => rawInt i).toArray, slots := #[] }
abbrev IsPool (h : Heap) (p : Addr) (its : List Value) : Prop := h.get? p = some { cls := .type "tuple", data := .seq its.toArray }
theorem nums_back (idx : List Nat) : ((idx.map fun (i : Nat) => rawInt i).map fun (v : Value) => match v with | .int n _ => n.toNat | _ => 0) = idx := by
  rw [List.map_map]
  have : ((fun (v : Value) => match v with | .int n _ => n.toNat | _ => 0) ∘ fun (i : Nat) => rawInt i) = id := by
    funext i
    show (i : Int).toNat = i
    exact Int.toNat_natCast i
  rw [this, List.map_id]
section
variable {prog : Program} {w : World} {A : Around} {E : Value → Shared → Prop} {s : Shared}
theorem wpAny_numbers {c p : Addr} {st : Int} {last : Value} {idx : List Nat} {Q : List Nat → Shared → Prop} (hc : IsComb s.heap c p st last idx) (h : Q idx s) : wpAny (model prog w) A (Builtin.Itertools.itNumbersFrom (.ref c) 3) Q E s := by
  unfold Builtin.Itertools.itNumbersFrom
  refine wpAny_bind (wpAny_load hc ?_)
  refine wpAny_pure ?_
  have e : (((Value.ref p :: rawInt st :: last :: idx.map fun (i : Nat) => rawInt i).toArray.toList.drop 3).map fun (v : Value) => match v with | .int n _ => n.toNat | _ => 0) = idx := nums_back idx
  exact (congrArg (fun z => Q z s) e.symm).mp h
theorem wpAny_itStop {α : Type} {Q : α → Shared → Prop} (hh : A.handled = none)
    (h : ∀ h' e, (∀ b o, s.heap.get? b = some o → h'.get? b = some o) → (∃ o, h'.get? e = some o ∧ o.cls = .type "StopIteration") → E (.ref e) { s with heap := h' }) : wpAny (model prog w) A (Builtin.Itertools.itStop : Sem α) Q E s := by
  unfold Builtin.Itertools.itStop
  show wpAny _ _ (newExc (.type "StopIteration") [] >>= _) _ _ _
  refine wpAny_bind ?_
  simp only [newExc, newTuple]
  refine wpAny_bind (wpAny_newObj_type ?_ (by size_fits))
  refine wpAny_bind (m := firstArgMember _ _) (wpAny_of_eq (a := Value.none) (by first | rfl | (simp only [firstArgMember]; rfl)) ?_)
  refine wpAny_newObj_type ?_ (by size_fits)
  simp only [raiseNew]
  refine wpAny_bind (wpAny_handled ?_)
  rw [hh]
  refine wpAny_bind (wpAny_pure (wpAny_throw ?_))
  exact h _ _ (fun b o z => Heap.get?_push_of_some _ (Heap.get?_push_of_some _ z)) ⟨_, Heap.get?_push_size _ rfl, rfl⟩
theorem comb_next_hand {c p : Addr} {its : List Value} {last : Value} {idx : List Nat} {Q : Value → Shared → Prop} (hc : IsComb s.heap c p 1 last idx) (hp : IsPool s.heap p its) (hl : idx.length ≤ 1000)
    (hQ : ∀ h', IsComb h' c p 1 (.ref s.heap.objs.size) idx → h'.get? s.heap.objs.size = some { cls := .type "tuple", data := .seq (idx.map fun i => its.toArray.getD i .none).toArray } → h'.objs.size = s.heap.objs.size + 1 → (∀ b o, b ≠ c → s.heap.get? b = some o → h'.get? b = some o) → Q (.ref s.heap.objs.size) { s with heap := h' }) :
    wpAny (model prog w) A (do
      let result ← (do
        let items ← Builtin.Itertools.itPoolItems (.ref p)
        newTuple (idx.map fun i => items.getD i .none))
      let before ← field (.ref c) 2
      setField (.ref c) 2 result
      letGo [before] [result]
      ret result) (fun fin s' => ∃ v, fin = .done (.ret v) ∧ Q v s') E s := by
  unfold Builtin.Itertools.itPoolItems
  refine wpAny_bind (wpAny_bind (wpAny_bind (wpAny_seqItems hp rfl (wpAny_pure ?_))))
  refine (wpAny_newTuple ?_ (by rw [List.length_map]; exact Nat.le_trans hl (by decide)))
  have lt := Heap.lt_size hc
  have hc1 : IsComb (s.heap.push { cls := .type "tuple", data := .seq (idx.map fun i => its.toArray.getD i .none).toArray }) c p 1 last idx := Heap.get?_push_of_some _ hc
  refine wpAny_bind (wpAny_field hc1 rfl (x := last) rfl ?_)
  refine wpAny_bind (wpAny_setField_rec hc1 (by simp) fun h1 hc2 hs => ?_)
  refine wpAny_bind (wpAny_letGo (wpAny_pure ⟨_, rfl, ?_⟩))
  refine hQ h1 ?_ ?_ ?_ fun b o nb e => hs.extBut _ _ nb (Heap.get?_push_of_some _ e)
  · have e : (Value.ref p :: rawInt 1 :: last :: idx.map fun (i : Nat) => rawInt i).toArray.setIfInBounds 2 (Value.ref s.heap.objs.size) = (Value.ref p :: rawInt 1 :: Value.ref s.heap.objs.size :: idx.map fun (i : Nat) => rawInt i).toArray := by simp
    rw [e] at hc2
    exact hc2
  · exact hs.extBut _ _ (Nat.ne_of_gt lt) (Heap.get?_push_size _ rfl)
  · rw [hs.1, Heap.size_push]
theorem comb_next_first {c p : Addr} {its : List Value} {last : Value} {idx : List Nat} {Q : Value → Shared → Prop} (hc : IsComb s.heap c p 0 last idx) (hp : IsPool s.heap p its) (hcp : p ≠ c) (hl : idx.length ≤ 1000)
    (hQ : ∀ h', IsComb h' c p 1 (.ref s.heap.objs.size) idx → h'.get? s.heap.objs.size = some { cls := .type "tuple", data := .seq (idx.map fun i => its.toArray.getD i .none).toArray } → h'.objs.size = s.heap.objs.size + 1 → (∀ b o, b ≠ c → s.heap.get? b = some o → h'.get? b = some o) → Q (.ref s.heap.objs.size) { s with heap := h' }) :
    wpAny (model prog w) A (Builtin.«itertools.combinations.__next__» ⟨[.ref c], []⟩) (fun fin s' => ∃ v, fin = .done (.ret v) ∧ Q v s') E s := by
  show wpAny _ _ (field (.ref c) 0 >>= _) _ _ _
  refine wpAny_bind (wpAny_field hc rfl (x := .ref p) rfl ?_)
  refine wpAny_bind (wpAny_numbers hc ?_)
  show wpAny _ _ (Builtin.Itertools.itIntField (.ref c) 1 >>= _) _ _ _
  unfold Builtin.Itertools.itIntField
  refine wpAny_bind (wpAny_bind (wpAny_field hc rfl (x := rawInt 0) rfl (wpAny_pure ?_)))
  show wpAny _ _ (setField (.ref c) 1 (rawInt 1) >>= _) _ _ _
  refine wpAny_bind (wpAny_setField_rec hc (by simp) fun h1 hc1 hs => ?_)
  have e : (Value.ref p :: rawInt 0 :: last :: idx.map fun (i : Nat) => rawInt i).toArray.setIfInBounds 1 (rawInt 1) = (Value.ref p :: rawInt 1 :: last :: idx.map fun (i : Nat) => rawInt i).toArray := by simp
  rw [e] at hc1
  have := comb_next_hand (prog := prog) (w := w) (A := A) (E := E) (s := { s with heap := h1 }) (Q := Q) hc1 (hs.extBut _ _ hcp hp) hl (fun h' a1 a2 a3 a4 => ?_)
  · exact this
  have sz : h1.objs.size = s.heap.objs.size := hs.1
  simp only [sz] at a1 a2 a3 ⊢
  exact hQ h' a1 a2 a3 fun b o nb e => a4 b o nb (hs.extBut _ _ nb e)
theorem comb_next_more {c p : Addr} {its : List Value} {last : Value} {idx nx : List Nat} {Q : Value → Shared → Prop} (hc : IsComb s.heap c p 1 last idx) (hp : IsPool s.heap p its) (hcp : p ≠ c) (hn : Cb.step its.length idx = some nx) (hl : nx.length ≤ 1000)
    (hQ : ∀ h', IsComb h' c p 1 (.ref s.heap.objs.size) nx → h'.get? s.heap.objs.size = some { cls := .type "tuple", data := .seq (nx.map fun i => its.toArray.getD i .none).toArray } → h'.objs.size = s.heap.objs.size + 1 → (∀ b o, b ≠ c → s.heap.get? b = some o → h'.get? b = some o) → Q (.ref s.heap.objs.size) { s with heap := h' }) :
    wpAny (model prog w) A (Builtin.«itertools.combinations.__next__» ⟨[.ref c], []⟩) (fun fin s' => ∃ v, fin = .done (.ret v) ∧ Q v s') E s := by
  show wpAny _ _ (field (.ref c) 0 >>= _) _ _ _
  refine wpAny_bind (wpAny_field hc rfl (x := .ref p) rfl ?_)
  refine wpAny_bind (wpAny_numbers hc ?_)
  show wpAny _ _ (Builtin.Itertools.itIntField (.ref c) 1 >>= _) _ _ _
  unfold Builtin.Itertools.itIntField
  refine wpAny_bind (wpAny_bind (wpAny_field hc rfl (x := rawInt 1) rfl (wpAny_pure ?_)))
  show wpAny _ _ (Builtin.Itertools.itPoolItems (.ref p) >>= _) _ _ _
  unfold Builtin.Itertools.itPoolItems
  refine wpAny_bind (wpAny_bind (wpAny_seqItems hp rfl (wpAny_pure ?_)))
  have e1 : Cb.step its.toArray.size idx = some nx := by rw [List.size_toArray]; exact hn
  show wpAny _ _ (match Cb.step its.toArray.size idx with | some next => (do Builtin.Itertools.itSetNumbersFrom (.ref c) 3 next; _) | none => _) _ _ _
  rw [e1]
  show wpAny _ _ (updateFields c (fun fs => fs.extract 0 3 ++ (nx.map fun (n : Nat) => rawInt n).toArray) >>= _) _ _ _
  have ez : (Value.ref p :: rawInt 1 :: last :: idx.map fun (i : Nat) => rawInt i).toArray.extract 0 3 ++ (nx.map fun (n : Nat) => rawInt n).toArray = (Value.ref p :: rawInt 1 :: last :: nx.map fun (i : Nat) => rawInt i).toArray := by simp
  refine wpAny_bind (wpAny_updateFields hc rfl ?_ (by
    rw [ez, List.size_toArray]
    simp only [List.length_cons, List.length_map]
    have : (1000 : Nat) ≤ sizeLine := by decide
    omega))
  have hs := Heap.SameBut.update s.heap c (Obj.mapFields fun fs => fs.extract 0 3 ++ (nx.map fun (n : Nat) => rawInt n).toArray)
  have hc1 := Heap.get?_update_self (Obj.mapFields fun fs => fs.extract 0 3 ++ (nx.map fun (n : Nat) => rawInt n).toArray) hc rfl
  have hc2 : IsComb (s.heap.update c (Obj.mapFields fun fs => fs.extract 0 3 ++ (nx.map fun (n : Nat) => rawInt n).toArray)) c p 1 last nx := by
    refine hc1.trans ?_
    show some ({ cls := .type "itertools.combinations", dict := none, data := Data.fields ((Value.ref p :: rawInt 1 :: last :: idx.map fun (i : Nat) => rawInt i).toArray.extract 0 3 ++ (nx.map fun (n : Nat) => rawInt n).toArray), slots := #[] } : Obj) = _
    rw [ez]
  have := comb_next_hand (prog := prog) (w := w) (A := A) (E := E) (s := { s with heap := s.heap.update c (Obj.mapFields fun fs => fs.extract 0 3 ++ (nx.map fun (n : Nat) => rawInt n).toArray) }) (Q := Q) hc2 (hs.extBut _ _ hcp hp) hl (fun h' a1 a2 a3 a4 => ?_)
  · exact this
  have sz : (s.heap.update c (Obj.mapFields fun fs => fs.extract 0 3 ++ (nx.map fun (n : Nat) => rawInt n).toArray)).objs.size = s.heap.objs.size := hs.1
  simp only [sz] at a1 a2 a3 ⊢
  exact hQ h' a1 a2 a3 fun b o nb e => a4 b o nb (hs.extBut _ _ nb e)
/-- nothing more: the status that says so stays or is set -/
theorem comb_next_end {c p : Addr} {its : List Value} {last : Value} {idx : List Nat} {st : Int} {Q : Fin → Shared → Prop} (hh : A.handled = none) (hc : IsComb s.heap c p st last idx) (hp : IsPool s.heap p its) (hn : st = 2 ∨ (st = 1 ∧ Cb.step its.length idx = none))
    (hE : ∀ h' e, (∀ b o, b ≠ c → s.heap.get? b = some o → h'.get? b = some o) → (∃ o, h'.get? e = some o ∧ o.cls = .type "StopIteration") → E (.ref e) { s with heap := h' }) :
    wpAny (model prog w) A (Builtin.«itertools.combinations.__next__» ⟨[.ref c], []⟩) Q E s := by
  show wpAny _ _ (field (.ref c) 0 >>= _) _ _ _
  refine wpAny_bind (wpAny_field hc rfl (x := .ref p) rfl ?_)
  refine wpAny_bind (wpAny_numbers hc ?_)
  show wpAny _ _ (Builtin.Itertools.itIntField (.ref c) 1 >>= _) _ _ _
  unfold Builtin.Itertools.itIntField
  refine wpAny_bind (wpAny_bind (wpAny_field hc rfl (x := rawInt st) rfl (wpAny_pure ?_)))
  rcases hn with rfl | ⟨rfl, hn⟩
  · show wpAny _ _ (rule _ >>= _) _ _ _
    refine wpAny_bind (wpAny_rule ?_)
    exact wpAny_itStop hh fun h' e k x => hE h' e (fun b o _ z => k b o z) x
  · show wpAny _ _ (Builtin.Itertools.itPoolItems (.ref p) >>= _) _ _ _
    unfold Builtin.Itertools.itPoolItems
    refine wpAny_bind (wpAny_bind (wpAny_seqItems hp rfl (wpAny_pure ?_)))
    have e1 : Cb.step its.toArray.size idx = none := by rw [List.size_toArray]; exact hn
    show wpAny _ _ (match Cb.step its.toArray.size idx with | some next => _ | none => (do setField (.ref c) 1 (rawInt 2); Builtin.Itertools.itStop)) _ _ _
    rw [e1]
    refine wpAny_bind (wpAny_setField_rec hc (by simp) fun h1 hc1 hs => ?_)
    exact wpAny_itStop hh fun h' e k x => hE h' e (fun b o nb z => k b o (hs.extBut _ _ nb z)) x
end
end PySem
namespace PySem
theorem dict_comb : typeHasDict (.type "itertools.combinations") = false := by decide +kernel
theorem bound_comb (a b : Value) : Builtin.Itertools.itBindNamed "combinations" ["iterable", "r"] 2 2 [a, b] [] = (pure [some a, some b] : Sem (List (Option Value))) := by
  unfold Builtin.Itertools.itBindNamed
  rfl
/-- the pool and the walker, laid -/
def combHeap (h : Heap) (its : List Value) (k : Nat) : Heap := (h.push { cls := .type "tuple", data := .seq its.toArray }).push { cls := .type "itertools.combinations", dict := none, data := .fields (Value.ref h.objs.size :: rawInt (if k > its.length then 2 else 0) :: .none :: (List.range k).map fun (i : Nat) => rawInt i).toArray, slots := #[] }
theorem combHeap_keep {h : Heap} {its : List Value} {k : Nat} {b : Addr} {o : Obj} (e : h.get? b = some o) : (combHeap h its k).get? b = some o := Heap.get?_push_of_some _ (Heap.get?_push_of_some _ e)
theorem combHeap_pool {h : Heap} {its : List Value} {k : Nat} : IsPool (combHeap h its k) h.objs.size its := Heap.get?_push_of_some _ (Heap.get?_push_size _ rfl)
theorem combHeap_comb {h : Heap} {its : List Value} {k : Nat} : IsComb (combHeap h its k) (h.objs.size + 1) h.objs.size (if k > its.length then 2 else 0) .none (List.range k) := by
  have e0 : (h.push { cls := .type "tuple", data := .seq its.toArray }).objs.size = h.objs.size + 1 := Heap.size_push ..
  show Heap.get? _ (h.objs.size + 1) = _
  rw [← e0]
  exact Heap.get?_push_size _ rfl
section
variable {prog : Program} {w : World} {A : Around} {E : Value → Shared → Prop} {s : Shared}
theorem code_comb_new {Q₁ : Value → Shared → Prop} {src : Value} {k : Nat} {t : Tok} {P : List Value → Prop} (hk : k ≤ 1000)
    (hcol : ∀ (E : Value → Shared → Prop) (Q : List Value → Shared → Prop), (∀ (h' : Heap) (tk : Nat) (its : List Value), (∀ b o, s.heap.get? b = some o → h'.get? b = some o) → P its → Q its { s with heap := h', toks := tk }) → wpAny (model prog w) A.in1 (collect src) Q E s)
    (hs : ∀ its, P its → its.length ≤ 1000)
    (h : ∀ (h' : Heap) (tk : Nat) (its : List Value), (∀ b o, s.heap.get? b = some o → h'.get? b = some o) → P its → Q₁ (.ref (h'.objs.size + 1)) { s with heap := combHeap h' its k, toks := tk }) :
    codeAny (model prog w) A (.call (.builtin "itertools.combinations.__new__") ⟨[.type "itertools.combinations", src, .int k t], []⟩) (wants Q₁ E) s := by
  refine codeAny_of_tree ?_
  show wpAny _ A.in1 (do checkBuiltinCall "itertools.combinations.__new__" ⟨[.type "itertools.combinations", src, .int k t], []⟩; again (.builtin "itertools.combinations.__new__" ⟨[.type "itertools.combinations", src, .int k t], []⟩)) _ _ s
  refine wpAny_bind (wpAny_of_eq (F.newCall_comb_2 _ _) (wpAny_pure ⟨plainId_quiet F.plain_comb_new _, codeAny_builtin F.entry_comb_new ?_⟩))
  rw [Around.under_plainId F.plain_comb_new _]
  have hsub := F.called_comb.sub
  show wpAny _ _ ((do
      let (cls, rest) ← Builtin.Itertools.itClassAndRest "combinations" ⟨[.type "itertools.combinations", src, .int k t], []⟩
      let [some iterable, some rV] ← Builtin.Itertools.itBindNamed "combinations" ["iterable", "r"] 2 2 rest [] | unsupported "internal:itertools.combinations.__new__"
      let r ← Builtin.Itertools.itSsizeArg rV
      let items ← collect iterable
      if r < 0 then do rule "itertools.combinations.negative-r"; raiseError "ValueError" "r must be non-negative"
      if Builtin.Itertools.itTooMany r then unsupported _
      return (cls, ← newTuple items, items.length, r.toNat)) >>= _) _ _ s
  refine wpAny_bind (wpAny_bind ?_)
  unfold Builtin.Itertools.itClassAndRest
  show wpAny _ _ (PySem.isType (.type "itertools.combinations") >>= _) _ _ _
  refine wpAny_bind (wpAny_pure ?_)
  show wpAny _ _ (isSubtype (.type "itertools.combinations") (.type ("itertools." ++ "combinations")) >>= _) _ _ _
  refine wpAny_bind (wpAny_of_eq (a := true) hsub (wpAny_pure ?_))
  refine wpAny_bind (wpAny_of_eq (bound_comb _ _) ?_)
  show wpAny _ _ (Builtin.Itertools.itSsizeArg (.int k t) >>= _) _ _ _
  have fits : ¬ ((decide ((k : Int) < -(2 ^ 63 : Int)) || decide ((k : Int) ≥ 2 ^ 63)) = true) := by
    rw [decide_eq_false (show ¬ (k : Int) < -(2 ^ 63 : Int) by omega), decide_eq_false (show ¬ (k : Int) ≥ 2 ^ 63 by omega)]
    simp
  refine wpAny_bind ?_
  unfold Builtin.Itertools.itSsizeArg
  show wpAny _ _ (asIndex (.int k t) >>= _) _ _ _
  refine wpAny_bind ?_
  unfold asIndex
  refine wpAny_bind (wpAny_pure (wpAny_pure ?_))
  show wpAny _ _ (if ((decide ((k : Int) < -(2 ^ 63 : Int)) || decide ((k : Int) ≥ 2 ^ 63)) = true) then _ else _) _ _ _
  rw [if_neg fits]
  refine wpAny_pure ?_
  refine wpAny_bind (hcol _ _ fun h' tk its keep hP => ?_)
  have l1000 := hs its hP
  have big : (2000 : Nat) ≤ sizeLine := by decide
  have few : ¬ Builtin.Itertools.itTooMany (k : Int) = true := by
    show ¬ decide ((k : Int) > 2 ^ 20) = true
    rw [decide_eq_false (show ¬ (k : Int) > 2 ^ 20 by omega)]
    exact Bool.false_ne_true
  show wpAny _ _ (if (k : Int) < 0 then _ else _) _ _ _
  rw [if_neg (show ¬ (k : Int) < 0 by omega)]
  show wpAny _ _ (if Builtin.Itertools.itTooMany (k : Int) = true then _ else _) _ _ _
  rw [if_neg few]
  refine wpAny_bind (wpAny_newTuple ?_ (by omega))
  refine wpAny_pure ?_
  show wpAny _ _ (Builtin.Itertools.itNewRecord (.type "itertools.combinations") ([.ref h'.objs.size, rawInt (if (k : Int).toNat > its.length then 2 else 0), .none] ++ (List.range (k : Int).toNat).map fun (i : Nat) => rawInt i) >>= _) _ _ _
  rw [Int.toNat_natCast]
  refine wpAny_bind ?_
  unfold Builtin.Itertools.itNewRecord
  rw [dict_comb]
  show wpAny _ _ (newObj (.type "itertools.combinations") (.fields ([.ref h'.objs.size, rawInt (if k > its.length then 2 else 0), .none] ++ (List.range k).map fun (i : Nat) => rawInt i).toArray)) _ _ _
  refine wpAny_newObj_type (wpAny_pure ?_) (by
    have : ((([Value.ref h'.objs.size, rawInt (if k > its.length then 2 else 0), Value.none] ++ (List.range k).map fun (i : Nat) => rawInt i).toArray).size) ≤ sizeLine + 2 := by
      simp only [List.size_toArray, List.length_append, List.length_map, List.length_range, List.length_cons, List.length_nil]
      omega
    exact this)
  have e0 : (h'.push { cls := .type "tuple", data := .seq its.toArray }).objs.size = h'.objs.size + 1 := Heap.size_push ..
  show Q₁ (.ref (h'.push _).objs.size) _
  rw [e0]
  exact h h' tk its keep hP
end
end PySem
namespace PySem
section
variable {prog : Program} {w : World} {A : Around} {E : Value → Shared → Prop} {s : Shared}
theorem call_comb {Q : Value → Shared → Prop} {src : Value} {k : Nat} {t : Tok} {P : List Value → Prop} (hk : k ≤ 1000)
    (hcol : ∀ (E : Value → Shared → Prop) (Q : List Value → Shared → Prop), (∀ (h' : Heap) (tk : Nat) (its : List Value), (∀ b o, s.heap.get? b = some o → h'.get? b = some o) → P its → Q its { s with heap := h', toks := tk }) → wpAny (model prog w) A.in1.in1 (collect src) Q E s)
    (hs : ∀ its, P its → its.length ≤ 1000)
    (h : ∀ (h' : Heap) (tk : Nat) (its : List Value), (∀ b o, s.heap.get? b = some o → h'.get? b = some o) → P its → Q (.ref (h'.objs.size + 1)) { s with heap := combHeap h' its k, toks := tk }) :
    wpAny (model prog w) A (call (.type "itertools.combinations") [src, .int k t]) Q E s := by
  refine callType_codes (Q₁ := fun obj s₁ => s₁.TypeIs obj "itertools.combinations" ∧ Q obj s₁) F.called_comb (F.typeCall_comb_2 _ _) F.entry_object_init
    (code_comb_new (A := A.in1) hk hcol hs fun h' tk its keep hP => ⟨⟨_, combHeap_comb, rfl⟩, h h' tk its keep hP⟩) fun obj s₁ h₁ => ?_
  exact ⟨h₁.1, F.args_object_init_3 obj _ _, object_init_meets F.called_comb.init.lookup F.called_comb.made (by decide) prog w A.in1 _ s₁ ⟨h₁.1, rfl, h₁.2⟩⟩
theorem pyNext_comb_first {c p : Addr} {its : List Value} {last : Value} {idx : List Nat} {Q : Option Value → Shared → Prop} (hc : IsComb s.heap c p 0 last idx) (hp : IsPool s.heap p its) (hcp : p ≠ c) (hl : idx.length ≤ 1000)
    (hQ : ∀ h', IsComb h' c p 1 (.ref s.heap.objs.size) idx → h'.get? s.heap.objs.size = some { cls := .type "tuple", data := .seq (idx.map fun i => its.toArray.getD i .none).toArray } → h'.objs.size = s.heap.objs.size + 1 → (∀ b o, b ≠ c → s.heap.get? b = some o → h'.get? b = some o) → Q (some (.ref s.heap.objs.size)) { s with heap := h' }) :
    wpAny (model prog w) A (pyNext (.ref c)) Q E s := by
  have hT : s.TypeIs (.ref c) "itertools.combinations" := ⟨_, hc, rfl⟩
  unfold pyNext
  exact wpAny_bind (wpAny_attempt (wpAny_callSpecial?_slot (name := Str.ofString "__next__") hT F.slot_comb_next
    (wpAny_call_entry F.slot_comb_next hT F.entry_comb_next (comb_next_first hc hp hcp hl fun h' a1 a2 a3 a4 => wpAny_pure (hQ h' a1 a2 a3 a4)) (F.args_comb_next_1 _))))
theorem pyNext_comb_more {c p : Addr} {its : List Value} {last : Value} {idx nx : List Nat} {Q : Option Value → Shared → Prop} (hc : IsComb s.heap c p 1 last idx) (hp : IsPool s.heap p its) (hcp : p ≠ c) (hn : Cb.step its.length idx = some nx) (hl : nx.length ≤ 1000)
    (hQ : ∀ h', IsComb h' c p 1 (.ref s.heap.objs.size) nx → h'.get? s.heap.objs.size = some { cls := .type "tuple", data := .seq (nx.map fun i => its.toArray.getD i .none).toArray } → h'.objs.size = s.heap.objs.size + 1 → (∀ b o, b ≠ c → s.heap.get? b = some o → h'.get? b = some o) → Q (some (.ref s.heap.objs.size)) { s with heap := h' }) :
    wpAny (model prog w) A (pyNext (.ref c)) Q E s := by
  have hT : s.TypeIs (.ref c) "itertools.combinations" := ⟨_, hc, rfl⟩
  unfold pyNext
  exact wpAny_bind (wpAny_attempt (wpAny_callSpecial?_slot (name := Str.ofString "__next__") hT F.slot_comb_next
    (wpAny_call_entry F.slot_comb_next hT F.entry_comb_next (comb_next_more hc hp hcp hn hl fun h' a1 a2 a3 a4 => wpAny_pure (hQ h' a1 a2 a3 a4)) (F.args_comb_next_1 _))))
theorem pyNext_comb_end {c p : Addr} {its : List Value} {last : Value} {idx : List Nat} {st : Int} {Q : Option Value → Shared → Prop} (hh : A.handled = none) (hc : IsComb s.heap c p st last idx) (hp : IsPool s.heap p its) (hn : st = 2 ∨ (st = 1 ∧ Cb.step its.length idx = none))
    (hQ : ∀ h', (∀ b o, b ≠ c → s.heap.get? b = some o → h'.get? b = some o) → Q none { s with heap := h' }) : wpAny (model prog w) A (pyNext (.ref c)) Q E s := by
  have hT : s.TypeIs (.ref c) "itertools.combinations" := ⟨_, hc, rfl⟩
  unfold pyNext
  refine wpAny_bind (wpAny_attempt (wpAny_callSpecial?_slot (name := Str.ofString "__next__") hT F.slot_comb_next
    (wpAny_call_entry F.slot_comb_next hT F.entry_comb_next (comb_next_end hh hc hp hn fun h' e hk he => ?_) (F.args_comb_next_1 _))))
  obtain ⟨o, ho, hce⟩ := he
  refine wpAny_bind (wpAny_isInstance (T := "StopIteration") (b := true) ⟨o, ho, hce⟩ isSubtype_stop ?_)
  exact wpAny_pure (hQ _ hk)
theorem pyIter_comb {c p : Addr} {st : Int} {last : Value} {idx : List Nat} {Q : Value → Shared → Prop} (hc : IsComb s.heap c p st last idx) (h : Q (.ref c) s) : wpAny (model prog w) A (pyIter (.ref c)) Q E s := by
  have hT : s.TypeIs (.ref c) "itertools.combinations" := ⟨_, hc, rfl⟩
  refine wpAny_pyIter_slot hT F.slot_comb_iter (wpAny_call_entry F.slot_comb_iter hT F.entry_comb_iter ?_ (F.args_comb_iter_1 _))
  show wpAny _ _ (ret (.ref c)) _ _ s
  exact wpAny_pure ⟨_, rfl, "itertools.combinations", _, hT, F.slot_comb_next.lookup, h⟩
end
end PySem
namespace CbL
open PySem PySem.Spec PyProof.Rows L2
def pickV (xs : List V) (l : List Nat) : List V := l.map fun i => xs[i]?.getD .non
theorem vals_pick {xs : List V} {its : List Value} (r : Vals xs its) : ∀ {l : List Nat}, (∀ i ∈ l, i < xs.length) → Vals (pickV xs l) (l.map fun i => its.toArray.getD i .none)
  | [], _ => .nil
  | i :: l, h => by
    refine .cons ?_ (vals_pick r fun j hj => h j (List.mem_cons_of_mem _ hj))
    have hi := h i (List.mem_cons_self ..)
    have hx : xs[i]? = some xs[i] := List.getElem?_eq_getElem hi
    obtain ⟨u, hu, ru⟩ := r.get hx
    have e : its.toArray.getD i .none = u := by
      rw [Array.getD_eq_getD_getElem?]
      simp [hu]
    show RelV (xs[i]?.getD .non) (its.toArray.getD i .none)
    rw [hx, e]
    exact ru
/-- the picks of r of them, in order, each a new tuple -/
def ItCb (xs : List V) (r : Nat) : It :=
  ⟨fun i _ => i < (Cb.all xs.length r).length, fun i H v H' => ∃ T l, v = .ref T ∧ H T = none ∧ (Cb.all xs.length r)[i]? = some l ∧ H' = upd H T (.tup (pickV xs l)), fun i _ => (Cb.all xs.length r).length ≤ i⟩
def CbAt (xs : List V) (its : List Value) (r : Nat) (c p : Addr) (i : Nat) (h : Heap) : Prop := IsPool h p its ∧ ∃ st last idx, IsComb h c p st last idx ∧ ((i = 0 ∧ (if r > xs.length then (2 : Int) else 0) = st ∧ idx = List.range r) ∨ (∃ j, i = j + 1 ∧ st = 1 ∧ (Cb.all xs.length r)[j]? = some idx))
theorem turn_comb {P : Program} {w : World} {K : PySem.W.Frag} {tg : Expr} {xs : List V} {its : List Value} {r : Nat} {c p : Addr} (rv : Vals xs its) (hcp : p ≠ c) (hr : r ≤ 1000) : Turn P w K tg (ItCb xs r) [c, p] c (CbAt xs its r c p) where
  mem := by simp
  obj := fun i h st b hb => by
    obtain ⟨hp, s0, la, idx, hc, _⟩ := st
    have e' : b = c ∨ b = p := by simpa using hb
    rcases e' with q | q
    · rw [q]; exact ⟨_, hc, fun v q => nomatch q⟩
    · rw [q]; exact ⟨_, hp, fun v q => nomatch q⟩
  keep := fun i h h' st k => by
    obtain ⟨hp, s0, la, idx, hc, q⟩ := st
    exact ⟨k p (by simp) _ hp, s0, la, idx, k c (by simp) _ hc, q⟩
  item := by
    intro X hP hw hK hcalm i pins s σ H E I hf st hg
    subst hP hw hK
    obtain ⟨hp, s0, la, idx, hc, q⟩ := st
    have hlen := rv.length
    have big : (1000 : Nat) ≤ sizeLine := by decide
    have key : ∀ (l : List Nat), (Cb.all xs.length r)[i]? = some l → ∀ h', IsComb h' c p 1 (.ref s.heap.objs.size) l → h'.get? s.heap.objs.size = some { cls := .type "tuple", data := .seq (l.map fun i => its.toArray.getD i .none).toArray } → h'.objs.size = s.heap.objs.size + 1 → (∀ b o, b ≠ c → s.heap.get? b = some o → h'.get? b = some o) →
        ∃ u, some (Value.ref s.heap.objs.size) = some u ∧ wpAny (model X.prog X.w) X.A (letOwnedTupleGo tg (.ref c) u) (fun _ s2 => ∃ x H', Inv X pins σ H' s2 ∧ RelV x u ∧ (ItCb xs r).yld i H x H' ∧ CbAt xs its r c p (i + 1) s2.heap ∧ ∀ b ∈ [c, p], H' b = none) E { s with heap := h' } := by
      intro l hl h' a1 a2 a3 a4
      refine ⟨_, rfl, go_of (n := "itertools.combinations") a1 rfl rfl (by decide) ?_⟩
      have ml := Cb.mem_all.mp (List.mem_of_getElem? hl)
      have new : ObjOk X.prog X.w (upd H s.heap.objs.size (.tup (pickV xs l))) h' s.heap.objs.size (.tup (pickV xs l)) := by
        refine ⟨by unfold pickV; rw [List.length_map, ml.1]; omega, _, vals_pick rv ml.2.2, ⟨_, a2, rfl, _, rfl⟩⟩
      have I1 : Inv X pins σ (upd H s.heap.objs.size (.tup (pickV xs l))) { s with heap := h' } :=
        I.turnedNew (t' := s.toks) (ch := [c, p]) (fun b o hb q => a4 b o (fun z => hb (by simp [z])) q) hf (Nat.le_refl _) new
      refine ⟨.ref s.heap.objs.size, _, I1, rfl, ⟨_, l, rfl, I.hok.fresh (Nat.le_refl _), hl, rfl⟩, ⟨a4 p _ hcp hp, 1, _, l, a1, .inr ⟨i, rfl, rfl, hl⟩⟩, fun b hb => ?_⟩
      have hlt : b < s.heap.objs.size := by
        have e' : b = c ∨ b = p := by simpa using hb
        rcases e' with q | q
        · rw [q]; exact Heap.lt_size hc
        · rw [q]; exact Heap.lt_size hp
      rw [upd_ne (Nat.ne_of_lt hlt)]
      exact (hf b hb).1
    have hgo : i < (Cb.all xs.length r).length := hg
    rcases q with ⟨rfl, e2, rfl⟩ | ⟨j, rfl, rfl, hj⟩
    · have hrn : r ≤ xs.length := Nat.le_of_not_lt fun z => by rw [Cb.all_none z] at hgo; cases hgo
      rw [if_neg (Nat.not_lt.mpr hrn)] at e2
      subst e2
      exact pyNext_comb_first hc hp hcp (by rw [List.length_range]; exact hr) fun h' a1 a2 a3 a4 => key _ (Cb.all_head hrn) h' a1 a2 a3 a4
    · obtain ⟨nx, hnx⟩ : ∃ nx, (Cb.all xs.length r)[j + 1]? = some nx := ⟨_, List.getElem?_eq_getElem hgo⟩
      have hn := Cb.all_next hj
      rw [hnx, hlen] at hn
      refine pyNext_comb_more hc hp hcp hn ?_ fun h' a1 a2 a3 a4 => key _ hnx h' a1 a2 a3 a4
      rw [Cb.all_len hnx]
      exact hr
  done := by
    intro X hP hw hK hcalm i pins s σ H E I hf st hg
    subst hP hw hK
    obtain ⟨hp, s0, la, idx, hc, q⟩ := st
    have hlen := rv.length
    have hst : (Cb.all xs.length r).length ≤ i := hg
    have hn : s0 = 2 ∨ (s0 = 1 ∧ Cb.step its.length idx = none) := by
      rcases q with ⟨rfl, e2, _⟩ | ⟨j, rfl, rfl, hj⟩
      · by_cases z : r > xs.length
        · rw [if_pos z] at e2
          exact .inl e2.symm
        · have := (List.getElem?_eq_some_iff.mp (Cb.all_head (Nat.le_of_not_lt z))).1
          omega
      · refine .inr ⟨rfl, ?_⟩
        rw [← hlen, Cb.all_next hj]
        exact List.getElem?_eq_none hst
    exact pyNext_comb_end (I.ok.hd hcalm) hc hp hn fun h' hk => ⟨rfl, I.turnedL (t' := s.toks) (ch := [c, p]) (fun b o hb q => hk b o (fun z => hb (by simp [z])) q) hf⟩
  self := fun A i s Q E st h => by
    obtain ⟨hp, s0, la, idx, hc, _⟩ := st
    exact pyIter_comb hc h
section
variable {X : Cx} {tg : Expr}
theorem walk_comb {pins : List (Addr × Obj)} {σ : L2.St} {H : Hp} {s : Shared} {R : It → Hp → Prop} {E : Value → Shared → Prop} {xs : List V} {its : List Value} {k : Nat} {tk : Nat} {h' : Heap} (I : Inv X pins σ H s) (hk : k ≤ 1000) (keep : ∀ b o, s.heap.get? b = some o → h'.get? b = some o) (rv : Vals xs its) (q : R (ItCb xs k) H) :
    wpAny (model X.prog X.w) X.A (pyIter (.ref (h'.objs.size + 1))) (PIE X pins σ tg R) E { s with heap := combHeap h' its k, toks := tk } := by
  have I1 : Inv X pins σ H { s with heap := h', toks := tk } := I.kept keep
  have J : Inv X pins σ H { s with heap := combHeap h' its k, toks := tk } := I1.kept fun b o e => combHeap_keep e
  have own : ∀ b ∈ [h'.objs.size + 1, h'.objs.size], FpOk X pins H b := fun b hb => by
    have hle : h'.objs.size ≤ b := by
      have e' : b = h'.objs.size + 1 ∨ b = h'.objs.size := by simpa using hb
      omega
    exact I1.fpOk hle (I1.hok.fresh hle)
  refine pyIter_comb combHeap_comb ⟨_, [h'.objs.size + 1, h'.objs.size], _, _, H, rfl, J, turn_comb rv (Nat.ne_of_lt (Nat.lt_succ_self _)) hk, ⟨combHeap_pool, _, _, _, combHeap_comb, .inl ⟨rfl, ?_, rfl⟩⟩, own, q⟩
  rw [rv.length]
theorem rg0 (n : Nat) : rgV 0 (n : Int) = (List.range n).map fun (i : Nat) => V.int (i : Int) := by
  unfold rgV
  rw [Int.sub_zero, Int.toNat_natCast]
  refine List.map_congr_left fun i _ => ?_
  rw [Int.zero_add]
/-- combinations(range(n), k) -/
def iCbR (te tk : TE) : TI := fun σ H R => te σ H fun x H1 => ∃ n : Nat, x = .int n ∧ n ≤ 1000 ∧ tk σ H1 fun y H2 => ∃ k : Nat, y = .int k ∧ k ≤ 1000 ∧ R (ItCb ((List.range n).map fun (i : Nat) => V.int (i : Int)) k) H2
theorem pi_combR {a b : Expr} {te tk : TE} {p p1 p2 pos : Pos} (hc : X.calm = true) (hg : Gl X "combinations") (hm : X.mg "combinations" = some (.type "itertools.combinations")) (hg2 : Gl X "range") (hm2 : X.mg "range" = none) (ha : PE X a te) (hb : PE X b tk)
    (na : starEach [.Call (.Name "range" p1) [a] [] p2, b] X.env = (false, eval (.Call (.Name "range" p1) [a] [] p2) X.env) :: starEach [b] X.env := by rfl) (nb : starEach [b] X.env = (false, eval b X.env) :: starEach [] X.env := by rfl) (nc : starEach [a] X.env = (false, eval a X.env) :: starEach [] X.env := by rfl)
    (hp : (backTo pos (starEach [b] X.env)).any (·.1) = false := by rfl) : PI X tg (.Call (.Name "combinations" p) [.Call (.Name "range" p1) [a] [] p2, b] [] pos) (iCbR te tk) := by
  refine ⟨fun pins s σ H R I h => ?_⟩
  refine Call_ (ld_glob I hg hm (PyProof.Rows.callWith_type1 (args_cons ?_ na) na hp))
  refine Call_ (ld_blt I hg2 hm2 boot_range (PyProof.Rows.callWith_type1 (one_arg ha I h (fun v s2 x H2 I2 r q => ?_) nc) nc))
  obtain ⟨n, rfl, hn, q⟩ := q
  obtain ⟨t, rfl⟩ := r
  refine call_range_1 ?_
  have I3 := ClX.pin_new (t' := s2.toks + 1 + 1) I2 (fun _ _ z => Heap.get?_push_of_some { cls := .type "range", data := .fields #[.int 0 s2.toks, .int n t, .int 1 (s2.toks + 1)] } z) (Nat.le_refl _) (Heap.get?_push_size s2.heap rfl) (fun v z => nomatch z)
  refine args_cons (thn (hb.run _ _ σ H2 _ I3 q) fun u s4 ⟨y, H4, I4, r4, q4⟩ => args_nil ?_) nb
  obtain ⟨k, rfl, hk, q4⟩ := q4
  obtain ⟨t4, rfl⟩ := r4
  have hr : IsRange s4.heap s2.heap.objs.size 0 n 1 s2.toks t (s2.toks + 1) := ClX.pin_at I4
  have hcalm : X.A.handled = none := (ClX.unpin I4).ok.hd hc
  refine call_comb (P := fun its => Vals ((List.range n).map fun (i : Nat) => V.int (i : Int)) its) hk (fun E Q hQ => ?_) (fun its r => by have := r.length; rw [List.length_map, List.length_range] at this; omega) fun h' tk its keep r => walk_comb (ClX.unpin I4) hk keep r q4
  refine collect_range (A := X.A.in1.in1) (n := n) hcalm hr (small_one (by omega) (by omega) (by omega) (by omega)) (by have := rangeSize_nat 0 (n : Int); rw [Int.sub_zero, Int.toNat_natCast] at this; exact this) (by omega) fun h' tk acc keep hacc => hQ h' tk acc.toList keep ?_
  have hacc2 : ItemsOf (fun i v => ∃ t, v = Value.int (0 + (i : Int) * 1) t) acc ((n : Int) - 0).toNat := by
    rw [Int.sub_zero, Int.toNat_natCast]
    exact hacc
  have := vals_rg hacc2
  rw [rg0] at this
  exact this
/-- combinations(xs, k) -/
def iCbL (K : PySem.W.Frag) (ta : TA) : TI := fun σ H R => ta σ H fun vs H1 => ∃ (a : Addr) (xs : List V) (k : Nat), vs = [.ref a, .int k] ∧ SqL K H1 a xs ∧ xs.length ≤ 1000 ∧ k ≤ 1000 ∧ R (ItCb xs k) H1
theorem pi_combL {a b : Expr} {ta : TA} {p pos : Pos} (hc : X.calm = true) (hg : Gl X "combinations") (hm : X.mg "combinations" = some (.type "itertools.combinations")) (ha : PA X [a, b] ta)
    (na : starEach [a, b] X.env = (false, eval a X.env) :: starEach [b] X.env := by rfl) (hp : (backTo pos (starEach [b] X.env)).any (·.1) = false := by rfl) : PI X tg (.Call (.Name "combinations" p) [a, b] [] pos) (iCbL X.K ta) := by
  refine ⟨fun pins s σ H R I h => ?_⟩
  refine Call_ (ld_glob I hg hm (PyProof.Rows.callWith_type1 (thn (ha.run pos pins s σ H _ I h) fun us s1 ⟨vs, H1, I1, r1, q1⟩ => ?_) na hp))
  obtain ⟨l, xs, k, e, hl, hx, hk, q⟩ := q1
  subst e
  cases r1 with
  | cons ru rr =>
    cases rr with
    | cons rk rr =>
      cases rr
      cases ru
      obtain ⟨t, rfl⟩ := rk
      obtain ⟨its, rv, pl, hz⟩ := I1.list hl
      have hlen := rv.length
      refine call_comb (P := fun js => js = its) hk (fun E Q hQ => ?_) (fun js e => by rw [e]; omega) fun h' tk js keep e => walk_comb I1 hk keep (by rw [e]; exact rv) q
      refine PyProof.Rows.collect_list pl.isList (hQ _ s1.toks its (fun b o e => ?_) rfl) (by omega)
      have lt := Heap.lt_size e
      exact (Heap.get?_update_other _ _ (Nat.ne_of_gt lt)).trans (Heap.get?_push_of_some _ e)
end
/-! ### the readings -/
theorem for_comb {xs : List V} {r : Nat} {g : TG} {tb : TS} {D : Ends} {σ : L2.St} {H : Hp} (Pv : Nat → L2.St → Hp → Prop) (h0 : Pv 0 σ H)
    (hs : ∀ (i : Nat) (l : List Nat) (T : Addr) (σ : L2.St) (H : Hp), (Cb.all xs.length r)[i]? = some l → Pv i σ H → H T = none → g (.ref T) σ (upd H T (.tup (pickV xs l))) fun σ2 H2 => tb { D with nx := Pv (i + 1), ct := Pv (i + 1), bk := D.nx } σ2 H2) (hd : ∀ σ H, Pv (Cb.all xs.length r).length σ H → D.nx σ H) :
    ∃ W : Nat → Nat → L2.St → Hp → Prop, (∃ m, W 0 m σ H) ∧ ∀ i m σ H, W i m σ H →
      ((ItCb xs r).stop i H ∧ D.nx σ H) ∨ ((ItCb xs r).go i H ∧ ∃ N : L2.St → Hp → Prop, (∀ σ' H', N σ' H' → ∃ m', m' < m ∧ W (i + 1) m' σ' H') ∧ ∀ v H', (ItCb xs r).yld i H v H' → g v σ H' fun σ2 H2 => tb { D with nx := N, ct := N, bk := D.nx } σ2 H2) := by
  refine ⟨fun i m σ H => m = (Cb.all xs.length r).length - i ∧ i ≤ (Cb.all xs.length r).length ∧ Pv i σ H, ⟨_, rfl, Nat.zero_le _, h0⟩, ?_⟩
  rintro i m σ H ⟨rfl, hi, p⟩
  by_cases hlt : i < (Cb.all xs.length r).length
  · refine .inr ⟨hlt, Pv (i + 1), fun σ' H' p' => ⟨(Cb.all xs.length r).length - (i + 1), by omega, rfl, hlt, p'⟩, fun v H' y => ?_⟩
    obtain ⟨T, l, rfl, hT, hl, rfl⟩ := y
    exact hs i l T σ H hl p hT
  · have e : i = (Cb.all xs.length r).length := by omega
    subst e
    exact .inl ⟨Nat.le_refl _, hd σ H p⟩
end CbL
/-! picks of places: by codes, sorted; signs of picks -/
namespace Sg
open PySem PySem.W PyProof.Rows
/-- the places whose bit stands in the code -/
def sub (m c : Nat) : List Nat := (List.range m).filter fun k => (c >>> k) % 2 == 1
theorem bit_low {m c k : Nat} (h : k < m) : (c % 2 ^ m) >>> k % 2 = c >>> k % 2 := by
  have h1 := Nat.testBit_mod_two_pow c m k
  rw [Nat.testBit_eq_decide_div_mod_eq, Nat.testBit_eq_decide_div_mod_eq] at h1
  rw [Nat.shiftRight_eq_div_pow, Nat.shiftRight_eq_div_pow]
  simp only [h, decide_true, Bool.true_and] at h1
  have h2 := decide_eq_decide.mp h1
  omega
theorem sub_succ (m c : Nat) : sub (m + 1) c = sub m (c % 2 ^ m) ++ (if (c >>> m) % 2 = 1 then [m] else []) := by
  unfold sub
  rw [List.range_succ, List.filter_append]
  congr 1
  · refine List.filter_congr fun k hk => ?_
    rw [bit_low (List.mem_range.mp hk)]
  · by_cases h : (c >>> m) % 2 = 1
    · rw [if_pos h, List.filter_cons_of_pos (by simpa using h)]
      rfl
    · rw [if_neg h, List.filter_cons_of_neg (by simpa using h)]
      rfl
theorem sub_lt {m c k : Nat} (h : k ∈ sub m c) : k < m := List.mem_range.mp (List.mem_filter.mp h).1
theorem sub_up (m c : Nat) : (sub m c).Pairwise (· < ·) := List.Pairwise.filter _ List.pairwise_lt_range
theorem top_bit {m c : Nat} (h : c < 2 ^ (m + 1)) : c >>> m = 0 ∧ c < 2 ^ m ∨ c >>> m = 1 ∧ c = 2 ^ m + c % 2 ^ m := by
  have hp : 0 < 2 ^ m := Nat.two_pow_pos m
  have h2 : 2 ^ (m + 1) = 2 * 2 ^ m := by rw [Nat.pow_succ, Nat.mul_comm]
  have hd := Nat.div_add_mod c (2 ^ m)
  have hm := Nat.mod_lt c hp
  rw [Nat.shiftRight_eq_div_pow]
  by_cases q : c < 2 ^ m
  · exact .inl ⟨Nat.div_eq_of_lt q, q⟩
  · have e : c / 2 ^ m = 1 := by
      have a1 : c / 2 ^ m < 2 := Nat.div_lt_of_lt_mul (by omega)
      have a2 : 0 < c / 2 ^ m := Nat.div_pos (by omega) hp
      omega
    refine .inr ⟨e, ?_⟩
    rw [e, Nat.mul_one] at hd
    exact hd.symm
theorem sub_inj : ∀ {m c d : Nat}, c < 2 ^ m → d < 2 ^ m → sub m c = sub m d → c = d
  | 0, c, d, hc, hd, _ => by
    rw [Nat.pow_zero] at hc hd
    omega
  | m + 1, c, d, hc, hd, e => by
    have hp : 0 < 2 ^ m := Nat.two_pow_pos m
    rw [sub_succ, sub_succ] at e
    have out : ∀ x, m ∉ sub m x := fun x h => Nat.lt_irrefl _ (sub_lt h)
    rcases top_bit hc with ⟨a1, a2⟩ | ⟨a1, a2⟩ <;> rcases top_bit hd with ⟨b1, b2⟩ | ⟨b1, b2⟩ <;> rw [a1, b1] at e
    · rw [if_neg (by decide), List.append_nil, List.append_nil, Nat.mod_eq_of_lt a2, Nat.mod_eq_of_lt b2] at e
      exact sub_inj a2 b2 e
    · rw [if_neg (by decide), if_pos (by decide), List.append_nil] at e
      exact absurd (show m ∈ sub m (c % 2 ^ m) by rw [e]; exact List.mem_append_right _ (List.mem_singleton.mpr rfl)) (out _)
    · rw [if_pos (by decide), if_neg (by decide), List.append_nil] at e
      exact absurd (show m ∈ sub m (d % 2 ^ m) by rw [← e]; exact List.mem_append_right _ (List.mem_singleton.mpr rfl)) (out _)
    · rw [if_pos (by decide)] at e
      have := sub_inj (Nat.mod_lt c hp) (Nat.mod_lt d hp) (List.append_cancel_right e)
      omega
theorem sub_all : ∀ {m : Nat} {l : List Nat}, l.Pairwise (· < ·) → (∀ x ∈ l, x < m) → ∃ c, c < 2 ^ m ∧ sub m c = l
  | 0, l, _, h => ⟨0, by decide, by
    cases l with
    | nil => rfl
    | cons x l => exact absurd (h x (List.mem_cons_self ..)) (Nat.not_lt_zero _)⟩
  | m + 1, l, hp, h => by
    have h2 : 2 ^ (m + 1) = 2 * 2 ^ m := by rw [Nat.pow_succ, Nat.mul_comm]
    have hp0 : 0 < 2 ^ m := Nat.two_pow_pos m
    by_cases q : m ∈ l
    · obtain ⟨a, b, rfl⟩ := List.append_of_mem q
      have hb : b = [] := by
        cases b with
        | nil => rfl
        | cons y b =>
          have h1 := (List.pairwise_cons.mp (List.pairwise_append.mp hp).2.1).1 y (List.mem_cons_self ..)
          have h2 := h y (by simp)
          omega
      subst hb
      obtain ⟨c, hc, e⟩ := sub_all (m := m) (l := a) (List.pairwise_append.mp hp).1 (fun x hx => (List.pairwise_append.mp hp).2.2 x hx m (List.mem_singleton.mpr rfl))
      refine ⟨2 ^ m + c, by omega, ?_⟩
      rw [sub_succ, Nat.shiftRight_eq_div_pow, Nat.add_mod_left, Nat.mod_eq_of_lt hc, Nat.add_div_left _ hp0, Nat.div_eq_of_lt hc, if_pos (by decide), e]
    · obtain ⟨c, hc, e⟩ := sub_all (m := m) (l := l) hp (fun x hx => by
        have := h x hx
        have : x ≠ m := fun z => q (by rw [← z]; exact hx)
        omega)
      refine ⟨c, by omega, ?_⟩
      rw [sub_succ, Nat.shiftRight_eq_div_pow, Nat.mod_eq_of_lt hc, Nat.div_eq_of_lt hc, if_neg (by decide), e, List.append_nil]
theorem sub_nil {m c : Nat} (hc : c < 2 ^ m) (h : sub m c = []) : c = 0 := by
  refine sub_inj hc (Nat.two_pow_pos m) (h.trans (Eq.symm ?_))
  unfold sub
  refine List.filter_eq_nil_iff.mpr fun k _ => ?_
  rw [Nat.zero_shiftRight]
  decide
/-- all picks of m places, by their codes -/
def coded (m : Nat) : List (List Nat) := (List.range' 1 (2 ^ m - 1)).map (sub m)
theorem nodup_map {α β : Type} {f : α → β} : ∀ {l : List α}, l.Nodup → (∀ a ∈ l, ∀ b ∈ l, f a = f b → a = b) → (l.map f).Nodup
  | [], _, _ => List.nodup_nil
  | a :: l, h, hf => by
    have h := List.nodup_cons.mp h
    rw [List.map_cons]
    refine List.nodup_cons.mpr ⟨fun hm => ?_, nodup_map h.2 fun b hb c hc => hf b (List.mem_cons_of_mem _ hb) c (List.mem_cons_of_mem _ hc)⟩
    obtain ⟨b, hb, e⟩ := List.mem_map.mp hm
    have := hf b (List.mem_cons_of_mem _ hb) a (List.mem_cons_self ..) e
    rw [this] at hb
    exact h.1 hb
theorem coded_nodup (m : Nat) : (coded m).Nodup := by
  refine nodup_map List.nodup_range' fun a ha b hb e => ?_
  have ha := List.mem_range'_1.mp ha
  have hb := List.mem_range'_1.mp hb
  have := Nat.two_pow_pos m
  exact sub_inj (m := m) (by omega) (by omega) e
theorem mem_coded {m : Nat} {l : List Nat} : l ∈ coded m ↔ l ≠ [] ∧ l.Pairwise (· < ·) ∧ ∀ x ∈ l, x < m := by
  have hp := Nat.two_pow_pos m
  constructor
  · intro h
    obtain ⟨c, hc, rfl⟩ := List.mem_map.mp h
    have hc := List.mem_range'_1.mp hc
    refine ⟨fun z => ?_, sub_up m c, fun x hx => sub_lt hx⟩
    have := sub_nil (m := m) (by omega) z
    omega
  · rintro ⟨h0, h1, h2⟩
    obtain ⟨c, hc, e⟩ := sub_all h1 h2
    refine List.mem_map.mpr ⟨c, List.mem_range'_1.mpr ⟨?_, by omega⟩, e⟩
    refine Nat.pos_of_ne_zero fun z => h0 ?_
    rw [← e, z]
    unfold sub
    refine List.filter_eq_nil_iff.mpr fun k _ => ?_
    rw [Nat.zero_shiftRight]
    decide
/-- what a pick is sorted by -/
def dat (l : List Nat) : PyData := .tuple [.int (l.length : Nat), .list (l.map fun (i : Nat) => PyData.int (i : Int))]
def toks (l : List Nat) : List (Int ⊕ List Nat) := keyToks (dat l)
def ltP (a b : List Nat) : Bool := PyProof.Rows.lexLt itemOrd (toks a) (toks b)
theorem toks_is (l : List Nat) : toks l = .inl 1 :: .inl (l.length : Int) :: .inl 1 :: (keyToksAll (l.map fun (i : Nat) => PyData.int (i : Int)) ++ [.inl 0]) := by
  unfold toks dat
  rw [keyToks, keyToksAll, keyToksAll, keyToksAll, keyToks, keyToks]
  rfl
theorem ltP_len {a b : List Nat} (h : a.length < b.length) : ltP a b = true := by
  unfold ltP
  rw [toks_is, toks_is, lex_self, lex_diff (O := itemOrd) (fun z => by
    have := Sum.inl.inj z
    omega)]
  exact decide_eq_true (by omega)
theorem ltP_cons {x y : Nat} {a b : List Nat} (hl : a.length = b.length) : (x < y → ltP (x :: a) (y :: b) = true) ∧ (ltP a b = true → ltP (x :: a) (x :: b) = true) := by
  unfold ltP
  refine ⟨fun h => ?_, fun h => ?_⟩
  · rw [toks_is, toks_is, lex_self, List.length_cons, List.length_cons, hl, lex_self, lex_self, List.map_cons, List.map_cons, toks_all_cons, toks_all_cons, List.cons_append, List.cons_append, lex_self, keyToks, keyToks]
    rw [List.cons_append, List.cons_append, List.cons_append, List.cons_append, lex_diff (O := itemOrd) (fun z => by
      have := Sum.inl.inj z
      omega)]
    exact decide_eq_true (by omega)
  · rw [toks_is, toks_is, lex_self, hl, lex_self, lex_self] at h
    rw [toks_is, toks_is, lex_self, List.length_cons, List.length_cons, hl, lex_self, lex_self, List.map_cons, List.map_cons, toks_all_cons, toks_all_cons, List.cons_append, List.cons_append, lex_self, keyToks, List.cons_append, List.cons_append, List.nil_append, List.cons_append, List.cons_append, lex_self]
    exact h
theorem C_up (n : Nat) : ∀ r d lo, lo + d = n → (Cb.C n r lo).Pairwise (fun a b => ltP a b = true)
  | 0, _, _, _ => List.pairwise_singleton _ _
  | r + 1, 0, lo, h => by
    rw [Cb.C_end n r lo (by omega)]
    exact List.Pairwise.nil
  | r + 1, d + 1, lo, h => by
    rw [Cb.C_step n r lo (by omega)]
    refine List.pairwise_append.mpr ⟨List.pairwise_map.mpr ?_, C_up n (r + 1) d (lo + 1) (by omega), fun a ha b hb => ?_⟩
    · refine List.Pairwise.imp_of_mem (fun {a b} ha hb h => (ltP_cons (x := lo) (y := lo) ?_).2 h) (C_up n r d (lo + 1) (by omega))
      rw [(Cb.mem_C.mp ha).1, (Cb.mem_C.mp hb).1]
    · obtain ⟨a, ha1, rfl⟩ := List.mem_map.mp ha
      obtain ⟨b1, b2, b3⟩ := Cb.mem_C.mp hb
      cases b with
      | nil => simp at b1
      | cons y b =>
        refine (ltP_cons ?_).1 (b3 y (List.mem_cons_self ..)).1
        have := (Cb.mem_C.mp ha1).1
        rw [List.length_cons] at b1
        omega
/-- all picks of m places: those of fewer ahead, of as many the least ahead -/
def picks (m : Nat) : List (List Nat) := (List.range m).flatMap fun s => Cb.all m (s + 1)
theorem mem_picks {m : Nat} {l : List Nat} : l ∈ picks m ↔ l ≠ [] ∧ l.Pairwise (· < ·) ∧ ∀ x ∈ l, x < m := by
  unfold picks
  rw [List.mem_flatMap]
  constructor
  · rintro ⟨s, _, h⟩
    obtain ⟨h1, h2⟩ := Cb.mem_all.mp h
    exact ⟨fun z => by rw [z] at h1; simp at h1, h2⟩
  · rintro ⟨h0, h1, h2⟩
    have hl : l.length ≤ m := by
      have hn : l.Nodup := List.Pairwise.imp (fun h => Nat.ne_of_lt h) h1
      have h3 : l.length ≤ (List.range m).length := List.Nodup.length_le_of_subset hn fun x hx => List.mem_range.mpr (h2 x hx)
      rwa [List.length_range] at h3
    have hp : 0 < l.length := List.length_pos_iff.mpr h0
    exact ⟨l.length - 1, List.mem_range.mpr (by omega), Cb.mem_all.mpr ⟨by omega, h1, h2⟩⟩
theorem picks_up (m : Nat) : (picks m).Pairwise (fun a b => ltP a b = true) := by
  have hk : ∀ k, ((List.range k).flatMap fun s => Cb.all m (s + 1)).Pairwise (fun a b => ltP a b = true) := by
    intro k
    induction k with
    | zero => exact List.Pairwise.nil
    | succ k ih =>
      rw [List.range_succ, List.flatMap_append, List.flatMap_cons, List.flatMap_nil, List.append_nil]
      refine List.pairwise_append.mpr ⟨ih, C_up m (k + 1) m 0 (by omega), fun a ha b hb => ltP_len ?_⟩
      obtain ⟨s, hs, ha⟩ := List.mem_flatMap.mp ha
      have := List.mem_range.mp hs
      have h1 := (Cb.mem_all.mp ha).1
      have h2 := (Cb.mem_all.mp hb).1
      omega
  exact hk m
theorem ltP_irrefl (a : List Nat) : ltP a a = false := lex_irrefl _
theorem picks_nodup (m : Nat) : (picks m).Nodup := List.Pairwise.imp (fun {a b} h z => by
  rw [z, ltP_irrefl] at h
  cases h) (picks_up m)
theorem coded_perm (m : Nat) : List.Perm (coded m) (picks m) := (List.perm_ext_iff_of_nodup (coded_nodup m) (picks_nodup m)).mpr fun l => by rw [mem_coded, mem_picks]
def leP (a b : List Nat) : Bool := dataLe false dat a b
theorem leP_is (a b : List Nat) : leP a b = !ltP b a := rfl
theorem sorted_coded (m : Nat) : (coded m).mergeSort leP = picks m := by
  have tot : TotalLe leP := sortLe_total (listOrd itemOrd) false fun b => keyToks (dat b)
  refine List.Perm.eq_of_pairwise (le := fun a b => leP a b = true) (fun a b ha hb h1 h2 => ?_) (sort_pairwise tot _) ?_ ((List.mergeSort_perm _ _).trans (coded_perm m))
  · have ha : a ∈ picks m := (coded_perm m).mem_iff.mp ((List.mergeSort_perm _ _).mem_iff.mp ha)
    rw [leP_is] at h1 h2
    have h1 : ltP b a = false := by simpa using h1
    have h2 : ltP a b = false := by simpa using h2
    obtain ⟨i, hi, ea⟩ := List.mem_iff_getElem.mp ha
    obtain ⟨j, hj, eb⟩ := List.mem_iff_getElem.mp hb
    have pw := List.pairwise_iff_getElem.mp (picks_up m)
    rcases Nat.lt_trichotomy i j with c | c | c
    · have := pw i j hi hj c
      rw [ea, eb, h2] at this
      cases this
    · subst c
      rw [← ea, ← eb]
    · have := pw j i hj hi c
      rw [ea, eb, h1] at this
      cases this
  · refine List.Pairwise.imp (fun {a b} h => ?_) (picks_up m)
    rw [leP_is]
    cases c : ltP b a with
    | false => rfl
    | true =>
      have := lex_trans (O := itemOrd) _ _ _ h c
      rw [lex_irrefl] at this
      cases this
end Sg
namespace Sg
/-- places, as whole numbers -/
def zs (ns : List Nat) : List Int := ns.map fun (i : Nat) => (i : Int)
theorem fm_congr {α β : Type} {f g : α → List β} : ∀ {l : List α}, (∀ x ∈ l, f x = g x) → l.flatMap f = l.flatMap g
  | [], _ => rfl
  | x :: l, h => by rw [List.flatMap_cons, List.flatMap_cons, h x (List.mem_cons_self ..), fm_congr fun y hy => h y (List.mem_cons_of_mem _ hy)]
/-- all signs of so many, 1 ahead of -1 -/
def ways : Nat → List (List Int)
  | 0 => [[]]
  | n + 1 => (ways n).flatMap fun s => [s ++ [1], s ++ [-1]]
/-- the signs of a code -/
def bits (n c : Nat) : List Int := (List.range n).map fun k => 1 - 2 * (((c >>> (n - 1 - k)) % 2 : Nat) : Int)
theorem bits_succ (n c : Nat) : bits (n + 1) c = bits n (c / 2) ++ [1 - 2 * ((c % 2 : Nat) : Int)] := by
  unfold bits
  rw [List.range_succ, List.map_append]
  congr 1
  · refine List.map_congr_left fun k hk => ?_
    have hk := List.mem_range.mp hk
    have e : n + 1 - 1 - k = (n - 1 - k) + 1 := by omega
    rw [e, Nat.shiftRight_eq_div_pow, Nat.shiftRight_eq_div_pow, Nat.pow_succ, Nat.mul_comm, Nat.div_div_eq_div_mul]
  · have e : n + 1 - 1 - n = 0 := by omega
    rw [List.map_cons, List.map_nil, e, Nat.shiftRight_zero]
theorem range_two : ∀ m : Nat, List.range (2 * m) = (List.range m).flatMap fun k => [2 * k, 2 * k + 1]
  | 0 => rfl
  | m + 1 => by
    rw [List.range_succ, List.flatMap_append, ← range_two m, show 2 * (m + 1) = 2 * m + 1 + 1 by omega, List.range_succ, List.range_succ]
    simp
theorem bits_all : ∀ n : Nat, (List.range (2 ^ n)).map (bits n) = ways n
  | 0 => rfl
  | n + 1 => by
    rw [Nat.pow_succ, Nat.mul_comm, range_two, List.map_flatMap, ways, ← bits_all n, List.flatMap_map]
    refine congrArg (fun f => List.flatMap f (List.range (2 ^ n))) (funext fun k => ?_)
    show [bits (n + 1) (2 * k), bits (n + 1) (2 * k + 1)] = _
    rw [bits_succ, bits_succ, show 2 * k / 2 = k by omega, show 2 * k % 2 = 0 by omega, show (2 * k + 1) / 2 = k by omega, show (2 * k + 1) % 2 = 1 by omega]
    rfl
theorem mem_ways : ∀ {n : Nat} {s : List Int}, s ∈ ways n ↔ s.length = n ∧ ∀ x ∈ s, x = 1 ∨ x = -1
  | 0, s => by
    unfold ways
    rw [List.mem_singleton]
    constructor
    · rintro rfl
      exact ⟨rfl, fun x hx => nomatch hx⟩
    · rintro ⟨h, _⟩
      exact List.length_eq_zero_iff.mp h
  | n + 1, s => by
    rw [ways, List.mem_flatMap]
    constructor
    · rintro ⟨t, ht, hs⟩
      obtain ⟨h1, h2⟩ := mem_ways.mp ht
      have : s = t ++ [1] ∨ s = t ++ [-1] := by simpa using hs
      rcases this with rfl | rfl
      · exact ⟨by simp [h1], fun x hx => (List.mem_append.mp hx).elim (h2 x) fun z => .inl (List.mem_singleton.mp z)⟩
      · exact ⟨by simp [h1], fun x hx => (List.mem_append.mp hx).elim (h2 x) fun z => .inr (List.mem_singleton.mp z)⟩
    · rintro ⟨h1, h2⟩
      obtain ⟨t, x, rfl⟩ : ∃ t x, s = t ++ [x] := ⟨s.dropLast, s.getLast (fun z => by rw [z] at h1; simp at h1), (List.dropLast_concat_getLast _).symm⟩
      refine ⟨t, mem_ways.mpr ⟨by simpa using h1, fun y hy => h2 y (List.mem_append_left _ hy)⟩, ?_⟩
      rcases h2 x (List.mem_append_right _ (List.mem_singleton.mpr rfl)) with rfl | rfl <;> simp
theorem ways_head : ∀ n : Nat, ways (n + 1) = (ways n).map (1 :: ·) ++ (ways n).map (-1 :: ·)
  | 0 => rfl
  | n + 1 => by
    have e : ∀ m, ways (m + 1) = (ways m).flatMap fun s => [s ++ [1], s ++ [-1]] := fun _ => rfl
    refine Eq.trans (b := ((ways n).flatMap fun s => [1 :: (s ++ [1]), 1 :: (s ++ [-1])]) ++ (ways n).flatMap fun s => [-1 :: (s ++ [1]), -1 :: (s ++ [-1])]) ?_ ?_
    · rw [e (n + 1), ways_head n, List.flatMap_append, List.flatMap_map, List.flatMap_map]
      rfl
    · rw [e n, List.map_flatMap, List.map_flatMap]
      rfl
theorem ways_len (n : Nat) : (ways n).length = 2 ^ n := by rw [← bits_all, List.length_map, List.length_range]
/-- sums with signs, onto z -/
def add (z : List Int) (s : Int) (r : List Int) : List Int := List.zipWith (fun t y => t + s * y) z r
def tot : List Int → List Int → List (List Int) → List Int
  | z, s :: ss, r :: rs => tot (add z s r) ss rs
  | z, _, _ => z
theorem tot_snoc : ∀ (z ss : List Int) (rs : List (List Int)) (s : Int) (r : List Int), ss.length = rs.length → tot z (ss ++ [s]) (rs ++ [r]) = add (tot z ss rs) s r
  | z, [], [], s, r, _ => rfl
  | z, a :: ss, b :: rs, s, r, h => tot_snoc (add z a b) ss rs s r (by simpa using h)
  | _, [], _ :: _, _, _, h => by simp at h
  | _, _ :: _, [], _, _, h => by simp at h
def small (t : List Int) : Bool := t.all fun y => decide (-1 ≤ y) && decide (y ≤ 1)
/-- the first right signs -/
def first (w : Nat) (rows : List (List Int)) : Option (List Int) := (ways rows.length).find? fun s => small (tot (List.replicate w 0) s rows)
theorem add_len {z r : List Int} {s : Int} (h : z.length = r.length) : (add z s r).length = z.length := by
  unfold add
  rw [List.length_zipWith]
  omega
theorem tot_len : ∀ {w : Nat} {z ss : List Int} {rs : List (List Int)}, z.length = w → (∀ r ∈ rs, r.length = w) → (tot z ss rs).length = w
  | w, z, [], _, h, _ => h
  | w, z, _ :: _, [], h, _ => h
  | w, z, s :: ss, r :: rs, h, hr => tot_len (z := add z s r) (by rw [add_len (by rw [h, hr r (List.mem_cons_self ..)])]; exact h) fun q hq => hr q (List.mem_cons_of_mem _ hq)
/-- the first right signs begin with 1 -/
def firstP (r0 : List Int) (rs : List (List Int)) : Option (List Int) := ((ways rs.length).find? fun s => small (tot r0 s rs)).map (1 :: ·)
theorem add_zero {w : Nat} {r : List Int} (h : r.length = w) : add (List.replicate w 0) 1 r = r := by
  unfold add
  apply List.ext_getElem
  · rw [List.length_zipWith, List.length_replicate]
    omega
  · intro i h1 h2
    rw [List.getElem_zipWith, List.getElem_replicate]
    omega
theorem neg_add {z r : List Int} {s : Int} : add (z.map (- ·)) (-s) r = (add z s r).map (- ·) := by
  unfold add
  rw [List.zipWith_map_left, List.map_zipWith]
  refine congrArg (fun f => List.zipWith f z r) (funext fun a => funext fun b => ?_)
  rw [Int.neg_mul, Int.neg_add]
theorem neg_tot : ∀ (z ss : List Int) (rs : List (List Int)), tot (z.map (- ·)) (ss.map (- ·)) rs = (tot z ss rs).map (- ·)
  | z, s :: ss, r :: rs => by
    show tot (add (z.map (- ·)) (-s) r) (ss.map (- ·)) rs = (tot (add z s r) ss rs).map (- ·)
    rw [neg_add]
    exact neg_tot _ ss rs
  | z, [], [] => rfl
  | z, [], _ :: _ => rfl
  | z, _ :: _, [] => rfl
theorem small_neg (t : List Int) : small (t.map (- ·)) = small t := by
  unfold small
  rw [List.all_map]
  refine congrArg (fun f => List.all t f) (funext fun y => ?_)
  show (decide (-1 ≤ -y) && decide (-y ≤ 1)) = (decide (-1 ≤ y) && decide (y ≤ 1))
  rw [Bool.and_comm]
  congr 1
  · exact decide_eq_decide.mpr (by omega)
  · exact decide_eq_decide.mpr (by omega)
theorem neg_zeros (w : Nat) : (List.replicate w (0 : Int)).map (- ·) = List.replicate w 0 := by rw [List.map_replicate]; rfl
theorem neg_neg (s : List Int) : (s.map (- ·)).map (- ·) = s := by
  rw [List.map_map]
  refine (List.map_congr_left fun x _ => ?_).trans (List.map_id s)
  exact Int.neg_neg x
theorem first_is {w : Nat} {r0 : List Int} {rs : List (List Int)} (h : r0.length = w) : first w (r0 :: rs) = firstP r0 rs := by
  unfold first firstP
  rw [List.length_cons, ways_head, List.find?_append, List.find?_map, List.find?_map]
  have e1 : (fun s => small (tot (List.replicate w 0) s (r0 :: rs))) ∘ (1 :: ·) = fun s => small (tot r0 s rs) := by
    funext s
    show small (tot (add (List.replicate w 0) 1 r0) s rs) = _
    rw [add_zero h]
  rw [e1]
  cases hf : (ways rs.length).find? fun s => small (tot r0 s rs) with
  | some s => rfl
  | none =>
    have e2 : (ways rs.length).find? ((fun s => small (tot (List.replicate w 0) s (r0 :: rs))) ∘ (-1 :: ·)) = none := by
      refine List.find?_eq_none.mpr fun s hs => ?_
      show ¬ small (tot (List.replicate w 0) (-1 :: s) (r0 :: rs)) = true
      intro z
      have e3 : (-1 : Int) :: s = (1 :: s.map (- ·)).map (- ·) := by
        rw [List.map_cons, neg_neg]
      rw [e3, ← neg_zeros, neg_tot, small_neg, show tot (List.replicate w 0) (1 :: s.map (- ·)) (r0 :: rs) = tot (add (List.replicate w 0) 1 r0) (s.map (- ·)) rs from rfl, add_zero h] at z
      have hm : s.map (- ·) ∈ ways rs.length := mem_ways.mpr ⟨by rw [List.length_map]; exact (mem_ways.mp hs).1, fun x hx => by
        obtain ⟨y, hy, rfl⟩ := List.mem_map.mp hx
        rcases (mem_ways.mp hs).2 y hy with rfl | rfl
        · exact .inr rfl
        · exact .inl rfl⟩
      exact List.find?_eq_none.mp hf _ hm z
    rw [e2]
    rfl
end Sg
namespace Own
open PySem PySem.Spec PyProof.Rows L2
/-! str and repr of nested lists: where nothing is being shown around (the law's own def, called by the caller) -/
def rShown (K : PySem.W.Frag) : List V → Hp → VK → Prop := fun xs H Q => ∃ a d, xs = [V.ref a] ∧ Dp K H (.ref a) d ∧ d.showable = true ∧ d.hasDict = false ∧ d.depth ≤ 50 ∧ d.shown.length ≤ sizeLine ∧ Q (.str d.shown) H
section
variable {X : Cx}
theorem str_shown (free : X.A.guards = some []) (room : X.A.units + 64 < cLine) : CallR X (.type "str") (rShown X.K) := by
  intro pn s0 sl G ys ws R J rel told
  obtain ⟨b, dd, rfl, hD, showT, noD, hdep, hlen, fin⟩ := told
  obtain ⟨w1, rfl, hw1⟩ := vals1 rel
  cases hw1
  obtain ⟨cs, hreads⟩ := Dp.reads J dd _ _ hD rfl
  refine str_of_reads hreads showT (PyData.noDict_hsm noD) free (by omega) (fun _ _ z => z) (fun g2 tx tk keep => ?_) hlen
  exact ⟨.str dd.shown, G, J.kept (t' := tk) keep, ⟨tx, rfl⟩, fin⟩
theorem repr_shown (free : X.A.guards = some []) (room : X.A.units + 64 < cLine) : CallR X (.builtin "repr") (rShown X.K) := by
  intro pn s0 sl G ys ws R J rel told
  obtain ⟨b, dd, rfl, hD, showT, noD, hdep, hlen, fin⟩ := told
  obtain ⟨w1, rfl, hw1⟩ := vals1 rel
  cases hw1
  obtain ⟨cs, hreads⟩ := Dp.reads J dd _ _ hD rfl
  refine repr_of_reads' hreads showT (PyData.noDict_hsm noD) free (by omega) (fun _ _ z => z) (fun g2 tx tk keep => ?_) hlen
  exact ⟨.str dd.shown, G, J.kept (t' := tk) keep, ⟨tx, rfl⟩, fin⟩
end
/-- what the caller asks of the law's def, at the caller's own place: with that, the promise of the whole -/
def Asked (P : Program) (w : World) (K : PySem.W.Frag) (mg : Str → Option Value) (fa a : Addr) (ns : List Int) (s : Shared) : Prop :=
  ∀ (root : Heap) (G : Hp), K.In root → root.Ns mainGlobals mg → Env0 P w K mg root callerA [] s G → SqL K G a (ns.map V.int) →
    codeAny (model P w) callerA (.call (.ref fa) ⟨[.ref a], []⟩) (CR CX0 [] P w G s (fun v _ => v = .bl true) fun _ _ _ => False) s
theorem asked_all {P : Program} {w : World} {K : PySem.W.Frag} {mg bt : Str → Option Value} {fa a : Addr} {s : Shared} {us : List Value} {ns : List Int} (inK : K.In s.heap) (glob : s.heap.Ns mainGlobals mg) (blt : s.heap.Ns builtinsNs bt)
    (boot : ∀ y : Str, y ≠ "__name__" → bt y = bootBuiltins y) (nolim : s.heap.NoLimit) (gens : s.gens = #[]) (script : s.heap.get? a = some { cls := .type "list", data := .seq us.toArray }) (entries : IntsAre us ns) (len : ns.length ≤ sizeLine)
    (ask : Asked P w K mg fa a ns s) : codeAny (model P w) callerA (.call (.ref fa) ⟨[.ref a], []⟩) (fun r t => r = .ok (.ret (.bool true)) ∧ OldK s.heap t.heap ∧ t.os = s.os ∧ AllBare t.gens) s := by
  -- the heap of what is followed: the script alone, or nothing where the module holds it
  obtain ⟨G, lone, seen, okG, frozen, apart⟩ : ∃ G : Hp, (∀ b, G b ≠ none → b = a) ∧ SqL K G a (ns.map V.int) ∧ HOk P w G s.heap ∧ (∀ b u, G b = some u → ∃ o xs, u = .frz o (.lst xs)) ∧ (G a ≠ none → K.lookup a = none) := by
    cases look : K.lookup a with
    | some o =>
      have here := inK a o look
      rw [script] at here
      cases here
      exact ⟨fun _ => none, fun b z => absurd rfl z, .inr ⟨_, us.toArray, _, look, rfl, rfl, rfl, by rw [List.size_toArray, entries.length]; exact len, by simpa using vals_ints entries⟩, fun b u z => absurd (show (none : Option HO) = some u from z) (by simp), fun b u z => absurd (show (none : Option HO) = some u from z) (by simp), fun z => absurd rfl z⟩
    | none =>
      have only : ∀ b u, (if b = a then some (HO.frz { cls := .type "list", data := .seq us.toArray } (.lst (ns.map V.int))) else none) = some u → b = a ∧ u = .frz { cls := .type "list", data := .seq us.toArray } (.lst (ns.map V.int)) := fun b u z => by
        by_cases same : b = a
        · rw [if_pos same] at z
          exact ⟨same, (Option.some.inj z).symm⟩
        · rw [if_neg same] at z
          cases z
      refine ⟨fun b => if b = a then some (.frz { cls := .type "list", data := .seq us.toArray } (.lst (ns.map V.int))) else none, fun b z => ?_, .inl (.inr ⟨{ cls := .type "list", data := .seq us.toArray }, if_pos rfl⟩), fun b u z => ?_, fun b u z => ⟨_, _, (only b u z).2⟩, fun _ => rfl⟩
      · by_cases same : b = a
        · exact same
        · exact absurd (if_neg same) z
      · obtain ⟨rfl, rfl⟩ := only b u z
        exact ⟨script, by rw [List.length_map]; exact len, us, _, vals_ints entries, script⟩
  have hide : ∀ {b : Addr} {o : Obj}, s.heap.get? b = some o → G b = none → (hidT s.heap G).get? b = some o := fun there none => hidT_get there none
  have dicts : ∀ {b : Addr} {o : Obj} {es : Array DictEntry} {ep : Nat}, s.heap.get? b = some o → o.data = .dict es ep → G b = none := fun {b o es ep} there isD => by
    by_cases none : G b = none
    · exact none
    · have same := lone b none
      rw [same, script] at there
      cases there
      cases isD
  have spaces : ∀ {b : Addr} {m : Str → Option Value}, s.heap.Ns b m → (hidT s.heap G).Ns b m := fun {b m} ⟨o, es, ep, there, isD, rest⟩ => ⟨o, es, ep, hide there (dicts there isD), isD, rest⟩
  have inRoot : K.In (hidT s.heap G) := fun b o look => hide (inK b o look) (by
    by_cases none : G b = none
    · exact none
    · have same := lone b none
      rw [same] at none look
      rw [apart none] at look
      cases look)
  obtain ⟨lims, limNs, limNo⟩ := nolim
  have modOk : Mod K mg (hidT s.heap G) := ⟨inRoot, spaces glob, ⟨bt, spaces blt, boot⟩, ⟨lims, spaces limNs, limNo⟩⟩
  have env : Env0 P w K mg (hidT s.heap G) callerA [] s G := ⟨rfl, modOk, fun b o look => of_hidT look, Nat.le_of_eq (hidT_size _ _), trivial, fun b z => absurd (show b ∈ ([] : List Addr) from z) (by simp), okG, .of_eq gens⟩
  refine codeAny_mono (ask _ G inRoot (spaces glob) env seen) fun res t fin => ?_
  match res, fin with
  | .error _, fin => exact False.elim fin
  | .ok .next, fin => exact False.elim fin
  | .ok .brk, fin => exact False.elim fin
  | .ok .cont, fin => exact False.elim fin
  | .ok (.ret u), fin =>
    obtain ⟨v, G2, sameOs, bareG, unch, okG2, rel, isT⟩ := fin
    cases (show v = .bl true from isT)
    cases (show u = Value.bool true from rel)
    refine ⟨rfl, OldK.of_keep fun b o there => ?_, sameOs, bareG⟩
    cases gb : G b with
    | none => exact unch.keep b o there gb (fun z => absurd (show b ∈ ([] : List Addr) from z) (by simp)) (by simp)
    | some u =>
      obtain ⟨ob, xs, rfl⟩ := frozen b u gb
      have first := (okG b _ gb).1
      have later := (okG2 b _ (unch.frzs b ob _ gb)).1
      rw [there] at first
      cases first
      exact later
/-- in the place of a def's promise at every place: asked at the caller's -/
theorem walk_asked {l : PySem.W.OpenLaw} {n : Nat} {q : Program} {loose : List Str} {XP : (Str → Option Value) → Heap → Prop} {YP : World → Heap → Prop} {d : DefRec} {K : Params → PySem.W.Frag}
    (most : l.most = some n) (fits : n ≤ sizeLine) (plainArgs : d.params.defaults = []) (hY : ∀ (w : World) (h : Heap), YP w h → (K w.params).In h)
    (F : ∀ (w : World) (mg : Str → Option Value) (fa a : Addr) (s : Shared) (ns : List Int), (K w.params).In s.heap → s.heap.Ns mainGlobals mg → mg d.name = some (.ref fa) → ns.length ≤ n → Asked l.prog w (K w.params) mg fa a ns s) :
    PySem.W.WalkO q loose XP YP l.row.toRowW d [] (fun f vs => PySem.call f vs) := by
  refine Att.attach_call most plainArgs fun w s₀ s mg bt fa o pm cd doc a us ns Gr Yh _ _ _ named obj entries len gens => ?_
  have inK := hY w _ Yh
  exact asked_all inK Gr.T.g Gr.T.b Gr.T.builtins Gr.T.nolimit gens obj entries (Nat.le_trans len fits) (F w mg fa a s ns inK Gr.T.g named len)
end Own
namespace Own2
open PySem PySem.Spec PyProof.Rows L2
/-! repr of nested data, or of None -/
def rShown2 (K : PySem.W.Frag) : List V → Hp → VK → Prop := fun xs H Q => Own.rShown K xs H Q ∨ (xs = [.non] ∧ Q (.str "None") H)
variable {X : Cx}
theorem repr_shown2 (free : X.A.guards = some []) (room : X.A.units + 64 < cLine) : CallR X (.builtin "repr") (rShown2 X.K) := by
  intro pn s0 sl G ys ws R J rel told
  rcases told with told | ⟨rfl, fin⟩
  · exact Own.repr_shown free room pn s0 sl G ys ws R J rel told
  · obtain ⟨w1, rfl, hw1⟩ := vals1 rel
    cases hw1
    exact PySem.P.repr_of_none ⟨.str "None", G, J.tok _, ⟨_, rfl⟩, fin⟩
end Own2
/-! range(a, b) of whole numbers of any size, walked, and its list -/
namespace RgW
open PySem PySem.Spec PyProof.Rows L2
abbrev rgObj (lo hi : Int) (t u v : Tok) : Obj := { cls := .type "range", data := .fields #[.int lo t, .int hi u, .int 1 v] }
abbrev goer (lo hi : Int) : Obj := { cls := .type "longrange_iterator", data := .fields #[rawInt lo, rawInt (Builtin.Range.rangeSize lo hi 1), rawInt 1] }
theorem size_nat (lo hi : Int) : Builtin.Range.rangeSize lo hi 1 = ((hi - lo).toNat : Int) := by
  rw [rangeSize_one]
  split <;> omega
section
variable {P : Program} {w : World} {A : Around} {E : Value → Shared → Prop} {st : Shared}
theorem extend_long {R : Result → Shared → Prop} {rr : Addr} {lo hi : Int} {t u v : Tok} (calm : A.handled = none) (isr : IsRange st.heap rr lo hi 1 t u v) (great : Builtin.Range.small lo hi 1 = false) (few : (hi - lo).toNat ≤ 2 ^ 24)
    (D : Addr) (ans : Value) (cap : Nat) (here : st.heap.get? D = some { cls := .type "list", data := .seq #[] cap })
    (go : ∀ g tk acc c2, (∀ b o, b ≠ D → st.heap.get? b = some o → g.get? b = some o) → g.get? D = some { cls := .type "list", dict := none, data := .seq acc c2, slots := #[] } → ItemsOf (fun i x => ∃ k, x = .int (lo + i * 1) k) acc (hi - lo).toNat → R (.ok (.ret ans)) { st with heap := g, toks := tk }) :
    wpAny (model P w) A.in1 (Builtin.List.listExtendWith (.ref D) (.ref rr) ans)
      (fun fin t2 => match fin with | .done f => R (.ok f) t2 | .again c2 => c2.quiet = true ∧ codeAny (model P w) A c2 R t2) (fun e t2 => R (.error e) t2) st := by
  have unlike : D ≠ rr := fun e => by
    rw [e, isr] at here
    simp at here
  have below := Heap.lt_size here
  have off : D ≠ st.heap.objs.size := Nat.ne_of_lt below
  have off1 : D ∉ [st.heap.objs.size] := fun z => off (List.mem_singleton.mp z)
  have walk := (Walks.longrange (prog := P) (w := w) (A := A.in1) calm st.heap.objs.size lo 1 (hi - lo).toNat).toS
  have rest : ∀ (g : Heap) (c1 tk : Nat), IsLongIter g st.heap.objs.size (lo + ((0 : Nat) : Int) * 1) (((hi - lo).toNat : Int) - ((0 : Nat) : Int)) 1 → (∀ b o, b ≠ D → st.heap.get? b = some o → g.get? b = some o) →
      g.get? D = some { cls := .type "list", data := .seq #[] c1 } → codeAny (model P w) A (.builtin "list.extend.loop" ⟨[.ref D, .ref st.heap.objs.size, ans], []⟩) R { st with heap := g, toks := tk } := by
    intro g c1 tk at0 keep there
    refine codeAny_extend_loopS walk (by rw [sizeLine_eq]; omega) D off1 ans (hi - lo).toNat 0 _ #[] c1 rfl (Nat.zero_le _) at0 there (ItemsOf.nil _) fun t2 acc c2 mv there2 items => ?_
    rw [Moved.eq_with mv]
    refine go t2.heap t2.toks acc c2 (fun b o nb e => mv.heap b o (fun z => ?_) (keep b o nb e)) there2 items
    rcases List.mem_cons.mp z with q | q
    · exact nb q
    · exact Nat.lt_irrefl _ (by have := Heap.lt_size e; rwa [List.mem_singleton.mp q] at this)
  unfold Builtin.List.listExtendWith
  refine wpAny_bind (wpAny_typeOf (T := "range") ⟨_, isr, rfl⟩ ?_)
  have n1 : Builtin.List.listSameRef (.ref D) (.ref rr) = false := by simp [Builtin.List.listSameRef, unlike]
  have n2 : (Value.type "range" == Value.type "list") = false := by decide
  have n3 : (Value.type "range" == Value.type "tuple") = false := by decide
  simp only [n1, n2, n3, Bool.or_false, Bool.false_eq_true, if_false]
  refine wpAny_bind (wpAny_pyIter_longrange isr great ?_)
  refine wpAny_bind (wpAny_holding (wpAny_hint_range (n := (hi - lo).toNat) (Heap.get?_push_of_some _ isr) (size_nat lo hi) few ?_))
  have first : IsLongIter (st.heap.push (goer lo hi)) st.heap.objs.size (lo + ((0 : Nat) : Int) * 1) (((hi - lo).toNat : Int) - ((0 : Nat) : Int)) 1 := by
    show IsLongIter _ _ _ _ _
    have e1 : lo + ((0 : Nat) : Int) * 1 = lo := by simp
    have e2 : ((hi - lo).toNat : Int) - ((0 : Nat) : Int) = Builtin.Range.rangeSize lo hi 1 := by rw [size_nat]; omega
    rw [e1, e2]
    exact Heap.get?_push_size _ rfl
  have there1 := Heap.get?_push_of_some (goer lo hi) here
  refine wpAny_ite_split (fun _ => ?_) (fun _ => wpAny_pure ⟨plainId_quiet F.plain_extend_loop _, rest _ cap _ first (fun b o _ e => Heap.get?_push_of_some _ e) there1⟩)
  refine wpAny_bind (wpAny_rule (wpAny_bind ?_))
  show wpAny _ _ (updateSeq D (·.push .none) >>= fun _ => updateSeq D (·.pop)) _ _ _
  refine wpAny_bind (wpAny_updateSeq there1 rfl ?_)
  have there2 := Heap.get?_update_self (Obj.mapSeq (·.push Value.none)) there1 rfl
  refine wpAny_updateSeq (hz := by seq_fits) there2 rfl ?_
  have there3 := Heap.get?_update_self (Obj.mapSeq (·.pop)) there2 rfl
  refine wpAny_pure ⟨plainId_quiet F.plain_extend_loop _, rest _ _ _ ?_ (fun b o nb e => ?_) there3⟩
  · exact (Heap.get?_update_other _ _ off).trans ((Heap.get?_update_other _ _ off).trans first)
  · exact (Heap.get?_update_other _ _ nb.symm).trans ((Heap.get?_update_other _ _ nb.symm).trans (Heap.get?_push_of_some _ e))
theorem init_long {R : Result → Shared → Prop} {rr : Addr} {lo hi : Int} {t u v : Tok} (calm : A.handled = none) (isr : IsRange st.heap rr lo hi 1 t u v) (great : Builtin.Range.small lo hi 1 = false) (few : (hi - lo).toNat ≤ 2 ^ 24)
    (D : Addr) (here : st.heap.get? D = some { cls := .type "list", data := .seq #[] })
    (go : ∀ g tk acc c2, (∀ b o, b ≠ D → st.heap.get? b = some o → g.get? b = some o) → g.get? D = some { cls := .type "list", dict := none, data := .seq acc c2, slots := #[] } → ItemsOf (fun i x => ∃ k, x = .int (lo + i * 1) k) acc (hi - lo).toNat → R (.ok (.ret .none)) { st with heap := g, toks := tk }) :
    wpAny (model P w) A.in1 (Builtin.«list.__init__» ⟨[.ref D, .ref rr], []⟩)
      (fun fin t2 => match fin with | .done f => R (.ok f) t2 | .again c2 => c2.quiet = true ∧ codeAny (model P w) A c2 R t2) (fun e t2 => R (.error e) t2) st := by
  have unlike : rr ≠ D := fun e => by
    rw [← e, isr] at here
    simp at here
  show wpAny _ _ (do let old ← Builtin.List.listItems (.ref D); Builtin.List.listUpdate (.ref D) (fun _ => #[]); letGo old.toList.reverse; Builtin.List.listExtendWith (.ref D) (.ref rr) .none) _ _ st
  refine wpAny_bind ?_
  unfold Builtin.List.listItems
  refine wpAny_bind (wpAny_seqItems here rfl (wpAny_pure ?_))
  show wpAny _ _ (updateSeq D (fun _ => #[]) >>= fun _ => letGo (#[] : Array Value).toList.reverse >>= fun _ => Builtin.List.listExtendWith (.ref D) (.ref rr) .none) _ _ st
  refine wpAny_bind (wpAny_updateSeq here rfl ?_)
  have there := Heap.get?_update_self (Obj.mapSeq (fun _ => (#[] : Array Value))) here rfl
  have same : ∀ b o, b ≠ D → st.heap.get? b = some o → (st.heap.update D (Obj.mapSeq (fun _ => (#[] : Array Value)))).get? b = some o := fun b o nb e => (Heap.get?_update_other _ _ nb.symm).trans e
  exact wpAny_bind (wpAny_letGo (extend_long calm (same rr _ unlike isr) great few D .none _ there fun g tk acc c2 keep new items => go g tk acc c2 (fun b o nb e => keep b o nb (same b o nb e)) new items))
theorem list_long {W : Value → Shared → Prop} {rr : Addr} {lo hi : Int} {t u v : Tok} (calm : A.handled = none) (isr : IsRange st.heap rr lo hi 1 t u v) (great : Builtin.Range.small lo hi 1 = false) (few : (hi - lo).toNat ≤ 2 ^ 24)
    (go : ∀ g tk acc c2, (∀ b o, st.heap.get? b = some o → g.get? b = some o) → g.get? st.heap.objs.size = some { cls := .type "list", dict := none, data := .seq acc c2, slots := #[] } → ItemsOf (fun i x => ∃ k, x = .int (lo + i * 1) k) acc (hi - lo).toNat → W (.ref st.heap.objs.size) { st with heap := g, toks := tk }) :
    wpAny (model P w) A (call (.type "list") [.ref rr]) W E st := by
  refine callType_codes (Q₁ := fun ob t1 => ob = .ref st.heap.objs.size ∧ t1 = { st with heap := st.heap.push { cls := .type "list", data := .seq #[] } }) F.called_list (F.typeCall_list_1 _) F.entry_list_init (code_list_new _ ⟨rfl, rfl⟩) fun ob t1 got => ?_
  obtain ⟨rfl, rfl⟩ := got
  have here : (st.heap.push { cls := .type "list", data := .seq #[] }).get? st.heap.objs.size = some { cls := .type "list", data := .seq #[] } := Heap.get?_push_size _ rfl
  exact ⟨⟨_, here, rfl⟩, F.args_list_init_2 _ _, init_long (A := A.in1) calm (Heap.get?_push_of_some _ isr) great few _ here fun g tk acc c2 keep new items => ⟨rfl, go g tk acc c2 (fun b o e => keep b o (Nat.ne_of_lt (Heap.lt_size e)) (Heap.get?_push_of_some _ e)) new items⟩⟩
end
theorem turn_long {P : Program} {w : World} {K : PySem.W.Frag} {tg : Expr} (it : Addr) (lo : Int) (n : Nat) : Turn P w K tg (Itr lo n) [it] it (fun i g => IsLongIter g it (lo + (i : Nat) * 1) ((n : Int) - (i : Nat)) 1) where
  mem := List.mem_singleton_self _
  obj := fun i g at_ b hb => by
    rw [List.mem_singleton.mp hb]
    exact ⟨_, at_, fun v z => by
      have q : Data.fields _ = Data.cell v := z
      cases q⟩
  keep := fun i g g2 at_ same => same it (List.mem_singleton_self _) _ at_
  item := by
    intro X eP ew eK calm i pins s σ H E I fp at_ more
    subst eP ew eK
    obtain ⟨f0, f1, f2, f3, f4, f5⟩ := fp it (List.mem_singleton_self _)
    refine (Walks.longrange (prog := X.prog) (w := X.w) (I.ok.hd calm) it lo 1 n).item i s _ _ more at_ fun x g tk isx at2 same => ?_
    obtain ⟨k, rfl⟩ := isx
    have J : Inv X pins σ H { s with heap := g, toks := tk } := I.turned (fun b o nb e => same b o (by simpa using nb) e) f0 f1 f3 f4 f5
    exact ⟨_, rfl, go_of (s := { s with heap := g, toks := tk }) (n := "longrange_iterator") at2 rfl rfl (by decide) ⟨.int (lo + i), H, J, ⟨k, by rw [Int.mul_one]⟩, ⟨rfl, rfl⟩, at2, fun b hb => (fp b hb).1⟩⟩
  done := by
    intro X eP ew eK calm i pins s σ H E I fp at_ over
    subst eP ew eK
    obtain ⟨f0, f1, f2, f3, f4, f5⟩ := fp it (List.mem_singleton_self _)
    exact wpAny_pyNext_long_end (I.ok.hd calm) at_ (by have : n ≤ i := over; omega) fun g same => ⟨rfl, I.turned (t' := s.toks) (fun b o nb e => same b o nb e) f0 f1 f3 f4 f5⟩
  self := fun _ _ _ _ _ at_ got => wpAny_pyIter_longiter at_ got
section
variable {X : Cx} {tg : Expr}
theorem walk_any {pins : List (Addr × Obj)} {σ : L2.St} {H : Hp} {s : Shared} {R : It → Hp → Prop} {E : Value → Shared → Prop} {lo hi : Int} {t u v : Tok} {tk : Nat} (I : Inv X pins σ H s) (q : R (Itr lo (hi - lo).toNat) H) :
    wpAny (model X.prog X.w) X.A (pyIter (.ref s.heap.objs.size)) (PIE X pins σ tg R) E { s with heap := s.heap.push (rgObj lo hi t u v), toks := tk } := by
  have J : Inv X pins σ H { s with heap := s.heap.push (rgObj lo hi t u v), toks := tk } := I.kept fun b o e => Heap.get?_push_of_some _ e
  have own : ∀ b ∈ [(s.heap.push (rgObj lo hi t u v)).objs.size], FpOk X pins H b := fun b hb => by
    rw [List.mem_singleton.mp hb]
    exact J.fpOk (Nat.le_refl _) (J.hok.fresh (Nat.le_refl _))
  have e1 : lo + ((0 : Nat) : Int) * 1 = lo := by simp
  have e2 : (((hi - lo).toNat : Nat) : Int) - ((0 : Nat) : Int) = Builtin.Range.rangeSize lo hi 1 := by rw [size_nat]; omega
  by_cases little : Builtin.Range.small lo hi 1 = true
  · refine wpAny_pyIter_range (IsRange.new ..) little ⟨_, _, _, _, H, rfl, J.kept (t' := tk) fun b o e => Heap.get?_push_of_some _ e, turn_range _ lo (hi - lo).toNat, ?_, own, q⟩
    show IsRangeIter _ _ (lo + ((0 : Nat) : Int) * 1) ((((hi - lo).toNat : Nat) : Int) - ((0 : Nat) : Int)) 1
    rw [e1, e2]
    exact Heap.get?_push_size _ rfl
  · refine wpAny_pyIter_longrange (IsRange.new ..) (Bool.eq_false_iff.mpr little) ⟨_, _, _, _, H, rfl, J.kept (t' := tk) fun b o e => Heap.get?_push_of_some _ e, turn_long _ lo (hi - lo).toNat, ?_, own, q⟩
    show IsLongIter _ _ (lo + ((0 : Nat) : Int) * 1) ((((hi - lo).toNat : Nat) : Int) - ((0 : Nat) : Int)) 1
    rw [e1, e2]
    exact Heap.get?_push_size _ rfl
def iRngW (ta : TA) : TI := fun σ H R => ta σ H fun vs H1 => ∃ i j : Int, vs = [.int i, .int j] ∧ R (Itr i (j - i).toNat) H1
theorem pi_rangeW {a b : Expr} {ta : TA} {p pos : Pos} (hg : Gl X "range") (hm : X.mg "range" = none) (ha : PA X [a, b] ta) (hs : starEach [a, b] X.env = [(false, eval a X.env), (false, eval b X.env)] := by rfl) (hs2 : starEach [b] X.env = [(false, eval b X.env)] := by rfl) :
    PI X tg (.Call (.Name "range" p) [a, b] [] pos) (iRngW ta) := by
  refine ⟨fun pins s σ H R I want => ?_⟩
  refine Call_ (ld_blt I hg hm boot_range (PyProof.Rows.callWith_type1 (thn (ha.run pos pins s σ H _ I want) fun us s1 ⟨vs, H1, I1, r1, i, j, e, q⟩ => ?_) (by rw [hs, hs2]) (by rw [hs2]; rfl)))
  subst e
  cases r1 with
  | cons k1 rest =>
    cases rest with
    | cons k2 none_ =>
      cases none_
      obtain ⟨tok1, rfl⟩ := k1
      obtain ⟨tok2, rfl⟩ := k2
      exact call_range_2 (walk_any I1 q)
variable {e : Expr} {te : L2.St → Hp → (Int → Int → Hp → Prop) → Prop}
def tLstRgW (te : L2.St → Hp → (Int → Int → Hp → Prop) → Prop) : TE := fun σ H Q => te σ H fun a b H1 => (b - a).toNat ≤ 2 ^ 24 ∧ ∀ q, H1 q = none → Q (.ref q) (upd H1 q (.lst (rgV a b)))
theorem pe_listRgW {p pos : Pos} (hc : X.calm = true) (hg : Gl X "list") (hm : X.mg "list" = none) (he : PRg X e te) (na : starEach [e] X.env = (false, eval e X.env) :: starEach [] X.env := by rfl) : PE X (.Call (.Name "list" p) [e] [] pos) (tLstRgW te) := by
  refine ⟨fun pins s σ H Q I want => ?_⟩
  refine Call_ (ld_blt I hg hm boot_list (PyProof.Rows.callWith_type1 (args_cons (thn (he pins s σ H _ I want) fun x s1 ⟨r, a, b, t, u, v, H1, ex, isr, I1, few, q⟩ => args_nil ?_) na) na))
  subst ex
  have fin : ∀ (g : Heap) (tk : Nat) (acc : Array Value) (c2 : Nat), (∀ b o, s1.heap.get? b = some o → g.get? b = some o) → g.get? s1.heap.objs.size = some { cls := .type "list", dict := none, data := .seq acc c2, slots := #[] } → ItemsOf (fun i x => ∃ k, x = .int (a + i * 1) k) acc (b - a).toNat → EP X pins σ Q (.ref s1.heap.objs.size) { s1 with heap := g, toks := tk } := fun g tk acc c2 keep new items =>
    ⟨.ref s1.heap.objs.size, upd H1 s1.heap.objs.size (.lst (rgV a b)), I1.laid keep (Nat.le_refl _) (show ObjOk X.prog X.w _ _ _ (.lst (rgV a b)) from ⟨by rw [rgV_length, sizeLine_eq]; omega, acc.toList, c2, vals_rg items, by rw [Array.toArray_toList]; exact new⟩), rfl, q _ (I1.hok.fresh (Nat.le_refl _))⟩
  by_cases little : Builtin.Range.small a b 1 = true
  · exact call_list_range (n := (b - a).toNat) (I1.ok.hd hc) isr little (size_nat a b) few fin
  · exact list_long (I1.ok.hd hc) isr (Bool.eq_false_iff.mpr little) few fin
end
end RgW
/-! all lists of choices, in their order; halves -/
namespace Ls
open PySem PySem.Spec PyProof.Rows
open L2
def grow (told : List (List Int)) (some : List Int) : List (List Int) := told.flatMap fun a => some.map fun o => a ++ [o]
def allL (cs : List (List Int)) : List (List Int) := cs.foldl grow [[]]
theorem allL_snoc (cs : List (List Int)) (c : List Int) : allL (cs ++ [c]) = grow (allL cs) c := by
  unfold allL
  rw [List.foldl_append]
  rfl
theorem grow_len (told : List (List Int)) (some : List Int) : (grow told some).length = told.length * some.length := by
  unfold grow
  induction told with
  | nil => simp
  | cons a told ih => rw [List.flatMap_cons, List.length_append, ih, List.length_map, List.length_cons, Nat.add_mul, Nat.one_mul, Nat.add_comm]
theorem allL_len {b : Nat} {cs : List (List Int)} (h : ∀ c ∈ cs, c.length ≤ b) : (allL cs).length ≤ b ^ cs.length := by
  have key : ∀ (n : Nat) (cs : List (List Int)), cs.length = n → (∀ c ∈ cs, c.length ≤ b) → (allL cs).length ≤ b ^ n := by
    intro n
    induction n with
    | zero =>
      intro cs hl _
      rw [List.length_eq_zero_iff.mp hl]
      exact Nat.le_refl _
    | succ n ih =>
      intro cs hl h
      have ne : cs ≠ [] := fun z => by rw [z] at hl; cases hl
      have e := (List.dropLast_concat_getLast ne).symm
      rw [e] at hl h ⊢
      rw [List.length_append] at hl
      rw [allL_snoc, grow_len, Nat.pow_succ]
      exact Nat.mul_le_mul (ih _ (by simp at hl ⊢; omega) fun c hc => h c (List.mem_append_left _ hc)) (h _ (List.mem_append_right _ (List.mem_singleton_self _)))
  exact key _ cs rfl h
theorem allL_each : ∀ (n : Nat) (cs : List (List Int)), cs.length = n → ∀ z ∈ allL cs, Paired (fun (y : Int) (c : List Int) => y ∈ c) z cs := by
  intro n
  induction n with
  | zero =>
    intro cs hl z hz
    rw [List.length_eq_zero_iff.mp hl] at hz ⊢
    rw [show allL [] = [[]] from rfl] at hz
    rw [List.mem_singleton.mp hz]
    exact .nil
  | succ n ih =>
    intro cs hl z hz
    have ne : cs ≠ [] := fun z => by rw [z] at hl; cases hl
    have e := (List.dropLast_concat_getLast ne).symm
    rw [e] at hl hz ⊢
    rw [List.length_append] at hl
    rw [allL_snoc] at hz
    unfold grow at hz
    obtain ⟨a, ha, hz⟩ := List.mem_flatMap.mp hz
    obtain ⟨o, ho, rfl⟩ := List.mem_map.mp hz
    exact Paired.snoc (ih _ (by simp at hl ⊢; omega) a ha) ho
def rg (lo hi : Int) : List Int := (List.range (hi - lo).toNat).map fun i : Nat => lo + (i : Int)
theorem rg_mem {lo hi z : Int} (h : z ∈ rg lo hi) : lo ≤ z ∧ z < hi := by
  unfold rg at h
  obtain ⟨i, hi, rfl⟩ := List.mem_map.mp h
  have := List.mem_range.mp hi
  omega
theorem rg_len (lo hi : Int) : (rg lo hi).length = (hi - lo).toNat := by
  unfold rg
  rw [List.length_map, List.length_range]
def hv (x : Int) : List Int := rg (x / 2) (x - x / 2 + 1)
theorem hv_len (x : Int) : (hv x).length ≤ 2 := by
  unfold hv
  rw [rg_len]
  omega
theorem hv_mem {x z : Int} (h : z ∈ hv x) : x / 2 ≤ z ∧ z ≤ x - x / 2 := by
  have := rg_mem h
  omega
theorem hv_law (x : Int) : hv x = rg (x / 2) (x / 2 + x % 2 + 1) := by
  unfold hv
  congr 1
  omega
def dot (r s : List Int) : Int := (List.zipWith (· * ·) r s).sum
def totals (rows : List (List Int)) (zs : List Int) : List Int := rows.map fun r => dot r zs
def small1 (t : Int) : Bool := decide (t = -1 ∨ t = 0 ∨ t = 1)
def smallB (ts : List Int) : Bool := ts.all small1
def otherOf (xs zs : List Int) : List Int := List.zipWith (fun x z => x - z) xs zs
def gapsOf (xs zs : List Int) : List Int := List.zipWith (fun z y => z - y) zs (otherOf xs zs)
def halfOk (rows : List (List Int)) (xs zs : List Int) : Bool := smallB (totals rows (gapsOf xs zs))
def halfOf (rows : List (List Int)) (xs : List Int) : Option (List Int) := (allL (xs.map hv)).find? (halfOk rows xs)
def absI (y : Int) : Int := if y < 0 then -y else y
theorem small_max {ts : List Int} {m : Int} (h : ts ≠ []) (hm : m ∈ ts.map absI) (hle : ∀ y ∈ ts.map absI, y ≤ m) : decide (m ≤ 1) = smallB ts := by
  unfold smallB
  rw [Bool.eq_iff_iff, decide_eq_true_eq, List.all_eq_true]
  refine ⟨fun h1 t ht => ?_, fun h1 => ?_⟩
  · have := hle (absI t) (List.mem_map.mpr ⟨t, ht, rfl⟩)
    unfold absI at this
    unfold small1
    rw [decide_eq_true_eq]
    split at this <;> omega
  · obtain ⟨t, ht, rfl⟩ := List.mem_map.mp hm
    have := h1 t ht
    unfold small1 at this
    rw [decide_eq_true_eq] at this
    unfold absI
    split <;> omega
theorem find_at {α : Type} {p : α → Bool} : ∀ {l : List α} {i : Nat} {z : α}, (∀ y ∈ l.take i, p y = false) → l[i]? = some z → p z = true → l.find? p = some z
  | y :: l, 0, z, _, h, hp => by
    cases h
    rw [List.find?_cons, hp]
  | y :: l, i + 1, z, h0, h, hp => by
    rw [List.find?_cons, h0 y (by rw [List.take_succ_cons]; exact .head _)]
    exact find_at (i := i) (fun q hq => h0 q (by rw [List.take_succ_cons]; exact .tail _ hq)) h hp
theorem find_no {α : Type} {p : α → Bool} {l : List α} (h : ∀ y ∈ l, p y = false) : l.find? p = none := by
  rw [List.find?_eq_none]
  intro y hy z
  rw [h y hy] at z
  cases z
theorem take_more {α : Type} {p : α → Bool} {l : List α} {i : Nat} {z : α} (h : ∀ y ∈ l.take i, p y = false) (hz : l[i]? = some z) (hp : p z = false) : ∀ y ∈ l.take (i + 1), p y = false := fun y hy => by
  rw [List.take_add_one, hz] at hy
  rcases List.mem_append.mp hy with q | q
  · exact h y q
  · have : y = z := by simpa using q
    rw [this]
    exact hp
end Ls
/-! {xs} in an f-string, xs a list of whole numbers: some bounded text -/
namespace PySem
open Sem PySem.Spec PyProof.Rows
section
variable {prog : Program} {w : World} {A : Around} {E : Value → Shared → Prop} {s : Shared}
theorem fml_head {M : Model} {Q : Fin → Shared → Prop} {a : Addr} {o : Obj} {x : Value} {l : List Value} {n b : Nat} (hget : s.heap.get? a = some o) (hd : o.data = .seq (x :: l).toArray n)
    (h : wpAny M A (do again (.builtin "list.__repr__.loop" ⟨[.ref a, rawInt 0, ← newList [], rawInt b], []⟩)) Q E s) (h2 : Q (.done (.ret (.str "[...]" s.toks))) { s with toks := s.toks + 1 }) : wpAny M A (Builtin.listReprAt b ⟨[.ref a], []⟩) Q E s := by
  intro Γ p hΓ
  have h1 := h Γ p hΓ
  unfold Builtin.listReprAt
  simp [slotArgs, Builtin.List.listItems, seqItems?, wp_load_of (h := hget), hd, stack]
  show wp M Γ (if (Γ.below.any _) = true then _ else _) _ _ p s
  split
  · simp [rule, retStr, ret]
    exact h2
  · exact h1
theorem fml_way : ("[...]" : Str).length ≤ 5 := by decide +kernel
/-- list.__repr__, whatever is under way -/
theorem fml_repr {a : Addr} {oa : Obj} {x : Value} {l : List Value} {na : Nat} {ts : List Str} {Q : Value → Shared → Prop} (hTy : s.TypeIs (.ref a) "list") (ha : s.heap.get? a = some oa) (hda : oa.data = .seq (x :: l).toArray na) (hlen : ts.length = (x :: l).toArray.size)
    (hT : ∀ (i : Nat) (y : Value), (x :: l).toArray[i]? = some y → ∃ t, ts[i]? = some t ∧ ReprIs prog w y t) (hsz : (listText ts).length ≤ sizeLine)
    (h : ∀ (m : Str) (h' : Heap) (u tk : Tok), m.length ≤ (listText ts).length + 5 → (∀ b o, s.heap.get? b = some o → h'.get? b = some o) → Q (.str m u) { s with heap := h', toks := tk }) : wpAny (model prog w) A (call (.builtin "list.__repr__") [.ref a]) Q E s := by
  refine wpAny_call (codeAny_call_builtin F.slot_list_repr.plain F.entry_list_repr (F.slot_list_repr.check _ _ _ _ _ _ _ _ hTy (F.args_list_repr_1 _) ?_))
  refine fml_head (A := A.in1) ha hda ?_ ?_
  · refine wpAny_bind (m := newList []) (wpAny_newObj_type ?_)
    refine wpAny_pure ⟨F.quiet_list_repr_loop _, ?_⟩
    refine codeAny_list_repr_start (P := s.heap.objs.size) (b := 0) (Nat.ne_of_lt (Heap.lt_size ha)) hlen hT (Heap.get?_push_of_some _ ha) hda (Heap.get?_push_size _ rfl) (fun h' u tk hk => ?_) (by omega)
    exact h _ h' u tk (Nat.le_add_right _ _) fun b o e => hk b o (Nat.ne_of_lt (Heap.lt_size e)) (Heap.get?_push_of_some _ e)
  · exact h _ s.heap _ _ (Nat.le_trans fml_way (Nat.le_add_left _ _)) fun b o e => e
theorem fml_field {a : Addr} {oa : Obj} {x : Value} {l : List Value} {na : Nat} {ts : List Str} {Q : Value → Shared → Prop} (hu : A.units + 2 < cLine) (hTy : s.TypeIs (.ref a) "list") (ha : s.heap.get? a = some oa) (hda : oa.data = .seq (x :: l).toArray na) (hlen : ts.length = (x :: l).toArray.size)
    (hT : ∀ (i : Nat) (y : Value), (x :: l).toArray[i]? = some y → ∃ t, ts[i]? = some t ∧ ReprIs prog w y t) (hsz : (listText ts).length ≤ sizeLine)
    (h : ∀ (m : Str) (h' : Heap) (u tk : Tok), m.length ≤ (listText ts).length + 5 → (∀ b o, s.heap.get? b = some o → h'.get? b = some o) → Q (.str m u) { s with heap := h', toks := tk }) : wpAny (model prog w) A (formatField (.ref a) Str.empty) Q E s :=
  wpAny_formatField_slot (fun _ _ => nofun) hu hTy F.slot_list_format F.slot_list_str F.slot_list_repr.toG
    (fml_repr (s := { s with toks := s.toks + 1 }) hTy ha hda hlen hT hsz fun m h' u tk hm hk => ⟨m, u, rfl, h m h' u tk hm hk⟩)
end
end PySem
namespace L2
open PySem PySem.Spec PyProof.Rows
section
variable {X : Cx}
def tFmtL (K : PySem.W.Frag) (te : TE) : TE := fun σ H Q => te σ H fun x H1 => ∃ (a : Addr) (ns : List Int), x = .ref a ∧ SqL K H1 a (ns.map V.int) ∧ ns ≠ [] ∧ ns.length ≤ 100 ∧ (∀ y ∈ ns, y.natAbs.log2 < 1920) ∧ ∀ m : Str, m.length ≤ 200000 → Q (.str m) H1
theorem fml_text {i : Int} (h : i.natAbs.log2 < 1920) : (Str.ofString (toString i)).length ≤ 1000 := by
  have h2 : i.natAbs < 10 ^ 600 := by
    by_cases z : i.natAbs = 0
    · rw [z]; decide +kernel
    · exact Nat.lt_of_lt_of_le ((Nat.log2_lt z).mp h) (by decide +kernel)
  have e := PySem.int_text_length_le10 (k := 600) (by decide) h2
  rw [PySem.ofString_length]
  omega
theorem fml_from : ∀ (ts : List Str) (k : Nat) (acc : Str), (∀ t ∈ ts, t.length ≤ 1000) → (textFrom k acc ts).length ≤ acc.length + ts.length * 1002
  | [], k, acc, _ => by show acc.length ≤ _; omega
  | t :: ts, k, acc, h => by
    have h1 := h t (List.mem_cons_self ..)
    have h2 := fml_from ts (k + 1) (acc ++ (if k > 0 then ", " else "" : String) ++ t) fun u hu => h u (List.mem_cons_of_mem _ hu)
    have h3 : (((if k > 0 then ", " else "" : String) : Str)).length ≤ 2 := by split <;> decide +kernel
    rw [Str.length_append, Str.length_append] at h2
    rw [List.length_cons]
    show (textFrom (k + 1) (acc ++ (if k > 0 then ", " else "" : String) ++ t) ts).length ≤ _
    omega
theorem pe_fmtL {e : Expr} {te : TE} {pos : Pos} {k : Nat} (hr : Room k X.A) (he : PE X e te) : PE X (.FormattedValue e (-1) none pos) (tFmtL X.K te) := by
  refine ⟨fun pins s σ H Q I h => ?_⟩
  refine wpAny_FormattedValue_plain (thn (he.run pins s σ H _ I h) fun v s1 hv => ?_)
  obtain ⟨x, H1, I1, r1, a, ns, rfl, ht, hne, hl, hb, q⟩ := hv
  cases r1
  obtain ⟨its, rv, ⟨o, n, ho, hcl, _, hd⟩, _⟩ := I1.list ht
  have hu := hr.units
  have il := rv.length
  rw [List.length_map] at il
  obtain ⟨u0, us, rfl⟩ : ∃ u0 us, its = u0 :: us := by
    cases its with
    | nil => exact absurd (List.length_eq_zero_iff.mp (il.trans rfl)) hne
    | cons u us => exact ⟨u, us, rfl⟩
  have hz : (listText (ns.map fun i => Str.ofString (toString i))).length ≤ 100300 := by
    have := fml_from (ns.map fun i => Str.ofString (toString i)) 0 "[" fun t ht => by
      obtain ⟨i, hi, rfl⟩ := List.mem_map.mp ht
      exact fml_text (hb i hi)
    rw [List.length_map] at this
    have e1 : ("[" : Str).length = 1 := by decide +kernel
    have e2 : ("]" : Str).length = 1 := by decide +kernel
    unfold listText
    rw [Str.length_append, e2]
    omega
  refine fml_field (ts := ns.map fun i => Str.ofString (toString i)) (by omega) ⟨o, ho, hcl⟩ ho hd (by rw [List.length_map, List.size_toArray]; exact il) (fun i y hy => ?_) (Nat.le_trans hz (by decide)) fun m h' u tk hm hk => ⟨.str m, H1, I1.kept (t' := tk) hk, ⟨u, rfl⟩, q m (by omega)⟩
  rw [List.getElem?_toArray] at hy
  have lt := (List.getElem?_eq_some_iff.mp hy).1
  have hz : ns[i]? = some ns[i] := List.getElem?_eq_getElem (by omega)
  obtain ⟨u, hu2, r⟩ := rv.get (i := i) (x := .int ns[i]) (by rw [List.getElem?_map, hz]; rfl)
  rw [hy] at hu2
  cases hu2
  obtain ⟨t, rfl⟩ := r
  exact ⟨_, by rw [List.getElem?_map, hz]; rfl, ReprIs.int t (hb _ (List.mem_of_getElem? hz))⟩
end
end L2
namespace L2
open PySem PySem.Spec PyProof.Rows PySem.SbE
/-- isinstance(e, (c1, c2, ..)), e the exception that the suite holds, with fields or without -/
def rIsAT (K : PySem.W.Frag) (cls : Value) (d : Option Addr) (a : Addr) : List V → Hp → VK → Prop := fun xs H Q => ∃ (D tp : Addr) (cs : List V) (us : List Value) (b : Bool), cls = .ref D ∧ ExcC K D ∧ xs = [.ref a, .ref tp] ∧ H tp = some (.tup cs) ∧ Paired ClsV cs us ∧ PySem.W.kitAny K (.ref D) us = some b ∧
  (d = none ∨ ∃ dd fs, d = some dd ∧ H dd = some (.xd fs)) ∧ Q (.bl b) H
theorem call_isAT {X : Cx} {a : Addr} {cls : Value} {d : Option Addr} {oe : Obj} {pn : List (Addr × Obj)} (hz : Zc cls d oe) (hf : ∃ vs, oe.data = .fields vs) : CallR (X.suite a ((a, oe) :: pn)) (.builtin "isinstance") (rIsAT X.K cls d a) := by
  intro pins s σ H xs us Q I r h
  obtain ⟨D, tp, cs, ws, b, ec, C, ex, hT, k, e, hd, q⟩ := h
  subst ec ex
  obtain ⟨u1, u2, rfl, r1, r2⟩ := vals2 r
  cases (show u1 = Value.ref a from r1)
  cases (show u2 = Value.ref tp from r2)
  obtain ⟨at_, _⟩ := I.pin (a, oe) (List.mem_append.mpr (.inl List.mem_cons_self))
  obtain ⟨vs, hv⟩ := hf
  have nc : PySem.W.notCls oe = true := by
    unfold PySem.W.notCls
    rw [hv] <;> rfl
  obtain ⟨od, J⟩ : ∃ od, PySem.W.InstAt s.heap a oe D od := by
    rcases hd with hd | ⟨dd, fs, hd, hx⟩
    · exact ⟨none, at_, hz.1, nc, by rw [hz.2, hd]; trivial⟩
    · have hok : ObjOk X.prog X.w H s.heap dd (.xd fs) := I.hok dd _ hx
      obtain ⟨mA, hns, _⟩ := hok
      obtain ⟨od, ho, _⟩ := lookIn_ns hns
      exact ⟨some od, at_, hz.1, nc, by rw [hz.2, hd]; exact ho⟩
  obtain ⟨_, its, rv, o, h1, h2, n, h3⟩ := (show ObjOk X.prog X.w H s.heap tp (.tup cs) from I.hok tp _ hT)
  have e3 := ClsV.all k rv
  subst e3
  obtain ⟨oc, od2, dt, sl⟩ := o
  simp only at h2 h3
  subst h2 h3
  exact PySem.W.kia_tup (kit_exc C.hg C.hk C.hs C.hd C.ha C.hn C.ht C.hm) I.kIn J h1 e (fun z => nomatch z) fun tk => ⟨.bl b, H, I.kept (t' := tk) fun _ _ z => z, rfl, q⟩
open Evl in
theorem ev_isAT {K : PySem.W.Frag} {σ : L2.St} {H : Hp} {ta : TE} {tb : TA} {a D dd : Addr} {fs : List (Str × V)} {cs : List V} {us : List Value} {b : Bool} (ha : Ev ta σ H (.ref a)) (hb : EvU (tTup tb) σ H cs) (ec : ExcC K D) (hk : Paired ClsV cs us) (hy : PySem.W.kitAny K (.ref D) us = some b) (hd : H dd = some (.xd fs)) :
    Ev (tCB (rIsAT K (.ref D) (some dd) a) (tCons ta (tCons (tTup tb) tNil))) σ H (.bl b) := fun H1 e Q q =>
  ha H1 e _ fun H2 e2 => hb H2 (e.trans e2) _ fun t H3 nt e3 ht => ⟨D, t, cs, us, b, rfl, ec, rfl, ht, hk, hy, .inr ⟨dd, fs, rfl, ((e.trans e2).trans e3) _ _ hd⟩, q H3 (e2.trans e3)⟩
end L2
namespace SbE17
open PySem PySem.Spec PyProof.Rows L2 Evl HT LamX PySem.SbE
/-! ### the text -/
def topS (i : Nat) : Stmt := PySem.Challenge.pw_signbook_k17_books.main.body.getD i (.Pass ⟨0, 0, 0, 0⟩)
def clsB : Stmt → List Stmt
  | .ClassDef (body := b) .. => b
  | _ => []
abbrev s_init_NoPick : Stmt := (clsB (topS 5)).getD 0 (.Pass ⟨0, 0, 0, 0⟩)
theorem sc_init_NoPick : FnScope ["self", "at"] ["self", "at"] (defScope s_init_NoPick) := ⟨rfl, rfl, rfl, by decide +kernel, rfl, by decide +kernel, by decide +kernel⟩
abbrev s_init_NotWhole : Stmt := (clsB (topS 6)).getD 0 (.Pass ⟨0, 0, 0, 0⟩)
theorem sc_init_NotWhole : FnScope ["self", "rows"] ["self", "rows"] (defScope s_init_NotWhole) := ⟨rfl, rfl, rfl, by decide +kernel, rfl, by decide +kernel, by decide +kernel⟩
abbrev s_is_whole : Stmt := topS 8
theorem sc_is_whole : FnScope ["thing"] ["thing"] (defScope s_is_whole) := ⟨rfl, rfl, rfl, by decide +kernel, rfl, by decide +kernel, by decide +kernel⟩
abbrev s_is_table : Stmt := topS 11
theorem sc_is_table : FnScope ["thing", "row"] ["thing"] (defScope s_is_table) := ⟨rfl, rfl, rfl, by decide +kernel, rfl, by decide +kernel, by decide +kernel⟩
abbrev s_is_row : Stmt := topS 12
theorem sc_is_row : FnScope ["thing", "entry"] ["thing"] (defScope s_is_row) := ⟨rfl, rfl, rfl, by decide +kernel, rfl, by decide +kernel, by decide +kernel⟩
abbrev s_check_table : Stmt := topS 13
theorem sc_check_table : FnScope ["thing"] ["thing"] (defScope s_check_table) := ⟨rfl, rfl, rfl, by decide +kernel, rfl, by decide +kernel, by decide +kernel⟩
abbrev s_first_signs : Stmt := topS 15
theorem sc_first_signs : FnScope ["table", "rows", "ways", "row", "signs", "totals", "sign", "total", "entry"] ["table", "rows"] (defScope s_first_signs) := ⟨rfl, rfl, rfl, by decide +kernel, rfl, by decide +kernel, by decide +kernel⟩
abbrev s_are_small : Stmt := topS 16
theorem sc_are_small : FnScope ["totals", "total"] ["totals"] (defScope s_are_small) := ⟨rfl, rfl, rfl, by decide +kernel, rfl, by decide +kernel, by decide +kernel⟩
abbrev s_book : Stmt := topS 17
theorem sc_book : FnScope ["table", "told", "rows", "signs"] ["table"] (defScope s_book) := ⟨rfl, rfl, rfl, by decide +kernel, rfl, by decide +kernel, by decide +kernel⟩
abbrev s_picks : Stmt := topS 18
theorem sc_picks : FnScope ["many", "size", "pick"] ["many"] (defScope s_picks) := ⟨rfl, rfl, rfl, by decide +kernel, rfl, by decide +kernel, by decide +kernel⟩
abbrev s_is_unimodular : Stmt := topS 19
theorem sc_is_unimodular : FnScope ["table", "rows"] ["table"] (defScope s_is_unimodular) := ⟨rfl, rfl, rfl, by decide +kernel, rfl, by decide +kernel, by decide +kernel⟩
abbrev s__law_source_of : Stmt := topS 21
theorem sc__law_source_of : FnScope ["_law_cell"] ["_law_cell"] (defScope s__law_source_of) := ⟨rfl, rfl, rfl, by decide +kernel, rfl, by decide +kernel, by decide +kernel⟩
abbrev s__law_next : Stmt := topS 22
theorem sc__law_next : FnScope ["_law_source", "_law_many", "_law_found", "_law_prime", "_law_figure"] ["_law_source", "_law_many"] (defScope s__law_next) := ⟨rfl, rfl, rfl, by decide +kernel, rfl, by decide +kernel, by decide +kernel⟩
abbrev s__law_one : Stmt := topS 23
theorem sc__law_one : FnScope ["_law_source", "_law_some"] ["_law_source", "_law_some"] (defScope s__law_one) := ⟨rfl, rfl, rfl, by decide +kernel, rfl, by decide +kernel, by decide +kernel⟩
abbrev s__law_cell_at : Stmt := topS 24
theorem sc__law_cell_at : FnScope ["_law_script", "_law_k"] ["_law_script", "_law_k"] (defScope s__law_cell_at) := ⟨rfl, rfl, rfl, by decide +kernel, rfl, by decide +kernel, by decide +kernel⟩
abbrev s__law_mixed : Stmt := topS 25
theorem sc__law_mixed : FnScope ["_law_source", "_law_some", "_law_left", "_law_found"] ["_law_source", "_law_some"] (defScope s__law_mixed) := ⟨rfl, rfl, rfl, by decide +kernel, rfl, by decide +kernel, by decide +kernel⟩
abbrev s__law_ends : Stmt := topS 26
theorem sc__law_ends : FnScope ["_law_source", "_law_many", "_law_places", "_law_found", "_law_k", "_law_two"] ["_law_source", "_law_many"] (defScope s__law_ends) := ⟨rfl, rfl, rfl, by decide +kernel, rfl, by decide +kernel, by decide +kernel⟩
abbrev s__law_net : Stmt := topS 27
theorem sc__law_net : FnScope ["_law_ends_here", "_law_arcs", "_law_far", "_law_k", "_law_begin", "_law_goal", "_law_step", "_law_other", "_law_a", "_law_b"] ["_law_ends_here", "_law_arcs"] (defScope s__law_net) := ⟨rfl, rfl, rfl, by decide +kernel, rfl, by decide +kernel, by decide +kernel⟩
abbrev s__law_net_drawn : Stmt := topS 28
theorem sc__law_net_drawn : FnScope ["_law_source", "_law_many", "_law_wide", "_law_arcs", "_law_k"] ["_law_source", "_law_many", "_law_wide"] (defScope s__law_net_drawn) := ⟨rfl, rfl, rfl, by decide +kernel, rfl, by decide +kernel, by decide +kernel⟩
abbrev s__law_stretches : Stmt := topS 29
theorem sc__law_stretches : FnScope ["_law_source", "_law_many", "_law_wide", "_law_order", "_law_found", "_law_k", "_law_start", "_law_length", "_law_column"] ["_law_source", "_law_many", "_law_wide"] (defScope s__law_stretches) := ⟨rfl, rfl, rfl, by decide +kernel, rfl, by decide +kernel, by decide +kernel⟩
abbrev s__law_swung : Stmt := topS 30
theorem sc__law_swung : FnScope ["_law_source", "_law_table_here", "_law_rows", "_law_signs", "_law_found", "_law_row", "_law_sign", "_law_k", "_law_column", "_law_a", "_law_b"] ["_law_source", "_law_table_here"] (defScope s__law_swung) := ⟨rfl, rfl, rfl, by decide +kernel, rfl, by decide +kernel, by decide +kernel⟩
abbrev s__law_table : Stmt := topS 31
theorem sc__law_table : FnScope ["_law_source", "_law_most", "_law_many", "_law_wide", "_law_kind", "_law_table_here", "_law_k", "_law_row"] ["_law_source", "_law_most"] (defScope s__law_table) := ⟨rfl, rfl, rfl, by decide +kernel, rfl, by decide +kernel, by decide +kernel⟩
abbrev s__law_picks : Stmt := topS 32
theorem sc__law_picks : FnScope ["_law_many", "_law_some", "_law_code", "_law_k", "_law_rows"] ["_law_many"] (defScope s__law_picks) := ⟨rfl, rfl, rfl, by decide +kernel, rfl, by decide +kernel, by decide +kernel⟩
abbrev s__law_first_signs : Stmt := topS 33
theorem sc__law_first_signs : FnScope ["_law_table_here", "_law_rows", "_law_code", "_law_signs", "_law_sums", "_law_row", "_law_sign", "_law_k", "_law_a", "_law_b"] ["_law_table_here", "_law_rows"] (defScope s__law_first_signs) := ⟨rfl, rfl, rfl, by decide +kernel, rfl, by decide +kernel, by decide +kernel⟩
abbrev s__law_said : Stmt := topS 34
theorem sc__law_said : FnScope ["_law_table_here", "_law_found", "e"] ["_law_table_here"] (defScope s__law_said) := ⟨rfl, rfl, rfl, by decide +kernel, rfl, by decide +kernel, by decide +kernel⟩
abbrev s__law_due : Stmt := topS 35
theorem sc__law_due : FnScope ["_law_table_here", "_law_found", "_law_rows", "_law_signs"] ["_law_table_here"] (defScope s__law_due) := ⟨rfl, rfl, rfl, by decide +kernel, rfl, by decide +kernel, by decide +kernel⟩
abbrev s_law : Stmt := topS 36
theorem sc_law : FnScope ["_law_script", "_law_cell", "_law_source", "_law_table_here", "_law_due_here", "_law_saved", "_law_turn", "_law_word", "_law_said_here", "_law_rows", "_law_signs", "_law_good", "_law_row", "_law_one_here"] ["_law_script"] (defScope s_law) := ⟨rfl, rfl, rfl, by decide +kernel, rfl, by decide +kernel, by decide +kernel⟩
/-- what the top has written -/
structure Txt (K : PySem.W.Frag) (mg : Str → Option Value) where
  f_init_NoPick : Addr
  fd_init_NoPick : FuncData
  F_init_NoPick : Fun K "__init__" "NoPick.__init__" s_init_NoPick f_init_NoPick fd_init_NoPick
  b_init_NoPick : Binds K fd_init_NoPick ["self", "at"] []
  f_init_NotWhole : Addr
  fd_init_NotWhole : FuncData
  F_init_NotWhole : Fun K "__init__" "NotWhole.__init__" s_init_NotWhole f_init_NotWhole fd_init_NotWhole
  b_init_NotWhole : Binds K fd_init_NotWhole ["self", "rows"] []
  f_is_whole : Addr
  fd_is_whole : FuncData
  F_is_whole : Fun K "is_whole" "is_whole" s_is_whole f_is_whole fd_is_whole
  g_is_whole : mg "is_whole" = some (.ref f_is_whole)
  k_is_whole : PySem.W.keepIn K (.ref f_is_whole) = true
  b_is_whole : Binds K fd_is_whole ["thing"] []
  f_is_table : Addr
  fd_is_table : FuncData
  F_is_table : Fun K "is_table" "is_table" s_is_table f_is_table fd_is_table
  g_is_table : mg "is_table" = some (.ref f_is_table)
  k_is_table : PySem.W.keepIn K (.ref f_is_table) = true
  b_is_table : Binds K fd_is_table ["thing"] []
  f_is_row : Addr
  fd_is_row : FuncData
  F_is_row : Fun K "is_row" "is_row" s_is_row f_is_row fd_is_row
  g_is_row : mg "is_row" = some (.ref f_is_row)
  k_is_row : PySem.W.keepIn K (.ref f_is_row) = true
  b_is_row : Binds K fd_is_row ["thing"] []
  f_check_table : Addr
  fd_check_table : FuncData
  F_check_table : Fun K "check_table" "check_table" s_check_table f_check_table fd_check_table
  g_check_table : mg "check_table" = some (.ref f_check_table)
  k_check_table : PySem.W.keepIn K (.ref f_check_table) = true
  b_check_table : Binds K fd_check_table ["thing"] []
  f_first_signs : Addr
  fd_first_signs : FuncData
  F_first_signs : Fun K "first_signs" "first_signs" s_first_signs f_first_signs fd_first_signs
  g_first_signs : mg "first_signs" = some (.ref f_first_signs)
  k_first_signs : PySem.W.keepIn K (.ref f_first_signs) = true
  b_first_signs : Binds K fd_first_signs ["table", "rows"] []
  f_are_small : Addr
  fd_are_small : FuncData
  F_are_small : Fun K "are_small" "are_small" s_are_small f_are_small fd_are_small
  g_are_small : mg "are_small" = some (.ref f_are_small)
  k_are_small : PySem.W.keepIn K (.ref f_are_small) = true
  b_are_small : Binds K fd_are_small ["totals"] []
  f_book : Addr
  fd_book : FuncData
  F_book : Fun K "book" "book" s_book f_book fd_book
  g_book : mg "book" = some (.ref f_book)
  k_book : PySem.W.keepIn K (.ref f_book) = true
  b_book : Binds K fd_book ["table"] []
  f_picks : Addr
  fd_picks : FuncData
  F_picks : Fun K "picks" "picks" s_picks f_picks fd_picks
  g_picks : mg "picks" = some (.ref f_picks)
  k_picks : PySem.W.keepIn K (.ref f_picks) = true
  b_picks : Binds K fd_picks ["many"] []
  f_is_unimodular : Addr
  fd_is_unimodular : FuncData
  F_is_unimodular : Fun K "is_unimodular" "is_unimodular" s_is_unimodular f_is_unimodular fd_is_unimodular
  g_is_unimodular : mg "is_unimodular" = some (.ref f_is_unimodular)
  k_is_unimodular : PySem.W.keepIn K (.ref f_is_unimodular) = true
  b_is_unimodular : Binds K fd_is_unimodular ["table"] []
  f__law_source_of : Addr
  fd__law_source_of : FuncData
  F__law_source_of : Fun K "_law_source_of" "_law_source_of" s__law_source_of f__law_source_of fd__law_source_of
  g__law_source_of : mg "_law_source_of" = some (.ref f__law_source_of)
  k__law_source_of : PySem.W.keepIn K (.ref f__law_source_of) = true
  b__law_source_of : Binds K fd__law_source_of ["_law_cell"] []
  f__law_next : Addr
  fd__law_next : FuncData
  F__law_next : Fun K "_law_next" "_law_next" s__law_next f__law_next fd__law_next
  g__law_next : mg "_law_next" = some (.ref f__law_next)
  k__law_next : PySem.W.keepIn K (.ref f__law_next) = true
  b__law_next : Binds K fd__law_next ["_law_source", "_law_many"] []
  f__law_one : Addr
  fd__law_one : FuncData
  F__law_one : Fun K "_law_one" "_law_one" s__law_one f__law_one fd__law_one
  g__law_one : mg "_law_one" = some (.ref f__law_one)
  k__law_one : PySem.W.keepIn K (.ref f__law_one) = true
  b__law_one : Binds K fd__law_one ["_law_source", "_law_some"] []
  f__law_cell_at : Addr
  fd__law_cell_at : FuncData
  F__law_cell_at : Fun K "_law_cell_at" "_law_cell_at" s__law_cell_at f__law_cell_at fd__law_cell_at
  g__law_cell_at : mg "_law_cell_at" = some (.ref f__law_cell_at)
  k__law_cell_at : PySem.W.keepIn K (.ref f__law_cell_at) = true
  b__law_cell_at : Binds K fd__law_cell_at ["_law_script", "_law_k"] []
  f__law_mixed : Addr
  fd__law_mixed : FuncData
  F__law_mixed : Fun K "_law_mixed" "_law_mixed" s__law_mixed f__law_mixed fd__law_mixed
  g__law_mixed : mg "_law_mixed" = some (.ref f__law_mixed)
  k__law_mixed : PySem.W.keepIn K (.ref f__law_mixed) = true
  b__law_mixed : Binds K fd__law_mixed ["_law_source", "_law_some"] []
  f__law_ends : Addr
  fd__law_ends : FuncData
  F__law_ends : Fun K "_law_ends" "_law_ends" s__law_ends f__law_ends fd__law_ends
  g__law_ends : mg "_law_ends" = some (.ref f__law_ends)
  k__law_ends : PySem.W.keepIn K (.ref f__law_ends) = true
  b__law_ends : Binds K fd__law_ends ["_law_source", "_law_many"] []
  f__law_net : Addr
  fd__law_net : FuncData
  F__law_net : Fun K "_law_net" "_law_net" s__law_net f__law_net fd__law_net
  g__law_net : mg "_law_net" = some (.ref f__law_net)
  k__law_net : PySem.W.keepIn K (.ref f__law_net) = true
  b__law_net : Binds K fd__law_net ["_law_ends_here", "_law_arcs"] []
  f__law_net_drawn : Addr
  fd__law_net_drawn : FuncData
  F__law_net_drawn : Fun K "_law_net_drawn" "_law_net_drawn" s__law_net_drawn f__law_net_drawn fd__law_net_drawn
  g__law_net_drawn : mg "_law_net_drawn" = some (.ref f__law_net_drawn)
  k__law_net_drawn : PySem.W.keepIn K (.ref f__law_net_drawn) = true
  b__law_net_drawn : Binds K fd__law_net_drawn ["_law_source", "_law_many", "_law_wide"] []
  f__law_stretches : Addr
  fd__law_stretches : FuncData
  F__law_stretches : Fun K "_law_stretches" "_law_stretches" s__law_stretches f__law_stretches fd__law_stretches
  g__law_stretches : mg "_law_stretches" = some (.ref f__law_stretches)
  k__law_stretches : PySem.W.keepIn K (.ref f__law_stretches) = true
  b__law_stretches : Binds K fd__law_stretches ["_law_source", "_law_many", "_law_wide"] []
  f__law_swung : Addr
  fd__law_swung : FuncData
  F__law_swung : Fun K "_law_swung" "_law_swung" s__law_swung f__law_swung fd__law_swung
  g__law_swung : mg "_law_swung" = some (.ref f__law_swung)
  k__law_swung : PySem.W.keepIn K (.ref f__law_swung) = true
  b__law_swung : Binds K fd__law_swung ["_law_source", "_law_table_here"] []
  f__law_table : Addr
  fd__law_table : FuncData
  F__law_table : Fun K "_law_table" "_law_table" s__law_table f__law_table fd__law_table
  g__law_table : mg "_law_table" = some (.ref f__law_table)
  k__law_table : PySem.W.keepIn K (.ref f__law_table) = true
  b__law_table : Binds K fd__law_table ["_law_source", "_law_most"] []
  f__law_picks : Addr
  fd__law_picks : FuncData
  F__law_picks : Fun K "_law_picks" "_law_picks" s__law_picks f__law_picks fd__law_picks
  g__law_picks : mg "_law_picks" = some (.ref f__law_picks)
  k__law_picks : PySem.W.keepIn K (.ref f__law_picks) = true
  b__law_picks : Binds K fd__law_picks ["_law_many"] []
  f__law_first_signs : Addr
  fd__law_first_signs : FuncData
  F__law_first_signs : Fun K "_law_first_signs" "_law_first_signs" s__law_first_signs f__law_first_signs fd__law_first_signs
  g__law_first_signs : mg "_law_first_signs" = some (.ref f__law_first_signs)
  k__law_first_signs : PySem.W.keepIn K (.ref f__law_first_signs) = true
  b__law_first_signs : Binds K fd__law_first_signs ["_law_table_here", "_law_rows"] []
  f__law_said : Addr
  fd__law_said : FuncData
  F__law_said : Fun K "_law_said" "_law_said" s__law_said f__law_said fd__law_said
  g__law_said : mg "_law_said" = some (.ref f__law_said)
  k__law_said : PySem.W.keepIn K (.ref f__law_said) = true
  b__law_said : Binds K fd__law_said ["_law_table_here"] []
  f__law_due : Addr
  fd__law_due : FuncData
  F__law_due : Fun K "_law_due" "_law_due" s__law_due f__law_due fd__law_due
  g__law_due : mg "_law_due" = some (.ref f__law_due)
  k__law_due : PySem.W.keepIn K (.ref f__law_due) = true
  b__law_due : Binds K fd__law_due ["_law_table_here"] []
  f_law : Addr
  fd_law : FuncData
  F_law : Fun K "law" "law" s_law f_law fd_law
  g_law : mg "law" = some (.ref f_law)
  k_law : PySem.W.keepIn K (.ref f_law) = true
  b_law : Binds K fd_law ["_law_script"] []
  t_MOST : Tok
  g_MOST : mg "MOST" = some (.int 8 t_MOST)
  g_combinations : mg "combinations" = some (.type "itertools.combinations")
  n_all : mg "all" = none
  n_bool : mg "bool" = none
  n_enumerate : mg "enumerate" = none
  n_int : mg "int" = none
  n_isinstance : mg "isinstance" = none
  n_len : mg "len" = none
  n_list : mg "list" = none
  n_max : mg "max" = none
  n_min : mg "min" = none
  n_range : mg "range" = none
  n_sorted : mg "sorted" = none
  n_tuple : mg "tuple" = none
  n_zip : mg "zip" = none
  f_SignError : Addr
  g_SignError : mg "SignError" = some (.ref f_SignError)
  f_BadTable : Addr
  g_BadTable : mg "BadTable" = some (.ref f_BadTable)
  f_NotPlain : Addr
  g_NotPlain : mg "NotPlain" = some (.ref f_NotPlain)
  f_NoPick : Addr
  g_NoPick : mg "NoPick" = some (.ref f_NoPick)
  f_NotWhole : Addr
  g_NotWhole : mg "NotWhole" = some (.ref f_NotWhole)
  k_SignError : PySem.W.keepIn K (.ref f_SignError) = true
  ex_SignError : PySem.W.subIn K (.ref f_SignError) (.type "BaseException") = some true
  tx_SignError : PySem.W.typeIn K (.ref f_SignError) = some (.type "type")
  k_BadTable : PySem.W.keepIn K (.ref f_BadTable) = true
  ex_BadTable : PySem.W.subIn K (.ref f_BadTable) (.type "BaseException") = some true
  tx_BadTable : PySem.W.typeIn K (.ref f_BadTable) = some (.type "type")
  x_BadTable : PySem.W.excIn K f_BadTable aeT "ArithmeticError.__new__" = true
  k_NotPlain : PySem.W.keepIn K (.ref f_NotPlain) = true
  ex_NotPlain : PySem.W.subIn K (.ref f_NotPlain) (.type "BaseException") = some true
  tx_NotPlain : PySem.W.typeIn K (.ref f_NotPlain) = some (.type "type")
  x_NotPlain : PySem.W.excIn K f_NotPlain aeT "ArithmeticError.__new__" = true
  k_NoPick : PySem.W.keepIn K (.ref f_NoPick) = true
  ex_NoPick : PySem.W.subIn K (.ref f_NoPick) (.type "BaseException") = some true
  tx_NoPick : PySem.W.typeIn K (.ref f_NoPick) = some (.type "type")
  k_NotWhole : PySem.W.keepIn K (.ref f_NotWhole) = true
  ex_NotWhole : PySem.W.subIn K (.ref f_NotWhole) (.type "BaseException") = some true
  tx_NotWhole : PySem.W.typeIn K (.ref f_NotWhole) = some (.type "type")
  rd_SignError : PySem.W.readsIn K f_SignError (.type "type") = true
  ga_SignError : PySem.W.specialIn K (.ref f_SignError) "__getattribute__" = some (some (.builtin "type.__getattribute__"))
  fi_SignError : PySem.W.findCls K (.ref f_SignError) (.type "type") "__init__" = some (.val (.builtin "ArithmeticError.__init__"))
  own_NoPick : OwnA K f_NoPick f_SignError
  i_NoPick : PySem.W.findIn K (.ref f_NoPick) "__init__" = some (some (.ref f_init_NoPick))
  ty_NoPick : PySem.W.typeIn K (.ref f_init_NoPick) = some (.type "function")
  no_NoPick : PySem.W.findIn K (.ref f_NoPick) "at" = some none
  own_NotWhole : OwnA K f_NotWhole f_SignError
  i_NotWhole : PySem.W.findIn K (.ref f_NotWhole) "__init__" = some (some (.ref f_init_NotWhole))
  ty_NotWhole : PySem.W.typeIn K (.ref f_init_NotWhole) = some (.type "function")
  no_NotWhole : PySem.W.findIn K (.ref f_NotWhole) "rows" = some none
  xf_NotWhole : XfC K f_NotWhole
  ec_NotWhole : ExcC K f_NotWhole
  exm_NotWhole : PySem.W.exmOne K (.ref f_NotWhole) (.ref f_SignError) = some true
  kit_NotWhole_NotWhole : PySem.W.kitOne K (.ref f_NotWhole) (.ref f_NotWhole) = some true
  kit_NotWhole_BadTable : PySem.W.kitOne K (.ref f_NotWhole) (.ref f_BadTable) = some false
  kit_NotWhole_NoPick : PySem.W.kitOne K (.ref f_NotWhole) (.ref f_NoPick) = some false
  kit_NotWhole_NotPlain : PySem.W.kitOne K (.ref f_NotWhole) (.ref f_NotPlain) = some false
  c_law : Addr
  P_law : Addr
  lkL : ∃ (oc : Value) (od : Option Addr) (kV doc pm : Value) (an : Option Addr) (ct : Value) (osl : Array (Option Value)), fd__law_picks = PySem.W.fnOf "_law_picks" "_law_picks" (defArgs s__law_picks) (defBody s__law_picks) (defScope s__law_picks) .none kV doc pm an (.ref c_law) ct ∧ K.lookup f__law_picks = some ⟨oc, od, .func fd__law_picks, osl⟩ ∧ PySem.W.codeIn K (.ref c_law) "_law_picks" = true
/-! ### numbers -/
def Bd (n : Nat) (i : Int) : Prop := i.natAbs < 2 ^ n
theorem Bd.mono {a b : Nat} {i : Int} (h : Bd a i) (hab : a ≤ b) : Bd b i := Nat.lt_of_lt_of_le h (Nat.pow_le_pow_right (by decide) hab)
theorem Bd.mul {a b : Nat} {i j : Int} (h : Bd a i) (g : Bd b j) : Bd (a + b) (i * j) := wide_lt h g
theorem Bd.add {a : Nat} {i j : Int} (h : Bd a i) (g : Bd a j) : Bd (a + 1) (i + j) := by
  have h1 : i.natAbs < 2 ^ a := h
  have h2 : j.natAbs < 2 ^ a := g
  show (i + j).natAbs < 2 ^ (a + 1)
  rw [Nat.pow_succ]
  omega
theorem Bd.sub {a : Nat} {i j : Int} (h : Bd a i) (g : Bd a j) : Bd (a + 1) (i - j) := by
  have h1 : i.natAbs < 2 ^ a := h
  have h2 : j.natAbs < 2 ^ a := g
  show (i - j).natAbs < 2 ^ (a + 1)
  rw [Nat.pow_succ]
  omega
theorem Bd.neg {a : Nat} {i : Int} (h : Bd a i) : Bd a (-i) := by
  show (-i).natAbs < 2 ^ a
  rw [Int.natAbs_neg]
  exact h
theorem Bd.abs {a : Nat} {i j : Int} (h : Bd a i) (e : j.natAbs ≤ i.natAbs) : Bd a j := Nat.lt_of_le_of_lt e h
theorem Bd.mulOk {a b : Nat} {i j : Int} (h : Bd a i) (g : Bd b j) (h0 : 0 < a := by decide) (h1 : 0 < b := by decide) (hs : a + b ≤ 1000000 := by decide) : CMulW i j := wide_mul h g h0 h1 hs
theorem Bd.divOk {b : Nat} {i j : Int} (h : 0 < j) (g : Bd b j) (h0 : 0 < b := by decide) (h9 : b ≤ 9000 := by decide) : CDivW i j := wide_div h g h0 h9
/-- // by a divisor other than 0 below 2 ^ 9000 -/
def CDivNW (_ j : Int) : Prop := j ≠ 0 ∧ j.natAbs.log2 < 9000
theorem Bd.divNOk {b : Nat} {i j : Int} (h : j ≠ 0) (g : Bd b j) (h0 : 0 < b := by decide) (h9 : b ≤ 9000 := by decide) : CDivNW i j := ⟨h, Nat.lt_of_lt_of_le (PySem.Flt.log2_lt_of h0 g) h9⟩
theorem op_fdivNW {X : Cx} : OpR X (binaryOp .FloorDiv) (rI CDivNW fun i j => .int (i.fdiv j)) := opI fun _ _ _ _ _ _ _ hc q => floordiv_int hc.1 q (.inl (PyProof.noPylong_of_log2 hc.2))
/-! ### heaps -/
/-- all but what stands at s is as it was -/
def ExB (s : Addr) (H H' : Hp) : Prop := ∀ b o, b ≠ s → H b = some o → H' b = some o
theorem ExB.trans {s : Addr} {H H1 H2 : Hp} (a : ExB s H H1) (b : ExB s H1 H2) : ExB s H H2 := fun c o n h => b c o n (a c o n h)
theorem ExB.refl (s : Addr) (H : Hp) : ExB s H H := fun _ _ _ h => h
theorem ExB.of {s : Addr} {H H1 : Hp} (a : Ex H H1) : ExB s H H1 := fun c o _ h => a c o h
theorem ExB.ex {s : Addr} {H H1 H2 : Hp} (a : ExB s H1 H2) (n : H s = none) (e : Ex H H1) : Ex H H2 := fun b o h => a b o (ne_of_none h n) (e b o h)
theorem ExB.upd (s : Addr) (H : Hp) (o : HO) : ExB s H (upd H s o) := fun b u n h => by
  rw [upd_ne n]
  exact h
theorem Ex.updB {s : Addr} {H H' : Hp} {o : HO} (e : Ex H H') : ExB s H (upd H' s o) := fun b u n h => by
  rw [upd_ne n]
  exact e b u h
/-- the source of a law's numbers: n at least the numbers made so far -/
def SrcAt (H : Hp) (s : Addr) (n : Int) : Prop := ∃ p q r : Int, H s = some (.lst [.int p, .int q, .int r]) ∧ 0 ≤ q ∧ q < 2147483647 ∧ 0 ≤ r ∧ r ≤ n
theorem SrcAt.ex {H H' : Hp} {s : Addr} {n : Int} (h : SrcAt H s n) (e : Ex H H') : SrcAt H' s n := by
  obtain ⟨p, q, r, h1, h2⟩ := h
  exact ⟨p, q, r, e _ _ h1, h2⟩
theorem SrcAt.exB {H H' : Hp} {s t : Addr} {n : Int} (h : SrcAt H s n) (e : ExB t H H') (ne : s ≠ t) : SrcAt H' s n := by
  obtain ⟨p, q, r, h1, h2⟩ := h
  exact ⟨p, q, r, e _ _ ne h1, h2⟩
theorem SrcAt.le {H : Hp} {s : Addr} {n m : Int} (h : SrcAt H s n) (e : n ≤ m) : SrcAt H s m := by
  obtain ⟨p, q, r, h1, h2, h3, h4, h5⟩ := h
  exact ⟨p, q, r, h1, h2, h3, h4, by omega⟩
theorem SrcAt.obj {H : Hp} {s : Addr} {n : Int} (h : SrcAt H s n) : ∃ o, H s = some o := by
  obtain ⟨p, q, r, h1, _⟩ := h
  exact ⟨_, h1⟩
/-- classes that is_whole is asked about -/
def tyOk (t : String) : Prop := t = "int" ∨ t = "bool" ∨ t = "NoneType" ∨ t = "str" ∨ t = "tuple" ∨ t = "list" ∨ t = "dict"
theorem ty_int {t : String} (h : tyOk t) : kitB t "int" = some (t == "int" || t == "bool") := by
  rcases h with rfl | rfl | rfl | rfl | rfl | rfl | rfl <;> decide +kernel
theorem ty_bool {t : String} (h : tyOk t) : kitB t "bool" = some (t == "bool") := by
  rcases h with rfl | rfl | rfl | rfl | rfl | rfl | rfl <;> decide +kernel
theorem ty_tuple {t : String} (h : tyOk t) : kitB t "tuple" = some (t == "tuple") := by
  rcases h with rfl | rfl | rfl | rfl | rfl | rfl | rfl <;> decide +kernel
theorem ty_list {t : String} (h : tyOk t) : kitB t "list" = some (t == "list") := by
  rcases h with rfl | rfl | rfl | rfl | rfl | rfl | rfl <;> decide +kernel
theorem prime_at (r : Int) (h : 0 ≤ r) : ∃ p : Int, atI [V.int 2147483647, V.int 2147483629, V.int 2147483587, V.int 2147483579, V.int 2147483563, V.int 2147483549, V.int 2147483543] (r % 7) = some (.int p) ∧ 0 < p ∧ p ≤ 2147483647 := by
  have h1 : 0 ≤ r % 7 := Int.emod_nonneg _ (by decide)
  have h2 : r % 7 < 7 := Int.emod_lt_of_pos _ (by decide)
  generalize r % 7 = k at h1 h2
  have hk : k = 0 ∨ k = 1 ∨ k = 2 ∨ k = 3 ∨ k = 4 ∨ k = 5 ∨ k = 6 := by omega
  rcases hk with rfl | rfl | rfl | rfl | rfl | rfl | rfl <;> exact ⟨_, rfl, by decide, by decide⟩
/-! ### data, lists, tables -/
mutual
theorem dp_mono {K : PySem.W.Frag} {H H' : Hp} (h : ∀ a xs, SqL K H a xs → SqL K H' a xs) (h2 : ∀ a xs, SqT K H a xs → SqT K H' a xs) : ∀ {v : V} {d : PyData}, Dp K H v d → Dp K H' v d
  | _, _, .non => .non
  | _, _, .bl b => .bl b
  | _, _, .int i => .int i
  | _, _, .str x => .str x
  | _, _, .lst a b => .lst (h _ _ a) (dpAll_mono h h2 b)
  | _, _, .tup a b => .tup (h2 _ _ a) (dpAll_mono h h2 b)
theorem dpAll_mono {K : PySem.W.Frag} {H H' : Hp} (h : ∀ a xs, SqL K H a xs → SqL K H' a xs) (h2 : ∀ a xs, SqT K H a xs → SqT K H' a xs) : ∀ {vs : List V} {ds : List PyData}, DpAll K H vs ds → DpAll K H' vs ds
  | _, _, .nil => .nil
  | _, _, .cons a b => .cons (dp_mono h h2 a) (dpAll_mono h h2 b)
end
theorem dp_ex {K : PySem.W.Frag} {H H' : Hp} (e : Ex H H') {v : V} {d : PyData} (h : Dp K H v d) : Dp K H' v d := dp_mono (fun _ _ => ex_l e) (fun _ _ => ex_t e) h
theorem dpAll_ex {K : PySem.W.Frag} {H H' : Hp} (e : Ex H H') {v : List V} {d : List PyData} (h : DpAll K H v d) : DpAll K H' v d := dpAll_mono (fun _ _ => ex_l e) (fun _ _ => ex_t e) h
def NiceD (d : PyData) : Prop := d.canLay0 = true ∧ d.depth ≤ 8
/-- v is data, whatever becomes of the object at s -/
def DatV (K : PySem.W.Frag) (H : Hp) (s : Addr) (v : V) : Prop := ∀ H', ExB s H H' → ∃ d, Dp K H' v d ∧ NiceD d
theorem DatV.exB {K : PySem.W.Frag} {H H' : Hp} {s : Addr} {v : V} (h : DatV K H s v) (e : ExB s H H') : DatV K H' s v := fun H2 e2 => h H2 (e.trans e2)
theorem datv_int {K : PySem.W.Frag} {H : Hp} {s : Addr} (i : Int) : DatV K H s (.int i) := fun _ _ => ⟨_, .int i, rfl, Nat.zero_le _⟩
theorem datv_pair {K : PySem.W.Frag} {H : Hp} {s a : Addr} {x y : Int} (h : H a = some (.tup [.int x, .int y])) (n : a ≠ s) : DatV K H s (.ref a) := fun H' e =>
  ⟨_, .tup (SqT.of (e _ _ n h)) (.cons (.int x) (.cons (.int y) .nil)), rfl, Nat.le_of_ble_eq_true rfl⟩
theorem dpAll_ints {K : PySem.W.Frag} {H : Hp} : ∀ ns : List Int, DpAll K H (ns.map V.int) (ns.map PyData.int)
  | [] => .nil
  | n :: r => .cons (.int n) (dpAll_ints r)
theorem canLay_ints : ∀ ns : List Int, PyData.canLayAll0 (ns.map PyData.int) = true
  | [] => rfl
  | n :: r => by
    show (true && PyData.canLayAll0 (r.map PyData.int)) = true
    rw [canLay_ints r]
    rfl
theorem depth_ints : ∀ ns : List Int, PyData.depthAll (ns.map PyData.int) = 0
  | [] => rfl
  | n :: r => by
    show max 0 (PyData.depthAll (r.map PyData.int)) = 0
    rw [depth_ints r]
    rfl
theorem datv_row {K : PySem.W.Frag} {H : Hp} {s a : Addr} {ns : List Int} (h : H a = some (.lst (ns.map V.int))) (n : a ≠ s) : DatV K H s (.ref a) := fun H' e =>
  ⟨_, .lst (SqL.of (e _ _ n h)) (dpAll_ints ns), canLay_ints ns, by
    show PyData.depthAll (ns.map PyData.int) + 1 ≤ 8
    rw [depth_ints]
    decide⟩
theorem dat_all {K : PySem.W.Frag} {H : Hp} {s : Addr} : ∀ {xs : List V}, (∀ v ∈ xs, DatV K H s v) → ∃ ds, DpAll K H xs ds ∧ PyData.canLayAll0 ds = true ∧ PyData.depthAll ds ≤ 8
  | [], _ => ⟨[], .nil, rfl, by decide⟩
  | x :: xs, h => by
    obtain ⟨d, h1, h2, h3⟩ := h x (List.mem_cons_self ..) H (ExB.refl _ _)
    obtain ⟨ds, g1, g2, g3⟩ := dat_all (xs := xs) fun v hv => h v (List.mem_cons_of_mem _ hv)
    refine ⟨d :: ds, .cons h1 g1, ?_, ?_⟩
    · show (d.canLay0 && PyData.canLayAll0 ds) = true
      rw [h2, g2]
      rfl
    · show max d.depth (PyData.depthAll ds) ≤ 8
      omega
theorem shaped_list {ds : List PyData} (h : PyData.canLayAll0 ds = true) (h2 : PyData.depthAll ds ≤ 60) : SeqAt.shaped (.list ds) = true := by
  unfold SeqAt.shaped
  have e1 : (PyData.list ds).canLay0 = true := h
  have e2 : (PyData.list ds).depth ≤ 64 := by
    show PyData.depthAll ds + 1 ≤ 64
    omega
  rw [e1, decide_eq_true e2]
  rfl
theorem eqv_nil (ds : List PyData) : PyData.eqv (.list ds) (.list []) = ds.isEmpty := by
  cases ds <;> rfl
theorem Paired.perm {α β : Type} {R : α → β → Prop} {xs xs' : List α} (hp : xs'.Perm xs) : ∀ {ys : List β}, Paired R xs ys → ∃ ys', ys'.Perm ys ∧ Paired R xs' ys' := by
  induction hp with
  | nil => intro ys h; exact ⟨ys, .refl _, h⟩
  | cons x _ ih =>
    intro ys h
    cases h with
    | cons r t =>
      obtain ⟨ys', p, q⟩ := ih t
      exact ⟨_ :: ys', p.cons _, .cons r q⟩
  | swap x y l =>
    intro ys h
    cases h with
    | cons r t =>
      cases t with
      | cons r2 t2 => exact ⟨_, List.Perm.swap .., .cons r2 (.cons r t2)⟩
  | trans _ _ ih1 ih2 =>
    intro ys h
    obtain ⟨y1, p1, q1⟩ := ih2 h
    obtain ⟨y2, p2, q2⟩ := ih1 q1
    exact ⟨y2, p2.trans p1, q2⟩
theorem fresh_B {s p : Addr} {H H' : Hp} (e : ExB s H H') (hp : H' p = none) (hs : ∃ o, H' s = some o) : H p = none := by
  cases q : H p with
  | none => rfl
  | some o =>
    by_cases h : p = s
    · subst h
      obtain ⟨o', ho'⟩ := hs
      rw [ho'] at hp
      cases hp
    · rw [e p o h q] at hp
      cases hp
theorem SrcAt.ne {H : Hp} {s p : Addr} {n : Int} (h : SrcAt H s n) (hp : H p = none) : p ≠ s := by
  intro e
  subst e
  obtain ⟨o, ho⟩ := h.obj
  rw [ho] at hp
  cases hp
theorem SrcAt.neT {H : Hp} {s p : Addr} {n : Int} {xs : List V} (h : SrcAt H s n) (hp : H p = some (.tup xs)) : p ≠ s := by
  intro e
  subst e
  obtain ⟨_, _, _, ho, _⟩ := h
  rw [ho] at hp
  cases hp
theorem ExB.l {K : PySem.W.Frag} {s a : Addr} {H H' : Hp} {xs : List V} (e : ExB s H H') (n : a ≠ s) (h : SqL K H a xs) : SqL K H' a xs := by
  rcases h with (h | ⟨o, h⟩) | h
  · exact .inl (.inl (e _ _ n h))
  · exact .inl (.inr ⟨o, e _ _ n h⟩)
  · exact .inr h
theorem seqIx {i n : Int} {k : Nat} (h0 : 0 ≤ i) (h1 : i < (k : Int)) : seqIndex? i k = some i.toNat := by
  unfold seqIndex?
  split <;> simp_all <;> omega
theorem erase_perm {α : Type} : ∀ {ls : List α} {k : Nat} {y : α}, ls[k]? = some y → (y :: ls.eraseIdx k).Perm ls
  | [], _, _, h => by simp at h
  | a :: l, 0, y, h => by
    have e := Option.some.inj h
    subst e
    exact .refl _
  | a :: l, k + 1, y, h => (List.Perm.swap a y _).trans ((erase_perm (ls := l) (k := k) h).cons a)
theorem perm_pop {α : Type} {fs ls : List α} {k : Nat} {y : α} (h : ls[k]? = some y) : ((fs ++ [y]) ++ ls.eraseIdx k).Perm (fs ++ ls) := by
  have h1 := erase_perm h
  rw [List.append_assoc]
  exact List.Perm.append_left fs h1
/-- the table at p: its rows at the places as -/
def RowsAt (H : Hp) : List Addr → List (List Int) → Prop := Paired fun a r => H a = some (.lst (r.map V.int))
def Tab (H : Hp) (p : Addr) (as : List Addr) (rows : List (List Int)) : Prop := H p = some (.lst (as.map V.ref)) ∧ RowsAt H as rows
theorem RowsAt.ex {H H' : Hp} (e : Ex H H') : ∀ {as : List Addr} {rows : List (List Int)}, RowsAt H as rows → RowsAt H' as rows
  | _, _, .nil => .nil
  | _, _, .cons h t => .cons (e _ _ h) (RowsAt.ex e t)
theorem Tab.ex {H H' : Hp} {p : Addr} {as : List Addr} {rows : List (List Int)} (h : Tab H p as rows) (e : Ex H H') : Tab H' p as rows := ⟨e _ _ h.1, h.2.ex e⟩
/-! ### edges -/
def EdgesAt (H : Hp) : List Addr → List (Int × Int) → Prop := Paired fun a e => H a = some (.tup [.int e.1, .int e.2])
theorem paired_imp {α β : Type} {R R' : α → β → Prop} (h : ∀ a b, R a b → R' a b) : ∀ {xs : List α} {ys : List β}, Paired R xs ys → Paired R' xs ys
  | _, _, .nil => .nil
  | _, _, .cons r t => .cons (h _ _ r) (paired_imp h t)
theorem EdgesAt.mono {H H' : Hp} {as : List Addr} {es : List (Int × Int)} (h : ∀ a xs, H a = some (.tup xs) → H' a = some (.tup xs)) (x : EdgesAt H as es) : EdgesAt H' as es := paired_imp (fun _ _ r => h _ _ r) x
theorem tups_B {H H' : Hp} {s : Addr} {n : Int} (hs : SrcAt H s n) (e : ExB s H H') : ∀ a xs, H a = some (.tup xs) → H' a = some (.tup xs) := fun a _ h => e a _ (hs.neT h) h
theorem tups_E {H H' : Hp} (e : Ex H H') : ∀ a xs, H a = some (.tup xs) → H' a = some (.tup xs) := fun a _ h => e a _ h
theorem tups_U {H : Hp} {l : Addr} {xs : List V} {o : HO} (h : H l = some (.lst xs)) : ∀ a ys, H a = some (.tup ys) → upd H l o a = some (.tup ys) := fun a ys g => by
  rw [upd_ne (ne_of g h (by intro z; cases z))]
  exact g
def Conn (es : List (Int × Int)) (m : Int) : Prop := ∀ S : Int → Bool, (∀ e ∈ es, S e.1 = S e.2) → ∀ a b, 0 ≤ a → a ≤ m → 0 ≤ b → b ≤ m → S a = S b
theorem Conn.perm {es es' : List (Int × Int)} {m : Int} (h : Conn es m) (p : es'.Perm es) : Conn es' m := fun S hS => h S fun e he => hS e (p.mem_iff.mpr he)
def EdgeTree (pl : List Int) (es : List (Int × Int)) : Prop := ∀ j, j < es.length → ∃ i a b, i ≤ j ∧ pl[i]? = some a ∧ pl[j + 1]? = some b ∧ (es[j]? = some (a, b) ∨ es[j]? = some (b, a))
theorem EdgeTree.more {pl : List Int} {es : List (Int × Int)} {e : Int × Int} {i : Nat} {a b : Int} (h : EdgeTree pl es) (hi : i ≤ es.length) (ha : pl[i]? = some a) (hb : pl[es.length + 1]? = some b) (he : e = (a, b) ∨ e = (b, a)) : EdgeTree pl (es ++ [e]) := by
  intro j hj
  rw [List.length_append] at hj
  have hj' : j < es.length + 1 := hj
  by_cases h1 : j < es.length
  · obtain ⟨i', a', b', x1, x2, x3, x4⟩ := h j h1
    refine ⟨i', a', b', x1, x2, x3, ?_⟩
    rw [List.getElem?_append_left h1]
    exact x4
  · have h2 : j = es.length := by omega
    subst h2
    refine ⟨i, a, b, hi, ha, hb, ?_⟩
    rw [List.getElem?_append_right (Nat.le_refl _), Nat.sub_self]
    rcases he with rfl | rfl
    · exact .inl rfl
    · exact .inr rfl
theorem EdgeTree.conn {pl : List Int} {es : List (Int × Int)} {m : Nat} (h : EdgeTree pl es) (hl : es.length = m) (hp : pl.length = m + 1) (hall : ∀ a : Int, 0 ≤ a → a ≤ m → a ∈ pl) : Conn es m := by
  intro S hS
  have key : ∀ j : Nat, ∀ j' : Nat, j' ≤ j → ∀ a, pl[j']? = some a → ∀ z, pl[0]? = some z → S a = S z := by
    intro j
    induction j with
    | zero =>
      intro j' hj' a ha z hz
      have : j' = 0 := by omega
      subst this
      rw [hz] at ha
      rw [Option.some.inj ha]
    | succ j ih =>
      intro j' hj' a ha z hz
      by_cases h1 : j' ≤ j
      · exact ih j' h1 a ha z hz
      · have h2 : j' = j + 1 := by omega
        subst h2
        have hlt : j + 1 < pl.length := (List.getElem?_eq_some_iff.mp ha).1
        obtain ⟨i, x, y, hi, hx, hy, he⟩ := h j (by omega)
        rw [ha] at hy
        have ey := Option.some.inj hy
        subst ey
        have hSe : S x = S a := by
          rcases he with he | he
          · exact hS (x, a) (List.mem_of_getElem? he)
          · exact (hS (a, x) (List.mem_of_getElem? he)).symm
        rw [← hSe]
        exact ih i hi x hx z hz
  intro a b ha ha' hb hb'
  obtain ⟨i, hi⟩ := List.getElem?_of_mem (hall a ha ha')
  obtain ⟨j, hj⟩ := List.getElem?_of_mem (hall b hb hb')
  have hz : ∃ z, pl[0]? = some z := ⟨_, List.getElem?_eq_getElem (by omega)⟩
  obtain ⟨z, hz⟩ := hz
  rw [key i i (Nat.le_refl _) a hi z hz, key j j (Nat.le_refl _) b hj z hz]
theorem paired_map {α β : Type} {R : α → β → Prop} (f : β → α) (h : ∀ b, R (f b) b) : ∀ ys : List β, Paired R (ys.map f) ys
  | [] => .nil
  | b :: r => .cons (h b) (paired_map f h r)
theorem paired_eq_map {α β : Type} {f : β → α} : ∀ {xs : List α} {ys : List β}, Paired (fun x y => x = f y) xs ys → xs = ys.map f
  | _, _, .nil => rfl
  | _, _, .cons r t => by rw [r, paired_eq_map t]; rfl
theorem perm_ints {ys : List V} {ns : List Int} (h : ys.Perm (ns.map V.int)) : ∃ pl : List Int, ys = pl.map V.int ∧ pl.Perm ns := by
  obtain ⟨pl, p, q⟩ := Paired.perm (R := fun (x : V) y => x = V.int y) h (paired_map V.int (fun _ => rfl) ns)
  exact ⟨pl, paired_eq_map q, p⟩
theorem perm_refs {β : Type} {R : Addr → β → Prop} {ys : List V} {as : List Addr} {es : List β} (h : ys.Perm (as.map V.ref)) (hx : Paired R as es) : ∃ (as' : List Addr) (es' : List β), ys = as'.map V.ref ∧ es'.Perm es ∧ Paired R as' es' ∧ as'.Perm as := by
  obtain ⟨as', p, q⟩ := Paired.perm (R := fun (x : V) y => x = V.ref y) h (paired_map V.ref (fun _ => rfl) as)
  obtain ⟨es', p2, q2⟩ := Paired.perm p hx
  exact ⟨as', es', paired_eq_map q, p2, q2, p⟩
def numsTo (m : Nat) : List Int := (List.range m).map fun i : Nat => (i : Int)
theorem rgV_nums (m : Int) : rgV 0 m = (numsTo m.toNat).map V.int := by
  unfold rgV numsTo
  rw [List.map_map, Int.sub_zero]
  refine List.map_congr_left fun i _ => ?_
  show V.int (0 + (i : Int)) = V.int (i : Int)
  rw [Int.zero_add]
theorem mem_numsTo {m : Nat} {a : Int} : a ∈ numsTo m ↔ 0 ≤ a ∧ a < m := by
  unfold numsTo
  rw [List.mem_map]
  constructor
  · rintro ⟨i, hi, rfl⟩
    have := List.mem_range.mp hi
    omega
  · rintro ⟨h0, h1⟩
    exact ⟨a.toNat, List.mem_range.mpr (by omega), by omega⟩
theorem numsTo_length (m : Nat) : (numsTo m).length = m := by
  unfold numsTo
  rw [List.length_map, List.length_range]
theorem paired_snoc {α β : Type} {R : α → β → Prop} {a : α} {b : β} {xs : List α} {ys : List β} (h : Paired R xs ys) (r : R a b) : Paired R (xs ++ [a]) (ys ++ [b]) := Paired.snoc h r
theorem paired_mem {α β : Type} {R : α → β → Prop} : ∀ {xs : List α} {ys : List β} {x : α}, Paired R xs ys → x ∈ xs → ∃ y, y ∈ ys ∧ R x y
  | _, _, _, .nil, h => by simp at h
  | _, _, x, .cons (a := a) r t, h => by
    rcases List.mem_cons.mp h with e | h
    · subst e
      exact ⟨_, List.mem_cons_self .., r⟩
    · obtain ⟨y, hy, hr⟩ := paired_mem t h
      exact ⟨y, List.mem_cons_of_mem _ hy, hr⟩
/-! ### loops and comprehensions over more -/
theorem for_enum {K : PySem.W.Frag} {a : Addr} {xs : List V} {g : TG} {tb : TS} {D : Ends} {σ : L2.St} {H : Hp} (Pv : Nat → L2.St → Hp → Prop) (h0 : Pv 0 σ H) (hq : ∀ i σ H, Pv i σ H → SqL K H a xs)
    (hs : ∀ (i : Nat) (x : V) (T : Addr) (σ : L2.St) (H : Hp), xs[i]? = some x → Pv i σ H → H T = none → g (.ref T) σ (upd H T (.tup [.int (i : Nat), x])) fun σ2 H2 => tb { D with nx := Pv (i + 1), ct := Pv (i + 1), bk := D.nx } σ2 H2) (hd : ∀ σ H, Pv xs.length σ H → D.nx σ H) :
    ∃ W : Nat → Nat → L2.St → Hp → Prop, (∃ m, W 0 m σ H) ∧ ∀ i m σ H, W i m σ H →
      ((Ite K a).stop i H ∧ D.nx σ H) ∨ ((Ite K a).go i H ∧ ∃ N : L2.St → Hp → Prop, (∀ σ' H', N σ' H' → ∃ m', m' < m ∧ W (i + 1) m' σ' H') ∧ ∀ v H', (Ite K a).yld i H v H' → g v σ H' fun σ2 H2 => tb { D with nx := N, ct := N, bk := D.nx } σ2 H2) := by
  refine ⟨fun i m σ H => m = xs.length - i ∧ i ≤ xs.length ∧ Pv i σ H, ⟨xs.length, rfl, Nat.zero_le _, h0⟩, ?_⟩
  rintro i m σ H ⟨rfl, hi, p⟩
  have qx := hq i σ H p
  by_cases hlt : i < xs.length
  · have hx : xs[i]? = some xs[i] := List.getElem?_eq_getElem hlt
    refine .inr ⟨⟨xs, _, qx, hx⟩, Pv (i + 1), fun σ' H' p' => ⟨xs.length - (i + 1), by omega, rfl, hlt, p'⟩, fun v H' y => ?_⟩
    obtain ⟨T, x', rfl, hT, rfl, f1⟩ := y
    exact hs i x' T σ H (f1 xs qx) p hT
  · have e : i = xs.length := by omega
    subst e
    exact .inl ⟨⟨xs, qx, Nat.le_refl _⟩, hd σ H p⟩
theorem lc_zip {K : PySem.W.Frag} {a b : Addr} {xs ys : List V} {g : TG} {tt : TT} {te : TE} {vs : List Nat} {σ : L2.St} {H1 : Hp} {D : Addr} {Qd : Hp → Prop} (hl : xs.length = ys.length) (Pv : Nat → Hp → Prop) (h0 : Pv 0 (upd H1 D (.lst []))) (hq : ∀ i H, Pv i H → SqL K H a xs ∧ SqL K H b ys)
    (hs : ∀ (i : Nat) (x y : V) (T : Addr) (H : Hp), xs[i]? = some x → ys[i]? = some y → Pv i H → H T = none → g (.ref T) (wipe σ vs) (upd H T (.tup [x, y])) fun σ2 H2 => wipe σ2 vs = wipe σ vs ∧ tt σ2 H2 fun b H3 =>
      if b = true then te σ2 H3 fun y H4 => ∃ acc, H4 D = some (.lst acc) ∧ acc.length < sizeLine ∧ Pv (i + 1) (upd H4 D (.lst (acc ++ [y]))) else Pv (i + 1) H3) (hd : ∀ H, Pv xs.length H → Qd H) :
    ∃ W : Nat → Nat → Hp → Prop, (∃ m, W 0 m (upd H1 D (.lst []))) ∧ ∀ i m H, W i m H →
      ((Itz K a b).stop i H ∧ Qd H) ∨ ((Itz K a b).go i H ∧ ∃ Nx : Hp → Prop, (∀ H', Nx H' → ∃ m', m' < m ∧ W (i + 1) m' H') ∧ ∀ x H', (Itz K a b).yld i H x H' → g x (wipe σ vs) H' fun σ2 H2 => wipe σ2 vs = wipe σ vs ∧ tt σ2 H2 fun b H3 =>
        if b = true then te σ2 H3 fun y H4 => ∃ acc, H4 D = some (.lst acc) ∧ acc.length < sizeLine ∧ Nx (upd H4 D (.lst (acc ++ [y]))) else Nx H3) := by
  refine ⟨fun i m H => m = xs.length - i ∧ i ≤ xs.length ∧ Pv i H, ⟨xs.length, rfl, Nat.zero_le _, h0⟩, ?_⟩
  rintro i m H ⟨rfl, hi, p⟩
  obtain ⟨qx, qy⟩ := hq i H p
  by_cases hlt : i < xs.length
  · have hx : xs[i]? = some xs[i] := List.getElem?_eq_getElem hlt
    have hlt2 : i < ys.length := by omega
    have hy : ys[i]? = some ys[i] := List.getElem?_eq_getElem hlt2
    refine .inr ⟨⟨xs, ys, _, _, qx, qy, hx, hy⟩, Pv (i + 1), fun H' p' => ⟨xs.length - (i + 1), by omega, rfl, hlt, p'⟩, fun v H' y => ?_⟩
    obtain ⟨T, x', y', rfl, hT, rfl, f1, f2⟩ := y
    exact hs i x' y' T H (f1 xs qx) (f2 ys qy) p hT
  · have e : i = xs.length := by omega
    subst e
    exact .inl ⟨⟨xs, ys, qx, qy, Or.inl (Nat.le_refl _)⟩, hd H p⟩
abbrev g2 (K : PySem.W.Frag) (j1 j2 : Nat) : TG := gTup K 2 (gCons (gName j1) (gCons (gName j2) gNil))
theorem take_snoc {α : Type} {l : List α} {i : Nat} {x : α} (h : l[i]? = some x) : l.take (i + 1) = l.take i ++ [x] := by
  rw [List.take_add_one, h]
  rfl
/-- [f(x, y) for x, y in zip(xs, ys)] -/
theorem el_zip {K : PySem.W.Frag} {ta : TA} {te : TE} {vs : List Nat} {j1 j2 : Nat} {σ : L2.St} {H : Hp} {a b : Addr} {xs ys : List Int} (f : Int → Int → Int) (h : EvA ta σ H [.ref a, .ref b]) (hx : SqL K H a (xs.map V.int)) (hy : SqL K H b (ys.map V.int)) (hl : xs.length = ys.length) (hz : xs.length ≤ 1000)
    (hw : ∀ u v, wipe (((wipe σ vs).set j1 (some u)).set j2 (some v)) vs = wipe σ vs)
    (he : ∀ x y H1, x ∈ xs → y ∈ ys → Ex H H1 → Ev te (((wipe σ vs).set j1 (some (.int x))).set j2 (some (.int y))) H1 (.int (f x y))) : EvL (tLc (iZip K ta) (g2 K j1 j2) tYes te vs) σ H ((List.zipWith f xs ys).map V.int) := fun H0 e Q q => h H0 e _ fun H1 e1 => by
  have hx1 := ex_l (e.trans e1) hx
  have hy1 := ex_l (e.trans e1) hy
  refine ⟨a, b, _, _, rfl, hx1, hy1, fun D hD => ?_⟩
  refine lc_zip (xs := xs.map V.int) (ys := ys.map V.int) (by rw [List.length_map, List.length_map]; exact hl) (fun i H' => Ex H1 H' ∧ H' D = some (.lst (((List.zipWith f xs ys).take i).map V.int))) ⟨Ex.new hD, upd_same⟩ (fun i H' p => ⟨ex_l p.1 hx1, ex_l p.1 hy1⟩) (fun i x y T H' gx gy p nT => ?_) (fun H' p => ?_)
  · obtain ⟨p1, p2⟩ := p
    rw [List.getElem?_map] at gx gy
    obtain ⟨x', hx', rfl⟩ := Option.map_eq_some_iff.mp gx
    obtain ⟨y', hy', rfl⟩ := Option.map_eq_some_iff.mp gy
    refine ⟨T, _, rfl, SqT.of upd_same, rfl, _, _, rfl, _, _, rfl, rfl, hw _ _, ?_⟩
    show te _ _ _
    have xT : Ex H' (upd H' T (.tup [.int x', .int y'])) := Ex.new nT
    refine he x' y' H (List.mem_of_getElem? hx') (List.mem_of_getElem? hy') (Ex.refl H) _ ((e.trans e1).trans (p1.trans xT)) _ fun H4 e4 => ?_
    refine ⟨_, e4 _ _ (xT _ _ p2), ?_, Ex.mut ((p1.trans xT).trans e4) hD, ?_⟩
    · rw [List.length_map, List.length_take]
      have := (List.getElem?_eq_some_iff.mp hx').1
      exact small1000 (by omega)
    · have hzz : (List.zipWith f xs ys)[i]? = some (f x' y') := by
        rw [List.getElem?_zipWith, hx', hy']
      rw [upd_same, take_snoc hzz, List.map_append]
      rfl
  · obtain ⟨p1, p2⟩ := p
    rw [List.take_of_length_le (by rw [List.length_zipWith, List.length_map]; omega)] at p2
    exact q D H' (fresh_back e1 hD) (e1.trans p1) p2
/-- [g(x, y) for x, y in qs], qs a list of pairs -/
theorem el_pairs {K : PySem.W.Frag} {n : Nat} {te : TE} {vs : List Nat} {j1 j2 : Nat} {σ : L2.St} {H : Hp} {a : Addr} {bs : List Addr} {qs : List (Int × Int)} (f : Int × Int → Int) (hσ : σ[n]? = some (some (.ref a))) (hx : H a = some (.lst (bs.map V.ref))) (hE : EdgesAt H bs qs) (hz : qs.length ≤ 1000)
    (hw : ∀ u v, wipe (((wipe σ vs).set j1 (some u)).set j2 (some v)) vs = wipe σ vs)
    (he : ∀ e H1, e ∈ qs → Ex H H1 → Ev te (((wipe σ vs).set j1 (some (.int e.1))).set j2 (some (.int e.2))) H1 (.int (f e))) : EvL (tLc (iList K (tVar n)) (g2 K j1 j2) tYes te vs) σ H ((qs.map f).map V.int) := fun H1 e1 Q q => by
  have hx1 := e1 _ _ hx
  have el : bs.length = qs.length := Paired.length hE
  refine ⟨_, hσ, a, rfl, ⟨_, SqL.of hx1⟩, fun D hD => ?_⟩
  refine lc_list (K := K) (a := a) (xs := bs.map V.ref) (fun i H' => Ex H1 H' ∧ H' D = some (.lst (((qs.map f).take i).map V.int))) ⟨Ex.new hD, upd_same⟩ (fun i H' _ p => SqL.of (p.1 _ _ hx1)) (fun i x H' gx p => ?_) (fun H' p => ?_)
  · obtain ⟨p1, p2⟩ := p
    rw [List.getElem?_map] at gx
    obtain ⟨b, hb, rfl⟩ := Option.map_eq_some_iff.mp gx
    obtain ⟨ed, hed, hr⟩ := paired_get hE hb
    refine ⟨b, _, rfl, SqT.of ((e1.trans p1) _ _ hr), rfl, _, _, rfl, _, _, rfl, rfl, hw _ _, ?_⟩
    show te _ _ _
    refine he ed H (List.mem_of_getElem? hed) (Ex.refl H) _ (e1.trans p1) _ fun H4 e4 => ?_
    refine ⟨_, e4 _ _ p2, ?_, Ex.mut (p1.trans e4) hD, ?_⟩
    · rw [List.length_map, List.length_take, List.length_map]
      exact small1000 (by omega)
    · have hzz : (qs.map f)[i]? = some (f ed) := by rw [List.getElem?_map, hed]; rfl
      rw [upd_same, take_snoc hzz, List.map_append]
      rfl
  · obtain ⟨p1, p2⟩ := p
    rw [List.take_of_length_le (by rw [List.length_map, List.length_map]; omega)] at p2
    exact q D H' hD p1 p2
/-- [[..] for i in range(m)]: new rows -/
theorem lc_rows {ta : TA} {te : TE} {vs : List Nat} {j : Nat} {σ : L2.St} {H : Hp} {Q : VK} {m : Nat} (F : Nat → List Int) (h : EvA ta σ H [.int (m : Int)]) (hm : m ≤ 1000) (hw : ∀ u, wipe ((wipe σ vs).set j (some u)) vs = wipe σ vs)
    (he : ∀ i H1, Ex H H1 → i < m → EvL te ((wipe σ vs).set j (some (.int (i : Int)))) H1 ((F i).map V.int))
    (k : ∀ p as H2, H p = none → (∀ a ∈ as, H a = none) → as.Nodup → p ∉ as → Ex H H2 → Tab H2 p as ((List.range m).map F) → Q (.ref p) H2) : tLc (iRng1 ta) (gName j) tYes te vs σ H Q := by
  refine h H (Ex.refl H) _ fun H1 e1 => ⟨(m : Int), rfl, by omega, by omega, fun D hD => ?_⟩
  have hDH : H D = none := fresh_back e1 hD
  refine lc_range (lo := 0) (n := (m : Int).toNat) (fun i H' => ∃ as, Ex H1 H' ∧ H' D = some (.lst (as.map V.ref)) ∧ RowsAt H' as ((List.range i).map F) ∧ (∀ a ∈ as, H a = none) ∧ as.Nodup ∧ D ∉ as) ⟨[], Ex.new hD, upd_same, .nil, fun a ha => by simp at ha, List.nodup_nil, by simp⟩ (fun i H' hi p => ?_) (fun H' p => ?_)
  · obtain ⟨as, p1, p2, p3, p4, p5, p6⟩ := p
    have el : as.length = i := by rw [Paired.length p3, List.length_map, List.length_range]
    have e0 : (0 : Int) + (i : Int) = (i : Int) := Int.zero_add _
    refine ⟨hw _, ?_⟩
    show te ((wipe σ vs).set j (some (.int ((0 : Int) + (i : Int))))) H' _
    rw [e0]
    refine he i H' (e1.trans p1) (by omega) H' (Ex.refl _) _ fun r H4 nr e4 hr => ?_
    have nrD : r ≠ D := fun z => by
      rw [z, p2] at nr
      cases nr
    refine ⟨_, e4 _ _ p2, ?_, as ++ [r], Ex.mut (p1.trans e4) hD, ?_, ?_, ?_, ?_, ?_⟩
    · rw [List.length_map, el]
      exact small1000 (by omega)
    · rw [upd_same, List.map_append]
      rfl
    · rw [List.range_succ, List.map_append]
      have st : ∀ a (l : List Int), a ≠ D → H4 a = some (.lst (l.map V.int)) → upd H4 D (.lst (as.map V.ref ++ [.ref r])) a = some (.lst (l.map V.int)) := fun a l n g => by
        rw [upd_ne n]
        exact g
      refine paired_snoc ?_ (st r _ nrD hr)
      have aux : ∀ {as' : List Addr} {rs : List (List Int)}, D ∉ as' → RowsAt H' as' rs → RowsAt (upd H4 D (.lst (as.map V.ref ++ [.ref r]))) as' rs := by
        intro as' rs hn hp
        induction hp with
        | nil => exact .nil
        | cons g t ih => exact .cons (st _ _ (fun z => hn (by rw [z]; exact List.mem_cons_self ..)) (e4 _ _ g)) (ih fun z => hn (List.mem_cons_of_mem _ z))
      exact aux p6 p3
    · intro a ha
      rcases List.mem_append.mp ha with h | h
      · exact p4 a h
      · have : a = r := by simpa using h
        rw [this]
        exact fresh_back (e1.trans p1) nr
    · refine List.nodup_append.mpr ⟨p5, by simp, fun a ha b hb => ?_⟩
      have : b = r := by simpa using hb
      rw [this]
      intro z
      rw [z] at ha
      obtain ⟨x, _, hx⟩ := paired_mem p3 ha
      rw [nr] at hx
      cases hx
    · intro ha
      rcases List.mem_append.mp ha with h | h
      · exact p6 h
      · exact nrD (by simpa using h : D = r).symm
  · obtain ⟨as, p1, p2, p3, p4, p5, p6⟩ := p
    have em : (m : Int).toNat = m := by omega
    rw [em] at p3
    exact k D as H' hDH p4 p5 p6 (e1.trans p1) ⟨p2, p3⟩
/-! ### a dict of rows by places -/
theorem nodup_sub {α : Type} [DecidableEq α] : ∀ {l1 l2 : List α}, l1.Nodup → (∀ x ∈ l1, x ∈ l2) → l1.length ≤ l2.length
  | [], _, _, _ => Nat.zero_le _
  | a :: t, l2, hn, hs => by
    have h1 := List.nodup_cons.mp hn
    have ha := hs a (List.mem_cons_self ..)
    have ih := nodup_sub (l1 := t) (l2 := l2.erase a) h1.2 fun x hx => (List.mem_erase_of_ne (fun z => h1.1 (by rw [← z]; exact hx))).mpr (hs x (List.mem_cons_of_mem _ hx))
    rw [List.length_erase_of_mem ha] at ih
    have := List.length_pos_of_mem ha
    simp only [List.length_cons]
    omega
theorem rep_flat : ∀ m : Nat, (List.replicate m [V.int 0]).flatten = (List.replicate m 0).map V.int
  | 0 => rfl
  | m + 1 => by
    rw [List.replicate_succ, List.flatten_cons, rep_flat m]
    rfl
theorem nodup_nums (m : Nat) : (numsTo m).Nodup := by
  unfold numsTo
  exact List.Pairwise.map _ (fun a b h z => h (by omega)) List.nodup_range
theorem val_mem : ∀ {kvs : List (Key × V)} {L : List Int} {x : Int}, kvs.map (·.1) = L.map Sum.inl → ((valV kvs (Sum.inl x : Key)).isSome = true ↔ x ∈ L)
  | [], L, x, h => by
    cases L with
    | nil => simp [valV]
    | cons a l => simp at h
  | kv :: r, L, x, h => by
    cases L with
    | nil => simp at h
    | cons a l =>
      have h1 : kv.1 = Sum.inl a ∧ r.map (·.1) = l.map Sum.inl := by
        have := List.cons.inj h
        exact ⟨this.1, this.2⟩
      have ih := val_mem (kvs := r) (L := l) (x := x) h1.2
      by_cases e : x = a
      · subst e
        rw [valV_pos h1.1]
        simp
      · have ne : ¬ kv.1 = Sum.inl x := by
          rw [h1.1]
          intro z
          exact e (Sum.inl.inj z).symm
        have e2 : valV (kv :: r) (Sum.inl x : Key) = valV r (Sum.inl x : Key) := by
          simp [valV, List.find?_cons, ne]
        rw [e2, ih, List.mem_cons]
        exact ⟨Or.inr, fun z => z.resolve_left e⟩
/-- the dict at d: rows of m whole numbers by the places L -/
structure FarOk (H : Hp) (d : Addr) (m : Nat) (kvs : List (Key × V)) (L : List Int) : Prop where
  at_ : H d = some (.dK kvs)
  keys : kvs.map (·.1) = L.map Sum.inl
  nd : L.Nodup
  inn : ∀ x ∈ L, 0 ≤ x ∧ x ≤ m
  row : ∀ x v, valV kvs (Sum.inl x : Key) = some v → ∃ (a : Addr) (ns : List Int), v = .ref a ∧ H a = some (.lst (ns.map V.int)) ∧ ns.length = m ∧ ∀ y ∈ ns, y.natAbs ≤ L.length
theorem FarOk.len {H : Hp} {d : Addr} {m : Nat} {kvs : List (Key × V)} {L : List Int} (h : FarOk H d m kvs L) : kvs.length = L.length := by
  rw [← List.length_map (f := (·.1)), h.keys, List.length_map]
theorem FarOk.le {H : Hp} {d : Addr} {m : Nat} {kvs : List (Key × V)} {L : List Int} (h : FarOk H d m kvs L) : L.length ≤ m + 1 := by
  have := nodup_sub (l2 := numsTo (m + 1)) h.nd fun x hx => mem_numsTo.mpr (by have := h.inn x hx; omega)
  rw [numsTo_length] at this
  exact this
theorem FarOk.all {H : Hp} {d : Addr} {m : Nat} {kvs : List (Key × V)} {L : List Int} (h : FarOk H d m kvs L) (hl : m < L.length) : ∀ x : Int, 0 ≤ x → x ≤ m → x ∈ L := by
  intro x h0 h1
  by_cases hx : x ∈ L
  · exact hx
  · have h2 := nodup_sub (l1 := x :: L) (l2 := numsTo (m + 1)) (List.nodup_cons.mpr ⟨hx, h.nd⟩) fun y hy => mem_numsTo.mpr (by
      rcases List.mem_cons.mp hy with rfl | hy
      · omega
      · have := h.inn y hy
        omega)
    rw [numsTo_length, List.length_cons] at h2
    omega
theorem FarOk.ex {H H' : Hp} {d : Addr} {m : Nat} {kvs : List (Key × V)} {L : List Int} (h : FarOk H d m kvs L) (e : Ex H H') : FarOk H' d m kvs L :=
  ⟨e _ _ h.at_, h.keys, h.nd, h.inn, fun x v hv => by
    obtain ⟨a, ns, h1, h2, h3, h4⟩ := h.row x v hv
    exact ⟨a, ns, h1, e _ _ h2, h3, h4⟩⟩
theorem FarOk.get {H : Hp} {d : Addr} {m : Nat} {kvs : List (Key × V)} {L : List Int} (h : FarOk H d m kvs L) {x : Int} (hx : x ∈ L) : ∃ (a : Addr) (ns : List Int), valV kvs (Sum.inl x : Key) = some (.ref a) ∧ H a = some (.lst (ns.map V.int)) ∧ ns.length = m ∧ ∀ y ∈ ns, y.natAbs ≤ L.length := by
  have hs := (val_mem h.keys).mpr hx
  obtain ⟨v, hv⟩ := Option.isSome_iff_exists.mp hs
  obtain ⟨a, ns, h1, h2, h3, h4⟩ := h.row x v hv
  subst h1
  exact ⟨a, ns, hv, h2, h3, h4⟩
theorem FarOk.no {H : Hp} {d : Addr} {m : Nat} {kvs : List (Key × V)} {L : List Int} (h : FarOk H d m kvs L) {x : Int} (hx : x ∉ L) : valV kvs (Sum.inl x : Key) = none := by
  cases q : valV kvs (Sum.inl x : Key) with
  | none => rfl
  | some v => exact absurd ((val_mem h.keys).mp (by rw [q]; rfl)) hx
theorem FarOk.some_ {H : Hp} {d : Addr} {m : Nat} {kvs : List (Key × V)} {L : List Int} (h : FarOk H d m kvs L) (x : Int) : (valV kvs (Sum.inl x : Key)).isSome = decide (x ∈ L) := by
  rw [Bool.eq_iff_iff, val_mem h.keys, decide_eq_true_iff]
theorem FarOk.put {H : Hp} {d : Addr} {m : Nat} {kvs : List (Key × V)} {L : List Int} {x : Int} {a : Addr} {ns : List Int} (h : FarOk H d m kvs L) (hx : x ∉ L) (h0 : 0 ≤ x ∧ x ≤ m) (ha : H a = some (.lst (ns.map V.int))) (hl : ns.length = m) (hb : ∀ y ∈ ns, y.natAbs ≤ L.length + 1) :
    FarOk (upd H d (.dK (putK kvs (Sum.inl x) (.ref a)))) d m (putK kvs (Sum.inl x) (.ref a)) (L ++ [x]) := by
  have hn := h.no hx
  have ne : ∀ b (l : List V), H b = some (.lst l) → b ≠ d := fun b l g => ne_of g h.at_ (by intro z; cases z)
  refine ⟨upd_same, ?_, ?_, ?_, ?_⟩
  · rw [putK_new _ hn, List.map_append, List.map_append, h.keys]
    rfl
  · refine List.nodup_append.mpr ⟨h.nd, by simp, fun y hy z hz => ?_⟩
    have : z = x := by simpa using hz
    rw [this]
    intro e
    exact hx (e ▸ hy)
  · intro y hy
    rcases List.mem_append.mp hy with q | q
    · exact h.inn y q
    · have : y = x := by simpa using q
      rw [this]
      exact h0
  · intro y v hv
    rw [valV_put] at hv
    rw [List.length_append]
    by_cases e : (Sum.inl y : Key) = Sum.inl x
    · rw [if_pos e] at hv
      have ev := Option.some.inj hv
      subst ev
      refine ⟨a, ns, rfl, ?_, hl, hb⟩
      rw [upd_ne (ne a _ ha)]
      exact ha
    · rw [if_neg e] at hv
      obtain ⟨b, l, h1, h2, h3, h4⟩ := h.row y v hv
      refine ⟨b, l, h1, ?_, h3, fun z hz => Nat.le_succ_of_le (h4 z hz)⟩
      rw [upd_ne (ne b _ h2)]
      exact h2
theorem ev_dget {σ : L2.St} {H : Hp} {i j : Nat} {d : Addr} {x : Int} {kvs : List (Key × V)} {v : V} (h1 : σ[i]? = some (some (.ref d))) (h2 : σ[j]? = some (some (.int x))) (hd : H d = some (.dK kvs)) (hv : valV kvs (Sum.inl x : Key) = some v) : Ev (tDGet (tVar i) (tVar j)) σ H v := fun H1 e Q q =>
  ⟨_, h1, _, h2, d, v, rfl, by rw [← hv]; exact DGet.k (k := Sum.inl x) (e _ _ hd), q H1 (Ex.refl _)⟩
/-- the kk-th number of the row that stands by x -/
def rowOf : Option HO → List Int
  | some (.lst xs) => xs.map fun v => match v with | .int i => i | _ => 0
  | _ => []
theorem rowOf_ints (ns : List Int) : rowOf (some (.lst (ns.map V.int))) = ns := by
  show (ns.map V.int).map (fun v => match v with | V.int i => i | _ => 0) = ns
  rw [List.map_map]
  exact List.map_id' ns
def valN (H : Hp) (kvs : List (Key × V)) (x : Int) (kk : Nat) : Int :=
  match valV kvs (Sum.inl x : Key) with
  | some (.ref a) => (rowOf (H a))[kk]?.getD 0
  | _ => 0
theorem valN_eq {H : Hp} {kvs : List (Key × V)} {x : Int} {kk : Nat} {a : Addr} {ns : List Int} (h : valV kvs (Sum.inl x : Key) = some (.ref a)) (g : H a = some (.lst (ns.map V.int))) : valN H kvs x kk = ns[kk]?.getD 0 := by
  unfold valN
  rw [h]
  show (rowOf (H a))[kk]?.getD 0 = _
  rw [g, rowOf_ints]
theorem atI_row {ns : List Int} {kk : Nat} (h : kk < ns.length) : atI (ns.map V.int) (kk : Int) = some (.int (ns[kk]?.getD 0)) := by
  refine atI_nat ?_
  rw [List.getElem?_map, List.getElem?_eq_getElem h]
  rfl
/-- a new table (new since H): m rows of w numbers, none greater than B -/
structure NewTab (H H' : Hp) (p : Addr) (as : List Addr) (rows : List (List Int)) (w B : Nat) : Prop where
  p0 : H p = none
  a0 : ∀ a ∈ as, H a = none
  nd : as.Nodup
  np : p ∉ as
  tab : Tab H' p as rows
  ok : ∀ r ∈ rows, r.length = w ∧ ∀ y ∈ r, y.natAbs ≤ B
theorem NewTab.ex {H H' H2 : Hp} {p : Addr} {as : List Addr} {rows : List (List Int)} {w B : Nat} (h : NewTab H H' p as rows w B) (e : Ex H' H2) : NewTab H H2 p as rows w B := ⟨h.p0, h.a0, h.nd, h.np, h.tab.ex e, h.ok⟩
theorem rows_but {H H' : Hp} : ∀ {as : List Addr} {rows : List (List Int)}, RowsAt H as rows → (∀ a ∈ as, ∀ o, H a = some o → H' a = some o) → RowsAt H' as rows
  | _, _, .nil, _ => .nil
  | _, _, .cons g t, h => .cons (h _ (List.mem_cons_self ..) _ g) (rows_but t fun a ha => h a (List.mem_cons_of_mem _ ha))
theorem NewTab.exB {H H' H2 : Hp} {s p : Addr} {as : List Addr} {rows : List (List Int)} {w B : Nat} (h : NewTab H H' p as rows w B) (e : ExB s H' H2) (hs : ∃ o, H s = some o) : NewTab H H2 p as rows w B := by
  obtain ⟨o, ho⟩ := hs
  have n1 : p ≠ s := fun z => by
    have := h.p0
    rw [z, ho] at this
    cases this
  have n2 : ∀ a ∈ as, a ≠ s := fun a ha z => by
    have := h.a0 a ha
    rw [z, ho] at this
    cases this
  exact ⟨h.p0, h.a0, h.nd, h.np, ⟨e _ _ n1 h.tab.1, rows_but h.tab.2 fun a ha o' g => e a o' (n2 a ha) g⟩, h.ok⟩
theorem NewTab.back {H0 H H' : Hp} {s p : Addr} {as : List Addr} {rows : List (List Int)} {w B : Nat} (h : NewTab H H' p as rows w B) (e : ExB s H0 H) (hs : ∃ o, H s = some o) : NewTab H0 H' p as rows w B :=
  ⟨fresh_B e h.p0 hs, fun a ha => fresh_B e (h.a0 a ha) hs, h.nd, h.np, h.tab, h.ok⟩
theorem NewTab.mono {H H' : Hp} {p : Addr} {as : List Addr} {rows : List (List Int)} {w B B' : Nat} (h : NewTab H H' p as rows w B) (hb : B ≤ B') : NewTab H H' p as rows w B' :=
  ⟨h.p0, h.a0, h.nd, h.np, h.tab, fun r hr => ⟨(h.ok r hr).1, fun y hy => Nat.le_trans ((h.ok r hr).2 y hy) hb⟩⟩
/-- found.append(a new row) -/
theorem NewTab.app {H H' H2 : Hp} {p r : Addr} {as : List Addr} {rows : List (List Int)} {row : List Int} {w B : Nat} (h : NewTab H H' p as rows w B) (e0 : ∀ a, H' a = none → H a = none) (e : Ex H' H2) (nr : H' r = none) (hr : H2 r = some (.lst (row.map V.int))) (hl : row.length = w) (hb : ∀ y ∈ row, y.natAbs ≤ B) :
    NewTab H (upd H2 p (.lst (as.map V.ref ++ [.ref r]))) p (as ++ [r]) (rows ++ [row]) w B := by
  have nrp : r ≠ p := fun z => by
    rw [z, h.tab.1] at nr
    cases nr
  have nra : r ∉ as := fun ha => by
    obtain ⟨x, _, hx⟩ := paired_mem h.tab.2 ha
    rw [nr] at hx
    cases hx
  refine ⟨h.p0, fun a ha => ?_, ?_, ?_, ⟨?_, ?_⟩, fun x hx => ?_⟩
  · rcases List.mem_append.mp ha with q | q
    · exact h.a0 a q
    · have : a = r := by simpa using q
      rw [this]
      exact e0 r nr
  · refine List.nodup_append.mpr ⟨h.nd, by simp, fun a ha b hb z => ?_⟩
    have : b = r := by simpa using hb
    exact nra (by rw [← this, ← z]; exact ha)
  · intro ha
    rcases List.mem_append.mp ha with q | q
    · exact h.np q
    · exact nrp (by simpa using q : p = r).symm
  · rw [upd_same, List.map_append]
    rfl
  · refine paired_snoc (rows_but h.tab.2 fun a ha o g => ?_) ?_
    · rw [upd_ne (fun z => h.np (by rw [← z]; exact ha))]
      exact e a o g
    · rw [upd_ne nrp]
      exact hr
  · rcases List.mem_append.mp hx with q | q
    · exact h.ok x q
    · have : x = row := by simpa using q
      rw [this]
      exact ⟨hl, hb⟩
theorem NewTab.new {H : Hp} {H1 : Hp} {p : Addr} {w B : Nat} (h : H p = none) (h1 : H1 p = some (.lst [])) : NewTab H H1 p [] [] w B := ⟨h, fun a ha => by simp at ha, List.nodup_nil, by simp, ⟨h1, .nil⟩, fun r hr => by simp at hr⟩
theorem noneB {s : Addr} {H H' : Hp} (e : ExB s H H') (hs : ∃ o, H' s = some o) : ∀ a, H' a = none → H a = none := fun a h => fresh_B e h hs
theorem ev_chain {r r' : R2} {ta tb tc : TE} {σ : L2.St} {H : Hp} {x y z : V} {b c : Bool} (ha : Ev ta σ H x) (hb : Ev tb σ H y) (hc : Ev tc σ H z) (h1 : RV r x y H (.bl b)) (h2 : RV r' y z H (.bl c)) : Ev (tChain r r' ta tb tc) σ H (.bl (b && c)) := fun H1 e Q q =>
  ha H1 e _ fun H2 e2 => hb H2 (e.trans e2) _ fun H3 e3 => h1 H3 ((e.trans e2).trans e3) _ fun H4 e4 => ⟨b, rfl, by
    cases b with
    | true =>
      show tc σ H4 _
      exact hc H4 (((e.trans e2).trans e3).trans e4) _ fun H5 e5 => h2 H5 ((((e.trans e2).trans e3).trans e4).trans e5) Q fun H6 e6 => q H6 ((((e2.trans e3).trans e4).trans e5).trans e6)
    | false =>
      show Q (.bl false) H4
      exact q H4 ((e2.trans e3).trans e4)⟩
theorem ev_int1 {ta : TE} {σ : L2.St} {H : Hp} {b : Bool} (h : Ev ta σ H (.bl b)) : Ev (tCB (fun xs H Q => (∃ i, xs = [V.int i] ∧ Q (V.int i) H) ∨ ∃ k, xs = [V.bl k] ∧ Q (V.int (if k = true then 1 else 0)) H) (tCons ta tNil)) σ H (.int (if b = true then 1 else 0)) := fun H1 e Q q =>
  h H1 e _ fun H2 e2 => .inr ⟨b, rfl, q H2 e2⟩
/-- [e for i in range(m)], e whole numbers -/
theorem el_rng {ta : TA} {te : TE} {vs : List Nat} {j m : Nat} {σ : L2.St} {H : Hp} (f : Nat → Int) (h : EvA ta σ H [.int (m : Int)]) (hm : m ≤ 1000) (hw : ∀ x, wipe ((wipe σ vs).set j (some x)) vs = wipe σ vs)
    (he : ∀ (i : Nat) H1, Ex H H1 → i < m → Ev te ((wipe σ vs).set j (some (.int (i : Int)))) H1 (.int (f i))) : EvL (tLc (iRng1 ta) (gName j) tYes te vs) σ H (((List.range m).map f).map V.int) := by
  have g := el_lcR1 (t := tYes) (te := te) (j := j) (vs := vs) (σ := σ) (H := H) (n := (m : Int)) (ta := ta) (fun _ => true) (fun o => .int (f o)) h (by omega) hw (fun o H1 e ho Hx ex Qx qx => qx Hx (Ex.refl _)) (fun o H1 e ho hf => he o H1 e (by omega))
  have eg : given (m : Int).toNat (fun _ => true) (fun o => V.int (f o)) = ((List.range m).map f).map V.int := by
    unfold given
    rw [Int.toNat_natCast, List.filter_eq_self.mpr (fun _ _ => rfl), List.map_map]
    rfl
  rw [eg] at g
  exact g
/-- [f(row) for row in rows] -/
theorem el_col {K : PySem.W.Frag} {n : Nat} {te : TE} {vs : List Nat} {j : Nat} {σ : L2.St} {H : Hp} {a : Addr} {bs : List Addr} {qs : List (List Int)} (f : List Int → Int) (hσ : σ[n]? = some (some (.ref a))) (hx : H a = some (.lst (bs.map V.ref))) (hE : RowsAt H bs qs) (hz : qs.length ≤ 1000)
    (hw : ∀ u, wipe ((wipe σ vs).set j (some u)) vs = wipe σ vs)
    (he : ∀ b r H1, r ∈ qs → H b = some (.lst (r.map V.int)) → Ex H H1 → Ev te ((wipe σ vs).set j (some (.ref b))) H1 (.int (f r))) : EvL (tLc (iList K (tVar n)) (gName j) tYes te vs) σ H ((qs.map f).map V.int) := fun H1 e1 Q q => by
  have hx1 := e1 _ _ hx
  have el : bs.length = qs.length := Paired.length hE
  refine ⟨_, hσ, a, rfl, ⟨_, SqL.of hx1⟩, fun D hD => ?_⟩
  refine lc_list (K := K) (a := a) (xs := bs.map V.ref) (fun i H' => Ex H1 H' ∧ H' D = some (.lst (((qs.map f).take i).map V.int))) ⟨Ex.new hD, upd_same⟩ (fun i H' _ p => SqL.of (p.1 _ _ hx1)) (fun i x H' gx p => ?_) (fun H' p => ?_)
  · obtain ⟨p1, p2⟩ := p
    rw [List.getElem?_map] at gx
    obtain ⟨b, hb, rfl⟩ := Option.map_eq_some_iff.mp gx
    obtain ⟨ed, hed, hr⟩ := paired_get hE hb
    refine ⟨hw _, ?_⟩
    show te _ _ _
    refine he b ed H (List.mem_of_getElem? hed) hr (Ex.refl H) _ (e1.trans p1) _ fun H4 e4 => ?_
    refine ⟨_, e4 _ _ p2, ?_, Ex.mut (p1.trans e4) hD, ?_⟩
    · rw [List.length_map, List.length_take, List.length_map]
      exact small1000 (by omega)
    · have hzz : (qs.map f)[i]? = some (f ed) := by rw [List.getElem?_map, hed]; rfl
      rw [upd_same, take_snoc hzz, List.map_append]
      rfl
  · obtain ⟨p1, p2⟩ := p
    rw [List.take_of_length_le (by rw [List.length_map, List.length_map]; omega)] at p2
    exact q D H' hD p1 p2
/-- [a number drawn for i in range(m)] -/
theorem lc_draw {ta : TA} {te : TE} {vs : List Nat} {j m : Nat} {σ : L2.St} {H : Hp} {Q : VK} {s : Addr} {n : Int} (P : Int → Prop) (h : EvA ta σ H [.int (m : Int)]) (hm : m ≤ 1000) (hs : SrcAt H s n) (hw : ∀ u, wipe ((wipe σ vs).set j (some u)) vs = wipe σ vs)
    (he : ∀ (i : Nat) H1, ExB s H H1 → i < m → SrcAt H1 s (n + i) → ∀ Q1 : VK, (∀ x H2, P x → ExB s H1 H2 → SrcAt H2 s (n + i + 1) → Q1 (.int x) H2) → te ((wipe σ vs).set j (some (.int (i : Int)))) H1 Q1)
    (k : ∀ (D : Addr) (ns : List Int) (H2 : Hp), H D = none → ExB s H H2 → SrcAt H2 s (n + m) → H2 D = some (.lst (ns.map V.int)) → ns.length = m → (∀ x ∈ ns, P x) → Q (.ref D) H2) : tLc (iRng1 ta) (gName j) tYes te vs σ H Q := by
  refine h H (Ex.refl H) _ fun H1 e1 => ⟨(m : Int), rfl, by omega, by omega, fun D hD => ?_⟩
  have hDH : H D = none := fresh_back e1 hD
  have hDs : D ≠ s := (hs.ex e1).ne hD
  refine lc_range (lo := 0) (n := (m : Int).toNat) (fun i H' => ∃ ns, ExB s H H' ∧ SrcAt H' s (n + i) ∧ H' D = some (.lst (ns.map V.int)) ∧ ns.length = i ∧ ∀ x ∈ ns, P x) ⟨[], ExB.of (e1.trans (Ex.new hD)), (hs.ex (e1.trans (Ex.new hD))).le (by omega), upd_same, rfl, fun x hx => by simp at hx⟩ (fun i H' hi p => ?_) (fun H' p => ?_)
  · obtain ⟨ns, p1, p2, p3, p4, p5⟩ := p
    have e0 : (0 : Int) + (i : Int) = (i : Int) := Int.zero_add _
    refine ⟨hw _, ?_⟩
    show te ((wipe σ vs).set j (some (.int ((0 : Int) + (i : Int))))) H' _
    rw [e0]
    refine he i H' p1 (by omega) p2 _ fun x H2 hx e2 s2 => ?_
    refine ⟨_, e2 _ _ hDs p3, small1000 (by rw [List.length_map]; omega), ns ++ [x], ?_, ?_, ?_, ?_, ?_⟩
    · refine fun b o nb hb => ?_
      rw [upd_ne (ne_of_none hb hDH)]
      exact e2 _ _ nb (p1 _ _ nb hb)
    · obtain ⟨a1, a2, a3, a4, a5, a6, a7, a8⟩ := s2
      exact ⟨a1, a2, a3, by rw [upd_ne hDs.symm]; exact a4, a5, a6, a7, by omega⟩
    · rw [upd_same, List.map_append]
      rfl
    · rw [List.length_append, p4]
      rfl
    · intro y hy
      rcases List.mem_append.mp hy with q | q
      · exact p5 y q
      · have : y = x := by simpa using q
        rw [this]
        exact hx
  · obtain ⟨ns, p1, p2, p3, p4, p5⟩ := p
    have em : (m : Int).toNat = m := by omega
    rw [em] at p4 p2
    exact k D ns H' hDH p1 p2 p3 p4 p5
/-- the same over a list of whole numbers -/
theorem lc_drawL {K : PySem.W.Frag} {tl te : TE} {vs : List Nat} {j : Nat} {σ : L2.St} {H : Hp} {Q : VK} {s a : Addr} {n : Int} {xs : List Int} (P : Int → Prop) (h : Ev tl σ H (.ref a)) (hx : H a = some (.lst (xs.map V.int))) (has : a ≠ s) (hm : xs.length ≤ 1000) (hs : SrcAt H s n) (hw : ∀ u, wipe ((wipe σ vs).set j (some u)) vs = wipe σ vs)
    (he : ∀ (i : Nat) (y : Int) H1, ExB s H H1 → i < xs.length → SrcAt H1 s (n + i) → ∀ Q1 : VK, (∀ x H2, P x → ExB s H1 H2 → SrcAt H2 s (n + i + 1) → Q1 (.int x) H2) → te ((wipe σ vs).set j (some (.int y))) H1 Q1)
    (k : ∀ (D : Addr) (ns : List Int) (H2 : Hp), H D = none → ExB s H H2 → SrcAt H2 s (n + xs.length) → H2 D = some (.lst (ns.map V.int)) → ns.length = xs.length → (∀ x ∈ ns, P x) → Q (.ref D) H2) : tLc (iList K tl) (gName j) tYes te vs σ H Q := by
  refine h H (Ex.refl H) _ fun H1 e1 => ⟨a, rfl, ⟨_, SqL.of (e1 _ _ hx)⟩, fun D hD => ?_⟩
  have hDH : H D = none := fresh_back e1 hD
  have hDs : D ≠ s := (hs.ex e1).ne hD
  refine lc_list (K := K) (a := a) (xs := xs.map V.int) (fun i H' => ∃ ns, ExB s H H' ∧ SrcAt H' s (n + i) ∧ H' D = some (.lst (ns.map V.int)) ∧ ns.length = i ∧ ∀ x ∈ ns, P x) ⟨[], ExB.of (e1.trans (Ex.new hD)), (hs.ex (e1.trans (Ex.new hD))).le (by omega), upd_same, rfl, fun x hx => by simp at hx⟩ (fun i H' _ ⟨_, p1, _⟩ => SqL.of (p1 _ _ has hx)) (fun i y H' gy p => ?_) (fun H' p => ?_)
  · obtain ⟨ns, p1, p2, p3, p4, p5⟩ := p
    rw [List.getElem?_map] at gy
    obtain ⟨y', hy', rfl⟩ := Option.map_eq_some_iff.mp gy
    have hi := (List.getElem?_eq_some_iff.mp hy').1
    refine ⟨hw _, ?_⟩
    show te _ H' _
    refine he i y' H' p1 hi p2 _ fun x H2 hx' e2 s2 => ?_
    refine ⟨_, e2 _ _ hDs p3, small1000 (by rw [List.length_map]; omega), ns ++ [x], ?_, ?_, ?_, ?_, ?_⟩
    · refine fun b o nb hb => ?_
      rw [upd_ne (ne_of_none hb hDH)]
      exact e2 _ _ nb (p1 _ _ nb hb)
    · obtain ⟨a1, a2, a3, a4, a5, a6, a7, a8⟩ := s2
      exact ⟨a1, a2, a3, by rw [upd_ne hDs.symm]; exact a4, a5, a6, a7, by omega⟩
    · rw [upd_same, List.map_append]
      rfl
    · rw [List.length_append, p4]
      rfl
    · intro z hz
      rcases List.mem_append.mp hz with q | q
      · exact p5 z q
      · have : z = x := by simpa using q
        rw [this]
        exact hx'
  · obtain ⟨ns, p1, p2, p3, p4, p5⟩ := p
    rw [List.length_map] at p4 p2
    exact k D ns H' hDH p1 p2 p3 p4 p5
theorem rows_set {H : Hp} {v : List V} {x : Addr} : ∀ {as : List Addr} {rows : List (List Int)} {k : Nat} {row : List Int}, RowsAt H as rows → as.Nodup → as[k]? = some x → v = row.map V.int → RowsAt (upd H x (.lst v)) as (rows.set k row)
  | _, _, _, _, .nil, _, h, _ => by simp at h
  | a :: as, r :: rows, 0, row, .cons g t, nd, h, hv => by
    have e : a = x := Option.some.inj h
    subst e
    have h1 := List.nodup_cons.mp nd
    refine .cons (by rw [upd_same, hv]) (rows_but t fun b hb o q => ?_)
    rw [upd_ne (fun z => h1.1 (by rw [← z]; exact hb))]
    exact q
  | a :: as, r :: rows, k + 1, row, .cons g t, nd, h, hv => by
    have h1 := List.nodup_cons.mp nd
    have hx : as[k]? = some x := h
    refine .cons ?_ (rows_set t h1.2 hx hv)
    rw [upd_ne (fun z => h1.1 (by rw [z]; exact List.mem_of_getElem? hx))]
    exact g
theorem NewTab.set {H H' : Hp} {p x : Addr} {as : List Addr} {rows : List (List Int)} {w B k j : Nat} {row : List Int} {y : Int} (h : NewTab H H' p as rows w B) (hx : as[k]? = some x) (hr : rows[k]? = some row) (hy : y.natAbs ≤ B) : NewTab H (upd H' x (.lst ((row.map V.int).set j (.int y)))) p as (rows.set k (row.set j y)) w B := by
  have npx : p ≠ x := fun z => h.np (by rw [z]; exact List.mem_of_getElem? hx)
  have o := h.ok row (List.mem_of_getElem? hr)
  refine ⟨h.p0, h.a0, h.nd, h.np, ⟨?_, rows_set h.tab.2 h.nd hx (by rw [List.map_set])⟩, fun r hr' => ?_⟩
  · rw [upd_ne npx]
    exact h.tab.1
  · rcases List.mem_or_eq_of_mem_set hr' with q | q
    · exact h.ok r q
    · rw [q]
      refine ⟨by rw [List.length_set]; exact o.1, fun z hz => ?_⟩
      rcases List.mem_or_eq_of_mem_set hz with q2 | q2
      · exact o.2 z q2
      · rw [q2]
        exact hy
section
variable {prog : Program} {w : World} {A : Around} {E : Value → Shared → Prop} {s : Shared}
theorem slice_rev2 {sl : Addr} {vl vu vs : Value} {Q : Int × Int × Nat → Shared → Prop} (hs : s.heap.IsSliceOf sl vl vu vs) (pl : IsPart vl none) (pu : IsPart vu none) (ps : IsPart vs (some (-1)))
    (h : Q (1, -1, 2) s) : wpAny (model prog w) A (Builtin.Slice.sliceApplied (.ref sl) (pure ((2 : Nat) : Int))) Q E s := by
  obtain ⟨os, hos, hcs, hds⟩ := id hs
  unfold Builtin.Slice.sliceApplied Builtin.Slice.sliceFields
  refine wpAny_bind (wpAny_bind (wpAny_field hos hds (x := vl) rfl (wpAny_bind (wpAny_field hos hds (x := vu) rfl (wpAny_bind (wpAny_field hos hds (x := vs) rfl (wpAny_pure ?_)))))))
  refine wpAny_bind (slicePart_ ps ?_)
  show wpAny _ _ (if ((-1 : Int) == 0) = true then _ else _) _ _ s
  rw [if_neg (by decide)]
  refine wpAny_bind (slicePart_ pl (wpAny_bind (slicePart_ pu (wpAny_bind (wpAny_pure ?_)))))
  exact wpAny_pure h
theorem item_rev2 {t sl : Addr} {x y vl vu vs : Value} {Q : Value → Shared → Prop} (ht : IsTup s.heap t #[x, y]) (hs : s.heap.IsSliceOf sl vl vu vs) (pl : IsPart vl none) (pu : IsPart vu none) (ps : IsPart vs (some (-1)))
    (h : Q (.ref s.heap.objs.size) { s with heap := s.heap.push { cls := .type "tuple", data := .seq #[y, x] } }) : wpAny (model prog w) A (getItem (.ref t) (.ref sl)) Q E s := by
  have htake : sizeOk (.seq (#[y, x] : Array Value)) := by
    show 2 ≤ sizeLine
    decide
  obtain ⟨os, hos, hcs, hds⟩ := id hs
  have hTs : s.TypeIs (.ref sl) "slice" := ⟨os, hos, hcs⟩
  unfold getItem
  try with_reducible refine wpAny_holding ?_
  first | refine wpAny_bind (wpAny_pure ?_) | skip
  refine wpAny_bind (wpAny_sequenceKey ht.typeIs (by decide) ?_)
  refine wpAny_bind (wpAny_callSpecial?_slot (name := Str.ofString "__getitem__") ht.typeIs PyProof.Rows.slot_tuple_getitem
    (wpAny_call_entry PyProof.Rows.slot_tuple_getitem ht.typeIs entry_tuple_getitem ?_ (args_tuple_getitem _ _)))
  show wpAny _ _ (Builtin.Tuple.tupleItemsOf (.ref t) >>= _) _ _ s
  refine wpAny_bind (tupleItemsOf_ ht ?_)
  refine wpAny_bind (wpAny_typeOf hTs ?_)
  rw [if_pos (by decide)]
  refine wpAny_bind (slice_rev2 hs pl pu ps ?_)
  show wpAny _ _ (if (((1 : Int) == 0 && (-1 : Int) == 1 && (2 : Nat) == 2) = true) then _ else _) _ _ s
  rw [if_neg (by decide)]
  first
    | exact wpAny_bind (m := Builtin.Tuple.tupleExact _) (wpAny_newObj_type (wpAny_pure ⟨_, rfl, wpAny_pure h⟩) htake)
    | exact wpAny_bind (m := Builtin.Tuple.tupleExact _) (wpAny_newObj_type (wpAny_bind (wpAny_pure (wpAny_pure ⟨_, rfl, wpAny_pure h⟩))) htake)
    | exact wpAny_bind (wpAny_bind (m := Builtin.Tuple.tupleExact _) (wpAny_newObj_type (wpAny_pure (wpAny_pure ⟨_, rfl, wpAny_pure h⟩)) htake))
    | exact wpAny_bind (wpAny_bind (m := Builtin.Tuple.tupleExact _) (wpAny_newObj_type (wpAny_pure ⟨_, rfl, wpAny_pure h⟩) htake))
end
section
variable {X : Cx}
/-- t[::-1], t a pair -/
def tRevT (K : PySem.W.Frag) (te : TE) : TE := fun σ H Q => te σ H fun v H1 => ∃ a x y, v = .ref a ∧ SqT K H1 a [x, y] ∧ ∀ p, H1 p = none → Q (.ref p) (upd H1 p (.tup [y, x]))
theorem pe_revT {e : Expr} {te : TE} {k : Nat} {p1 p2 p3 pos : Pos} (he : PE X e te) : PE X (.Subscript e (.Slice none none (some (.UnaryOp .USub (.Constant (.int 1) k p1) p2)) p3) pos) (tRevT X.K te) := by
  refine ⟨fun pins s σ H Q I h => ?_⟩
  refine Subscript_ (thn (he.run pins s σ H _ I h) fun v s1 ⟨z, H1, I1, r1, q1⟩ => ?_)
  obtain ⟨a, x, y, ex, hx, q⟩ := q1
  subst ex
  cases r1
  have hst : PO X (some (.UnaryOp .USub (.Constant (.int 1) k p1) p2)) (tPart (tUn (rU fun i => .int (-i)) (tC (.int 1)))) := po_some (pe_un un_neg pe_int)
  refine wpAny_Slice (thn (po_none.run pins s1 σ H1 (fun o H2 => o = none ∧ H2 = H1) I1 ⟨rfl, rfl⟩) fun vl s2 ⟨l, H2, I2, pl, el, e2⟩ => ?_)
  subst el e2
  refine thn (po_none.run pins s2 σ H2 (fun o H3 => o = none ∧ H3 = H2) I2 ⟨rfl, rfl⟩) fun vu s3 ⟨u, H3, I3, pu, eu, e3⟩ => ?_
  subst eu e3
  refine thn (hst.run pins s3 σ H3 (fun o H4 => o = some (-1) ∧ H4 = H3) I3 ⟨1, rfl, -1, rfl, rfl, rfl⟩) fun vs s4 ⟨o, H4, I4, ps, eo, e4⟩ => ?_
  subst eo e4
  have I5 : Inv X pins σ H4 { s4 with heap := s4.heap.push { cls := .type "slice", data := .fields #[vl, vu, vs] } } := I4.kept (t' := s4.toks) fun b ob q => Heap.get?_push_of_some _ q
  obtain ⟨its, r, ht, hz⟩ := I5.tuple hx
  obtain ⟨ua, ub, rfl, ra, rb⟩ := vals2 r
  show wpAny (model X.prog X.w) X.A (subscriptTail e (.Slice none none (some (.UnaryOp .USub (.Constant (.int 1) k p1) p2)) p3) (.ref a) (.ref s4.heap.objs.size)) (EP X pins σ Q) X.xe { s4 with heap := s4.heap.push { cls := .type "slice", data := .fields #[vl, vu, vs] } }
  refine tail_any (ops := [.ref a, .ref s4.heap.objs.size]) ht.typeIs (PyProof.Rows.slot_tuple_getitem.lookup) ?_ (by with_unfolding_all rfl)
  refine item_rev2 ht (Heap.IsSliceOf.new _ vl vu vs) pl pu ps ?_
  refine ⟨.ref _, _, I5.laid (t' := s4.toks) (o := .tup [y, x]) (fun b ob q => Heap.get?_push_of_some _ q) (Nat.le_refl _) ?_, rfl, q _ (I5.hok.fresh (Nat.le_refl _))⟩
  exact ⟨by show 2 ≤ sizeLine; decide, [ub, ua], .cons rb (.cons ra .nil), IsTup.new _ _⟩
end

theorem mem_dims {rows : List (List Int)} {w B : Nat} (h : ∀ r ∈ rows, r.length = w ∧ ∀ y ∈ r, y.natAbs ≤ B) {r : List Int} (hr : r ∈ rows) : r.length = w := (h r hr).1
/-- a table as the program takes it: 1 to 8 rows of 1 to 8 -/
structure TabOk (H : Hp) (p : Addr) (as : List Addr) (rows : List (List Int)) (m w : Nat) : Prop where
  tab : Tab H p as rows
  m_ : rows.length = m
  w_ : ∀ r ∈ rows, r.length = w
  b : 1 ≤ m ∧ m ≤ 8 ∧ 1 ≤ w ∧ w ≤ 8
theorem TabOk.ex {H H' : Hp} {p : Addr} {as : List Addr} {rows : List (List Int)} {m w : Nat} (h : TabOk H p as rows m w) (e : Ex H H') : TabOk H' p as rows m w := ⟨h.tab.ex e, h.m_, h.w_, h.b⟩
theorem TabOk.al {H : Hp} {p : Addr} {as : List Addr} {rows : List (List Int)} {m w : Nat} (h : TabOk H p as rows m w) : as.length = m := by rw [Paired.length h.tab.2, h.m_]
theorem TabOk.row0 {H : Hp} {p : Addr} {as : List Addr} {rows : List (List Int)} {m w : Nat} (h : TabOk H p as rows m w) : ∃ a0 r0, as[0]? = some a0 ∧ rows[0]? = some r0 ∧ H a0 = some (.lst (r0.map V.int)) ∧ r0.length = w ∧ atI (as.map V.ref) 0 = some (.ref a0) := by
  have hb := h.b
  have hl := h.al
  obtain ⟨a0, ha0⟩ : ∃ a0, as[0]? = some a0 := ⟨_, List.getElem?_eq_getElem (by omega)⟩
  obtain ⟨r0, hr0, hh⟩ := paired_get h.tab.2 ha0
  exact ⟨a0, r0, ha0, hr0, hh, h.w_ r0 (List.mem_of_getElem? hr0), atI_nat (j := 0) (by rw [List.getElem?_map, ha0]; rfl)⟩
theorem all_true (n : Nat) : (List.replicate n true).all id = true := by
  induction n with
  | zero => rfl
  | succ n ih => rw [List.replicate_succ, List.all_cons, ih]; rfl
/-- [f(x) for x in xs], each True -/
theorem el_yes {K : PySem.W.Frag} {n j : Nat} {a : Addr} {xs : List V} {te : TE} {vs : List Nat} {σ : L2.St} {H : Hp} (hσ : σ[n]? = some (some (.ref a))) (hx : H a = some (.lst xs)) (hl : xs.length ≤ 1000)
    (hs : ∀ x H', x ∈ xs → Ex H H' → Ev te ((wipe σ vs).set j (some x)) H' (.bl true)) (hw : ∀ x, wipe ((wipe σ vs).set j (some x)) vs = wipe σ vs) : EvL (tLc (iList K (tVar n)) (gName j) tYes te vs) σ H ((List.replicate xs.length true).map V.bl) := by
  intro H0 e0 Q0 q0
  have hx0 := e0 _ _ hx
  refine ⟨_, hσ, a, rfl, ⟨_, SqL.of hx0⟩, fun D hD => ?_⟩
  refine lc_list (K := K) (a := a) (xs := xs) (fun i H' => Ex H0 H' ∧ H' D = some (.lst ((List.replicate i true).map V.bl))) ⟨Ex.new hD, upd_same⟩ (fun i H' _ p => SqL.of (p.1 _ _ hx0)) (fun i x H' gx p => ?_) (fun H' p => ?_)
  · obtain ⟨p1, p2⟩ := p
    have hi := (List.getElem?_eq_some_iff.mp gx).1
    refine ⟨hw _, ?_⟩
    show te _ _ _
    refine hs x H (List.mem_of_getElem? gx) (Ex.refl H) _ (e0.trans p1) _ fun H4 e4 => ?_
    refine ⟨_, e4 _ _ p2, ?_, Ex.mut (p1.trans e4) hD, ?_⟩
    · rw [List.length_map, List.length_replicate]
      exact small1000 (by omega)
    · rw [upd_same, List.replicate_succ', List.map_append]
      rfl
  · obtain ⟨p1, p2⟩ := p
    exact q0 D H' hD p1 p2
theorem ev_all {K : PySem.W.Frag} {ta : TE} {n : Nat} {σ : L2.St} {H : Hp} (h : EvL ta σ H ((List.replicate n true).map V.bl)) : Ev (tCB (rAll K) (tCons ta tNil)) σ H (.bl true) := fun H1 e Q q =>
  h H1 e _ fun p H2 _ e2 hp => ⟨p, _, rfl, SqL.of hp, by rw [all_true]; exact q H2 e2⟩
theorem ev_fn {sp : Sp} {E : XK} {ta : TA} {σ : L2.St} {H : Hp} {vs : List V} {z : V} (h : EvA ta σ H vs) (hs : ∀ H1, Ex H H1 → ∀ Q : VK, (∀ H2, Ex H1 H2 → Q z H2) → sp vs H1 Q E) : Ev (tCall sp [] E ta) σ H z := fun H1 e Q q =>
  h H1 e _ fun H2 e2 => by
    rw [List.append_nil]
    exact hs H2 (e.trans e2) Q fun H3 e3 => q H3 (e2.trans e3)
theorem ev_isi {K : PySem.W.Frag} {ta tb : TE} {σ : L2.St} {H : Hp} {x : V} {n : String} {t : String} {b : Bool} (ha : Ev ta σ H x) (hb : Ev tb σ H (.ty n)) (ht : ∀ H1, Ex H H1 → TyX K H1 x (.type t)) (hk : kitB t n = some b) : Ev (tCB (rIsi K) (tCons ta (tCons tb tNil))) σ H (.bl b) := fun H1 e Q q =>
  ha H1 e _ fun H2 e2 => hb H2 (e.trans e2) _ fun H3 e3 => ⟨x, .ty n, _, _, b, rfl, .ty n, ht H3 ((e.trans e2).trans e3), kit_ty hk, q H3 (e2.trans e3)⟩
theorem rv_le {i j : Int} {H : Hp} : RV (rI0 fun i j => .bl (decide (i ≤ j))) (.int i) (.int j) H (.bl (decide (i ≤ j))) := rv_I0
/-- a rising list of places below n -/
def Rising (n : Int) (ns : List Int) : Prop := (∀ x ∈ ns, 0 ≤ x ∧ x < n) ∧ ns.Pairwise (· < ·)

/-- [[..] for y in ys], ys whole numbers: new rows -/
theorem lc_rowsL {K : PySem.W.Frag} {nn : Nat} {te : TE} {vs : List Nat} {j : Nat} {σ : L2.St} {H : Hp} {Q : VK} {a : Addr} {ys : List Int} (F : Int → List Int) (hσ : σ[nn]? = some (some (.ref a))) (hx : H a = some (.lst (ys.map V.int))) (hm : ys.length ≤ 1000) (hw : ∀ u, wipe ((wipe σ vs).set j (some u)) vs = wipe σ vs)
    (he : ∀ y H1, y ∈ ys → Ex H H1 → EvL te ((wipe σ vs).set j (some (.int y))) H1 ((F y).map V.int))
    (k : ∀ p as H2, H p = none → (∀ a ∈ as, H a = none) → as.Nodup → p ∉ as → Ex H H2 → Tab H2 p as (ys.map F) → Q (.ref p) H2) : tLc (iList K (tVar nn)) (gName j) tYes te vs σ H Q := by
  refine ⟨_, hσ, a, rfl, ⟨_, SqL.of hx⟩, fun D hD => ?_⟩
  refine lc_list (K := K) (a := a) (xs := ys.map V.int) (fun i H' => ∃ as, Ex H H' ∧ H' D = some (.lst (as.map V.ref)) ∧ RowsAt H' as ((ys.take i).map F) ∧ (∀ a ∈ as, H a = none) ∧ as.Nodup ∧ D ∉ as) ⟨[], Ex.new hD, upd_same, .nil, fun a ha => by simp at ha, List.nodup_nil, by simp⟩ (fun i H' _ ⟨_, p1, _⟩ => SqL.of (p1 _ _ hx)) (fun i x H' gx p => ?_) (fun H' p => ?_)
  · obtain ⟨as, p1, p2, p3, p4, p5, p6⟩ := p
    rw [List.getElem?_map] at gx
    obtain ⟨y, hy, rfl⟩ := Option.map_eq_some_iff.mp gx
    have hi := (List.getElem?_eq_some_iff.mp hy).1
    have el : as.length = i := by rw [Paired.length p3, List.length_map, List.length_take]; omega
    refine ⟨hw _, ?_⟩
    show te _ H' _
    refine he y H' (List.mem_of_getElem? hy) p1 H' (Ex.refl _) _ fun r H4 nr e4 hr => ?_
    have nrD : r ≠ D := fun z => by
      rw [z, p2] at nr
      cases nr
    refine ⟨_, e4 _ _ p2, ?_, as ++ [r], Ex.mut (p1.trans e4) hD, ?_, ?_, ?_, ?_, ?_⟩
    · rw [List.length_map, el]
      exact small1000 (by omega)
    · rw [upd_same, List.map_append]
      rfl
    · rw [take_snoc hy, List.map_append]
      refine paired_snoc (rows_but p3 fun b hb o g => ?_) ?_
      · rw [upd_ne (fun z => p6 (by rw [← z]; exact hb))]
        exact e4 _ _ g
      · rw [upd_ne nrD]
        exact hr
    · intro b hb
      rcases List.mem_append.mp hb with h | h
      · exact p4 b h
      · rw [show b = r by simpa using h]
        exact fresh_back p1 nr
    · refine List.nodup_append.mpr ⟨p5, by simp, fun b hb c hc z => ?_⟩
      have : c = r := by simpa using hc
      have hb' : r ∈ as := by rw [← this, ← z]; exact hb
      obtain ⟨x, _, hx'⟩ := paired_mem p3 hb'
      rw [nr] at hx'
      cases hx'
    · intro hb
      rcases List.mem_append.mp hb with h | h
      · exact p6 h
      · exact nrD (by simpa using h : D = r).symm
  · obtain ⟨as, p1, p2, p3, p4, p5, p6⟩ := p
    rw [List.length_map, List.take_length] at p3
    exact k D as H' hD p4 p5 p6 p1 ⟨p2, p3⟩
/-- [f(y) for y in ys], ys whole numbers -/
theorem el_mapI {K : PySem.W.Frag} {n : Nat} {te : TE} {vs : List Nat} {j : Nat} {σ : L2.St} {H : Hp} {a : Addr} {qs : List Int} (f : Int → Int) (hσ : σ[n]? = some (some (.ref a))) (hx : H a = some (.lst (qs.map V.int))) (hz : qs.length ≤ 1000)
    (hw : ∀ u, wipe ((wipe σ vs).set j (some u)) vs = wipe σ vs)
    (he : ∀ y H1, y ∈ qs → Ex H H1 → Ev te ((wipe σ vs).set j (some (.int y))) H1 (.int (f y))) : EvL (tLc (iList K (tVar n)) (gName j) tYes te vs) σ H ((qs.map f).map V.int) := fun H1 e1 Q q => by
  have hx1 := e1 _ _ hx
  refine ⟨_, hσ, a, rfl, ⟨_, SqL.of hx1⟩, fun D hD => ?_⟩
  refine lc_list (K := K) (a := a) (xs := qs.map V.int) (fun i H' => Ex H1 H' ∧ H' D = some (.lst (((qs.map f).take i).map V.int))) ⟨Ex.new hD, upd_same⟩ (fun i H' _ p => SqL.of (p.1 _ _ hx1)) (fun i x H' gx p => ?_) (fun H' p => ?_)
  · obtain ⟨p1, p2⟩ := p
    rw [List.getElem?_map] at gx
    obtain ⟨b, hb, rfl⟩ := Option.map_eq_some_iff.mp gx
    refine ⟨hw _, ?_⟩
    show te _ _ _
    refine he b H (List.mem_of_getElem? hb) (Ex.refl H) _ (e1.trans p1) _ fun H4 e4 => ?_
    refine ⟨_, e4 _ _ p2, ?_, Ex.mut (p1.trans e4) hD, ?_⟩
    · rw [List.length_map, List.length_take, List.length_map]
      exact small1000 (by omega)
    · have hzz : (qs.map f)[i]? = some (f b) := by rw [List.getElem?_map, hb]; rfl
      rw [upd_same, take_snoc hzz, List.map_append]
      rfl
  · obtain ⟨p1, p2⟩ := p
    rw [List.take_of_length_le (by rw [List.length_map, List.length_map]; omega)] at p2
    exact q D H' hD p1 p2
theorem TabOk.row {H : Hp} {p : Addr} {as : List Addr} {rows : List (List Int)} {m w : Nat} (h : TabOk H p as rows m w) {i : Int} (h0 : 0 ≤ i) (h1 : i < m) : ∃ a r, atI (as.map V.ref) i = some (.ref a) ∧ rows[i.toNat]? = some r ∧ H a = some (.lst (r.map V.int)) ∧ r.length = w := by
  have hl := h.al
  obtain ⟨a, ha⟩ : ∃ a, as[i.toNat]? = some a := ⟨_, List.getElem?_eq_getElem (by omega)⟩
  obtain ⟨r, hr, hh⟩ := paired_get h.tab.2 ha
  exact ⟨a, r, at_of (j := i.toNat) (by omega) (by rw [List.getElem?_map, ha]; rfl), hr, hh, h.w_ r (List.mem_of_getElem? hr)⟩
theorem atI_rowI {ns : List Int} {i : Int} (h0 : 0 ≤ i) (h : i < ns.length) : atI (ns.map V.int) i = some (.int (ns[i.toNat]?.getD 0)) := by
  have e : i = ((i.toNat : Nat) : Int) := by omega
  have h2 := atI_row (ns := ns) (kk := i.toNat) (by omega)
  rw [← e] at h2
  exact h2

/-- [[..] for x, row in zip(xs, rows)]: new rows -/
theorem lc_rowsZ {K : PySem.W.Frag} {ta : TA} {te : TE} {vs : List Nat} {j1 j2 : Nat} {σ : L2.St} {H : Hp} {Q : VK} {a b : Addr} {xs : List Int} {as : List Addr} {rows : List (List Int)} (F : Int → List Int → List Int) (h : EvA ta σ H [.ref a, .ref b]) (hx : H a = some (.lst (xs.map V.int))) (ht : Tab H b as rows) (hl : xs.length = rows.length) (hz : xs.length ≤ 1000)
    (hw : ∀ u v, wipe (((wipe σ vs).set j1 (some u)).set j2 (some v)) vs = wipe σ vs)
    (he : ∀ x c r H1, x ∈ xs → r ∈ rows → H c = some (.lst (r.map V.int)) → Ex H H1 → EvL te (((wipe σ vs).set j1 (some (.int x))).set j2 (some (.ref c))) H1 ((F x r).map V.int))
    (k : ∀ p bs H2, H p = none → (∀ a ∈ bs, H a = none) → bs.Nodup → p ∉ bs → Ex H H2 → Tab H2 p bs (List.zipWith F xs rows) → Q (.ref p) H2) : tLc (iZip K ta) (g2 K j1 j2) tYes te vs σ H Q := by
  refine h H (Ex.refl H) _ fun H1 e1 => ⟨a, b, _, _, rfl, SqL.of (e1 _ _ hx), SqL.of (e1 _ _ ht.1), fun D hD => ?_⟩
  have hDH : H D = none := fresh_back e1 hD
  have el0 : as.length = rows.length := Paired.length ht.2
  refine lc_zip (xs := xs.map V.int) (ys := as.map V.ref) (by rw [List.length_map, List.length_map, el0]; exact hl) (fun i H' => ∃ bs, Ex H1 H' ∧ H' D = some (.lst (bs.map V.ref)) ∧ RowsAt H' bs ((List.zipWith F xs rows).take i) ∧ (∀ a ∈ bs, H a = none) ∧ bs.Nodup ∧ D ∉ bs) ⟨[], Ex.new hD, upd_same, .nil, fun a ha => by simp at ha, List.nodup_nil, by simp⟩ (fun i H' ⟨_, p1, _⟩ => ⟨SqL.of ((e1.trans p1) _ _ hx), SqL.of ((e1.trans p1) _ _ ht.1)⟩) (fun i x y T H' gx gy p nT => ?_) (fun H' p => ?_)
  · obtain ⟨bs, p1, p2, p3, p4, p5, p6⟩ := p
    rw [List.getElem?_map] at gx gy
    obtain ⟨x', hx', rfl⟩ := Option.map_eq_some_iff.mp gx
    obtain ⟨c, hc, rfl⟩ := Option.map_eq_some_iff.mp gy
    obtain ⟨r, hr, hh⟩ := paired_get ht.2 hc
    have hi := (List.getElem?_eq_some_iff.mp hx').1
    have el : bs.length = i := by rw [Paired.length p3, List.length_take, List.length_zipWith]; omega
    have xT : Ex H' (upd H' T (.tup [.int x', .ref c])) := Ex.new nT
    refine ⟨T, _, rfl, SqT.of upd_same, rfl, _, _, rfl, _, _, rfl, rfl, hw _ _, ?_⟩
    show te _ _ _
    refine he x' c r H (List.mem_of_getElem? hx') (List.mem_of_getElem? hr) hh (Ex.refl H) _ ((e1.trans p1).trans xT) _ fun q H4 nq e4 hq => ?_
    have nqD : q ≠ D := fun z => by
      rw [z, xT _ _ p2] at nq
      cases nq
    have nqH' : H' q = none := fresh_back xT nq
    refine ⟨_, e4 _ _ (xT _ _ p2), ?_, bs ++ [q], Ex.mut ((p1.trans xT).trans e4) hD, ?_, ?_, ?_, ?_, ?_⟩
    · rw [List.length_map, el]
      exact small1000 (by omega)
    · rw [upd_same, List.map_append]
      rfl
    · have hzz : (List.zipWith F xs rows)[i]? = some (F x' r) := by rw [List.getElem?_zipWith, hx', hr]
      rw [take_snoc hzz]
      refine paired_snoc (rows_but p3 fun b hb o g => ?_) ?_
      · rw [upd_ne (fun z => p6 (by rw [← z]; exact hb))]
        exact e4 _ _ (xT _ _ g)
      · rw [upd_ne nqD]
        exact hq
    · intro b hb
      rcases List.mem_append.mp hb with h | h
      · exact p4 b h
      · rw [show b = q by simpa using h]
        exact fresh_back (e1.trans p1) nqH'
    · refine List.nodup_append.mpr ⟨p5, by simp, fun b hb c' hc' z => ?_⟩
      have : c' = q := by simpa using hc'
      have hb' : q ∈ bs := by rw [← this, ← z]; exact hb
      obtain ⟨y, _, hy⟩ := paired_mem p3 hb'
      rw [nqH'] at hy
      cases hy
    · intro hb
      rcases List.mem_append.mp hb with h | h
      · exact p6 h
      · exact nqD (by simpa using h : D = q).symm
  · obtain ⟨bs, p1, p2, p3, p4, p5, p6⟩ := p
    rw [List.take_of_length_le (by rw [List.length_zipWith, List.length_map]; omega)] at p3
    exact k D bs H' hDH p4 p5 p6 (e1.trans p1) ⟨p2, p3⟩
theorem flat_ints (ns : List Int) : (ns.map V.int).all flatV = true := by
  rw [List.all_eq_true]
  intro x hx
  obtain ⟨i, _, rfl⟩ := List.mem_map.mp hx
  rfl
/-- -1 at the picked places, else 1 -/
def sgnAt (ns : List Int) (kk : Nat) : Int := if inV (.int (kk : Int)) (ns.map V.int) = true then -1 else 1
theorem sgnAt_two (ns : List Int) (kk : Nat) : sgnAt ns kk = 1 ∨ sgnAt ns kk = -1 := by
  unfold sgnAt
  split
  · exact .inr rfl
  · exact .inl rfl
def sgns (ns : List Int) (m : Nat) : List Int := (List.range m).map (sgnAt ns)
theorem sgns_mem {ns : List Int} {m : Nat} {x : Int} (h : x ∈ sgns ns m) : x = 1 ∨ x = -1 := by
  obtain ⟨kk, _, rfl⟩ := List.mem_map.mp h
  exact sgnAt_two ns kk
def signedOf (rows : List (List Int)) (ris cis : List Int) (m w : Nat) : List (List Int) := List.zipWith (fun s r => List.zipWith (fun c y => s * c * y) (sgns cis w) r) (sgns ris m) rows
theorem bd_sgn {x : Int} (h : x = 1 ∨ x = -1) : Bd 2 x := by
  rcases h with rfl | rfl <;> (unfold Bd; decide)

section
variable {P : Program} {w : World} {K : PySem.W.Frag} {mg : Str → Option Value} {base : Heap}
-- TODO init_NoPick
-- DEF is_whole

def sp_is_whole (K : PySem.W.Frag) : Sp := fun vs H Q _ => ∃ (x : V) (t : String), vs = [x] ∧ TyX K H x (.type t) ∧ tyOk t ∧ Q (.bl (t == "int")) H

theorem ok_is_whole (T : Txt K mg) : FnOk P w K mg base CX0 1 T.f_is_whole T.fd_is_whole ["thing"] (sp_is_whole K) := by
  refine Fun.ok T.F_is_whole sc_is_whole (fun vs H Q E h => ?_) (fun cdv A outer s H vs Q E hr h => ?_)
  · obtain ⟨_, _, rfl, _⟩ := h; rfl
  · refine ⟨_, (pss_one (ps_ret (pe_and (pe_callB (id := "isinstance") (r := rIsi K) call_isi (by rfl) T.n_isinstance (by decide +kernel) (pa_cons (pv 0) (pa_cons (pe_bltn (v := .ty "int") (by rfl) T.n_int (by decide +kernel) rfl) pa_nil))) (pe_one (pe_not (pe_callB (id := "isinstance") (r := rIsi K) call_isi (by rfl) T.n_isinstance (by decide +kernel) (pa_cons (pv 0) (pa_cons (pe_bltn (v := .ty "bool") (by rfl) T.n_bool (by decide +kernel) rfl) pa_nil)))))))), ?_⟩
    obtain ⟨x, t, rfl, ty, ok, q⟩ := h
    refine ⟨x, rfl, x, _, _, _, _, rfl, ClsV.ty _, ty, kit_ty (ty_int ok), _, rfl, ?_⟩
    rcases ok with rfl | rfl | rfl | rfl | rfl | rfl | rfl
    · exact iteT ⟨x, rfl, x, _, _, _, _, rfl, ClsV.ty _, ty, kit_ty (ty_bool (.inl rfl)), _, rfl, q⟩
    · exact iteT ⟨x, rfl, x, _, _, _, _, rfl, ClsV.ty _, ty, kit_ty (ty_bool (.inr (.inl rfl))), _, rfl, q⟩
    all_goals exact iteF q
-- DEF _law_source_of

def sp__law_source_of (K : PySem.W.Frag) : Sp := fun vs H Q _ => ∃ c : Int, vs = [.int c] ∧ ∀ (s : Addr) (H' : Hp), H s = none → Ex H H' → SrcAt H' s 0 → Q (.ref s) H'

theorem ok__law_source_of (T : Txt K mg) : FnOk P w K mg base CX0 1 T.f__law_source_of T.fd__law_source_of ["_law_cell"] (sp__law_source_of K) := by
  refine Fun.ok T.F__law_source_of sc__law_source_of (fun vs H Q E h => ?_) (fun cdv A outer s H vs Q E hr h => ?_)
  · obtain ⟨_, rfl, _⟩ := h; rfl
  · refine ⟨_, (pss_one (ps_ret (pe_lst (pa_cons (pe_op op_mul (pv 0) (pe_callTy (T := "int") call_int1 (by rfl) T.n_int (by decide +kernel) (pa_cons (pe_cmpR op_ge (pv 0) (pe_op op_pow pe_int pe_int) (nomark _)) pa_nil))) (pa_cons (pe_op op_mod (pv 0) pe_int) (pa_cons pe_int pa_nil)))))), ?_⟩
    obtain ⟨c, rfl, k⟩ := h
    refine ⟨_, rfl, _, rfl, _, _, rfl, rfl, ⟨by decide, by decide, by decide⟩, _, _, rfl, rfl, .inr ⟨_, rfl, _, _, rfl, rfl, .inr ?_, ?_⟩⟩
    · split <;> exact ⟨by decide, by decide⟩
    refine ⟨_, rfl, _, _, rfl, rfl, (by show (0 : Int) < 2147483647; decide), (by show 3 ≤ sizeLine; decide), fun s hs => ?_⟩
    exact k s _ hs (Ex.new hs) ⟨_, _, _, upd_same, Int.emod_nonneg _ (by decide), Int.emod_lt_of_pos _ (by decide), Int.le_refl _, Int.le_refl _⟩
-- DEF _law_next

def sp__law_next (K : PySem.W.Frag) : Sp := fun vs H Q _ => ∃ (s : Addr) (m n : Int), vs = [.ref s, .int m] ∧ SrcAt H s n ∧ n ≤ 1000000000 ∧ 0 < m ∧ Bd 8000 m ∧
  ∀ (f : Int) (H' : Hp), 0 ≤ f → f < m → ExB s H H' → SrcAt H' s (n + 1) → Q (.int f) H'

theorem ok__law_next (T : Txt K mg) : FnOk P w K mg base CX0 1 T.f__law_next T.fd__law_next ["_law_source", "_law_many"] (sp__law_next K) := by
  refine Fun.ok T.F__law_next sc__law_next (fun vs H Q E h => ?_) (fun cdv A outer s H vs Q E hr h => ?_)
  · obtain ⟨_, _, _, rfl, _⟩ := h; rfl
  · refine ⟨_, (pss_cons (ps_if (pt_cmpR op_gt (pe_ix (r := rIxL K) ix_list (pv 0) pe_int (fun _ _ => rfl)) pe_int (nomark _))
        (pss_cons (ps_set (i := 2) sc__law_next.nd rfl (by first | exact Or.inl rfl | exact Or.inr rfl) (pe_op op_mod (pe_ix (r := rIxL K) ix_list (pv 0) pe_int (fun _ _ => rfl)) (pv 1)))
          (pss_cons (ps_asg (pe_op op_fdivW (pe_ix (r := rIxL K) ix_list (pv 0) pe_int (fun _ _ => rfl)) (pv 1)) (pg_sub (pv 0) pe_int set_list))
          (pss_one (ps_ret (pv 2)))))
        pss_nil)
      (pss_cons (ps_asg (pe_op op_add (pe_ix (r := rIxL K) ix_list (pv 0) pe_int (fun _ _ => rfl)) pe_int) (pg_sub (pv 0) pe_int set_list))
      (pss_cons (ps_set (i := 3) sc__law_next.nd rfl (by first | exact Or.inl rfl | exact Or.inr rfl) (pe_ix (r := rIxL K) ix_list (pe_lst (pa_cons pe_int (pa_cons pe_int (pa_cons pe_int (pa_cons pe_int (pa_cons pe_int (pa_cons pe_int (pa_cons pe_int pa_nil)))))))) (pe_op op_mod (pe_ix (r := rIxL K) ix_list (pv 0) pe_int (fun _ _ => rfl)) pe_int) (fun _ _ => rfl)))
      (pss_cons (ps_set (i := 4) sc__law_next.nd rfl (by first | exact Or.inl rfl | exact Or.inr rfl) (pe_op op_mod (pe_op op_pow (pe_op op_add (pe_op op_add (pe_ix (r := rIxL K) ix_list (pv 0) pe_int (fun _ _ => rfl)) (pe_op op_mul pe_int (pe_ix (r := rIxL K) ix_list (pv 0) pe_int (fun _ _ => rfl)))) pe_int) pe_int) (pv 3)))
      (pss_cons (ps_set (i := 4) sc__law_next.nd rfl (by first | exact Or.inl rfl | exact Or.inr rfl) (pe_op op_mod (pe_op op_mul (pe_op op_add (pv 4) (pe_ix (r := rIxL K) ix_list (pv 0) pe_int (fun _ _ => rfl))) (pe_op op_add (pe_op op_fdiv (pv 4) pe_int) pe_int)) (pv 3)))
      (pss_one (ps_ret (pe_op op_mod (pe_op op_fdiv (pv 4) pe_int) (pv 1))))))))), ?_⟩
    obtain ⟨s, m, n, rfl, ⟨p, u, r, hs, hu0, hu1, hr0, hr1⟩, hn, hm, bm, k⟩ := h
    refine ⟨_, rfl, s, _, _, _, rfl, rfl, SqL.of hs, rfl, _, _, rfl, rfl, _, rfl, ?_⟩
    refine ite2 (fun hp => ?_) (fun _ => ?_)
    · refine ⟨_, rfl, s, _, _, _, rfl, rfl, SqL.of hs, rfl, _, rfl, _, _, rfl, rfl, hm, ?_⟩
      refine ⟨_, rfl, s, _, _, _, rfl, rfl, SqL.of hs, rfl, _, rfl, _, _, rfl, rfl, Bd.divOk hm (bm.mono (by decide : 8000 ≤ 9000)), ?_⟩
      refine ⟨_, rfl, s, _, _, 0, rfl, rfl, hs, rfl, ?_⟩
      refine ⟨_, rfl, ?_⟩
      exact k _ _ (Int.emod_nonneg _ (by omega)) (Int.emod_lt_of_pos _ hm) (ExB.upd _ _ _) ⟨_, _, _, upd_same, hu0, hu1, hr0, by omega⟩
    · refine ⟨_, rfl, s, _, _, _, rfl, rfl, SqL.of hs, rfl, _, _, rfl, rfl, ?_⟩
      refine ⟨_, rfl, s, _, _, 2, rfl, rfl, hs, rfl, ?_⟩
      have hs2 : upd H s (.lst [.int p, .int u, .int (r + 1)]) s = some (.lst [.int p, .int u, .int (r + 1)]) := upd_same
      show tSeq _ _ _ _ (upd H s (.lst [.int p, .int u, .int (r + 1)]))
      generalize hH : upd H s (.lst [.int p, .int u, .int (r + 1)]) = H2 at hs2 ⊢
      refine ⟨(by show 7 ≤ sizeLine; decide), fun l hl => ?_⟩
      have nls : s ≠ l := ne_of_none hs2 hl
      have hs3 : upd H2 l (.lst [V.int 2147483647, V.int 2147483629, V.int 2147483587, V.int 2147483579, V.int 2147483563, V.int 2147483549, V.int 2147483543]) s = some (.lst [.int p, .int u, .int (r + 1)]) := by
        rw [upd_ne nls]
        exact hs2
      obtain ⟨pr, hpr, hp0, hp1⟩ := prime_at (r + 1) (by omega)
      refine ⟨_, rfl, s, _, _, _, rfl, rfl, SqL.of hs3, rfl, _, _, rfl, rfl, (by show (0 : Int) < 7; decide), l, _, _, _, rfl, rfl, SqL.of upd_same, hpr, ?_⟩
      have eH : ExB s H2 (upd H2 l (.lst [V.int 2147483647, V.int 2147483629, V.int 2147483587, V.int 2147483579, V.int 2147483563, V.int 2147483549, V.int 2147483543])) := ExB.of (Ex.new hl)
      generalize upd H2 l (.lst [V.int 2147483647, V.int 2147483629, V.int 2147483587, V.int 2147483579, V.int 2147483563, V.int 2147483549, V.int 2147483543]) = H3 at hs3 eH ⊢
      -- figure
      refine ⟨_, rfl, s, _, _, _, rfl, rfl, SqL.of hs3, rfl, _, rfl, s, _, _, _, rfl, rfl, SqL.of hs3, rfl, _, _, rfl, rfl, .inl ⟨by decide, by decide⟩, _, _, rfl, rfl, _, _, rfl, rfl, _, _, rfl, rfl, ⟨by decide, by decide, ?_⟩, ?_⟩
      · show (u + 7919 * (r + 1) + 1).natAbs < 2 ^ 64
        omega
      refine ⟨_, rfl, _, _, rfl, rfl, hp0, ?_⟩
      have f0 : 0 ≤ (u + 7919 * (r + 1) + 1) ^ (5 : Int).toNat % pr := Int.emod_nonneg _ (by omega)
      have f1 : (u + 7919 * (r + 1) + 1) ^ (5 : Int).toNat % pr < pr := Int.emod_lt_of_pos _ hp0
      show tSeq _ _ _ [some (.ref s), some (.int m), _, some (.int pr), some (.int ((u + 7919 * (r + 1) + 1) ^ (5 : Int).toNat % pr))] _
      generalize (u + 7919 * (r + 1) + 1) ^ (5 : Int).toNat % pr = f at f0 f1 ⊢
      refine ⟨_, rfl, _, rfl, s, _, _, _, rfl, rfl, SqL.of hs3, rfl, _, _, rfl, rfl, ?_⟩
      refine ⟨_, rfl, _, _, rfl, rfl, ⟨by decide, by decide⟩, _, _, rfl, rfl, _, _, rfl, rfl, .inl ?_, ?_⟩
      · constructor <;> omega
      refine ⟨_, rfl, _, _, rfl, rfl, hp0, ?_⟩
      refine ⟨_, rfl, _, _, rfl, rfl, ⟨by decide, by decide⟩, _, rfl, _, _, rfl, rfl, hm, ?_⟩
      refine k _ _ (Int.emod_nonneg _ (by omega)) (Int.emod_lt_of_pos _ hm) (ExB.trans ?_ eH) ⟨_, _, _, hs3, hu0, hu1, by omega, by omega⟩
      rw [← hH]
      exact ExB.upd _ _ _
-- DEF _law_cell_at

def sp__law_cell_at (K : PySem.W.Frag) : Sp := fun vs H Q _ => ∃ (a : Addr) (ns : List Int) (k : Int), vs = [.ref a, .int k] ∧ SqL K H a (ns.map V.int) ∧ 0 ≤ k ∧ ∀ c : Int, Q (.int c) H

theorem ok__law_cell_at (T : Txt K mg) : FnOk P w K mg base CX0 1 T.f__law_cell_at T.fd__law_cell_at ["_law_script", "_law_k"] (sp__law_cell_at K) := by
  refine Fun.ok T.F__law_cell_at sc__law_cell_at (fun vs H Q E h => ?_) (fun cdv A outer s H vs Q E hr h => ?_)
  · obtain ⟨_, _, _, rfl, _⟩ := h; rfl
  · refine ⟨_, (pss_cons (ps_if (pt_cmpR op_lt (pv 1) (pe_callB (id := "len") (r := rLenS K) call_len_seq (by rfl) T.n_len PySem.boot_len (pa_cons (pv 0) pa_nil)) (nomark _))
        (pss_one (ps_ret (pe_ix (r := rIxL K) ix_list (pv 0) (pv 1) (fun _ _ => rfl))))
        pss_nil)
      (pss_one (ps_ret pe_int))), ?_⟩
    obtain ⟨a, ns, k, rfl, hS, hk, q⟩ := h
    refine ⟨_, rfl, _, rfl, a, _, rfl, .inl hS, _, _, rfl, rfl, _, rfl, ?_⟩
    refine ite2 (fun hp => ?_) (fun _ => q 0)
    have hlt : k < ((ns.map V.int).length : Int) := of_decide_eq_true hp
    rw [List.length_map] at hlt
    have hn : k.toNat < ns.length := by omega
    have g : (ns.map V.int)[k.toNat]? = some (.int ns[k.toNat]) := by
      rw [List.getElem?_map, List.getElem?_eq_getElem hn]
      rfl
    refine ⟨_, rfl, _, rfl, a, _, k, _, rfl, rfl, hS, at_of (j := k.toNat) (by omega) g, ?_⟩
    exact q _
-- DEF _law_net

def sp__law_net (K : PySem.W.Frag) : Sp := fun vs H Q _ => ∃ (pE pA : Addr) (as bs : List Addr) (es qs : List (Int × Int)) (m : Nat), vs = [.ref pE, .ref pA] ∧ es.length = m ∧ 1 ≤ m ∧ m ≤ 8 ∧ H pE = some (.lst (as.map V.ref)) ∧ EdgesAt H as es ∧ H pA = some (.lst (bs.map V.ref)) ∧ EdgesAt H bs qs ∧ qs.length ≤ 8 ∧
  (∀ e ∈ es, 0 ≤ e.1 ∧ e.1 ≤ m ∧ 0 ≤ e.2 ∧ e.2 ≤ m) ∧ (∀ e ∈ qs, 0 ≤ e.1 ∧ e.1 ≤ m ∧ 0 ≤ e.2 ∧ e.2 ≤ m) ∧ Conn es m ∧
  ∀ (rs : List Addr) (rows : List (List Int)) (p : Addr) (H' : Hp), H p = none → (∀ a ∈ rs, H a = none) → rs.Nodup → p ∉ rs → Ex H H' → Tab H' p rs rows → rows.length = m → (∀ r ∈ rows, r.length = qs.length ∧ ∀ y ∈ r, y.natAbs ≤ 100) → Q (.ref p) H'

theorem ok__law_net (T : Txt K mg) : FnOk P w K mg base CX0 1 T.f__law_net T.fd__law_net ["_law_ends_here", "_law_arcs"] (sp__law_net K) := by
  refine Fun.ok T.F__law_net sc__law_net (fun vs H Q E h => ?_) (fun cdv A outer s H vs Q E hr h => ?_)
  · obtain ⟨_, _, _, _, _, _, _, rfl, _⟩ := h; rfl
  · refine ⟨_, (pss_cons (ps_set (i := 2) sc__law_net.nd rfl (by first | exact Or.inl rfl | exact Or.inr rfl) (pe_disp (pps_cons (pe_ix (r := rIxT K) ix_tup (pe_ix (r := rIxL K) ix_list (pv 0) pe_int (fun _ _ => rfl)) pe_int (fun _ _ => rfl)) (pe_op op_rep (pe_lst (pa_cons pe_int pa_nil)) (pe_callB (id := "len") (r := rLenS K) call_len_seq (by rfl) T.n_len PySem.boot_len (pa_cons (pv 0) pa_nil))) pps_nil) (by rfl) (by rfl) (fun z => by cases z) (by decide)))
      (pss_cons (ps_while PassesOwn.never (pt_cmpR op_le (pe_callB (id := "len") call_lenD (by rfl) T.n_len PySem.boot_len (pa_cons (pv 2) pa_nil)) (pe_callB (id := "len") (r := rLenS K) call_len_seq (by rfl) T.n_len PySem.boot_len (pa_cons (pv 0) pa_nil)) (nomark _))
        (pss_one (ps_for PassesOwn.never rfl (pi_enum (by rfl) T.n_enumerate (pa_cons (pv 0) pa_nil)) (pg_tup rfl (pgs_cons (pg_name (i := 3) sc__law_net.nd rfl (by first | exact Or.inl rfl | exact Or.inr rfl)) (pgs_cons (pg_tup rfl (pgs_cons (pg_name (i := 4) sc__law_net.nd rfl (by first | exact Or.inl rfl | exact Or.inr rfl)) (pgs_cons (pg_name (i := 5) sc__law_net.nd rfl (by first | exact Or.inl rfl | exact Or.inr rfl)) pgs_nil))) pgs_nil)))
            (pss_cons (ps_setLc (i := 6) (own := [("_law_other", 7)]) (g := gName 7) (tt := tYes) rfl sc__law_net.nd rfl rfl (sw_true rfl rfl rfl (by decide +kernel)) (pi_range1 (by rfl) T.n_range (pa_cons (pe_callB (id := "len") (r := rLenS K) call_len_seq (by rfl) T.n_len PySem.boot_len (pa_cons (pv 0) pa_nil)) pa_nil)) (blkOk_by (N := ["_law_ends_here", "_law_arcs", "_law_far", "_law_k", "_law_begin", "_law_goal", "_law_step", "_law_other", "_law_a", "_law_b"]) (sc := (defScope s__law_net)) (by decide +kernel)) (fun _ _ _ _ _ => pg_name (i := 7) sc__law_net.nd rfl (Or.inl rfl)) (fun _ _ _ _ _ => pts_nil) (fun _ _ _ _ _ => (pe_callTy (T := "int") call_int1 (by rfl) T.n_int (by decide +kernel) (pa_cons (pe_cmpR op_eq (pv 3) (pv 7) (nomark _)) pa_nil))))
              (pss_one (ps_if (PW.pt (pw_and (pt_cmp (pc_din (hu_of hr) (pv 4) (pv 2))) (pw_and1 (pt_cmp (pc_dnotin (hu_of hr) (pv 5) (pv 2))))))
                (pss_one (ps_dput (hu_of hr) (pv 2) (pv 5) (pe_lc (own := [("_law_a", 8), ("_law_b", 9)]) (wi := iZip K _) (g := gTup K 2 (gCons (gName 8) (gCons (gName 9) gNil))) (tt := tYes) rfl sc__law_net.nd (pi_zip (by rfl) T.n_zip (pa_cons (pe_dget (hu_of hr) (pv 2) (pv 4) (fun _ _ => rfl)) (pa_cons (pv 6) pa_nil))) (blkOk_by (N := ["_law_ends_here", "_law_arcs", "_law_far", "_law_k", "_law_begin", "_law_goal", "_law_step", "_law_other", "_law_a", "_law_b"]) (sc := (defScope s__law_net)) (by decide +kernel)) (fun _ _ _ _ _ => (pg_tup rfl (pgs_cons (pg_name (i := 8) sc__law_net.nd rfl (Or.inl rfl)) (pgs_cons (pg_name (i := 9) sc__law_net.nd rfl (Or.inl rfl)) pgs_nil)))) (fun _ _ _ _ _ => pts_nil) (fun _ _ _ _ _ => (pe_op op_add (pv 8) (pv 9)))) rfl))
                (pss_one (ps_if (PW.pt (pw_and (pt_cmp (pc_din (hu_of hr) (pv 5) (pv 2))) (pw_and1 (pt_cmp (pc_dnotin (hu_of hr) (pv 4) (pv 2))))))
                    (pss_one (ps_dput (hu_of hr) (pv 2) (pv 4) (pe_lc (own := [("_law_a", 8), ("_law_b", 9)]) (wi := iZip K _) (g := gTup K 2 (gCons (gName 8) (gCons (gName 9) gNil))) (tt := tYes) rfl sc__law_net.nd (pi_zip (by rfl) T.n_zip (pa_cons (pe_dget (hu_of hr) (pv 2) (pv 5) (fun _ _ => rfl)) (pa_cons (pv 6) pa_nil))) (blkOk_by (N := ["_law_ends_here", "_law_arcs", "_law_far", "_law_k", "_law_begin", "_law_goal", "_law_step", "_law_other", "_law_a", "_law_b"]) (sc := (defScope s__law_net)) (by decide +kernel)) (fun _ _ _ _ _ => (pg_tup rfl (pgs_cons (pg_name (i := 8) sc__law_net.nd rfl (Or.inl rfl)) (pgs_cons (pg_name (i := 9) sc__law_net.nd rfl (Or.inl rfl)) pgs_nil)))) (fun _ _ _ _ _ => pts_nil) (fun _ _ _ _ _ => (pe_op op_sub (pv 8) (pv 9)))) rfl))
                    pss_nil))))))))
      (pss_one (ps_ret (pe_lc (own := [("_law_k", 3)]) (g := gName 3) (tt := tYes) rfl sc__law_net.nd (pi_range1 (by rfl) T.n_range (pa_cons (pe_callB (id := "len") (r := rLenS K) call_len_seq (by rfl) T.n_len PySem.boot_len (pa_cons (pv 0) pa_nil)) pa_nil)) (blkOk_by (N := ["_law_ends_here", "_law_arcs", "_law_far", "_law_k", "_law_begin", "_law_goal", "_law_step", "_law_other", "_law_a", "_law_b"]) (sc := (defScope s__law_net)) (by decide +kernel)) (fun _ _ _ _ _ => pg_name (i := 3) sc__law_net.nd rfl (Or.inr rfl)) (fun _ _ _ _ _ => pts_nil) (fun _ _ _ _ _ => (pe_lc (own := [("_law_begin", 4), ("_law_goal", 5)]) (wi := iList K _) (g := gTup K 2 (gCons (gName 4) (gCons (gName 5) gNil))) (tt := tYes) rfl sc__law_net.nd (pi_list (pv 1)) (blkOk_by (N := ["_law_ends_here", "_law_arcs", "_law_far", "_law_k", "_law_begin", "_law_goal", "_law_step", "_law_other", "_law_a", "_law_b"]) (sc := (relS ({ kind := .function, names := [(".0", .local), ("_law_k", .cell), ("_law_arcs", .free), ("_law_far", .free)], isGenerator := false, isCoroutine := false } : Scope) (defScope s__law_net))) (by decide +kernel)) (fun _ _ _ _ _ => (pg_tup rfl (pgs_cons (pg_name (i := 4) sc__law_net.nd rfl (Or.inl rfl)) (pgs_cons (pg_name (i := 5) sc__law_net.nd rfl (Or.inl rfl)) pgs_nil)))) (fun _ _ _ _ _ => pts_nil) (fun _ _ _ _ _ => (pe_op op_sub (pe_ix (r := rIxL K) ix_list (pe_dget (hu_of hr) (pv 2) (pv 5) (fun _ _ => rfl)) (pv 3) (fun _ _ => rfl)) (pe_ix (r := rIxL K) ix_list (pe_dget (hu_of hr) (pv 2) (pv 4) (fun _ _ => rfl)) (pv 3) (fun _ _ => rfl))))))))))), ?_⟩
    obtain ⟨pE, pA, as, bs, es, qs, m, rfl, hes, hm1, hm8, hE, hEE, hA, hAE, hq8, he0, hq0, hC, k⟩ := h
    have hal : as.length = m := by rw [Paired.length hEE, hes]
    -- far
    obtain ⟨a0, as', rfl⟩ : ∃ a0 as', as = a0 :: as' := by
      cases as with
      | nil => simp at hal; omega
      | cons a r => exact ⟨a, r, rfl⟩
    obtain ⟨e0, es', rfl, h00⟩ : ∃ e0 es', es = e0 :: es' ∧ H a0 = some (.tup [.int e0.1, .int e0.2]) := by
      cases hEE with
      | cons g t => exact ⟨_, _, rfl, g⟩
    have hE0 := he0 e0 (List.mem_cons_self ..)
    refine fun d nd => ?_
    have x0 : Ex H (upd H d (.dK [])) := Ex.new nd
    refine ⟨_, rfl, pE, _, 0, _, rfl, rfl, SqL.of (x0 _ _ hE), atI_nat (j := 0) rfl, a0, _, 0, _, rfl, rfl, SqT.of (x0 _ _ h00), rfl, ?_⟩
    refine ⟨Nat.le_of_ble_eq_true rfl, fun z1 nz1 => ?_⟩
    have x1 : Ex (upd H d (.dK [])) (upd (upd H d (.dK [])) z1 (.lst [.int 0])) := Ex.new nz1
    refine ⟨_, rfl, pE, _, rfl, .inl (SqL.of ((x0.trans x1) _ _ hE)), z1, _, _, rfl, rfl, upd_same, ?_, ?_, ?_, fun z2 nz2 => ?_⟩
    · rw [List.length_map, hal]; omega
    · rw [List.length_map, hal]; omega
    · rw [List.length_map, hal]
      exact sz_of (by simp; omega)
    have zz : (List.replicate (((a0 :: as').map V.ref).length : Int).toNat [V.int 0]).flatten = (List.replicate m 0).map V.int := by
      rw [List.length_map, hal, Int.toNat_natCast]
      exact rep_flat m
    rw [zz]
    have x2 : Ex (upd (upd H d (.dK [])) z1 (.lst [.int 0])) (upd (upd (upd H d (.dK [])) z1 (.lst [.int 0])) z2 (.lst ((List.replicate m 0).map V.int))) := Ex.new nz2
    have hd2 := (x1.trans x2) _ _ (upd_same (H := H) (a := d) (o := .dK []))
    refine ⟨hd2, [(Sum.inl e0.1, .ref z2)], rfl, Nat.le_of_ble_eq_true rfl, ?_⟩
    have xa := (x0.trans x1).trans x2
    have hz2 : upd (upd (upd H d (.dK [])) z1 (.lst [.int 0])) z2 (.lst ((List.replicate m 0).map V.int)) z2 = some (.lst ((List.replicate m 0).map V.int)) := upd_same
    generalize upd (upd (upd H d (.dK [])) z1 (.lst [.int 0])) z2 (.lst ((List.replicate m 0).map V.int)) = H2 at hd2 xa hz2 ⊢
    clear x0 x1 x2 nz1 nz2 zz
    have z2d : z2 ≠ d := ne_of hz2 hd2 (by intro z; cases z)
    have F0 : FarOk (upd H2 d (.dK (mergeK [] [(Sum.inl e0.1, .ref z2)]))) d m [(Sum.inl e0.1, .ref z2)] [e0.1] := by
      refine ⟨upd_same, rfl, by simp, fun x hx => ?_, fun x v hv => ?_⟩
      · have : x = e0.1 := by simpa using hx
        rw [this]
        exact ⟨hE0.1, hE0.2.1⟩
      · have hx : x = e0.1 ∧ v = .ref z2 := by
          by_cases h : (Sum.inl e0.1 : Key) = Sum.inl x
          · rw [valV_pos (p := (Sum.inl e0.1, V.ref z2)) h] at hv
            exact ⟨(Sum.inl.inj h).symm, (Option.some.inj hv).symm⟩
          · have : valV [((Sum.inl e0.1 : Key), V.ref z2)] (Sum.inl x : Key) = none := by simp [valV, List.find?_cons, h]
            rw [this] at hv
            cases hv
        obtain ⟨_, rfl⟩ := hx
        refine ⟨z2, List.replicate m 0, rfl, ?_, List.length_replicate, fun y hy => ?_⟩
        · rw [upd_ne z2d]
          exact hz2
        · rw [List.eq_of_mem_replicate hy]
          exact Nat.zero_le _
    have XB : ExB d H (upd H2 d (.dK (mergeK [] [(Sum.inl e0.1, .ref z2)]))) := Ex.updB xa
    have ndl : ∀ {b : Addr} {o : HO}, H b = some o → b ≠ d := fun g => ne_of_none g nd
    generalize upd H2 d (.dK (mergeK [] [(Sum.inl e0.1, .ref z2)])) = H3 at F0 XB
    clear hz2 hd2 xa
    -- the loop
    refine ⟨fun μ σ H' => ∃ (y3 y4 y5 y6 y7 y8 y9 : Option V) (kvs : List (Key × V)) (L : List Int), σ = [some (.ref pE), some (.ref pA), some (.ref d), y3, y4, y5, y6, y7, y8, y9] ∧ μ = m + 1 - L.length ∧ ExB d H H' ∧ FarOk H' d m kvs L ∧ 1 ≤ L.length,
      ⟨m, _, _, _, _, _, _, _, _, _, rfl, rfl, XB, F0, Nat.le_refl 1⟩, ?_⟩
    rintro μ σ H4 ⟨y3, y4, y5, y6, y7, y8, y9, kvs, L, rfl, rfl, e4, F4, hL1⟩
    refine ⟨_, rfl, d, kvs, rfl, F4.at_, _, rfl, pE, _, rfl, .inl (SqL.of (e4 _ _ (ndl hE) hE)), _, _, rfl, rfl, _, rfl, ?_⟩
    rw [F4.len, List.length_map, hal]
    refine ite2 (fun hc => ?_) (fun hc => ?_)
    · have hLm : L.length ≤ m := by have := of_decide_eq_true hc; omega
      refine ⟨fun σ' H' => ∃ (y3 y4 y5 y6 y7 y8 y9 : Option V) (kvs' : List (Key × V)) (L' : List Int), σ' = [some (.ref pE), some (.ref pA), some (.ref d), y3, y4, y5, y6, y7, y8, y9] ∧ L.length < L'.length ∧ ExB d H H' ∧ FarOk H' d m kvs' L',
        fun σ' H' ⟨z3, z4, z5, z6, z7, z8, z9, kvs', L', a1, a2, a3, a4⟩ => ⟨m + 1 - L'.length, by omega, z3, z4, z5, z6, z7, z8, z9, kvs', L', a1, rfl, a3, a4, by omega⟩, ?_⟩
      refine ⟨_, rfl, pE, _, rfl, SqL.of (e4 _ _ (ndl hE) hE), for_enum (xs := (a0 :: as').map V.ref) (fun i σ' H' => ∃ (y3 y4 y5 y6 y7 y8 y9 : Option V) (kvs' : List (Key × V)) (L' : List Int), σ' = [some (.ref pE), some (.ref pA), some (.ref d), y3, y4, y5, y6, y7, y8, y9] ∧ ExB d H H' ∧ FarOk H' d m kvs' L' ∧
        (L.length < L'.length ∨ (L' = L ∧ ∀ j, j < i → ∀ e, (e0 :: es')[j]? = some e → (e.1 ∈ L ↔ e.2 ∈ L)))) ?_ (fun i σ' H' ⟨_, _, _, _, _, _, _, _, _, _, x, _, _⟩ => SqL.of (x _ _ (ndl hE) hE)) ?_ ?_⟩
      · exact ⟨_, _, _, _, _, _, _, _, _, rfl, e4, F4, .inr ⟨rfl, fun j hj => absurd hj (Nat.not_lt_zero _)⟩⟩
      · rintro i x T σ' H5 hi ⟨z3, z4, z5, z6, z7, z8, z9, kvs', L', rfl, e5, F5, hor⟩ nT
        rw [List.getElem?_map] at hi
        obtain ⟨ai, hai, rfl⟩ := Option.map_eq_some_iff.mp hi
        obtain ⟨ei, hei, hti⟩ := paired_get hEE hai
        have xT : Ex H5 (upd H5 T (.tup [.int (i : Nat), .ref ai])) := Ex.new nT
        have mi := he0 ei (List.mem_of_getElem? hei)
        refine ⟨T, _, rfl, SqT.of upd_same, rfl, _, _, rfl, _, _, rfl, ⟨ai, _, rfl, SqT.of (xT _ _ (e5 _ _ (ndl hti) hti)), rfl, _, _, rfl, _, _, rfl, rfl, rfl, ?_⟩⟩
        have F6 := F5.ex xT
        have e6 : ExB d H (upd H5 T (.tup [.int (i : Nat), .ref ai])) := e5.trans (ExB.of xT)
        generalize upd H5 T (.tup [.int (i : Nat), .ref ai]) = H6 at F6 e6 ⊢
        -- step
        have Est : EvL (tLc (iRng1 (tCons (tCB (rLenS K) (tCons (tVar 0) tNil)) tNil)) (gName 7) tYes (tCB (fun xs H Q => (∃ i, xs = [V.int i] ∧ Q (V.int i) H) ∨ ∃ k, xs = [V.bl k] ∧ Q (V.int (if k = true then 1 else 0)) H) (tCons (tOp rEq (tVar 3) (tVar 7)) tNil)) [7])
            [some (.ref pE), some (.ref pA), some (.ref d), some (.int (i : Nat)), some (.int ei.1), some (.int ei.2), z6, z7, z8, z9] H6 (((List.range m).map fun o => if decide (V.int (i : Nat) = V.int (o : Nat)) = true then (1 : Int) else 0).map V.int) := by
          have g := el_lcR1 (t := tYes) (te := tCB (fun xs H Q => (∃ i, xs = [V.int i] ∧ Q (V.int i) H) ∨ ∃ k, xs = [V.bl k] ∧ Q (V.int (if k = true then 1 else 0)) H) (tCons (tOp rEq (tVar 3) (tVar 7)) tNil)) (j := 7) (vs := [7]) (σ := [some (.ref pE), some (.ref pA), some (.ref d), some (.int (i : Nat)), some (.int ei.1), some (.int ei.2), z6, z7, z8, z9]) (H := H6) (n := (m : Int)) (ta := tCons (tCB (rLenS K) (tCons (tVar 0) tNil)) tNil)
            (fun _ => true) (fun o => .int (if decide (V.int (i : Nat) = V.int (o : Nat)) = true then 1 else 0)) (ea_cons (ev_is (ev_len (ev_var rfl) (SqL.of (e6 _ _ (ndl hE) hE))) (by rw [List.length_map, hal])) ea_nil) (by omega) (fun x => rfl) (fun o H1 e ho Hx ex Qx qx => qx Hx (Ex.refl _)) (fun o H1 e ho hf H2 e2 Q2 q2 => ⟨_, rfl, _, rfl, rfl, .inr ⟨_, rfl, q2 H2 (Ex.refl _)⟩⟩)
          have eg : given (m : Int).toNat (fun _ => true) (fun o => V.int (if decide (V.int (i : Nat) = V.int (o : Nat)) = true then 1 else 0)) = ((List.range m).map fun o => if decide (V.int (i : Nat) = V.int (o : Nat)) = true then (1 : Int) else 0).map V.int := by
            unfold given
            rw [Int.toNat_natCast, List.filter_eq_self.mpr (fun _ _ => rfl), List.map_map]
            rfl
          rw [eg] at g
          exact g
        refine q_asgL Est fun st H7 _ e7 hst => ?_
        have F7 := F6.ex e7
        have e07 := e6.trans (ExB.of e7)
        have stb : ∀ y ∈ (List.range m).map fun o => if decide (V.int (i : Nat) = V.int (o : Nat)) = true then (1 : Int) else 0, y = 0 ∨ y = 1 := by
          intro y hy
          obtain ⟨o, _, rfl⟩ := List.mem_map.mp hy
          split
          · exact .inr rfl
          · exact .inl rfl
        have stl : ((List.range m).map fun o => if decide (V.int (i : Nat) = V.int (o : Nat)) = true then (1 : Int) else 0).length = m := by
          rw [List.length_map, List.length_range]
        generalize ((List.range m).map fun o => if decide (V.int (i : Nat) = V.int (o : Nat)) = true then (1 : Int) else 0) = sl at hst stb stl
        -- the ifs
        have nxt : ∀ H', ExB d H H' → FarOk H' d m kvs' L' → (ei.1 ∈ L' ↔ ei.2 ∈ L') → ∃ (y3 y4 y5 y6 y7 y8 y9 : Option V) (kvs' : List (Key × V)) (L' : List Int), [some (V.ref pE), some (.ref pA), some (.ref d), some (.int (i : Nat)), some (.int ei.1), some (.int ei.2), some (.ref st), z7, z8, z9] = [some (.ref pE), some (.ref pA), some (.ref d), y3, y4, y5, y6, y7, y8, y9] ∧ ExB d H H' ∧ FarOk H' d m kvs' L' ∧
            (L.length < L'.length ∨ (L' = L ∧ ∀ j, j < i + 1 → ∀ e, (e0 :: es')[j]? = some e → (e.1 ∈ L ↔ e.2 ∈ L))) := by
          intro H' x1 x2 x3
          refine ⟨_, _, _, _, _, _, _, kvs', L', rfl, x1, x2, ?_⟩
          rcases hor with h | ⟨rfl, h⟩
          · exact .inl h
          · refine .inr ⟨rfl, fun j hj e he => ?_⟩
            by_cases hji : j < i
            · exact h j hji e he
            · have : j = i := by omega
              subst this
              rw [hei] at he
              have := Option.some.inj he
              rw [← this]
              exact x3
        have grow : ∀ (x : Int) (a : Addr) (ns : List Int) (H' : Hp), ExB d H H' → FarOk H' d m kvs' L' → x ∉ L' → 0 ≤ x ∧ x ≤ m → H' a = some (.lst (ns.map V.int)) → ns.length = m → (∀ y ∈ ns, y.natAbs ≤ L'.length + 1) → ∃ (y3 y4 y5 y6 y7 y8 y9 : Option V) (kvs2 : List (Key × V)) (L2 : List Int), [some (V.ref pE), some (.ref pA), some (.ref d), some (.int (i : Nat)), some (.int ei.1), some (.int ei.2), some (.ref st), z7, z8, z9] = [some (.ref pE), some (.ref pA), some (.ref d), y3, y4, y5, y6, y7, y8, y9] ∧ ExB d H (upd H' d (.dK (putK kvs' (Sum.inl x) (.ref a)))) ∧ FarOk (upd H' d (.dK (putK kvs' (Sum.inl x) (.ref a)))) d m kvs2 L2 ∧
            (L.length < L2.length ∨ (L2 = L ∧ ∀ j, j < i + 1 → ∀ e, (e0 :: es')[j]? = some e → (e.1 ∈ L ↔ e.2 ∈ L))) := by
          intro x a ns H' x1 x2 x3 x4 x5 x6 x7
          refine ⟨_, _, _, _, _, _, _, _, L' ++ [x], rfl, x1.trans (ExB.upd _ _ _), x2.put x3 x4 x5 x6 x7, .inl ?_⟩
          rw [List.length_append]
          simp only [List.length_cons, List.length_nil]
          rcases hor with h | ⟨rfl, _⟩ <;> omega
        have hkv : kvs'.length < sizeLine := small1000 (by have := F7.len; have := F7.le; omega)
        show tIfS _ _ _ _ [some (V.ref pE), some (.ref pA), some (.ref d), some (.int (i : Nat)), some (.int ei.1), some (.int ei.2), some (.ref st), z7, z8, z9] H7
        refine ⟨_, rfl, _, rfl, d, _, rfl, DGet.k (k := Sum.inl ei.1) F7.at_, _, rfl, ?_⟩
        rw [F7.some_ ei.1]
        have snd : (∀ H', Ex H7 H' → ei.1 ∉ L' ∨ ei.2 ∈ L' → tIfS (tAnd (tB (tDIn (tVar 5) (tVar 2))) (tB (tDNotIn (tVar 4) (tVar 2)))) (sDPut (tVar 2) (tVar 4) (tLc (iZip K (tCons (tDGet (tVar 2) (tVar 5)) (tCons (tVar 6) tNil))) (g2 K 8 9) tYes (tOp (rI0 fun i j => V.int (i - j)) (tVar 8) (tVar 9)) [8, 9])) tNext
            { nx := fun σ' H' => ∃ (y3 y4 y5 y6 y7 y8 y9 : Option V) (kvs' : List (Key × V)) (L' : List Int), σ' = [some (.ref pE), some (.ref pA), some (.ref d), y3, y4, y5, y6, y7, y8, y9] ∧ ExB d H H' ∧ FarOk H' d m kvs' L' ∧ (L.length < L'.length ∨ (L' = L ∧ ∀ j, j < i + 1 → ∀ e, (e0 :: es')[j]? = some e → (e.1 ∈ L ↔ e.2 ∈ L))), rt := Q,
              bk := fun σ' H' => ∃ (y3 y4 y5 y6 y7 y8 y9 : Option V) (kvs' : List (Key × V)) (L' : List Int), σ' = [some (.ref pE), some (.ref pA), some (.ref d), y3, y4, y5, y6, y7, y8, y9] ∧ L.length < L'.length ∧ ExB d H H' ∧ FarOk H' d m kvs' L',
              ct := fun σ' H' => ∃ (y3 y4 y5 y6 y7 y8 y9 : Option V) (kvs' : List (Key × V)) (L' : List Int), σ' = [some (.ref pE), some (.ref pA), some (.ref d), y3, y4, y5, y6, y7, y8, y9] ∧ ExB d H H' ∧ FarOk H' d m kvs' L' ∧ (L.length < L'.length ∨ (L' = L ∧ ∀ j, j < i + 1 → ∀ e, (e0 :: es')[j]? = some e → (e.1 ∈ L ↔ e.2 ∈ L))) }
            [some (V.ref pE), some (.ref pA), some (.ref d), some (.int (i : Nat)), some (.int ei.1), some (.int ei.2), some (.ref st), z7, z8, z9] H') := by
          intro H' x1 hno
          have F8 := F7.ex x1
          have e8 := e07.trans (ExB.of x1)
          refine ⟨_, rfl, _, rfl, d, _, rfl, DGet.k (k := Sum.inl ei.2) F8.at_, _, rfl, ?_⟩
          rw [F8.some_ ei.2]
          by_cases h2 : ei.2 ∈ L'
          · rw [decide_eq_true h2]
            refine iteT ?_
            refine ⟨_, rfl, _, rfl, d, _, rfl, DGet.k (k := Sum.inl ei.1) F8.at_, _, rfl, ?_⟩
            rw [F8.some_ ei.1]
            by_cases h1 : ei.1 ∈ L'
            · rw [decide_eq_true h1]
              exact iteF (nxt _ e8 F8 ⟨fun _ => h2, fun _ => h1⟩)
            · rw [decide_eq_false h1]
              refine iteT ?_
              obtain ⟨ar, ns, hv, har, hnl, hnb⟩ := F8.get h2
              refine el_zip (K := K) (f := fun i j => i - j) (xs := ns) (ys := sl) (ea_cons (ev_dget rfl rfl F8.at_ hv) (ea_cons (ev_var rfl) ea_nil)) (SqL.of har) (SqL.of (x1 _ _ hst)) (by rw [hnl, stl]) (by omega) (fun u v => rfl) (fun x y H1 _ _ _ => ev_op (ev_var rfl) (ev_var rfl) rv_I0) H' (Ex.refl _) _ fun r H9 nr e9 hr => ?_
              have F9 := F8.ex e9
              refine ⟨_, rfl, _, rfl, d, _, rfl, DPut.k (k := Sum.inl ei.1) F9.at_ hkv, ?_⟩
              refine grow _ r _ H9 (e8.trans (ExB.of e9)) F9 h1 ⟨mi.1, mi.2.1⟩ hr (by rw [List.length_zipWith]; omega) fun y hy => ?_
              obtain ⟨u, v, hu, hv', rfl⟩ : ∃ u v, u ∈ ns ∧ v ∈ sl ∧ u - v = y := by
                obtain ⟨j, hj⟩ := List.getElem?_of_mem hy
                rw [List.getElem?_zipWith] at hj
                cases h3 : ns[j]? with
                | none => rw [h3] at hj; simp at hj
                | some u =>
                  cases h4 : sl[j]? with
                  | none => rw [h3, h4] at hj; simp at hj
                  | some v =>
                    rw [h3, h4] at hj
                    exact ⟨u, v, List.mem_of_getElem? h3, List.mem_of_getElem? h4, Option.some.inj hj⟩
              have b1 := hnb u hu
              rcases stb v hv' with rfl | rfl <;> omega
          · rw [decide_eq_false h2]
            refine iteF ?_
            have h1 : ei.1 ∉ L' := hno.resolve_right h2
            exact nxt _ e8 F8 ⟨fun z => absurd z h1, fun z => absurd z h2⟩
        by_cases h1 : ei.1 ∈ L'
        · rw [decide_eq_true h1]
          refine iteT ?_
          refine ⟨_, rfl, _, rfl, d, _, rfl, DGet.k (k := Sum.inl ei.2) F7.at_, _, rfl, ?_⟩
          rw [F7.some_ ei.2]
          by_cases h2 : ei.2 ∈ L'
          · rw [decide_eq_true h2]
            exact iteF (snd H7 (Ex.refl _) (.inr h2))
          · rw [decide_eq_false h2]
            refine iteT ?_
            obtain ⟨ar, ns, hv, har, hnl, hnb⟩ := F7.get h1
            refine el_zip (K := K) (f := fun i j => i + j) (xs := ns) (ys := sl) (ea_cons (ev_dget rfl rfl F7.at_ hv) (ea_cons (ev_var rfl) ea_nil)) (SqL.of har) (SqL.of hst) (by rw [hnl, stl]) (by omega) (fun u v => rfl) (fun x y H1 _ _ _ => ev_op (ev_var rfl) (ev_var rfl) rv_I0) H7 (Ex.refl _) _ fun r H9 nr e9 hr => ?_
            have F9 := F7.ex e9
            refine ⟨_, rfl, _, rfl, d, _, rfl, DPut.k (k := Sum.inl ei.2) F9.at_ hkv, ?_⟩
            refine grow _ r _ H9 (e07.trans (ExB.of e9)) F9 h2 ⟨mi.2.2.1, mi.2.2.2⟩ hr (by rw [List.length_zipWith]; omega) fun y hy => ?_
            obtain ⟨u, v, hu, hv', rfl⟩ : ∃ u v, u ∈ ns ∧ v ∈ sl ∧ u + v = y := by
              obtain ⟨j, hj⟩ := List.getElem?_of_mem hy
              rw [List.getElem?_zipWith] at hj
              cases h3 : ns[j]? with
              | none => rw [h3] at hj; simp at hj
              | some u =>
                cases h4 : sl[j]? with
                | none => rw [h3, h4] at hj; simp at hj
                | some v =>
                  rw [h3, h4] at hj
                  exact ⟨u, v, List.mem_of_getElem? h3, List.mem_of_getElem? h4, Option.some.inj hj⟩
            have b1 := hnb u hu
            rcases stb v hv' with rfl | rfl <;> omega
        · rw [decide_eq_false h1]
          exact iteF (snd H7 (Ex.refl _) (.inl h1))
      · rintro σ' H5 ⟨z3, z4, z5, z6, z7, z8, z9, kvs', L', rfl, e5, F5, hor⟩
        refine ⟨z3, z4, z5, z6, z7, z8, z9, kvs', L', rfl, ?_, e5, F5⟩
        rcases hor with h | ⟨rfl, h⟩
        · exact h
        · exfalso
          rw [List.length_map, hal] at h
          obtain ⟨x0, hx0⟩ : ∃ x0, x0 ∈ L' := by
            cases L' with
            | nil => simp at hL1
            | cons x r => exact ⟨x, List.mem_cons_self ..⟩
          have hS := hC (fun x => decide (x ∈ L')) (fun e he => by
            obtain ⟨j, hj⟩ := List.getElem?_of_mem he
            have := h j (by have := (List.getElem?_eq_some_iff.mp hj).1; omega) e hj
            by_cases q : e.1 ∈ L'
            · rw [decide_eq_true q, decide_eq_true (this.mp q)]
            · rw [decide_eq_false q, decide_eq_false (fun z => q (this.mpr z))])
          have hall : ∀ x ∈ numsTo (m + 1), x ∈ L' := by
            intro x hx
            have hx := mem_numsTo.mp hx
            have i0 := F5.inn x0 hx0
            have := hS x x0 (by omega) (by omega) i0.1 i0.2
            rw [decide_eq_true hx0] at this
            exact of_decide_eq_true this
          have := nodup_sub (nodup_nums (m + 1)) hall
          rw [numsTo_length] at this
          omega
    · have hLm : m < L.length := by
        have : ¬ ((L.length : Int) ≤ (m : Int)) := fun z => hc (decide_eq_true z)
        omega
      have hall := F4.all hLm
      have hEl := e4 _ _ (ndl hE) hE
      have hAl := e4 _ _ (ndl hA) hA
      have hAE4 : EdgesAt H4 bs qs := EdgesAt.mono (fun a xs g => e4 _ _ (ndl g) g) hAE
      -- the rows
      refine lc_rows (m := m) (F := fun kk => qs.map fun e => (valN H4 kvs e.2 kk) - (valN H4 kvs e.1 kk)) (ea_cons (ev_is (ev_len (ev_var rfl) (SqL.of hEl)) (by rw [List.length_map, hal])) ea_nil) (by omega) (fun u => rfl) ?_ ?_
      · intro kk H5 x5 hkk
        refine el_pairs (K := K) (f := fun e => (valN H4 kvs e.2 kk) - (valN H4 kvs e.1 kk)) rfl (x5 _ _ hAl) (EdgesAt.mono (tups_E x5) hAE4) (by omega) (fun u v => rfl) fun e H6 he x6 => ?_
        have mq := hq0 e he
        obtain ⟨a1, n1, v1, g1, l1, b1⟩ := F4.get (hall e.1 mq.1 mq.2.1)
        obtain ⟨a2, n2, v2, g2, l2, b2⟩ := F4.get (hall e.2 mq.2.2.1 mq.2.2.2)
        have x46 := x5.trans x6
        rw [valN_eq v1 g1, valN_eq v2 g2]
        refine ev_op (ev_op (ev_dget rfl rfl (x46 _ _ F4.at_) v2) (ev_var rfl) (rv_ixL (SqL.of (x46 _ _ g2)) (atI_row (by omega)))) (ev_op (ev_dget rfl rfl (x46 _ _ F4.at_) v1) (ev_var rfl) (rv_ixL (SqL.of (x46 _ _ g1)) (atI_row (by omega)))) rv_I0
      · intro p rs H5 np nrs ndr npr x5 ht
        have hH : ∀ {a : Addr}, H4 a = none → H a = none := fun {a} g => fresh_B e4 g ⟨_, F4.at_⟩
        refine k rs _ p H5 (hH np) (fun a ha => hH (nrs a ha)) ndr npr (fun b o g => (e4.trans (ExB.of x5)) b o (ndl g) g) ht (by rw [List.length_map, List.length_range]) fun r hr => ?_
        obtain ⟨kk, hkk, rfl⟩ := List.mem_map.mp hr
        refine ⟨by rw [List.length_map], fun y hy => ?_⟩
        obtain ⟨e, he, rfl⟩ := List.mem_map.mp hy
        have mq := hq0 e he
        have hkk := List.mem_range.mp hkk
        obtain ⟨a1, n1, v1, g1, l1, b1⟩ := F4.get (hall e.1 mq.1 mq.2.1)
        obtain ⟨a2, n2, v2, g2, l2, b2⟩ := F4.get (hall e.2 mq.2.2.1 mq.2.2.2)
        rw [valN_eq v1 g1, valN_eq v2 g2]
        have c1 : n1[kk]?.getD 0 ∈ n1 := by
          rw [List.getElem?_eq_getElem (by omega)]
          exact List.getElem_mem _
        have c2 : n2[kk]?.getD 0 ∈ n2 := by
          rw [List.getElem?_eq_getElem (by omega)]
          exact List.getElem_mem _
        have d1 := b1 _ c1
        have d2 := b2 _ c2
        have := F4.le
        omega
-- DEF is_row

def sp_is_row (K : PySem.W.Frag) : Sp := fun vs H Q _ => ∃ (a : Addr) (ns : List Int), vs = [.ref a] ∧ H a = some (.lst (ns.map V.int)) ∧ 1 ≤ ns.length ∧ ns.length ≤ 8 ∧ ∀ H', Ex H H' → Q (.bl true) H'

theorem ok_is_row (T : Txt K mg) : FnOk P w K mg base CX0 2 T.f_is_row T.fd_is_row ["thing"] (sp_is_row K) := by
  refine Fun.ok T.F_is_row sc_is_row (fun vs H Q E h => ?_) (fun cdv A outer s H vs Q E hr h => ?_)
  · obtain ⟨_, _, rfl, _⟩ := h; rfl
  · refine ⟨_, (pss_cons (ps_if (PW.pt (pw_or (pt_not (pt_val (pe_callB (id := "isinstance") (r := rIsi K) call_isi (by rfl) T.n_isinstance (by decide +kernel) (pa_cons (pv 0) (pa_cons (pe_bltn (v := .ty "list") (by rfl) T.n_list (by decide +kernel) rfl) pa_nil))))) (pw_or1 (pt_not (pt_chain op_le op_le pe_int (pe_callB (id := "len") (r := rLenS K) call_len_seq (by rfl) T.n_len PySem.boot_len (pa_cons (pv 0) pa_nil)) (pe_glob (v := .int 8) (by rfl) T.g_MOST ⟨_, rfl⟩))))))
        (pss_one (ps_ret pe_bl))
        pss_nil)
      (pss_one (ps_ret (pe_callB (id := "all") (r := rAll K) (cr_all rfl) (by rfl) T.n_all (by decide +kernel) (pa_cons (pe_lc (own := [("entry", 1)]) (wi := iList K _) (g := gName 1) (tt := tYes) rfl sc_is_row.nd (pi_list (pv 0)) (blkOk_by (N := ["thing", "entry"]) (sc := (defScope s_is_row)) (by decide +kernel)) (fun _ _ _ _ _ => pg_name (i := 1) sc_is_row.nd rfl (Or.inl rfl)) (fun _ _ _ _ _ => pts_nil) (fun _ _ _ _ _ => (pe_call (ok_is_whole T) hr (by rfl) T.g_is_whole T.k_is_whole T.b_is_whole .nil pass0 (pa_cons (pv 1) pa_nil)))) pa_nil))))), ?_⟩
    obtain ⟨a, ns, rfl, ha, h1, h8, k⟩ := h
    refine q_when (b := false) (et_is (et_or (et_not (et_B (ev_isi (t := "list") (b := true) (ev_var rfl) ev_c (fun H1 e => .base (.lst (e _ _ ha))) (by decide +kernel)))) (fun _ => et_not (et_test (ev_chain ev_c (ev_is (ev_len (ev_var rfl) (SqL.of ha)) (by rw [List.length_map])) ev_c rv_le rv_le)))) ?_) (fun z => nomatch z) (fun _ H1 e1 => ?_)
    · rw [decide_eq_true (show (1 : Int) ≤ (ns.length : Int) by omega), decide_eq_true (show (ns.length : Int) ≤ 8 by omega)]
      rfl
    refine s_ret (ev_all (el_yes (a := a) rfl (e1 _ _ ha) (by rw [List.length_map]; omega) (fun x H' hx e => ?_) (fun x => rfl))) fun H2 e2 => k H2 (e1.trans e2)
    obtain ⟨i, _, rfl⟩ := List.mem_map.mp hx
    exact ev_fn (ea_cons (ev_var rfl) ea_nil) fun H3 e3 Q3 q3 => ⟨_, "int", rfl, .base (.int _), .inl rfl, q3 H3 (Ex.refl _)⟩
-- DEF _law_one

def sp__law_one (K : PySem.W.Frag) : Sp := fun vs H Q _ => ∃ (s l : Addr) (n : Int) (xs : List V), vs = [.ref s, .ref l] ∧ SrcAt H s n ∧ n ≤ 500000000 ∧ l ≠ s ∧ SqL K H l xs ∧ 0 < xs.length ∧ xs.length ≤ 1000 ∧
  ∀ v ∈ xs, ∀ H', ExB s H H' → SrcAt H' s (n + 1) → Q v H'

theorem ok__law_one (T : Txt K mg) : FnOk P w K mg base CX0 2 T.f__law_one T.fd__law_one ["_law_source", "_law_some"] (sp__law_one K) := by
  refine Fun.ok T.F__law_one sc__law_one (fun vs H Q E h => ?_) (fun cdv A outer s H vs Q E hr h => ?_)
  · obtain ⟨_, _, _, _, rfl, _⟩ := h; rfl
  · refine ⟨_, (pss_one (ps_ret (pe_ix (r := rIxL K) ix_list (pv 1) (pe_call (ok__law_next T) hr (by rfl) T.g__law_next T.k__law_next T.b__law_next .nil pass0 (pa_cons (pv 0) (pa_cons (pe_callB (id := "len") (r := rLenS K) call_len_seq (by rfl) T.n_len PySem.boot_len (pa_cons (pv 1) pa_nil)) pa_nil))) (fun _ _ => rfl)))), ?_⟩
    obtain ⟨s, l, n, xs, rfl, hs, hn, nls, hl, h0, h1, k⟩ := h
    refine ⟨_, rfl, _, rfl, _, rfl, l, xs, rfl, .inl hl, s, _, n, rfl, hs, by omega, by omega, (by show xs.length < 2 ^ 8000; exact Nat.lt_of_le_of_lt h1 (by decide +kernel)), fun f H' f0 f1 e s' => ?_⟩
    have hk : f.toNat < xs.length := by omega
    refine ⟨l, xs, f, xs[f.toNat], rfl, rfl, e.l nls hl, at_of (j := f.toNat) (by omega) (List.getElem?_eq_getElem hk), ?_⟩
    exact k _ (List.getElem_mem hk) H' e s'
-- DEF _law_mixed

def sp__law_mixed (K : PySem.W.Frag) : Sp := fun vs H Q _ => ∃ (s l : Addr) (n : Int) (xs : List V), vs = [.ref s, .ref l] ∧ SrcAt H s n ∧ n ≤ 500000000 ∧ l ≠ s ∧ SqL K H l xs ∧ xs.length ≤ 100 ∧ (∀ v ∈ xs, DatV K H s v) ∧
  ∀ (ys : List V) (p : Addr) (H' : Hp), ys.Perm xs → H p = none → ExB s H H' → SrcAt H' s (n + 100) → H' p = some (.lst ys) → Q (.ref p) H'

theorem ok__law_mixed (T : Txt K mg) : FnOk P w K mg base CX0 2 T.f__law_mixed T.fd__law_mixed ["_law_source", "_law_some"] (sp__law_mixed K) := by
  refine Fun.ok T.F__law_mixed sc__law_mixed (fun vs H Q E h => ?_) (fun cdv A outer s H vs Q E hr h => ?_)
  · obtain ⟨_, _, _, _, rfl, _⟩ := h; rfl
  · refine ⟨_, (pss_cons (ps_set (i := 2) sc__law_mixed.nd rfl (by first | exact Or.inl rfl | exact Or.inr rfl) (pe_callTy (T := "list") (r := rListS K) call_list_of (by rfl) T.n_list (by decide +kernel) (pa_cons (pv 1) pa_nil)))
      (pss_cons (ps_set (i := 3) sc__law_mixed.nd rfl (by first | exact Or.inl rfl | exact Or.inr rfl) (pe_lst pa_nil))
      (pss_cons (ps_while PassesOwn.never (pt_cmpR (r := rNeD K) (op_neD hr.units) (pv 2) (pe_lst pa_nil) (nomark _))
        (pss_one (ps_expr (pe_bm PySem.F.plainAttrs_list PySem.F.slot_list_append PySem.F.type_list_append mt_append (pv 3) (pa_cons (pe_bm PySem.F.plainAttrs_list PySem.F.slot_list_pop PySem.F.type_list_pop mt_popAt (pv 2) (pa_cons (pe_call (ok__law_next T) hr (by rfl) T.g__law_next T.k__law_next T.b__law_next .nil pass0 (pa_cons (pv 0) (pa_cons (pe_callB (id := "len") (r := rLenS K) call_len_seq (by rfl) T.n_len PySem.boot_len (pa_cons (pv 2) pa_nil)) pa_nil))) pa_nil)) pa_nil)))))
      (pss_one (ps_ret (pv 3)))))), ?_⟩
    obtain ⟨s, l, n, xs, rfl, hs, hn, nls, hl, h1, hd, k⟩ := h
    -- left, found
    refine ⟨_, rfl, l, xs, rfl, .inl hl, fun q nq => ?_⟩
    refine ⟨Nat.zero_le _, fun p np => ?_⟩
    have nqs : q ≠ s := hs.ne nq
    have nps : p ≠ s := (hs.ex (Ex.new nq)).ne np
    have npq : p ≠ q := (ne_of_none upd_same np).symm
    have npH : H p = none := fresh_back (Ex.new nq) np
    refine ⟨fun m σ H' => ∃ ls fs : List V, σ = [some (.ref s), some (.ref l), some (.ref q), some (.ref p)] ∧ m = ls.length ∧ (fs ++ ls).Perm xs ∧ H' q = some (.lst ls) ∧ H' p = some (.lst fs) ∧ ExB s H H' ∧ SrcAt H' s (n + fs.length),
      ⟨xs.length, xs, [], rfl, rfl, .refl _, ?_, upd_same, ?_, ?_⟩, ?_⟩
    · rw [upd_ne npq.symm]
      exact upd_same
    · exact ExB.of ((Ex.new nq).trans (Ex.new np))
    · exact (hs.ex ((Ex.new nq).trans (Ex.new np))).le (by simp)
    rintro m σ H1 ⟨ls, fs, rfl, rfl, hp, hq, hpf, e1, s1⟩
    have hlen : fs.length + ls.length = xs.length := by
      rw [← List.length_append]
      exact hp.length_eq
    obtain ⟨ds, d1, d2, d3⟩ := dat_all (K := K) (H := H1) (s := s) (xs := ls) fun v hv => (hd v (hp.mem_iff.mp (List.mem_append_right _ hv))).exB e1
    refine ⟨_, rfl, Nat.zero_le _, fun z nz => ?_⟩
    have x1 : Ex H1 (upd H1 z (.lst [])) := Ex.new nz
    refine ⟨_, _, .lst (SqL.of (x1 _ _ hq)) (dpAll_ex x1 d1), .lst (SqL.of upd_same) .nil, shaped_list d2 (by omega), rfl, _, rfl, ?_⟩
    rw [eqv_nil]
    cases ls with
    | nil =>
      cases d1
      refine iteF ?_
      refine ⟨_, rfl, ?_⟩
      rw [List.append_nil] at hp
      exact k fs p _ hp npH (e1.trans (ExB.of x1)) ((s1.ex x1).le (by have := hp.length_eq; omega)) (x1 _ _ hpf)
    | cons y0 ls0 =>
      cases d1 with
      | cons _ _ =>
        refine iteT ?_
        refine ⟨fun σ' H' => ∃ ls' fs' : List V, σ' = [some (.ref s), some (.ref l), some (.ref q), some (.ref p)] ∧ ls'.length < (y0 :: ls0).length ∧ (fs' ++ ls').Perm xs ∧ H' q = some (.lst ls') ∧ H' p = some (.lst fs') ∧ ExB s H H' ∧ SrcAt H' s (n + fs'.length),
          fun σ' H' ⟨ls', fs', a1, a2, a3, a4, a5, a6, a7⟩ => ⟨ls'.length, a2, ls', fs', a1, rfl, a3, a4, a5, a6, a7⟩, ?_⟩
        refine ⟨_, rfl, .inl ⟨rfl, _, SqL.of (x1 _ _ hpf)⟩, _, rfl, .inl ⟨rfl, _, SqL.of (x1 _ _ hq)⟩, _, rfl, _, rfl, q, _, rfl, .inl (SqL.of (x1 _ _ hq)), s, _, n + fs.length, rfl, s1.ex x1, by omega, (by simp only [List.length_cons]; omega), ?_, fun f H2 f0 f1 e2 s2 => ?_⟩
        · show (((y0 :: ls0).length : Nat) : Int).natAbs < 2 ^ 8000
          rw [Int.natAbs_natCast]
          exact Nat.lt_of_le_of_lt (show (y0 :: ls0).length ≤ 100 by omega) (by decide +kernel)
        · have hk : f.toNat < (y0 :: ls0).length := by omega
          have hy := List.getElem?_eq_getElem hk
          refine ⟨q, _, f, f.toNat, _, rfl, rfl, e2 _ _ nqs (x1 _ _ hq), by omega, by omega, seqIx (n := 0) f0 f1, hy, ?_⟩
          refine ⟨p, fs, _, rfl, rfl, ?_, small1000 (by omega), ?_⟩
          · rw [upd_ne npq]
            exact e2 _ _ nps (x1 _ _ hpf)
          · refine ⟨_, _, rfl, ?_, (perm_pop hy).trans hp, ?_, upd_same, ?_, ?_⟩
            · rw [List.length_eraseIdx_of_lt hk]
              omega
            · rw [upd_ne npq.symm]
              exact upd_same
            · refine fun b o nb h => ?_
              have nbp := ne_of_none h npH
              have nbq := ne_of_none h nq
              rw [upd_ne nbp, upd_ne nbq]
              exact e2 _ _ nb (x1 _ _ (e1 _ _ nb h))
            · have s3 : SrcAt H2 s (n + ((fs ++ [(y0 :: ls0)[f.toNat]]).length : Nat)) := s2.le (by rw [List.length_append]; simp; omega)
              obtain ⟨a1, a2, a3, a4, a5⟩ := s3
              exact ⟨a1, a2, a3, by rw [upd_ne nps.symm, upd_ne nqs.symm]; exact a4, a5⟩
-- DEF is_table

def sp_is_table (K : PySem.W.Frag) : Sp := fun vs H Q _ => ∃ (p : Addr) (as : List Addr) (rows : List (List Int)) (m w : Nat), vs = [.ref p] ∧ TabOk H p as rows m w ∧ ∀ H', Ex H H' → Q (.bl true) H'

theorem ok_is_table (T : Txt K mg) : FnOk P w K mg base CX0 3 T.f_is_table T.fd_is_table ["thing"] (sp_is_table K) := by
  refine Fun.ok T.F_is_table sc_is_table (fun vs H Q E h => ?_) (fun cdv A outer s H vs Q E hr h => ?_)
  · obtain ⟨_, _, _, _, _, rfl, _⟩ := h; rfl
  · refine ⟨_, (pss_cons (ps_if (PW.pt (pw_or (pt_not (pt_val (pe_callB (id := "isinstance") (r := rIsi K) call_isi (by rfl) T.n_isinstance (by decide +kernel) (pa_cons (pv 0) (pa_cons (pe_bltn (v := .ty "list") (by rfl) T.n_list (by decide +kernel) rfl) pa_nil))))) (pw_or1 (pt_not (pt_chain op_le op_le pe_int (pe_callB (id := "len") (r := rLenS K) call_len_seq (by rfl) T.n_len PySem.boot_len (pa_cons (pv 0) pa_nil)) (pe_glob (v := .int 8) (by rfl) T.g_MOST ⟨_, rfl⟩))))))
        (pss_one (ps_ret pe_bl))
        pss_nil)
      (pss_cons (ps_if (pt_not (pt_val (pe_callB (id := "all") (r := rAll K) (cr_all rfl) (by rfl) T.n_all (by decide +kernel) (pa_cons (pe_lc (own := [("row", 1)]) (wi := iList K _) (g := gName 1) (tt := tYes) rfl sc_is_table.nd (pi_list (pv 0)) (blkOk_by (N := ["thing", "row"]) (sc := (defScope s_is_table)) (by decide +kernel)) (fun _ _ _ _ _ => pg_name (i := 1) sc_is_table.nd rfl (Or.inl rfl)) (fun _ _ _ _ _ => pts_nil) (fun _ _ _ _ _ => (pe_call (ok_is_row T) hr (by rfl) T.g_is_row T.k_is_row T.b_is_row .nil pass0 (pa_cons (pv 1) pa_nil)))) pa_nil))))
        (pss_one (ps_ret pe_bl))
        pss_nil)
      (pss_one (ps_ret (pe_callB (id := "all") (r := rAll K) (cr_all rfl) (by rfl) T.n_all (by decide +kernel) (pa_cons (pe_lc (own := [("row", 1)]) (wi := iList K _) (g := gName 1) (tt := tYes) rfl sc_is_table.nd (pi_list (pv 0)) (blkOk_by (N := ["thing", "row"]) (sc := (defScope s_is_table)) (by decide +kernel)) (fun _ _ _ _ _ => pg_name (i := 1) sc_is_table.nd rfl (Or.inl rfl)) (fun _ _ _ _ _ => pts_nil) (fun _ _ _ _ _ => (pe_cmpR op_eq (pe_callB (id := "len") (r := rLenS K) call_len_seq (by rfl) T.n_len PySem.boot_len (pa_cons (pv 1) pa_nil)) (pe_callB (id := "len") (r := rLenS K) call_len_seq (by rfl) T.n_len PySem.boot_len (pa_cons (pe_ix (r := rIxL K) ix_list (pv 0) pe_int (fun _ _ => rfl)) pa_nil)) (nomark _)))) pa_nil)))))), ?_⟩
    obtain ⟨p, as, rows, m, w, rfl, hT, k⟩ := h
    have hb := hT.b
    refine q_when (b := false) (et_is (et_or (et_not (et_B (ev_isi (t := "list") (b := true) (ev_var rfl) ev_c (fun H1 e => .base (.lst (e _ _ hT.tab.1))) (by decide +kernel)))) (fun _ => et_not (et_test (ev_chain ev_c (ev_is (ev_len (ev_var rfl) (SqL.of hT.tab.1)) (by rw [List.length_map, hT.al])) ev_c rv_le rv_le)))) ?_) (fun z => nomatch z) (fun _ H1 e1 => ?_)
    · rw [decide_eq_true (show (1 : Int) ≤ (m : Int) by omega), decide_eq_true (show (m : Int) ≤ 8 by omega)]
      rfl
    have hT1 := hT.ex e1
    refine q_when (b := false) (et_not (et_B (ev_all (el_yes (a := p) rfl hT1.tab.1 (by rw [List.length_map, hT.al]; omega) (fun x H' hx e => ?_) (fun x => rfl))))) (fun z => nomatch z) (fun _ H2 e2 => ?_)
    · obtain ⟨a, ha, rfl⟩ := List.mem_map.mp hx
      obtain ⟨r, hr, hh⟩ := paired_mem hT1.tab.2 ha
      have := hT1.w_ r hr
      exact ev_fn (ea_cons (ev_var rfl) ea_nil) fun H3 e3 Q3 q3 => ⟨a, r, rfl, (e.trans e3) _ _ hh, by omega, by omega, q3⟩
    have hT2 := hT1.ex e2
    refine s_ret (ev_all (el_yes (a := p) rfl hT2.tab.1 (by rw [List.length_map, hT.al]; omega) (fun x H' hx e => ?_) (fun x => rfl))) fun H3 e3 => k H3 ((e1.trans e2).trans e3)
    obtain ⟨a, ha, rfl⟩ := List.mem_map.mp hx
    obtain ⟨r, hr, hh⟩ := paired_mem hT2.tab.2 ha
    obtain ⟨a0, r0, _, _, hh0, hl0, at0⟩ := hT2.row0
    have := hT2.w_ r hr
    refine ev_is (ev_op (ev_len (ev_var rfl) (SqL.of (e _ _ hh))) (ev_len (ev_op (ev_var rfl) ev_c (rv_ixL (SqL.of (e _ _ hT2.tab.1)) at0)) (SqL.of (e _ _ hh0))) (rv_eq rfl)) ?_
    rw [List.length_map, List.length_map, hl0, this]
    exact congrArg V.bl (decide_eq_true rfl)
-- DEF _law_ends

def sp__law_ends (K : PySem.W.Frag) : Sp := fun vs H Q _ => ∃ (s : Addr) (n m : Int), vs = [.ref s, .int m] ∧ SrcAt H s n ∧ n ≤ 400000000 ∧ 1 ≤ m ∧ m ≤ 8 ∧
  ∀ (as : List Addr) (es : List (Int × Int)) (p : Addr) (H' : Hp), (es.length : Int) = m → (∀ e ∈ es, 0 ≤ e.1 ∧ e.1 ≤ m ∧ 0 ≤ e.2 ∧ e.2 ≤ m) → Conn es m → EdgesAt H' as es → H' p = some (.lst (as.map V.ref)) → H p = none → ExB s H H' → SrcAt H' s (n + 300) → Q (.ref p) H'

theorem ok__law_ends (T : Txt K mg) : FnOk P w K mg base CX0 3 T.f__law_ends T.fd__law_ends ["_law_source", "_law_many"] (sp__law_ends K) := by
  refine Fun.ok T.F__law_ends sc__law_ends (fun vs H Q E h => ?_) (fun cdv A outer s H vs Q E hr h => ?_)
  · obtain ⟨_, _, _, rfl, _⟩ := h; rfl
  · refine ⟨_, (pss_cons (ps_set (i := 2) sc__law_ends.nd rfl (by first | exact Or.inl rfl | exact Or.inr rfl) (pe_call (ok__law_mixed T) hr (by rfl) T.g__law_mixed T.k__law_mixed T.b__law_mixed .nil pass0 (pa_cons (pv 0) (pa_cons (pe_listRg rfl (by rfl) T.n_list (prg_1 (by rfl) T.n_range (pe_op op_add (pv 1) pe_int))) pa_nil))))
      (pss_cons (ps_set (i := 3) sc__law_ends.nd rfl (by first | exact Or.inl rfl | exact Or.inr rfl) (pe_lst pa_nil))
      (pss_cons (ps_for PassesOwn.never rfl (pi_range1 (by rfl) T.n_range (pa_cons (pv 1) pa_nil)) (pg_name (i := 4) sc__law_ends.nd rfl (by first | exact Or.inl rfl | exact Or.inr rfl))
        (pss_cut (ps_set (i := 5) sc__law_ends.nd rfl (by first | exact Or.inl rfl | exact Or.inr rfl) (pe_tup (pa_cons (pe_ix (r := rIxL K) ix_list (pv 2) (pe_call (ok__law_next T) (hr.mono (by decide)) (by rfl) T.g__law_next T.k__law_next T.b__law_next .nil pass0 (pa_cons (pv 0) (pa_cons (pe_op op_add (pv 4) pe_int) pa_nil))) (fun _ _ => rfl)) (pa_cons (pe_ix (r := rIxL K) ix_list (pv 2) (pe_op op_add (pv 4) pe_int) (fun _ _ => rfl)) pa_nil))))
          (pss_one (ps_expr (pe_bm PySem.F.plainAttrs_list PySem.F.slot_list_append PySem.F.type_list_append mt_append (pv 3) (pa_cons (pe_ix (r := rIxL K) ix_list (pe_lst (pa_cons (pv 5) (pa_cons (pe_revT (pv 5)) pa_nil))) (pe_call (ok__law_next T) (hr.mono (by decide)) (by rfl) T.g__law_next T.k__law_next T.b__law_next .nil pass0 (pa_cons (pv 0) (pa_cons pe_int pa_nil))) (fun _ _ => rfl)) pa_nil))))))
      (pss_one (ps_ret (pe_call (ok__law_mixed T) hr (by rfl) T.g__law_mixed T.k__law_mixed T.b__law_mixed .nil pass0 (pa_cons (pv 0) (pa_cons (pv 3) pa_nil)))))))), ?_⟩
    obtain ⟨s, n, m, rfl, hs, hn, hm1, hm8, k⟩ := h
    refine ⟨_, rfl, _, rfl, _, _, rfl, rfl, _, rfl, RgOk.of_le (by omega) (by omega) (by omega) (by omega), fun q nq => ?_⟩
    have x1 := Ex.new (o := .lst (rgV 0 (m + 1))) nq
    refine ⟨s, q, n, _, rfl, hs.ex x1, by omega, hs.ne nq, SqL.of upd_same, ?_, ?_, fun ys p1 H1 hp np1 e1 s1 h1 => ?_⟩
    · rw [rgV_length]
      omega
    · intro v hv
      rw [rgV_nums] at hv
      obtain ⟨i, _, rfl⟩ := List.mem_map.mp hv
      exact datv_int i
    rw [rgV_nums] at hp
    obtain ⟨pl, rfl, hpl⟩ := perm_ints hp
    have np1H : H p1 = none := fresh_back x1 np1
    have e01 : ExB s H H1 := (ExB.of x1).trans e1
    have hpll : pl.length = m.toNat + 1 := by
      rw [hpl.length_eq, numsTo_length]
      omega
    have hplm : ∀ a, a ∈ pl ↔ 0 ≤ a ∧ a ≤ m := fun a => by
      rw [hpl.mem_iff, mem_numsTo]
      omega
    have np1s : p1 ≠ s := (hs.ex x1).ne np1
    clear hp x1 e1 np1 nq
    -- found
    refine ⟨Nat.zero_le _, fun p2 np2 => ?_⟩
    have x2 : Ex H1 (upd H1 p2 (.lst [])) := Ex.new np2
    have np2s : p2 ≠ s := s1.ne np2
    have np12 : p1 ≠ p2 := ne_of_none h1 np2
    have np2H : H p2 = none := fresh_B e01 np2 s1.obj
    refine ⟨_, rfl, _, rfl, by omega, by omega, for_range (lo := 0) (n := m.toNat) (fun i σ H' => ∃ (y4 y5 : Option V) (as : List Addr) (es : List (Int × Int)), σ = [some (.ref s), some (.int m), some (.ref p1), some (.ref p2), y4, y5] ∧ es.length = i ∧ EdgesAt H' as es ∧ H' p2 = some (.lst (as.map V.ref)) ∧
      ExB s H H' ∧ SrcAt H' s (n + 100 + 2 * i) ∧ H' p1 = some (.lst (pl.map V.int)) ∧ EdgeTree pl es ∧ (∀ e ∈ es, 0 ≤ e.1 ∧ e.1 ≤ m ∧ 0 ≤ e.2 ∧ e.2 ≤ m)) ?_ ?_ ?_⟩
    · exact ⟨_, _, [], [], rfl, rfl, .nil, upd_same, e01.trans (ExB.of x2), (s1.ex x2).le (by omega), x2 _ _ h1, fun j hj => absurd hj (Nat.not_lt_zero _), fun e he => by simp at he⟩
    · rintro i σ H2 hi ⟨y4, y5, as, es, rfl, hes, hE, h2, e2, s2, g1, hT, hb⟩
      have hsz := hes
      have sat : ∀ {j : Nat}, j < pl.length → ∃ z, (pl.map V.int)[j]? = some (.int z) ∧ pl[j]? = some z := fun {j} hj => ⟨pl[j], by rw [List.getElem?_map, List.getElem?_eq_getElem hj]; rfl, List.getElem?_eq_getElem hj⟩
      -- two
      refine ⟨fun σ' H' => ∃ (t : Addr) (f : Nat) (a b : Int), σ' = [some (.ref s), some (.int m), some (.ref p1), some (.ref p2), some (.int (0 + (i : Int))), some (.ref t)] ∧ H' t = some (.tup [.int a, .int b]) ∧ f ≤ i ∧ pl[f]? = some a ∧ pl[i + 1]? = some b ∧ ExB s H2 H' ∧ SrcAt H' s (n + 100 + 2 * i + 1), ?_, ?_⟩
      · refine ⟨_, rfl, _, rfl, _, rfl, _, _, rfl, rfl, s, _, _, rfl, s2, by omega, by omega, ?_, fun f H3 f0 f1 e3 s3 => ?_⟩
        · unfold Bd
          exact Nat.lt_of_lt_of_le (show (0 + (i : Int) + 1).natAbs < 1024 by omega) (by decide +kernel)
        · obtain ⟨a, ha, ha'⟩ := sat (j := f.toNat) (by omega)
          obtain ⟨b, hb, hb'⟩ := sat (j := i + 1) (by omega)
          refine ⟨p1, _, _, _, rfl, rfl, SqL.of (e3 _ _ np1s g1), at_of (j := f.toNat) (by omega) ha, ?_⟩
          refine ⟨_, rfl, _, rfl, _, _, rfl, rfl, p1, _, _, _, rfl, rfl, SqL.of (e3 _ _ np1s g1), at_of (j := i + 1) (by omega) hb, (by show 2 ≤ sizeLine; decide), fun t nt => ?_⟩
          exact ⟨t, f.toNat, a, b, rfl, upd_same, by omega, ha', hb', e3.trans (ExB.of (Ex.new nt)), s3.ex (Ex.new nt)⟩
      · rintro σ' H3 ⟨t, f, a, b, rfl, ht, hf, ha, hb', e3, s3⟩
        have h2' := e3 _ _ np2s h2
        refine ⟨_, rfl, .inl ⟨rfl, _, SqL.of h2'⟩, _, rfl, _, rfl, t, _, _, rfl, SqT.of ht, fun u nu => ?_⟩
        have xu : Ex H3 (upd H3 u (.tup [.int b, .int a])) := Ex.new nu
        refine ⟨(by show 2 ≤ sizeLine; decide), fun l nl => ?_⟩
        have xl : Ex (upd H3 u (.tup [.int b, .int a])) (upd (upd H3 u (.tup [.int b, .int a])) l (.lst [.ref t, .ref u])) := Ex.new nl
        have xx := xu.trans xl
        refine ⟨_, rfl, s, 2, _, rfl, s3.ex xx, by omega, by decide, (by unfold Bd; decide +kernel), fun g H4 g0 gl e4 s4 => ?_⟩
        have nls : l ≠ s := (s3.ex xu).ne nl
        have hl4 := e4 _ _ nls (upd_same (H := upd H3 u (.tup [.int b, .int a])) (a := l) (o := .lst [.ref t, .ref u]))
        have st : ∀ c xs, H2 c = some (.tup xs) → H4 c = some (.tup xs) := fun c xs h => tups_B (s3.ex xx) e4 _ _ (tups_E xx _ _ (tups_B s2 e3 _ _ h))
        have st3 : ∀ c xs, H3 c = some (.tup xs) → H4 c = some (.tup xs) := fun c xs h => tups_B (s3.ex xx) e4 _ _ (tups_E xx _ _ h)
        have stu : H4 u = some (.tup [.int b, .int a]) := tups_B (s3.ex xx) e4 _ _ (xl _ _ upd_same)
        have p2' := e4 _ _ np2s (xx _ _ h2')
        have al : as.length = i := by rw [Paired.length hE, hes]
        have fin : ∀ (v : Addr) (e : Int × Int), H4 v = some (.tup [.int e.1, .int e.2]) → (e = (a, b) ∨ e = (b, a)) → rAppend (.ref p2) [.ref v] H4 fun _ H' => ∃ (y4 y5 : Option V) (as : List Addr) (es : List (Int × Int)), [some (V.ref s), some (.int m), some (.ref p1), some (.ref p2), some (.int (0 + (i : Int))), some (.ref t)] = [some (.ref s), some (.int m), some (.ref p1), some (.ref p2), y4, y5] ∧ es.length = i + 1 ∧ EdgesAt H' as es ∧ H' p2 = some (.lst (as.map V.ref)) ∧
            ExB s H H' ∧ SrcAt H' s (n + 100 + 2 * ((i + 1 : Nat) : Int)) ∧ H' p1 = some (.lst (pl.map V.int)) ∧ EdgeTree pl es ∧ (∀ e ∈ es, 0 ≤ e.1 ∧ e.1 ≤ m ∧ 0 ≤ e.2 ∧ e.2 ≤ m) := by
          intro v e hv he
          refine ⟨p2, _, _, rfl, rfl, p2', small1000 (by rw [List.length_map]; omega), _, _, as ++ [v], es ++ [e], rfl, ?_, ?_, ?_, ?_, ?_, ?_, ?_, ?_⟩
          · rw [List.length_append, hes]
            rfl
          · exact paired_imp (fun c d h => tups_U p2' _ _ h) (paired_snoc (EdgesAt.mono st hE) hv)
          · rw [upd_same, List.map_append]
            rfl
          · refine fun c o nc h => ?_
            rw [upd_ne (ne_of_none h np2H)]
            exact e4 _ _ nc (xx _ _ (e3 _ _ nc (e2 _ _ nc h)))
          · obtain ⟨a1, a2, a3, a4, a5, a6, a7, a8⟩ := s4
            exact ⟨a1, a2, a3, by rw [upd_ne np2s.symm]; exact a4, a5, a6, a7, by omega⟩
          · rw [upd_ne np12]
            exact e4 _ _ np1s (xx _ _ (e3 _ _ np1s g1))
          · exact hT.more (by omega) ha (by rw [hes]; exact hb') he
          · intro e' he'
            rcases List.mem_append.mp he' with h | h
            · exact hb e' h
            · have e1 : e' = e := by simpa using h
              subst e1
              have ma := (hplm a).mp (List.mem_of_getElem? ha)
              have mb := (hplm b).mp (List.mem_of_getElem? hb')
              rcases he with rfl | rfl
              · exact ⟨ma.1, ma.2, mb.1, mb.2⟩
              · exact ⟨mb.1, mb.2, ma.1, ma.2⟩
        have hg : g = 0 ∨ g = 1 := by omega
        rcases hg with rfl | rfl
        · exact ⟨l, _, _, .ref t, rfl, rfl, SqL.of hl4, rfl, fin t (a, b) (st3 _ _ ht) (.inl rfl)⟩
        · exact ⟨l, _, _, .ref u, rfl, rfl, SqL.of hl4, rfl, fin u (b, a) stu (.inr rfl)⟩
    · rintro σ H2 ⟨y4, y5, as, es, rfl, hes, hE, h2, e2, s2, g1, hT, hb⟩
      have al : as.length = m.toNat := by rw [Paired.length hE, hes]
      refine ⟨_, rfl, _, rfl, s, p2, _, _, rfl, s2, by omega, np2s, SqL.of h2, (by rw [List.length_map]; omega), fun v hv => ?_, fun ys p H3 hp np e3 s3 h3 => ?_⟩
      · obtain ⟨c, hc, rfl⟩ := List.mem_map.mp hv
        obtain ⟨d, _, hd⟩ := paired_mem hE hc
        exact datv_pair hd (s2.neT hd)
      · obtain ⟨as', es', rfl, pe, hE', _⟩ := perm_refs hp hE
        refine k as' es' p H3 ?_ (fun e he => hb e (pe.mem_iff.mp he)) ?_ (EdgesAt.mono (tups_B s2 e3) hE') h3 (fresh_B e2 np s2.obj) (e2.trans e3) (s3.le (by omega))
        · rw [pe.length_eq, hes]
          omega
        · have c := EdgeTree.conn (m := m.toNat) hT hes hpll fun a h0 h1 => (hplm a).mpr ⟨h0, by omega⟩
          have c2 := c.perm pe
          have em : ((m.toNat : Nat) : Int) = m := by omega
          rw [em] at c2
          exact c2
-- DEF _law_stretches

def sp__law_stretches (K : PySem.W.Frag) : Sp := fun vs H Q _ => ∃ (s : Addr) (n : Int) (m w : Nat), vs = [.ref s, .int m, .int w] ∧ SrcAt H s n ∧ n ≤ 300000000 ∧ 1 ≤ m ∧ m ≤ 8 ∧ 1 ≤ w ∧ w ≤ 8 ∧
  ∀ (rs : List Addr) (rows : List (List Int)) (p : Addr) (H' : Hp), NewTab H H' p rs rows w 100 → rows.length = m → ExB s H H' → SrcAt H' s (n + 400) → Q (.ref p) H'

theorem ok__law_stretches (T : Txt K mg) : FnOk P w K mg base CX0 3 T.f__law_stretches T.fd__law_stretches ["_law_source", "_law_many", "_law_wide"] (sp__law_stretches K) := by
  refine Fun.ok T.F__law_stretches sc__law_stretches (fun vs H Q E h => ?_) (fun cdv A outer s H vs Q E hr h => ?_)
  · obtain ⟨_, _, _, _, rfl, _⟩ := h; rfl
  · refine ⟨_, (pss_cons (ps_set (i := 3) sc__law_stretches.nd rfl (by first | exact Or.inl rfl | exact Or.inr rfl) (pe_call (ok__law_mixed T) hr (by rfl) T.g__law_mixed T.k__law_mixed T.b__law_mixed .nil pass0 (pa_cons (pv 0) (pa_cons (pe_listRg rfl (by rfl) T.n_list (prg_1 (by rfl) T.n_range (pv 2))) pa_nil))))
      (pss_cons (ps_set (i := 4) sc__law_stretches.nd rfl (by first | exact Or.inl rfl | exact Or.inr rfl) (pe_lst pa_nil))
      (pss_cons (ps_for PassesOwn.never rfl (pi_range1 (by rfl) T.n_range (pa_cons (pv 1) pa_nil)) (pg_name (i := 5) sc__law_stretches.nd rfl (by first | exact Or.inl rfl | exact Or.inr rfl))
        (pss_cut (ps_set (i := 6) sc__law_stretches.nd rfl (by first | exact Or.inl rfl | exact Or.inr rfl) (pe_call (ok__law_next T) (hr.mono (by decide)) (by rfl) T.g__law_next T.k__law_next T.b__law_next .nil pass0 (pa_cons (pv 0) (pa_cons (pv 2) pa_nil))))
          (pss_cut (ps_set (i := 7) sc__law_stretches.nd rfl (by first | exact Or.inl rfl | exact Or.inr rfl) (pe_call (ok__law_next T) (hr.mono (by decide)) (by rfl) T.g__law_next T.k__law_next T.b__law_next .nil pass0 (pa_cons (pv 0) (pa_cons (pe_op op_add (pe_op op_sub (pv 2) (pv 6)) pe_int) pa_nil))))
          (pss_one (ps_expr (pe_bm PySem.F.plainAttrs_list PySem.F.slot_list_append PySem.F.type_list_append mt_append (pv 4) (pa_cons (pe_lc (own := [("_law_column", 8)]) (g := gName 8) (tt := tYes) rfl sc__law_stretches.nd (pi_range1 (by rfl) T.n_range (pa_cons (pv 2) pa_nil)) (blkOk_by (N := ["_law_source", "_law_many", "_law_wide", "_law_order", "_law_found", "_law_k", "_law_start", "_law_length", "_law_column"]) (sc := (defScope s__law_stretches)) (by decide +kernel)) (fun _ _ _ _ _ => pg_name (i := 8) sc__law_stretches.nd rfl (Or.inl rfl)) (fun _ _ _ _ _ => pts_nil) (fun _ _ _ _ _ => (pe_callTy (T := "int") call_int1 (by rfl) T.n_int (by decide +kernel) (pa_cons (pe_chain op_le op_lt (pv 6) (pe_ix (r := rIxL K) ix_list (pv 3) (pv 8) (fun _ _ => rfl)) (pe_op op_add (pv 6) (pv 7))) pa_nil)))) pa_nil)))))))
      (pss_one (ps_ret (pv 4)))))), ?_⟩
    obtain ⟨s, n, m, w, rfl, hs, hn, hm1, hm8, hw1, hw8, k⟩ := h
    -- order
    refine ⟨_, rfl, _, rfl, _, rfl, RgOk.of_le (by omega) (by omega) (by omega) (by omega), fun q nq => ?_⟩
    have x1 := Ex.new (o := .lst (rgV 0 (w : Int))) nq
    refine ⟨s, q, n, _, rfl, hs.ex x1, by omega, hs.ne nq, SqL.of upd_same, ?_, ?_, fun ys p1 H1 hp np1 e1 s1 h1 => ?_⟩
    · rw [rgV_length]
      omega
    · intro v hv
      rw [rgV_nums] at hv
      obtain ⟨i, _, rfl⟩ := List.mem_map.mp hv
      exact datv_int i
    rw [rgV_nums] at hp
    obtain ⟨pl, rfl, hpl⟩ := perm_ints hp
    have hpll : pl.length = w := by
      rw [hpl.length_eq, numsTo_length]
      omega
    have e01 : ExB s H H1 := (ExB.of x1).trans e1
    have np1s : p1 ≠ s := (hs.ex x1).ne np1
    -- found
    refine ⟨Nat.zero_le _, fun p2 np2 => ?_⟩
    have x2 : Ex H1 (upd H1 p2 (.lst [])) := Ex.new np2
    have np2s : p2 ≠ s := s1.ne np2
    have np12 : p1 ≠ p2 := ne_of_none h1 np2
    have np2H : H p2 = none := fresh_B e01 np2 s1.obj
    refine ⟨_, rfl, _, rfl, by omega, by omega, for_range (lo := 0) (n := (m : Int).toNat) (fun i σ H' => ∃ (y5 y6 y7 y8 : Option V) (as : List Addr) (rows : List (List Int)), σ = [some (.ref s), some (.int m), some (.int w), some (.ref p1), some (.ref p2), y5, y6, y7, y8] ∧ rows.length = i ∧ NewTab H H' p2 as rows w 100 ∧
      ExB s H H' ∧ SrcAt H' s (n + 100 + 2 * i) ∧ H' p1 = some (.lst (pl.map V.int))) ?_ ?_ ?_⟩
    · exact ⟨_, _, _, _, [], [], rfl, rfl, NewTab.new np2H upd_same, e01.trans (ExB.of x2), (s1.ex x2).le (by omega), x2 _ _ h1⟩
    · rintro i σ H2 hi ⟨y5, y6, y7, y8, as, rows, rfl, hl, hN, e2, s2, g1⟩
      refine ⟨fun σ' H' => ∃ f : Int, σ' = [some (.ref s), some (.int m), some (.int w), some (.ref p1), some (.ref p2), some (.int (0 + (i : Int))), some (.int f), y7, y8] ∧ 0 ≤ f ∧ f < w ∧ ExB s H2 H' ∧ SrcAt H' s (n + 100 + 2 * i + 1), ?_, ?_⟩
      · refine ⟨_, rfl, _, rfl, s, _, _, rfl, s2, by omega, by omega, ?_, fun f H3 f0 f1 e3 s3 => ⟨f, rfl, f0, f1, e3, s3⟩⟩
        unfold Bd
        exact Nat.lt_of_lt_of_le (show ((w : Int)).natAbs < 1024 by omega) (by decide +kernel)
      rintro σ' H3 ⟨f, rfl, f0, f1, e3, s3⟩
      refine ⟨fun σ' H' => ∃ g : Int, σ' = [some (.ref s), some (.int m), some (.int w), some (.ref p1), some (.ref p2), some (.int (0 + (i : Int))), some (.int f), some (.int g), y8] ∧ ExB s H2 H' ∧ SrcAt H' s (n + 100 + 2 * i + 1 + 1), ?_, ?_⟩
      · refine ⟨_, rfl, _, rfl, _, rfl, _, _, rfl, rfl, _, _, rfl, rfl, s, _, _, rfl, s3, by omega, by omega, ?_, fun g H4 g0 gl e4 s4 => ⟨g, rfl, e3.trans e4, s4⟩⟩
        unfold Bd
        exact Nat.lt_of_lt_of_le (show ((w : Int) - f + 1).natAbs < 1024 by omega) (by decide +kernel)
      rintro σ' H4 ⟨g, rfl, e4, s4⟩
      have N4 := hN.exB e4 hs.obj
      have al : as.length = i := by rw [Paired.length N4.tab.2, hl]
      have hp1 := e4 _ _ np1s g1
      refine ⟨_, rfl, .inl ⟨rfl, _, SqL.of N4.tab.1⟩, ?_⟩
      refine el_rng (m := w) (fun o => if (decide (f ≤ pl[o]?.getD 0) && decide (pl[o]?.getD 0 < f + g)) = true then 1 else 0) (ea_cons (ev_var rfl) ea_nil) (by omega) (fun x => rfl) (fun o H5 x5 ho => ev_int1 (ev_chain (ev_var rfl) (ev_op (ev_var rfl) (ev_var rfl) (rv_ixL (SqL.of (x5 _ _ hp1)) (atI_row (by omega)))) (ev_op (ev_var rfl) (ev_var rfl) rv_I0) rv_I0 rv_I0)) H4 (Ex.refl _) _ fun r H5 nr e5 hr => ?_
      refine ⟨p2, _, _, rfl, rfl, e5 _ _ N4.tab.1, small1000 (by rw [List.length_map]; omega), ?_⟩
      refine ⟨_, _, _, _, as ++ [r], rows ++ [_], rfl, by rw [List.length_append, hl]; rfl, N4.app (noneB (e2.trans e4) s4.obj) e5 nr hr (by rw [List.length_map, List.length_range]) (fun y hy => ?_), ?_, ?_, ?_⟩
      · obtain ⟨o, _, rfl⟩ := List.mem_map.mp hy
        split <;> decide
      · refine fun b o nb h => ?_
        rw [upd_ne (ne_of_none h np2H)]
        exact e5 _ _ (e4 _ _ nb (e2 _ _ nb h))
      · obtain ⟨a1, a2, a3, a4, a5, a6, a7, a8⟩ := s4.ex e5
        exact ⟨a1, a2, a3, by rw [upd_ne np2s.symm]; exact a4, a5, a6, a7, by omega⟩
      · rw [upd_ne np12]
        exact e5 _ _ hp1
    · rintro σ H2 ⟨y5, y6, y7, y8, as, rows, rfl, hl, hN, e2, s2, g1⟩
      refine ⟨_, rfl, ?_⟩
      exact k as rows p2 H2 hN (by rw [hl]; omega) e2 (s2.le (by omega))
-- DEF _law_swung

def sp__law_swung (K : PySem.W.Frag) : Sp := fun vs H Q _ => ∃ (s g : Addr) (n : Int) (as : List Addr) (rows : List (List Int)) (m w : Nat), vs = [.ref s, .ref g] ∧ SrcAt H s n ∧ n ≤ 200000000 ∧ g ≠ s ∧ (∀ a ∈ as, a ≠ s) ∧ Tab H g as rows ∧ rows.length = m ∧ (∀ r ∈ rows, r.length = w ∧ ∀ y ∈ r, y.natAbs ≤ 100) ∧ 1 ≤ m ∧ m ≤ 8 ∧ 1 ≤ w ∧ w ≤ 8 ∧
  ∀ (rs : List Addr) (rows' : List (List Int)) (p : Addr) (H' : Hp) (m' w' : Nat), (m' = m ∧ w' = w ∨ m' = w ∧ w' = m) → NewTab H H' p rs rows' w' 100 → rows'.length = m' → ExB s H H' → SrcAt H' s (n + 200) → Q (.ref p) H'

theorem ok__law_swung (T : Txt K mg) : FnOk P w K mg base CX0 3 T.f__law_swung T.fd__law_swung ["_law_source", "_law_table_here"] (sp__law_swung K) := by
  refine Fun.ok T.F__law_swung sc__law_swung (fun vs H Q E h => ?_) (fun cdv A outer s H vs Q E hr h => ?_)
  · obtain ⟨_, _, _, _, _, _, _, rfl, _⟩ := h; rfl
  · refine ⟨_, (pss_cut (ps_set (i := 2) sc__law_swung.nd rfl (by first | exact Or.inl rfl | exact Or.inr rfl) (pe_call (ok__law_mixed T) hr (by rfl) T.g__law_mixed T.k__law_mixed T.b__law_mixed .nil pass0 (pa_cons (pv 0) (pa_cons (pv 1) pa_nil))))
      (pss_cut (ps_if (pt_cmpR op_eq (pe_call (ok__law_next T) (hr.mono (by decide)) (by rfl) T.g__law_next T.k__law_next T.b__law_next .nil pass0 (pa_cons (pv 0) (pa_cons pe_int pa_nil))) pe_int (nomark _))
        (pss_one (ps_set (i := 2) sc__law_swung.nd rfl (by first | exact Or.inl rfl | exact Or.inr rfl) (pe_lc (own := [("_law_k", 7)]) (g := gName 7) (tt := tYes) rfl sc__law_swung.nd (pi_range1 (by rfl) T.n_range (pa_cons (pe_callB (id := "len") (r := rLenS K) call_len_seq (by rfl) T.n_len PySem.boot_len (pa_cons (pe_ix (r := rIxL K) ix_list (pv 2) pe_int (fun _ _ => rfl)) pa_nil)) pa_nil)) (blkOk_by (N := ["_law_source", "_law_table_here", "_law_rows", "_law_signs", "_law_found", "_law_row", "_law_sign", "_law_k", "_law_column", "_law_a", "_law_b"]) (sc := (defScope s__law_swung)) (by decide +kernel)) (fun _ _ _ _ _ => pg_name (i := 7) sc__law_swung.nd rfl (Or.inr rfl)) (fun _ _ _ _ _ => pts_nil) (fun _ _ _ _ _ => (pe_lc (own := [("_law_row", 5)]) (wi := iList K _) (g := gName 5) (tt := tYes) rfl sc__law_swung.nd (pi_list (pv 2)) (blkOk_by (N := ["_law_source", "_law_table_here", "_law_rows", "_law_signs", "_law_found", "_law_row", "_law_sign", "_law_k", "_law_column", "_law_a", "_law_b"]) (sc := (relS ({ kind := .function, names := [(".0", .local), ("_law_k", .cell), ("_law_rows", .free)], isGenerator := false, isCoroutine := false } : Scope) (defScope s__law_swung))) (by decide +kernel)) (fun _ _ _ _ _ => pg_name (i := 5) sc__law_swung.nd rfl (Or.inl rfl)) (fun _ _ _ _ _ => pts_nil) (fun _ _ _ _ _ => (pe_ix (r := rIxL K) ix_list (pv 5) (pv 7) (fun _ _ => rfl))))))))
        pss_nil)
      (pss_cut (ps_setLc (i := 3) (own := [("_law_column", 8)]) (wi := iList K _) (g := gName 8) (tt := tYes) rfl sc__law_swung.nd rfl rfl (sw_true rfl rfl rfl (by decide +kernel)) (pi_list (pe_ix (r := rIxL K) ix_list (pv 2) pe_int (fun _ _ => rfl))) (blkOk_by (N := ["_law_source", "_law_table_here", "_law_rows", "_law_signs", "_law_found", "_law_row", "_law_sign", "_law_k", "_law_column", "_law_a", "_law_b"]) (sc := (defScope s__law_swung)) (by decide +kernel)) (fun _ _ _ _ _ => pg_name (i := 8) sc__law_swung.nd rfl (Or.inl rfl)) (fun _ _ _ _ _ => pts_nil) (fun _ _ _ _ _ => (pe_ix (r := rIxL K) ix_list (pe_lst (pa_cons pe_int (pa_cons (pe_un un_neg pe_int) pa_nil))) (pe_call (ok__law_next T) (hr.mono (by decide)) (by rfl) T.g__law_next T.k__law_next T.b__law_next .nil pass0 (pa_cons (pv 0) (pa_cons pe_int pa_nil))) (fun _ _ => rfl))))
      (pss_cons (ps_set (i := 4) sc__law_swung.nd rfl (by first | exact Or.inl rfl | exact Or.inr rfl) (pe_lst pa_nil))
      (pss_cons (ps_for PassesOwn.never rfl (pi_list (pv 2)) (pg_name (i := 5) sc__law_swung.nd rfl (by first | exact Or.inl rfl | exact Or.inr rfl))
        (pss_cut (ps_set (i := 6) sc__law_swung.nd rfl (by first | exact Or.inl rfl | exact Or.inr rfl) (pe_ix (r := rIxL K) ix_list (pe_lst (pa_cons pe_int (pa_cons pe_int (pa_cons (pe_un un_neg pe_int) pa_nil)))) (pe_call (ok__law_next T) (hr.mono (by decide)) (by rfl) T.g__law_next T.k__law_next T.b__law_next .nil pass0 (pa_cons (pv 0) (pa_cons pe_int pa_nil))) (fun _ _ => rfl)))
          (pss_one (ps_expr (pe_bm PySem.F.plainAttrs_list PySem.F.slot_list_append PySem.F.type_list_append mt_append (pv 4) (pa_cons (pe_lc (own := [("_law_a", 9), ("_law_b", 10)]) (wi := iZip K _) (g := gTup K 2 (gCons (gName 9) (gCons (gName 10) gNil))) (tt := tYes) rfl sc__law_swung.nd (pi_zip (by rfl) T.n_zip (pa_cons (pv 5) (pa_cons (pv 3) pa_nil))) (blkOk_by (N := ["_law_source", "_law_table_here", "_law_rows", "_law_signs", "_law_found", "_law_row", "_law_sign", "_law_k", "_law_column", "_law_a", "_law_b"]) (sc := (defScope s__law_swung)) (by decide +kernel)) (fun _ _ _ _ _ => (pg_tup rfl (pgs_cons (pg_name (i := 9) sc__law_swung.nd rfl (Or.inl rfl)) (pgs_cons (pg_name (i := 10) sc__law_swung.nd rfl (Or.inl rfl)) pgs_nil)))) (fun _ _ _ _ _ => pts_nil) (fun _ _ _ _ _ => (pe_op op_mulW (pe_op op_mulW (pv 6) (pv 9)) (pv 10)))) pa_nil))))))
      (pss_one (ps_ret (pv 4)))))))), ?_⟩
    obtain ⟨s, g, n, as, rows, m, w, rfl, hs, hn, hgs, has, hT, hm, hok, hm1, hm8, hw1, hw8, k⟩ := h
    have hal : as.length = m := by rw [Paired.length hT.2, hm]
    -- row_list
    refine ⟨fun σ' H1 => ∃ (p : Addr) (as1 : List Addr) (rows1 : List (List Int)), σ' = [some (.ref s), some (.ref g), some (.ref p), none, none, none, none, none, none, none, none] ∧ Tab H1 p as1 rows1 ∧ rows1.length = m ∧ (∀ r ∈ rows1, r.length = w ∧ ∀ y ∈ r, y.natAbs ≤ 100) ∧ p ≠ s ∧ (∀ a ∈ as1, a ≠ s) ∧ ExB s H H1 ∧ SrcAt H1 s (n + 100), ?_, ?_⟩
    · refine ⟨_, rfl, _, rfl, s, g, n, _, rfl, hs, by omega, hgs, SqL.of hT.1, (by rw [List.length_map]; omega), fun v hv => ?_, fun ys p H1 hp np e1 s1 h1 => ?_⟩
      · obtain ⟨a, ha, rfl⟩ := List.mem_map.mp hv
        obtain ⟨r, _, hr⟩ := paired_mem hT.2 ha
        exact datv_row hr (has a ha)
      · obtain ⟨as1, rows1, rfl, pr, hR, pa⟩ := perm_refs hp hT.2
        refine ⟨p, as1, rows1, rfl, ⟨h1, rows_but hR fun a ha o q => e1 a o (has a (pa.mem_iff.mp ha)) q⟩, by rw [pr.length_eq, hm], fun r hr => hok r (pr.mem_iff.mp hr), hs.ne np, fun a ha => has a (pa.mem_iff.mp ha), e1, s1⟩
    rintro σ' H1 ⟨p, as1, rows1, rfl, hT1, hm', hok1, nps, nas, e1, s1⟩
    -- perhaps turned
    refine ⟨fun σ' H2 => ∃ (y5 y7 : Option V) (p2 : Addr) (as2 : List Addr) (rows2 : List (List Int)) (m2 w2 : Nat), (m2 = m ∧ w2 = w ∨ m2 = w ∧ w2 = m) ∧ σ' = [some (.ref s), some (.ref g), some (.ref p2), none, none, y5, none, y7, none, none, none] ∧ Tab H2 p2 as2 rows2 ∧ rows2.length = m2 ∧ (∀ r ∈ rows2, r.length = w2 ∧ ∀ y ∈ r, y.natAbs ≤ 100) ∧ p2 ≠ s ∧ (∀ a ∈ as2, a ≠ s) ∧ ExB s H H2 ∧ SrcAt H2 s (n + 101), ?_, ?_⟩
    · refine ⟨_, rfl, s, 2, _, rfl, s1, by omega, by decide, (by unfold Bd; decide +kernel), fun f H2 f0 f1 e2 s2 => ⟨rfl, _, rfl, ?_⟩⟩
      have hT2 : Tab H2 p as1 rows1 := ⟨e2 _ _ nps hT1.1, rows_but hT1.2 fun a ha o q => e2 a o (nas a ha) q⟩
      refine ite2 (fun _ => ?_) (fun _ => ?_)
      · have h0 : ∃ a0 r0, as1[0]? = some a0 ∧ rows1[0]? = some r0 ∧ H2 a0 = some (.lst (r0.map V.int)) ∧ r0.length = w := by
          have hl1 : as1.length = m := by rw [Paired.length hT2.2, hm']
          obtain ⟨a0, ha0⟩ : ∃ a0, as1[0]? = some a0 := ⟨_, List.getElem?_eq_getElem (by omega)⟩
          obtain ⟨r0, hr0, hh⟩ := paired_get hT2.2 ha0
          exact ⟨a0, r0, ha0, hr0, hh, (hok1 r0 (List.mem_of_getElem? hr0)).1⟩
        obtain ⟨a0, r0, ha0, hr0, hh0, hl0⟩ := h0
        have at0 : atI (as1.map V.ref) 0 = some (.ref a0) := atI_nat (j := 0) (by rw [List.getElem?_map, ha0]; rfl)
        refine lc_rows (m := w) (F := fun kk => rows1.map fun r => r[kk]?.getD 0) (ea_cons (ev_is (ev_len (ev_op (ev_var rfl) ev_c (rv_ixL (SqL.of hT2.1) at0)) (SqL.of hh0)) (by rw [List.length_map, hl0])) ea_nil) (by omega) (fun u => rfl) (fun kk H3 x3 hkk => ?_) (fun p2 rs H3 np2 nrs ndr npr x3 ht => ?_)
        · refine el_col (K := K) (f := fun r => r[kk]?.getD 0) rfl (x3 _ _ hT2.1) (hT2.2.ex x3) (by omega) (fun u => rfl) fun b r H4 hr hb x4 => ?_
          have lr := (hok1 r hr).1
          exact ev_op (ev_var rfl) (ev_var rfl) (rv_ixL (SqL.of (x4 _ _ hb)) (atI_row (by omega)))
        · refine ⟨_, _, p2, rs, _, w, m, .inr ⟨rfl, rfl⟩, rfl, ht, by rw [List.length_map, List.length_range], fun r hr => ?_, s2.ne np2, fun a ha => s2.ne (nrs a ha), (e1.trans e2).trans (ExB.of x3), (s2.ex x3).le (by omega)⟩
          obtain ⟨kk, hkk, rfl⟩ := List.mem_map.mp hr
          have hkk := List.mem_range.mp hkk
          refine ⟨by rw [List.length_map, hm'], fun y hy => ?_⟩
          obtain ⟨r, hr, rfl⟩ := List.mem_map.mp hy
          have o := hok1 r hr
          rw [List.getElem?_eq_getElem (by omega)]
          exact o.2 _ (List.getElem_mem _)
      · exact ⟨_, _, p, as1, rows1, m, w, .inl ⟨rfl, rfl⟩, rfl, hT2, hm', hok1, nps, nas, e1.trans e2, s2.le (by omega)⟩
    rintro σ' H2 ⟨y5, y7, p2, as2, rows2, m2, w2, hmw, rfl, hT2, hm2, hok2, np2s, nas2, e2, s2⟩
    clear hT1 hm' hok1 nps nas e1 s1
    have hm2b : 1 ≤ m2 ∧ m2 ≤ 8 ∧ 1 ≤ w2 ∧ w2 ≤ 8 := by
      rcases hmw with ⟨rfl, rfl⟩ | ⟨rfl, rfl⟩ <;> exact ⟨by omega, by omega, by omega, by omega⟩
    -- signs
    refine ⟨fun σ' H3 => ∃ (y8 : Option V) (q : Addr) (sg : List Int), σ' = [some (.ref s), some (.ref g), some (.ref p2), some (.ref q), none, y5, none, y7, y8, none, none] ∧ H3 q = some (.lst (sg.map V.int)) ∧ sg.length = w2 ∧ (∀ x ∈ sg, x = 1 ∨ x = -1) ∧ q ≠ s ∧ H q = none ∧ ExB s H2 H3 ∧ SrcAt H3 s (n + 109), ?_, ?_⟩
    · have h0 : ∃ a0 r0, as2[0]? = some a0 ∧ rows2[0]? = some r0 ∧ H2 a0 = some (.lst (r0.map V.int)) ∧ r0.length = w2 := by
        have hl1 : as2.length = m2 := by rw [Paired.length hT2.2, hm2]
        obtain ⟨a0, ha0⟩ : ∃ a0, as2[0]? = some a0 := ⟨_, List.getElem?_eq_getElem (by omega)⟩
        obtain ⟨r0, hr0, hh⟩ := paired_get hT2.2 ha0
        exact ⟨a0, r0, ha0, hr0, hh, (hok2 r0 (List.mem_of_getElem? hr0)).1⟩
      obtain ⟨a0, r0, ha0, hr0, hh0, hl0⟩ := h0
      have at0 : atI (as2.map V.ref) 0 = some (.ref a0) := atI_nat (j := 0) (by rw [List.getElem?_map, ha0]; rfl)
      refine lc_drawL (K := K) (s := s) (n := n + 101) (xs := r0) (fun x => x = 1 ∨ x = -1) (ev_op (ev_var rfl) ev_c (rv_ixL (SqL.of hT2.1) at0)) hh0 (nas2 a0 (List.mem_of_getElem? ha0)) (by omega) s2 (fun u => rfl) (fun i y H3 e3 hi s3 Q1 kq => ?_) (fun D ns H3 hD e3 s3 hD3 hl3 hP => ?_)
      · refine ⟨_, rfl, (by show 2 ≤ sizeLine; decide), fun l nl => ?_⟩
        have xl : Ex H3 (upd H3 l (.lst [.int 1, .int (-1)])) := Ex.new nl
        have nls : l ≠ s := s3.ne nl
        refine ⟨_, rfl, s, 2, _, rfl, s3.ex xl, by omega, by decide, (by unfold Bd; decide +kernel), fun f H4 f0 f1 e4 s4 => ?_⟩
        have hl4 := e4 _ _ nls (upd_same (H := H3) (a := l) (o := .lst [.int 1, .int (-1)]))
        have hf : f = 0 ∨ f = 1 := by omega
        rcases hf with rfl | rfl
        · exact ⟨l, _, _, .int 1, rfl, rfl, SqL.of hl4, rfl, kq 1 H4 (.inl rfl) ((ExB.of xl).trans e4) s4⟩
        · exact ⟨l, _, _, .int (-1), rfl, rfl, SqL.of hl4, rfl, kq (-1) H4 (.inr rfl) ((ExB.of xl).trans e4) s4⟩
      · exact ⟨_, D, ns, rfl, hD3, by omega, hP, s2.ne hD, fresh_B e2 hD s2.obj, e3, s3.le (by omega)⟩
    rintro σ' H3 ⟨y8, q, sg, rfl, hq, hql, hqs, nqs, nqH, e3, s3⟩
    have hT3 : Tab H3 p2 as2 rows2 := ⟨e3 _ _ np2s hT2.1, rows_but hT2.2 fun a ha o z => e3 a o (nas2 a ha) z⟩
    have e03 := e2.trans e3
    -- found
    refine ⟨Nat.zero_le _, fun p3 np3 => ?_⟩
    have x3 : Ex H3 (upd H3 p3 (.lst [])) := Ex.new np3
    have np3s : p3 ≠ s := s3.ne np3
    have np3H : H p3 = none := fresh_B e03 np3 s3.obj
    have ne3 : ∀ {b : Addr} {o : HO}, H3 b = some o → b ≠ p3 := fun h => ne_of_none h np3
    have qp3 := ne3 hq
    refine ⟨_, rfl, p2, rfl, ⟨_, SqL.of (x3 _ _ hT3.1)⟩, for_list (K := K) (a := p2) (xs := as2.map V.ref) (fun i σ H' => ∃ (y5 y6 y9 y10 : Option V) (as : List Addr) (rws : List (List Int)), σ = [some (.ref s), some (.ref g), some (.ref p2), some (.ref q), some (.ref p3), y5, y6, y7, y8, y9, y10] ∧ rws.length = i ∧ NewTab H H' p3 as rws w2 100 ∧ ExB s H H' ∧ SrcAt H' s (n + 109 + i) ∧
      Tab H' p2 as2 rows2 ∧ H' q = some (.lst (sg.map V.int))) ?_ (fun i σ H' _ ⟨_, _, _, _, _, _, _, _, _, _, _, t, _⟩ => SqL.of t.1) ?_ ?_⟩
    · exact ⟨_, _, _, _, [], [], rfl, rfl, NewTab.new np3H upd_same, e03.trans (ExB.of x3), (s3.ex x3).le (by omega), hT3.ex x3, x3 _ _ hq⟩
    · rintro i x σ H4 hi ⟨z5, z6, z9, z10, as, rws, rfl, hl, hN, e4, s4, hT4, hq4⟩
      rw [List.getElem?_map] at hi
      obtain ⟨ai, hai, rfl⟩ := Option.map_eq_some_iff.mp hi
      obtain ⟨ri, hri, hti⟩ := paired_get hT4.2 hai
      have lri := hok2 ri (List.mem_of_getElem? hri)
      have i8 : i < m2 := by rw [← hm2]; exact (List.getElem?_eq_some_iff.mp hri).1
      have nai := nas2 ai (List.mem_of_getElem? hai)
      refine ⟨fun σ' H' => ∃ f : Int, (f = 1 ∨ f = -1) ∧ σ' = [some (.ref s), some (.ref g), some (.ref p2), some (.ref q), some (.ref p3), some (.ref ai), some (.int f), y7, y8, z9, z10] ∧ ExB s H4 H' ∧ SrcAt H' s (n + 109 + i + 1), ?_, ?_⟩
      · refine ⟨_, rfl, (by show 3 ≤ sizeLine; decide), fun l nl => ?_⟩
        have xl : Ex H4 (upd H4 l (.lst [.int 1, .int 1, .int (-1)])) := Ex.new nl
        have nls : l ≠ s := s4.ne nl
        refine ⟨_, rfl, s, 3, _, rfl, s4.ex xl, by omega, by decide, (by unfold Bd; decide +kernel), fun f H5 f0 f1 e5 s5 => ?_⟩
        have hl5 := e5 _ _ nls (upd_same (H := H4) (a := l) (o := .lst [.int 1, .int 1, .int (-1)]))
        have hf : f = 0 ∨ f = 1 ∨ f = 2 := by omega
        rcases hf with rfl | rfl | rfl
        · exact ⟨l, _, _, .int 1, rfl, rfl, SqL.of hl5, rfl, 1, .inl rfl, rfl, (ExB.of xl).trans e5, s5⟩
        · exact ⟨l, _, _, .int 1, rfl, rfl, SqL.of hl5, rfl, 1, .inl rfl, rfl, (ExB.of xl).trans e5, s5⟩
        · exact ⟨l, _, _, .int (-1), rfl, rfl, SqL.of hl5, rfl, -1, .inr rfl, rfl, (ExB.of xl).trans e5, s5⟩
      rintro σ' H5 ⟨f, hf, rfl, e5, s5⟩
      have N5 := hN.exB e5 hs.obj
      have hT5 : Tab H5 p2 as2 rows2 := ⟨e5 _ _ np2s hT4.1, rows_but hT4.2 fun a ha o z => e5 a o (nas2 a ha) z⟩
      have hq5 := e5 _ _ nqs hq4
      have hti5 := e5 _ _ nai hti
      have al : as.length = i := by rw [Paired.length N5.tab.2, hl]
      have bf : Bd 2 f := by
        rcases hf with rfl | rfl <;> (unfold Bd; decide)
      have small : ∀ {x : Int}, x.natAbs ≤ 100 → Bd 10 x := fun {x} h => Nat.lt_of_le_of_lt h (by decide)
      refine ⟨_, rfl, .inl ⟨rfl, _, SqL.of N5.tab.1⟩, ?_⟩
      refine el_zip (K := K) (f := fun x y => f * x * y) (xs := ri) (ys := sg) (ea_cons (ev_var rfl) (ea_cons (ev_var rfl) ea_nil)) (SqL.of hti5) (SqL.of hq5) (by omega) (by omega) (fun u v => rfl) (fun x y H1 hx hy _ => ev_op (ev_op (ev_var rfl) (ev_var rfl) (rv_I (bf.mulOk (small (lri.2 x hx))))) (ev_var rfl) (rv_I ((bf.mul (small (lri.2 x hx))).mulOk (show Bd 2 y by rcases hqs y hy with rfl | rfl <;> (unfold Bd; decide))))) H5 (Ex.refl _) _ fun r H6 nr e6 hr => ?_
      refine ⟨p3, _, _, rfl, rfl, e6 _ _ N5.tab.1, small1000 (by rw [List.length_map]; omega), ?_⟩
      refine ⟨_, _, _, _, as ++ [r], rws ++ [_], rfl, by rw [List.length_append, hl]; rfl, N5.app (noneB (e4.trans e5) s5.obj) e6 nr hr (by rw [List.length_zipWith]; omega) (fun y hy => ?_), ?_, ?_, ?_, ?_⟩
      · obtain ⟨u, v, hu, hv, rfl⟩ : ∃ u v, u ∈ ri ∧ v ∈ sg ∧ f * u * v = y := by
          obtain ⟨j, hj⟩ := List.getElem?_of_mem hy
          rw [List.getElem?_zipWith] at hj
          cases h3 : ri[j]? with
          | none => rw [h3] at hj; simp at hj
          | some u =>
            cases h4 : sg[j]? with
            | none => rw [h3, h4] at hj; simp at hj
            | some v =>
              rw [h3, h4] at hj
              exact ⟨u, v, List.mem_of_getElem? h3, List.mem_of_getElem? h4, Option.some.inj hj⟩
        have b1 := lri.2 u hu
        rcases hf with rfl | rfl <;> rcases hqs v hv with rfl | rfl <;> omega
      · refine fun b o nb h => ?_
        rw [upd_ne (ne_of_none h np3H)]
        exact e6 _ _ (e5 _ _ nb (e4 _ _ nb h))
      · obtain ⟨a1, a2, a3, a4, a5, a6, a7, a8⟩ := s5.ex e6
        exact ⟨a1, a2, a3, by rw [upd_ne np3s.symm]; exact a4, a5, a6, a7, by omega⟩
      · refine ⟨?_, rows_but hT5.2 fun a ha o z => ?_⟩
        · rw [upd_ne (ne3 hT3.1)]
          exact e6 _ _ hT5.1
        · obtain ⟨_, _, h3⟩ := paired_mem hT3.2 ha
          rw [upd_ne (ne3 h3)]
          exact e6 _ _ z
      · rw [upd_ne qp3]
        exact e6 _ _ hq5
    · rintro σ H4 ⟨z5, z6, z9, z10, as, rws, rfl, hl, hN, e4, s4, _, _⟩
      refine ⟨_, rfl, ?_⟩
      rw [List.length_map] at hl s4
      have := Paired.length hT3.2
      exact k as rws p3 H4 m2 w2 hmw hN (by omega) e4 (s4.le (by omega))
-- DEF check_table

def sp_check_table (K : PySem.W.Frag) : Sp := fun vs H Q _ => ∃ (p : Addr) (as : List Addr) (rows : List (List Int)) (m w : Nat), vs = [.ref p] ∧ TabOk H p as rows m w ∧ ∀ H', Ex H H' → Q .non H'

theorem ok_check_table (T : Txt K mg) : FnOk P w K mg base CX0 4 T.f_check_table T.fd_check_table ["thing"] (sp_check_table K) := by
  refine Fun.ok T.F_check_table sc_check_table (fun vs H Q E h => ?_) (fun cdv A outer s H vs Q E hr h => ?_)
  · obtain ⟨_, _, _, _, _, rfl, _⟩ := h; rfl
  · refine ⟨_, (pss_one (ps_if (pt_not (pt_val (pe_call (ok_is_table T) hr (by rfl) T.g_is_table T.k_is_table T.b_is_table .nil pass0 (pa_cons (pv 0) pa_nil))))
        (pss_one ps_never)
        pss_nil)), ?_⟩
    obtain ⟨p, as, rows, m, w, rfl, hT, k⟩ := h
    exact ⟨_, rfl, p, as, rows, m, w, rfl, hT, fun H' e => ⟨true, rfl, iteF (k H' e)⟩⟩
-- DEF _law_net_drawn

def sp__law_net_drawn (K : PySem.W.Frag) : Sp := fun vs H Q _ => ∃ (s : Addr) (n : Int) (m w : Nat), vs = [.ref s, .int m, .int w] ∧ SrcAt H s n ∧ n ≤ 300000000 ∧ 1 ≤ m ∧ m ≤ 8 ∧ 1 ≤ w ∧ w ≤ 8 ∧
  ∀ (rs : List Addr) (rows : List (List Int)) (p : Addr) (H' : Hp), NewTab H H' p rs rows w 100 → rows.length = m → ExB s H H' → SrcAt H' s (n + 400) → Q (.ref p) H'

theorem ok__law_net_drawn (T : Txt K mg) : FnOk P w K mg base CX0 4 T.f__law_net_drawn T.fd__law_net_drawn ["_law_source", "_law_many", "_law_wide"] (sp__law_net_drawn K) := by
  refine Fun.ok T.F__law_net_drawn sc__law_net_drawn (fun vs H Q E h => ?_) (fun cdv A outer s H vs Q E hr h => ?_)
  · obtain ⟨_, _, _, _, rfl, _⟩ := h; rfl
  · refine ⟨_, (pss_cons (ps_setLc (i := 3) (own := [("_law_k", 4)]) (g := gName 4) (tt := tYes) rfl sc__law_net_drawn.nd rfl rfl (sw_true rfl rfl rfl (by decide +kernel)) (pi_range1 (by rfl) T.n_range (pa_cons (pv 2) pa_nil)) (blkOk_by (N := ["_law_source", "_law_many", "_law_wide", "_law_arcs", "_law_k"]) (sc := (defScope s__law_net_drawn)) (by decide +kernel)) (fun _ _ _ _ _ => pg_name (i := 4) sc__law_net_drawn.nd rfl (Or.inl rfl)) (fun _ _ _ _ _ => pts_nil) (fun _ _ _ _ _ => (pe_tup (pa_cons (pe_call (ok__law_next T) (hr.mono (by decide)) (by rfl) T.g__law_next T.k__law_next T.b__law_next .nil pass0 (pa_cons (pv 0) (pa_cons (pe_op op_add (pv 1) pe_int) pa_nil))) (pa_cons (pe_call (ok__law_next T) (hr.mono (by decide)) (by rfl) T.g__law_next T.k__law_next T.b__law_next .nil pass0 (pa_cons (pv 0) (pa_cons (pe_op op_add (pv 1) pe_int) pa_nil))) pa_nil)))))
      (pss_one (ps_ret (pe_call (ok__law_net T) (hr.mono (by decide)) (by rfl) T.g__law_net T.k__law_net T.b__law_net .nil pass0 (pa_cons (pe_call (ok__law_ends T) hr (by rfl) T.g__law_ends T.k__law_ends T.b__law_ends .nil pass0 (pa_cons (pv 0) (pa_cons (pv 1) pa_nil))) (pa_cons (pv 3) pa_nil)))))), ?_⟩
    obtain ⟨s, n, m, w, rfl, hs, hn, hm1, hm8, hw1, hw8, k⟩ := h
    refine ⟨_, rfl, _, rfl, by omega, by omega, fun D hD => ?_⟩
    have hDs : D ≠ s := hs.ne hD
    refine lc_range (lo := 0) (n := (w : Int).toNat) (fun i H' => ∃ (bs : List Addr) (qs : List (Int × Int)), H' D = some (.lst (bs.map V.ref)) ∧ EdgesAt H' bs qs ∧ qs.length = i ∧ ExB s H H' ∧ SrcAt H' s (n + 2 * i) ∧ ∀ e ∈ qs, 0 ≤ e.1 ∧ e.1 ≤ (m : Int) ∧ 0 ≤ e.2 ∧ e.2 ≤ (m : Int))
      ⟨[], [], upd_same, .nil, rfl, ExB.of (Ex.new hD), (hs.ex (Ex.new hD)).le (by omega), fun e he => by simp at he⟩ (fun i H1 hi p => ?_) (fun H1 p => ?_)
    · obtain ⟨bs, qs, h1, h2, h3, h4, h5, h6⟩ := p
      have bm : Bd 8000 ((m : Int) + 1) := by
        unfold Bd
        exact Nat.lt_of_lt_of_le (show ((m : Int) + 1).natAbs < 1024 by omega) (by decide +kernel)
      refine ⟨rfl, ?_⟩
      refine ⟨_, rfl, _, rfl, _, _, rfl, rfl, s, _, _, rfl, h5, by omega, by omega, bm, fun f H2 f0 f1 e2 s2 => ?_⟩
      refine ⟨_, rfl, _, rfl, _, _, rfl, rfl, s, _, _, rfl, s2, by omega, by omega, bm, fun g H3 g0 gl e3 s3 => ?_⟩
      refine ⟨(by show 2 ≤ sizeLine; decide), fun t nt => ?_⟩
      have xt : Ex H3 (upd H3 t (.tup [.int f, .int g])) := Ex.new nt
      have e13 := e2.trans e3
      have hD3 := e13 _ _ hDs h1
      have el : bs.length = i := by rw [Paired.length h2, h3]
      refine ⟨_, xt _ _ hD3, small1000 (by rw [List.length_map]; omega), bs ++ [t], qs ++ [(f, g)], ?_, ?_, ?_, ?_, ?_, ?_⟩
      · rw [upd_same, List.map_append]
        rfl
      · exact paired_imp (fun c d h => tups_U (xt _ _ hD3) _ _ h) (paired_snoc (EdgesAt.mono (fun c xs h => xt _ _ (tups_B h5 e13 _ _ h)) h2) (upd_same : upd H3 t (.tup [.int f, .int g]) t = some (.tup [.int f, .int g])))
      · rw [List.length_append, h3]
        rfl
      · refine fun b o nb h => ?_
        rw [upd_ne (ne_of_none h hD)]
        exact xt _ _ (e13 _ _ nb (h4 _ _ nb h))
      · obtain ⟨a1, a2, a3, a4, a5, a6, a7, a8⟩ := s3.ex xt
        exact ⟨a1, a2, a3, by rw [upd_ne hDs.symm]; exact a4, a5, a6, a7, by omega⟩
      · intro e he
        rcases List.mem_append.mp he with q | q
        · exact h6 e q
        · have : e = (f, g) := by simpa using q
          rw [this]
          exact ⟨f0, by omega, g0, by omega⟩
    · obtain ⟨bs, qs, h1, h2, h3, h4, h5, h6⟩ := p
      have h3' : qs.length = w := by rw [h3]; omega
      refine ⟨_, rfl, _, rfl, s, _, _, rfl, h5, by omega, by omega, by omega, fun as es p H2 l2 b2 c2 d2 e2 f2 g2' s2 => ?_⟩
      refine ⟨_, rfl, p, D, as, bs, es, qs, m, rfl, by omega, hm1, hm8, e2, d2, g2' _ _ hDs h1, EdgesAt.mono (tups_B h5 g2') h2, by omega, b2, h6, c2, fun rs rows p' H3 x1 x2 x3 x4 x5 x6 x7 x8 => ?_⟩
      have nt : NewTab H2 H3 p' rs rows w 100 := ⟨x1, x2, x3, x4, x6, fun r hr => by rw [← h3']; exact x8 r hr⟩
      exact k rs rows p' H3 (nt.back (h4.trans g2') s2.obj) x7 ((h4.trans g2').trans (ExB.of x5)) ((s2.ex x5).le (by omega))
-- DEF _law_table

def sp__law_table (K : PySem.W.Frag) : Sp := fun vs H Q _ => ∃ (s : Addr) (n : Int) (most : Nat), vs = [.ref s, .int most] ∧ SrcAt H s n ∧ n ≤ 100000000 ∧ 1 ≤ most ∧ most ≤ 8 ∧
  ∀ (rs : List Addr) (rows : List (List Int)) (p : Addr) (H' : Hp) (m w : Nat), 1 ≤ m → m ≤ most → 1 ≤ w → w ≤ most → NewTab H H' p rs rows w (10 ^ 30) → rows.length = m → ExB s H H' → SrcAt H' s (n + 1000) → Q (.ref p) H'

theorem ok__law_table (T : Txt K mg) : FnOk P w K mg base CX0 5 T.f__law_table T.fd__law_table ["_law_source", "_law_most"] (sp__law_table K) := by
  refine Fun.ok T.F__law_table sc__law_table (fun vs H Q E h => ?_) (fun cdv A outer s H vs Q E hr h => ?_)
  · obtain ⟨_, _, _, rfl, _⟩ := h; rfl
  · refine ⟨_, (pss_cut (ps_set (i := 2) sc__law_table.nd rfl (by first | exact Or.inl rfl | exact Or.inr rfl) (pe_op op_add pe_int (pe_call (ok__law_next T) (hr.mono (by decide)) (by rfl) T.g__law_next T.k__law_next T.b__law_next .nil pass0 (pa_cons (pv 0) (pa_cons (pv 1) pa_nil)))))
      (pss_cut (ps_set (i := 3) sc__law_table.nd rfl (by first | exact Or.inl rfl | exact Or.inr rfl) (pe_op op_add pe_int (pe_call (ok__law_next T) (hr.mono (by decide)) (by rfl) T.g__law_next T.k__law_next T.b__law_next .nil pass0 (pa_cons (pv 0) (pa_cons (pv 1) pa_nil)))))
      (pss_cut (ps_set (i := 4) sc__law_table.nd rfl (by first | exact Or.inl rfl | exact Or.inr rfl) (pe_call (ok__law_next T) (hr.mono (by decide)) (by rfl) T.g__law_next T.k__law_next T.b__law_next .nil pass0 (pa_cons (pv 0) (pa_cons pe_int pa_nil))))
      (pss_cut (ps_if (pt_cmpR op_lt (pv 4) pe_int (nomark _))
        (pss_one (ps_setLc (i := 5) (own := [("_law_row", 7)]) (g := gName 7) (tt := tYes) rfl sc__law_table.nd rfl rfl (sw_true rfl rfl rfl (by decide +kernel)) (pi_range1 (by rfl) T.n_range (pa_cons (pv 2) pa_nil)) (blkOk_by (N := ["_law_source", "_law_most", "_law_many", "_law_wide", "_law_kind", "_law_table_here", "_law_k", "_law_row"]) (sc := (defScope s__law_table)) (by decide +kernel)) (fun _ _ _ _ _ => pg_name (i := 7) sc__law_table.nd rfl (Or.inl rfl)) (fun _ _ _ _ _ => pts_nil) (fun _ _ _ _ _ => (pe_lc (own := [("_law_k", 6)]) (g := gName 6) (tt := tYes) rfl sc__law_table.nd (pi_range1 (by rfl) T.n_range (pa_cons (pv 3) pa_nil)) (blkOk_by (N := ["_law_source", "_law_most", "_law_many", "_law_wide", "_law_kind", "_law_table_here", "_law_k", "_law_row"]) (sc := (relS ({ kind := .function, names := [(".0", .local), ("_law_row", .local), ("range", .globalImplicit), ("_law_source", .free), ("_law_wide", .free)], isGenerator := false, isCoroutine := false } : Scope) (defScope s__law_table))) (by decide +kernel)) (fun _ _ _ _ _ => pg_name (i := 6) sc__law_table.nd rfl (Or.inl rfl)) (fun _ _ _ _ _ => pts_nil) (fun _ _ _ _ _ => (pe_op op_sub (pe_call (ok__law_next T) (hr.mono (by decide)) (by rfl) T.g__law_next T.k__law_next T.b__law_next .nil pass0 (pa_cons (pv 0) (pa_cons pe_int pa_nil))) pe_int))))))
        (pss_one (ps_if (pt_cmpR op_lt (pv 4) pe_int (nomark _))
            (pss_one (ps_set (i := 5) sc__law_table.nd rfl (by first | exact Or.inl rfl | exact Or.inr rfl) (pe_call (ok__law_net_drawn T) hr (by rfl) T.g__law_net_drawn T.k__law_net_drawn T.b__law_net_drawn .nil pass0 (pa_cons (pv 0) (pa_cons (pv 2) (pa_cons (pv 3) pa_nil))))))
            (pss_one (ps_set (i := 5) sc__law_table.nd rfl (by first | exact Or.inl rfl | exact Or.inr rfl) (pe_call (ok__law_stretches T) (hr.mono (by decide)) (by rfl) T.g__law_stretches T.k__law_stretches T.b__law_stretches .nil pass0 (pa_cons (pv 0) (pa_cons (pv 2) (pa_cons (pv 3) pa_nil)))))))))
      (pss_cut (ps_if (pt_cmpR op_eq (pe_call (ok__law_next T) (hr.mono (by decide)) (by rfl) T.g__law_next T.k__law_next T.b__law_next .nil pass0 (pa_cons (pv 0) (pa_cons pe_int pa_nil))) pe_int (nomark _))
        (pss_one (ps_set (i := 5) sc__law_table.nd rfl (by first | exact Or.inl rfl | exact Or.inr rfl) (pe_call (ok__law_swung T) (hr.mono (by decide)) (by rfl) T.g__law_swung T.k__law_swung T.b__law_swung .nil pass0 (pa_cons (pv 0) (pa_cons (pv 5) pa_nil)))))
        pss_nil)
      (pss_cons (ps_for PassesOwn.never rfl (pi_range1 (by rfl) T.n_range (pa_cons (pe_call (ok__law_one T) (hr.mono (by decide)) (by rfl) T.g__law_one T.k__law_one T.b__law_one .nil pass0 (pa_cons (pv 0) (pa_cons (pe_lst (pa_cons pe_int (pa_cons pe_int (pa_cons pe_int (pa_cons pe_int pa_nil))))) pa_nil))) pa_nil)) (pg_name (i := 6) sc__law_table.nd rfl (by first | exact Or.inl rfl | exact Or.inr rfl))
        (pss_cut (ps_set (i := 7) sc__law_table.nd rfl (by first | exact Or.inl rfl | exact Or.inr rfl) (pe_ix (r := rIxL K) ix_list (pv 5) (pe_call (ok__law_next T) (hr.mono (by decide)) (by rfl) T.g__law_next T.k__law_next T.b__law_next .nil pass0 (pa_cons (pv 0) (pa_cons (pe_callB (id := "len") (r := rLenS K) call_len_seq (by rfl) T.n_len PySem.boot_len (pa_cons (pv 5) pa_nil)) pa_nil))) (fun _ _ => rfl)))
          (pss_one (ps_asg (pe_call (ok__law_one T) (hr.mono (by decide)) (by rfl) T.g__law_one T.k__law_one T.b__law_one .nil pass0 (pa_cons (pv 0) (pa_cons (pe_lst (pa_cons pe_int (pa_cons (pe_un un_neg pe_int) (pa_cons pe_int (pa_cons pe_int (pa_cons (pe_un un_neg pe_int) (pa_cons pe_int (pa_cons pe_int (pa_cons (pe_un un_neg pe_int) (pa_cons (pe_op op_pow pe_int pe_int) pa_nil)))))))))) pa_nil))) (pg_sub (pv 7) (pe_call (ok__law_next T) (hr.mono (by decide)) (by rfl) T.g__law_next T.k__law_next T.b__law_next .nil pass0 (pa_cons (pv 0) (pa_cons (pe_callB (id := "len") (r := rLenS K) call_len_seq (by rfl) T.n_len PySem.boot_len (pa_cons (pv 7) pa_nil)) pa_nil))) set_list)))))
      (pss_one (ps_ret (pv 5))))))))), ?_⟩
    obtain ⟨s, n, most, rfl, hs, hn, hm1, hm8, k⟩ := h
    have bmost : Bd 8000 (most : Int) := by
      unfold Bd
      exact Nat.lt_of_lt_of_le (show ((most : Int)).natAbs < 1024 by omega) (by decide +kernel)
    -- many, wide, kind
    refine ⟨fun σ' H1 => ∃ m : Nat, σ' = [some (.ref s), some (.int most), some (.int m), none, none, none, none, none] ∧ 1 ≤ m ∧ m ≤ most ∧ ExB s H H1 ∧ SrcAt H1 s (n + 1), ?_, ?_⟩
    · refine ⟨_, rfl, _, rfl, s, _, n, rfl, hs, by omega, by omega, bmost, fun f H1 f0 f1 e1 s1 => ⟨_, _, rfl, rfl, (1 + f).toNat, ?_, by omega, by omega, e1, s1⟩⟩
      have : (((1 + f).toNat : Nat) : Int) = 1 + f := by omega
      rw [this]
      rfl
    rintro σ' H1 ⟨m, rfl, m1, m2, e1, s1⟩
    refine ⟨fun σ' H2 => ∃ w : Nat, σ' = [some (.ref s), some (.int most), some (.int m), some (.int w), none, none, none, none] ∧ 1 ≤ w ∧ w ≤ most ∧ ExB s H H2 ∧ SrcAt H2 s (n + 2), ?_, ?_⟩
    · refine ⟨_, rfl, _, rfl, s, _, _, rfl, s1, by omega, by omega, bmost, fun f H2 f0 f1 e2 s2 => ⟨_, _, rfl, rfl, (1 + f).toNat, ?_, by omega, by omega, e1.trans e2, s2.le (by omega)⟩⟩
      have : (((1 + f).toNat : Nat) : Int) = 1 + f := by omega
      rw [this]
      rfl
    rintro σ' H2 ⟨w, rfl, w1, w2, e2, s2⟩
    refine ⟨fun σ' H3 => ∃ f : Int, σ' = [some (.ref s), some (.int most), some (.int m), some (.int w), some (.int f), none, none, none] ∧ ExB s H H3 ∧ SrcAt H3 s (n + 3), ?_, ?_⟩
    · exact ⟨_, rfl, s, 8, _, rfl, s2, by omega, by decide, (by unfold Bd; decide +kernel), fun f H3 f0 f1 e3 s3 => ⟨f, rfl, e2.trans e3, s3.le (by omega)⟩⟩
    rintro σ' H3 ⟨f, rfl, e3, s3⟩
    clear e1 s1 e2 s2
    -- the table
    refine ⟨fun σ' H4 => ∃ (y6 y7 : Option V) (p : Addr) (as : List Addr) (rows : List (List Int)), σ' = [some (.ref s), some (.int most), some (.int m), some (.int w), some (.int f), some (.ref p), y6, y7] ∧ NewTab H H4 p as rows w 100 ∧ rows.length = m ∧ ExB s H H4 ∧ SrcAt H4 s (n + 403), ?_, ?_⟩
    · refine ⟨_, rfl, _, _, rfl, rfl, _, rfl, ?_⟩
      refine ite2 (fun _ => ?_) (fun _ => ?_)
      · -- drawn
        refine ⟨_, rfl, _, rfl, by omega, by omega, fun D hD => ?_⟩
        have hDs : D ≠ s := s3.ne hD
        have hDH : H D = none := fresh_B e3 hD s3.obj
        refine lc_range (lo := 0) (n := (m : Int).toNat) (fun i H' => ∃ as rows, NewTab H H' D as rows w 100 ∧ rows.length = i ∧ ExB s H H' ∧ SrcAt H' s (n + 3 + 10 * i)) ⟨[], [], NewTab.new hDH upd_same, rfl, e3.trans (ExB.of (Ex.new hD)), (s3.ex (Ex.new hD)).le (by omega)⟩ (fun i H4 hi p => ?_) (fun H4 p => ?_)
        · obtain ⟨as, rows, hN, hl, e4, s4⟩ := p
          have al : as.length = i := by rw [Paired.length hN.tab.2, hl]
          refine ⟨rfl, ?_⟩
          dsimp only [tYes]
          rw [if_pos rfl]
          refine lc_draw (s := s) (n := n + 3 + 10 * i) (m := w) (fun x => x.natAbs ≤ 100) (ea_cons (ev_var rfl) ea_nil) (by omega) s4 (fun u => rfl) (fun j H5 e5 hj s5 Q1 kq => ?_) (fun r ns H5 nr e5 s5 hr hln hP => ?_)
          · exact ⟨_, rfl, s, 3, _, rfl, s5, by omega, by decide, (by unfold Bd; decide +kernel), fun g H6 g0 g1 e6 s6 => ⟨_, _, rfl, rfl, kq (g - 1) H6 (by omega) e6 s6⟩⟩
          · have N5 := hN.exB e5 hs.obj
            have nr0 : H r = none := fresh_B e4 nr s4.obj
            have nrD : r ≠ D := fun z => by
              rw [z, hN.tab.1] at nr
              cases nr
            have nra : r ∉ as := fun ha => by
              obtain ⟨x, _, hx⟩ := paired_mem hN.tab.2 ha
              rw [nr] at hx
              cases hx
            refine ⟨_, N5.tab.1, small1000 (by rw [List.length_map]; omega), as ++ [r], rows ++ [ns], ?_, ?_, ?_, ?_⟩
            · refine ⟨hDH, fun a ha => ?_, ?_, ?_, ⟨?_, ?_⟩, fun x hx => ?_⟩
              · rcases List.mem_append.mp ha with q | q
                · exact hN.a0 a q
                · rw [show a = r by simpa using q]
                  exact nr0
              · refine List.nodup_append.mpr ⟨hN.nd, by simp, fun a ha b hb z => ?_⟩
                have : b = r := by simpa using hb
                exact nra (by rw [← this, ← z]; exact ha)
              · intro ha
                rcases List.mem_append.mp ha with q | q
                · exact hN.np q
                · exact nrD (by simpa using q : D = r).symm
              · rw [upd_same, List.map_append]
                rfl
              · refine paired_snoc (rows_but N5.tab.2 fun a ha o g => ?_) ?_
                · rw [upd_ne (fun z => hN.np (by rw [← z]; exact ha))]
                  exact g
                · rw [upd_ne nrD]
                  exact hr
              · rcases List.mem_append.mp hx with q | q
                · exact hN.ok x q
                · rw [show x = ns by simpa using q]
                  exact ⟨hln, hP⟩
            · rw [List.length_append, hl]
              rfl
            · refine fun b o nb h => ?_
              rw [upd_ne (ne_of_none h hDH)]
              exact e5 _ _ nb (e4 _ _ nb h)
            · obtain ⟨a1, a2, a3, a4, a5, a6, a7, a8⟩ := s5
              exact ⟨a1, a2, a3, by rw [upd_ne hDs.symm]; exact a4, a5, a6, a7, by omega⟩
        · obtain ⟨as, rows, hN, hl, e4, s4⟩ := p
          exact ⟨_, _, D, as, rows, rfl, hN, by omega, e4, s4.le (by omega)⟩
      · refine ⟨_, rfl, _, _, rfl, rfl, _, rfl, ?_⟩
        refine ite2 (fun _ => ?_) (fun _ => ?_)
        · refine ⟨_, rfl, _, rfl, _, rfl, s, _, m, w, rfl, s3, by omega, by omega, by omega, by omega, by omega, fun rs rows p H4 hN hl e4 s4 => ?_⟩
          exact ⟨_, _, p, rs, rows, rfl, hN.back e3 s3.obj, hl, e3.trans e4, s4.le (by omega)⟩
        · refine ⟨_, rfl, _, rfl, _, rfl, s, _, m, w, rfl, s3, by omega, by omega, by omega, by omega, by omega, fun rs rows p H4 hN hl e4 s4 => ?_⟩
          exact ⟨_, _, p, rs, rows, rfl, hN.back e3 s3.obj, hl, e3.trans e4, s4.le (by omega)⟩
    rintro σ' H4 ⟨y6, y7, p, as, rows, rfl, hN, hl, e4, s4⟩
    -- perhaps swung
    have nin : ∀ {a : Addr}, H a = none → a ≠ s := fun h => hs.ne h
    refine ⟨fun σ' H5 => ∃ (p : Addr) (as : List Addr) (rows : List (List Int)) (m' w' : Nat), σ' = [some (.ref s), some (.int most), some (.int m), some (.int w), some (.int f), some (.ref p), y6, y7] ∧ 1 ≤ m' ∧ m' ≤ most ∧ 1 ≤ w' ∧ w' ≤ most ∧ NewTab H H5 p as rows w' 100 ∧ rows.length = m' ∧ ExB s H H5 ∧ SrcAt H5 s (n + 604), ?_, ?_⟩
    · refine ⟨_, rfl, s, 2, _, rfl, s4, by omega, by decide, (by unfold Bd; decide +kernel), fun g H5 g0 g1 e5 s5 => ⟨rfl, _, rfl, ?_⟩⟩
      have N5 := hN.exB e5 hs.obj
      refine ite2 (fun _ => ?_) (fun _ => ?_)
      · refine ⟨_, rfl, _, rfl, s, p, _, as, rows, m, w, rfl, s5, by omega, nin hN.p0, fun a ha => nin (hN.a0 a ha), N5.tab, hl, hN.ok, by omega, by omega, by omega, by omega, fun rs rows' p' H6 m' w' hmw hN' hl' e6 s6 => ?_⟩
        refine ⟨p', rs, rows', m', w', rfl, ?_, ?_, ?_, ?_, hN'.back (e4.trans e5) s5.obj, hl', (e4.trans e5).trans e6, s6.le (by omega)⟩ <;> rcases hmw with ⟨rfl, rfl⟩ | ⟨rfl, rfl⟩ <;> omega
      · exact ⟨p, as, rows, m, w, rfl, m1, m2, w1, w2, N5, hl, e4.trans e5, s5.le (by omega)⟩
    rintro σ' H5 ⟨p, as, rows, m', w', rfl, m1', m2', w1', w2', hN5, hl5, e5, s5⟩
    clear hN hl e4 s4
    have hN5 := hN5.mono (show 100 ≤ 10 ^ 30 by decide)
    -- other entries
    refine ⟨_, rfl, (by show 4 ≤ sizeLine; decide), fun l nl => ?_⟩
    have xl : Ex H5 (upd H5 l (.lst [.int 0, .int 0, .int 1, .int 2])) := Ex.new nl
    refine ⟨s, l, _, _, rfl, s5.ex xl, by omega, s5.ne nl, SqL.of upd_same, by decide, Nat.le_of_ble_eq_true rfl, fun v hv H6 e6 s6 => ?_⟩
    obtain ⟨c, rfl, hc0, hc2⟩ : ∃ c : Int, v = .int c ∧ 0 ≤ c ∧ c ≤ 2 := by
      simp only [List.mem_cons, List.not_mem_nil, or_false] at hv
      rcases hv with rfl | rfl | rfl | rfl
      · exact ⟨0, rfl, by decide, by decide⟩
      · exact ⟨0, rfl, by decide, by decide⟩
      · exact ⟨1, rfl, by decide, by decide⟩
      · exact ⟨2, rfl, by decide, by decide⟩
    have N6 := (hN5.ex xl).exB e6 hs.obj
    have e06 := (e5.trans (ExB.of xl)).trans e6
    clear xl nl
    refine ⟨_, rfl, by omega, by omega, for_range (lo := 0) (n := c.toNat) (fun i σ H' => ∃ (y6 y7 : Option V) (rows : List (List Int)), σ = [some (.ref s), some (.int most), some (.int m), some (.int w), some (.int f), some (.ref p), y6, y7] ∧ NewTab H H' p as rows w' (10 ^ 30) ∧ rows.length = m' ∧ ExB s H H' ∧ SrcAt H' s (n + 605 + 3 * i)) ⟨_, _, rows, rfl, N6, hl5, e06, s6.le (by omega)⟩ ?_ ?_⟩
    · rintro i σ H7 hi ⟨z6, z7, rows7, rfl, hN7, hl7, e7, s7⟩
      have al : as.length = m' := by rw [Paired.length hN7.tab.2, hl7]
      have i2 : i < 2 := by omega
      refine ⟨fun σ' H8 => ∃ (kk : Nat) (x : Addr) (row : List Int), σ' = [some (.ref s), some (.int most), some (.int m), some (.int w), some (.int f), some (.ref p), some (.int (0 + (i : Int))), some (.ref x)] ∧ as[kk]? = some x ∧ rows7[kk]? = some row ∧ ExB s H7 H8 ∧ SrcAt H8 s (n + 605 + 3 * i + 1), ?_, ?_⟩
      · refine ⟨_, rfl, _, rfl, _, rfl, p, _, rfl, .inl (SqL.of hN7.tab.1), s, _, _, rfl, s7, by omega, (by rw [List.length_map]; omega), ?_, fun g H8 g0 g1 e8 s8 => ?_⟩
        · unfold Bd
          exact Nat.lt_of_lt_of_le (show (((as.map V.ref).length : Nat) : Int).natAbs < 1024 by rw [List.length_map]; omega) (by decide +kernel)
        · rw [List.length_map] at g1
          obtain ⟨x, hx⟩ : ∃ x, as[g.toNat]? = some x := ⟨_, List.getElem?_eq_getElem (by omega)⟩
          obtain ⟨row, hrow, _⟩ := paired_get hN7.tab.2 hx
          have N8 := hN7.exB e8 hs.obj
          exact ⟨p, _, _, _, rfl, rfl, SqL.of N8.tab.1, at_of (j := g.toNat) (by omega) (by rw [List.getElem?_map, hx]; rfl), g.toNat, x, row, rfl, hx, hrow, e8, s8⟩
      rintro σ' H8 ⟨kk, x, row, rfl, hx, hrow, e8, s8⟩
      have N8 := hN7.exB e8 hs.obj
      have nxs : x ≠ s := nin (hN7.a0 x (List.mem_of_getElem? hx))
      have o := hN7.ok row (List.mem_of_getElem? hrow)
      have hxr : H8 x = some (.lst (row.map V.int)) := by
        obtain ⟨r', hr', hh⟩ := paired_get N8.tab.2 hx
        rw [hrow] at hr'
        rw [Option.some.inj hr']
        exact hh
      refine ⟨_, rfl, _, rfl, _, rfl, _, rfl, _, _, rfl, rfl, ⟨by decide, by decide, by decide⟩, (by show 9 ≤ sizeLine; decide), fun l nl => ?_⟩
      have xl : Ex H8 (upd H8 l (.lst [.int 1, .int (-1), .int 0, .int 1, .int (-1), .int 0, .int 2, .int (-3), .int (10 ^ (30 : Int).toNat)])) := Ex.new nl
      refine ⟨s, l, _, _, rfl, s8.ex xl, by omega, s8.ne nl, SqL.of upd_same, by decide, Nat.le_of_ble_eq_true rfl, fun v hv H9 e9 s9 => ?_⟩
      obtain ⟨y, rfl, hy⟩ : ∃ y : Int, v = .int y ∧ y.natAbs ≤ 10 ^ 30 := by
        simp only [List.mem_cons, List.not_mem_nil, or_false] at hv
        rcases hv with rfl | rfl | rfl | rfl | rfl | rfl | rfl | rfl | rfl <;> exact ⟨_, rfl, by decide +kernel⟩
      have x9 := e9 _ _ nxs (xl _ _ hxr)
      refine ⟨_, rfl, _, rfl, _, rfl, x, _, rfl, .inl (SqL.of x9), s, _, _, rfl, s9, by omega, (by rw [List.length_map, o.1]; omega), ?_, fun g HA g0 g1 eA sA => ?_⟩
      · unfold Bd
        exact Nat.lt_of_lt_of_le (show (((row.map V.int).length : Nat) : Int).natAbs < 1024 by rw [List.length_map, o.1]; omega) (by decide +kernel)
      · rw [List.length_map] at g1
        have e8A := (e8.trans (ExB.of xl)).trans (e9.trans eA)
        have NA := hN7.exB e8A hs.obj
        have ix : ixN (row.map V.int).length g = some g.toNat := by
          have := Evl.ixN_nat (n := (row.map V.int).length) (j := g.toNat) (by rw [List.length_map]; omega)
          rw [← this]
          congr 1
          omega
        refine ⟨x, _, g, g.toNat, rfl, rfl, eA _ _ nxs x9, ix, ?_⟩
        refine ⟨_, _, rows7.set kk (row.set g.toNat y), rfl, NA.set hx hrow hy, by rw [List.length_set]; exact hl7, ?_, ?_⟩
        · refine fun b o' nb h => ?_
          rw [upd_ne (ne_of_none h (hN7.a0 x (List.mem_of_getElem? hx)))]
          exact e8A _ _ nb (e7 _ _ nb h)
        · obtain ⟨a1, a2, a3, a4, a5, a6, a7, a8⟩ := sA
          exact ⟨a1, a2, a3, by rw [upd_ne nxs.symm]; exact a4, a5, a6, a7, by omega⟩
    · rintro σ H7 ⟨z6, z7, rows7, rfl, hN7, hl7, e7, s7⟩
      refine ⟨_, rfl, ?_⟩
      exact k as rows7 p H7 m' w' m1' m2' w1' w2' hN7 hl7 e7 (s7.le (by omega))
-- DEF init_NotWhole

/-! ### NotWhole, whose rows are a new list -/
def RaiseNW (C : Addr) (H : Hp) (ns : List Int) (E : XK) : Prop := ∀ d l H', Ex H H' → H' d = some (.xd [("rows", .ref l)]) → H' l = some (.lst (ns.map V.int)) → H l = none → E (.ref C) (some d) H'
theorem RaiseNW.ex {C : Addr} {H H1 : Hp} {ns : List Int} {E : XK} (h : RaiseNW C H ns E) (e : Ex H H1) : RaiseNW C H1 ns E := fun d l H' e' h1 h2 h3 => h d l H' (e.trans e') h1 h2 (fresh_back e h3)
def spNW (K : PySem.W.Frag) : Sp := fun vs H Q _ => ∃ (a q C CS : Addr) (ns : List Int), vs = [.ref a, .ref q] ∧ OwnA K C CS ∧ PySem.W.findIn K (.ref C) "rows" = some none ∧ H q = some (.lst (ns.map V.int)) ∧ ns ≠ [] ∧ ns.length ≤ 100 ∧ (∀ y ∈ ns, y.natAbs.log2 < 1920) ∧ H a = some (exo a C none) ∧
  ∀ G l dx, Ex H G → H l = none → G l = some (.lst (ns.map V.int)) → G dx = none → dx ≠ a → Q .non (upd (upd G dx (exd dx [("rows", .ref l)])) a (exo a C (some dx)))
theorem nw_made {K : PySem.W.Frag} {C CS : Addr} (own : OwnA K C CS) (no : PySem.W.findIn K (.ref C) "rows" = some none) {H1 : Hp} {q : Addr} {ns : List Int} {W : XK} (hq : H1 q = some (.lst (ns.map V.int))) (h0 : ns ≠ []) (h1 : ns.length ≤ 100) (hi : ∀ y ∈ ns, y.natAbs.log2 < 1920) (h : RaiseNW C H1 ns W) :
    [V.ref q].length ≤ 1000 ∧ ∀ a, H1 a = none → spNW K (.ref a :: [V.ref q]) (upd H1 a (exo a C none))
      (fun v H2 => v = .non ∧ ∃ (d : Addr) (fs : List (Str × V)), H2 a = some (exo a C (some d)) ∧ H2 d = some (exd d fs) ∧ H1 d = none ∧ W (.ref C) (some d) (upd (del H2 a) d (.xd fs))) (fun _ _ _ => False) := by
  refine ⟨(by show 1 ≤ 1000; decide), fun a ha => ⟨a, q, C, CS, ns, rfl, own, no, (Ex.new ha) _ _ hq, h0, h1, hi, upd_same, fun G l dx eG nl hl hd nd => ⟨rfl, dx, [("rows", .ref l)], upd_same, ?_, ?_, ?_⟩⟩⟩
  · rw [upd_ne nd]
    exact upd_same
  · have h2 := fresh_back eG hd
    rwa [upd_ne nd] at h2
  · have hx := Ex.new (o := exo a C none) ha
    have la : l ≠ a := fun z => by
      rw [z, upd_same] at nl
      cases nl
    have ld : l ≠ dx := fun z => by
      rw [z, hd] at hl
      cases hl
    refine h dx l _ (fun b o hb => ?_) upd_same ?_ (by rwa [upd_ne la] at nl)
    · have hb2 := eG _ _ (hx _ _ hb)
      have ba : b ≠ a := fun z => by rw [z, ha] at hb; cases hb
      have bd : b ≠ dx := fun z => by rw [z, hd] at hb2; cases hb2
      rw [upd_ne bd, del_ne ba, upd_ne ba, upd_ne bd]
      exact hb2
    · rw [upd_ne ld, del_ne la, upd_ne la, upd_ne ld]
      exact hl
theorem el_ifT {t : TT} {ta tb : TE} {σ : L2.St} {H : Hp} {Q : VK} (h : EvT t σ H true) (k : ∀ H1, Ex H H1 → ta σ H1 Q) : tIf t ta tb σ H Q := h H (Ex.refl H) _ fun H1 e1 => by
  show ta σ H1 Q
  exact k H1 e1
theorem log_nat {i : Nat} (h : i ≤ 100) : ((i : Int)).natAbs.log2 < 1920 := by
  rw [Int.natAbs_natCast]
  by_cases z : i = 0
  · rw [z]
    decide
  · exact (Nat.log2_lt z).mpr (Nat.lt_of_le_of_lt h (by decide +kernel))

theorem ok_init_NotWhole (T : Txt K mg) : FnOk P w K mg base CX0 1 T.f_init_NotWhole T.fd_init_NotWhole ["self", "rows"] (spNW K) := by
  refine Fun.ok T.F_init_NotWhole sc_init_NotWhole (fun vs H Q E h => ?_) (fun cdv A outer s H vs Q E hr h => ?_)
  · obtain ⟨_, _, _, _, _, rfl, _⟩ := h; rfl
  · refine ⟨_, (pss_cons (ps_expr (pe_initA (by rfl) T.g_SignError T.rd_SignError T.ga_SignError T.fi_SignError (pa_cons (pv 0) (pa_cons (pe_joined (PJ.cons pe_str (PJ.cons (pe_fmtL hr (pv 1)) PJ.nil))) pa_nil))))
      (pss_one (ps_ostA (pv 0) (pe_ifExp (pt_val (pe_callB (id := "isinstance") (r := rIsi K) call_isi (by rfl) T.n_isinstance (by decide +kernel) (pa_cons (pv 1) (pa_cons (pe_bltn (v := .ty "list") (by rfl) T.n_list (by decide +kernel) rfl) pa_nil)))) (pe_callTy (T := "list") (r := rListS K) call_list_of (by rfl) T.n_list (by decide +kernel) (pa_cons (pv 1) pa_nil)) (pv 1))))), ?_⟩
    obtain ⟨a, q, C, CS, ns, rfl, own, no, hq, h0, hl, hi, ha, k⟩ := h
    refine ⟨_, rfl, _, rfl, ?_, _, rfl, q, ns, rfl, SqL.of hq, h0, hl, hi, fun m hm => ⟨_, rfl, ?_, a, C, CS, [_], rfl, (by show 1 ≤ 1000; decide), own, ha, ?_⟩⟩
    · rw [sizeLine_eq]
      decide +kernel
    · rw [sizeLine_eq, Str.length_append]
      have e1 : (Str.empty ++ ("no right signs for the rows " : Str)).length = 28 := by decide +kernel
      rw [e1]
      omega
    · refine el_ifT (et_B (ev_isi (K := K) (σ := [some (.ref a), some (.ref q)]) (t := "list") (n := "list") (b := true) (ev_var (i := 1) rfl) ev_c (fun H1 e => .base (.lst (e _ _ hq))) (by decide +kernel))) fun H1 e1 => ?_
      refine ⟨_, rfl, q, _, rfl, .inl (SqL.of (e1 _ _ hq)), fun l nl => ?_⟩
      have x1 := Ex.new (o := .lst (ns.map V.int)) nl
      exact ⟨_, rfl, a, C, CS, rfl, own, no, x1 _ _ (e1 _ _ ha), fun dx hd nd => k _ l dx (e1.trans x1) (fresh_back e1 nl) upd_same hd nd⟩
-- DEF are_small

theorem ev_sumL {K : PySem.W.Frag} {ta : TE} {σ : L2.St} {H : Hp} {ns : List Int} (h : EvL ta σ H (ns.map V.int)) : Ev (tCB (rSum K) (tCons ta tNil)) σ H (.int ns.sum) := fun H1 e Q q => h H1 e _ fun p H2 _ e2 hp => ⟨p, ns, rfl, SqL.of hp, q H2 e2⟩
theorem ev_allL {K : PySem.W.Frag} {ta : TE} {σ : L2.St} {H : Hp} {bs : List Bool} (h : EvL ta σ H (bs.map V.bl)) : Ev (tCB (rAll K) (tCons ta tNil)) σ H (.bl (bs.all id)) := fun H1 e Q q => h H1 e _ fun p H2 _ e2 hp => ⟨p, bs, rfl, SqL.of hp, q H2 e2⟩
theorem el_mapB {K : PySem.W.Frag} {n : Nat} {te : TE} {vs : List Nat} {j : Nat} {σ : L2.St} {H : Hp} {a : Addr} {qs : List Int} (f : Int → Bool) (hσ : σ[n]? = some (some (.ref a))) (hx : H a = some (.lst (qs.map V.int))) (hz : qs.length ≤ 1000)
    (hw : ∀ u, wipe ((wipe σ vs).set j (some u)) vs = wipe σ vs)
    (he : ∀ y H1, y ∈ qs → Ex H H1 → Ev te ((wipe σ vs).set j (some (.int y))) H1 (.bl (f y))) : EvL (tLc (iList K (tVar n)) (gName j) tYes te vs) σ H ((qs.map f).map V.bl) := fun H1 e1 Q q => by
  have hx1 := e1 _ _ hx
  refine ⟨_, hσ, a, rfl, ⟨_, SqL.of hx1⟩, fun D hD => ?_⟩
  refine lc_list (K := K) (a := a) (xs := qs.map V.int) (fun i H' => Ex H1 H' ∧ H' D = some (.lst (((qs.map f).take i).map V.bl))) ⟨Ex.new hD, upd_same⟩ (fun i H' _ p => SqL.of (p.1 _ _ hx1)) (fun i x H' gx p => ?_) (fun H' p => ?_)
  · obtain ⟨p1, p2⟩ := p
    rw [List.getElem?_map] at gx
    obtain ⟨b, hb, rfl⟩ := Option.map_eq_some_iff.mp gx
    refine ⟨hw _, ?_⟩
    show te _ _ _
    refine he b H (List.mem_of_getElem? hb) (Ex.refl H) _ (e1.trans p1) _ fun H4 e4 => ?_
    refine ⟨_, e4 _ _ p2, ?_, Ex.mut (p1.trans e4) hD, ?_⟩
    · rw [List.length_map, List.length_take, List.length_map]
      exact small1000 (by omega)
    · have hzz : (qs.map f)[i]? = some (f b) := by rw [List.getElem?_map, hb]; rfl
      rw [upd_same, take_snoc hzz, List.map_append]
      rfl
  · obtain ⟨p1, p2⟩ := p
    rw [List.take_of_length_le (by rw [List.length_map, List.length_map]; omega)] at p2
    exact q D H' hD p1 p2

theorem small_in (t : Int) : inV (.int t) [.int (-1), .int 0, .int 1] = Ls.small1 t := by
  unfold inV Ls.small1
  rw [Bool.eq_iff_iff, decide_eq_true_eq]
  show (((-1 : Int) == t) || ((0 == t) || ((1 == t) || false))) = true ↔ _
  simp only [Bool.or_false, Bool.or_eq_true, beq_iff_eq]
  omega
def sp_are_small (K : PySem.W.Frag) : Sp := fun vs H Q _ => ∃ (a : Addr) (ns : List Int), vs = [.ref a] ∧ H a = some (.lst (ns.map V.int)) ∧ ns.length ≤ 100 ∧ ∀ H', Ex H H' → Q (.bl (Ls.smallB ns)) H'
/-- [e for a in p for b in (z1, z2, ..)]: what each place told gives, in a new list -/
theorem lc2_two {K : PySem.W.Frag} {α : Type} {n1 j1 : Nat} {g : TG} {wi1 : TI} {te : TE} {vs vs1 : List Nat} {σ : L2.St} {H : Hp} {Q : VK} {p : Addr} {xs zs : List V} (F : Nat → Nat → α) (R : Addr → Hp → V → α → Prop) (St : Nat → L2.St)
    (stay : ∀ D G G' v a, R D G v a → (∀ b o, b ≠ D → G b = some o → G' b = some o) → R D G' v a)
    (h1 : σ[n1]? = some (some (.ref p))) (hp : H p = some (.lst xs)) (hm : xs.length * zs.length ≤ 50000)
    (hg : ∀ i x G, xs[i]? = some x → Ex H G → ∀ Kn : L2.St → Hp → Prop, Kn (St i) G → g x (wipe σ vs) G Kn) (hw : ∀ i, wipe (St i) vs = wipe σ vs)
    (hz : ∀ i G (Rn : It → Hp → Prop), i < xs.length → Ex H G → (∀ q G1, G q = none → Ex G G1 → G1 q = some (.tup zs) → Rn (Itt K q) G1) → wi1 (St i) G Rn)
    (hw1 : ∀ i u, wipe ((wipe (St i) vs1).set j1 (some u)) vs1 = wipe (St i) vs1)
    (he : ∀ D i j z G, i < xs.length → zs[j]? = some z → Ex H G → H D = none → G D ≠ none → ∀ Q1 : VK, (∀ y G2, Ex G G2 → R D G2 y (F i j) → Q1 y G2) → te ((wipe (St i) vs1).set j1 (some z)) G Q1)
    (k : ∀ D ys G, H D = none → Ex H G → G D = some (.lst ys) → Paired (R D G) ys ((List.range xs.length).flatMap fun i => (List.range zs.length).map (F i)) → Q (.ref D) G) :
    tLc2 (iList K (tVar n1)) g tYes wi1 (gName j1) tYes te vs vs1 σ H Q := by
  refine ⟨_, h1, p, rfl, ⟨_, SqL.of hp⟩, fun D hD => ?_⟩
  let Inv (as : List α) (G : Hp) : Prop := ∃ ys, Ex H G ∧ G D = some (.lst ys) ∧ Paired (R D G) ys as
  let fl (i : Nat) : List α := (List.range i).flatMap fun i => (List.range zs.length).map (F i)
  have fl_len : ∀ i, (fl i).length = i * zs.length := fun i => by
    induction i with
    | zero => simp [fl]
    | succ i ih =>
      have e : fl (i + 1) = fl i ++ (List.range zs.length).map (F i) := by
        show (List.range (i + 1)).flatMap _ = _
        rw [List.range_succ, List.flatMap_append, List.flatMap_cons, List.flatMap_nil, List.append_nil]
      rw [e, List.length_append, ih, List.length_map, List.length_range, Nat.add_mul, Nat.one_mul]
  refine ⟨fun i m G => m = xs.length - i ∧ i ≤ xs.length ∧ Inv (fl i) G, ⟨xs.length, by simp, Nat.zero_le _, [], Ex.new hD, upd_same, .nil⟩, ?_⟩
  rintro i m G ⟨rfl, hi, ys, b1, b2, b3⟩
  by_cases hlt : i < xs.length
  rotate_left
  · have e : i = xs.length := by omega
    subst e
    exact .inl ⟨⟨_, SqL.of (b1 _ _ hp), Nat.le_refl _⟩, k D ys G hD b1 b2 b3⟩
  have hx : xs[i]? = some xs[i] := List.getElem?_eq_getElem hlt
  have e1 : fl (i + 1) = fl i ++ (List.range zs.length).map (F i) := by
    show (List.range (i + 1)).flatMap _ = _
    rw [List.range_succ, List.flatMap_append, List.flatMap_cons, List.flatMap_nil, List.append_nil]
  refine .inr ⟨⟨_, _, SqL.of (b1 _ _ hp), hx⟩, Inv (fl (i + 1)), fun G' g' => ⟨xs.length - (i + 1), by omega, rfl, hlt, g'⟩, fun x G' y => ?_⟩
  obtain ⟨rfl, y⟩ := y
  have ex := y _ (SqL.of (b1 _ _ hp))
  rw [hx] at ex
  cases ex
  refine hg i _ G' hx b1 _ ⟨hw i, ?_⟩
  dsimp only [tYes]
  rw [if_pos rfl]
  refine hz i G' _ hlt b1 fun q G1 nq c1 hq => ?_
  have nqD : q ≠ D := fun z => by
    rw [z, b2] at nq
    cases nq
  refine ⟨fun jj kk G => kk = zs.length - jj ∧ jj ≤ zs.length ∧ Inv (fl i ++ (List.range jj).map (F i)) G ∧ G q = some (.tup zs), ⟨zs.length, by simp, Nat.zero_le _, ⟨ys, b1.trans c1, c1 _ _ b2, ?_⟩, hq⟩, ?_⟩
  · rw [List.range_zero, List.map_nil, List.append_nil]
    exact paired_imp (fun v a r => stay D G' G1 v a r fun b o _ h => c1 b o h) b3
  rintro jj kk G2 ⟨rfl, hj, ⟨ys2, d1, d2, d3⟩, d4⟩
  by_cases hlt2 : jj < zs.length
  rotate_left
  · have e : jj = zs.length := by omega
    subst e
    rw [← e1] at d3
    exact .inl ⟨⟨_, SqT.of d4, Nat.le_refl _⟩, ys2, d1, d2, d3⟩
  have hz2 : zs[jj]? = some zs[jj] := List.getElem?_eq_getElem hlt2
  refine .inr ⟨⟨_, _, SqT.of d4, hz2⟩, fun G' => Inv (fl i ++ (List.range (jj + 1)).map (F i)) G' ∧ G' q = some (.tup zs), fun G' g' => ⟨zs.length - (jj + 1), by omega, rfl, hlt2, g'.1, g'.2⟩, fun x G' y => ?_⟩
  obtain ⟨rfl, y⟩ := y
  have ex := y _ (SqT.of d4)
  rw [hz2] at ex
  cases ex
  refine ⟨hw1 _ _, ?_⟩
  rw [if_pos rfl]
  refine he D i jj _ G' hlt hz2 d1 hD (by rw [d2]; exact fun z => nomatch z) _ fun u G3 f3 r3 => ?_
  have ll : ys2.length ≤ 50000 := by
    rw [Paired.length d3, List.length_append, fl_len, List.length_map, List.length_range]
    have h3 : (i + 1) * zs.length ≤ xs.length * zs.length := Nat.mul_le_mul_right _ hlt
    rw [Nat.add_mul, Nat.one_mul] at h3
    omega
  refine ⟨_, f3 _ _ d2, sz_lt (by omega), ⟨ys2 ++ [u], Ex.mut (d1.trans f3) hD, upd_same, ?_⟩, ?_⟩
  · rw [List.range_succ, List.map_append, ← List.append_assoc]
    have st : ∀ v a, R D G3 v a → R D (upd G3 D (.lst (ys2 ++ [u]))) v a := fun v a r => stay D G3 _ v a r fun b o nb h => by rw [upd_ne nb]; exact h
    exact paired_snoc (paired_imp (fun v a r => st v a (stay D G' G3 v a r fun b o _ h => f3 b o h)) d3) (st _ _ r3)
  · rw [upd_ne nqD]
    exact f3 _ _ d4
theorem el_catVL {ta tb : TE} {σ : L2.St} {H : Hp} {a : Addr} {xs ys : List V} (ha : Ev ta σ H (.ref a)) (h : H a = some (.lst xs)) (hb : EvL tb σ H ys) (hz : xs.length + ys.length ≤ 100000) : EvL (tOp rCat ta tb) σ H (xs ++ ys) := fun H1 e Q q =>
  ha H1 e _ fun H2 e2 => hb H2 (e.trans e2) _ fun r H3 nr e3 hr => ⟨a, r, xs, ys, rfl, rfl, ((e.trans e2).trans e3) _ _ h, hr, sz_of hz, fun l nl => q l _ (fresh_back (e2.trans e3) nl) ((e2.trans e3).trans (Ex.new nl)) upd_same⟩

theorem zs_at {ns : List Nat} {i : Nat} (h : i < ns.length) : ((Sg.zs ns).map V.int)[i]? = some (.int (ns[i] : Int)) := by
  unfold Sg.zs
  rw [List.getElem?_map, List.getElem?_map, List.getElem?_eq_getElem h]
  rfl
/-- signs and their totals, in a pair -/
def WayAt (H0 : Hp) (D : Addr) (H : Hp) (v : V) (a : List Int × List Int) : Prop := ∃ t p q, v = .ref t ∧ H t = some (.tup [.ref p, .ref q]) ∧ H p = some (.lst (a.1.map V.int)) ∧ H q = some (.lst (a.2.map V.int)) ∧ H0 p = none ∧ t ≠ D ∧ p ≠ D ∧ q ≠ D
theorem WayAt.stay {H0 : Hp} {D : Addr} {G G' : Hp} {v : V} {a : List Int × List Int} (h : WayAt H0 D G v a) (e : ∀ b o, b ≠ D → G b = some o → G' b = some o) : WayAt H0 D G' v a := by
  obtain ⟨t, p, q, h1, h2, h3, h4, h5, h6, h7, h8⟩ := h
  exact ⟨t, p, q, h1, e _ _ h6 h2, e _ _ h7 h3, e _ _ h8 h4, h5, h6, h7, h8⟩
/-- signs told, a new list, or None -/
def SignAt (H0 H : Hp) (v : V) : Option (List Int) → Prop
  | none => v = .non
  | some s => ∃ p, v = .ref p ∧ H p = some (.lst (s.map V.int)) ∧ H0 p = none
/-- the rows of a pick -/
def rowsOf (rows : List (List Int)) (ns : List Nat) : List (List Int) := ns.map fun i => rows[i]?.getD []
def wys (r0 : List Int) (rs : List (List Int)) (n : Nat) : List (List Int × List Int) := (Sg.ways n).map fun s => (1 :: s, Sg.tot r0 s (rs.take n))
theorem small_eq (t : List Int) : Sg.small t = Ls.smallB t := by
  unfold Sg.small Ls.smallB
  refine congrArg (fun f => List.all t f) (funext fun y => ?_)
  unfold Ls.small1
  rw [Bool.eq_iff_iff, Bool.and_eq_true, decide_eq_true_eq, decide_eq_true_eq, decide_eq_true_eq]
  omega
theorem wys_succ {r0 : List Int} {rs : List (List Int)} {n : Nat} {r : List Int} (h : rs[n]? = some r) : wys r0 rs (n + 1) = (wys r0 rs n).flatMap fun a => [(a.1 ++ [1], Sg.add a.2 1 r), (a.1 ++ [-1], Sg.add a.2 (-1) r)] := by
  unfold wys
  rw [Sg.ways, List.map_flatMap, List.flatMap_map]
  refine Sg.fm_congr fun s hs => ?_
  have l := (Sg.mem_ways.mp hs).1
  have lt : (rs.take n).length = n := by
    rw [List.length_take]
    have := (List.getElem?_eq_some_iff.mp h).1
    omega
  rw [take_snoc h, List.map_cons, List.map_cons, List.map_nil, Sg.tot_snoc _ _ _ _ _ (by rw [l, lt]), Sg.tot_snoc _ _ _ _ _ (by rw [l, lt])]
  rfl
/-- x = [(a new list, a value)] -/
theorem s_asg1p {tl te : TE} {D : Ends} {σ : L2.St} {H : Hp} {i : Nat} {xs : List V} {v : V} (h1 : EvL tl σ H xs) (h2 : Ev te σ H v) (k : ∀ p t d H1, H p = none → H t = none → H d = none → t ≠ d → p ≠ d → t ≠ p → Ex H H1 → H1 p = some (.lst xs) → H1 t = some (.tup [.ref p, v]) → H1 d = some (.lst [.ref t]) → D.nx (σ.set i (some (.ref d))) H1) :
    tAsg (tLst (tCons (tTup (tCons tl (tCons te tNil))) tNil)) (gName i) D σ H :=
  h1 H (Ex.refl H) _ fun p H1 np e1 hp => h2 H1 e1 _ fun H2 e2 => ⟨(by show 2 ≤ sizeLine; decide), fun t nt => ⟨(by show 1 ≤ sizeLine; decide), fun d nd => by
    have x2 := Ex.new (o := .tup [V.ref p, v]) nt
    have x3 := Ex.new (o := .lst [V.ref t]) nd
    have pt : t ≠ p := fun z => by
      rw [z, e2 _ _ hp] at nt
      cases nt
    have td : t ≠ d := fun z => by
      rw [← z, upd_same] at nd
      cases nd
    have pd : p ≠ d := fun z => by
      rw [← z, x2 _ _ (e2 _ _ hp)] at nd
      cases nd
    exact k p t d _ np (fresh_back (e1.trans e2) nt) (fresh_back ((e1.trans e2).trans x2) nd) td pd pt (((e1.trans e2).trans x2).trans x3) (x3 _ _ (x2 _ _ (e2 _ _ hp))) (x3 _ _ upd_same) upd_same⟩⟩
/-- (a new list, a new list) -/
theorem e_pairLL {ta tb : TE} {σ : L2.St} {H : Hp} {xs ys : List V} (h1 : EvL ta σ H xs) (h2 : EvL tb σ H ys) (Q : VK) (k : ∀ p q t H1, H p = none → H q = none → H t = none → Ex H H1 → H1 p = some (.lst xs) → H1 q = some (.lst ys) → H1 t = some (.tup [.ref p, .ref q]) → Q (.ref t) H1) : tTup (tCons ta (tCons tb tNil)) σ H Q :=
  h1 H (Ex.refl H) _ fun p H1 np e1 hp => h2 H1 e1 _ fun q H2 nq e2 hq => ⟨(by show 2 ≤ sizeLine; decide), fun t nt => by
    have x2 := Ex.new (o := .tup [V.ref p, .ref q]) nt
    exact k p q t _ np (fresh_back e1 nq) (fresh_back (e1.trans e2) nt) ((e1.trans e2).trans x2) (x2 _ _ (e2 _ _ hp)) (x2 _ _ hq) upd_same⟩
theorem cut_1 {xs : List V} (h : 1 ≤ xs.length) : cutV xs (some 1) none = xs.drop 1 := by
  unfold cutV
  rw [HT.sIx_none, show (some (1 : Int)) = some ((1 : Nat) : Int) from rfl, HT.sIx_nat, Nat.min_eq_left h]
  exact List.take_of_length_le (by rw [List.length_drop]; exact Nat.le_refl _)
theorem range_fm {α β : Type} (d : α) (f : α → List β) : ∀ l : List α, ((List.range l.length).flatMap fun i => f (l[i]?.getD d)) = l.flatMap f
  | [] => rfl
  | x :: l => by
    rw [List.length_cons, List.range_succ_eq_map, List.flatMap_cons, List.flatMap_map, List.flatMap_cons, ← range_fm d f l]
    rfl
theorem first_wys {w : Nat} {r0 : List Int} {rs : List (List Int)} (h : r0.length = w) : Sg.first w (r0 :: rs) = ((wys r0 rs rs.length).find? fun a => Ls.smallB a.2).map (·.1) := by
  rw [Sg.first_is h]
  unfold Sg.firstP wys
  rw [List.take_length, List.find?_map, Option.map_map]
  refine congr (congrArg Option.map ?_) (congrFun (congrArg List.find? ?_) _)
  · rfl
  · funext s
    exact small_eq _

theorem ok_are_small (T : Txt K mg) : FnOk P w K mg base CX0 1 T.f_are_small T.fd_are_small ["totals"] (sp_are_small K) := by
  refine Fun.ok T.F_are_small sc_are_small (fun vs H Q E h => ?_) (fun cdv A outer s H vs Q E hr h => ?_)
  · obtain ⟨_, _, rfl, _⟩ := h; rfl
  · refine ⟨_, (pss_one (ps_ret (pe_callB (id := "all") (r := rAll K) (cr_all rfl) (by rfl) T.n_all (by decide +kernel) (pa_cons (pe_lc (own := [("total", 1)]) (wi := iList K _) (g := gName 1) (tt := tYes) rfl sc_are_small.nd (pi_list (pv 0)) (blkOk_by (N := ["totals", "total"]) (sc := (defScope s_are_small)) (by decide +kernel)) (fun _ _ _ _ _ => pg_name (i := 1) sc_are_small.nd rfl (Or.inl rfl)) (fun _ _ _ _ _ => pts_nil) (fun _ _ _ _ _ => (pe_cmpR (r := rIn K false) op_in_seq (pv 1) (pe_tup (pa_cons (pe_un un_neg pe_int) (pa_cons pe_int (pa_cons pe_int pa_nil)))) (by rfl)))) pa_nil)))), ?_⟩
    obtain ⟨a, ns, rfl, ha, h8, k⟩ := h
    refine s_ret (ev_is (ev_allL (el_mapB (K := K) (n := 0) Ls.small1 rfl ha (by omega) (fun u => rfl) fun y H1 hy e1 => ?_)) ?_) fun H1 e1 => k H1 e1
    · exact ev_is (ev_inU (ev_var rfl) (eu_tup (ea_cons (ev_un (x := .int 1) ev_c ru_neg) (ea_cons ev_c (ea_cons ev_c ea_nil))) (Nat.le_of_ble_eq_true rfl)) rfl rfl) (by rw [small_in])
    · unfold Ls.smallB
      rw [List.all_map]
      rfl
-- DEF picks

theorem pickV_is (n : Nat) (l : List Nat) (h : ∀ x ∈ l, x < n) : CbL.pickV ((List.range n).map fun (i : Nat) => V.int (i : Int)) l = (Sg.zs l).map V.int := by
  unfold CbL.pickV Sg.zs
  rw [List.map_map]
  refine List.map_congr_left fun x hx => ?_
  rw [List.getElem?_map, List.getElem?_range (h x hx)]
  rfl
theorem C_len (n : Nat) : ∀ r d lo, lo + d = n → (Cb.C n r lo).length ≤ 2 ^ d
  | 0, d, _, _ => Nat.one_le_two_pow
  | r + 1, 0, lo, h => by rw [Cb.C_end n r lo (by omega)]; exact Nat.zero_le _
  | r + 1, d + 1, lo, h => by
    rw [Cb.C_step n r lo (by omega), List.length_append, List.length_map, Nat.pow_succ]
    have h1 := C_len n r d (lo + 1) (by omega)
    have h2 := C_len n (r + 1) d (lo + 1) (by omega)
    omega
def pk (n i : Nat) : List (List Nat) := (List.range i).flatMap fun s => Cb.all n (s + 1)
theorem pk_succ (n i : Nat) : pk n (i + 1) = pk n i ++ Cb.all n (i + 1) := by
  unfold pk
  rw [List.range_succ, List.flatMap_append, List.flatMap_cons, List.flatMap_nil, List.append_nil]
theorem pk_len (n i : Nat) : (pk n i).length ≤ i * 2 ^ n := by
  induction i with
  | zero => exact Nat.zero_le _
  | succ i ih =>
    rw [pk_succ, List.length_append, Nat.add_mul, Nat.one_mul]
    exact Nat.add_le_add ih (C_len n (i + 1) n 0 (by omega))
def sp_picks (K : PySem.W.Frag) : Sp := fun vs H Q _ => ∃ (n : Nat), vs = [.int n] ∧ n ≤ 8 ∧
  ∀ D as H', H D = none → (∀ a ∈ as, H a = none) → as.Nodup → D ∉ as → Ex H H' → H' D = some (.lst (as.map V.ref)) → RowsAt H' as ((Sg.picks n).map Sg.zs) → Q (.ref D) H'

theorem ok_picks (T : Txt K mg) : FnOk P w K mg base CX0 1 T.f_picks T.fd_picks ["many"] (sp_picks K) := by
  refine Fun.ok T.F_picks sc_picks (fun vs H Q E h => ?_) (fun cdv A outer s H vs Q E hr h => ?_)
  · obtain ⟨_, rfl, _⟩ := h; rfl
  · refine ⟨_, (pss_one (ps_ret (pe_lc2 (own := [("size", 1), ("pick", 2)]) (vs1 := [2]) (g := gName 1) (tt := tYes) (g1 := gName 2) (tt1 := tYes) rfl sc_picks.nd (pi_range2 (by rfl) T.n_range (pa_cons pe_int (pa_cons (pe_op op_add (pv 0) pe_int) pa_nil))) (blkOk_by (N := ["many", "size", "pick"]) (sc := (defScope s_picks)) (by decide +kernel)) (by decide) (fun _ _ _ _ _ => pg_name (i := 1) sc_picks.nd rfl (Or.inl rfl)) (fun _ _ _ _ _ => pts_nil) (fun _ _ _ _ _ => (CbL.pi_combR (by rfl) (by rfl) T.g_combinations (by rfl) T.n_range (pv 0) (pv 1))) (fun _ _ _ _ _ => pg_name (i := 2) sc_picks.nd rfl (Or.inl rfl)) (fun _ _ _ _ _ => pts_nil) (fun _ _ _ _ _ => (pe_callTy (T := "list") (r := rListS K) call_list_of (by rfl) T.n_list (by decide +kernel) (pa_cons (pv 2) pa_nil)))))), ?_⟩
    obtain ⟨n, rfl, hn, k⟩ := h
    have p8 : 2 ^ n ≤ 256 := Nat.le_trans (Nat.pow_le_pow_right (by decide) hn) (by decide)
    refine ⟨_, rfl, _, _, rfl, rfl, 1, (n : Int) + 1, rfl, ⟨by omega, by omega, by omega, by omega⟩, ?_⟩
    have e0 : ((n : Int) + 1 - 1).toNat = n := by omega
    rw [e0]
    intro D hD
    let Inv (ls : List (List Nat)) (G : Hp) : Prop := ∃ as, Ex H G ∧ G D = some (.lst (as.map V.ref)) ∧ RowsAt G as (ls.map Sg.zs) ∧ (∀ a ∈ as, H a = none) ∧ as.Nodup ∧ D ∉ as
    refine ⟨fun i m G => m = n - i ∧ i ≤ n ∧ Inv (pk n i) G, ⟨n, by simp, Nat.zero_le _, [], Ex.new hD, upd_same, .nil, fun b hb => (nomatch hb), List.nodup_nil, fun z => nomatch z⟩, ?_⟩
    rintro i m G ⟨rfl, hi, as, b1, b2, b3, b4, b5, b6⟩
    by_cases hlt : i < n
    rotate_left
    · have e : i = n := by omega
      subst e
      exact .inl ⟨Nat.le_refl _, k D as G hD b4 b5 b6 b1 b2 b3⟩
    refine .inr ⟨hlt, Inv (pk n (i + 1)), fun G' g' => ⟨n - (i + 1), by omega, rfl, hlt, g'⟩, fun x G' y => ?_⟩
    obtain ⟨rfl, rfl⟩ := y
    refine ⟨rfl, ?_⟩
    dsimp only [tYes]
    rw [if_pos rfl]
    refine ⟨_, rfl, n, rfl, by omega, _, rfl, i + 1, ?_, by omega, ?_⟩
    · exact congrArg V.int (by push_cast; omega)
    have ll : ((List.range n).map fun (i : Nat) => V.int (i : Int)).length = n := by rw [List.length_map, List.length_range]
    refine ⟨fun jj kk G => kk = (Cb.all n (i + 1)).length - jj ∧ jj ≤ (Cb.all n (i + 1)).length ∧ Inv (pk n i ++ (Cb.all n (i + 1)).take jj) G, ⟨_, rfl, Nat.zero_le _, as, b1, b2, by rw [List.take_zero, List.append_nil]; exact b3, b4, b5, b6⟩, ?_⟩
    rintro jj kk G2 ⟨rfl, hj, cs, c1, c2, c3, c4, c5, c6⟩
    have cl : cs.length = (pk n i ++ (Cb.all n (i + 1)).take jj).length := by rw [Paired.length c3, List.length_map]
    by_cases hlt2 : jj < (Cb.all n (i + 1)).length
    rotate_left
    · have e : jj = (Cb.all n (i + 1)).length := by omega
      subst e
      rw [List.take_length, ← pk_succ] at c3
      exact .inl ⟨(by show (Cb.all ((List.range n).map fun (i : Nat) => V.int (i : Int)).length (i + 1)).length ≤ _; rw [ll]; exact Nat.le_refl _), cs, c1, c2, c3, c4, c5, c6⟩
    refine .inr ⟨(by show _ < (Cb.all ((List.range n).map fun (i : Nat) => V.int (i : Int)).length (i + 1)).length; rw [ll]; exact hlt2), Inv (pk n i ++ (Cb.all n (i + 1)).take (jj + 1)), fun G' g' => ⟨(Cb.all n (i + 1)).length - (jj + 1), by omega, rfl, hlt2, g'⟩, fun x G' y => ?_⟩
    obtain ⟨t, l, rfl, nt, hl, rfl⟩ := y
    rw [ll] at hl
    refine ⟨rfl, ?_⟩
    rw [if_pos rfl]
    have lm := Cb.mem_all.mp (List.mem_of_getElem? hl)
    rw [pickV_is n l lm.2.2]
    have xt := Ex.new (o := .tup ((Sg.zs l).map V.int)) nt
    refine ⟨_, rfl, t, _, rfl, .inr (SqT.of upd_same), fun u nu => ⟨cs.map V.ref, ?_, ?_, cs ++ [u], Ex.mut ((c1.trans xt).trans (Ex.new nu)) hD, ?_, ?_, ?_, ?_, ?_⟩⟩
    · rw [upd_ne (fun z => by rw [← z, xt _ _ c2] at nu; cases nu)]
      exact xt _ _ c2
    · rw [List.length_map, cl, List.length_append, List.length_take]
      have h1 := pk_len n i
      have h2 := C_len n (i + 1) n 0 (by omega)
      have h3 : i * 2 ^ n ≤ 8 * 256 := Nat.mul_le_mul (by omega) p8
      have h4 : (Cb.all n (i + 1)).length ≤ 2 ^ n := h2
      exact sz_lt (by omega)
    · rw [upd_same, List.map_append]
      rfl
    · have nuD : u ≠ D := fun z => by
        rw [z, xt _ _ c2] at nu
        cases nu
      rw [take_snoc hl, ← List.append_assoc, List.map_append]
      refine paired_snoc (rows_but c3 fun b hb o g => ?_) ?_
      · rw [upd_ne (fun z => c6 (by rw [← z]; exact hb))]
        exact (Ex.new nu) _ _ (xt _ _ g)
      · rw [upd_ne nuD]
        exact upd_same
    · intro b hb
      rcases List.mem_append.mp hb with h | h
      · exact c4 b h
      · rw [List.mem_singleton.mp h]
        exact fresh_back (c1.trans xt) nu
    · refine List.nodup_append.mpr ⟨c5, by simp, fun b hb c hc z => ?_⟩
      rw [List.mem_singleton.mp hc] at z
      obtain ⟨j, hj1, hj2⟩ := List.mem_iff_getElem.mp hb
      obtain ⟨r, _, hr⟩ := paired_get c3 (i := j) (a := b) (by rw [List.getElem?_eq_getElem hj1, hj2])
      rw [z] at hr
      rw [xt _ _ hr] at nu
      cases nu
    · intro z
      rcases List.mem_append.mp z with h | h
      · exact c6 h
      · rw [← List.mem_singleton.mp h, xt _ _ c2] at nu
        cases nu
-- DEF _law_first_signs
theorem el_rep {σ : L2.St} {H : Hp} {ta tb : TE} {xs : List V} {k : Int} (ha : EvL ta σ H xs) (hb : Ev tb σ H (.int k)) (h0 : 0 ≤ k ∧ k ≤ 100000) (hz : xs.length * k.toNat ≤ 100000) : EvL (tOp rRep ta tb) σ H (List.replicate k.toNat xs).flatten := fun H1 e Q q =>
  ha H1 e _ fun p H2 _ e2 hp => hb H2 (e.trans e2) _ fun H3 e3 => ⟨p, k, xs, rfl, rfl, e3 _ _ hp, by omega, by omega, sz_of hz, fun u hu => q u _ (fresh_back (e2.trans e3) hu) ((e2.trans e3).trans (Ex.new hu)) upd_same⟩

theorem q_forZ {K : PySem.W.Frag} {ta : TA} {a b : Addr} {xs ys : List V} {g : TG} {tb tz : TS} {D : Ends} {σ : L2.St} {H : Hp} (h : EvA ta σ H [.ref a, .ref b]) (hx : SqL K H a xs) (hy : SqL K H b ys) (hl : xs.length = ys.length) (Pv : Nat → L2.St → Hp → Prop) (h0 : ∀ H1, Ex H H1 → Pv 0 σ H1) (hq : ∀ i σ' H', Pv i σ' H' → SqL K H' a xs ∧ SqL K H' b ys)
    (hs : ∀ (i : Nat) (x y : V) (T : Addr) (σ' : L2.St) (H' : Hp), xs[i]? = some x → ys[i]? = some y → Pv i σ' H' → H' T = none → g (.ref T) σ' (upd H' T (.tup [x, y])) fun σ2 H2 => tb { D with nx := Pv (i + 1), ct := Pv (i + 1), bk := tz D } σ2 H2) (hd : ∀ σ' H', Pv xs.length σ' H' → tz D σ' H') : tSeq (tFor (iZip K ta) g tb) tz D σ H :=
  h H (Ex.refl H) _ fun H1 e1 => ⟨a, b, xs, ys, rfl, ex_l e1 hx, ex_l e1 hy, RZ.for_zipL (D := { D with nx := tz D }) hl Pv (h0 H1 e1) hq hs hd⟩
theorem mx_of : ∀ {ns : List Int}, 0 < ns.length → ∃ m ∈ ns, ∀ y ∈ ns, y ≤ m
  | [], h => nomatch h
  | [x], _ => ⟨x, List.mem_singleton.mpr rfl, fun y hy => by rw [List.mem_singleton.mp hy]; exact Int.le_refl _⟩
  | x :: z :: ns, _ => by
    obtain ⟨m, hm, hle⟩ := mx_of (ns := z :: ns) (Nat.succ_pos _)
    by_cases c : x ≤ m
    · exact ⟨m, List.mem_cons_of_mem _ hm, fun y hy => (List.mem_cons.mp hy).elim (fun e => by rw [e]; exact c) (hle y)⟩
    · exact ⟨x, List.mem_cons_self .., fun y hy => (List.mem_cons.mp hy).elim (fun e => by rw [e]; exact Int.le_refl _) fun h => by
        have := hle y h
        omega⟩
theorem mn_of {ns : List Int} (h : 0 < ns.length) : ∃ m ∈ ns, ∀ y ∈ ns, m ≤ y := by
  obtain ⟨m, hm, hle⟩ := mx_of (ns := ns.map (- ·)) (by rw [List.length_map]; exact h)
  obtain ⟨x, hx, rfl⟩ := List.mem_map.mp hm
  exact ⟨x, hx, fun y hy => by
    have := hle (-y) (List.mem_map.mpr ⟨y, hy, rfl⟩)
    omega⟩
theorem ev_maxV {K : PySem.W.Frag} {te : TE} {σ : L2.St} {H : Hp} {a : Addr} {ns : List Int} {m : Int} (he : Ev te σ H (.ref a)) (hs : SqL K H a (ns.map V.int)) (hm : m ∈ ns) (hle : ∀ y ∈ ns, y ≤ m) : Ev (tCB (rMax K) (tCons te tNil)) σ H (.int m) := fun H1 e Q q =>
  he H1 e _ fun H2 e2 => ⟨a, ns, rfl, ex_l (e.trans e2) hs, List.length_pos_of_mem hm, fun m' hm' hle' => by
    have e : m' = m := Int.le_antisymm (hle m' hm') (hle' m hm)
    rw [e]
    exact q H2 e2⟩
theorem ev_minV {K : PySem.W.Frag} {te : TE} {σ : L2.St} {H : Hp} {a : Addr} {ns : List Int} {m : Int} (he : Ev te σ H (.ref a)) (hs : SqL K H a (ns.map V.int)) (hm : m ∈ ns) (hle : ∀ y ∈ ns, m ≤ y) : Ev (tCB (rMin K) (tCons te tNil)) σ H (.int m) := fun H1 e Q q =>
  he H1 e _ fun H2 e2 => ⟨a, ns, rfl, ex_l (e.trans e2) hs, List.length_pos_of_mem hm, fun m' hm' hle' => by
    have e : m' = m := Int.le_antisymm (hle' m hm) (hle m' hm')
    rw [e]
    exact q H2 e2⟩
theorem small_mm {ns : List Int} {a b : Int} (ha : a ∈ ns) (ha2 : ∀ y ∈ ns, y ≤ a) (hb : b ∈ ns) (hb2 : ∀ y ∈ ns, b ≤ y) : (decide (a ≤ 1) && decide (b ≥ -1)) = Ls.smallB ns := by
  rw [← small_eq]
  unfold Sg.small
  rw [Bool.eq_iff_iff, Bool.and_eq_true, decide_eq_true_eq, decide_eq_true_eq, List.all_eq_true]
  constructor
  · rintro ⟨h1, h2⟩ y hy
    have := ha2 y hy
    have := hb2 y hy
    rw [Bool.and_eq_true, decide_eq_true_eq, decide_eq_true_eq]
    omega
  · intro h
    have h1 := h a ha
    have h2 := h b hb
    rw [Bool.and_eq_true, decide_eq_true_eq, decide_eq_true_eq] at h1 h2
    omega
/-- [v(k) for k in range(n) if f(k)] -/
theorem el_rng1F {ta : TA} {tt : TT} {te : TE} {vs : List Nat} {j n : Nat} {σ : L2.St} {H : Hp} (f : Nat → Bool) (v : Nat → V) (h : EvA ta σ H [.int (n : Int)]) (hn : n ≤ 1000) (hw : ∀ x, wipe ((wipe σ vs).set j (some x)) vs = wipe σ vs)
    (ht : ∀ (i : Nat) H1, Ex H H1 → i < n → EvT tt ((wipe σ vs).set j (some (.int (i : Int)))) H1 (f i)) (he : ∀ (i : Nat) H1, Ex H H1 → i < n → f i = true → Ev te ((wipe σ vs).set j (some (.int (i : Int)))) H1 (v i)) : EvL (tLc (iRng1 ta) (gName j) tt te vs) σ H (((List.range n).filter f).map v) := fun H0 e0 Q q => by
  refine h H0 e0 _ fun H1 e1 => ⟨(n : Int), rfl, by omega, by omega, fun D hD => ?_⟩
  rw [Int.toNat_natCast]
  refine lc_range (lo := 0) (n := n) (fun i H' => Ex H1 H' ∧ H' D = some (.lst (((List.range i).filter f).map v))) ⟨Ex.new hD, upd_same⟩ (fun i H' hi' p => ?_) (fun H' p => q D H' (fresh_back e1 hD) (e1.trans p.1) p.2)
  obtain ⟨p1, p2⟩ := p
  rw [Int.zero_add]
  refine ⟨hw _, ?_⟩
  have e01 := e0.trans e1
  have lf : ((List.range i).filter f).length ≤ i := by
    have := List.length_filter_le f (List.range i)
    rw [List.length_range] at this
    exact this
  refine ht i H' (e01.trans p1) hi' H' (Ex.refl _) _ fun H3 e3 => ?_
  cases hf : f i with
  | true =>
    refine iteT (he i H3 ((e01.trans p1).trans e3) hi' hf H3 (Ex.refl _) _ fun H4 e4 => ?_)
    refine ⟨_, (e3.trans e4) _ _ p2, small1000 (by rw [List.length_map]; omega), Ex.mut ((p1.trans e3).trans e4) hD, ?_⟩
    rw [upd_same, List.range_succ, List.filter_append, List.map_append]
    simp [hf]
  | false =>
    refine iteF ⟨p1.trans e3, ?_⟩
    rw [e3 _ _ p2, List.range_succ, List.filter_append]
    simp [hf]
theorem ev_yes {σ : L2.St} {H : Hp} : EvT tYes σ H true := fun H1 e Q q => q H1 (Ex.refl _)
theorem shl_ok {n : Nat} (h : n ≤ 8) : CPow 1 (n : Int) := ⟨by omega, by omega, by decide⟩
theorem rv_ge {i j : Int} {H : Hp} : RV (rI0 fun i j => .bl (decide (i ≥ j))) (.int i) (.int j) H (.bl (decide (i ≥ j))) := rv_I0
theorem bits_at {n c k : Nat} (hk : k < n) : (1 : Int) - 2 * ((c : Int) / 2 ^ ((n : Int) - 1 - (k : Int)).toNat % 2) = 1 - 2 * (((c >>> (n - 1 - k)) % 2 : Nat) : Int) := by
  rw [show ((n : Int) - 1 - (k : Int)).toNat = n - 1 - k by omega, Nat.shiftRight_eq_div_pow]
  push_cast
  rfl

def sp__law_first_signs (K : PySem.W.Frag) : Sp := fun vs H Q _ => ∃ (p q : Addr) (as : List Addr) (rows : List (List Int)) (m w : Nat) (ns : List Nat), vs = [.ref p, .ref q] ∧ TabOk H p as rows m w ∧ (∀ r ∈ rows, ∀ y ∈ r, Bd 100 y) ∧ H q = some (.lst ((Sg.zs ns).map V.int)) ∧ ns.length ≤ 8 ∧ (∀ i ∈ ns, i < m) ∧
  ∀ v H', Ex H H' → SignAt H H' v (Sg.first w (rowsOf rows ns)) → Q v H'

theorem ok__law_first_signs (T : Txt K mg) : FnOk P w K mg base CX0 1 T.f__law_first_signs T.fd__law_first_signs ["_law_table_here", "_law_rows"] (sp__law_first_signs K) := by
  refine Fun.ok T.F__law_first_signs sc__law_first_signs (fun vs H Q E h => ?_) (fun cdv A outer s H vs Q E hr h => ?_)
  · obtain ⟨_, _, _, _, _, _, _, rfl, _⟩ := h; rfl
  · refine ⟨_, (pss_cons (ps_for PassesOwn.never rfl (pi_range1 (by rfl) T.n_range (pa_cons (pe_op op_shl pe_int (pe_callB (id := "len") (r := rLenS K) call_len_seq (by rfl) T.n_len PySem.boot_len (pa_cons (pv 1) pa_nil))) pa_nil)) (pg_name (i := 2) sc__law_first_signs.nd rfl (by first | exact Or.inl rfl | exact Or.inr rfl))
        (pss_cut (ps_setLc (i := 3) (own := [("_law_k", 7)]) (g := gName 7) (tt := tYes) rfl sc__law_first_signs.nd rfl rfl (sw_true rfl rfl rfl (by decide +kernel)) (pi_range1 (by rfl) T.n_range (pa_cons (pe_callB (id := "len") (r := rLenS K) call_len_seq (by rfl) T.n_len PySem.boot_len (pa_cons (pv 1) pa_nil)) pa_nil)) (blkOk_by (N := ["_law_table_here", "_law_rows", "_law_code", "_law_signs", "_law_sums", "_law_row", "_law_sign", "_law_k", "_law_a", "_law_b"]) (sc := (defScope s__law_first_signs)) (by decide +kernel)) (fun _ _ _ _ _ => pg_name (i := 7) sc__law_first_signs.nd rfl (Or.inl rfl)) (fun _ _ _ _ _ => pts_nil) (fun _ _ _ _ _ => (pe_op op_sub pe_int (pe_op op_mulW pe_int (pe_op op_mod (pe_op op_shr (pv 2) (pe_op op_sub (pe_op op_sub (pe_callB (id := "len") (r := rLenS K) call_len_seq (by rfl) T.n_len PySem.boot_len (pa_cons (pv 1) pa_nil)) pe_int) (pv 7))) pe_int)))))
          (pss_cut (ps_set (i := 4) sc__law_first_signs.nd rfl (by first | exact Or.inl rfl | exact Or.inr rfl) (pe_op op_rep (pe_lst (pa_cons pe_int pa_nil)) (pe_callB (id := "len") (r := rLenS K) call_len_seq (by rfl) T.n_len PySem.boot_len (pa_cons (pe_ix (r := rIxL K) ix_list (pv 0) pe_int (fun _ _ => rfl)) pa_nil))))
          (pss_cons (ps_for PassesOwn.never rfl (pi_zip (by rfl) T.n_zip (pa_cons (pv 1) (pa_cons (pv 3) pa_nil))) (pg_tup rfl (pgs_cons (pg_name (i := 5) sc__law_first_signs.nd rfl (by first | exact Or.inl rfl | exact Or.inr rfl)) (pgs_cons (pg_name (i := 6) sc__law_first_signs.nd rfl (by first | exact Or.inl rfl | exact Or.inr rfl)) pgs_nil)))
            (pss_one (ps_setLc (i := 4) (own := [("_law_a", 8), ("_law_b", 9)]) (wi := iZip K _) (g := gTup K 2 (gCons (gName 8) (gCons (gName 9) gNil))) (tt := tYes) rfl sc__law_first_signs.nd rfl rfl (sw_true rfl rfl rfl (by decide +kernel)) (pi_zip (by rfl) T.n_zip (pa_cons (pv 4) (pa_cons (pe_ix (r := rIxL K) ix_list (pv 0) (pv 5) (fun _ _ => rfl)) pa_nil))) (blkOk_by (N := ["_law_table_here", "_law_rows", "_law_code", "_law_signs", "_law_sums", "_law_row", "_law_sign", "_law_k", "_law_a", "_law_b"]) (sc := (defScope s__law_first_signs)) (by decide +kernel)) (fun _ _ _ _ _ => (pg_tup rfl (pgs_cons (pg_name (i := 8) sc__law_first_signs.nd rfl (Or.inl rfl)) (pgs_cons (pg_name (i := 9) sc__law_first_signs.nd rfl (Or.inl rfl)) pgs_nil)))) (fun _ _ _ _ _ => pts_nil) (fun _ _ _ _ _ => (pe_op op_add (pv 8) (pe_op op_mulW (pv 6) (pv 9)))))))
          (pss_one (ps_if (PW.pt (pw_and (pt_cmpR op_le (pe_callB (id := "max") (r := rMax K) (cr_max rfl) (by rfl) T.n_max (by decide +kernel) (pa_cons (pv 4) pa_nil)) pe_int (nomark _)) (pw_and1 (pt_cmpR op_ge (pe_callB (id := "min") (r := rMin K) (cr_min rfl) (by rfl) T.n_min (by decide +kernel) (pa_cons (pv 4) pa_nil)) (pe_un un_neg pe_int) (nomark _)))))
            (pss_one (ps_ret (pv 3)))
            pss_nil))))))
      (pss_one (ps_ret pe_non))), ?_⟩
    obtain ⟨p, q, as, rows, m, w, ns, rfl, hT, hb, hq, hn8, hnm, k⟩ := h
    have hd := hT.b
    have row_ : ∀ i, i < m → ∃ a r, atI (as.map V.ref) (i : Int) = some (.ref a) ∧ rows[i]? = some r ∧ H a = some (.lst (r.map V.int)) ∧ r.length = w := fun i hi => by
      obtain ⟨a, r, h1, h2, h3, h4⟩ := hT.row (i := (i : Int)) (by omega) (by omega)
      rw [Int.toNat_natCast] at h2
      exact ⟨a, r, h1, h2, h3, h4⟩
    obtain ⟨a0, r0, _, _, hh0, hl0, at0⟩ := hT.row0
    have zl : ((Sg.zs ns).map V.int).length = ns.length := by unfold Sg.zs; rw [List.length_map, List.length_map]
    have rlen : (rowsOf rows ns).length = ns.length := by unfold rowsOf; rw [List.length_map]
    have rw_ : ∀ r ∈ rowsOf rows ns, r.length = w := fun r hr => by
      unfold rowsOf at hr
      obtain ⟨i, hi, rfl⟩ := List.mem_map.mp hr
      obtain ⟨a, r, _, h2, _, h4⟩ := row_ i (hnm i hi)
      rw [h2]
      exact h4
    unfold Sg.first at k
    rw [rlen, ← Sg.bits_all] at k
    have cl : ((List.range (2 ^ ns.length)).map (Sg.bits ns.length)).length = 2 ^ ns.length := by rw [List.length_map, List.length_range]
    have p8 : 2 ^ ns.length ≤ 256 := Nat.le_trans (Nat.pow_le_pow_right (by decide) hn8) (by decide)
    generalize hC : (List.range (2 ^ ns.length)).map (Sg.bits ns.length) = C at k cl
    refine q_forR1 (σ := [some (.ref p), some (.ref q), none, none, none, none, none, none, none, none]) (H := H) (n := ((2 ^ ns.length : Nat) : Int)) (ea_cons (ev_is (ev_op (x := .int 1) (y := .int (ns.length : Int)) ev_c (ev_is (ev_len (ev_var (i := 1) rfl) (SqL.of hq)) (by rw [zl])) (rv_I (shl_ok hn8))) (by rw [Int.toNat_natCast, Int.one_mul]; push_cast; rfl)) ea_nil) (by omega) (fun i σ' H' => ∃ y2 y3 y4 y5 y6 : Option V, σ' = [some (.ref p), some (.ref q), y2, y3, y4, y5, y6, none, none, none] ∧ Ex H H' ∧ ∀ s ∈ C.take i, Sg.small (Sg.tot (List.replicate w 0) s (rowsOf rows ns)) = false) (fun H1 e1 => ⟨_, _, _, _, _, rfl, e1, fun z hz => nomatch hz⟩) (fun c σ' H1 hc hP => ?_) (fun σ' H1 hP => ?_)
    rotate_left
    · obtain ⟨y2, y3, y4, y5, y6, rfl, e1, hno⟩ := hP
      rw [Int.toNat_natCast, ← cl, List.take_length] at hno
      refine s_ret (v := .non) ev_c fun H2 e2 => ?_
      refine k _ H2 (e1.trans e2) ?_
      rw [Ls.find_no hno]
      rfl
    obtain ⟨y2, y3, y4, y5, y6, rfl, e1, hno⟩ := hP
    have hc : c < 2 ^ ns.length := by omega
    have hCc : C[c]? = some (Sg.bits ns.length c) := by
      rw [← hC, List.getElem?_map, List.getElem?_range hc]
      rfl
    have bl : (Sg.bits ns.length c).length = ns.length := by unfold Sg.bits; rw [List.length_map, List.length_range]
    have b1 : ∀ s ∈ Sg.bits ns.length c, Bd 100 s := fun s hs => by
      unfold Sg.bits at hs
      obtain ⟨i, _, rfl⟩ := List.mem_map.mp hs
      unfold Bd
      refine Nat.lt_of_le_of_lt (show _ ≤ 1 by omega) (by decide +kernel)
    refine ⟨fun σ' H' => ∃ ps, σ' = [some (.ref p), some (.ref q), some (.int (c : Int)), some (.ref ps), y4, y5, y6, none, none, none] ∧ Ex H1 H' ∧ H' ps = some (.lst ((Sg.bits ns.length c).map V.int)) ∧ H1 ps = none, ?_, ?_⟩
    · refine s_asgL (el_rng1F (n := ns.length) (fun _ => true) (fun i => V.int (1 - 2 * (((c >>> (ns.length - 1 - i)) % 2 : Nat) : Int))) (ea_cons (ev_is (ev_len (ev_var (i := 1) rfl) (SqL.of (e1 _ _ hq))) (by rw [zl])) ea_nil) (by omega) (fun u => rfl) (fun i H2 _ _ => ev_yes) (fun i H2 e2 hi _ => ?_)) fun ps H2 n2 e2 h2 => ⟨ps, rfl, e2, ?_, n2⟩
      · refine ev_is (ev_op (x := .int 1) ev_c (ev_op (x := .int 2) ev_c (ev_op (ev_op (ev_var (i := 2) rfl) (ev_op (ev_op (ev_is (ev_len (ev_var (i := 1) rfl) (SqL.of ((e1.trans e2) _ _ hq))) (by rw [zl])) ev_c rv_I0) (ev_var (i := 7) rfl) rv_I0) (rv_I (by show (0 : Int) ≤ _; omega))) ev_c (rv_I (by show (0 : Int) < 2; decide))) (rv_I ?_)) rv_I0) ?_
        · have : Bd 100 ((c : Int) / 2 ^ ((ns.length : Int) - 1 - (i : Int)).toNat % 2) := by
            unfold Bd
            refine Nat.lt_of_le_of_lt (show _ ≤ 1 by omega) (by decide +kernel)
          exact Bd.mulOk (a := 100) (b := 100) (by unfold Bd; decide +kernel) this
        · rw [bits_at hi]
      · rw [h2, List.filter_eq_self.mpr (fun _ _ => rfl)]
        unfold Sg.bits
        rw [List.map_map]
        rfl
    rintro σ' H2 ⟨ps, rfl, e2, hps, nps⟩
    have e12 := e1.trans e2
    refine ⟨fun σ' H' => ∃ pt, σ' = [some (.ref p), some (.ref q), some (.int (c : Int)), some (.ref ps), some (.ref pt), y5, y6, none, none, none] ∧ Ex H2 H' ∧ H' pt = some (.lst ((List.replicate w (0 : Int)).map V.int)), ?_, ?_⟩
    · have e := el_rep (tb := tCB (rLenS K) (tCons (tOp (rIxL K) (tVar 0) (tC (.int 0))) tNil)) (σ := [some (.ref p), some (.ref q), some (.int (c : Int)), some (.ref ps), y4, y5, y6, none, none, none]) (H := H2) (ta := tLst (tCons (tC (.int 0)) tNil)) (el_lst (ea_cons ev_c ea_nil) (Nat.le_of_ble_eq_true rfl)) (ev_is (ev_len (ev_op (ev_var (i := 0) rfl) ev_c (rv_ixL (SqL.of (e12 _ _ hT.tab.1)) at0)) (SqL.of (e12 _ _ hh0))) (by rw [List.length_map, hl0])) (by omega) (by rw [Int.toNat_natCast]; show 1 * w ≤ 100000; omega)
      rw [Int.toNat_natCast] at e
      refine s_asgL e fun pt H3 n3 e3 h3 => ⟨pt, rfl, e3, ?_⟩
      rw [h3]
      have : ∀ n : Nat, (List.replicate n [V.int 0]).flatten = (List.replicate n (0 : Int)).map V.int := fun n => by
        induction n with
        | zero => rfl
        | succ n ih =>
          rw [List.replicate_succ, List.flatten_cons, ih]
          rfl
      rw [this]
    rintro σ' H3 ⟨pt, rfl, e3, hpt⟩
    have e13 := e12.trans e3
    refine q_forZ (K := K) (xs := (Sg.zs ns).map V.int) (ys := (Sg.bits ns.length c).map V.int) (ea_cons (ev_var (i := 1) rfl) (ea_cons (ev_var (i := 3) rfl) ea_nil)) (SqL.of (e13 _ _ hq)) (SqL.of (e3 _ _ hps)) (by rw [zl, List.length_map, bl])
      (fun j σ' H' => ∃ (pt : Addr) (y5 y6 : Option V), σ' = [some (.ref p), some (.ref q), some (.int (c : Int)), some (.ref ps), some (.ref pt), y5, y6, none, none, none] ∧ Ex H3 H' ∧ H' pt = some (.lst ((Sg.tot (List.replicate w 0) ((Sg.bits ns.length c).take j) ((rowsOf rows ns).take j)).map V.int))) (fun H4 e4 => ⟨pt, _, _, rfl, e4, e4 _ _ hpt⟩) (fun j σ' H' ⟨_, _, _, _, e, _⟩ => ⟨SqL.of ((e13.trans e) _ _ hq), SqL.of ((e3.trans e) _ _ hps)⟩) (fun j x y T σ' H4 hx hy hP hT4 => ?_) (fun σ' H4 hP => ?_)
    · obtain ⟨pt, y5, y6, rfl, e4, hpt⟩ := hP
      rw [List.getElem?_map] at hx hy
      obtain ⟨xi, hx1, rfl⟩ := Option.map_eq_some_iff.mp hx
      obtain ⟨sg, hy1, rfl⟩ := Option.map_eq_some_iff.mp hy
      unfold Sg.zs at hx1
      rw [List.getElem?_map] at hx1
      obtain ⟨nn, hnn, rfl⟩ := Option.map_eq_some_iff.mp hx1
      obtain ⟨ar, r, atr, hr, hhr, hlr⟩ := row_ nn (hnm nn (List.mem_of_getElem? hnn))
      have hrn : (rowsOf rows ns)[j]? = some r := by
        unfold rowsOf
        rw [List.getElem?_map, hnn, Option.map_some, hr]
        rfl
      have xT := Ex.new (o := .tup [V.int (nn : Int), .int sg]) hT4
      refine ⟨T, _, rfl, SqT.of upd_same, rfl, _, _, rfl, _, _, rfl, rfl, ?_⟩
      have e14 := e13.trans (e4.trans xT)
      have lt : (Sg.tot (List.replicate w 0) ((Sg.bits ns.length c).take j) ((rowsOf rows ns).take j)).length = w := Sg.tot_len List.length_replicate fun r hr => rw_ r (List.mem_of_mem_take hr)
      refine s_asgL (el_zip (K := K) (f := fun t y => t + sg * y) (ea_cons (ev_var (i := 4) rfl) (ea_cons (ev_op (ev_var (i := 0) rfl) (ev_var (i := 5) rfl) (rv_ixL (SqL.of (e14 _ _ hT.tab.1)) atr)) ea_nil)) (SqL.of (xT _ _ hpt)) (SqL.of (e14 _ _ hhr)) (by rw [lt, hlr]) (by omega) (fun u v => rfl) fun x y G1 hx hy f1 => ev_op (ev_var rfl) (ev_op (ev_var rfl) (ev_var rfl) (rv_I ((b1 sg (List.mem_of_getElem? hy1)).mulOk (hb r (List.mem_of_getElem? hr) y hy)))) rv_I0) fun pn H5 n5 e5 h5 => ⟨pn, _, _, rfl, e4.trans (xT.trans e5), ?_⟩
      rw [h5, take_snoc hy1, take_snoc hrn, Sg.tot_snoc _ _ _ _ _ (by rw [List.length_take, List.length_take, bl, rlen])]
      rfl
    · obtain ⟨pt, y5, y6, rfl, e4, hpt⟩ := hP
      rw [zl, List.take_of_length_le (by rw [bl]; exact Nat.le_refl _), List.take_of_length_le (by rw [rlen]; exact Nat.le_refl _)] at hpt
      have lt : (Sg.tot (List.replicate w 0) (Sg.bits ns.length c) (rowsOf rows ns)).length = w := Sg.tot_len List.length_replicate rw_
      obtain ⟨a, ha, ha2⟩ := mx_of (ns := Sg.tot (List.replicate w 0) (Sg.bits ns.length c) (rowsOf rows ns)) (by omega)
      obtain ⟨b, hb', hb2⟩ := mn_of (ns := Sg.tot (List.replicate w 0) (Sg.bits ns.length c) (rowsOf rows ns)) (by omega)
      refine s_when (b := Sg.small (Sg.tot (List.replicate w 0) (Sg.bits ns.length c) (rowsOf rows ns))) (et_is (et_and (et_test (ev_op (ev_maxV (K := K) (ev_var (i := 4) rfl) (SqL.of hpt) ha ha2) ev_c rv_le)) fun _ => et_test (ev_op (ev_minV (K := K) (ev_var (i := 4) rfl) (SqL.of hpt) hb' hb2) (ev_un (x := .int 1) ev_c ru_neg) rv_ge)) ?_) (fun hok H5 e5 => ?_) (fun hok H5 e5 => ⟨_, _, _, _, _, rfl, e13.trans (e4.trans e5), Ls.take_more hno hCc hok⟩)
      · rw [small_eq, ← small_mm ha ha2 hb' hb2]
      · refine s_ret (v := .ref ps) (ev_var (i := 3) rfl) fun H6 e6 => k _ H6 (e13.trans (e4.trans (e5.trans e6))) ?_
        rw [Ls.find_at hno hCc hok]
        exact ⟨ps, rfl, (e3.trans (e4.trans (e5.trans e6))) _ _ hps, fresh_back e1 nps⟩
-- DEF first_signs

def sp_first_signs (K : PySem.W.Frag) : Sp := fun vs H Q _ => ∃ (p q : Addr) (as : List Addr) (rows : List (List Int)) (m w : Nat) (ns : List Nat), vs = [.ref p, .ref q] ∧ TabOk H p as rows m w ∧ (∀ r ∈ rows, ∀ y ∈ r, Bd 100 y) ∧ H q = some (.lst ((Sg.zs ns).map V.int)) ∧ ns ≠ [] ∧ ns.length ≤ 8 ∧ (∀ i ∈ ns, i < m) ∧
  ∀ v H', Ex H H' → SignAt H H' v (Sg.first w (rowsOf rows ns)) → Q v H'

theorem ok_first_signs (T : Txt K mg) : FnOk P w K mg base CX0 2 T.f_first_signs T.fd_first_signs ["table", "rows"] (sp_first_signs K) := by
  refine Fun.ok T.F_first_signs sc_first_signs (fun vs H Q E h => ?_) (fun cdv A outer s H vs Q E hr h => ?_)
  · obtain ⟨_, _, _, _, _, _, _, rfl, _⟩ := h; rfl
  · refine ⟨_, (pss_cut (ps_set (i := 2) sc_first_signs.nd rfl (by first | exact Or.inl rfl | exact Or.inr rfl) (pe_lst (pa_cons (pe_tup (pa_cons (pe_lst (pa_cons pe_int pa_nil)) (pa_cons (pe_ix (r := rIxL K) ix_list (pv 0) (pe_ix (r := rIxL K) ix_list (pv 1) pe_int (fun _ _ => rfl)) (fun _ _ => rfl)) pa_nil))) pa_nil)))
      (pss_cons (ps_for PassesOwn.never rfl (pi_list (pe_slice (r := rSlL K) sl_list (pv 1) (po_some pe_int) po_none)) (pg_name (i := 3) sc_first_signs.nd rfl (by first | exact Or.inl rfl | exact Or.inr rfl))
        (pss_one (ps_setLc2 (i := 2) (own := [("signs", 4), ("totals", 5), ("sign", 6)]) (vs1 := [6]) (wi := iList K _) (g := gTup K 2 (gCons (gName 4) (gCons (gName 5) gNil))) (tt := tYes) (wi1 := iTup K _) (g1 := gName 6) (tt1 := tYes) rfl sc_first_signs.nd rfl rfl (sw_true rfl rfl rfl (by decide +kernel)) (pi_list (pv 2)) (blkOk_by (N := ["table", "rows", "ways", "row", "signs", "totals", "sign", "total", "entry"]) (sc := (defScope s_first_signs)) (by decide +kernel)) (by decide) (fun _ _ _ _ _ => (pg_tup rfl (pgs_cons (pg_name (i := 4) sc_first_signs.nd rfl (Or.inl rfl)) (pgs_cons (pg_name (i := 5) sc_first_signs.nd rfl (Or.inl rfl)) pgs_nil)))) (fun _ _ _ _ _ => pts_nil) (fun _ _ _ _ _ => (pi_tup (pe_tup (pa_cons pe_int (pa_cons (pe_un un_neg pe_int) pa_nil))))) (fun _ _ _ _ _ => pg_name (i := 6) sc_first_signs.nd rfl (Or.inr rfl)) (fun _ _ _ _ _ => pts_nil) (fun _ _ _ _ _ => (pe_tup (pa_cons (pe_op op_cat (pv 4) (pe_lst (pa_cons (pv 6) pa_nil))) (pa_cons (pe_lc (own := [("total", 7), ("entry", 8)]) (wi := iZip K _) (g := gTup K 2 (gCons (gName 7) (gCons (gName 8) gNil))) (tt := tYes) rfl sc_first_signs.nd (pi_zip (by rfl) T.n_zip (pa_cons (pv 5) (pa_cons (pe_ix (r := rIxL K) ix_list (pv 0) (pv 3) (fun _ _ => rfl)) pa_nil))) (blkOk_by (N := ["table", "rows", "ways", "row", "signs", "totals", "sign", "total", "entry"]) (sc := (relS ({ kind := .function, names := [(".0", .local), ("signs", .local), ("totals", .local), ("sign", .cell), ("zip", .globalImplicit), ("row", .free), ("table", .free)], isGenerator := false, isCoroutine := false } : Scope) (defScope s_first_signs))) (by decide +kernel)) (fun _ _ _ _ _ => (pg_tup rfl (pgs_cons (pg_name (i := 7) sc_first_signs.nd rfl (Or.inl rfl)) (pgs_cons (pg_name (i := 8) sc_first_signs.nd rfl (Or.inl rfl)) pgs_nil)))) (fun _ _ _ _ _ => pts_nil) (fun _ _ _ _ _ => (pe_op op_add (pv 7) (pe_op op_mulW (pv 6) (pv 8))))) pa_nil)))))))
      (pss_cons (ps_for PassesOwn.never rfl (pi_list (pv 2)) (pg_tup rfl (pgs_cons (pg_name (i := 4) sc_first_signs.nd rfl (by first | exact Or.inl rfl | exact Or.inr rfl)) (pgs_cons (pg_name (i := 5) sc_first_signs.nd rfl (by first | exact Or.inl rfl | exact Or.inr rfl)) pgs_nil)))
        (pss_one (ps_if (pt_val (pe_call (ok_are_small T) hr (by rfl) T.g_are_small T.k_are_small T.b_are_small .nil pass0 (pa_cons (pv 5) pa_nil)))
            (pss_one (ps_ret (pv 4)))
            pss_nil)))
      (pss_one (ps_ret pe_non))))), ?_⟩
    obtain ⟨p, q, as, rows, m, w, ns, rfl, hT, hb, hq, hn0, hn8, hnm, k⟩ := h
    have hd := hT.b
    obtain ⟨n0, nt, rfl⟩ : ∃ n0 nt, ns = n0 :: nt := by
      cases ns with
      | nil => exact absurd rfl hn0
      | cons a b => exact ⟨a, b, rfl⟩
    rw [List.length_cons] at hn8
    have row_ : ∀ i, i < m → ∃ a r, atI (as.map V.ref) (i : Int) = some (.ref a) ∧ rows[i]? = some r ∧ H a = some (.lst (r.map V.int)) ∧ r.length = w := fun i hi => by
      obtain ⟨a, r, h1, h2, h3, h4⟩ := hT.row (i := (i : Int)) (by omega) (by omega)
      rw [Int.toNat_natCast] at h2
      exact ⟨a, r, h1, h2, h3, h4⟩
    obtain ⟨a0, r0, at0, hr0, hh0, hl0⟩ := row_ n0 (hnm n0 (List.mem_cons_self ..))
    have rs_ : rowsOf rows (n0 :: nt) = r0 :: rowsOf rows nt := by
      unfold rowsOf
      rw [List.map_cons, hr0]
      rfl
    have rlen : (rowsOf rows nt).length = nt.length := by unfold rowsOf; rw [List.length_map]
    rw [rs_, first_wys hl0] at k
    generalize hrs : rowsOf rows nt = rs at k rlen
    have wlen : ∀ n, (wys r0 rs n).length = 2 ^ n := fun n => by unfold wys; rw [List.length_map, Sg.ways_len]
    have w7 : ∀ n, n ≤ 7 → 2 ^ n ≤ 128 := fun n hn => Nat.le_trans (Nat.pow_le_pow_right (by decide) hn) (by decide)
    refine ⟨fun σ' H' => ∃ D vs, σ' = [some (.ref p), some (.ref q), some (.ref D), none, none, none, none, none, none] ∧ Ex H H' ∧ H' D = some (.lst vs) ∧ Paired (WayAt H D H') vs (wys r0 rs 0), ?_, ?_⟩
    · refine s_asg1p (el_lst (vs := [.int 1]) (ea_cons ev_c ea_nil) (Nat.le_of_ble_eq_true rfl)) (ev_op (ev_var (i := 0) rfl) (ev_op (ev_var (i := 1) rfl) ev_c (rv_ixL (SqL.of hq) (atI_nat (j := 0) (by rfl)))) (rv_ixL (SqL.of hT.tab.1) at0)) fun p1 t D H1 n1 n2 n3 tD pD tp e1 h1 h2 h3 => ?_
      have aD : a0 ≠ D := fun z => by
        rw [← z, hh0] at n3
        cases n3
      exact ⟨D, [.ref t], rfl, e1, h3, .cons ⟨t, p1, a0, rfl, h2, h1, e1 _ _ hh0, n1, tD, pD, aD⟩ .nil⟩
    rintro σ' H1 ⟨D, vs, rfl, e1, hD, hW⟩
    have lst := el_sl (K := K) (te := tVar 1) (tl := tPart (tC (.int 1))) (th := tNoPart) (σ := [some (.ref p), some (.ref q), some (.ref D), none, none, none, none, none, none]) (H := H1) (ev_var rfl) (eo_some ev_c) eo_none (SqL.of (e1 _ _ hq))
    rw [cut_1 (by unfold Sg.zs; simp)] at lst
    refine q_forNL lst (fun pl n σ' H' => ∃ D vs y3, σ' = [some (.ref p), some (.ref q), some (.ref D), y3, none, none, none, none, none] ∧ Ex H H' ∧ H' pl = some (.lst ((Sg.zs nt).map V.int)) ∧ H' D = some (.lst vs) ∧ Paired (WayAt H D H') vs (wys r0 rs n)) (fun pl H2 npl e2 h2 => ⟨D, vs, _, rfl, e1.trans e2, h2, e2 _ _ hD, paired_imp (fun v a r => r.stay fun b o _ h => e2 _ _ h) hW⟩) (fun pl n σ' H' _ ⟨_, _, _, _, _, h, _⟩ => SqL.of h) (fun pl n x σ' H2 hx hP => ?_) (fun pl σ' H2 hP => ?_)
    · obtain ⟨D, vs, y3, rfl, e2, hl, hD2, hW2⟩ := hP
      have hx : ((Sg.zs nt).map V.int)[n]? = some x := hx
      rw [List.getElem?_map] at hx
      obtain ⟨xi, hx1, rfl⟩ := Option.map_eq_some_iff.mp hx
      unfold Sg.zs at hx1
      rw [List.getElem?_map] at hx1
      obtain ⟨nn, hnn, rfl⟩ := Option.map_eq_some_iff.mp hx1
      have hnl := (List.getElem?_eq_some_iff.mp hnn).1
      obtain ⟨ar, r, atr, hr, hhr, hlr⟩ := row_ nn (hnm nn (List.mem_cons_of_mem _ (List.mem_of_getElem? hnn)))
      have hrn : rs[n]? = some r := by
        rw [← hrs]
        unfold rowsOf
        rw [List.getElem?_map, hnn, Option.map_some, hr]
        rfl
      have vl : vs.length = 2 ^ n := by rw [Paired.length hW2, wlen]
      have hch : ∀ i : Nat, ∃ z : Addr × Addr × Addr, ∀ (v : V) (a : List Int × List Int), vs[i]? = some v → (wys r0 rs n)[i]? = some a → v = .ref z.1 ∧ H2 z.1 = some (.tup [.ref z.2.1, .ref z.2.2]) ∧ H2 z.2.1 = some (.lst (a.1.map V.int)) ∧ H2 z.2.2 = some (.lst (a.2.map V.int)) := fun i => by
        cases hv : vs[i]? with
        | none => exact ⟨(0, 0, 0), fun v a h => nomatch h⟩
        | some v =>
          obtain ⟨a, ha, t, p1, q1, h1, h2, h3, h4, _⟩ := paired_get hW2 hv
          exact ⟨(t, p1, q1), fun v' a' h h' => by
            cases h
            rw [ha] at h'
            cases h'
            exact ⟨h1, h2, h3, h4⟩⟩
      obtain ⟨f, hf⟩ := Classical.axiomOfChoice hch
      have at_ : ∀ i, i < 2 ^ n → ∃ a, (wys r0 rs n)[i]? = some a ∧ vs[i]? = some (.ref (f i).1) ∧ H2 (f i).1 = some (.tup [.ref (f i).2.1, .ref (f i).2.2]) ∧ H2 (f i).2.1 = some (.lst (a.1.map V.int)) ∧ H2 (f i).2.2 = some (.lst (a.2.map V.int)) := fun i hi => by
        have ha : (wys r0 rs n)[i]? = some ((wys r0 rs n)[i]'(by rw [wlen]; exact hi)) := List.getElem?_eq_getElem _
        have hv : vs[i]? = some (vs[i]'(by rw [vl]; exact hi)) := List.getElem?_eq_getElem _
        obtain ⟨h1, h2, h3, h4⟩ := hf i _ _ hv ha
        exact ⟨_, ha, by rw [hv, h1], h2, h3, h4⟩
      have in_ : ∀ (i : Nat) (a : List Int × List Int), (wys r0 rs n)[i]? = some a → a.1.length = n + 1 ∧ a.2.length = w := fun i a ha => by
        have hm := List.mem_of_getElem? ha
        unfold wys at hm
        obtain ⟨s, hs, rfl⟩ := List.mem_map.mp hm
        refine ⟨by rw [List.length_cons, (Sg.mem_ways.mp hs).1], Sg.tot_len hl0 fun r hr => ?_⟩
        have hr := List.mem_of_mem_take hr
        rw [← hrs] at hr
        unfold rowsOf at hr
        obtain ⟨i, hi, rfl⟩ := List.mem_map.mp hr
        obtain ⟨a, r, _, h2, _, h4⟩ := row_ i (hnm i (List.mem_cons_of_mem _ hi))
        rw [h2]
        exact h4
      show tAsg _ (gName 2) _ [some (.ref p), some (.ref q), some (.ref D), some (.int (nn : Int)), none, none, none, none, none] H2
      refine lc2_two (K := K) (n1 := 2) (j1 := 6) (vs := [4, 5, 6]) (vs1 := [6]) (σ := [some (.ref p), some (.ref q), some (.ref D), some (.int (nn : Int)), none, none, none, none, none]) (xs := vs) (zs := [.int 1, .int (-1)])
        (fun i j => ((((wys r0 rs n)[i]?.getD ([], [])).1 ++ [if j = 0 then 1 else -1]), Sg.add ((wys r0 rs n)[i]?.getD ([], [])).2 (if j = 0 then 1 else -1) r)) (WayAt H) (fun i => [some (.ref p), some (.ref q), some (.ref D), some (.int (nn : Int)), some (.ref (f i).2.1), some (.ref (f i).2.2), none, none, none])
        (fun _ _ _ _ _ h e => h.stay e) rfl hD2 (by rw [vl]; have := w7 n (by omega); show 2 ^ n * 2 ≤ 50000; omega) (fun i x G hx eG Kn hk => ?_) (fun i => rfl) (fun i G Rn hi eG hk => ?_) (fun i u => rfl) (fun D' i j z G hi hz eG nD' hD' Q1 q1 => ?_) (fun D' ys G nD' eG hD' hP' => ⟨D', ys, _, rfl, e2.trans eG, eG _ _ hl, hD', ?_⟩)
      · obtain ⟨a, ha, hv, h2, h3, h4⟩ := at_ i (by rw [← vl]; exact (List.getElem?_eq_some_iff.mp hx).1)
        rw [hv] at hx
        cases hx
        exact ⟨_, _, rfl, SqT.of (eG _ _ h2), rfl, _, _, rfl, _, _, rfl, rfl, hk⟩
      · exact (eu_tup (σ := [some (.ref p), some (.ref q), some (.ref D), some (.int (nn : Int)), some (.ref (f i).2.1), some (.ref (f i).2.2), none, none, none]) (ea_cons ev_c (ea_cons (ev_un (x := .int 1) ev_c ru_neg) ea_nil)) (Nat.le_of_ble_eq_true rfl)) G (Ex.refl _) _ fun q G1 nq eq hq => ⟨q, rfl, ⟨_, SqT.of hq⟩, hk q G1 nq eq hq⟩
      · obtain ⟨a, ha, hv, h2, h3, h4⟩ := at_ i (by rw [← vl]; exact hi)
        obtain ⟨l1, l2⟩ := in_ i a ha
        obtain ⟨sg, rfl, hsg, hs1⟩ : ∃ sg : Int, z = .int sg ∧ (if j = 0 then (1 : Int) else -1) = sg ∧ (sg = 1 ∨ sg = -1) := by
          rcases j with _ | _ | j
          · cases hz
            exact ⟨1, rfl, rfl, .inl rfl⟩
          · cases hz
            exact ⟨-1, rfl, rfl, .inr rfl⟩
          · cases hz
        have bs : Bd 100 sg := by
          unfold Bd
          rcases hs1 with rfl | rfl <;> decide +kernel
        rw [ha, hsg] at q1
        refine e_pairLL (σ := [some (.ref p), some (.ref q), some (.ref D), some (.int (nn : Int)), some (.ref (f i).2.1), some (.ref (f i).2.2), some (.int sg), none, none]) (el_catVL (ev_var (i := 4) rfl) (eG _ _ h3) (el_lst (vs := [.int sg]) (ea_cons (ev_var (i := 6) rfl) ea_nil) (Nat.le_of_ble_eq_true rfl)) (by rw [List.length_map, l1]; show _ + 1 ≤ 100000; omega))
          (el_zip (K := K) (f := fun t y => t + sg * y) (ea_cons (ev_var (i := 5) rfl) (ea_cons (ev_op (ev_var (i := 0) rfl) (ev_var (i := 3) rfl) (rv_ixL (SqL.of ((e2.trans eG) _ _ hT.tab.1)) atr)) ea_nil)) (SqL.of (eG _ _ h4)) (SqL.of ((e2.trans eG) _ _ hhr)) (by rw [l2, hlr]) (by omega) (fun u v => rfl) fun x y G1 hx hy f1 => ev_op (ev_var rfl) (ev_op (ev_var rfl) (ev_var rfl) (rv_I (bs.mulOk (hb r (List.mem_of_getElem? hr) y hy)))) rv_I0) _ fun p1 q1' t G1 n1 n2 n3 f1 g1 g2 g3 => ?_
        have ne : ∀ b, G b = none → b ≠ D' := fun b h z => hD' (by rw [← z]; exact h)
        refine q1 _ G1 f1 ⟨t, p1, q1', rfl, g3, ?_, g2, fresh_back (e2.trans eG) n1, ne _ n3, ne _ n1, ne _ n2⟩
        rw [g1, List.map_append]
        rfl
      · rw [wys_succ hrn]
        rw [vl, ← wlen n] at hP'
        have e5 := range_fm (([], []) : List Int × List Int) (fun a : List Int × List Int => [(a.1 ++ [1], Sg.add a.2 1 r), (a.1 ++ [-1], Sg.add a.2 (-1) r)]) (wys r0 rs n)
        rw [← e5]
        exact hP'
    · obtain ⟨D, vs, y3, rfl, e2, hl, hD2, hW2⟩ := hP
      have zl : ((Sg.zs nt).map V.int).length = rs.length := by unfold Sg.zs; rw [List.length_map, List.length_map, rlen]
      have hW2 : Paired (WayAt H D H2) vs (wys r0 rs rs.length) := by
        rw [← zl]
        exact hW2
      have vl : vs.length = (wys r0 rs rs.length).length := Paired.length hW2
      refine ⟨_, rfl, D, rfl, ⟨_, SqL.of hD2⟩, for_list (K := K) (a := D) (xs := vs) (fun i σ' H' => ∃ y4 y5 : Option V, σ' = [some (.ref p), some (.ref q), some (.ref D), y3, y4, y5, none, none, none] ∧ Ex H2 H' ∧ ∀ a ∈ (wys r0 rs rs.length).take i, Ls.smallB a.2 = false) ⟨_, _, rfl, Ex.refl _, fun z hz => nomatch hz⟩ (fun i σ' H' _ ⟨_, _, _, h, _⟩ => SqL.of (h _ _ hD2)) (fun i x σ' H3 hx hP => ?_) (fun σ' H3 hP => ?_)⟩
      · obtain ⟨y4, y5, rfl, e3, hno⟩ := hP
        obtain ⟨a, ha, t, p1, q1, rfl, h2, h3, h4, h5, _⟩ := paired_get hW2 hx
        refine ⟨t, _, rfl, SqT.of (e3 _ _ h2), rfl, _, _, rfl, _, _, rfl, rfl, ?_⟩
        have la : a.2.length ≤ 100 := by
          have hm := List.mem_of_getElem? ha
          unfold wys at hm
          obtain ⟨s, hs, rfl⟩ := List.mem_map.mp hm
          have := Sg.tot_len (w := w) (z := r0) (ss := s) (rs := rs.take rs.length) hl0 fun r hr => by
            have hr := List.mem_of_mem_take hr
            rw [← hrs] at hr
            unfold rowsOf at hr
            obtain ⟨i, hi, rfl⟩ := List.mem_map.mp hr
            obtain ⟨a, r, _, h2, _, h4⟩ := row_ i (hnm i (List.mem_cons_of_mem _ hi))
            rw [h2]
            exact h4
          show (Sg.tot r0 s (rs.take rs.length)).length ≤ 100
          omega
        refine s_when (b := Ls.smallB a.2) (et_B (ev_fn (sp := sp_are_small K) (ea_cons (ev_var (i := 5) rfl) ea_nil) fun H4 e4 Q4 q4 => ⟨q1, a.2, rfl, (e3.trans e4) _ _ h4, la, q4⟩)) (fun hok H4 e4 => ?_) (fun hok H4 e4 => ⟨_, _, rfl, e3.trans e4, Ls.take_more hno ha hok⟩)
        refine s_ret (v := .ref p1) (ev_var (i := 4) rfl) fun H5 e5 => k _ H5 (e2.trans (e3.trans (e4.trans e5))) ?_
        rw [Ls.find_at hno ha hok]
        exact ⟨p1, rfl, (e3.trans (e4.trans e5)) _ _ h3, h5⟩
      · obtain ⟨y4, y5, rfl, e3, hno⟩ := hP
        rw [vl, List.take_length] at hno
        dsimp only
        refine s_ret (v := .non) ev_c fun H4 e4 => ?_
        refine k _ H4 (e2.trans (e3.trans e4)) ?_
        rw [Ls.find_no hno]
        rfl
-- DEF _law_picks

theorem paired_maps {α β : Type} {R : α → β → Prop} : ∀ {l : List (α × β)}, (∀ x ∈ l, R x.1 x.2) → Paired R (l.map (·.1)) (l.map (·.2))
  | [], _ => .nil
  | x :: l, h => .cons (h x (List.mem_cons_self ..)) (paired_maps fun y hy => h y (List.mem_cons_of_mem _ hy))
theorem paired_zip {α β : Type} {R : α → β → Prop} : ∀ {as : List α} {bs : List β}, Paired R as bs → ∀ x ∈ as.zip bs, R x.1 x.2
  | _, _, .nil, x, hx => nomatch hx
  | _, _, .cons r t, x, hx => by
    rw [List.zip_cons_cons] at hx
    rcases List.mem_cons.mp hx with rfl | hx
    · exact r
    · exact paired_zip t x hx
theorem paired_unmap {α β γ : Type} {R : α → β → Prop} {f : γ → β} : ∀ {as : List α} {cs : List γ}, Paired R as (cs.map f) → Paired (fun a c => R a (f c)) as cs
  | [], [], _ => .nil
  | [], _ :: _, h => nomatch h
  | _ :: _, [], h => nomatch h
  | _ :: _, _ :: _, .cons r t => .cons r (paired_unmap t)
theorem paired_remap {α β γ : Type} {R : α → β → Prop} {f : γ → β} : ∀ {as : List α} {cs : List γ}, Paired (fun a c => R a (f c)) as cs → Paired R as (cs.map f)
  | _, _, .nil => .nil
  | _, _, .cons r t => .cons r (paired_remap t)
theorem lookup_zip {β : Type} : ∀ {as : List Addr} {bs : List β}, as.Nodup → ∀ x ∈ as.zip bs, (as.zip bs).lookup x.1 = some x.2
  | [], _, _, x, hx => by simp at hx
  | _ :: _, [], _, x, hx => by simp at hx
  | a :: as, b :: bs, nd, x, hx => by
    rw [List.zip_cons_cons] at hx ⊢
    have nd := List.nodup_cons.mp nd
    rcases List.mem_cons.mp hx with rfl | hx
    · rw [List.lookup_cons, beq_self_eq_true]
    · have hm : x.1 ∈ as := (List.of_mem_zip hx).1
      have ne : (x.1 == a) = false := beq_eq_false_iff_ne.mpr fun z => nd.1 (by rw [← z]; exact hm)
      rw [List.lookup_cons, ne]
      exact lookup_zip nd.2 x hx
/-- what the lambda tells of a pick -/
def keyP (L : List (Addr × List Nat)) : V → PyData
  | .ref a => Sg.dat ((L.lookup a).getD [])
  | _ => Sg.dat []
theorem sort_rows {as : List Addr} {rows : List (List Nat)} (hl : as.length = rows.length) (nd : as.Nodup) : ∃ as' : List Addr, (as.map V.ref).mergeSort (PySem.W.dataLe false (keyP (as.zip rows))) = as'.map V.ref ∧ (∀ a ∈ as', a ∈ as) ∧ as'.Nodup ∧ ∀ R : Addr → List Nat → Prop, Paired R as rows → Paired R as' (rows.mergeSort Sg.leP) := by
  have m1 : (as.zip rows).map (·.1) = as := List.map_fst_zip (by omega)
  have m2 : (as.zip rows).map (·.2) = rows := List.map_snd_zip (by omega)
  refine ⟨((as.zip rows).mergeSort fun x y => Sg.leP x.2 y.2).map (·.1), ?_, fun a ha => ?_, ?_, fun R h => ?_⟩
  · have h := PySem.W.sort_maps (r := fun x y : Addr × List Nat => Sg.leP x.2 y.2) (s := PySem.W.dataLe false (keyP (as.zip rows))) (fun x : Addr × List Nat => V.ref x.1) (l := as.zip rows) fun x hx y hy => by
      have e : ∀ z ∈ as.zip rows, keyP (as.zip rows) (.ref z.1) = Sg.dat z.2 := fun z hz => by
        show Sg.dat (((as.zip rows).lookup z.1).getD []) = _
        rw [lookup_zip nd z hz]
        rfl
      show PySem.W.dataLe false Sg.dat x.2 y.2 = _
      have e1 := e x hx
      have e2 := e y hy
      unfold PySem.W.dataLe PySem.W.sortLe
      simp only [e1, e2]
    have e3 : (as.zip rows).map (fun x : Addr × List Nat => V.ref x.1) = as.map V.ref := by
      conv => rhs; rw [← m1]
      rw [List.map_map]
      rfl
    rw [e3] at h
    rw [← h, List.map_map]
    rfl
  · obtain ⟨x, hx, rfl⟩ := List.mem_map.mp ha
    exact (List.of_mem_zip ((List.mergeSort_perm _ _).mem_iff.mp hx)).1
  · have p := (List.mergeSort_perm (as.zip rows) fun x y => Sg.leP x.2 y.2).map (·.1)
    rw [m1] at p
    exact p.nodup_iff.mpr nd
  · have h2 := PySem.W.sort_maps (r := fun x y : Addr × List Nat => Sg.leP x.2 y.2) (s := Sg.leP) (·.2) (l := as.zip rows) fun x hx y hy => rfl
    rw [m2] at h2
    rw [← h2]
    exact paired_maps fun x hx => paired_zip h x ((List.mergeSort_perm _ _).mem_iff.mp hx)
theorem alike_ints : ∀ a b : List Nat, PySem.W.alikeAll (a.map fun (i : Nat) => PyData.int (i : Int)) (b.map fun (i : Nat) => PyData.int (i : Int)) = true
  | [], b => by rw [List.map_nil, PySem.W.alikeAll]
  | x :: a, [] => by rw [List.map_cons, List.map_nil, PySem.W.alikeAll]
  | x :: a, y :: b => by
    rw [List.map_cons, List.map_cons, PySem.W.alikeAll, alike_ints a b, PySem.W.alike]
    rfl
theorem alike_dat (a b : List Nat) : PySem.W.alike (Sg.dat a) (Sg.dat b) = true := by
  unfold Sg.dat
  rw [PySem.W.alike, PySem.W.alikeAll, PySem.W.alikeAll, PySem.W.alikeAll, PySem.W.alike, PySem.W.alike, alike_ints]
  rfl
theorem keyP_is (L : List (Addr × List Nat)) (v : V) : ∃ l, keyP L v = Sg.dat l := by
  cases v <;> exact ⟨_, rfl⟩
theorem zs_ints (l : List Nat) : (Sg.zs l).map PyData.int = l.map fun (i : Nat) => PyData.int (i : Int) := by
  unfold Sg.zs
  rw [List.map_map]
  rfl
theorem dat_depth (l : List Nat) : (Sg.dat l).depth ≤ 20 := by
  unfold Sg.dat
  have h := depth_ints (Sg.zs l)
  rw [zs_ints] at h
  show max 0 (max (PyData.depthAll (l.map fun (i : Nat) => PyData.int (i : Int)) + 1) 0) + 1 ≤ 20
  omega
/-- no object that stood there, tables of code aside -/
def NewN (H : Hp) (D : Addr) (as : List Addr) : Prop := ∀ b o, H b = some o → (∀ ps, o ≠ .tbl ps) → b ≠ D ∧ b ∉ as
theorem rows_N {H H' : Hp} (e : LamX.ExtN H H') : ∀ {as : List Addr} {rows : List (List Int)}, RowsAt H as rows → RowsAt H' as rows
  | _, _, .nil => .nil
  | _, _, .cons g t => .cons (e _ _ g (fun _ z => by cases z)) (rows_N e t)

def sp__law_picks (K : PySem.W.Frag) (P : Addr) : Sp := fun vs H Q _ => ∃ (n : Nat), vs = [.int n] ∧ 1 ≤ n ∧ n ≤ 8 ∧ LamX.Tabs [(P, lamQ)] H ∧
  ∀ D as H', NewN H D as → D ∉ as → as.Nodup → LamX.ExtN H H' → LamX.Tabs [(P, lamQ)] H' → H' D = some (.lst (as.map V.ref)) → RowsAt H' as ((Sg.picks n).map Sg.zs) → Q (.ref D) H'

theorem ok__law_picks (T : Txt K mg) (TB : TabB base mg T.c_law T.P_law) : FnOk P w K mg base CX0 4 T.f__law_picks T.fd__law_picks ["_law_many"] (sp__law_picks K T.P_law) := by
  obtain ⟨ocL, odL, kVL, docL, pmL, anL, ctL, oslL, eL, lkL, hcL⟩ := T.lkL
  rw [eL] at lkL ⊢
  refine fn_of lkL hcL sc__law_picks (fun vs H Q E h => ?_) (fun A outer s H vs Q E hr h => ?_)
  · obtain ⟨_, rfl, _⟩ := h; rfl
  · refine ⟨_, PSs.nox (pss_cons (ps_set (i := 1) sc__law_picks.nd rfl (by first | exact Or.inl rfl | exact Or.inr rfl) (pe_lst pa_nil))
      (pss_cons (ps_for PassesOwn.never rfl (pi_range2 (by rfl) T.n_range (pa_cons pe_int (pa_cons (pe_op op_shl pe_int (pv 0)) pa_nil))) (pg_name (i := 2) sc__law_picks.nd rfl (by first | exact Or.inl rfl | exact Or.inr rfl))
        (pss_one (ps_expr (pe_bm PySem.F.plainAttrs_list PySem.F.slot_list_append PySem.F.type_list_append mt_append (pv 1) (pa_cons (pe_lc (own := [("_law_k", 3)]) (g := gName 3) (tt := _) rfl sc__law_picks.nd (pi_range1 (by rfl) T.n_range (pa_cons (pv 0) pa_nil)) (blkOk_by (N := ["_law_many", "_law_some", "_law_code", "_law_k", "_law_rows"]) (sc := (defScope s__law_picks)) (by decide +kernel)) (fun _ _ _ _ _ => pg_name (i := 3) sc__law_picks.nd rfl (Or.inl rfl)) (fun _ _ _ _ _ => pts_one (pt_cmpR op_eq (pe_op op_mod (pe_op op_shr (pv 2) (pv 3)) pe_int) pe_int (nomark _))) (fun _ _ _ _ _ => (pv 3))) pa_nil)))))
      (pss_one (ps_ret (Lam1.pe_sortedLam (k := 0) (i := 4) (x := "_law_rows") (T := [(T.P_law, lamQ)]) (by rfl) T.n_sorted (pv 1) (show (["_law_many", "_law_some", "_law_code", "_law_k", "_law_rows"] : List Str).Nodup from by decide) rfl (Lam1.lamP_by (sc := defScope s__law_picks) (by decide +kernel)) TB rfl (List.mem_singleton.mpr rfl) (fun p hp _ => by rw [List.mem_singleton.mp hp]; rfl) (hr.mono (by decide)) rfl (fun _ _ _ _ _ _ => rfl) (fun A outer s H f c' hr2 => (pe_tup (pa_cons (pe_callB (id := "len") (r := rLenS K) call_len_seq (by rfl) T.n_len PySem.boot_len (pa_cons (pv 4) pa_nil)) (pa_cons (pv 4) pa_nil))))))))), ?_⟩
    obtain ⟨n, rfl, hn1, hn8, hTb, k⟩ := h
    have p8 : 2 ^ n ≤ 256 := Nat.le_trans (Nat.pow_le_pow_right (by decide) hn8) (by decide)
    have p0 : 0 < 2 ^ n := Nat.two_pow_pos n
    refine q_asgL (el_lst ea_nil (Nat.zero_le _)) fun S H1 nS e1 hS => ?_
    refine q_forR2 (lo := 1) (n := ((2 ^ n : Nat) : Int)) (ea_cons ev_c (ea_cons (ev_is (ev_op (x := .int 1) (y := .int (n : Int)) ev_c (ev_var (i := 0) rfl) (rv_I (shl_ok hn8))) (by rw [Int.toNat_natCast, Int.one_mul]; push_cast; rfl)) ea_nil)) (by omega)
      (fun i σ' H' => ∃ (y2 : Option V) (as : List Addr), σ' = [some (.int (n : Int)), some (.ref S), y2, none, none] ∧ Ex H H' ∧ H' S = some (.lst (as.map V.ref)) ∧ RowsAt H' as (((List.range' 1 i).map (Sg.sub n)).map Sg.zs) ∧ (∀ a ∈ as, H a = none) ∧ as.Nodup ∧ S ∉ as) (fun H2 e2 => ⟨_, [], rfl, e1.trans e2, e2 _ _ hS, .nil, fun a ha => (nomatch ha), List.nodup_nil, fun z => nomatch z⟩) (fun i σ' H2 hi hP => ?_) (fun σ' H2 hP => ?_)
    · obtain ⟨y2, as, rfl, e2, hS2, hR, hn, nd, nS2⟩ := hP
      have al : as.length = i := by rw [Paired.length hR, List.length_map, List.length_map, List.length_range']
      refine s_appL hS2 (ev_var (i := 1) rfl) (el_rng1F (n := n) (fun k => ((1 + i) >>> k) % 2 == 1) (fun k => V.int (k : Int)) (ea_cons (ev_var (i := 0) rfl) ea_nil) (by omega) (fun u => rfl) (fun kk H3 e3 hk => ?_) (fun kk H3 e3 hk _ => ev_var rfl)) (by rw [List.length_map, al]; omega) fun p H3 np e3 hp => ⟨_, as ++ [p], rfl, Ex.mut (e2.trans e3) nS, ?_, ?_, fun a ha => ?_, ?_, ?_⟩
      · refine et_is (et_test (ev_op (ev_op (ev_op (ev_var (i := 2) rfl) (ev_var (i := 3) rfl) (rv_I (by show (0 : Int) ≤ _; omega))) ev_c (rv_I (by show (0 : Int) < 2; decide))) ev_c (rv_eq rfl))) ?_
        have e5 : ((1 : Int) + (i : Int)) / 2 ^ ((kk : Int)).toNat % 2 = ((((1 + i) >>> kk) % 2 : Nat) : Int) := by
          rw [Int.toNat_natCast, Nat.shiftRight_eq_div_pow]
          push_cast
          rfl
        rw [e5, Bool.eq_iff_iff, decide_eq_true_eq, beq_iff_eq]
        constructor
        · intro z
          have := V.int.inj z
          omega
        · intro z
          rw [z]
          rfl
      · rw [upd_same, List.map_append]
        rfl
      · have np2 : p ≠ S := fun z => by
          rw [z, hS2] at np
          cases np
        rw [List.range'_concat, List.map_append, List.map_append, Nat.one_mul]
        refine paired_snoc (rows_but hR fun a ha o g => ?_) ?_
        · rw [upd_ne (fun z => nS2 (by rw [← z]; exact ha))]
          exact e3 _ _ g
        · rw [upd_ne np2, hp]
          unfold Sg.sub Sg.zs
          rw [List.map_map]
          rfl
      · rcases List.mem_append.mp ha with h | h
        · exact hn a h
        · rw [List.mem_singleton.mp h]
          exact fresh_back e2 np
      · refine List.nodup_append.mpr ⟨nd, by simp, fun a ha b hb z => ?_⟩
        rw [List.mem_singleton.mp hb] at z
        obtain ⟨r, _, hr⟩ := paired_get hR (List.getElem?_eq_getElem (List.mem_iff_getElem.mp ha).choose_spec.1)
        rw [(List.mem_iff_getElem.mp ha).choose_spec.2, z, np] at hr
        cases hr
      · intro z
        rcases List.mem_append.mp z with h | h
        · exact nS2 h
        · rw [← List.mem_singleton.mp h, hS2] at np
          cases np
    · obtain ⟨y2, as, rfl, e2, hS2, hR, hn, nd, nS2⟩ := hP
      have e3 : ((((2 ^ n : Nat) : Int)) - 1).toNat = 2 ^ n - 1 := by omega
      rw [e3] at hR
      have hc : (List.range' 1 (2 ^ n - 1)).map (Sg.sub n) = Sg.coded n := rfl
      rw [hc] at hR
      have al : as.length = (Sg.coded n).length := by rw [Paired.length hR, List.length_map]
      have tb2 : LamX.Tabs [(T.P_law, lamQ)] H2 := LamX.Tabs.ext hTb e2
      obtain ⟨as', ms, sub', nd', pr'⟩ := sort_rows (rows := Sg.coded n) al nd
      have hpz : ∀ {G : Hp}, RowsAt G as ((Sg.coded n).map Sg.zs) → Paired (fun a (r : List Nat) => G a = some (.lst ((Sg.zs r).map V.int))) as (Sg.coded n) := fun {G} h => paired_unmap (R := fun a (r : List Int) => G a = some (.lst (r.map V.int))) (f := Sg.zs) h
      refine ⟨_, rfl, tb2, fun H3 eN tb3 => ⟨S, as.map V.ref, keyP (as.zip (Sg.coded n)), rfl, SqL.of (eN _ _ hS2 (fun _ z => by cases z)), fun d hd d' hd' => ?_, .inl fun d hd => ?_, fun y hy => ?_, fun y hy H4 e4 => ?_, fun p H4 np e4 np4 => ?_⟩⟩
      · obtain ⟨v, _, rfl⟩ := List.mem_map.mp hd
        obtain ⟨v', _, rfl⟩ := List.mem_map.mp hd'
        obtain ⟨l, e⟩ := keyP_is (as.zip (Sg.coded n)) v
        obtain ⟨l', e'⟩ := keyP_is (as.zip (Sg.coded n)) v'
        rw [e, e']
        exact alike_dat l l'
      · obtain ⟨v, _, rfl⟩ := List.mem_map.mp hd
        obtain ⟨l, e⟩ := keyP_is (as.zip (Sg.coded n)) v
        exact ⟨_, _, e⟩
      · obtain ⟨l, e⟩ := keyP_is (as.zip (Sg.coded n)) y
        rw [e]
        exact dat_depth l
      · obtain ⟨a, ha, rfl⟩ := List.mem_map.mp hy
        obtain ⟨i, hi, hia⟩ := List.mem_iff_getElem.mp ha
        obtain ⟨r, hr, hh⟩ := paired_get (hpz (rows_N eN hR)) (i := i) (a := a) (by rw [List.getElem?_eq_getElem hi, hia])
        have lk : keyP (as.zip (Sg.coded n)) (.ref a) = Sg.dat r := by
          show Sg.dat (((as.zip (Sg.coded n)).lookup a).getD []) = _
          have hm : (a, r) ∈ as.zip (Sg.coded n) := List.mem_iff_getElem?.mpr ⟨i, List.getElem?_zip_eq_some.mpr ⟨by rw [List.getElem?_eq_getElem hi, hia], hr⟩⟩
          rw [lookup_zip nd (a, r) hm]
          rfl
        rw [lk]
        have ln : ((Sg.zs r).map V.int).length = r.length := by unfold Sg.zs; rw [List.length_map, List.length_map]
        refine (eu_tup (ea_cons (ev_is (ev_len (ev_var (i := 4) rfl) (SqL.of (e4 _ _ hh))) (by rw [ln])) (ea_cons (ev_var (i := 4) rfl) ea_nil)) (Nat.le_of_ble_eq_true rfl)) H4 (Ex.refl _) _ fun t H5 nt e5 ht => ⟨e5, ?_⟩
        have di : DpAll K H5 ((Sg.zs r).map V.int) (r.map fun (i : Nat) => PyData.int (i : Int)) := by
          have := dpAll_ints (K := K) (H := H5) (Sg.zs r)
          rw [zs_ints] at this
          exact this
        exact .tup (SqT.of ht) (.cons (.int _) (.cons (.lst (SqL.of (e5 _ _ (e4 _ _ hh))) di) .nil))
      · have eN2 : LamX.ExtN H H3 := fun b o h nb => eN _ _ (e2 _ _ h) nb
        rw [ms]
        have e5 : Ex H3 (upd H4 p (.lst (as'.map V.ref))) := Ex.mut e4 np
        refine k p as' _ (fun b o h nb => ⟨fun z => ?_, fun z => ?_⟩) (fun z => ?_) nd' (fun b o h nb => e5 _ _ (eN2 b o h nb)) (LamX.Tabs.ext tb3 e5) upd_same ?_
        · rw [← z, eN2 b o h nb] at np
          cases np
        · rw [hn b (sub' b z)] at h
          cases h
        · obtain ⟨i, hi, hia⟩ := List.mem_iff_getElem.mp (sub' p z)
          obtain ⟨r, hr, hh⟩ := paired_get (rows_N eN hR) (i := i) (a := p) (by rw [List.getElem?_eq_getElem hi, hia])
          rw [np] at hh
          cases hh
        · have hR3 := (rows_N eN hR)
          have pr := pr' _ (hpz (G := upd H4 p (.lst (as'.map V.ref))) (hR3.ex e5))
          rw [show (Sg.coded n).mergeSort Sg.leP = Sg.picks n from Sg.sorted_coded n] at pr
          exact paired_remap (R := fun a (r : List Int) => upd H4 p (.lst (as'.map V.ref)) a = some (.lst (r.map V.int))) (f := Sg.zs) pr
-- DEF book

/-- the first pick without right signs -/
def bare (w : Nat) (rows : List (List Int)) (m : Nat) : Option (List Nat) := (Sg.picks m).find? fun ns => (Sg.first w (rowsOf rows ns)).isNone
def entry (w : Nat) (rows : List (List Int)) (ns : List Nat) : List Nat × List Int := (ns, (Sg.first w (rowsOf rows ns)).getD [])
/-- a pick and its signs, new ones -/
def EntAt (H0 : Hp) (D : Addr) (H : Hp) (t : Addr) (e : List Nat × List Int) : Prop := ∃ a b, H t = some (.tup [.ref a, .ref b]) ∧ H a = some (.lst ((Sg.zs e.1).map V.int)) ∧ H b = some (.lst (e.2.map V.int)) ∧ H0 a = none ∧ H0 b = none ∧ t ≠ D ∧ a ≠ D ∧ b ≠ D
theorem EntAt.stay {H0 : Hp} {D : Addr} {G G' : Hp} {t : Addr} {e : List Nat × List Int} (h : EntAt H0 D G t e) (k : ∀ b o, b ≠ D → G b = some o → G' b = some o) : EntAt H0 D G' t e := by
  obtain ⟨a, b, h1, h2, h3, h4, h5, h6, h7, h8⟩ := h
  exact ⟨a, b, k _ _ h6 h1, k _ _ h7 h2, k _ _ h8 h3, h4, h5, h6, h7, h8⟩
structure BookAt (H0 : Hp) (D : Addr) (H : Hp) (ts : List Addr) (es : List (List Nat × List Int)) : Prop where
  d : H D = some (.lst (ts.map V.ref))
  n : H0 D = none
  e : Paired (EntAt H0 D H) ts es
theorem BookAt.ex {H0 H H' : Hp} {D : Addr} {ts : List Addr} {es : List (List Nat × List Int)} (h : BookAt H0 D H ts es) (e : Ex H H') : BookAt H0 D H' ts es := ⟨e _ _ h.d, h.n, paired_imp (fun _ _ r => r.stay fun b o _ q => e b o q) h.e⟩
theorem pick_facts {m i : Nat} {ns : List Nat} (h : (Sg.picks m)[i]? = some ns) (h8 : m ≤ 8) : ns ≠ [] ∧ ns.Pairwise (· < ·) ∧ (∀ x ∈ ns, x < m) ∧ ns.length ≤ 8 := by
  obtain ⟨h0, h1, h2⟩ := Sg.mem_picks.mp (List.mem_of_getElem? h)
  have hn : ns.Nodup := List.Pairwise.imp (fun h => Nat.ne_of_lt h) h1
  have h3 : ns.length ≤ (List.range m).length := List.Nodup.length_le_of_subset hn fun x hx => List.mem_range.mpr (h2 x hx)
  rw [List.length_range] at h3
  exact ⟨h0, h1, h2, by omega⟩
theorem sign_none {H0 H : Hp} {v : V} {o : Option (List Int)} (h : SignAt H0 H v o) : decide (v = .non) = o.isNone := by
  cases o with
  | none =>
    have h : v = .non := h
    rw [h]
    rfl
  | some s =>
    obtain ⟨p, rfl, _⟩ := h
    rfl
theorem picks_len (m : Nat) (h8 : m ≤ 8) : (Sg.picks m).length ≤ 2048 := Nat.le_trans (pk_len m m) (Nat.le_trans (Nat.mul_le_mul h8 (Nat.pow_le_pow_right (by decide) h8)) (by decide))

def sp_book (K : PySem.W.Frag) (C : Addr) : Sp := fun vs H Q E => ∃ (p : Addr) (as : List Addr) (rows : List (List Int)) (m w : Nat), vs = [.ref p] ∧ TabOk H p as rows m w ∧ (∀ r ∈ rows, ∀ y ∈ r, Bd 100 y) ∧
  (∀ ns, bare w rows m = some ns → RaiseNW C H (Sg.zs ns) E) ∧ (bare w rows m = none → ∀ D ts H', Ex H H' → BookAt H D H' ts ((Sg.picks m).map (entry w rows)) → Q (.ref D) H')

theorem ok_book (T : Txt K mg) : FnOk P w K mg base (L2.CX P w) 5 T.f_book T.fd_book ["table"] (sp_book K T.f_NotWhole) := by
  refine Fun.okX T.F_book sc_book (fun vs H Q E h => ?_) (fun cdv A outer s H vs Q E hr h => ?_)
  · obtain ⟨_, _, _, _, _, rfl, _⟩ := h; rfl
  · refine ⟨_, (pss_cons (ps_expr (pe_call (ok_check_table T) hr (by rfl) T.g_check_table T.k_check_table T.b_check_table .nil pass0 (pa_cons (pv 0) pa_nil)))
      (pss_cons (ps_set (i := 1) sc_book.nd rfl (by first | exact Or.inl rfl | exact Or.inr rfl) (pe_lst pa_nil))
      (pss_cons (ps_for (passes_of rfl) rfl (pi_list (pe_call (ok_picks T) (hr.mono (by decide)) (by rfl) T.g_picks T.k_picks T.b_picks .nil pass0 (pa_cons (pe_callB (id := "len") (r := rLenS K) call_len_seq (by rfl) T.n_len PySem.boot_len (pa_cons (pv 0) pa_nil)) pa_nil))) (pg_name (i := 2) sc_book.nd rfl (by first | exact Or.inl rfl | exact Or.inr rfl))
        (pss_cons (ps_set (i := 3) sc_book.nd rfl (by first | exact Or.inl rfl | exact Or.inr rfl) (pe_call (ok_first_signs T) (hr.mono (by decide)) (by rfl) T.g_first_signs T.k_first_signs T.b_first_signs .nil pass0 (pa_cons (pv 0) (pa_cons (pv 2) pa_nil))))
          (pss_cons (ps_if (pt_cmpR op_isN (pv 3) pe_non (nomark _))
            (pss_one (ps_raise rfl (takes_of rfl rfl rfl rfl) (pmk_ownA T.own_NotWhole T.i_NotWhole T.ty_NotWhole (ok_init_NotWhole T) (hr.mono (by decide)) T.b_init_NotWhole pass0 (by rfl) T.g_NotWhole (pa_cons (pv 2) pa_nil))))
            pss_nil)
          (pss_one (ps_expr (pe_bm PySem.F.plainAttrs_list PySem.F.slot_list_append PySem.F.type_list_append mt_append (pv 1) (pa_cons (pe_tup (pa_cons (pv 2) (pa_cons (pv 3) pa_nil))) pa_nil)))))))
      (pss_one (ps_ret (pv 1)))))), ?_⟩
    obtain ⟨p, as, rows, m, w, rfl, hT, hb, kE, kQ⟩ := h
    have hd := hT.b
    refine ⟨_, rfl, p, as, rows, m, w, rfl, hT, fun H1 e1 => ?_⟩
    refine q_asgL (el_lst ea_nil (Nat.zero_le _)) fun D H2 nD e2 hD => ?_
    refine (ev_is (ev_len (σ := [some (.ref p), some (.ref D), none, none]) (ev_var (i := 0) rfl) (SqL.of ((e1.trans e2) _ _ hT.tab.1))) (by rw [List.length_map, hT.al])) H2 (Ex.refl _) _ fun H3 e3 => ?_
    refine ⟨m, rfl, by omega, fun PL bs H4 nPL nbs ndb PLb e4 hPL hB => ?_⟩
    have e14 := e2.trans (e3.trans e4)
    have e04 := e1.trans e14
    have nD0 := fresh_back e1 nD
    have PLD : PL ≠ D := fun z => by
      rw [z, e3 _ _ hD] at nPL
      cases nPL
    refine ⟨PL, rfl, ⟨_, SqL.of hPL⟩, for_list (K := K) (a := PL) (xs := bs.map V.ref) (fun i σ' H' => ∃ (y2 y3 : Option V) (ts : List Addr), σ' = [some (.ref p), some (.ref D), y2, y3] ∧ Ex H H' ∧ (∀ b o, b ≠ D → H4 b = some o → H' b = some o) ∧ H' D = some (.lst (ts.map V.ref)) ∧ Paired (EntAt H D H') ts (((Sg.picks m).take i).map (entry w rows)) ∧ ∀ ns ∈ (Sg.picks m).take i, (Sg.first w (rowsOf rows ns)).isNone = false)
      ⟨_, _, [], rfl, e04, fun b o _ h => h, (e3.trans e4) _ _ hD, .nil, fun z hz => nomatch hz⟩ (fun i σ' H' _ ⟨_, _, _, _, _, e, _⟩ => SqL.of (e _ _ PLD hPL)) (fun i x σ' H5 hx hP => ?_) (fun σ' H5 hP => ?_)⟩
    rotate_left
    · obtain ⟨y2, y3, ts, rfl, e5, _, hD5, hE, hno⟩ := hP
      have bl : (bs.map V.ref).length = (Sg.picks m).length := by rw [List.length_map, Paired.length hB, List.length_map]
      rw [bl, List.take_length] at hE hno
      dsimp only
      refine s_ret (v := .ref D) (ev_var (i := 1) rfl) fun H6 e6 => ?_
      exact kQ (Ls.find_no hno) D ts H6 (e5.trans e6) (BookAt.ex ⟨hD5, nD0, hE⟩ e6)
    obtain ⟨y2, y3, ts, rfl, e5, e45, hD5, hE, hno⟩ := hP
    rw [List.getElem?_map] at hx
    obtain ⟨b, hb1, rfl⟩ := Option.map_eq_some_iff.mp hx
    obtain ⟨zr, hzr, hbz⟩ := paired_get hB hb1
    rw [List.getElem?_map] at hzr
    obtain ⟨ns, hns, rfl⟩ := Option.map_eq_some_iff.mp hzr
    obtain ⟨ns0, nsu, nsm, ns8⟩ := pick_facts hns (by omega)
    have bD : b ≠ D := fun z => by
      have := nbs b (List.mem_of_getElem? hb1)
      rw [z, e3 _ _ hD] at this
      cases this
    have nb0 : H b = none := fresh_back (e1.trans (e2.trans e3)) (nbs b (List.mem_of_getElem? hb1))
    have hbz5 := e45 _ _ bD hbz
    have hT5 := hT.ex e5
    refine ⟨_, rfl, _, rfl, p, b, as, rows, m, w, ns, rfl, hT5, hb, hbz5, ns0, ns8, nsm, fun v H6 e6 hv => ?_⟩
    have hvn := sign_none hv
    dsimp only
    refine q_when (σ := [some (.ref p), some (.ref D), some (.ref b), some v]) (b := (Sg.first w (rowsOf rows ns)).isNone) (et_is (et_test (ev_op (ev_var (i := 3) rfl) ev_c (fun H11 e11 Q11 q11 => ⟨rfl, q11 H11 (Ex.refl _)⟩))) hvn) (fun z H7 e7 => ?_) (fun z H7 e7 => ?_)
    · refine ⟨_, rfl, nw_made T.own_NotWhole T.no_NotWhole ((e6.trans e7) _ _ hbz5) (fun z => ns0 (List.map_eq_nil_iff.mp z)) (by unfold Sg.zs; rw [List.length_map]; omega) (fun y hy => ?_) (RaiseNW.ex (kE ns (Ls.find_at (i := i) hno hns z)) (e5.trans (e6.trans e7)))⟩
      unfold Sg.zs at hy
      obtain ⟨j, hj, rfl⟩ := List.mem_map.mp hy
      have := nsm j hj
      exact log_nat (by omega)
    have e67 := e6.trans e7
    cases ho : Sg.first w (rowsOf rows ns) with
    | none =>
      rw [ho] at z
      cases z
    | some sg =>
    rw [ho] at hv
    obtain ⟨sp, rfl, hsp, nsp⟩ := hv
    have spD : sp ≠ D := fun z => by
      rw [z, hD5] at nsp
      cases nsp
    have tl : ts.length ≤ 2048 := by
      rw [Paired.length hE, List.length_map, List.length_take]
      have := picks_len m (by omega)
      omega
    refine s_appU (e67 _ _ hD5) (ev_var (i := 1) rfl) (eu_tup (ea_cons (ev_var (i := 2) rfl) (ea_cons (ev_var (i := 3) rfl) ea_nil)) (Nat.le_of_ble_eq_true rfl)) (by rw [List.length_map]; omega) fun t H8 nt e8 ht => ⟨_, _, ts ++ [t], rfl, Ex.mut (e5.trans (e67.trans e8)) nD0, fun b' o nb h => by rw [upd_ne nb]; exact (e67.trans e8) _ _ (e45 _ _ nb h), ?_, ?_, ?_⟩
    · rw [upd_same, List.map_append]
      rfl
    · have tD : t ≠ D := fun z => by
        rw [z, e67 _ _ hD5] at nt
        cases nt
      have stay : ∀ b' o, b' ≠ D → H5 b' = some o → upd H8 D (.lst (ts.map V.ref ++ [.ref t])) b' = some o := fun b' o nb h => by rw [upd_ne nb]; exact (e67.trans e8) _ _ h
      rw [take_snoc hns, List.map_append]
      refine paired_snoc (paired_imp (fun _ _ r => r.stay stay) hE) ?_
      refine ⟨b, sp, by rw [upd_ne tD]; exact ht, stay _ _ bD hbz5, ?_, nb0, fresh_back e5 nsp, tD, bD, spD⟩
      rw [upd_ne spD]
      show H8 sp = some (HO.lst (((Sg.first w (rowsOf rows ns)).getD []).map V.int))
      rw [ho]
      exact (e7.trans e8) _ _ hsp
    · exact Ls.take_more hno hns (by rw [ho]; rfl)
-- DEF is_unimodular

def sp_is_unimodular (K : PySem.W.Frag) : Sp := fun vs H Q _ => ∃ (p : Addr) (as : List Addr) (rows : List (List Int)) (m w : Nat), vs = [.ref p] ∧ TabOk H p as rows m w ∧ (∀ r ∈ rows, ∀ y ∈ r, Bd 100 y) ∧ ∀ H', Ex H H' → Q (.bl (bare w rows m).isNone) H'

theorem ok_is_unimodular (T : Txt K mg) : FnOk P w K mg base CX0 5 T.f_is_unimodular T.fd_is_unimodular ["table"] (sp_is_unimodular K) := by
  refine Fun.ok T.F_is_unimodular sc_is_unimodular (fun vs H Q E h => ?_) (fun cdv A outer s H vs Q E hr h => ?_)
  · obtain ⟨_, _, _, _, _, rfl, _⟩ := h; rfl
  · refine ⟨_, (pss_cons (ps_expr (pe_call (ok_check_table T) hr (by rfl) T.g_check_table T.k_check_table T.b_check_table .nil pass0 (pa_cons (pv 0) pa_nil)))
      (pss_cons (ps_for PassesOwn.never rfl (pi_list (pe_call (ok_picks T) (hr.mono (by decide)) (by rfl) T.g_picks T.k_picks T.b_picks .nil pass0 (pa_cons (pe_callB (id := "len") (r := rLenS K) call_len_seq (by rfl) T.n_len PySem.boot_len (pa_cons (pv 0) pa_nil)) pa_nil))) (pg_name (i := 1) sc_is_unimodular.nd rfl (by first | exact Or.inl rfl | exact Or.inr rfl))
        (pss_one (ps_if (pt_cmpR op_isN (pe_call (ok_first_signs T) (hr.mono (by decide)) (by rfl) T.g_first_signs T.k_first_signs T.b_first_signs .nil pass0 (pa_cons (pv 0) (pa_cons (pv 1) pa_nil))) pe_non (nomark _))
            (pss_one (ps_ret pe_bl))
            pss_nil)))
      (pss_one (ps_ret pe_bl)))), ?_⟩
    obtain ⟨p, as, rows, m, w, rfl, hT, hb, k⟩ := h
    have hd := hT.b
    refine ⟨_, rfl, p, as, rows, m, w, rfl, hT, fun H1 e1 => ?_⟩
    refine (ev_is (ev_len (σ := [some (.ref p), none]) (ev_var (i := 0) rfl) (SqL.of (e1 _ _ hT.tab.1))) (by rw [List.length_map, hT.al])) H1 (Ex.refl _) _ fun H3 e3 => ?_
    refine ⟨m, rfl, by omega, fun PL bs H4 nPL nbs ndb PLb e4 hPL hB => ?_⟩
    have e04 := e1.trans (e3.trans e4)
    refine ⟨PL, rfl, ⟨_, SqL.of hPL⟩, for_list (K := K) (a := PL) (xs := bs.map V.ref) (fun i σ' H' => ∃ (y1 : Option V), σ' = [some (.ref p), y1] ∧ Ex H4 H' ∧ ∀ ns ∈ (Sg.picks m).take i, (Sg.first w (rowsOf rows ns)).isNone = false)
      ⟨_, rfl, Ex.refl _, fun z hz => nomatch hz⟩ (fun i σ' H' _ ⟨_, _, e, _⟩ => SqL.of (e _ _ hPL)) (fun i x σ' H5 hx hP => ?_) (fun σ' H5 hP => ?_)⟩
    rotate_left
    · obtain ⟨y1, rfl, e5, hno⟩ := hP
      have bl : (bs.map V.ref).length = (Sg.picks m).length := by rw [List.length_map, Paired.length hB, List.length_map]
      rw [bl, List.take_length] at hno
      dsimp only
      refine s_ret (v := .bl true) ev_c fun H6 e6 => ?_
      have hk := k H6 (e04.trans (e5.trans e6))
      have hn : bare w rows m = none := Ls.find_no hno
      rw [hn] at hk
      exact hk
    obtain ⟨y1, rfl, e5, hno⟩ := hP
    rw [List.getElem?_map] at hx
    obtain ⟨b, hb1, rfl⟩ := Option.map_eq_some_iff.mp hx
    obtain ⟨zr, hzr, hbz⟩ := paired_get hB hb1
    rw [List.getElem?_map] at hzr
    obtain ⟨ns, hns, rfl⟩ := Option.map_eq_some_iff.mp hzr
    obtain ⟨ns0, nsu, nsm, ns8⟩ := pick_facts hns (by omega)
    refine ⟨_, rfl, _, rfl, p, b, as, rows, m, w, ns, rfl, hT.ex (e04.trans e5), hb, e5 _ _ hbz, ns0, ns8, nsm, fun v H6 e6 hv => ?_⟩
    refine ⟨rfl, (Sg.first w (rowsOf rows ns)).isNone, by rw [sign_none hv], ?_⟩
    cases ho : (Sg.first w (rowsOf rows ns)).isNone with
    | true =>
      refine iteT ?_
      refine s_ret (v := .bl false) ev_c fun H7 e7 => ?_
      have hk := k H7 (e04.trans (e5.trans (e6.trans e7)))
      have hn : bare w rows m = some ns := Ls.find_at (i := i) hno hns ho
      rw [hn] at hk
      exact hk
    | false => exact iteF ⟨_, rfl, e5.trans e6, Ls.take_more hno hns ho⟩
-- DEF _law_due

def word (o : Option (List Nat)) : Str := if o.isNone then "book" else "bare"
def entD (e : List Nat × List Int) : PyData := .tuple [.list ((Sg.zs e.1).map .int), .list (e.2.map .int)]
def bookD (es : List (List Nat × List Int)) : PyData := .list (es.map entD)
def dueD (w : Nat) (rows : List (List Int)) (m : Nat) : PyData := match bare w rows m with
  | none => .tuple [.str "book", bookD ((Sg.picks m).map (entry w rows))]
  | some ns => .tuple [.str "bare", .list ((Sg.zs ns).map .int)]
theorem ent_dp {K : PySem.W.Frag} {H0 H : Hp} {D : Addr} : ∀ {ts : List Addr} {es : List (List Nat × List Int)}, Paired (EntAt H0 D H) ts es → DpAll K H (ts.map V.ref) (es.map entD)
  | _, _, .nil => .nil
  | _, _, .cons ⟨a, b, h1, h2, h3, _⟩ t => .cons (.tup (SqT.of h1) (.cons (.lst (SqL.of h2) (dpAll_ints _)) (.cons (.lst (SqL.of h3) (dpAll_ints _)) .nil))) (ent_dp t)
theorem tabs_but {T : List (Addr × Str)} {H H' : Hp} {D : Addr} {xs : List V} (t : LamX.Tabs T H) (hD : H D = some (.lst xs)) (e : ∀ b o, b ≠ D → H b = some o → H' b = some o) : LamX.Tabs T H' := fun p hp => by
  obtain ⟨ps, h1, h2, h3⟩ := t p hp
  have np : p.1 ≠ D := fun z => by
    rw [z, hD] at h1
    cases h1
  refine ⟨ps, e _ _ np h1, h2, fun pos cv hc => ?_⟩
  obtain ⟨c, e1, e2⟩ := h3 pos cv hc
  have nc : c ≠ D := fun z => by
    rw [z, hD] at e2
    cases e2
  exact ⟨c, e1, e _ _ nc e2⟩

def sp__law_due (K : PySem.W.Frag) (P : Addr) : Sp := fun vs H Q _ => ∃ (p : Addr) (as : List Addr) (rows : List (List Int)) (m w : Nat), vs = [.ref p] ∧ TabOk H p as rows m w ∧ (∀ r ∈ rows, ∀ y ∈ r, Bd 100 y) ∧ LamX.Tabs [(P, lamQ)] H ∧
  ∀ t v H', LamX.ExtN H H' → LamX.Tabs [(P, lamQ)] H' → H' t = some (.tup [.str (word (bare w rows m)), v]) → Dp K H' (.ref t) (dueD w rows m) → Q (.ref t) H'

theorem ok__law_due (T : Txt K mg) (TB : TabB base mg T.c_law T.P_law) : FnOk P w K mg base CX0 5 T.f__law_due T.fd__law_due ["_law_table_here"] (sp__law_due K T.P_law) := by
  refine Fun.ok T.F__law_due sc__law_due (fun vs H Q E h => ?_) (fun cdv A outer s H vs Q E hr h => ?_)
  · obtain ⟨_, _, _, _, _, rfl, _⟩ := h; rfl
  · refine ⟨_, (pss_cons (ps_set (i := 1) sc__law_due.nd rfl (by first | exact Or.inl rfl | exact Or.inr rfl) (pe_lst pa_nil))
      (pss_cons (ps_for PassesOwn.never rfl (pi_list (pe_call (ok__law_picks T TB) hr (by rfl) T.g__law_picks T.k__law_picks T.b__law_picks .nil pass0 (pa_cons (pe_callB (id := "len") (r := rLenS K) call_len_seq (by rfl) T.n_len PySem.boot_len (pa_cons (pv 0) pa_nil)) pa_nil))) (pg_name (i := 2) sc__law_due.nd rfl (by first | exact Or.inl rfl | exact Or.inr rfl))
        (pss_cons (ps_set (i := 3) sc__law_due.nd rfl (by first | exact Or.inl rfl | exact Or.inr rfl) (pe_call (ok__law_first_signs T) (hr.mono (by decide)) (by rfl) T.g__law_first_signs T.k__law_first_signs T.b__law_first_signs .nil pass0 (pa_cons (pv 0) (pa_cons (pv 2) pa_nil))))
          (pss_cons (ps_if (pt_cmpR op_isN (pv 3) pe_non (nomark _))
            (pss_one (ps_ret (pe_tup (pa_cons pe_str (pa_cons (pv 2) pa_nil)))))
            pss_nil)
          (pss_one (ps_expr (pe_bm PySem.F.plainAttrs_list PySem.F.slot_list_append PySem.F.type_list_append mt_append (pv 1) (pa_cons (pe_tup (pa_cons (pv 2) (pa_cons (pv 3) pa_nil))) pa_nil)))))))
      (pss_one (ps_ret (pe_tup (pa_cons pe_str (pa_cons (pv 1) pa_nil))))))), ?_⟩
    obtain ⟨p, as, rows, m, w, rfl, hT, hb, hTb, k⟩ := h
    have hd := hT.b
    refine q_asgL (el_lst ea_nil (Nat.zero_le _)) fun D H2 nD e2 hD => ?_
    refine (ev_is (ev_len (σ := [some (.ref p), some (.ref D), none, none]) (ev_var (i := 0) rfl) (SqL.of (e2 _ _ hT.tab.1))) (by rw [List.length_map, hT.al])) H2 (Ex.refl _) _ fun H3 e3 => ?_
    refine ⟨m, rfl, hd.1, by omega, LamX.Tabs.ext hTb (e2.trans e3), fun PL bs H4 nw _ _ eN tb4 hPL hB => ?_⟩
    have hD3 := e3 _ _ hD
    have hD4 := eN _ _ hD3 (fun _ z => by cases z)
    obtain ⟨DPL, Dbs⟩ := nw _ _ hD3 (fun _ z => by cases z)
    have eN0 : LamX.ExtN H H4 := fun b o h nb => eN _ _ ((e2.trans e3) _ _ h) nb
    have hT4 : TabOk H4 p as rows m w := ⟨⟨eN0 _ _ hT.tab.1 (fun _ z => by cases z), rows_N eN0 hT.tab.2⟩, hT.m_, hT.w_, hT.b⟩
    have pD : p ≠ D := fun z => by rw [← z, hT.tab.1] at nD; cases nD
    have rD : ∀ a ∈ as, a ≠ D := fun a ha z => by
      obtain ⟨i, hi, hia⟩ := List.mem_iff_getElem.mp ha
      obtain ⟨r, _, hr⟩ := paired_get hT.tab.2 (i := i) (a := a) (by rw [List.getElem?_eq_getElem hi, hia])
      rw [z, nD] at hr
      cases hr
    refine ⟨PL, rfl, ⟨_, SqL.of hPL⟩, for_list (K := K) (a := PL) (xs := bs.map V.ref) (fun i σ' H' => ∃ (y2 y3 : Option V) (ts : List Addr), σ' = [some (.ref p), some (.ref D), y2, y3] ∧ (∀ b o, b ≠ D → H4 b = some o → H' b = some o) ∧ H' D = some (.lst (ts.map V.ref)) ∧ Paired (EntAt (fun _ => none) D H') ts (((Sg.picks m).take i).map (entry w rows)) ∧ ∀ ns ∈ (Sg.picks m).take i, (Sg.first w (rowsOf rows ns)).isNone = false)
      ⟨_, _, [], rfl, fun b o _ h => h, hD4, .nil, fun z hz => nomatch hz⟩ (fun i σ' H' _ ⟨_, _, _, _, e, _⟩ => SqL.of (e _ _ DPL.symm hPL)) (fun i x σ' H5 hx hP => ?_) (fun σ' H5 hP => ?_)⟩
    rotate_left
    · obtain ⟨y2, y3, ts, rfl, e45, hD5, hE, hno⟩ := hP
      have bl : (bs.map V.ref).length = (Sg.picks m).length := by rw [List.length_map, Paired.length hB, List.length_map]
      rw [bl, List.take_length] at hE hno
      dsimp only
      have hn : bare w rows m = none := Ls.find_no hno
      refine s_retU (eu_tup (ea_cons (x := .str "book") ev_c (ea_cons (ev_var (i := 1) rfl) ea_nil)) (Nat.le_of_ble_eq_true rfl)) fun t H6 nt e6 ht => k t (.ref D) H6 (fun b o h nb => e6 _ _ (e45 _ _ (fun z => by rw [z, nD] at h; cases h) (eN0 _ _ h nb))) (LamX.Tabs.ext (tabs_but tb4 hD4 e45) e6) ?_ ?_
      · rw [hn]
        exact ht
      · unfold dueD
        rw [hn]
        exact .tup (SqT.of ht) (.cons (.str _) (.cons (.lst (SqL.of (e6 _ _ hD5)) (ent_dp (paired_imp (fun _ _ r => r.stay fun b o _ q => e6 b o q) hE))) .nil))
    obtain ⟨y2, y3, ts, rfl, e45, hD5, hE, hno⟩ := hP
    rw [List.getElem?_map] at hx
    obtain ⟨b, hb1, rfl⟩ := Option.map_eq_some_iff.mp hx
    obtain ⟨zr, hzr, hbz⟩ := paired_get hB hb1
    rw [List.getElem?_map] at hzr
    obtain ⟨ns, hns, rfl⟩ := Option.map_eq_some_iff.mp hzr
    obtain ⟨ns0, nsu, nsm, ns8⟩ := pick_facts hns (by omega)
    have bD : b ≠ D := fun z => Dbs (by rw [← z]; exact List.mem_of_getElem? hb1)
    have hbz5 := e45 _ _ bD hbz
    have hT5 : TabOk H5 p as rows m w := ⟨⟨e45 _ _ pD hT4.tab.1, rows_but hT4.tab.2 fun a ha o g => e45 _ _ (rD a ha) g⟩, hT.m_, hT.w_, hT.b⟩
    refine ⟨_, rfl, _, rfl, p, b, as, rows, m, w, ns, rfl, hT5, hb, hbz5, ns8, nsm, fun v H6 e6 hv => ?_⟩
    have hvn := sign_none hv
    dsimp only
    refine q_when (σ := [some (.ref p), some (.ref D), some (.ref b), some v]) (b := (Sg.first w (rowsOf rows ns)).isNone) (et_is (et_test (ev_op (ev_var (i := 3) rfl) ev_c (fun H11 e11 Q11 q11 => ⟨rfl, q11 H11 (Ex.refl _)⟩))) hvn) (fun z H7 e7 => ?_) (fun z H7 e7 => ?_)
    · have hn : bare w rows m = some ns := Ls.find_at (i := i) hno hns z
      have e67 := e6.trans e7
      refine s_retU (eu_tup (ea_cons (x := .str "bare") ev_c (ea_cons (ev_var (i := 2) rfl) ea_nil)) (Nat.le_of_ble_eq_true rfl)) fun t H8 nt e8 ht => k t (.ref b) H8 (fun b' o h nb => (e67.trans e8) _ _ (e45 _ _ (fun z => by rw [z, nD] at h; cases h) (eN0 _ _ h nb))) (LamX.Tabs.ext (tabs_but tb4 hD4 e45) (e67.trans e8)) ?_ ?_
      · rw [hn]
        exact ht
      · unfold dueD
        rw [hn]
        exact .tup (SqT.of ht) (.cons (.str _) (.cons (.lst (SqL.of ((e67.trans e8) _ _ hbz5)) (dpAll_ints _)) .nil))
    have e67 := e6.trans e7
    cases ho : Sg.first w (rowsOf rows ns) with
    | none =>
      rw [ho] at z
      cases z
    | some sg =>
    rw [ho] at hv
    obtain ⟨sp, rfl, hsp, nsp⟩ := hv
    have spD : sp ≠ D := fun z => by
      rw [z, hD5] at nsp
      cases nsp
    have tl : ts.length ≤ 2048 := by
      rw [Paired.length hE, List.length_map, List.length_take]
      have := picks_len m (by omega)
      omega
    refine s_appU (e67 _ _ hD5) (ev_var (i := 1) rfl) (eu_tup (ea_cons (ev_var (i := 2) rfl) (ea_cons (ev_var (i := 3) rfl) ea_nil)) (Nat.le_of_ble_eq_true rfl)) (by rw [List.length_map]; omega) fun t H8 nt e8 ht => ⟨_, _, ts ++ [t], rfl, fun b' o nb h => by rw [upd_ne nb]; exact (e67.trans e8) _ _ (e45 _ _ nb h), ?_, ?_, ?_⟩
    · rw [upd_same, List.map_append]
      rfl
    · have tD : t ≠ D := fun z => by
        rw [z, e67 _ _ hD5] at nt
        cases nt
      have stay : ∀ b' o, b' ≠ D → H5 b' = some o → upd H8 D (.lst (ts.map V.ref ++ [.ref t])) b' = some o := fun b' o nb h => by rw [upd_ne nb]; exact (e67.trans e8) _ _ h
      rw [take_snoc hns, List.map_append]
      refine paired_snoc (paired_imp (fun _ _ r => r.stay stay) hE) ?_
      refine ⟨b, sp, by rw [upd_ne tD]; exact ht, stay _ _ bD hbz5, ?_, rfl, rfl, tD, bD, spD⟩
      rw [upd_ne spD]
      show H8 sp = some (HO.lst (((Sg.first w (rowsOf rows ns)).getD []).map V.int))
      rw [ho]
      exact (e7.trans e8) _ _ hsp
    · exact Ls.take_more hno hns (by rw [ho]; rfl)
-- DEF _law_said
theorem ev_isA {K : PySem.W.Frag} {σ : L2.St} {H : Hp} {ta tb : TE} {a D C dd : Addr} {fs : List (Str × V)} {b : Bool} (ha : Ev ta σ H (.ref a)) (hb : Ev tb σ H (.ref C)) (ec : ExcC K D) (hk : PySem.W.kitOne K (.ref D) (.ref C) = some b) (hd : H dd = some (.xd fs)) :
    Ev (tCB (rIsA K (.ref D) (some dd) a) (tCons ta (tCons tb tNil))) σ H (.bl b) := fun H1 e Q q =>
  ha H1 e _ fun H2 e2 => hb H2 (e.trans e2) _ fun H3 e3 => ⟨D, .ref C, .ref C, b, rfl, ec, rfl, fun u r => r, hk, .inr ⟨dd, fs, rfl, ((e.trans e2).trans e3) _ _ hd⟩, q H3 (e2.trans e3)⟩
theorem ev_xf {σ : L2.St} {H : Hp} {ta : TE} {a C dd : Addr} {fs : List (Str × V)} {f : Str} {v : V} (ha : Ev ta σ H (.ref a)) (hd : H dd = some (.xd fs)) (hl : fs.lookup f = some v) : Ev (tXf a (.ref C) (some dd) C f ta) σ H v := fun H1 e Q q =>
  ha H1 e _ fun H2 e2 => ⟨rfl, rfl, dd, fs, v, rfl, (e.trans e2) _ _ hd, hl, q H2 e2⟩

def SaidAt (H0 H : Hp) (v : V) (w : Nat) (rows : List (List Int)) (m : Nat) : Prop := (bare w rows m = none → ∃ D ts, v = .ref D ∧ BookAt H0 D H ts ((Sg.picks m).map (entry w rows))) ∧ ∀ ns, bare w rows m = some ns → ∃ l, v = .ref l ∧ H l = some (.lst ((Sg.zs ns).map V.int)) ∧ H0 l = none
def sp__law_said (K : PySem.W.Frag) : Sp := fun vs H Q _ => ∃ (p : Addr) (as : List Addr) (rows : List (List Int)) (m w : Nat), vs = [.ref p] ∧ TabOk H p as rows m w ∧ (∀ r ∈ rows, ∀ y ∈ r, Bd 100 y) ∧
  ∀ t v H', Ex H H' → H' t = some (.tup [.str (word (bare w rows m)), v]) → SaidAt H H' v w rows m → Q (.ref t) H'

theorem ok__law_said (T : Txt K mg) : FnOk P w K mg base CX0 6 T.f__law_said T.fd__law_said ["_law_table_here"] (sp__law_said K) := by
  refine Fun.ok T.F__law_said sc__law_said (fun vs H Q E h => ?_) (fun cdv A outer s H vs Q E hr h => ?_)
  · obtain ⟨_, _, _, _, _, rfl, _⟩ := h; rfl
  · refine ⟨_, (pss_cons (ps_set (i := 1) sc__law_said.nd rfl (by first | exact Or.inl rfl | exact Or.inr rfl) (pe_tup (pa_cons pe_str (pa_cons pe_non pa_nil))))
      (pss_cons (ps_try_as (i := 2) rfl rfl sc__law_said.nd rfl rfl ⟨by rfl, by decide, .inl T.g_SignError⟩ LamX.takes0 (fun W pn xe tk _ => (pss_one (ps_set (i := 1) sc__law_said.nd rfl (by first | exact Or.inl rfl | exact Or.inr rfl) (pe_tup (pa_cons pe_str (pa_cons (pe_callS (ok_book T) hr (by rfl) T.g_book T.k_book T.b_book (passAt tk) (pa_cons (pv 0) pa_nil)) pa_nil)))))) (fun a oe cls d pn hz hf => (pss_one (ps_if (PW.pt (pw_and (pt_val (pe_callB (id := "isinstance") (r := rIsA K cls d a) (call_isA hz hf) (by rfl) T.n_isinstance (by decide +kernel) (pa_cons (pv 2) (pa_cons (pe_glob (v := .ref T.f_NotWhole) (by rfl) T.g_NotWhole rfl) pa_nil)))) (pw_and1 (pt_not (pt_val (pe_callB (id := "isinstance") (r := rIsAT K cls d a) (call_isAT hz hf) (by rfl) T.n_isinstance (by decide +kernel) (pa_cons (pv 2) (pa_cons (pe_tup (pa_cons (pe_glob (v := .ref T.f_BadTable) (by rfl) T.g_BadTable rfl) (pa_cons (pe_glob (v := .ref T.f_NoPick) (by rfl) T.g_NoPick rfl) (pa_cons (pe_glob (v := .ref T.f_NotPlain) (by rfl) T.g_NotPlain rfl) pa_nil)))) pa_nil))))))))
            (pss_one (ps_set (i := 1) sc__law_said.nd rfl (by first | exact Or.inl rfl | exact Or.inr rfl) (pe_tup (pa_cons pe_str (pa_cons (pe_xf T.xf_NotWhole T.no_NotWhole hz hf (pv 2)) pa_nil)))))
            pss_nil))))
      (pss_one (ps_ret (pv 1))))), ?_⟩
    obtain ⟨p, as, rows, m, w, rfl, hT, hb, k⟩ := h
    refine q_asgU (eu_tup (ea_cons ev_c (ea_cons ev_c ea_nil)) (Nat.le_of_ble_eq_true rfl)) fun t0 H1 n0 e1 h1 => ?_
    refine ⟨_, rfl, p, as, rows, m, w, rfl, hT.ex e1, hb, fun ns hns => ?_, fun hn D ts H2 e2 hB => ?_⟩
    rotate_left
    · refine ⟨(by show 2 ≤ sizeLine; decide), fun t nt => ?_⟩
      have xt := Ex.new (o := .tup [V.str "book", .ref D]) nt
      refine ⟨_, rfl, k t (.ref D) _ ((e1.trans e2).trans xt) ?_ ⟨fun _ => ⟨D, ts, rfl, xt _ _ hB.d, fresh_back e1 hB.n, paired_imp (fun _ _ r => ?_) hB.e⟩, fun ns hns => by rw [hn] at hns; cases hns⟩⟩
      · rw [hn]
        exact upd_same
      · obtain ⟨a, b, h1, h2, h3, h4, h5, h6⟩ := r
        exact ⟨a, b, xt _ _ h1, xt _ _ h2, xt _ _ h3, fresh_back e1 h4, fresh_back e1 h5, h6⟩
    refine fun d l H' e' hd hl nl => ⟨true, T.exm_NotWhole, fun _ a ha => ?_, fun z => nomatch z⟩
    refine s_when (b := true) (et_is (et_and (et_B (ev_isA (ev_var rfl) ev_c T.ec_NotWhole T.kit_NotWhole_NotWhole hd)) fun _ => et_not (et_B (ev_isAT (ev_var rfl) (eu_tup (ea_cons ev_c (ea_cons ev_c (ea_cons ev_c ea_nil))) (Nat.le_of_ble_eq_true rfl)) T.ec_NotWhole (.cons (.own _) (.cons (.own _) (.cons (.own _) .nil))) (kitAny_cons T.kit_NotWhole_BadTable (fun _ => kitAny_cons T.kit_NotWhole_NoPick (fun _ => kitAny_cons T.kit_NotWhole_NotPlain (fun _ => kitAny_nil) (fun z => nomatch z)) (fun z => nomatch z)) (fun z => nomatch z)) hd))) rfl) (fun _ H2 e2 => ?_) (fun z => nomatch z)
    refine s_asgU (eu_tup (ea_cons (x := .str "bare") ev_c (ea_cons (x := .ref l) (ev_xf (ev_var rfl) (e2 _ _ hd) (by simp [List.lookup])) ea_nil)) (Nat.le_of_ble_eq_true rfl)) fun t H3 nt e3 ht => ⟨_, rfl, k t (.ref l) H3 ((e1.trans e').trans (e2.trans e3)) ?_ ⟨fun z => (by rw [hns] at z; cases z), fun ns2 h2 => ?_⟩⟩
    · rw [hns]
      exact ht
    · rw [hns] at h2
      cases h2
      exact ⟨l, rfl, (e2.trans e3) _ _ hl, fresh_back e1 nl⟩
-- DEF law
theorem dp_rows {K : PySem.W.Frag} {H : Hp} : ∀ {as : List Addr} {rows : List (List Int)}, RowsAt H as rows → DpAll K H (as.map V.ref) (rows.map fun r => PyData.list (r.map PyData.int))
  | _, _, .nil => .nil
  | _, _, .cons h t => .cons (.lst (SqL.of h) (dpAll_ints _)) (dp_rows t)
theorem canLay_rows : ∀ rows : List (List Int), PyData.canLayAll0 (rows.map fun r => PyData.list (r.map PyData.int)) = true
  | [] => rfl
  | r :: rs => by
    show (PyData.canLayAll0 (r.map PyData.int) && PyData.canLayAll0 (rs.map fun r => PyData.list (r.map PyData.int))) = true
    rw [canLay_ints, canLay_rows rs]
    rfl
theorem depth_rows : ∀ rows : List (List Int), PyData.depthAll (rows.map fun r => PyData.list (r.map PyData.int)) ≤ 1
  | [] => Nat.zero_le _
  | r :: rs => by
    show max (PyData.depthAll (r.map PyData.int) + 1) (PyData.depthAll (rs.map fun r => PyData.list (r.map PyData.int))) ≤ 1
    have := depth_rows rs
    rw [depth_ints]
    omega
theorem lc_rowsT {K : PySem.W.Frag} {nn : Nat} {te : TE} {vs : List Nat} {j : Nat} {σ : L2.St} {H : Hp} {Q : VK} {a : Addr} {as0 : List Addr} {rows : List (List Int)} (F : List Int → List Int) (hσ : σ[nn]? = some (some (.ref a))) (ht : Tab H a as0 rows) (hm : rows.length ≤ 1000) (hw : ∀ u, wipe ((wipe σ vs).set j (some u)) vs = wipe σ vs)
    (he : ∀ c r H1, r ∈ rows → H c = some (.lst (r.map V.int)) → Ex H H1 → EvL te ((wipe σ vs).set j (some (.ref c))) H1 ((F r).map V.int))
    (k : ∀ p as H2, H p = none → (∀ a ∈ as, H a = none) → as.Nodup → p ∉ as → Ex H H2 → Tab H2 p as (rows.map F) → Q (.ref p) H2) : tLc (iList K (tVar nn)) (gName j) tYes te vs σ H Q := by
  refine ⟨_, hσ, a, rfl, ⟨_, SqL.of ht.1⟩, fun D hD => ?_⟩
  refine lc_list (K := K) (a := a) (xs := as0.map V.ref) (fun i H' => ∃ as, Ex H H' ∧ H' D = some (.lst (as.map V.ref)) ∧ RowsAt H' as ((rows.take i).map F) ∧ (∀ a ∈ as, H a = none) ∧ as.Nodup ∧ D ∉ as) ⟨[], Ex.new hD, upd_same, .nil, fun a ha => by simp at ha, List.nodup_nil, by simp⟩ (fun i H' _ ⟨_, p1, _⟩ => SqL.of (p1 _ _ ht.1)) (fun i x H' gx p => ?_) (fun H' p => ?_)
  · obtain ⟨as, p1, p2, p3, p4, p5, p6⟩ := p
    rw [List.getElem?_map] at gx
    obtain ⟨c0, hc0, rfl⟩ := Option.map_eq_some_iff.mp gx
    obtain ⟨y, hy, hh⟩ := paired_get ht.2 hc0
    have hi := (List.getElem?_eq_some_iff.mp hy).1
    have el : as.length = i := by rw [Paired.length p3, List.length_map, List.length_take]; omega
    refine ⟨hw _, ?_⟩
    show te _ H' _
    refine he c0 y H' (List.mem_of_getElem? hy) hh p1 H' (Ex.refl _) _ fun r H4 nr e4 hr => ?_
    have nrD : r ≠ D := fun z => by
      rw [z, p2] at nr
      cases nr
    refine ⟨_, e4 _ _ p2, ?_, as ++ [r], Ex.mut (p1.trans e4) hD, ?_, ?_, ?_, ?_, ?_⟩
    · rw [List.length_map, el]
      exact small1000 (by omega)
    · rw [upd_same, List.map_append]
      rfl
    · rw [take_snoc hy, List.map_append]
      refine paired_snoc (rows_but p3 fun b hb o g => ?_) ?_
      · rw [upd_ne (fun z => p6 (by rw [← z]; exact hb))]
        exact e4 _ _ g
      · rw [upd_ne nrD]
        exact hr
    · intro b hb
      rcases List.mem_append.mp hb with h | h
      · exact p4 b h
      · rw [show b = r by simpa using h]
        exact fresh_back p1 nr
    · refine List.nodup_append.mpr ⟨p5, by simp, fun b hb c hc z => ?_⟩
      have : c = r := by simpa using hc
      have hb' : r ∈ as := by rw [← this, ← z]; exact hb
      obtain ⟨x, _, hx'⟩ := paired_mem p3 hb'
      rw [nr] at hx'
      cases hx'
    · intro hb
      rcases List.mem_append.mp hb with h | h
      · exact p6 h
      · exact nrD (by simpa using h : D = r).symm
  · obtain ⟨as, p1, p2, p3, p4, p5, p6⟩ := p
    rw [List.length_map, Paired.length ht.2, List.take_length] at p3
    exact k D as H' hD p4 p5 p6 p1 ⟨p2, p3⟩
theorem cutV_ints (ns : List Int) (lo hi : Option Int) : ∃ zs : List Int, cutV (ns.map V.int) lo hi = zs.map V.int := by
  refine ⟨(ns.drop (HT.sIx (ns.map V.int).length 0 lo)).take (HT.sIx (ns.map V.int).length (ns.map V.int).length hi - HT.sIx (ns.map V.int).length 0 lo), ?_⟩
  unfold cutV
  rw [List.map_take, List.map_drop]
theorem SrcAt.exN {H H' : Hp} {s : Addr} {n : Int} (h : SrcAt H s n) (e : LamX.ExtN H H') : SrcAt H' s n := by
  obtain ⟨p, q, r, h1, h2⟩ := h
  exact ⟨p, q, r, e _ _ h1 (fun _ z => by cases z), h2⟩
theorem tabs_B {T : List (Addr × Str)} {H H' : Hp} {s : Addr} {n : Int} (t : LamX.Tabs T H) (hs : SrcAt H s n) (e : ExB s H H') : LamX.Tabs T H' := fun p hp => by
  obtain ⟨ps, h1, h2, h3⟩ := t p hp
  obtain ⟨_, _, _, h4, _⟩ := hs
  have np : p.1 ≠ s := fun z => by
    rw [z, h4] at h1
    cases h1
  refine ⟨ps, e _ _ np h1, h2, fun pos cv hc => ?_⟩
  obtain ⟨c, e1, e2⟩ := h3 pos cv hc
  have nc : c ≠ s := fun z => by
    rw [z, h4] at e2
    cases e2
  exact ⟨c, e1, e _ _ nc e2⟩

theorem rv_neX {K : PySem.W.Frag} {H : Hp} {v u : V} {d : PyData} (h1 : Dp K H v d) (h2 : Dp K H u d) (sh : SeqAt.shaped d = true) : RV (rNeD K) v u H (.bl false) := fun G e Q k => by
  refine ⟨_, _, Lam1.dpx e h1, Lam1.dpx e h2, sh, sh, ?_⟩
  rw [SeqAt.eqv_refl _ (SeqAt.canLay_of_shaped sh)]
  exact k G (Ex.refl _)
theorem rv_eqX {K : PySem.W.Frag} {H : Hp} {v u : V} {d : PyData} (h1 : Dp K H v d) (h2 : Dp K H u d) (sh : SeqAt.shaped d = true) : RV (rEqD K) v u H (.bl true) := fun G e Q k => by
  refine ⟨_, _, Lam1.dpx e h1, Lam1.dpx e h2, sh, sh, ?_⟩
  rw [SeqAt.eqv_refl _ (SeqAt.canLay_of_shaped sh)]
  exact k G (Ex.refl _)
def tabD (A : List (List Int)) : PyData := .list (A.map fun r => .list (r.map .int))
def signD : Option (List Int) → PyData
  | none => .none
  | some s => .list (s.map .int)
theorem sign_dp {K : PySem.W.Frag} {H0 H : Hp} {v : V} {o : Option (List Int)} (h : SignAt H0 H v o) : Dp K H v (signD o) := by
  cases o with
  | none =>
    have h : v = .non := h
    rw [h]
    exact .non
  | some s =>
    obtain ⟨p, rfl, h1, _⟩ := h
    exact .lst (SqL.of h1) (dpAll_ints _)
theorem shaped_ints (s : List Int) : SeqAt.shaped (.list (s.map .int)) = true := shaped_list (canLay_ints s) (by rw [depth_ints]; decide)
theorem sign_shaped (o : Option (List Int)) : SeqAt.shaped (signD o) = true := by
  cases o with
  | none => rfl
  | some s => exact shaped_ints s
theorem tab_dp {K : PySem.W.Frag} {H : Hp} {p : Addr} {as : List Addr} {A : List (List Int)} (h : Tab H p as A) : Dp K H (.ref p) (tabD A) := .lst (SqL.of h.1) (dp_rows h.2)
def handD (A : List (List Int)) (ns : List Nat) : PyData := .list [tabD A, .list ((Sg.zs ns).map .int)]
theorem hand_shaped (A : List (List Int)) (ns : List Nat) : SeqAt.shaped (handD A ns) = true := by
  have h1 := canLay_rows A
  have h2 := canLay_ints (Sg.zs ns)
  have d1 := depth_rows A
  have d2 := depth_ints (Sg.zs ns)
  refine shaped_list (ds := [tabD A, .list ((Sg.zs ns).map .int)]) ?_ ?_
  · show (PyData.canLayAll0 (A.map fun r => PyData.list (r.map PyData.int)) && (PyData.canLayAll0 ((Sg.zs ns).map PyData.int) && true)) = true
    rw [h1, h2]
    rfl
  · show max (PyData.depthAll (A.map fun r => PyData.list (r.map PyData.int)) + 1) (max (PyData.depthAll ((Sg.zs ns).map PyData.int) + 1) 0) ≤ 60
    omega
theorem ev_neL {K : PySem.W.Frag} {ta tb : TE} {σ : L2.St} {H : Hp} {v : V} {ws : List V} {d : PyData} (ha : Ev ta σ H v) (hb : EvL tb σ H ws) (hd : ∀ q H1, Ex H H1 → H1 q = some (.lst ws) → Dp K H1 v d ∧ Dp K H1 (.ref q) d) (sh : SeqAt.shaped d = true) : Ev (tOp (rNeD K) ta tb) σ H (.bl false) := fun H1 e Q k =>
  ha H1 e _ fun H2 e2 => hb H2 (e.trans e2) _ fun q H3 _ e3 hq => by
    obtain ⟨a, b⟩ := hd q H3 ((e.trans e2).trans e3) hq
    refine ⟨_, _, a, b, sh, sh, ?_⟩
    rw [SeqAt.eqv_refl _ (SeqAt.canLay_of_shaped sh)]
    exact k H3 (e2.trans e3)
theorem ev_neLL {K : PySem.W.Frag} {ta tb : TE} {σ : L2.St} {H : Hp} {vs ws : List V} {d : PyData} (ha : EvL ta σ H vs) (hb : EvL tb σ H ws) (hd : ∀ p q H1, Ex H H1 → H1 p = some (.lst vs) → H1 q = some (.lst ws) → Dp K H1 (.ref p) d ∧ Dp K H1 (.ref q) d) (sh : SeqAt.shaped d = true) : Ev (tOp (rNeD K) ta tb) σ H (.bl false) := fun H1 e Q k =>
  ha H1 e _ fun p H2 _ e2 hp => hb H2 (e.trans e2) _ fun q H3 _ e3 hq => by
    obtain ⟨a, b⟩ := hd p q H3 ((e.trans e2).trans e3) (e3 _ _ hp) hq
    refine ⟨_, _, a, b, sh, sh, ?_⟩
    rw [SeqAt.eqv_refl _ (SeqAt.canLay_of_shaped sh)]
    exact k H3 (e2.trans e3)
/-- readings that tell a table -/
def TabE (te : TE) (σ : L2.St) (H : Hp) (rows : List (List Int)) : Prop := ∀ H1, Ex H H1 → ∀ Q : VK, (∀ p as H2, Ex H1 H2 → Tab H2 p as rows → Q (.ref p) H2) → te σ H1 Q
theorem te_1 {tl : TE} {σ : L2.St} {H : Hp} {r : List Int} (h : EvL tl σ H (r.map V.int)) : TabE (tLst (tCons tl tNil)) σ H [r] := fun H1 e Q k =>
  h H1 e _ fun p H2 _ e2 hp => ⟨(by show 1 ≤ sizeLine; decide), fun d nd => by
    have x3 := Ex.new (o := .lst [V.ref p]) nd
    exact k d [p] _ (e2.trans x3) ⟨upd_same, .cons (x3 _ _ hp) .nil⟩⟩
theorem te_2 {tl tm : TE} {σ : L2.St} {H : Hp} {r r2 : List Int} (h : EvL tl σ H (r.map V.int)) (h2 : EvL tm σ H (r2.map V.int)) : TabE (tLst (tCons tl (tCons tm tNil))) σ H [r, r2] := fun H1 e Q k =>
  h H1 e _ fun p H2 _ e2 hp => h2 H2 (e.trans e2) _ fun q H3 _ e3 hq => ⟨(by show 2 ≤ sizeLine; decide), fun d nd => by
    have x3 := Ex.new (o := .lst [V.ref p, .ref q]) nd
    exact k d [p, q] _ ((e2.trans e3).trans x3) ⟨upd_same, .cons (x3 _ _ (e3 _ _ hp)) (.cons (x3 _ _ hq) .nil)⟩⟩
theorem ev_callT {sp : Sp} {E : XK} {ta tb : TE} {σ : L2.St} {H : Hp} {z : V} {rows : List (List Int)} {xs : List V} (ha : TabE ta σ H rows) (hb : EvL tb σ H xs) (hs : ∀ p q as H1, Ex H H1 → Tab H1 p as rows → H1 q = some (.lst xs) → ∀ Q : VK, (∀ H2, Ex H1 H2 → Q z H2) → sp [.ref p, .ref q] H1 Q E) : Ev (tCall sp [] E (tCons ta (tCons tb tNil))) σ H z := fun H1 e Q k =>
  ha H1 e _ fun p as H2 e2 hp => hb H2 (e.trans e2) _ fun q H3 _ e3 hq => hs p q as H3 ((e.trans e2).trans e3) (hp.ex e3) hq Q fun H4 e4 => k H4 ((e2.trans e3).trans e4)
theorem el_callT {sp : Sp} {E : XK} {ta tb : TE} {σ : L2.St} {H : Hp} {zs : List V} {rows : List (List Int)} {xs : List V} (ha : TabE ta σ H rows) (hb : EvL tb σ H xs) (hs : ∀ p q as H1, Ex H H1 → Tab H1 p as rows → H1 q = some (.lst xs) → ∀ Q : VK, (∀ l H2, H1 l = none → Ex H1 H2 → H2 l = some (.lst zs) → Q (.ref l) H2) → sp [.ref p, .ref q] H1 Q E) : EvL (tCall sp [] E (tCons ta (tCons tb tNil))) σ H zs := fun H1 e Q k =>
  ha H1 e _ fun p as H2 e2 hp => hb H2 (e.trans e2) _ fun q H3 _ e3 hq => hs p q as H3 ((e.trans e2).trans e3) (hp.ex e3) hq Q fun l H4 nl e4 hl => k l H4 (fresh_back (e2.trans e3) nl) ((e2.trans e3).trans e4) hl
theorem ev_eqLL {K : PySem.W.Frag} {ta tb : TE} {σ : L2.St} {H : Hp} {vs : List V} {d : PyData} (ha : EvL ta σ H vs) (hb : EvL tb σ H vs) (hd : ∀ p H1, H1 p = some (.lst vs) → Dp K H1 (.ref p) d) (sh : SeqAt.shaped d = true) : Ev (tOp (rEqD K) ta tb) σ H (.bl true) := fun H1 e Q k =>
  ha H1 e _ fun p H2 _ e2 hp => hb H2 (e.trans e2) _ fun q H3 _ e3 hq => by
    refine ⟨_, _, hd p H3 (e3 _ _ hp), hd q H3 hq, sh, sh, ?_⟩
    rw [SeqAt.eqv_refl _ (SeqAt.canLay_of_shaped sh)]
    exact k H3 (e2.trans e3)
theorem e_lst2 {ta tb : TE} {σ : L2.St} {H : Hp} {Q : VK} (h : ta σ H fun x H1 => tb σ H1 fun y H2 => [x, y].length ≤ sizeLine ∧ ∀ d, H2 d = none → Q (.ref d) (upd H2 d (.lst [x, y]))) : tLst (tCons ta (tCons tb tNil)) σ H Q := h
theorem bd100 {y : Int} (h : y.natAbs ≤ 10 ^ 30) : Bd 100 y := by
  unfold Bd
  exact Nat.lt_of_le_of_lt h (by decide +kernel)
theorem rv_neT {K : PySem.W.Frag} {H : Hp} {p q : Addr} {as bs : List Addr} {rows : List (List Int)} (hp : Tab H p as rows) (hq : Tab H q bs rows) : RV (rNeD K) (.ref p) (.ref q) H (.bl false) := fun H1 e Q k => by
  have sh : SeqAt.shaped (.list (rows.map fun r => PyData.list (r.map PyData.int))) = true := shaped_list (canLay_rows rows) (Nat.le_trans (depth_rows rows) (by decide))
  refine ⟨_, _, .lst (SqL.of (e _ _ hp.1)) (dp_rows (hp.2.ex e)), .lst (SqL.of (e _ _ hq.1)) (dp_rows (hq.2.ex e)), sh, sh, ?_⟩
  rw [SeqAt.eqv_refl _ (SeqAt.canLay_of_shaped sh)]
  exact k H1 (Ex.refl _)

theorem lst_two {H : Hp} {a b z : Addr} {xs zs : List V} {N : Nat} (hx : xs.length ≤ N) (hz : H z = some (.lst zs)) (hl : zs.length ≤ N) (v : V) : ∃ ws, upd (upd H a (.lst (xs ++ [v]))) b (.lst []) z = some (.lst ws) ∧ ws.length ≤ N + 1 := by
  by_cases zb : z = b
  · rw [zb, upd_same]
    exact ⟨_, rfl, Nat.zero_le _⟩
  · rw [upd_ne zb]
    by_cases za : z = a
    · rw [za, upd_same]
      exact ⟨_, rfl, by rw [List.length_append]; show _ + 1 ≤ _; omega⟩
    · rw [upd_ne za]
      exact ⟨_, hz, by omega⟩
theorem ev_neU {K : PySem.W.Frag} {ta tb : TE} {σ : L2.St} {H : Hp} {v : V} {ws : List V} {d : PyData} (hb : EvU ta σ H ws) (ha : Ev tb σ H v) (hd : ∀ q H1, Ex H H1 → H1 q = some (.tup ws) → Dp K H1 (.ref q) d ∧ Dp K H1 v d) (sh : SeqAt.shaped d = true) : Ev (tOp (rNeD K) ta tb) σ H (.bl false) := fun H1 e Q k =>
  hb H1 e _ fun q H2 _ e2 hq => ha H2 (e.trans e2) _ fun H3 e3 => by
    obtain ⟨a, b⟩ := hd q H3 ((e.trans e2).trans e3) (e3 _ _ hq)
    refine ⟨_, _, a, b, sh, sh, ?_⟩
    rw [SeqAt.eqv_refl _ (SeqAt.canLay_of_shaped sh)]
    exact k H3 (e2.trans e3)
theorem rv_eqS {K : PySem.W.Frag} {H : Hp} {x y : Str} {b : Bool} (h : PyData.eqv (.str x) (.str y) = b) (hx : SeqAt.shaped (.str x) = true) (hy : SeqAt.shaped (.str y) = true) : RV (rEqD K) (.str x) (.str y) H (.bl b) := fun G e Q k => ⟨_, _, .str x, .str y, hx, hy, by rw [h]; exact k G (Ex.refl _)⟩
theorem canLay_ents : ∀ es : List (List Nat × List Int), PyData.canLayAll0 (es.map entD) = true
  | [] => rfl
  | e :: es => by
    show ((PyData.canLayAll0 ((Sg.zs e.1).map PyData.int) && (PyData.canLayAll0 (e.2.map PyData.int) && true)) && PyData.canLayAll0 (es.map entD)) = true
    rw [canLay_ints, canLay_ints, canLay_ents es]
    rfl
theorem depth_ents : ∀ es : List (List Nat × List Int), PyData.depthAll (es.map entD) ≤ 2
  | [] => Nat.zero_le _
  | e :: es => by
    have h := depth_ents es
    have h1 := depth_ints (Sg.zs e.1)
    have h2 := depth_ints e.2
    show max (max (PyData.depthAll ((Sg.zs e.1).map PyData.int) + 1) (max (PyData.depthAll (e.2.map PyData.int) + 1) 0) + 1) (PyData.depthAll (es.map entD)) ≤ 2
    omega
theorem due_shaped (w : Nat) (rows : List (List Int)) (m : Nat) : SeqAt.shaped (dueD w rows m) = true := by
  unfold dueD
  cases bare w rows m with
  | none =>
    have h1 := canLay_ents ((Sg.picks m).map (entry w rows))
    have h2 := depth_ents ((Sg.picks m).map (entry w rows))
    unfold SeqAt.shaped bookD
    have e1 : (PyData.tuple [.str "book", .list (((Sg.picks m).map (entry w rows)).map entD)]).canLay0 = true := by
      have es : (PyData.str "book").canLay0 = true := by decide +kernel
      show ((PyData.str "book").canLay0 && (PyData.canLayAll0 (((Sg.picks m).map (entry w rows)).map entD) && true)) = true
      rw [h1, es]
      rfl
    have e2 : (PyData.tuple [.str "book", .list (((Sg.picks m).map (entry w rows)).map entD)]).depth ≤ 10 := by
      show max 0 (max (PyData.depthAll (((Sg.picks m).map (entry w rows)).map entD) + 1) 0) + 1 ≤ 10
      omega
    show (PyData.canLay0 _ && decide _) = true
    rw [e1, decide_eq_true (Nat.le_trans e2 (by decide))]
    rfl
  | some ns =>
    have h1 := canLay_ints (Sg.zs ns)
    have h2 := depth_ints (Sg.zs ns)
    unfold SeqAt.shaped
    have e1 : (PyData.tuple [.str "bare", .list ((Sg.zs ns).map .int)]).canLay0 = true := by
      have es : (PyData.str "bare").canLay0 = true := by decide +kernel
      show ((PyData.str "bare").canLay0 && (PyData.canLayAll0 ((Sg.zs ns).map PyData.int) && true)) = true
      rw [h1, es]
      rfl
    have e2 : (PyData.tuple [.str "bare", .list ((Sg.zs ns).map .int)]).depth ≤ 10 := by
      show max 0 (max (PyData.depthAll ((Sg.zs ns).map PyData.int) + 1) 0) + 1 ≤ 10
      omega
    show (PyData.canLay0 _ && decide _) = true
    rw [e1, decide_eq_true (Nat.le_trans e2 (by decide))]
    rfl
theorem said_dp {K : PySem.W.Frag} {H0 H G : Hp} {v : V} {w : Nat} {rows : List (List Int)} {m : Nat} {q : Addr} (h : SaidAt H0 H v w rows m) (e : Ex H G) (hq : G q = some (.tup [.str (word (bare w rows m)), v])) : Dp K G (.ref q) (dueD w rows m) := by
  obtain ⟨h1, h2⟩ := h
  unfold dueD
  cases ho : bare w rows m with
  | none =>
    obtain ⟨D, ts, rfl, hB⟩ := h1 ho
    rw [ho] at hq
    have hB := hB.ex e
    exact .tup (SqT.of hq) (.cons (.str _) (.cons (.lst (SqL.of hB.d) (ent_dp hB.e)) .nil))
  | some ns =>
    obtain ⟨l, rfl, hl, _⟩ := h2 ns ho
    rw [ho] at hq
    exact .tup (SqT.of hq) (.cons (.str _) (.cons (.lst (SqL.of (e _ _ hl)) (dpAll_ints _)) .nil))

def sp_law (K : PySem.W.Frag) (P : Addr) : Sp := fun vs H Q _ => ∃ (a : Addr) (ns : List Int), vs = [.ref a] ∧ SqL K H a (ns.map V.int) ∧ ns.length ≤ 63 ∧ H P = some (.tbl #[]) ∧ ∀ H', Q (.bl true) H'

theorem ok_law (T : Txt K mg) (TB : TabB base mg T.c_law T.P_law) : FnOk P w K mg base CX0 7 T.f_law T.fd_law ["_law_script"] (sp_law K T.P_law) := by
  refine Fun.ok T.F_law sc_law (fun vs H Q E h => ?_) (fun cdv A outer s H vs Q E hr h => ?_)
  · obtain ⟨_, _, rfl, _⟩ := h; rfl
  · refine ⟨_, (pss_cons (ps_for PassesOwn.never rfl (pi_list (pe_op op_cat (pe_lst (pa_cons (pe_call (ok__law_cell_at T) (hr.mono (by decide)) (by rfl) T.g__law_cell_at T.k__law_cell_at T.b__law_cell_at .nil pass0 (pa_cons (pv 0) (pa_cons pe_int pa_nil))) pa_nil)) (pe_slice (r := rSlL K) sl_list (pv 0) (po_some pe_int) (po_some pe_int)))) (pg_name (i := 1) sc_law.nd rfl (by first | exact Or.inl rfl | exact Or.inr rfl))
        (pss_cons (ps_set (i := 2) sc_law.nd rfl (by first | exact Or.inl rfl | exact Or.inr rfl) (pe_call (ok__law_source_of T) (hr.mono (by decide)) (by rfl) T.g__law_source_of T.k__law_source_of T.b__law_source_of .nil pass0 (pa_cons (pv 1) pa_nil)))
          (pss_cons (ps_set (i := 3) sc_law.nd rfl (by first | exact Or.inl rfl | exact Or.inr rfl) (pe_call (ok__law_table T) (hr.mono (by decide)) (by rfl) T.g__law_table T.k__law_table T.b__law_table .nil pass0 (pa_cons (pv 2) (pa_cons pe_int pa_nil))))
          (pss_cons (ps_set (i := 4) sc_law.nd rfl (by first | exact Or.inl rfl | exact Or.inr rfl) (pe_call (ok__law_due T TB) (hr.mono (by decide)) (by rfl) T.g__law_due T.k__law_due T.b__law_due .nil pass0 (pa_cons (pv 3) pa_nil)))
          (pss_cut (ps_setLc (i := 5) (own := [("_law_row", 12)]) (wi := iList K _) (g := gName 12) (tt := tYes) rfl sc_law.nd rfl rfl (sw_true rfl rfl rfl (by decide +kernel)) (pi_list (pv 3)) (blkOk_by (N := ["_law_script", "_law_cell", "_law_source", "_law_table_here", "_law_due_here", "_law_saved", "_law_turn", "_law_word", "_law_said_here", "_law_rows", "_law_signs", "_law_good", "_law_row", "_law_one_here"]) (sc := (defScope s_law)) (by decide +kernel)) (fun _ _ _ _ _ => pg_name (i := 12) sc_law.nd rfl (Or.inl rfl)) (fun _ _ _ _ _ => pts_nil) (fun _ _ _ _ _ => (pe_callTy (T := "list") (r := rListS K) call_list_of (by rfl) T.n_list (by decide +kernel) (pa_cons (pv 12) pa_nil))))
          (pss_cons (ps_for PassesOwn.never rfl (pi_range1 (by rfl) T.n_range (pa_cons pe_int pa_nil)) (pg_name (i := 6) sc_law.nd rfl (by first | exact Or.inl rfl | exact Or.inr rfl))
            (pss_cons (ps_asg (pe_call (ok__law_said T) hr (by rfl) T.g__law_said T.k__law_said T.b__law_said .nil pass0 (pa_cons (pv 3) pa_nil)) (pg_tup rfl (pgs_cons (pg_name (i := 7) sc_law.nd rfl (by first | exact Or.inl rfl | exact Or.inr rfl)) (pgs_cons (pg_name (i := 8) sc_law.nd rfl (by first | exact Or.inl rfl | exact Or.inr rfl)) pgs_nil))))
              (pss_cons (ps_if (PW.pt (pw_or (pt_cmpR (r := rNeD K) (op_neD hr.units) (pe_tup (pa_cons (pv 7) (pa_cons (pv 8) pa_nil))) (pv 4) (nomark _)) (pw_or1 (pt_cmpR (r := rNeD K) (op_neD hr.units) (pv 3) (pv 5) (nomark _)))))
                (pss_one (ps_ret pe_bl))
                pss_nil)
              (pss_cons (ps_if (pt_cmpR (r := rEqD K) (op_eqD hr.units) (pv 7) pe_str (nomark _))
                (pss_cons (ps_if (pt_not (pt_val (pe_callB (id := "all") (r := rAll K) (cr_all rfl) (by rfl) T.n_all (by decide +kernel) (pa_cons (pe_lc (own := [("_law_one_here", 13)]) (wi := iList K _) (g := gName 13) (tt := tYes) rfl sc_law.nd (pi_list (pv 8)) (blkOk_by (N := ["_law_script", "_law_cell", "_law_source", "_law_table_here", "_law_due_here", "_law_saved", "_law_turn", "_law_word", "_law_said_here", "_law_rows", "_law_signs", "_law_good", "_law_row", "_law_one_here"]) (sc := (defScope s_law)) (by decide +kernel)) (fun _ _ _ _ _ => pg_name (i := 13) sc_law.nd rfl (Or.inl rfl)) (fun _ _ _ _ _ => pts_nil) (fun _ _ _ _ _ => (pe_callB (id := "isinstance") (r := rIsi K) call_isi (by rfl) T.n_isinstance (by decide +kernel) (pa_cons (pv 13) (pa_cons (pe_bltn (v := .ty "tuple") (by rfl) T.n_tuple (by decide +kernel) rfl) pa_nil))))) pa_nil))))
                    (pss_one (ps_ret pe_bl))
                    pss_nil)
                  (pss_one (ps_for PassesOwn.never rfl (pi_list (pv 8)) (pg_tup rfl (pgs_cons (pg_name (i := 9) sc_law.nd rfl (by first | exact Or.inl rfl | exact Or.inr rfl)) (pgs_cons (pg_name (i := 10) sc_law.nd rfl (by first | exact Or.inl rfl | exact Or.inr rfl)) pgs_nil)))
                    (pss_cons (ps_expr (pe_bm PySem.F.plainAttrs_list PySem.F.slot_list_append PySem.F.type_list_append mt_append (pv 9) (pa_cons pe_int pa_nil)))
                      (pss_one (ps_expr (pe_bm0 PySem.F.plainAttrs_list PySem.F.slot_list_clear PySem.F.type_list_clear mt_clear (pv 10))))))))
                pss_nil)
              (pss_one (ps_expr (pe_bm PySem.F.plainAttrs_list PySem.F.slot_list_append PySem.F.type_list_append mt_append (pv 8) (pa_cons pe_str pa_nil))))))))
          (pss_cons (ps_set (i := 11) sc_law.nd rfl (by first | exact Or.inl rfl | exact Or.inr rfl) (pe_call (ok_is_unimodular T) (hr.mono (by decide)) (by rfl) T.g_is_unimodular T.k_is_unimodular T.b_is_unimodular .nil pass0 (pa_cons (pv 3) pa_nil)))
          (pss_one (ps_if (PW.pt (pw_or (pt_cmpR (r := rNeD K) (op_neD hr.units) (pv 11) (pe_cmpR (r := rEqD K) (op_eqD hr.units) (pe_ix (r := rIxT K) ix_tup (pv 4) pe_int (fun _ _ => rfl)) pe_str (nomark _)) (nomark _)) (pw_or1 (pt_not (pt_val (pe_callB (id := "isinstance") (r := rIsi K) call_isi (by rfl) T.n_isinstance (by decide +kernel) (pa_cons (pv 11) (pa_cons (pe_bltn (v := .ty "bool") (by rfl) T.n_bool (by decide +kernel) rfl) pa_nil))))))))
            (pss_one (ps_ret pe_bl))
            pss_nil)))))))))
      (pss_one (ps_ret pe_bl))), ?_⟩
    obtain ⟨a0, ns, rfl, hS, hlen, hP, q⟩ := h
    refine ⟨_, rfl, a0, ns, 0, rfl, hS, by decide, fun c0 => ⟨(by show 1 ≤ sizeLine; decide), fun p0 np0 => ⟨_, rfl, ?_⟩⟩⟩
    have x0 := Ex.new (o := .lst [V.int c0]) np0
    refine ⟨1, rfl, 5, rfl, a0, _, rfl, ex_l x0 hS, fun p1 np1 => ?_⟩
    obtain ⟨ys, hys⟩ := cutV_ints ns (some 1) (some 5)
    have hyl : ys.length ≤ 63 := by
      have h1 := cutV_length (ns.map V.int) (some 1) (some 5)
      rw [hys, List.length_map, List.length_map] at h1
      omega
    rw [hys]
    have x1 := Ex.new (o := .lst (ys.map V.int)) np1
    refine ⟨p0, p1, _, _, rfl, rfl, x1 _ _ upd_same, upd_same, ?_, fun p2 np2 => ?_⟩
    · have : ([V.int c0].length + (ys.map V.int).length) ≤ 1000 := by
        rw [List.length_map]
        show 1 + ys.length ≤ 1000
        omega
      exact Nat.le_trans this (by decide)
    have x2 := Ex.new (o := .lst ([V.int c0] ++ ys.map V.int)) np2
    have x02 := (x0.trans x1).trans x2
    have tb : LamX.Tabs [(T.P_law, lamQ)] (upd (upd (upd H p0 (.lst [V.int c0])) p1 (.lst (ys.map V.int))) p2 (.lst ([V.int c0] ++ ys.map V.int))) := fun p hp => by
      rw [List.mem_singleton.mp hp]
      exact LamX.TabS.nil (x02 _ _ hP)
    
    refine ⟨p2, rfl, ⟨_, SqL.of upd_same⟩, for_list (K := K) (a := p2) (xs := [V.int c0] ++ ys.map V.int) (fun i σ H' => ∃ y1 y2 y3 y4 y5 y6 y7 y8 y9 y10 y11 y12 y13 : Option V, σ = [some (.ref a0), y1, y2, y3, y4, y5, y6, y7, y8, y9, y10, y11, y12, y13] ∧ H' p2 = some (.lst ([V.int c0] ++ ys.map V.int)) ∧ LamX.Tabs [(T.P_law, lamQ)] H')
      ⟨_, _, _, _, _, _, _, _, _, _, _, _, _, rfl, upd_same, tb⟩ (fun i σ H' _ ⟨_, _, _, _, _, _, _, _, _, _, _, _, _, _, h, _⟩ => SqL.of h) (fun i x σ H0 hi hP => ?_) (fun σ H' hP => q H')⟩
    obtain ⟨y1, y2, y3, y4, y5, y6, y7, y8, y9, y10, y11, y12, y13, rfl, hp2, tb0⟩ := hP
    obtain ⟨c, rfl⟩ : ∃ c : Int, x = .int c := by
      rcases List.mem_append.mp (List.mem_of_getElem? hi) with h | h
      · exact ⟨c0, by simpa using h⟩
      · obtain ⟨c, _, rfl⟩ := List.mem_map.mp h
        exact ⟨c, rfl⟩
    generalize p2 = pL at hp2 ⊢
    clear hi tb x02 x2 x1 x0 hyl hys hS hlen hP
    -- source, table
    refine ⟨_, rfl, c, rfl, fun s H1 n1 e1 s1 => ?_⟩
    refine ⟨_, rfl, s, 0, 5, rfl, s1, by decide, by decide, by decide, fun as rows g H2 m w hm1 hm8 hw1 hw8 hN hm e2 s2 => ?_⟩
    have E2 : Ex H0 H2 := e2.ex n1 e1
    have hb : ∀ r ∈ rows, ∀ y ∈ r, Bd 100 y := fun r hr y hy => bd100 ((hN.ok r hr).2 y hy)
    have hT : TabOk H2 g as rows m w := ⟨hN.tab, hm, fun r hr => (hN.ok r hr).1, hm1, by omega, hw1, by omega⟩
    -- due
    refine ⟨_, rfl, g, as, rows, m, w, rfl, hT, hb, LamX.Tabs.ext tb0 E2, fun td vd H3 eN tb3 htd hdp => ?_⟩
    have hT3 : TabOk H3 g as rows m w := ⟨⟨eN _ _ hT.tab.1 (fun _ z => by cases z), rows_N eN hT.tab.2⟩, hm, hT.w_, hT.b⟩
    have hp3 := eN _ _ (E2 _ _ hp2) (fun _ z => by cases z)
    clear hT s2 e2 hN E2 s1 e1 n1 tb0 hp2
    -- saved
    refine ⟨fun σ' H' => ∃ (ct : Addr) (cs : List Addr), σ' = [some (.ref a0), some (.int c), some (.ref s), some (.ref g), some (.ref td), some (.ref ct), y6, y7, y8, y9, y10, y11, y12, y13] ∧ Ex H3 H' ∧ Tab H' ct cs rows, ?_, ?_⟩
    · refine lc_rowsT (K := K) (nn := 3) (as0 := as) (rows := rows) (F := fun r => r) rfl hT3.tab (by omega) (fun u => rfl) (fun a r H3 hr ha e3 H4 e4 Q1 q1 => ⟨_, rfl, a, _, rfl, .inl (SqL.of ((e3.trans e4) _ _ ha)), fun l nl => q1 l _ nl (Ex.new nl) upd_same⟩) (fun ct cs H6 ncp ncs ndc ncc e6 hc => ?_)
      rw [List.map_id'] at hc
      exact ⟨ct, cs, rfl, e6, hc⟩
    rintro σ' H4 ⟨ct, cs, rfl, e34, hct⟩
    refine q_forR1 (n := 2) (ea_cons ev_c ea_nil) (by omega) (fun i σ' H' => ∃ y6 y7 y8 y9 y10 : Option V, σ' = [some (.ref a0), some (.int c), some (.ref s), some (.ref g), some (.ref td), some (.ref ct), y6, y7, y8, y9, y10, y11, y12, y13] ∧ Ex H4 H') (fun H5 e5 => ⟨_, _, _, _, _, rfl, e5⟩) (fun tn σ' H5 htn hP => ?_) (fun σ' H5 hP => ?_)
    rotate_left
    · obtain ⟨y6, y7, y8, y9, y10, rfl, e5⟩ := hP
      have e35 := e34.trans e5
      refine ⟨_, rfl, g, as, rows, m, w, rfl, hT3.ex e35, hb, fun H6 e6 => ?_⟩
      have e36 := e35.trans e6
      refine s_when (b := false) (et_is (et_or (et_test (ev_op (z := .bl false) (y := .bl (bare w rows m).isNone) (ev_var (i := 11) rfl) (ev_op (ev_op (ev_var (i := 4) rfl) ev_c (rv_ixT (SqT.of (e36 _ _ htd)) (atI_nat (j := 0) (by rfl)))) ev_c (rv_eqS ?_ ?_ (by decide +kernel))) (rv_neX (.bl _) (.bl _) rfl))) fun _ => et_not (et_B (ev_isi (t := "bool") (b := true) (ev_var (i := 11) rfl) ev_c (fun H1 e => .base (.bl _)) (by decide +kernel)))) rfl) (fun z => nomatch z) (fun _ H7 e7 => ⟨_, _, _, _, _, _, _, _, _, _, _, _, _, rfl, (e36.trans e7) _ _ hp3, LamX.Tabs.ext tb3 (e36.trans e7)⟩)
      · unfold word
        cases bare w rows m with
        | none => decide +kernel
        | some ns => exact (show PyData.eqv (.str "bare") (.str "book") = false by decide +kernel)
      · unfold word
        cases bare w rows m with
        | none => decide +kernel
        | some ns => exact (show SeqAt.shaped (.str "bare") = true by decide +kernel)
    obtain ⟨y6, y7, y8, y9, y10, rfl, e5⟩ := hP
    have e35 := e34.trans e5
    refine ⟨_, rfl, g, as, rows, m, w, rfl, hT3.ex e35, hb, fun tw v H6 e6 htw hv => ?_⟩
    refine ⟨tw, _, rfl, SqT.of htw, rfl, _, _, rfl, _, _, rfl, rfl, ?_⟩
    have e36 := e35.trans e6
    refine q_when (b := false) (et_is (et_or (et_test (ev_neU (eu_tup (ea_cons (ev_var (i := 7) rfl) (ea_cons (ev_var (i := 8) rfl) ea_nil)) (Nat.le_of_ble_eq_true rfl)) (ev_var (i := 4) rfl) (fun q1 H7 e7 hq => ⟨said_dp hv e7 hq, Lam1.dpx (e36.trans e7) hdp⟩) (due_shaped w rows m))) fun _ => et_test (ev_op (ev_var (i := 3) rfl) (ev_var (i := 5) rfl) (rv_neT (hT3.ex e36).tab (hct.ex (e5.trans e6))))) rfl) (fun z => nomatch z) (fun _ H7 e7 => ?_)
    have e67 := e6.trans e7
    obtain ⟨hv1, hv2⟩ := hv
    cases ho : bare w rows m with
    | some ns =>
      obtain ⟨l, rfl, hl, nl⟩ := hv2 ns ho
      refine q_when (b := false) (et_test (ev_op (ev_var (i := 7) rfl) ev_c (rv_eqS (show PyData.eqv (.str "bare") (.str "book") = false by decide +kernel) (show SeqAt.shaped (.str "bare") = true by decide +kernel) (by decide +kernel)))) (fun z => nomatch z) (fun _ H8 e8 => ?_)
      refine s_app ((e7.trans e8) _ _ hl) (ev_var (i := 8) rfl) ev_c ?_ fun H9 e9 => ⟨_, _, _, _, _, rfl, Ex.mut (e5.trans (e67.trans (e8.trans e9))) (fresh_back e5 nl)⟩
      have := (pick_facts (m := m) (List.getElem?_eq_getElem (List.mem_iff_getElem.mp (List.mem_of_find?_eq_some ho)).choose_spec.1) (by omega)).2.2.2
      rw [(List.mem_iff_getElem.mp (List.mem_of_find?_eq_some ho)).choose_spec.2] at this
      unfold Sg.zs
      rw [List.length_map, List.length_map]
      omega
    | none =>
      obtain ⟨D, ts, rfl, hB⟩ := hv1 ho
      have hB7 := hB.ex e7
      have tl : ts.length ≤ 160 := by
        rw [Paired.length hB.e, List.length_map]
        exact Nat.le_trans (pk_len m m) (Nat.le_trans (Nat.mul_le_mul hm8 (Nat.pow_le_pow_right (by decide) hm8)) (by decide))
      refine q_when (b := true) (et_test (ev_op (ev_var (i := 7) rfl) ev_c (rv_eqS (show PyData.eqv (.str "book") (.str "book") = true by decide +kernel) (show SeqAt.shaped (.str "book") = true by decide +kernel) (by decide +kernel)))) (fun _ H8 e8 => ?_) (fun z => nomatch z)
      have hB8 := hB7.ex e8
      refine q_when (b := false) (et_not (et_B (ev_all (el_yes (K := K) (n := 8) (j := 13) (a := D) rfl hB8.d (by rw [List.length_map]; omega) (fun x H9 hx e9 => ?_) (fun u => rfl))))) (fun z => nomatch z) (fun _ H9 e9 => ?_)
      · obtain ⟨t, ht, rfl⟩ := List.mem_map.mp hx
        obtain ⟨j, hj, hjt⟩ := List.mem_iff_getElem.mp ht
        obtain ⟨e, _, a, b, h1, _⟩ := paired_get hB8.e (i := j) (a := t) (by rw [List.getElem?_eq_getElem hj, hjt])
        exact ev_isi (t := "tuple") (b := true) (ev_var rfl) ev_c (fun H1 e => .base (.tup ((e9.trans e) _ _ h1))) (by decide +kernel)
      have hB9 := hB8.ex e9
      have e59 := e67.trans (e8.trans e9)
      refine ⟨_, rfl, D, rfl, ⟨_, SqL.of hB9.d⟩, for_list (K := K) (a := D) (xs := ts.map V.ref) (fun i σ' H' => ∃ y9 y10 : Option V, σ' = [some (.ref a0), some (.int c), some (.ref s), some (.ref g), some (.ref td), some (.ref ct), some (.int (tn : Int)), some (.str (word none)), some (.ref D), y9, y10, y11, y12, y13] ∧ Ex H5 H' ∧ H' D = some (.lst (ts.map V.ref)) ∧ ∀ t ∈ ts, ∃ a b xs ys, H' t = some (.tup [.ref a, .ref b]) ∧ H' a = some (.lst xs) ∧ H' b = some (.lst ys) ∧ xs.length ≤ 100 + i ∧ ys.length ≤ 100 + i ∧ H5 a = none ∧ H5 b = none ∧ a ≠ D ∧ b ≠ D)
        ⟨_, _, rfl, e59, hB9.d, fun t ht => ?_⟩ (fun i σ' H' _ ⟨_, _, _, _, h, _⟩ => SqL.of h) (fun i x σ' H10 hx hP => ?_) (fun σ' H10 hP => ?_)⟩
      · obtain ⟨j, hj, hjt⟩ := List.mem_iff_getElem.mp ht
        obtain ⟨e, he, a, b, h1, h2, h3, h4, h5, _, h7, h8⟩ := paired_get hB9.e (i := j) (a := t) (by rw [List.getElem?_eq_getElem hj, hjt])
        rw [List.getElem?_map] at he
        obtain ⟨ns, hns, rfl⟩ := Option.map_eq_some_iff.mp he
        obtain ⟨_, _, _, ns8⟩ := pick_facts hns (by omega)
        refine ⟨a, b, _, _, h1, h2, h3, ?_, ?_, h4, h5, h7, h8⟩
        · show ((Sg.zs ns).map V.int).length ≤ 100
          unfold Sg.zs
          rw [List.length_map, List.length_map]
          omega
        · show (((Sg.first w (rowsOf rows ns)).getD []).map V.int).length ≤ 100
          rw [List.length_map]
          cases hf : Sg.first w (rowsOf rows ns) with
          | none => exact Nat.zero_le _
          | some sg =>
            have := (Sg.mem_ways.mp (List.mem_of_find?_eq_some hf)).1
            show sg.length ≤ 100
            rw [this]
            unfold rowsOf
            rw [List.length_map]
            omega
      · obtain ⟨y9, y10, rfl, e10, hD10, hall⟩ := hP
        have hil := (List.getElem?_eq_some_iff.mp hx).1
        rw [List.length_map] at hil
        rw [List.getElem?_map] at hx
        obtain ⟨t, ht, rfl⟩ := Option.map_eq_some_iff.mp hx
        obtain ⟨a, b, xs, zs, h1, h2, h3, h4, h5, h6, h7, h8, h9⟩ := hall t (List.mem_of_getElem? ht)
        refine ⟨t, _, rfl, SqT.of h1, rfl, _, _, rfl, _, _, rfl, rfl, ?_⟩
        refine q_app h2 (ev_var (i := 9) rfl) ev_c (by omega) fun H11 e11 => ?_
        have hb11 : ∃ ws, upd H11 a (.lst (xs ++ [V.int 9])) b = some (.lst ws) := by
          by_cases z : b = a
          · rw [z, upd_same]
            exact ⟨_, rfl⟩
          · rw [upd_ne z]
            exact ⟨_, e11 _ _ h3⟩
        obtain ⟨ws, hws⟩ := hb11
        refine ⟨_, rfl, Or.inl ⟨rfl, _, sq_of hws⟩, b, ws, rfl, rfl, hws, ?_⟩
        refine ⟨_, _, rfl, Ex.mut (Ex.mut (e10.trans e11) h6) h7, ?_, fun t2 ht2 => ?_⟩
        · rw [upd_ne h9.symm, upd_ne h8.symm]
          exact e11 _ _ hD10
        · obtain ⟨a2, b2, xs2, zs2, k1, k2, k3, k4, k5, k6, k7, k8, k9⟩ := hall t2 ht2
          obtain ⟨u1, u2, u3⟩ := lst_two (a := a) (b := b) h4 (e11 _ _ k2) k4 (V.int 9)
          obtain ⟨v1, v2, v3⟩ := lst_two (a := a) (b := b) h4 (e11 _ _ k3) k5 (V.int 9)
          refine ⟨a2, b2, u1, v1, ?_, u2, v2, u3, v3, k6, k7, k8, k9⟩
          have k1' := e11 _ _ k1
          rw [upd_ne (fun z => by rw [← z, k1] at h3; cases h3), upd_ne (fun z => by rw [← z, k1] at h2; cases h2)]
          exact k1'
      · obtain ⟨y9, y10, rfl, e10, hD10, _⟩ := hP
        refine s_app hD10 (ev_var (i := 8) rfl) ev_c (by rw [List.length_map]; omega) fun H11 e11 => ⟨_, _, _, _, _, rfl, Ex.mut (e5.trans (e10.trans e11)) (fresh_back e5 hB.n)⟩
end
/-! ### the head: facts by names, the run -/
def d_init_NoPick : He.DefD := ⟨("NoPick", some "__init__"), "__init__", "NoPick.__init__", defArgs s_init_NoPick, defBody s_init_NoPick, defScope s_init_NoPick, [], []⟩
def d_init_NotWhole : He.DefD := ⟨("NotWhole", some "__init__"), "__init__", "NotWhole.__init__", defArgs s_init_NotWhole, defBody s_init_NotWhole, defScope s_init_NotWhole, [], []⟩
def d_is_whole : He.DefD := ⟨("is_whole", none), "is_whole", "is_whole", defArgs s_is_whole, defBody s_is_whole, defScope s_is_whole, [], []⟩
def d_is_table : He.DefD := ⟨("is_table", none), "is_table", "is_table", defArgs s_is_table, defBody s_is_table, defScope s_is_table, [], []⟩
def d_is_row : He.DefD := ⟨("is_row", none), "is_row", "is_row", defArgs s_is_row, defBody s_is_row, defScope s_is_row, [], []⟩
def d_check_table : He.DefD := ⟨("check_table", none), "check_table", "check_table", defArgs s_check_table, defBody s_check_table, defScope s_check_table, [], []⟩
def d_first_signs : He.DefD := ⟨("first_signs", none), "first_signs", "first_signs", defArgs s_first_signs, defBody s_first_signs, defScope s_first_signs, [], []⟩
def d_are_small : He.DefD := ⟨("are_small", none), "are_small", "are_small", defArgs s_are_small, defBody s_are_small, defScope s_are_small, [], []⟩
def d_book : He.DefD := ⟨("book", none), "book", "book", defArgs s_book, defBody s_book, defScope s_book, [], []⟩
def d_picks : He.DefD := ⟨("picks", none), "picks", "picks", defArgs s_picks, defBody s_picks, defScope s_picks, [], []⟩
def d_is_unimodular : He.DefD := ⟨("is_unimodular", none), "is_unimodular", "is_unimodular", defArgs s_is_unimodular, defBody s_is_unimodular, defScope s_is_unimodular, [], []⟩
def d__law_source_of : He.DefD := ⟨("_law_source_of", none), "_law_source_of", "_law_source_of", defArgs s__law_source_of, defBody s__law_source_of, defScope s__law_source_of, [], []⟩
def d__law_next : He.DefD := ⟨("_law_next", none), "_law_next", "_law_next", defArgs s__law_next, defBody s__law_next, defScope s__law_next, [], []⟩
def d__law_one : He.DefD := ⟨("_law_one", none), "_law_one", "_law_one", defArgs s__law_one, defBody s__law_one, defScope s__law_one, [], []⟩
def d__law_cell_at : He.DefD := ⟨("_law_cell_at", none), "_law_cell_at", "_law_cell_at", defArgs s__law_cell_at, defBody s__law_cell_at, defScope s__law_cell_at, [], []⟩
def d__law_mixed : He.DefD := ⟨("_law_mixed", none), "_law_mixed", "_law_mixed", defArgs s__law_mixed, defBody s__law_mixed, defScope s__law_mixed, [], []⟩
def d__law_ends : He.DefD := ⟨("_law_ends", none), "_law_ends", "_law_ends", defArgs s__law_ends, defBody s__law_ends, defScope s__law_ends, [], []⟩
def d__law_net : He.DefD := ⟨("_law_net", none), "_law_net", "_law_net", defArgs s__law_net, defBody s__law_net, defScope s__law_net, [], []⟩
def d__law_net_drawn : He.DefD := ⟨("_law_net_drawn", none), "_law_net_drawn", "_law_net_drawn", defArgs s__law_net_drawn, defBody s__law_net_drawn, defScope s__law_net_drawn, [], []⟩
def d__law_stretches : He.DefD := ⟨("_law_stretches", none), "_law_stretches", "_law_stretches", defArgs s__law_stretches, defBody s__law_stretches, defScope s__law_stretches, [], []⟩
def d__law_swung : He.DefD := ⟨("_law_swung", none), "_law_swung", "_law_swung", defArgs s__law_swung, defBody s__law_swung, defScope s__law_swung, [], []⟩
def d__law_table : He.DefD := ⟨("_law_table", none), "_law_table", "_law_table", defArgs s__law_table, defBody s__law_table, defScope s__law_table, [], []⟩
def d__law_picks : He.DefD := ⟨("_law_picks", none), "_law_picks", "_law_picks", defArgs s__law_picks, defBody s__law_picks, defScope s__law_picks, [], []⟩
def d__law_first_signs : He.DefD := ⟨("_law_first_signs", none), "_law_first_signs", "_law_first_signs", defArgs s__law_first_signs, defBody s__law_first_signs, defScope s__law_first_signs, [], []⟩
def d__law_said : He.DefD := ⟨("_law_said", none), "_law_said", "_law_said", defArgs s__law_said, defBody s__law_said, defScope s__law_said, [], []⟩
def d__law_due : He.DefD := ⟨("_law_due", none), "_law_due", "_law_due", defArgs s__law_due, defBody s__law_due, defScope s__law_due, [], []⟩
def d_law : He.DefD := ⟨("law", none), "law", "law", defArgs s_law, defBody s_law, defScope s_law, [], []⟩
def fnL : List He.DefD := [d_init_NoPick, d_init_NotWhole, d_is_whole, d_is_table, d_is_row, d_check_table, d_first_signs, d_are_small, d_book, d_picks, d_is_unimodular, d__law_source_of, d__law_next, d__law_one, d__law_cell_at, d__law_mixed, d__law_ends, d__law_net, d__law_net_drawn, d__law_stretches, d__law_swung, d__law_table, d__law_picks, d__law_first_signs, d__law_said, d__law_due, d_law]
def faL : List He.Fa := [.glo "is_whole", .glo "is_table", .glo "is_row", .glo "check_table", .glo "first_signs", .glo "are_small", .glo "book", .glo "picks", .glo "is_unimodular", .glo "_law_source_of", .glo "_law_next", .glo "_law_one", .glo "_law_cell_at", .glo "_law_mixed", .glo "_law_ends", .glo "_law_net", .glo "_law_net_drawn", .glo "_law_stretches", .glo "_law_swung", .glo "_law_table", .glo "_law_picks", .glo "_law_first_signs", .glo "_law_said", .glo "_law_due", .glo "law", .glo "SignError", .glo "BadTable", .glo "NotPlain", .glo "NoPick", .glo "NotWhole", .free "all", .free "bool", .free "enumerate", .free "int", .free "isinstance", .free "len", .free "list", .free "max", .free "min", .free "range", .free "sorted", .free "tuple", .free "zip", .int "MOST" 8]
def exs (K : PySem.W.Frag) : List Bool := [
  decide (PySem.W.nsIn K mainGlobals "combinations" = some (some (.type "itertools.combinations"))),
  decide (PySem.W.keepIn K (.ref (He.ga K "SignError")) = true),
  decide (PySem.W.subIn K (.ref (He.ga K "SignError")) (.type "BaseException") = some true),
  decide (PySem.W.typeIn K (.ref (He.ga K "SignError")) = some (.type "type")),
  decide (PySem.W.keepIn K (.ref (He.ga K "BadTable")) = true),
  decide (PySem.W.subIn K (.ref (He.ga K "BadTable")) (.type "BaseException") = some true),
  decide (PySem.W.typeIn K (.ref (He.ga K "BadTable")) = some (.type "type")),
  decide (PySem.W.excIn K (He.ga K "BadTable") aeT "ArithmeticError.__new__" = true),
  decide (PySem.W.keepIn K (.ref (He.ga K "NotPlain")) = true),
  decide (PySem.W.subIn K (.ref (He.ga K "NotPlain")) (.type "BaseException") = some true),
  decide (PySem.W.typeIn K (.ref (He.ga K "NotPlain")) = some (.type "type")),
  decide (PySem.W.excIn K (He.ga K "NotPlain") aeT "ArithmeticError.__new__" = true),
  decide (PySem.W.keepIn K (.ref (He.ga K "NoPick")) = true),
  decide (PySem.W.subIn K (.ref (He.ga K "NoPick")) (.type "BaseException") = some true),
  decide (PySem.W.typeIn K (.ref (He.ga K "NoPick")) = some (.type "type")),
  decide (PySem.W.keepIn K (.ref (He.ga K "NotWhole")) = true),
  decide (PySem.W.subIn K (.ref (He.ga K "NotWhole")) (.type "BaseException") = some true),
  decide (PySem.W.typeIn K (.ref (He.ga K "NotWhole")) = some (.type "type")),
  decide (PySem.W.readsIn K (He.ga K "SignError") (.type "type") = true),
  decide (PySem.W.specialIn K (.ref (He.ga K "SignError")) "__getattribute__" = some (some (.builtin "type.__getattribute__"))),
  fiB K (He.ga K "SignError"),
  ownB K (He.ga K "NoPick") (He.ga K "SignError"),
  decide (PySem.W.findIn K (.ref (He.ga K "NoPick")) "__init__" = some (some (.ref (He.fAd K ("NoPick", some "__init__"))))),
  decide (PySem.W.typeIn K (.ref (He.fAd K ("NoPick", some "__init__"))) = some (.type "function")),
  decide (PySem.W.findIn K (.ref (He.ga K "NoPick")) "at" = some none),
  ownB K (He.ga K "NotWhole") (He.ga K "SignError"),
  decide (PySem.W.findIn K (.ref (He.ga K "NotWhole")) "__init__" = some (some (.ref (He.fAd K ("NotWhole", some "__init__"))))),
  decide (PySem.W.typeIn K (.ref (He.fAd K ("NotWhole", some "__init__"))) = some (.type "function")),
  decide (PySem.W.findIn K (.ref (He.ga K "NotWhole")) "rows" = some none),
  xfB K (He.ga K "NotWhole"),
  ecB K (He.ga K "NotWhole"),
  decide (PySem.W.exmOne K (.ref (He.ga K "NotWhole")) (.ref (He.ga K "SignError")) = some true),
  decide (PySem.W.kitOne K (.ref (He.ga K "NotWhole")) (.ref (He.ga K "NotWhole")) = some true),
  decide (PySem.W.kitOne K (.ref (He.ga K "NotWhole")) (.ref (He.ga K "BadTable")) = some false),
  decide (PySem.W.kitOne K (.ref (He.ga K "NotWhole")) (.ref (He.ga K "NoPick")) = some false),
  decide (PySem.W.kitOne K (.ref (He.ga K "NotWhole")) (.ref (He.ga K "NotPlain")) = some false)]
def exL (K : PySem.W.Frag) : Bool := (exs K).all id
theorem ex_at {K : PySem.W.Frag} (h : exL K = true) (i : Nat) {b : Bool} (e : (exs K)[i]? = some b) : b = true := List.all_eq_true.mp h b (List.mem_of_getElem? e)
def tfL : List He.Defn := [("_law_picks", none)]
abbrev RL : PySem.W.OpenRow := PySem.W.OpenLaw.row PySem.Challenge.rw_signbook_k17_books
abbrev hkL : PySem.W.Hook := L2.hookY 4 faL fnL [] tfL exL
def obL (s : PySem.W.SharedT) : He.AlX := L2.obsY 4 faL fnL [] tfL exL (HandSHeadRun.getT s)
theorem ob_eqL (s : PySem.W.SharedT) : obL s = hkL.obs s.abs := L2.obsY_eq (HandSHeadRun.getT_eq s)
def looseL : List Str := (["combinations", "SignError", "BadTable", "NotPlain", "NoPick", "NotWhole", "is_whole", "MOST", "is_table", "is_row", "check_table", "first_signs", "are_small", "book", "picks", "is_unimodular", "_law_source_of", "_law_next", "_law_one", "_law_cell_at", "_law_mixed", "_law_ends", "_law_net", "_law_net_drawn", "_law_stretches", "_law_swung", "_law_table", "_law_picks", "_law_first_signs", "_law_said"] : List Str) ++ (["_law_due"] : List Str)
theorem runL (w : World) : HandSHeadRun.RunEqI RL (PySem.W.view RL.prog [0, 36]) hkL obL 60000 looseL w := by
  unfold HandSHeadRun.RunEqI
  kernel_rfl
theorem factsL {w : World} {K : PySem.W.Frag} {h : Heap} {mg : Str → Option Value} {fa : Addr} (X : K.In h) (G : h.Ns mainGlobals mg) (hfa : mg ("law" : Str) = some (.ref fa)) (c : He.SaysX faL fnL [] tfL exL w h K) : LamX.LawAtS PySem.Challenge.rw_signbook_k17_books w K CX0 7 63 "_law_script" mg fa h := by
  have cd : He.SaysD faL fnL K := congrArg (fun z : He.AlT => z.1) c.t
  have ce : exL K = true := c.more
  obtain ⟨fd0, D0⟩ := cd.def_ 0 (d := d_init_NoPick) rfl
  obtain ⟨fd1, D1⟩ := cd.def_ 1 (d := d_init_NotWhole) rfl
  obtain ⟨fd2, D2⟩ := cd.def_ 2 (d := d_is_whole) rfl
  obtain ⟨fd3, D3⟩ := cd.def_ 3 (d := d_is_table) rfl
  obtain ⟨fd4, D4⟩ := cd.def_ 4 (d := d_is_row) rfl
  obtain ⟨fd5, D5⟩ := cd.def_ 5 (d := d_check_table) rfl
  obtain ⟨fd6, D6⟩ := cd.def_ 6 (d := d_first_signs) rfl
  obtain ⟨fd7, D7⟩ := cd.def_ 7 (d := d_are_small) rfl
  obtain ⟨fd8, D8⟩ := cd.def_ 8 (d := d_book) rfl
  obtain ⟨fd9, D9⟩ := cd.def_ 9 (d := d_picks) rfl
  obtain ⟨fd10, D10⟩ := cd.def_ 10 (d := d_is_unimodular) rfl
  obtain ⟨fd11, D11⟩ := cd.def_ 11 (d := d__law_source_of) rfl
  obtain ⟨fd12, D12⟩ := cd.def_ 12 (d := d__law_next) rfl
  obtain ⟨fd13, D13⟩ := cd.def_ 13 (d := d__law_one) rfl
  obtain ⟨fd14, D14⟩ := cd.def_ 14 (d := d__law_cell_at) rfl
  obtain ⟨fd15, D15⟩ := cd.def_ 15 (d := d__law_mixed) rfl
  obtain ⟨fd16, D16⟩ := cd.def_ 16 (d := d__law_ends) rfl
  obtain ⟨fd17, D17⟩ := cd.def_ 17 (d := d__law_net) rfl
  obtain ⟨fd18, D18⟩ := cd.def_ 18 (d := d__law_net_drawn) rfl
  obtain ⟨fd19, D19⟩ := cd.def_ 19 (d := d__law_stretches) rfl
  obtain ⟨fd20, D20⟩ := cd.def_ 20 (d := d__law_swung) rfl
  obtain ⟨fd21, D21⟩ := cd.def_ 21 (d := d__law_table) rfl
  obtain ⟨fd22, D22⟩ := cd.def_ 22 (d := d__law_picks) rfl
  obtain ⟨fd23, D23⟩ := cd.def_ 23 (d := d__law_first_signs) rfl
  obtain ⟨fd24, D24⟩ := cd.def_ 24 (d := d__law_said) rfl
  obtain ⟨fd25, D25⟩ := cd.def_ 25 (d := d__law_due) rfl
  obtain ⟨fd26, D26⟩ := cd.def_ 26 (d := d_law) rfl
  have F0 : Fun K "__init__" "NoPick.__init__" s_init_NoPick (He.fAd K ("NoPick", some "__init__")) fd0 := funD_fun D0
  have b0 := F0.binds (ps := ["self", "at"]) fun _ _ _ _ _ _ us hl => match us, hl with | [_, _], _ => rfl
  have F1 : Fun K "__init__" "NotWhole.__init__" s_init_NotWhole (He.fAd K ("NotWhole", some "__init__")) fd1 := funD_fun D1
  have b1 := F1.binds (ps := ["self", "rows"]) fun _ _ _ _ _ _ us hl => match us, hl with | [_, _], _ => rfl
  have F2 : Fun K "is_whole" "is_whole" s_is_whole (He.ga K "is_whole") fd2 := funD_fun D2
  have b2 := F2.binds (ps := ["thing"]) fun _ _ _ _ _ _ us hl => match us, hl with | [_], _ => rfl
  have F3 : Fun K "is_table" "is_table" s_is_table (He.ga K "is_table") fd3 := funD_fun D3
  have b3 := F3.binds (ps := ["thing"]) fun _ _ _ _ _ _ us hl => match us, hl with | [_], _ => rfl
  have F4 : Fun K "is_row" "is_row" s_is_row (He.ga K "is_row") fd4 := funD_fun D4
  have b4 := F4.binds (ps := ["thing"]) fun _ _ _ _ _ _ us hl => match us, hl with | [_], _ => rfl
  have F5 : Fun K "check_table" "check_table" s_check_table (He.ga K "check_table") fd5 := funD_fun D5
  have b5 := F5.binds (ps := ["thing"]) fun _ _ _ _ _ _ us hl => match us, hl with | [_], _ => rfl
  have F6 : Fun K "first_signs" "first_signs" s_first_signs (He.ga K "first_signs") fd6 := funD_fun D6
  have b6 := F6.binds (ps := ["table", "rows"]) fun _ _ _ _ _ _ us hl => match us, hl with | [_, _], _ => rfl
  have F7 : Fun K "are_small" "are_small" s_are_small (He.ga K "are_small") fd7 := funD_fun D7
  have b7 := F7.binds (ps := ["totals"]) fun _ _ _ _ _ _ us hl => match us, hl with | [_], _ => rfl
  have F8 : Fun K "book" "book" s_book (He.ga K "book") fd8 := funD_fun D8
  have b8 := F8.binds (ps := ["table"]) fun _ _ _ _ _ _ us hl => match us, hl with | [_], _ => rfl
  have F9 : Fun K "picks" "picks" s_picks (He.ga K "picks") fd9 := funD_fun D9
  have b9 := F9.binds (ps := ["many"]) fun _ _ _ _ _ _ us hl => match us, hl with | [_], _ => rfl
  have F10 : Fun K "is_unimodular" "is_unimodular" s_is_unimodular (He.ga K "is_unimodular") fd10 := funD_fun D10
  have b10 := F10.binds (ps := ["table"]) fun _ _ _ _ _ _ us hl => match us, hl with | [_], _ => rfl
  have F11 : Fun K "_law_source_of" "_law_source_of" s__law_source_of (He.ga K "_law_source_of") fd11 := funD_fun D11
  have b11 := F11.binds (ps := ["_law_cell"]) fun _ _ _ _ _ _ us hl => match us, hl with | [_], _ => rfl
  have F12 : Fun K "_law_next" "_law_next" s__law_next (He.ga K "_law_next") fd12 := funD_fun D12
  have b12 := F12.binds (ps := ["_law_source", "_law_many"]) fun _ _ _ _ _ _ us hl => match us, hl with | [_, _], _ => rfl
  have F13 : Fun K "_law_one" "_law_one" s__law_one (He.ga K "_law_one") fd13 := funD_fun D13
  have b13 := F13.binds (ps := ["_law_source", "_law_some"]) fun _ _ _ _ _ _ us hl => match us, hl with | [_, _], _ => rfl
  have F14 : Fun K "_law_cell_at" "_law_cell_at" s__law_cell_at (He.ga K "_law_cell_at") fd14 := funD_fun D14
  have b14 := F14.binds (ps := ["_law_script", "_law_k"]) fun _ _ _ _ _ _ us hl => match us, hl with | [_, _], _ => rfl
  have F15 : Fun K "_law_mixed" "_law_mixed" s__law_mixed (He.ga K "_law_mixed") fd15 := funD_fun D15
  have b15 := F15.binds (ps := ["_law_source", "_law_some"]) fun _ _ _ _ _ _ us hl => match us, hl with | [_, _], _ => rfl
  have F16 : Fun K "_law_ends" "_law_ends" s__law_ends (He.ga K "_law_ends") fd16 := funD_fun D16
  have b16 := F16.binds (ps := ["_law_source", "_law_many"]) fun _ _ _ _ _ _ us hl => match us, hl with | [_, _], _ => rfl
  have F17 : Fun K "_law_net" "_law_net" s__law_net (He.ga K "_law_net") fd17 := funD_fun D17
  have b17 := F17.binds (ps := ["_law_ends_here", "_law_arcs"]) fun _ _ _ _ _ _ us hl => match us, hl with | [_, _], _ => rfl
  have F18 : Fun K "_law_net_drawn" "_law_net_drawn" s__law_net_drawn (He.ga K "_law_net_drawn") fd18 := funD_fun D18
  have b18 := F18.binds (ps := ["_law_source", "_law_many", "_law_wide"]) fun _ _ _ _ _ _ us hl => match us, hl with | [_, _, _], _ => rfl
  have F19 : Fun K "_law_stretches" "_law_stretches" s__law_stretches (He.ga K "_law_stretches") fd19 := funD_fun D19
  have b19 := F19.binds (ps := ["_law_source", "_law_many", "_law_wide"]) fun _ _ _ _ _ _ us hl => match us, hl with | [_, _, _], _ => rfl
  have F20 : Fun K "_law_swung" "_law_swung" s__law_swung (He.ga K "_law_swung") fd20 := funD_fun D20
  have b20 := F20.binds (ps := ["_law_source", "_law_table_here"]) fun _ _ _ _ _ _ us hl => match us, hl with | [_, _], _ => rfl
  have F21 : Fun K "_law_table" "_law_table" s__law_table (He.ga K "_law_table") fd21 := funD_fun D21
  have b21 := F21.binds (ps := ["_law_source", "_law_most"]) fun _ _ _ _ _ _ us hl => match us, hl with | [_, _], _ => rfl
  have F22 : Fun K "_law_picks" "_law_picks" s__law_picks (He.ga K "_law_picks") fd22 := funD_fun D22
  have b22 := F22.binds (ps := ["_law_many"]) fun _ _ _ _ _ _ us hl => match us, hl with | [_], _ => rfl
  have F23 : Fun K "_law_first_signs" "_law_first_signs" s__law_first_signs (He.ga K "_law_first_signs") fd23 := funD_fun D23
  have b23 := F23.binds (ps := ["_law_table_here", "_law_rows"]) fun _ _ _ _ _ _ us hl => match us, hl with | [_, _], _ => rfl
  have F24 : Fun K "_law_said" "_law_said" s__law_said (He.ga K "_law_said") fd24 := funD_fun D24
  have b24 := F24.binds (ps := ["_law_table_here"]) fun _ _ _ _ _ _ us hl => match us, hl with | [_], _ => rfl
  have F25 : Fun K "_law_due" "_law_due" s__law_due (He.ga K "_law_due") fd25 := funD_fun D25
  have b25 := F25.binds (ps := ["_law_table_here"]) fun _ _ _ _ _ _ us hl => match us, hl with | [_], _ => rfl
  have F26 : Fun K "law" "law" s_law (He.ga K "law") fd26 := funD_fun D26
  have b26 := F26.binds (ps := ["_law_script"]) fun _ _ _ _ _ _ us hl => match us, hl with | [_], _ => rfl
  obtain ⟨tk_MOST, gk_MOST⟩ := He.int_ok X G (cd.fact 43 (f := .int "MOST" 8) rfl)
  have e := hfa.symm.trans (He.glo_ok X G (cd.fact 24 (f := .glo "law") rfl))
  cases e
  obtain ⟨ocL, odL, kVL, docL, pmL, anL, cdvL, ctL, oslL, eL, lkL, hcL⟩ := F22.ex
  obtain ⟨cL, ecL⟩ := He.codeIn_ref hcL
  subst ecL
  have eC : He.codeOf K ("_law_picks", none) = cL := by
    have lk2 := lkL
    rw [eL] at lk2
    exact He.codeOf_eq (p := ("_law_picks", none)) lk2 rfl
  let T : Txt K mg := {
    f_init_NoPick := (He.fAd K ("NoPick", some "__init__")), fd_init_NoPick := fd0, F_init_NoPick := F0, b_init_NoPick := b0,
    f_init_NotWhole := (He.fAd K ("NotWhole", some "__init__")), fd_init_NotWhole := fd1, F_init_NotWhole := F1, b_init_NotWhole := b1,
    f_is_whole := (He.ga K "is_whole"), fd_is_whole := fd2, F_is_whole := F2, g_is_whole := He.glo_ok X G (cd.fact 0 (f := .glo "is_whole") rfl), k_is_whole := F2.kp, b_is_whole := b2,
    f_is_table := (He.ga K "is_table"), fd_is_table := fd3, F_is_table := F3, g_is_table := He.glo_ok X G (cd.fact 1 (f := .glo "is_table") rfl), k_is_table := F3.kp, b_is_table := b3,
    f_is_row := (He.ga K "is_row"), fd_is_row := fd4, F_is_row := F4, g_is_row := He.glo_ok X G (cd.fact 2 (f := .glo "is_row") rfl), k_is_row := F4.kp, b_is_row := b4,
    f_check_table := (He.ga K "check_table"), fd_check_table := fd5, F_check_table := F5, g_check_table := He.glo_ok X G (cd.fact 3 (f := .glo "check_table") rfl), k_check_table := F5.kp, b_check_table := b5,
    f_first_signs := (He.ga K "first_signs"), fd_first_signs := fd6, F_first_signs := F6, g_first_signs := He.glo_ok X G (cd.fact 4 (f := .glo "first_signs") rfl), k_first_signs := F6.kp, b_first_signs := b6,
    f_are_small := (He.ga K "are_small"), fd_are_small := fd7, F_are_small := F7, g_are_small := He.glo_ok X G (cd.fact 5 (f := .glo "are_small") rfl), k_are_small := F7.kp, b_are_small := b7,
    f_book := (He.ga K "book"), fd_book := fd8, F_book := F8, g_book := He.glo_ok X G (cd.fact 6 (f := .glo "book") rfl), k_book := F8.kp, b_book := b8,
    f_picks := (He.ga K "picks"), fd_picks := fd9, F_picks := F9, g_picks := He.glo_ok X G (cd.fact 7 (f := .glo "picks") rfl), k_picks := F9.kp, b_picks := b9,
    f_is_unimodular := (He.ga K "is_unimodular"), fd_is_unimodular := fd10, F_is_unimodular := F10, g_is_unimodular := He.glo_ok X G (cd.fact 8 (f := .glo "is_unimodular") rfl), k_is_unimodular := F10.kp, b_is_unimodular := b10,
    f__law_source_of := (He.ga K "_law_source_of"), fd__law_source_of := fd11, F__law_source_of := F11, g__law_source_of := He.glo_ok X G (cd.fact 9 (f := .glo "_law_source_of") rfl), k__law_source_of := F11.kp, b__law_source_of := b11,
    f__law_next := (He.ga K "_law_next"), fd__law_next := fd12, F__law_next := F12, g__law_next := He.glo_ok X G (cd.fact 10 (f := .glo "_law_next") rfl), k__law_next := F12.kp, b__law_next := b12,
    f__law_one := (He.ga K "_law_one"), fd__law_one := fd13, F__law_one := F13, g__law_one := He.glo_ok X G (cd.fact 11 (f := .glo "_law_one") rfl), k__law_one := F13.kp, b__law_one := b13,
    f__law_cell_at := (He.ga K "_law_cell_at"), fd__law_cell_at := fd14, F__law_cell_at := F14, g__law_cell_at := He.glo_ok X G (cd.fact 12 (f := .glo "_law_cell_at") rfl), k__law_cell_at := F14.kp, b__law_cell_at := b14,
    f__law_mixed := (He.ga K "_law_mixed"), fd__law_mixed := fd15, F__law_mixed := F15, g__law_mixed := He.glo_ok X G (cd.fact 13 (f := .glo "_law_mixed") rfl), k__law_mixed := F15.kp, b__law_mixed := b15,
    f__law_ends := (He.ga K "_law_ends"), fd__law_ends := fd16, F__law_ends := F16, g__law_ends := He.glo_ok X G (cd.fact 14 (f := .glo "_law_ends") rfl), k__law_ends := F16.kp, b__law_ends := b16,
    f__law_net := (He.ga K "_law_net"), fd__law_net := fd17, F__law_net := F17, g__law_net := He.glo_ok X G (cd.fact 15 (f := .glo "_law_net") rfl), k__law_net := F17.kp, b__law_net := b17,
    f__law_net_drawn := (He.ga K "_law_net_drawn"), fd__law_net_drawn := fd18, F__law_net_drawn := F18, g__law_net_drawn := He.glo_ok X G (cd.fact 16 (f := .glo "_law_net_drawn") rfl), k__law_net_drawn := F18.kp, b__law_net_drawn := b18,
    f__law_stretches := (He.ga K "_law_stretches"), fd__law_stretches := fd19, F__law_stretches := F19, g__law_stretches := He.glo_ok X G (cd.fact 17 (f := .glo "_law_stretches") rfl), k__law_stretches := F19.kp, b__law_stretches := b19,
    f__law_swung := (He.ga K "_law_swung"), fd__law_swung := fd20, F__law_swung := F20, g__law_swung := He.glo_ok X G (cd.fact 18 (f := .glo "_law_swung") rfl), k__law_swung := F20.kp, b__law_swung := b20,
    f__law_table := (He.ga K "_law_table"), fd__law_table := fd21, F__law_table := F21, g__law_table := He.glo_ok X G (cd.fact 19 (f := .glo "_law_table") rfl), k__law_table := F21.kp, b__law_table := b21,
    f__law_picks := (He.ga K "_law_picks"), fd__law_picks := fd22, F__law_picks := F22, g__law_picks := He.glo_ok X G (cd.fact 20 (f := .glo "_law_picks") rfl), k__law_picks := F22.kp, b__law_picks := b22,
    f__law_first_signs := (He.ga K "_law_first_signs"), fd__law_first_signs := fd23, F__law_first_signs := F23, g__law_first_signs := He.glo_ok X G (cd.fact 21 (f := .glo "_law_first_signs") rfl), k__law_first_signs := F23.kp, b__law_first_signs := b23,
    f__law_said := (He.ga K "_law_said"), fd__law_said := fd24, F__law_said := F24, g__law_said := He.glo_ok X G (cd.fact 22 (f := .glo "_law_said") rfl), k__law_said := F24.kp, b__law_said := b24,
    f__law_due := (He.ga K "_law_due"), fd__law_due := fd25, F__law_due := F25, g__law_due := He.glo_ok X G (cd.fact 23 (f := .glo "_law_due") rfl), k__law_due := F25.kp, b__law_due := b25,
    f_law := (He.ga K "law"), fd_law := fd26, F_law := F26, g_law := He.glo_ok X G (cd.fact 24 (f := .glo "law") rfl), k_law := F26.kp, b_law := b26,
    f_SignError := He.ga K "SignError", g_SignError := He.glo_ok X G (cd.fact 25 (f := .glo "SignError") rfl),
    f_BadTable := He.ga K "BadTable", g_BadTable := He.glo_ok X G (cd.fact 26 (f := .glo "BadTable") rfl),
    f_NotPlain := He.ga K "NotPlain", g_NotPlain := He.glo_ok X G (cd.fact 27 (f := .glo "NotPlain") rfl),
    f_NoPick := He.ga K "NoPick", g_NoPick := He.glo_ok X G (cd.fact 28 (f := .glo "NoPick") rfl),
    f_NotWhole := He.ga K "NotWhole", g_NotWhole := He.glo_ok X G (cd.fact 29 (f := .glo "NotWhole") rfl),
    n_all := He.free_ok X G (cd.fact 30 (f := .free "all") rfl),
    n_bool := He.free_ok X G (cd.fact 31 (f := .free "bool") rfl),
    n_enumerate := He.free_ok X G (cd.fact 32 (f := .free "enumerate") rfl),
    n_int := He.free_ok X G (cd.fact 33 (f := .free "int") rfl),
    n_isinstance := He.free_ok X G (cd.fact 34 (f := .free "isinstance") rfl),
    n_len := He.free_ok X G (cd.fact 35 (f := .free "len") rfl),
    n_list := He.free_ok X G (cd.fact 36 (f := .free "list") rfl),
    n_max := He.free_ok X G (cd.fact 37 (f := .free "max") rfl),
    n_min := He.free_ok X G (cd.fact 38 (f := .free "min") rfl),
    n_range := He.free_ok X G (cd.fact 39 (f := .free "range") rfl),
    n_sorted := He.free_ok X G (cd.fact 40 (f := .free "sorted") rfl),
    n_tuple := He.free_ok X G (cd.fact 41 (f := .free "tuple") rfl),
    n_zip := He.free_ok X G (cd.fact 42 (f := .free "zip") rfl),
    t_MOST := tk_MOST, g_MOST := gk_MOST,
    g_combinations := PySem.W.mg_of X G (of_decide_eq_true (ex_at ce 0 rfl)),
    k_SignError := of_decide_eq_true (ex_at ce 1 rfl),
    ex_SignError := of_decide_eq_true (ex_at ce 2 rfl),
    tx_SignError := of_decide_eq_true (ex_at ce 3 rfl),
    k_BadTable := of_decide_eq_true (ex_at ce 4 rfl),
    ex_BadTable := of_decide_eq_true (ex_at ce 5 rfl),
    tx_BadTable := of_decide_eq_true (ex_at ce 6 rfl),
    x_BadTable := of_decide_eq_true (ex_at ce 7 rfl),
    k_NotPlain := of_decide_eq_true (ex_at ce 8 rfl),
    ex_NotPlain := of_decide_eq_true (ex_at ce 9 rfl),
    tx_NotPlain := of_decide_eq_true (ex_at ce 10 rfl),
    x_NotPlain := of_decide_eq_true (ex_at ce 11 rfl),
    k_NoPick := of_decide_eq_true (ex_at ce 12 rfl),
    ex_NoPick := of_decide_eq_true (ex_at ce 13 rfl),
    tx_NoPick := of_decide_eq_true (ex_at ce 14 rfl),
    k_NotWhole := of_decide_eq_true (ex_at ce 15 rfl),
    ex_NotWhole := of_decide_eq_true (ex_at ce 16 rfl),
    tx_NotWhole := of_decide_eq_true (ex_at ce 17 rfl),
    rd_SignError := of_decide_eq_true (ex_at ce 18 rfl),
    ga_SignError := of_decide_eq_true (ex_at ce 19 rfl),
    fi_SignError := fiB_ok (ex_at ce 20 rfl),
    own_NoPick := ownB_ok (ex_at ce 21 rfl),
    i_NoPick := of_decide_eq_true (ex_at ce 22 rfl),
    ty_NoPick := of_decide_eq_true (ex_at ce 23 rfl),
    no_NoPick := of_decide_eq_true (ex_at ce 24 rfl),
    own_NotWhole := ownB_ok (ex_at ce 25 rfl),
    i_NotWhole := of_decide_eq_true (ex_at ce 26 rfl),
    ty_NotWhole := of_decide_eq_true (ex_at ce 27 rfl),
    no_NotWhole := of_decide_eq_true (ex_at ce 28 rfl),
    xf_NotWhole := xfB_ok (ex_at ce 29 rfl),
    ec_NotWhole := ecB_ok (ex_at ce 30 rfl),
    exm_NotWhole := of_decide_eq_true (ex_at ce 31 rfl),
    kit_NotWhole_NotWhole := of_decide_eq_true (ex_at ce 32 rfl),
    kit_NotWhole_BadTable := of_decide_eq_true (ex_at ce 33 rfl),
    kit_NotWhole_NoPick := of_decide_eq_true (ex_at ce 34 rfl),
    kit_NotWhole_NotPlain := of_decide_eq_true (ex_at ce 35 rfl),
    c_law := cL, P_law := He.tabOf K cL, lkL := ⟨ocL, odL, kVL, docL, pmL, anL, ctL, oslL, eL, lkL, hcL⟩ }
  have m0 : (("_law_picks", none) : He.Defn) ∈ tfL := List.mem_singleton.mpr rfl
  have q1 := c.empty _ m0
  have q2 := c.out _ m0
  have q3 := c.hd _ m0
  have eT : He.cT K ("_law_picks", none) = (cL, He.tabOf K cL) := by unfold He.cT; rw [eC]
  rw [eT] at q1 q2 q3
  refine ⟨fd26, [(cL, He.tabOf K cL)], sp_law K (He.tabOf K cL), fun p hp => ?_, fun p hp => ?_, fun p hp => ?_, ?_, ?_, ?_⟩
  · rw [List.mem_singleton.mp hp]; exact q1
  · rw [List.mem_singleton.mp hp]; exact q2
  · rw [List.mem_singleton.mp hp]; exact PySem.W.codeHd_of_K X q3
  · intro s u; exact FunD.bindsA (ps := ["_law_script"]) D26 (fun _ _ _ _ _ _ us hl => match us, hl with | [_], _ => rfl) s [u] rfl
  · intro H a ns hl hbits hP hS; exact ⟨a, ns, rfl, hS, hl, hP _ (List.mem_singleton.mpr rfl), fun _ => rfl⟩
  · intro base _ _ hB; exact ok_law (base := base) T (hB _ (List.mem_singleton.mpr rfl))
end SbE17
open PySem PySem.W PySem.Calls PyProof.Rows
set_option maxRecDepth 100000 in
set_option maxHeartbeats 0 in
theorem PySem.Challenge.cw_signbook_k17_books_holds : PySem.Challenge.rw_signbook_k17_books.Holds := by
  w_on; o_law
  refine HandSHeadRun.head_imp (r := OpenLaw.row PySem.Challenge.rw_signbook_k17_books) (q := view (OpenLaw.row PySem.Challenge.rw_signbook_k17_books).prog [0, 36]) (H := SbE17.hkL) (ob := SbE17.obL) (M := 60000) (loose := SbE17.looseL) (d := HandSHeadRun.topDef (OpenLaw.row PySem.Challenge.rw_signbook_k17_books).prog 36) (kwd := []) SbE17.ob_eqL
    SbE17.runL (by kernel_rfl) (by kernel_rfl) (by kernel_rfl) (by rfl) (by first | assumption | decide +kernel) (by decide +kernel) ⟨rfl, rfl, rfl, rfl, rfl, by decide +kernel⟩ ?hw ?hc
  case hw => w_witness2
  case hc =>
    refine LamX.walk_ofTsE (l := PySem.Challenge.rw_signbook_k17_books) (n := 63) (k := 7) (x := "_law_script") (CX := fun _ => L2.CX0) rfl (by decide) (by kernel_rfl) ⟨rfl, by decide, by decide⟩ ?F (fun _ _ _ _ _ z => z)
    intro w mg fa h Y G hmg0
    obtain ⟨K, KX, c⟩ := Y
    have hmg : mg ("law" : PySem.Str) = some (.ref fa) := by
      have e : (HandSHeadRun.topDef (OpenLaw.row PySem.Challenge.rw_signbook_k17_books).prog 36).name = ("law" : PySem.Str) := by kernel_rfl
      rw [← e]
      exact hmg0
    exact ⟨K, KX, SbE17.factsL KX G hmg c⟩
