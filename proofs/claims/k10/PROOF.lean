import PyProof.Rows.All
import HandS.ExcInit
import KE.KExcInit
import HandS.WordsExc
import HandS.ExcIs
import HandS.ExcField
import HandS.TryMany
import Wide.All
import OpenK.AllK
import Wide.FinOn
import HandS.WordsList
import HandS.Comp
import HandS.Wide
import HandS.WideBits
import PySem.Challenge.RW_fewheld_k10_rows_refused
import HandS.Call
import HandS.Lambda
import PyProof.ReprRoads
import HandS.Evl
import HandS.Text
import HandS.Conv
import PyProof.ListStr
import HandS.Walk
import HandS.IsInst
import HandS.Iter
import KE.GoesEnum
import HandS.Replace
import HandS.ExcBuiltin
import HandS.GenBody
import HandS.GenYield
import HandS.GenList
import HandS.Defaults
import PyProof.StrBlock2
import HandS.List
import HandS.EndTab
import KE.KNest
import KE.KNestM
set_option Elab.async false
set_option linter.all false
set_option maxRecDepth 100000
set_option maxHeartbeats 4000000
namespace Lw
open PySem PySem.Spec PyProof.Rows L2 Builtin Builtin.ObjectAttr
/-- an exception class of the program over any built-in one: what the written part says of it -/
structure OxC (K : PySem.W.Frag) (C : Addr) (bmB : List Value) (newId : String) : Prop where
  q : PySem.W.excInitIn K C bmB newId = true
  ov : PySem.W.excOver K C bmB = true
  hd : PySem.W.hasDictIn K C = true
  sa : PySem.W.findIn K (.ref C) "__setattr__" = some (some (.builtin "object.__setattr__"))
  exC : PySem.W.subIn K (.ref C) (.type "BaseException") = some true
  tyC : PySem.W.typeIn K (.ref C) = some (.type "type")
  kC : PySem.W.keepIn K (.ref C) = true
section
variable {prog : Program} {w : World} {A : Around} {R : Result → Shared → Prop} {hp : Heap} {g : Array GenState} {d : Drawn} {t : Nat} {os : OsState} {K : PySem.W.Frag} {B : String} {bmB : List Value}
theorem store_first {name : Str} {tk : Tok} {v : Value} {x C : Addr} {fv : Array Value} (SF : StoreFacts B bmB "object.__setattr__" "object") (KX : K.In hp) (hx : hp.get? x = some { cls := .ref C, data := .fields fv })
    (ov : PySem.W.excOver K C bmB = true) (hd : PySem.W.hasDictIn K C = true) (hno : PySem.W.findIn K (.ref C) name = some none)
    (hq : ∀ h' tk' dx, (∀ b o, b ≠ x → hp.get? b = some o → h'.get? b = some o) → hp.objs.size ≤ dx → dx ≠ x → h'.get? x = some { cls := .ref C, dict := some dx, data := .fields fv } →
      h'.Ns1 dx (fun y => if y = name then some v else none) → R (.ok (.ret .none)) ⟨h', g, d, tk', os⟩) :
    codeAny (model prog w) A (.call (.builtin "object.__setattr__") ⟨[.ref x, .str name tk, v], []⟩) R ⟨hp, g, d, t, os⟩ := by
  have I : PySem.W.InstAt hp x { cls := .ref C, data := .fields fv } C none := ⟨hx, rfl, rfl, trivial⟩
  have ht : PySem.W.takerIn K C name = some none := by unfold PySem.W.takerIn; rw [hno]; rfl
  have nx : x ≠ hp.objs.size := Nat.ne_of_lt (Heap.lt_size hx)
  refine PySem.W.osa_openX (s := ⟨hp, g, d, t, os⟩) SF KX I ov ht fun b => ?_
  obtain ⟨cd, hcd, hh⟩ := PySem.W.any_some hd
  have looks : PySem.W.Looks (model prog w) hp (classData C) cd := PySem.W.looks_clsIn KX hcd
  obtain ⟨nm, bs, mro, ns, qn, hdd, sn, sb, ab, col, del⟩ := cd
  have hh' : hdd = true := hh
  subst hh'
  show wpAny _ _ (storeInOwnDict (.ref x) (.ref C) (.str name tk) name v b) _ _ _
  unfold storeInOwnDict ownDictForStores
  repeat (first
    | with_reducible refine PySem.HandSPX.store_in_new ?_ ?_
    | with_reducible refine wpAny_loadPart_at hx ?_
    | with_reducible refine looks.at ?_
    | wp_step)
  · have e1 : ((hp.push { cls := Value.type "dict", data := Data.dict #[] }).update x fun o => { cls := o.cls, dict := some hp.objs.size, data := o.data, slots := o.slots }).get? hp.objs.size = some { cls := .type "dict", data := .dict #[] } :=
      (Heap.get?_update_ne _ _ _ _ nx.symm).trans (Heap.get?_push_at rfl rfl)
    exact ⟨_, #[], _, e1, rfl, fun e he => absurd he (by simp), fun _ => rfl⟩
  · intro h' tk' hn' hs
    have e2 : (hp.push { cls := .type "dict", data := .dict #[] }).get? x = some { cls := .ref C, data := .fields fv } := Heap.get?_push_of_some _ hx
    have old : ∀ b o, b ≠ x → hp.get? b = some o → h'.get? b = some o := fun b o hb ho => by
      refine (hs.2 b (Nat.ne_of_lt (Heap.lt_size ho))).trans ?_
      exact (Heap.get?_update_ne _ _ _ _ hb).trans (Heap.get?_push_of_some _ ho)
    exact hq h' tk' hp.objs.size old (Nat.le_refl _) nx.symm ((hs.2 x nx).trans (Heap.get?_update_self _ e2 rfl)) hn'
theorem store_next {name : Str} {tk : Tok} {v : Value} {x C dx : Addr} {fv : Array Value} {m0 : Str → Option Value} {nl : List Str} (SF : StoreFacts B bmB "object.__setattr__" "object") (KX : K.In hp)
    (hx : hp.get? x = some { cls := .ref C, dict := some dx, data := .fields fv }) (hns : hp.Ns1 dx m0) (hw : Within m0 nl) (hz : nl.length ≤ 1000)
    (ov : PySem.W.excOver K C bmB = true) (hd : PySem.W.hasDictIn K C = true) (hno : PySem.W.findIn K (.ref C) name = some none)
    (hq : ∀ h' tk', (∀ b o, b ≠ dx → hp.get? b = some o → h'.get? b = some o) → h'.Ns1 dx (fun y => if y = name then some v else m0 y) → R (.ok (.ret .none)) ⟨h', g, d, tk', os⟩) :
    codeAny (model prog w) A (.call (.builtin "object.__setattr__") ⟨[.ref x, .str name tk, v], []⟩) R ⟨hp, g, d, t, os⟩ := by
  obtain ⟨oD, esD, epD, hoD, hdD, _⟩ := hns.count hw
  have I : PySem.W.InstAt hp x { cls := .ref C, dict := some dx, data := .fields fv } C (some oD) := ⟨hx, rfl, rfl, hoD⟩
  have ht : PySem.W.takerIn K C name = some none := by unfold PySem.W.takerIn; rw [hno]; rfl
  refine PySem.W.osa_openX (s := ⟨hp, g, d, t, os⟩) SF KX I ov ht fun b => ?_
  obtain ⟨cd, hcd, hh⟩ := PySem.W.any_some hd
  have looks : PySem.W.Looks (model prog w) hp (classData C) cd := PySem.W.looks_clsIn KX hcd
  obtain ⟨nm, bs, mro, ns, qn, hdd, sn, sb, ab, col, del⟩ := cd
  have hh' : hdd = true := hh
  subst hh'
  show wpAny _ _ (storeInOwnDict (.ref x) (.ref C) (.str name tk) name v b) _ _ _
  unfold storeInOwnDict ownDictForStores
  repeat (first
    | with_reducible refine PySem.OEX.store_in_old hns hw hz ?_
    | with_reducible refine wpAny_loadPart_at hx ?_
    | with_reducible refine looks.at ?_
    | wp_step)
  intro h' tk' hn' hs
  exact hq h' tk' (fun b o hb ho => (hs.2 b hb).trans ho) hn'
end
/-! ### over the abstract heap -/
section
variable {X : Cx} {pins : List (Addr × Obj)} {σ : L2.St} {H : Hp} {s : Shared} {a C dx : Addr} {f : Str} {y : V} {u : Value} {fs : List (Str × V)} {Q : Unit → Shared → Prop} {E : Value → Shared → Prop} {A : Around} {B newId initId : String} {bmB : List Value}
theorem set_first (SF : StoreFacts B bmB "object.__setattr__" "object") (T : OxC X.K C bmB newId) (I : Inv X pins σ H s) (e : H a = some (exo a C none)) (hno : PySem.W.findIn X.K (.ref C) f = some none) (ry : RelV y u)
    (h : ∀ dx s', H dx = none → dx ≠ a → Inv X pins σ (upd (upd H dx (exd dx [(f, y)])) a (exo a C (some dx))) s' → Q () s') : wpAny (model X.prog X.w) A (setAttr (.ref a) f u) Q E s := by
  obtain ⟨t1, ho⟩ := exo_at I.hok e
  obtain ⟨hp, g, d, t, os⟩ := s
  refine PySem.W.set_plain I.kIn (ox := { cls := .ref C, dict := none, data := .fields #[.ref t1, .none, .none, .none, .bool false, .none] }) (od := none) ⟨ho, rfl, rfl, trivial⟩ T.sa ?_
  refine store_first SF I.kIn ho T.ov T.hd hno fun h' tk' dx k dn dne hx hn => ?_
  have hnd : H dx = none := I.hok.fresh dn
  have far : ∀ {b : Addr} {o : Obj}, hp.get? b = some o → b ≠ dx := fun {b o} q => Nat.ne_of_lt (Nat.lt_of_lt_of_le (Heap.lt_size q) dn)
  have na : ∀ {b : Addr}, H b = none → b ≠ a := fun {b} n z => by
    rw [z, e] at n
    cases n
  have U : Un X.fs [] H (upd (upd H dx (exd dx [(f, y)])) a (exo a C (some dx))) hp h' := by
    refine ⟨fun b o q n _ _ => k b o (na n) q, fun b o q n _ _ => ⟨o.slots, k b o (na n) q⟩, fun b o q n _ => ?_, fun b o q _ => ?_, fun b xs q => ?_, fun b o v q => ?_, fun b ps q => ⟨#[], ?_⟩⟩
    · rw [upd_ne (na n), upd_ne (far q)]; exact n
    · by_cases hb : b = a
      · exact ⟨_, by rw [hb]; exact hx⟩
      · exact ⟨o, k b o hb q⟩
    · rw [upd_ne (at_ne e q exo_tup), upd_ne (ne_of_none q hnd)]; exact q
    · rw [upd_ne (at_ne e q exo_frz), upd_ne (ne_of_none q hnd)]; exact q
    · rw [upd_ne (at_ne e q exo_tbl), upd_ne (ne_of_none q hnd), q]; simp
  refine h dx _ hnd dne (I.un (t' := tk') U fun b o q => ?_)
  by_cases hb : b = a
  · subst hb
    rw [upd_same] at q
    cases q
    exact exo_ok hx
  · rw [upd_ne hb] at q
    by_cases hd : b = dx
    · subst hd
      rw [upd_same] at q
      cases q
      exact exd_ok hn (relO_put (fs := []) ry fun g => True.intro)
    · rw [upd_ne hd] at q
      refine (I.hok b o q).stay (fun c v hc z => k c v ?_ z) (fun c hc => ?_) (fun c xs hc => ?_)
      · rcases hc with hc | hc
        · rw [hc]; exact hb
        · exact at_ne e hc exo_own
      · rw [upd_ne (at_ne e hc exo_own), upd_ne (ne_of_none hc hnd)]; exact hc
      · rw [upd_ne (at_ne e hc exo_tup), upd_ne (ne_of_none hc hnd)]; exact hc
theorem set_next (SF : StoreFacts B bmB "object.__setattr__" "object") (T : OxC X.K C bmB newId) (I : Inv X pins σ H s) (e : H a = some (exo a C (some dx))) (ed : H dx = some (exd dx fs)) (hl : fs.length ≤ 900) (hno : PySem.W.findIn X.K (.ref C) f = some none) (ry : RelV y u)
    (h : ∀ s', Inv X pins σ (upd H dx (exd dx ((f, y) :: fs))) s' → Q () s') : wpAny (model X.prog X.w) A (setAttr (.ref a) f u) Q E s := by
  obtain ⟨t1, ho⟩ := exo_at I.hok e
  obtain ⟨mA, hns, rel⟩ := exd_at I.hok ed
  have hw := within_of rel
  obtain ⟨hp, g, d, t, os⟩ := s
  obtain ⟨oD, _, _, hoD, _, _⟩ := hns.count hw
  refine PySem.W.set_plain I.kIn (ox := { cls := .ref C, dict := some dx, data := .fields #[.ref t1, .none, .none, .none, .bool false, .none] }) (od := some oD) ⟨ho, rfl, rfl, hoD⟩ T.sa ?_
  refine store_next SF I.kIn ho hns hw (by rw [List.length_map]; omega) T.ov T.hd hno fun h' tk' k hn => ?_
  have there : ∃ o, h'.get? dx = some o := by
    obtain ⟨o, _, _, e', _⟩ := hn
    exact ⟨o, e'⟩
  exact h _ (I.write (t' := tk') (x := dx) (e := dx) (o := exd dx ((f, y) :: fs)) (by rw [ed]; exact True.intro) (.inl rfl) k there (exd_ok hn (relO_put ry rel)))
/-- self.f = e in the __init__ of such a class -/
def tSetX (C : Addr) (f : Str) (to te : TE) : TS := fun D σ H => te σ H fun y H1 => to σ H1 fun x H2 => ∃ a : Addr, x = .ref a ∧
  ((H2 a = some (exo a C none) ∧ ∀ dx, H2 dx = none → dx ≠ a → D.nx σ (upd (upd H2 dx (exd dx [(f, y)])) a (exo a C (some dx)))) ∨
    ∃ (dx : Addr) (fs : List (Str × V)), H2 a = some (exo a C (some dx)) ∧ H2 dx = some (exd dx fs) ∧ fs.length ≤ 900 ∧ D.nx σ (upd H2 dx (exd dx ((f, y) :: fs))))
theorem ps_setX {o e : Expr} {to te : TE} {p' pos : Pos} (SF : StoreFacts B bmB "object.__setattr__" "object") (T : OxC X.K C bmB newId) (hno : PySem.W.findIn X.K (.ref C) f = some none) (ho : PE X o to) (he : PE X e te)
    (hs : swapsWith e (some (.Attribute o f p')) pos.line X.env = pure false := by rfl) : PS X (.Assign [.Attribute o f p'] e pos) (tSetX C f to te) := by
  refine ⟨fun pins s σ H D I h => ?_⟩
  refine plainObj_wpAny_Assign_Attribute (thn (he.run pins s σ H _ I h) fun v s1 ⟨y, H1, I1, r1, q1⟩ => thn (ho.run pins s1 σ H1 _ I1 q1) fun u s2 ⟨x, H2, I2, r2, a, ex, q⟩ => ?_) hs
  subst ex
  obtain rfl : u = Value.ref a := r2
  rcases q with ⟨ea, q⟩ | ⟨dx, fs, ea, ed, hl, q⟩
  · exact set_first SF T I2 ea hno r1 fun dx s' n ne J => ⟨σ, _, J, q dx n ne⟩
  · exact set_next SF T I2 ea ed hl hno r1 fun s' J => ⟨σ, _, J, q⟩
/-- C(e, ..) by its own __init__ that keeps sp -/
theorem pmk_x {CX : CXT} {x : Str} {fI : Addr} {k : Nat} {fd : FuncData} {ps : List Str} {sp : Sp} {e : Expr} {es : List Expr} {ta : TA} {p pos : Pos} (FB : ExcBaseFacts B newId initId bmB) (T : OxC X.K C bmB newId) (iC : PySem.W.findIn X.K (.ref C) "__init__" = some (some (.ref fI))) (tI : PySem.W.typeIn X.K (.ref fI) = some (.type "function"))
    (F1 : FnOk X.prog X.w X.K X.mg X.base CX k fI fd ps sp) (hr : Room (k + 1) X.A) (hb : Binds X.K fd ps []) (hx : Passes CX X (fun _ _ _ => False)) (hg : Gl X x) (hm : X.mg x = some (.ref C)) (ha : PA X (e :: es) ta)
    (hdb : (x == ("__debug__" : Str)) = false := by decide) (he : starEach (e :: es) X.env = (false, eval e X.env) :: starEach es X.env := by rfl) (hpl : (backTo pos (starEach es X.env)).any (·.1) = false := by rfl) :
    PMk X (.Call (.Name x p) (e :: es) [] pos) (tMkO C sp [] ta) := by
  intro pins s σ H Q I h
  refine wpAny_Call_Name_kw (ld_glob I hg hm ?_ hdb)
  refine PySem.W.callWith_K (h₀ := X.base) I.ok.mod.kin T.kC (thn (ha.run pos pins s σ H _ I h) fun us s1 ⟨vs, H1, I1, r1, hz, q1⟩ => ⟨I1.kIn, ?_⟩) he hpl
  show wpAny _ _ (call (.ref C) us) _ _ _
  obtain ⟨nm, N, qn, bs, bm, hdct, sn, sub, ab, col, dd, k0, k1, k2, k3, k5, hC, hT⟩ := PySem.W.excInit_of I1.kIn T.q
  obtain ⟨hp, g, dr, tk, os⟩ := s1
  have hsz : hp.objs.size ≤ hp.objs.size + 1 := Nat.le_succ _
  have hn : H1 (hp.objs.size + 1) = none := I1.hok.fresh hsz
  have hq := q1 (hp.objs.size + 1) hn
  have kk : ∀ b o, hp.get? b = some o → ((hp.push (PySem.W.kdv_tup us)).push (PySem.HandSPX.excO C hp.objs.size)).get? b = some o := fun b o e => Heap.get?_push_of_some _ (Heap.get?_push_of_some _ e)
  have hget : ((hp.push (PySem.W.kdv_tup us)).push (PySem.HandSPX.excO C hp.objs.size)).get? (hp.objs.size + 1) = some (PySem.HandSPX.excO C hp.objs.size) := by heap_get
  have I2 : Inv X pins σ (upd H1 (hp.objs.size + 1) (exo (hp.objs.size + 1) C none)) ⟨(hp.push (PySem.W.kdv_tup us)).push (PySem.HandSPX.excO C hp.objs.size), g, dr, tk, os⟩ :=
    I1.laid (t' := tk) kk hsz (exo_ok hget)
  rw [List.append_nil] at hq
  have r2 : Vals (V.ref (hp.objs.size + 1) :: vs) (Value.ref (hp.objs.size + 1) :: us) := .cons rfl r1
  have hl : (Value.ref (hp.objs.size + 1) :: us ++ []).length = ps.length := by
    have e := r2.length
    rw [F1.len _ _ _ _ hq] at e
    rw [List.append_nil]
    exact e.symm
  have hbt := hb ⟨(hp.push (PySem.W.kdv_tup us)).push (PySem.HandSPX.excO C hp.objs.size), g, dr, tk, os⟩ (Value.ref (hp.objs.size + 1) :: us) I2.kIn hl
  rw [List.append_nil] at hbt
  have hus : us.length ≤ sizeLine := by
    rw [← Paired.length r1, sizeLine_eq]
    omega
  refine wpAny_call (PySem.HandSPX.call_own FB hT hC (PySem.W.looks_findIn I1.kIn iC) (fun self => PySem.W.bind_fn I1.kIn self tI) hus (codeAny_mono
    (F1.run _ X.stack _ _ ⟨Value.ref (hp.objs.size + 1) :: us, []⟩ (Value.ref (hp.objs.size + 1) :: us) _ _ (fun _ _ _ => False) (hr.make C us []) (I2.env0.make C us []) hbt r2 hq) fun r s' hq' => ?_))
  cases r with
  | error er => exact hx pins σ _ _ er s' I2 hq'
  | ok fl =>
    cases fl with
    | next => exact False.elim hq'
    | brk => exact False.elim hq'
    | cont => exact False.elim hq'
    | ret u =>
      obtain ⟨v, H2, os2, bare2, un2, hok2, rv, ev, d, fs, ea, ed, hd1, q2⟩ := hq'
      subst ev
      obtain ⟨h2, g2, d2, t2, os'⟩ := s'
      exact ⟨rv, mk_end (raises_own T.exC T.tyC) I1 hsz kk un2 hok2 os2 bare2 ea ed hd1 q2⟩
end
end Lw
set_option Elab.async false
set_option linter.all false
set_option maxRecDepth 100000
set_option maxHeartbeats 4000000
/-! isinstance of a caught own error whose fields are set. -/
namespace Lw
open PySem PySem.Spec PySem.Calls PyProof.Rows L2
section
variable {prog : Program} {w : World} {A : Around} {E : Value → Shared → Prop} {s : Shared} {K : PySem.W.Frag} {x D : Addr} {ox : Obj} {od : Option Obj}
theorem found_data {C : Addr} {nm : Str} {a g : Value} (hc : (PySem.W.clsIn K C).isSome = true) (ha : PySem.W.findIn K (.ref C) nm = some (some a)) (hg : PySem.W.specialIn K a "__get__" = some (some g)) (ht : PySem.W.takesIn K a = some true) :
    PySem.W.findObj K C od nm = some (.bind g a) := by
  obtain ⟨cd, ec⟩ := Option.isSome_iff_exists.mp hc
  simp [PySem.W.findObj, ec, ha, hg, ht]
theorem class_of_error {Q : Option Value → Shared → Prop} (T : ExcC K D) (kin : K.In s.heap) (at0 : PySem.W.InstAt s.heap x ox D od) (done : Q (some (.ref D)) { s with toks := s.toks + 1 }) :
    wpAny (model prog w) A (getAttr? (.ref x) "__class__") Q E s := by
  have hsome : (PySem.W.clsIn K D).isSome = true := by
    obtain ⟨cd, e, _⟩ := PySem.W.any_some T.hd
    rw [e]
    rfl
  obtain ⟨hp, gg, dd, tt, oo⟩ := s
  have lt := at0.type (M := model prog w)
  have lga := PySem.W.looks_findIn (M := model prog w) kin T.hg
  have lgt := PySem.W.looks_findIn (M := model prog w) kin T.hk
  have lf := PySem.W.looks_find (M := model prog w) kin at0 (found_data (od := od) hsome T.ha T.hn T.ht)
  have lsub : PySem.W.Looks (model prog w) hp (isInstance (.ref x) (.type "BaseException")) true := lt.andThen (PySem.W.looks_subIn kin T.hs)
  have n1 : (Value.builtin "BaseException.__getattribute__" == Value.builtin "object.__getattribute__") = false := by decide +kernel
  have n2 : ¬ ((onTheHeap (Value.ref D) && Value.builtin "BaseException.__getattribute__" == Value.builtin "object.__getattribute__") = true) := by
    rw [n1]
    exact Bool.false_ne_true
  unfold getAttr? getAttrBy? getAttrBy
  refine wpAny_bind (wpAny_mkText (wpAny_bind (wpAny_attempt (wpAny_holding (wpAny_bind (lt.at (wpAny_bind (lga.at ?_))))))))
  refine PySem.W.KFB.if_not (Bool.eq_false_iff.mpr n2) ?_
  unfold getAttrByItsOwn hookBefore
  refine wpAny_bind (PySem.W.KFB.if_so rfl ?_)
  refine lgt.at (wpAny_bind (wpAny_attempt (wpAny_holding ?_)))
  unfold callGetattribute
  refine PySem.W.KFB.if_not rfl ?_
  unfold boundAndCalled
  rw [PySem.F.excAttr_ValueError.ga.bind (.ref x)]
  refine wpAny_bind (wpAny_pure (wpAny_call (codeAny_call_builtin PySem.F.excAttr_ValueError.ga.plain PySem.F.entry_bexc_ga ?_)))
  refine @PySem.W.check_slot (model prog w) _ _ ⟨hp, gg, dd, tt + 1, oo⟩ "BaseException.__getattribute__" "BaseException" "__getattribute__" (.ref x) [.str "__class__" tt] [] _ (by decide +kernel) (by decide +kernel) lsub (PySem.F.args_bexc_ga (.ref x) (.str "__class__" tt)) ?_
  unfold Builtin.«object.__getattribute__»
  refine wpAny_bind (wpAny_of_eq (a := ((Value.ref x : Value), [Value.str "__class__" tt])) (by first | rfl | (simp only [slotArgs]; rfl)) ?_)
  refine wpAny_bind (wpAny_pure (wpAny_bind (lt.at (wpAny_bind (lf.at ?_)))))
  refine wpAny_bind (wpAny_holding (wpAny_call (PySem.W.class_get (s := ⟨hp, gg, dd, tt + 1, oo⟩) (ox := ox) (od := od) kin at0 T.hm ?_)))
  refine wpAny_pure ?_
  show wpAny _ _ (handedOut (.ref D)) _ _ _
  rw [PySem.W.handedOut_of (v := .ref D) rfl]
  first
    | exact wpAny_pure (wpAny_pure done)
    | exact wpAny_pure done
    | exact wpAny_pure (wpAny_bind (wpAny_pure (wpAny_pure done)))
theorem kit_error (T : ExcC K D) : PySem.W.KitX K (.ref x) (.ref D) (fun h => PySem.W.InstAt h x ox D od) where
  ty := fun _ _ _ at0 => at0.type
  it := fun _ _ kin _ => by
    obtain ⟨cd, e, _⟩ := PySem.W.any_some T.hd
    unfold PySem.W.clsIn at e
    split at e
    · rename_i c1 d1 k1 l1 ho
      exact fun A1 Q1 E1 s1 keep z => by unfold isType loadHead; exact wpAny_bind (wpAny_loadPart (keep _ _ (kin _ _ ho)) (wpAny_pure z))
    · cases e
  ne := fun h tp d2 its n sl kin htp => (PySem.W.handS_kitx_exc (x := x) (ox := ox) T.hg T.hk T.hs T.hd T.ha T.hn T.ht T.hm).ne h tp d2 its n sl kin htp
  ca := fun kin at0 k => class_of_error T kin at0 k
end
/-- isinstance(e, c), e the exception that the suite holds: its fields are set -/
def rIsX (K : PySem.W.Frag) (D a : Addr) (cls : Value) (d : Option Addr) : List V → Hp → VK → Prop := fun xs H Q => ∃ (c : V) (cv : Value) (b : Bool) (dd : Addr) (fs : List (Str × V)), xs = [.ref a, c] ∧ cls = .ref D ∧ d = some dd ∧ H dd = some (.xd fs) ∧ (∀ u, RelV c u → u = cv) ∧ PySem.W.kitOne K (.ref D) cv = some b ∧ Q (.bl b) H
theorem call_isX {X : Cx} {a D : Addr} {oe : Obj} {cls : Value} {d : Option Addr} {pn : List (Addr × Obj)} (T : ExcC X.K D) (hz : Zc cls d oe) (hf : ∃ vs, oe.data = .fields vs) : CallR (X.suite a ((a, oe) :: pn)) (.builtin "isinstance") (rIsX X.K D a cls d) := by
  intro pins s σ H xs us Q I r h
  obtain ⟨c, cv, b, dd, fs, rfl, rfl, rfl, hd, hcv, e, q⟩ := h
  obtain ⟨u1, u2, rfl, r1, r2⟩ := vals2 r
  cases (show u1 = Value.ref a from r1)
  cases hcv _ r2
  obtain ⟨ha, _⟩ := I.pin (a, oe) (List.mem_append_left _ List.mem_cons_self)
  obtain ⟨vs, hv⟩ := hf
  have hx : ObjOk X.prog X.w H s.heap dd (.xd fs) := I.hok dd _ hd
  obtain ⟨mA, hns, _⟩ := hx
  obtain ⟨o2, ho, _⟩ := lookIn_ns hns
  have at0 : PySem.W.InstAt s.heap a oe D (some o2) := ⟨ha, hz.1, by unfold PySem.W.notCls; rw [hv] <;> rfl, by rw [hz.2]; exact ho⟩
  exact PySem.W.kia_one (kit_error T) I.kIn at0 e (fun z => nomatch z) fun tk => ⟨.bl b, H, I.kept (t' := tk) fun _ _ z => z, rfl, q⟩
end Lw
set_option Elab.async false
set_option linter.all false
set_option maxRecDepth 100000
set_option maxHeartbeats 4000000
/-! several except clauses, each of which binds its error to the same name -/
namespace Lw
open PySem PySem.Spec PyProof.Rows L2
abbrev Clause := Value × (Addr → Value → Option Addr → TS)
/-- behind such a clause the name is gone again -/
def gone (i : Nat) (D : Ends) : Ends := { nx := fun σ' H' => D.nx (σ'.set i none) H', rt := D.rt, bk := fun σ' H' => D.bk (σ'.set i none) H', ct := fun σ' H' => D.ct (σ'.set i none) H' }
def wEach (K : PySem.W.Frag) (L i : Nat) (out : WX) (D : Ends) : List Clause → WX
  | [] => out
  | c :: more => fun cls d σ H => ∃ b, PySem.W.exmOne K cls c.1 = some b ∧ (b = true → ∀ a, H a = none → σ.length = L → c.2 a cls d (gone i D) (σ.set i (some (.ref a))) H) ∧ (b = false → wEach K L i out D more cls d σ H)
inductive Clauses (X : Cx) (n : Str) : List ExceptHandler → List Clause → Prop
  | none : Clauses X n [] []
  | one {x : Str} {c : Value} {ts : Addr → Value → Option Addr → TS} {st : Stmt} {sts : List Stmt} {p1 p2 : Pos} {hs : List ExceptHandler} {cs : List Clause} (nm : Names X x c)
      (su : ∀ (a : Addr) (oe : Obj) (cls : Value) (d : Option Addr) (pn : List (Addr × Obj)), Zc cls d oe → (∃ vs, oe.data = .fields vs) → PSs (X.suite a ((a, oe) :: pn)) (st :: sts) (ts a cls d)) (more : Clauses X n hs cs) :
      Clauses X n (.ExceptHandler (some (.Name x p1)) (some n) (st :: sts) p2 :: hs) ((c, ts) :: cs)
section
variable {X : Cx} {n : Str} {i : Nat} {body : List Stmt} {h0 : ExceptHandler} {hs : List ExceptHandler} {cs : List Clause} {pos : Pos} {tb : WX → TS} {out : WX}
theorem ps_try_each (st0 : X.stack = X.env :: X.outer) (fr0 : X.env.frame = some X.env.locals) (nd : X.N.Nodup) (hi : X.N[i]? = some n) (ln : X.env.kindOf n = some .local) (tk : Takes X out)
    (hb : ∀ (W : WX) (pn : List (Addr × Obj)) (xe : Value → Shared → Prop), Takes (X.tr pn xe) W → PassesOwn (model X.prog X.w) X.A X.env xe → PSs (X.tr pn xe) body (tb W))
    (hk : Clauses X n (h0 :: hs) cs) : PS X (.Try body (h0 :: hs) [] [] pos) (fun D σ H => tb (wEach X.K X.N.length i out D cs) D σ H) := by
  constructor
  intro pins s σ H D I ht
  have ok := I.ok
  have frs0 : X.A.frames = some (X.env :: X.outer) := ok.frames.trans (congrArg some st0)
  let caught : Value → Shared → Prop := fun e s1 => wpAny (model X.prog X.w) X.A (noteFrame e X.env) (fun _ s2 => wpAny (model X.prog X.w) X.A (setFlight e none) (fun _ s3 =>
    wpAny (model X.prog X.w) X.A (handleBy e X.env (h0 :: hs)) (SP X pins D) X.xe s3) X.xe s2) X.xe s1
  have took : Takes (X.tr (X.pn ++ pins) caught) (wEach X.K X.N.length i out D cs) := by
    rintro u s1 ⟨a, B, sI, pinsA, σA, HA, cls, d, rfl, JA, nb, up, sky, na, os, ag, wish⟩
    have J : Inv X pins σA HA sI := JA.ofTry ok
    have sky1 : Sky B (X.env :: X.outer) a (Zc cls d) X.env.locals s1.heap := st0 ▸ sky
    refine Sky.land Zc.steady frs0 fr0 sky1 fun hA flA upA => ?_
    have JL : Inv X pins σA HA { s1 with heap := hA } := J.landed nb flA.1 (up.trans upA) os ag
    obtain ⟨oeA, vsA, getA, zA, dataA⟩ := flA.there
    have far : a ∉ frs (X.env :: X.outer) := fun hm => by
      obtain ⟨_, o1, e1, nf⟩ := flA.2.2.1.mem hm
      cases getA.symm.trans e1
      exact nf _ dataA
    have farL : a ≠ X.env.locals := fun z => far (List.mem_filterMap.mpr ⟨X.env, List.mem_cons_self .., fr0.trans (congrArg some z.symm)⟩)
    have farF : a ∉ X.fs := fun hm => by
      obtain ⟨e1, m1, q1⟩ := List.mem_filterMap.mp hm
      exact far (List.mem_filterMap.mpr ⟨e1, List.mem_cons_of_mem _ m1, q1⟩)
    have SL := JL.suite getA dataA na farL farF
    clear ht
    suffices go : ∀ {hs1 : List ExceptHandler} {cs1 : List Clause}, Clauses X n hs1 cs1 → wEach X.K X.N.length i out D cs1 cls d σA HA → wpAny (model X.prog X.w) X.A (handleBy (.ref a) X.env hs1) (SP X pins D) X.xe { s1 with heap := hA } from go hk wish
    intro hs1 cs1 hk1
    induction hk1 with
    | none =>
      intro wish1
      refine wpAny_handleBy_nil ?_
      obtain ⟨_, _, _, oeB, vsB, T, oT, tsB, getB, _, dataB, oneB, _⟩ := id flA
      unfold PySem.passOn
      refine wpAny_bind (wpAny_field getB dataB oneB ?_)
      rw [if_neg (by simp)]
      have leaves : wpAny (model X.prog X.w) X.A (setFlight (.ref a) X.env.frame) (fun _ s4 => wpAny (model X.prog X.w) X.A (throw (.ref a) : Sem Flow) (SP X pins D) X.xe s4) X.xe { s1 with heap := hA } := by
        rw [fr0]
        exact HandSPX.setFlight_upZ flA fun hB held upB => wpAny_throw (tk _ _ ⟨a, B, sI, pins, σA, HA, cls, d, rfl, J, nb, (up.trans upA).trans upB, .inr (.inr (st0.symm ▸ held)), na, os, ag, wish1⟩)
      first
        | exact wpAny_bind leaves
        | exact wpAny_bind (wpAny_pure (wpAny_bind leaves))
    | @one x c ts st sts p1 p2 hs2 cs2 nm su more ih =>
      rintro ⟨b, eb, yes, no⟩
      refine wpAny_handleBy_cons (codeAny_handlers_test ?_) (fun q => nomatch q)
      have kindA : PySem.W.Looks (model X.prog X.w) hA (typeOf (.ref a)) cls := fun _ _ _ _ kp q => wpAny_typeOf_ref (kp _ _ getA) (zA.1.symm ▸ q)
      have asks := PySem.W.exm_one (M := model X.prog X.w) JL.kIn kindA eb
      have named : ∀ {Q1 E1 : Value → Shared → Prop}, Q1 c { s1 with heap := hA } → wpAny (model X.prog X.w) (X.A.mark (some (.ref a))) (eval (.Name x p1) X.env) Q1 E1 { s1 with heap := hA } := fun {Q1 E1} q => by
        obtain ⟨g1, g2, g3⟩ := nm
        rcases g3 with g3 | ⟨g3, g4, g5⟩
        · exact ld_glob (X := X.suite a ((a, oeA) :: (X.pn ++ pins))) SL g1 g3 q g2
        · exact ld_blt (X := X.suite a ((a, oeA) :: (X.pn ++ pins))) SL g1 g3 g4 q g5 g2
      refine named (asks.here ?_)
      cases b with
      | false =>
        show wpAny _ X.A (handleBy (.ref a) X.env hs2) _ _ _
        exact ih (no rfl)
      | true =>
        refine codeAny_handlers_suite_as ?_
        refine HandSPX.lands_againZ flA fun hC flC upC => ?_
        have JC : Inv X pins σA HA { s1 with heap := hC } := J.landed nb flC.1 ((up.trans upA).trans upC) os ag
        obtain ⟨oeC, vsC, getC, zC, dataC⟩ := flC.there
        refine store_ok (X := X.suite a ((a, oeC) :: (X.pn ++ pins))) (v := .ref a) (JC.suite getC dataC na farL farF) nd hi (.inl ln) rfl (fun s5 S5 => ?_) (.inr ln)
        refine wpAny_mono ((su a oeC cls d (X.pn ++ pins) zC ⟨_, dataC⟩).run [] s5 _ HA _ S5 (yes rfl a na J.len)) ?_ (fun _ _ z => z.elim)
        intro f s6 q6
        have over : ∀ {σ6 : L2.St} {H6 : Hp} {Q1 : Shared → Prop}, Inv (X.suite a ((a, oeC) :: (X.pn ++ pins))) [] σ6 H6 s6 → (∀ s7, Inv X pins (σ6.set i none) H6 s7 → Q1 s7) →
            wpAny (model X.prog X.w) X.A (do bindName X.env n .none; unbindBehindTheSuite X.env n p2) (fun _ s7 => Q1 s7) X.xe s6 := fun {σ6 H6 Q1} S6 k => gone_ok (S6.unsuite ok) nd hi ln k
        cases f with
        | next => obtain ⟨σ6, H6, S6, w6⟩ := q6; exact over S6 fun s7 J7 => ⟨_, _, J7, w6⟩
        | brk => obtain ⟨σ6, H6, S6, w6⟩ := q6; exact over S6 fun s7 J7 => ⟨_, _, J7, w6⟩
        | cont => obtain ⟨σ6, H6, S6, w6⟩ := q6; exact over S6 fun s7 J7 => ⟨_, _, J7, w6⟩
        | ret u => obtain ⟨v6, σ6, H6, S6, r6, w6⟩ := q6; exact over S6 fun s7 J7 => ⟨_, _, _, J7, r6, w6⟩
  refine wpAny_Try_except (wpAny_mono ((hb _ (X.pn ++ pins) caught took PassesOwn.looking).run [] s σ H D (I.toTry _) ht) ?_ fun _ _ z => z)
  intro f s1 q
  cases f with
  | next => obtain ⟨σ1, H1, J1, w1⟩ := q; exact wpAny_execs_nil ⟨σ1, H1, J1.ofTry ok, w1⟩
  | brk => obtain ⟨σ1, H1, J1, w1⟩ := q; exact ⟨σ1, H1, J1.ofTry ok, w1⟩
  | cont => obtain ⟨σ1, H1, J1, w1⟩ := q; exact ⟨σ1, H1, J1.ofTry ok, w1⟩
  | ret u => obtain ⟨v1, σ1, H1, J1, r1, w1⟩ := q; exact ⟨v1, σ1, H1, J1.ofTry ok, r1, w1⟩
end
end Lw
set_option Elab.async false
set_option linter.all false
set_option maxRecDepth 100000
set_option maxHeartbeats 4000000
namespace Lw
open PySem PySem.Spec PyProof.Rows L2
def topS (i : Nat) : Stmt := PySem.Challenge.pw_fewheld_k10_rows_refused.main.body.getD i (.Pass ⟨0, 0, 0, 0⟩)
abbrev sPot : Stmt := topS 29
abbrev sDraw : Stmt := topS 30
/-- everything that was tracked stands, but the pot -/
def But (p : Addr) (H H' : Hp) : Prop := ∀ b o, b ≠ p → H b = some o → H' b = some o
theorem But.refl (p : Addr) (H : Hp) : But p H H := fun _ _ _ h => h
theorem But.trans {p : Addr} {H H1 H2 : Hp} (a : But p H H1) (b : But p H1 H2) : But p H H2 := fun c o n h => b c o n (a c o n h)
theorem But.of {p : Addr} {H H' : Hp} (a : Same H H') : But p H H' := fun c o _ h => a c o h
theorem But.set {p : Addr} {H H' : Hp} {o : HO} (a : But p H H') : But p H (upd H' p o) := fun c u n h => by
  rw [upd_ne n]; exact a c u n h
theorem But.new {p q : Addr} {H H' : Hp} {o : HO} (a : But p H H') (hq : H' q = none) : But p H (upd H' q o) := fun c u n h => by
  rw [upd_ne (ne_of_none (a c u n h) hq)]; exact a c u n h
/-- the pot at p: what is left of its digits, and the mixed number -/
def Pot (H : Hp) (p : Addr) : Prop := ∃ a b : Int, H p = some (.lst [.int a, .int b]) ∧ 0 ≤ a ∧ 0 ≤ b ∧ b < 2147483648
theorem Pot.mk {H : Hp} {p : Addr} {a b : Int} (ha : 0 ≤ a) (hb : 0 ≤ b) (hb2 : b < 2147483648) : Pot (upd H p (.lst [.int a, .int b])) p := ⟨a, b, upd_same, ha, hb, hb2⟩
theorem at0 {a b : V} : atI [a, b] 0 = some a := rfl
theorem at1 {a b : V} : atI [a, b] 1 = some b := rfl
/-- the built-ins that the law's helpers name, none of which the module hides -/
structure Bl (mg : Str → Option Value) : Prop where
  divmod : mg "divmod" = none
  int : mg "int" = none
  len : mg "len" = none
  abs : mg "abs" = none
  max : mg "max" = none
  min : mg "min" = none
  list : mg "list" = none
  range : mg "range" = none
  sorted : mg "sorted" = none
  all : mg "all" = none
  isinstance : mg "isinstance" = none
  str : mg "str" = none
  bool : mg "bool" = none
  zip : mg "zip" = none
  repr : mg "repr" = none
theorem divp_small {i j : Int} (hj : 0 < j) (h : j.natAbs < 2 ^ 128) : CDivP i j := by
  refine ⟨hj, ?_⟩
  have e : j.natAbs.log2 < 128 := (Nat.log2_lt (by omega)).mpr h
  unfold Builtin.divisionGoesByPylong
  show (decide ((if j == 0 then 0 else j.natAbs.log2 / 30 + 1) > 300) && _) = false
  have z : ¬ ((if j == 0 then 0 else j.natAbs.log2 / 30 + 1) > 300) := by
    split <;> omega
  rw [decide_eq_false z, Bool.false_and]
section
variable {P : Program} {w : World} {K : PySem.W.Frag} {mg : Str → Option Value} {base : Heap}
def spDraw : Sp := fun vs H Q _ => ∃ (p : Addr) (n : Int), vs = [.ref p, .int n] ∧ Pot H p ∧ 0 < n ∧ n.natAbs < 2 ^ 128 ∧
  ∀ (d : Int) (H' : Hp), 0 ≤ d → d < n → But p H H' → Pot H' p → Q (.int d) H'
theorem scDraw : FnScope ["_law_pot_here", "_law_span", "_law_digit"] ["_law_pot_here", "_law_span"] (defScope sDraw) := ⟨rfl, rfl, rfl, by decide +kernel, rfl, by decide +kernel, by decide +kernel⟩
theorem ok_draw {f : Addr} {fd : FuncData} {k : Nat} (F : Fun K "_law_draw" "_law_draw" sDraw f fd) (B : Bl mg) : FnOk P w K mg base CX0 (k + 1) f fd ["_law_pot_here", "_law_span"] spDraw := by
  refine F.ok scDraw (fun vs H Q E h => ?_) (fun cdv A outer s H vs Q E hr h => ?_)
  · obtain ⟨p, n, rfl, _⟩ := h
    rfl
  · obtain ⟨p, n, rfl, ⟨a, b, hp, ha, hb, hb2⟩, hn, hn2, k⟩ := h
    refine ⟨_, pss_cons (ps_if (pt_cmpR op_gt (pe_ix ix_list (pv 0) pe_int (fun _ _ => rfl)) pe_int (nomark _))
        (pss_cons (ps_asg (pe_callB call_divmodW (by rfl) B.divmod (by decide +kernel) (pa_cons (pe_ix ix_list (pv 0) pe_int (fun _ _ => rfl)) (pa_cons (pv 1) pa_nil)))
            (pg_tup (by rfl) (pgs_cons (pg_sub (pv 0) pe_int set_list) (pgs_cons (pg_name (i := 2) scDraw.nd rfl (.inl rfl)) pgs_nil))))
          (pss_one (ps_ret (pv 2)))) pss_nil)
      (pss_cons (ps_asg (pe_op op_mod (pe_callTy call_int1 (by rfl) B.int (by decide +kernel) (pa_cons (pe_op op_add (pe_op op_mul (pe_ix ix_list (pv 0) pe_int (fun _ _ => rfl)) pe_int) pe_int) pa_nil)) pe_int)
          (pg_sub (pv 0) pe_int set_list))
      (pss_one (ps_ret (pe_op op_mod (pe_callTy call_int1 (by rfl) B.int (by decide +kernel) (pa_cons (pe_op op_fdiv (pe_op op_mod
          (pe_callTy call_int1 (by rfl) B.int (by decide +kernel) (pa_cons (pe_op op_mulW (pe_ix ix_list (pv 0) pe_int (fun _ _ => rfl)) (pe_ix ix_list (pv 0) pe_int (fun _ _ => rfl))) pa_nil)) pe_int) pe_int) pa_nil)) (pv 1))))), ?_⟩
    refine ⟨_, rfl, p, _, _, _, rfl, rfl, .inl (.inl hp), at0, _, _, rfl, rfl, _, rfl, ?_⟩
    refine ite2 (fun c => ?_) (fun c => ?_)
    · have c := of_decide_eq_true c
      refine ⟨_, rfl, p, _, _, _, rfl, rfl, .inl (.inl hp), at0, _, rfl, _, _, rfl, divp_small hn hn2, fun t nt => ?_⟩
      have npt : p ≠ t := ne_of_none hp nt
      refine ⟨t, _, rfl, .inl (.inl upd_same), rfl, _, _, rfl, _, rfl, p, _, _, 0, rfl, rfl, (by rw [upd_ne npt]; exact hp), rfl, ?_⟩
      refine ⟨_, _, rfl, rfl, ?_⟩
      refine ⟨_, rfl, ?_⟩
      exact k _ _ (Int.emod_nonneg a (by omega)) (Int.emod_lt_of_pos a hn) ((But.new (But.refl p H) nt).set) (Pot.mk (Int.ediv_nonneg ha (by omega)) hb hb2)
    · have e1 : 0 ≤ (b * 48271 + 12161) % 2147483587 := Int.emod_nonneg _ (by decide)
      have e2 : (b * 48271 + 12161) % 2147483587 < 2147483587 := Int.emod_lt_of_pos _ (by decide)
      refine ⟨_, rfl, p, _, _, _, rfl, rfl, .inl (.inl hp), at1, _, _, rfl, rfl, .inl ⟨by omega, by omega⟩, _, _, rfl, rfl, .inl ⟨_, rfl, ?_⟩⟩
      refine ⟨_, _, rfl, rfl, (by show (0 : Int) < 2147483587; decide), ?_⟩
      refine ⟨_, rfl, p, _, _, 1, rfl, rfl, hp, rfl, ?_⟩
      refine ⟨_, rfl, p, _, _, _, rfl, rfl, .inl (.inl upd_same), at1, _, rfl, p, _, _, _, rfl, rfl, .inl (.inl upd_same), at1, _, _, rfl, rfl, ?_, .inl ⟨_, rfl, ?_⟩⟩
      · exact wide_mul (a := 64) (b := 64) (by omega) (by omega) (by decide) (by decide) (by decide)
      refine ⟨_, _, rfl, rfl, (by show (0 : Int) < 2147483549; decide), _, _, rfl, rfl, ⟨by decide, by decide⟩, .inl ⟨_, rfl, _, rfl, _, _, rfl, rfl, hn, ?_⟩⟩
      exact k _ _ (Int.emod_nonneg _ (by omega)) (Int.emod_lt_of_pos _ hn) (But.refl p H).set (Pot.mk ha e1 (by omega))
end
end Lw
set_option Elab.async false
set_option linter.all false
set_option maxRecDepth 100000
set_option maxHeartbeats 4000000
/-! repr of a list of plain values: the guards of the surroundings are carried along. -/
namespace Lw
open PySem PySem.Spec PyProof.Rows L2
/-! ### a def whose promise wants that no repr is under way -/
/-- as FnOk, where no repr is under way -/
structure FnG (P : Program) (w : World) (K : PySem.W.Frag) (mg : Str → Option Value) (base : Heap) (CX : CXT) (k : Nat) (f : Addr) (fd : FuncData) (ps : List Str) (sp : Sp) : Prop where
  size : ∀ vs H Q E, sp vs H Q E → vs.length = ps.length
  goes : ∀ (A : Around) (outer : List Env) (s : Shared) (H : Hp) (us : List Value) (vs : List V) (Q : VK) (E : XK), A.guards = some [] → Room k A → Env0 P w K mg base A outer s H → BindsTo s fd ⟨us, []⟩ (ps.zip us) → Vals vs us → sp vs H Q E →
    codeAny (model P w) A (.call (.ref f) ⟨us, []⟩) (CR CX outer P w H s Q E) s
section
variable {P : Program} {w : World} {K : PySem.W.Frag} {mg : Str → Option Value} {base : Heap}
theorem guards_in {A : Around} (h : A.guards = some []) (env : Env) : (A.deeper env).guards = some [] := h
theorem fng_of {CX : CXT} {x qual : Str} {st : Stmt} {f : Addr} {fd : FuncData} {N ps : List Str} {k : Nat} {sp : Sp} (F : L2.Fun K x qual st f fd) (S : FnScope N ps (defScope st)) (size : ∀ vs H Q E, sp vs H Q E → vs.length = ps.length)
    (hb : ∀ (cdv : Value) (A : Around) (outer : List Env) (s : Shared) (H : Hp) (vs : List V) (Q : VK) (E : XK), A.guards = some [] → Room k (A.deeper (envOfC qual (defScope st) s.heap.objs.size f cdv)) → sp vs H Q E →
      ∃ t, PSs (cxOf CX P w K mg base N qual (defScope st) f cdv A outer s H E) (defBody st) t ∧ t { nx := fun _ H' => Q .non H', rt := Q } (start N vs) H) : FnG P w K mg base CX (k + 1) f fd ps sp := by
  obtain ⟨oc, od, kV, doc, pm, an, cdv, ct, osl, rfl, lk, hcd⟩ := F.ex
  exact ⟨size, fun A outer s H us vs Q E g hr e0 bt r h => LamX.run_ofS lk hcd S hr e0 bt r (size _ _ _ _ h) fun hr' => hb cdv A outer s H vs Q E g hr' h⟩
/-- the same of a def that lets no exception out -/
theorem fng_of0 {x qual : Str} {st : Stmt} {f : Addr} {fd : FuncData} {N ps : List Str} {k : Nat} {sp : Sp} (F : L2.Fun K x qual st f fd) (S : FnScope N ps (defScope st)) (size : ∀ vs H Q E, sp vs H Q E → vs.length = ps.length)
    (hb : ∀ (cdv : Value) (A : Around) (outer : List Env) (s : Shared) (H : Hp) (vs : List V) (Q : VK) (E : XK), A.guards = some [] → Room k (A.deeper (envOfC qual (defScope st) s.heap.objs.size f cdv)) → sp vs H Q E →
      ∃ t, PSs (cxOf CX0 P w K mg base N qual (defScope st) f cdv A outer s H E).nox (defBody st) t ∧ t { nx := fun _ H' => Q .non H', rt := Q } (start N vs) H) : FnG P w K mg base CX0 (k + 1) f fd ps sp := by
  refine fng_of F S size fun cdv A outer s H vs Q E g hr h => ?_
  obtain ⟨t, h1, h2⟩ := hb cdv A outer s H vs Q E g hr h
  exact ⟨t, h1.nox, h2⟩
end
section
variable {X : Cx} {CX : CXT} {k : Nat} {f : Addr} {fd : FuncData} {ps : List Str} {sp : Sp} {E : XK} {x : Str} {p pos : Pos} {e : Expr} {es : List Expr} {t : TA}
theorem pe_callG (gd : X.A.guards = some []) (F : FnG X.prog X.w X.K X.mg X.base CX k f fd ps sp) (hr : Room k X.A) (hg : Gl X x) (hm : X.mg x = some (.ref f)) (hk : PySem.W.keepIn X.K (.ref f) = true) (hb : Binds X.K fd ps []) (hx : Passes CX X E)
    (ha : PA X (e :: es) t) (hdb : (x == ("__debug__" : Str)) = false := by decide) (he : starEach (e :: es) X.env = (false, eval e X.env) :: starEach es X.env := by rfl) (hpl : (backTo pos (starEach es X.env)).any (·.1) = false := by rfl) :
    PE X (.Call (.Name x p) (e :: es) [] pos) (tCall sp [] E t) := by
  constructor
  intro pins s σ H Q I h
  refine wpAny_Call_Name_kw (ld_glob I hg hm (PySem.W.callWith_K (h₀ := X.base) I.ok.mod.kin hk ?_ he hpl) hdb)
  refine thn (ha.run pos pins s σ H _ I h) ?_
  rintro us s1 ⟨vs, H1, I1, r, q⟩
  refine ⟨I1.kIn, ?_⟩
  rw [List.append_nil] at q
  have hl : us.length = ps.length := r.length.symm.trans (F.size _ _ _ _ q)
  have bt : BindsTo s1 fd ⟨us, []⟩ (ps.zip us) := by
    have z := hb s1 us I1.kIn (by rw [List.append_nil]; exact hl)
    rw [List.append_nil] at z
    exact z
  refine wpAny_call (codeAny_mono (F.goes X.A X.stack s1 H1 us vs Q E gd hr I1.env0 bt r q) ?_)
  intro o s' ho
  cases o with
  | error ex => exact hx pins σ H1 s1 ex s' I1 ho
  | ok fl =>
    cases fl with
    | ret u => exact I1.after ho
    | next => exact ho.elim
    | brk => exact ho.elim
    | cont => exact ho.elim
end
/-! ### what a list of plain values shows -/
/-- a value without parts -/
inductive Flat : V → PyData → Prop where
  | non : Flat .non .none
  | bl (b : Bool) : Flat (.bl b) (.bool b)
  | int (i : Int) : Flat (.int i) (.int i)
  | str (z : Str) : Flat (.str z) (.str z)
/-- a value without parts, a list or tuple of such, an empty dict; none of its lists is at p -/
inductive Item (p : Addr) (H : Hp) : V → PyData → Prop where
  | flat {v : V} {d : PyData} (h : Flat v d) : Item p H v d
  | lst {a : Addr} {xs : List V} {ds : List PyData} (e : H a = some (.lst xs)) (n : a ≠ p) (h : Paired Flat xs ds) : Item p H (.ref a) (.list ds)
  | tup {a : Addr} {xs : List V} {ds : List PyData} (e : H a = some (.tup xs)) (n : a ≠ p) (h : Paired Flat xs ds) : Item p H (.ref a) (.tuple ds)
  | dict {a : Addr} (e : H a = some (.dK [])) (n : a ≠ p) : Item p H (.ref a) (.dict [])
theorem Item.but {p : Addr} {H H' : Hp} {v : V} {d : PyData} (b : But p H H') (h : Item p H v d) : Item p H' v d := by
  cases h with
  | flat h => exact .flat h
  | lst e n h => exact .lst (b _ _ n e) n h
  | tup e n h => exact .tup (b _ _ n e) n h
  | dict e n => exact .dict (b _ _ n e) n
theorem Flat.reads {h : Heap} {v : V} {d : PyData} {u : Value} (f : Flat v d) (r : RelV v u) : Reads h u d [] := by
  cases f with
  | non => cases (show u = Value.none from r); exact .none
  | bl b => cases (show u = Value.bool b from r); exact .bool b
  | int i => obtain ⟨t, q⟩ := (show ∃ t, u = Value.int i t from r); cases q; exact .int i t
  | str z => obtain ⟨t, q⟩ := (show ∃ t, u = Value.str z t from r); cases q; exact .str z t
theorem Flat.plain {v : V} {d : PyData} (f : Flat v d) : d.hasDict = false := by
  cases f <;> rfl
theorem flats {h : Heap} : ∀ {xs : List V} {ds : List PyData} {us : List Value}, Paired Flat xs ds → Vals xs us → ReadsAll h us ds [] ∧ PyData.hasDictAll ds = false
  | [], _, _, .nil, .nil => ⟨.nil, rfl⟩
  | _ :: _, _, _, .cons f fs, .cons r rs => by
    obtain ⟨h1, h2⟩ := flats fs rs
    refine ⟨.cons (f.reads r) h1, ?_⟩
    simp only [PyData.hasDictAll, f.plain, h2, Bool.or_self]
section
variable {X : Cx} {pins : List (Addr × Obj)} {σ : L2.St} {H : Hp} {s : Shared}
/-- no list -/
def noL : PyData → Bool
  | .list _ => false
  | _ => true
theorem Item.reads {p : Addr} {v : V} {d : PyData} {u : Value} (I : Inv X pins σ H s) (it : Item p H v d) (r : RelV v u) : ∃ as, Reads s.heap u d as ∧ (noL d = true → sysModules ∉ as) := by
  cases it with
  | flat f => exact ⟨[], f.reads r, fun _ hm => absurd hm List.not_mem_nil⟩
  | @lst a xs ds e n f =>
    cases (show u = Value.ref a from r)
    obtain ⟨_, its, k, rv, ho⟩ : xs.length ≤ sizeLine ∧ ∃ (its : List Value) (n : Nat), Vals xs its ∧ s.heap.get? a = some { cls := .type "list", data := .seq its.toArray n } := I.hok a _ e
    obtain ⟨h1, h2⟩ := flats f rv
    exact ⟨[a], .list ho rfl rfl h1, fun hd => (by cases hd)⟩
  | @tup a xs ds e n f =>
    cases (show u = Value.ref a from r)
    obtain ⟨_, its, rv, o, ho, hc, k, hd⟩ : xs.length ≤ sizeLine ∧ ∃ its : List Value, Vals xs its ∧ IsTup s.heap a its.toArray := I.hok a _ e
    obtain ⟨h1, h2⟩ := flats f rv
    exact ⟨[], .tuple ho hc hd (by exact h1), fun _ hm => absurd hm List.not_mem_nil⟩
  | @dict a e n =>
    cases (show u = Value.ref a from r)
    obtain ⟨_, ns, vs, rel, o, es, ep, ho, hx, hd, _, hp, _⟩ : ([] : List (Key × V)).length ≤ sizeLine ∧ (a == sysModules) = false ∧ ∃ vs, KV ([] : List (Key × V)) vs ∧ s.heap.DictOf (mixKind X.prog X.w) a vs := I.hok a _ e
    cases rel
    have en : es.toList = [] := by
      cases hq : es.toList with
      | nil => rfl
      | cons y ys => rw [hq] at hp; cases hp
    refine ⟨[a] ++ [], .dict (as := []) (bs := []) (kvs := []) ho hx.1 hd (by rw [en]; exact .nil) (by rw [en]; exact .nil), fun _ hm => ?_⟩
    have hm' : sysModules = a := by simpa using hm
    rw [hm'] at ns
    simp at ns
theorem items {p : Addr} (I : Inv X pins σ H s) : ∀ {vs : List V} {ds : List PyData} {us : List Value}, Paired (Item p H) vs ds → Vals vs us → ∃ as, ReadsAll s.heap us ds as ∧ (ds.all noL = true → sysModules ∉ as)
  | [], _, _, .nil, .nil => ⟨[], .nil, fun _ hm => absurd hm List.not_mem_nil⟩
  | _ :: _, _, _, .cons f fs, .cons r rs => by
    obtain ⟨a1, h1, n1⟩ := f.reads I r
    obtain ⟨a2, h2, n2⟩ := items I fs rs
    refine ⟨a1 ++ a2, .cons h1 h2, fun hh hm => ?_⟩
    rw [List.all_cons, Bool.and_eq_true] at hh
    rcases List.mem_append.mp hm with z | z
    · exact n1 hh.1 z
    · exact n2 hh.2 z
/-- what such a row must keep -/
def rowOk (ds : List PyData) : Bool := PyData.showableAll ds && decide (PyData.depthAll ds ≤ 3) && decide ((PyData.shown (.list ds)).length ≤ 1000000) && (!PyData.hasDictAll ds || ds.all noL)
/-- repr of a list of such values, where no repr is under way -/
theorem call_repr_row {k : Nat} (gd : X.A.guards = some []) (hr : Room k X.A) : CallR X (.builtin "repr") (fun xs H Q => ∃ (p a : Addr) (vs : List V) (ds : List PyData), xs = [.ref a] ∧ H a = some (.lst vs) ∧ Paired (Item p H) vs ds ∧
    rowOk ds = true ∧ Q (.str (PyData.shown (.list ds))) H) := by
  intro pins s σ H xs us Q I r h
  obtain ⟨p, a, vs, ds, rfl, ha, it, hk, q⟩ := h
  obtain ⟨u, rfl, ru⟩ := vals1 r
  cases (show u = Value.ref a from ru)
  unfold rowOk at hk
  simp only [Bool.and_eq_true, Bool.or_eq_true, Bool.not_eq_true', decide_eq_true_eq] at hk
  obtain ⟨⟨⟨hs, hd⟩, hl⟩, hn⟩ := hk
  obtain ⟨_, its, j, rv, ho⟩ : vs.length ≤ sizeLine ∧ ∃ (its : List Value) (n : Nat), Vals vs its ∧ s.heap.get? a = some { cls := .type "list", data := .seq its.toArray n } := I.hok a _ ha
  obtain ⟨as, ra, na⟩ := items I it rv
  have hz : (PyData.shown (.list ds)).length ≤ sizeLine := Nat.le_trans hl (by decide)
  have hz' : (listText (PyData.shownAll ds)).length ≤ sizeLine := by simpa only [PyData.shown] using hz
  obtain ⟨bs, hb, hK⟩ := ReprAllK.of_readsAll (prog := X.prog) (w := X.w) ra hs (fun hx => hn.elim (fun z => absurd (hx.symm.trans z) (by decide)) na) (fun t ht => Nat.le_trans (listText_mem_le ht) hz')
  have rl : Reads s.heap (.ref a) (.list ds) (a :: as) := .list ho rfl rfl ra
  have hna : a ∉ bs := not_mem_of_deeper rl (by simp only [PyData.depth]; omega) hb
  have hu := hr.units
  have fin : ∀ h' t tk, (∀ b o, s.heap.get? b = some o → h'.get? b = some o) → EP X pins σ Q (.str (PyData.shown (.list ds)) t) { s with heap := h', toks := tk } := fun h' t tk kp => ⟨.str _, H, I.kept (t' := tk) kp, ⟨t, rfl⟩, q⟩
  have ty : s.TypeIs (.ref a) "list" := ⟨_, ho, rfl⟩
  refine call_repr_slot (by omega) ty F.slot_list_repr.toG ?_
  simp only [PyData.shown] at fin
  cases its with
  | nil =>
    cases ra
    simp only [PyData.shownAll, listText_nil] at fin
    exact call_list_repr_empty ty ho rfl ⟨_, _, rfl, fin _ _ _ fun _ _ e => e⟩
  | cons x l =>
    exact call_list_reprK ho rfl rfl hna (by simpa using hK.length_eq) (fun i y e => hK.item i y (by simpa using e)) (A := X.A.in1) gd (fun b _ => Clear.nil b) (by show X.A.units + 1 + _ < cLine; omega) (fun _ _ e => e) (fun h' t tk kp => ⟨_, _, rfl, fin h' t tk kp⟩) hz'
end
end Lw
set_option Elab.async false
set_option linter.all false
set_option maxRecDepth 100000
set_option maxHeartbeats 4000000
namespace Lw
open PySem PySem.Spec PyProof.Rows L2
abbrev sPick : Stmt := topS 31
theorem SqL.but {K : PySem.W.Frag} {p a : Addr} {xs : List V} {H H' : Hp} (b : But p H H') (n : a ≠ p) (h : SqL K H a xs) : SqL K H' a xs := by
  rcases h with (h | ⟨o, h⟩) | h
  · exact .inl (.inl (b _ _ n h))
  · exact .inl (.inr ⟨o, b _ _ n h⟩)
  · exact .inr h
theorem atI_mem {α : Type} {xs : List α} {d : Int} (h0 : 0 ≤ d) (h1 : d < (xs.length : Int)) : ∃ v, atI xs d = some v ∧ v ∈ xs := by
  have hl : d.toNat < xs.length := by omega
  refine ⟨xs[d.toNat], ?_, List.getElem_mem hl⟩
  unfold atI ixN
  rw [if_pos h0, if_pos h1, Option.bind_some, List.getElem?_eq_getElem hl]
section
variable {P : Program} {w : World} {K : PySem.W.Frag} {mg : Str → Option Value} {base : Heap}
/-- the script's cell, or the number that stands for it -/
def spPot (K : PySem.W.Frag) : Sp := fun vs H Q _ => ∃ (a : Addr) (ns : List Int) (k : Int), vs = [.ref a, .int k] ∧ SqL K H a (ns.map V.int) ∧ ns.length ≤ 63 ∧ 0 ≤ k ∧ k ≤ 10 ∧
  ∀ (p : Addr) (H' : Hp), H p = none → Same H H' → Pot H' p → Q (.ref p) H'
theorem scPot : FnScope ["_law_script", "_law_k", "_law_cell", "_law_mixed_here"] ["_law_script", "_law_k"] (defScope sPot) := ⟨rfl, rfl, rfl, by decide +kernel, rfl, by decide +kernel, by decide +kernel⟩
theorem ok_pot {f : Addr} {fd : FuncData} {k : Nat} (F : Fun K "_law_pot" "_law_pot" sPot f fd) (B : Bl mg) : FnOk P w K mg base CX0 (k + 1) f fd ["_law_script", "_law_k"] (spPot K) := by
  refine F.ok scPot (fun vs H Q E h => ?_) (fun cdv A outer s H vs Q E hr h => ?_)
  · obtain ⟨a, ns, k, rfl, _⟩ := h
    rfl
  · obtain ⟨a, ns, k, rfl, hS, hlen, hk0, hk1, q⟩ := h
    refine ⟨_, pss_cons (ps_set (i := 2) scPot.nd rfl (.inl rfl) (pe_op op_add (pe_op op_mul pe_int (pv 1)) pe_int))
      (Evl.pss_cut (ps_if (pt_cmpR op_lt (pv 1) (pe_callB call_len_seq (by rfl) B.len PySem.boot_len (pa_cons (pv 0) pa_nil)) (nomark _))
          (pss_one (ps_set (i := 2) scPot.nd rfl (.inl rfl) (pe_callB call_abs (by rfl) B.abs (by decide +kernel) (pa_cons (pe_ix ix_list (pv 0) (pv 1) (fun _ _ => rfl)) pa_nil)))) pss_nil)
      (pss_cons (ps_set (i := 3) scPot.nd rfl (.inl rfl) (pe_op op_mul
          (pe_callTy call_int1 (by rfl) B.int (by decide +kernel) (pa_cons (pe_op op_add (pe_op op_mod (pe_callTy call_int1 (by rfl) B.int (by decide +kernel) (pa_cons (pv 2) pa_nil)) pe_int) pe_int) pa_nil))
          (pe_op op_pow (pe_op op_add (pe_op op_mul pe_int (pv 1)) pe_int) pe_int)))
      (pss_one (ps_ret (pe_lst (pa_cons (pe_callB (call_max2 rfl) (by rfl) B.max (by decide +kernel) (pa_cons pe_int (pa_cons (pe_op op_sub (pv 2) (pe_op op_pow pe_int pe_int)) pa_nil)))
        (pa_cons (pe_op op_add (pe_op op_mod (pe_callTy call_int1 (by rfl) B.int (by decide +kernel) (pa_cons (pv 3) pa_nil)) pe_int) pe_int) pa_nil))))))), ?_⟩
    refine ⟨_, rfl, _, _, rfl, rfl, .inl ⟨by omega, by omega⟩, _, _, rfl, rfl, ?_⟩
    refine ⟨fun σ' H' => H' = H ∧ ∃ c : Int, σ' = [some (V.ref a), some (V.int k), some (V.int c), none], ?_, ?_⟩
    · refine ⟨_, rfl, _, rfl, a, _, rfl, .inl hS, _, _, rfl, rfl, _, rfl, ?_⟩
      refine ite2 (fun c => ?_) (fun c => ⟨rfl, _, rfl⟩)
      have c := of_decide_eq_true c
      obtain ⟨v, hv, hm⟩ := atI_mem (xs := ns.map V.int) hk0 c
      obtain ⟨z, _, rfl⟩ := List.mem_map.mp hm
      exact ⟨_, rfl, _, rfl, a, _, _, _, rfl, rfl, hS, hv, _, rfl, rfl, _, rfl⟩
    · rintro σ' H' ⟨rfl, c, rfl⟩
      have e1 : 0 ≤ c % 2147483549 := Int.emod_nonneg _ (by decide)
      have e2 : c % 2147483549 < 2147483549 := Int.emod_lt_of_pos _ (by decide)
      refine ⟨_, rfl, .inl ⟨_, rfl, _, _, rfl, rfl, (by show (0 : Int) < 2147483549; decide), _, _, rfl, rfl, .inl ⟨_, rfl, ?_⟩⟩⟩
      refine ⟨_, rfl, _, _, rfl, rfl, .inl ⟨by omega, by omega⟩, _, _, rfl, rfl, _, _, rfl, rfl, ⟨by decide, by decide, by omega⟩, _, _, rfl, rfl, .inl ⟨by omega, by omega⟩, ?_⟩
      refine ⟨_, rfl, _, _, rfl, rfl, ⟨by decide, by decide, by decide⟩, _, _, rfl, rfl, _, _, rfl, ?_⟩
      refine ⟨_, rfl, .inl ⟨_, rfl, _, _, rfl, rfl, (by show (0 : Int) < 2147483477; decide), _, _, rfl, rfl, ?_⟩⟩
      refine ⟨by show 2 ≤ sizeLine; decide, fun p hp => ?_⟩
      have f1 : ∀ z : Int, 0 ≤ z % 2147483477 ∧ z % 2147483477 < 2147483477 := fun z => ⟨Int.emod_nonneg _ (by decide), Int.emod_lt_of_pos _ (by decide)⟩
      exact q p _ hp (fun b o e => by rw [upd_ne (ne_of_none e hp)]; exact e) (Pot.mk (by split <;> omega) (by have := f1; omega) (by have := f1; omega))
end
end Lw
set_option Elab.async false
set_option linter.all false
set_option maxRecDepth 100000
set_option maxHeartbeats 4000000
namespace Lw
open PySem PySem.Spec PyProof.Rows L2
/-- the signs of a text, each a text of one sign -/
def sgn (c : Nat) : Str := ⟨#[c]⟩
def sgs (x : Str) : List V := x.cps.toList.map fun c => V.str (sgn c)
theorem sgs_len (x : Str) : (sgs x).length = x.length := by
  unfold sgs
  rw [List.length_map]
  simp [Str.length]
section
variable {X : Cx}
theorem call_listS (hc : X.calm = true) : CallR X (.type "list") (fun xs H Q => ∃ z, xs = [.str z] ∧ z.length ≤ sizeLine ∧ ∀ l, H l = none → Q (.ref l) (upd H l (.lst (sgs z)))) := by
  intro pins s σ H xs us Q I r h
  obtain ⟨z, rfl, hz, q⟩ := h
  obtain ⟨u, rfl, t, rfl⟩ := vals1 r
  refine call_list_str (I.ok.hd hc) z t (fun h' tk acc c kp e it => ?_) hz
  have sz : acc.toList.length = z.cps.toList.length := by
    have := it.1
    simpa using this
  have rv : Vals (sgs z) acc.toList := by
    have g := vals_of_get acc.toList (fun j => (sgs z).getD j V.non) (fun j u hu => by
      have hu' : acc[j]? = some u := by rw [← Array.getElem?_toList]; exact hu
      obtain ⟨cc, t2, hc2, rfl⟩ := it.2 j u hu'
      have e2 : (sgs z).getD j V.non = V.str (sgn cc) := by
        unfold sgs
        rw [List.getD_eq_getElem?_getD, List.getElem?_map]
        have : z.cps.toList[j]? = some cc := by rw [Array.getElem?_toList]; exact hc2
        rw [this]
        rfl
      rw [e2]
      exact ⟨t2, rfl⟩)
    have e3 : (List.range acc.toList.length).map (fun j => (sgs z).getD j V.non) = sgs z := by
      apply List.ext_getElem?
      intro j
      rw [List.getElem?_map]
      have ln : (sgs z).length = acc.toList.length := by
        unfold sgs
        rw [List.length_map, sz]
      by_cases hj : j < acc.toList.length
      · rw [List.getElem?_range hj]
        have hj2 : j < (sgs z).length := by omega
        rw [Option.map_some, List.getD_eq_getElem?_getD, List.getElem?_eq_getElem hj2]
        rfl
      · rw [List.getElem?_eq_none (by rw [List.length_range]; omega), List.getElem?_eq_none (by omega)]
        rfl
    rw [e3] at g
    exact g
  refine ⟨.ref s.heap.objs.size, _, I.laid (t' := tk) kp (Nat.le_refl _) (show ObjOk X.prog X.w _ h' _ (.lst (sgs z)) from ⟨by rw [sgs_len]; exact hz, acc.toList, c, rv, ?_⟩), rfl, q _ (I.hok.fresh (Nat.le_refl _))⟩
  rw [e]
end
end Lw
set_option Elab.async false
set_option linter.all false
set_option maxRecDepth 100000
set_option maxHeartbeats 4000000
namespace Lw
open PySem PySem.Spec PyProof.Rows L2
abbrev sMixed : Stmt := topS 32
abbrev sSigns : Stmt := topS 33
section
variable {P : Program} {w : World} {K : PySem.W.Frag} {mg : Str → Option Value} {base : Heap}
/-- one of the items, any -/
def spPick (K : PySem.W.Frag) : Sp := fun vs H Q _ => ∃ (p l : Addr) (xs : List V), vs = [.ref p, .ref l] ∧ Pot H p ∧ l ≠ p ∧ SqL K H l xs ∧ 0 < xs.length ∧ xs.length ≤ 100000 ∧
  ∀ (v : V) (H' : Hp), v ∈ xs → But p H H' → Pot H' p → Q v H'
/-- one sign of a text, any -/
def spPickS : Sp := fun vs H Q _ => ∃ (p : Addr) (z : Str), vs = [.ref p, .str z] ∧ Pot H p ∧ 0 < z.length ∧ z.length ≤ 100000 ∧
  ∀ (c : Nat) (H' : Hp), c ∈ z.cps.toList → But p H H' → Pot H' p → Q (.str (sgn c)) H'
theorem scPick : FnScope ["_law_pot_here", "_law_lot"] ["_law_pot_here", "_law_lot"] (defScope sPick) := ⟨rfl, rfl, rfl, by decide +kernel, rfl, by decide +kernel, by decide +kernel⟩
/-- what the law's helpers need of a def of the module that they call -/
structure Def (P : Program) (w : World) (K : PySem.W.Frag) (mg : Str → Option Value) (base : Heap) (k : Nat) (x : Str) (ps : List Str) (sp : Sp) : Prop where
  ex : ∃ (f : Addr) (fd : FuncData), FnOk P w K mg base CX0 k f fd ps sp ∧ mg x = some (.ref f) ∧ PySem.W.keepIn K (.ref f) = true ∧ Binds K fd ps []
theorem ok_pick {f : Addr} {fd : FuncData} (F : Fun K "_law_pick" "_law_pick" sPick f fd) (B : Bl mg) (D : Def P w K mg base 1 "_law_draw" ["_law_pot_here", "_law_span"] spDraw) : FnOk P w K mg base CX0 2 f fd ["_law_pot_here", "_law_lot"] (spPick K) := by
  obtain ⟨fD, fdD, GD, gD, kD, bD⟩ := D.ex
  refine F.ok scPick (fun vs H Q E h => ?_) (fun cdv A outer s H vs Q E hr h => ?_)
  · obtain ⟨p, l, xs, rfl, _⟩ := h
    rfl
  · obtain ⟨p, l, xs, rfl, hp, hn, hS, h0, h1, q⟩ := h
    refine ⟨_, pss_one (ps_ret (pe_ix ix_list (pv 1) (pe_call GD hr rfl gD kD bD .nil pass0 (pa_cons (pv 0) (pa_cons (pe_callB call_len_seq (by rfl) B.len PySem.boot_len (pa_cons (pv 1) pa_nil)) pa_nil))) (fun _ _ => rfl))), ?_⟩
    refine ⟨_, rfl, _, rfl, _, rfl, l, _, rfl, .inl hS, p, _, rfl, hp, by omega, by omega, fun d H' d0 d1 b hp' => ?_⟩
    obtain ⟨v, hv, hm⟩ := atI_mem (xs := xs) d0 d1
    exact ⟨l, _, _, _, rfl, rfl, SqL.but b hn hS, hv, q v H' hm b hp'⟩
theorem ok_pickS {f : Addr} {fd : FuncData} (F : Fun K "_law_pick" "_law_pick" sPick f fd) (B : Bl mg) (D : Def P w K mg base 1 "_law_draw" ["_law_pot_here", "_law_span"] spDraw) : FnOk P w K mg base CX0 2 f fd ["_law_pot_here", "_law_lot"] spPickS := by
  obtain ⟨fD, fdD, GD, gD, kD, bD⟩ := D.ex
  refine F.ok scPick (fun vs H Q E h => ?_) (fun cdv A outer s H vs Q E hr h => ?_)
  · obtain ⟨p, z, rfl, _⟩ := h
    rfl
  · obtain ⟨p, z, rfl, hp, h0, h1, q⟩ := h
    refine ⟨_, pss_one (ps_ret (pe_ix ix_str (pv 1) (pe_call GD hr rfl gD kD bD .nil pass0 (pa_cons (pv 0) (pa_cons (pe_callB call_len_str (by rfl) B.len PySem.boot_len (pa_cons (pv 1) pa_nil)) pa_nil))) (fun _ _ => rfl))), ?_⟩
    have hz : z.length ≤ sizeLine := Evl.sz_of h1
    refine ⟨_, rfl, _, rfl, _, rfl, z, rfl, hz, p, _, rfl, hp, by omega, by omega, fun d H' d0 d1 b hp' => ?_⟩
    have el : z.cps.toList.length = z.length := by simp [Str.length]
    obtain ⟨c, hc, hm⟩ := atI_mem (xs := z.cps.toList) d0 (by omega)
    exact ⟨z, _, c, rfl, rfl, hz, hc, q c H' hm b hp'⟩
end
end Lw
set_option Elab.async false
set_option linter.all false
set_option maxRecDepth 100000
set_option maxHeartbeats 4000000
namespace Lw
open PySem PySem.Spec PyProof.Rows L2
section
variable {P : Program} {w : World} {K : PySem.W.Frag} {mg : Str → Option Value} {base : Heap}
/-- len of a list or tuple, by name -/
def rLenQ (K : PySem.W.Frag) : List V → Hp → VK → Prop := fun xs H Q => ∃ p ys, xs = [.ref p] ∧ (SqL K H p ys ∨ SqT K H p ys) ∧ Q (.int ys.length) H
/-- what may be walked as a lot: a list or tuple that is read, or a text -/
def Lot (K : PySem.W.Frag) (H : Hp) (v : V) (xs : List V) : Prop := (∃ z, v = .str z ∧ xs = sgs z) ∨ (∃ a, v = .ref a ∧ (SqL K H a xs ∨ SqT K H a xs))
def spMixed (K : PySem.W.Frag) : Sp := fun vs H Q _ => ∃ (p : Addr) (v : V) (xs : List V), vs = [.ref p, v] ∧ Pot H p ∧ v ≠ .ref p ∧ Lot K H v xs ∧ xs.length ≤ 99999 ∧
  ∀ (l : Addr) (out : List V) (H' : Hp), H l = none → l ≠ p → But p H H' → Pot H' p → H' l = some (.lst out) → out.Perm xs → Q (.ref l) H'
theorem scMixed : FnScope ["_law_pot_here", "_law_lot", "_law_pack", "_law_turn"] ["_law_pot_here", "_law_lot"] (defScope sMixed) := ⟨rfl, rfl, rfl, by decide +kernel, rfl, by decide +kernel, by decide +kernel⟩
theorem seqIndex_nat {d : Int} {n : Nat} (h0 : 0 ≤ d) (h1 : d < (n : Int)) : seqIndex? d n = some d.toNat := by
  unfold seqIndex?
  show (if (decide (0 ≤ (if d < 0 then d + n else d)) && decide ((if d < 0 then d + n else d) < n)) = true then _ else _) = _
  rw [if_neg (show ¬ d < 0 by omega), if_pos (by simp; omega)]
theorem Pot.ne {H : Hp} {p l : Addr} (hp : Pot H p) (hl : H l = none) : p ≠ l := by
  obtain ⟨a, b, e, _⟩ := hp
  exact ne_of_none e hl
/-- between two turns: what is out, what is left of the pack -/
def MixInv (p l D : Addr) (H : Hp) (xs : List V) (i : Nat) (H' : Hp) : Prop := ∃ out rst : List V, H' D = some (.lst out) ∧ H' l = some (.lst rst) ∧ out.length = i ∧ (out ++ rst).Perm xs ∧ But p H H' ∧ Pot H' p
theorem small_lt {n : Nat} (h : n < 100000) : n < sizeLine := Evl.sz_lt h
theorem perm_erase : ∀ {l : List V} {i : Nat} (h : i < l.length), ([l[i]] ++ l.eraseIdx i).Perm l
  | a :: l, 0, _ => by simp
  | a :: l, i + 1, h => by
    have h' : i < l.length := by simpa using h
    have ih := perm_erase h'
    simp only [List.getElem_cons_succ, List.eraseIdx_cons_succ, List.cons_append, List.nil_append] at ih ⊢
    exact (List.Perm.swap _ _ _).trans (List.Perm.cons a ih)
theorem mix_end {out rst xs : List V} (ho : out.length = xs.length) (hp : (out ++ rst).Perm xs) : out.Perm xs := by
  have e := hp.length_eq
  rw [List.length_append] at e
  have z : rst = [] := List.eq_nil_of_length_eq_zero (by omega)
  rw [z, List.append_nil] at hp
  exact hp
theorem lenV_of {a : Addr} {xs : List V} {H H' : Hp} (sm : Same H H') (h : SqL K H a xs ∨ SqT K H a xs) : LenV K (.ref a) H' xs.length := by
  rcases h with h | h
  · exact .inl ⟨xs, sm.seq h, rfl⟩
  · refine .inr ⟨xs, ?_, rfl⟩
    rcases h with (h | ⟨o, h⟩) | h
    · exact .inl (.inl (sm _ _ h))
    · exact .inl (.inr ⟨o, sm _ _ h⟩)
    · exact .inr h
theorem mix_turn {p l D : Addr} {H H1 : Hp} {xs : List V} {i : Nat} {v1 v3 : Option V} {x : V} (nDp : D ≠ p) (nlp : l ≠ p) (nlD : l ≠ D) (hlen : xs.length ≤ 99999) (hi : i < xs.length) (hl0 : H l = none) (hD0 : H D = none) (hI : MixInv p l D H xs i H1) :
    gName 3 x (wipe [some (V.ref p), v1, some (V.ref l), v3] [3]) H1 fun σ2 H2 => wipe σ2 [3] = wipe [some (V.ref p), v1, some (V.ref l), v3] [3] ∧ tYes σ2 H2 fun b H3 =>
      if b = true then (tBM K "list" rPopAt (tVar 2) (tCons (tCall spDraw [] E0 (tCons (tVar 0) (tCons (tCB (rLenQ K) (tCons (tVar 2) tNil)) tNil))) tNil)) σ2 H3 fun y H4 => ∃ acc, H4 D = some (.lst acc) ∧ acc.length < sizeLine ∧ MixInv p l D H xs (i + 1) (upd H4 D (.lst (acc ++ [y]))) else MixInv p l D H xs (i + 1) H3 := by
  obtain ⟨out, rst, hD, hl, ho, hperm, hb, hpot⟩ := hI
  have hlr : rst.length = xs.length - i := by
    have := hperm.length_eq
    rw [List.length_append] at this
    omega
  refine ⟨rfl, _, rfl, .inl ⟨rfl, _, .inl (.inl hl)⟩, _, rfl, _, rfl, l, rst, rfl, .inl (.inl (.inl hl)), p, _, rfl, hpot, by omega, by omega, fun d H2 d0 d1 b2 hp2 => ?_⟩
  have hlt : d.toNat < rst.length := by omega
  refine ⟨l, rst, d, d.toNat, rst[d.toNat], rfl, rfl, b2 _ _ nlp hl, by omega, by omega, seqIndex_nat d0 d1, List.getElem?_eq_getElem hlt, ?_⟩
  refine ⟨out, by rw [upd_ne nlD.symm]; exact b2 _ _ nDp hD, small_lt (by omega), ?_⟩
  refine ⟨out ++ [rst[d.toNat]], rst.eraseIdx d.toNat, upd_same, by rw [upd_ne nlD, upd_same], by simp [ho], ?_, ?_, ?_⟩
  · refine List.Perm.trans ?_ hperm
    rw [List.append_assoc]
    exact List.Perm.append_left out (perm_erase hlt)
  · intro b o nb e
    rw [upd_ne (ne_of_none e hD0), upd_ne (ne_of_none e hl0)]
    exact b2 _ _ nb (hb _ _ nb e)
  · obtain ⟨a, b, e, r⟩ := hp2
    exact ⟨a, b, by rw [upd_ne nDp.symm, upd_ne nlp.symm]; exact e, r⟩
theorem ok_mixed {f : Addr} {fd : FuncData} (F : Fun K "_law_mixed" "_law_mixed" sMixed f fd) (B : Bl mg) (D : Def P w K mg base 1 "_law_draw" ["_law_pot_here", "_law_span"] spDraw) : FnOk P w K mg base CX0 2 f fd ["_law_pot_here", "_law_lot"] (spMixed K) := by
  obtain ⟨fD, fdD, GD, gD, kD, bD⟩ := D.ex
  refine F.ok scMixed (fun vs H Q E h => ?_) (fun cdv A outer s H vs Q E hr h => ?_)
  · obtain ⟨p, v, xs, rfl, _⟩ := h
    rfl
  · obtain ⟨p, v, xs, rfl, hp, hn, hL, hlen, q⟩ := h
    refine ⟨_, pss_cons (ps_set (i := 2) scMixed.nd rfl (.inr rfl) (pe_callTy (call_list_of.or (call_listS rfl)) (by rfl) B.list (by decide +kernel) (pa_cons (pv 1) pa_nil)))
      (pss_one (ps_ret (pe_lc (own := [("_law_turn", 3)]) (g := gName 3) (tt := tYes) (te := tBM K "list" rPopAt (tVar 2) (tCons (tCall spDraw [] E0 (tCons (tVar 0) (tCons (tCB (rLenQ K) (tCons (tVar 2) tNil)) tNil))) tNil)) (by rfl) scMixed.nd (pi_range1 (by rfl) B.range (pa_cons (pe_callB call_len (by rfl) B.len PySem.boot_len (pa_cons (pv 1) pa_nil)) pa_nil))
        (blkOk_by (own := [("_law_turn", 3)]) (N := ["_law_pot_here", "_law_lot", "_law_pack", "_law_turn"]) (sc := defScope sMixed) (by decide +kernel)) (fun _ _ _ _ _ => pg_name (i := 3) scMixed.nd rfl (Or.inl rfl)) (fun _ _ _ _ _ => pts_nil)
        (fun _ _ _ _ _ => by exact (pe_bm PySem.F.plainAttrs_list PySem.F.slot_list_pop PySem.F.type_list_pop mt_popAt (pv 2)
          (by exact (pa_cons (pe_call GD hr (by rfl) gD kD bD .nil pass0 (pa_cons (pv 0) (pa_cons (pe_callB call_len_seq (by rfl) B.len PySem.boot_len (pa_cons (pv 2) pa_nil)) pa_nil))) pa_nil))))))), ?_⟩
    have start : ∀ (l D : Addr), H l = none → (upd H l (.lst xs)) D = none → D ≠ p ∧ l ≠ p ∧ l ≠ D ∧ H D = none ∧ MixInv p l D H xs 0 (upd (upd H l (.lst xs)) D (.lst [])) := by
      intro l D hl hD
      have hlD : l ≠ D := fun e => by rw [← e, upd_same] at hD; cases hD
      have hD' : H D = none := by rw [upd_ne hlD.symm] at hD; exact hD
      have npl := Pot.ne hp hl
      have npD := Pot.ne hp hD'
      refine ⟨npD.symm, npl.symm, hlD, hD', [], xs, upd_same, by rw [upd_ne hlD, upd_same], rfl, by simp, ((But.refl p H).new hl).new hD, ?_⟩
      obtain ⟨a, b, e, r⟩ := hp
      exact ⟨a, b, by rw [upd_ne npD, upd_ne npl]; exact e, r⟩
    rcases hL with ⟨z, rfl, rfl⟩ | ⟨a, rfl, hq⟩
    · refine ⟨_, rfl, .inr ⟨z, rfl, Evl.sz_of (by rw [sgs_len] at hlen; omega), fun l hl => ?_⟩⟩
      refine ⟨_, rfl, _, (sgs z).length, rfl, ⟨Evl.sz_of (by rw [sgs_len] at hlen; omega), sgs_len z⟩, _, rfl, by omega, by omega, fun D hD => ?_⟩
      obtain ⟨nDp, nlp, nlD, hD0, st⟩ := start l D hl hD
      refine lc_range (lo := 0) (n := (sgs z).length) (MixInv p l D H (sgs z)) st (fun i H1 hi hI => ?_) (fun H1 hI => ?_)
      · exact mix_turn nDp nlp nlD hlen hi hl hD0 hI
      · obtain ⟨out, rst, hD1, hl1, ho, hperm, hb, hpot⟩ := hI
        exact q D out H1 hD0 nDp hb hpot hD1 (mix_end ho hperm)
    · refine ⟨_, rfl, .inl ⟨a, xs, rfl, hq, fun l hl => ?_⟩⟩
      have sm : Same H (upd H l (.lst xs)) := fun b o e => by rw [upd_ne (ne_of_none e hl)]; exact e
      refine ⟨_, rfl, _, xs.length, rfl, lenV_of (sm := sm) hq, _, rfl, by omega, by omega, fun D hD => ?_⟩
      obtain ⟨nDp, nlp, nlD, hD0, st⟩ := start l D hl hD
      refine lc_range (lo := 0) (n := xs.length) (MixInv p l D H xs) st (fun i H1 hi hI => ?_) (fun H1 hI => ?_)
      · exact mix_turn nDp nlp nlD hlen hi hl hD0 hI
      · obtain ⟨out, rst, hD1, hl1, ho, hperm, hb, hpot⟩ := hI
        exact q D out H1 hD0 nDp hb hpot hD1 (mix_end ho hperm)
end
end Lw
set_option Elab.async false
set_option linter.all false
set_option maxRecDepth 100000
set_option maxHeartbeats 4000000
namespace Lw
open PySem PySem.Spec PyProof.Rows L2
/-- the letters that the law draws -/
def LETS : List Str := ["a", "b", "k", "z", "ab", "ak", "az", "bk", "bz", "kz", "abk", "abz", "akz", "bkz", "abkz"]
def four : List Str := ["a", "b", "k", "z"]
def lists4 : List (List Str) := [[]] ++ four.map (fun x => [x]) ++ four.flatMap (fun x => four.map fun y => [x, y]) ++ four.flatMap (fun x => four.flatMap fun y => four.map fun z => [x, y, z]) ++ four.flatMap (fun x => four.flatMap fun y => four.flatMap fun z => four.map fun u => [x, y, z, u])
theorem in_lists4 {ys : List Str} (h : ∀ y ∈ ys, y ∈ four) (hl : ys.length ≤ 4) : ys ∈ lists4 := by
  unfold lists4
  match ys, hl with
  | [], _ => simp
  | [x], _ => 
    have := h x (by simp)
    simp [this]
  | [x, y], _ =>
    have h1 := h x (by simp)
    have h2 := h y (by simp)
    simp only [List.mem_append, List.mem_flatMap, List.mem_map]
    exact .inl (.inl (.inr ⟨x, h1, y, h2, rfl⟩))
  | [x, y, z], _ =>
    have h1 := h x (by simp)
    have h2 := h y (by simp)
    have h3 := h z (by simp)
    simp only [List.mem_append, List.mem_flatMap, List.mem_map]
    exact .inl (.inr ⟨x, h1, y, h2, z, h3, rfl⟩)
  | [x, y, z, u], _ =>
    have h1 := h x (by simp)
    have h2 := h y (by simp)
    have h3 := h z (by simp)
    have h4 := h u (by simp)
    simp only [List.mem_append, List.mem_flatMap, List.mem_map]
    exact .inr ⟨x, h1, y, h2, z, h3, u, h4, rfl⟩
theorem lists4_ok : ∀ ys ∈ lists4, ys ≠ [] → ys.Nodup → sortedS ys = true → Txt.join "" ys ∈ LETS := by decide +kernel
def unS : V → Str
  | .str z => z
  | _ => ""
theorem un_all : ∀ {l : List V}, (∀ x ∈ l, V.str (unS x) = x) → l = (l.map unS).map V.str
  | [], _ => rfl
  | a :: r, h => by
    rw [List.map_cons, List.map_cons, h a (by simp), ← un_all fun x hx => h x (by simp [hx])]
theorem un_map : ∀ zs : List Str, (zs.map V.str).map unS = zs
  | [] => rfl
  | a :: r => by
    rw [List.map_cons, List.map_cons, un_map r]
    rfl
theorem perm_strs {out : List V} {zs : List Str} (h : out.Perm (zs.map V.str)) : ∃ ws : List Str, out = ws.map V.str ∧ ws.Perm zs := by
  refine ⟨out.map unS, un_all fun x hx => ?_, ?_⟩
  · obtain ⟨z, _, rfl⟩ := List.mem_map.mp (h.mem_iff.mp hx)
    rfl
  · have := h.map unS
    rw [un_map] at this
    exact this
section
variable {P : Program} {w : World} {K : PySem.W.Frag} {mg : Str → Option Value} {base : Heap}
def spSigns : Sp := fun vs H Q _ => ∃ (p : Addr) (n : Int), vs = [.ref p, .int n] ∧ Pot H p ∧ 0 < n ∧ n ≤ 4 ∧
  ∀ (z : Str) (H' : Hp), z ∈ LETS → But p H H' → Pot H' p → Q (.str z) H'
theorem scSigns : FnScope ["_law_pot_here", "_law_few"] ["_law_pot_here", "_law_few"] (defScope sSigns) := ⟨rfl, rfl, rfl, by decide +kernel, rfl, by decide +kernel, by decide +kernel⟩
theorem ok_signs {f : Addr} {fd : FuncData} (F : Fun K "_law_signs" "_law_signs" sSigns f fd) (B : Bl mg) (D : Def P w K mg base 1 "_law_draw" ["_law_pot_here", "_law_span"] spDraw) (M : Def P w K mg base 2 "_law_mixed" ["_law_pot_here", "_law_lot"] (spMixed K)) :
    FnOk P w K mg base CX0 3 f fd ["_law_pot_here", "_law_few"] spSigns := by
  obtain ⟨fD, fdD, GD, gD, kD, bD⟩ := D.ex
  obtain ⟨fM, fdM, GM, gM, kM, bM⟩ := M.ex
  refine F.ok scSigns (fun vs H Q E h => ?_) (fun cdv A outer s H vs Q E hr h => ?_)
  · obtain ⟨p, n, rfl, _⟩ := h
    rfl
  · obtain ⟨p, n, rfl, hp, h0, h1, q⟩ := h
    refine ⟨_, pss_one (ps_ret (pe_join pe_str (pe_callB cr_sortedS (by rfl) B.sorted (by decide +kernel) (by exact (pa_cons (pe_slice sl_list (pe_call GM hr rfl gM kM bM .nil pass0 (pa_cons (pv 0) (pa_cons pe_str pa_nil)))
      po_none (po_some (pe_op op_add pe_int (pe_call GD (hr.mono (by decide)) rfl gD kD bD .nil pass0 (pa_cons (pv 0) (pa_cons (pv 1) pa_nil)))))) pa_nil))))), ?_⟩
    refine ⟨⟨_, rfl⟩, _, rfl, p, .str "abkz", _, rfl, hp, (fun e => nomatch e), .inl ⟨_, rfl, rfl⟩, by decide +kernel, fun l out H1 hl hlp b1 hp1 hl1 pm => ?_⟩
    refine ⟨_, rfl, _, rfl, p, n, rfl, hp1, h0, by omega, fun d H2 d0 d1 b2 hp2 => ?_⟩
    have e4 : sgs "abkz" = four.map V.str := by decide +kernel
    rw [e4] at pm
    obtain ⟨ws, rfl, pw⟩ := perm_strs pm
    refine ⟨_, _, rfl, rfl, _, rfl, l, _, rfl, .inl (.inl (b2 _ _ hlp hl1)), fun c hc => ?_⟩
    have ec : cutV (ws.map V.str) none (some (1 + d)) = (ws.take (1 + d).toNat).map V.str := by
      unfold cutV
      rw [show HT.sIx (ws.map V.str).length 0 none = 0 from rfl]
      have hx : HT.sIx (ws.map V.str).length (ws.map V.str).length (some (1 + d)) = min (1 + d).toNat (ws.map V.str).length := by
        show (if 1 + d < 0 then _ else min (1 + d).toNat (ws.map V.str).length) = _
        rw [if_neg (by omega)]
      rw [hx, List.drop_zero, Nat.sub_zero, List.map_take]
      exact List.take_eq_take_min.symm
    rw [ec]
    have hw4 : ws.length = 4 := pw.length_eq
    have hlt : (ws.take (1 + d).toNat).length = (1 + d).toNat := by
      rw [List.length_take]
      omega
    refine ⟨c, _, rfl, .inl (.inl upd_same), by omega, fun ys y hy1 hy2 hy3 => ?_⟩
    have hm : ∀ x ∈ ys, x ∈ four := fun x hx => pw.mem_iff.mp (List.mem_of_mem_take (hy1.mem_iff.mp hx))
    have hl4 : ys.length = (1 + d).toNat := by rw [hy1.length_eq, hlt]
    have hin := lists4_ok ys (in_lists4 hm (by omega)) (fun e => by rw [e] at hl4; simp at hl4; omega) (hy1.nodup_iff.mpr (List.Sublist.nodup (List.take_sublist _ _) (pw.nodup_iff.mpr (by decide +kernel)))) hy2
    refine ⟨_, y, ys, rfl, rfl, .inl (.inl (.inl upd_same)), ?_, ?_⟩
    · have hs : ∀ zs : List Str, (∀ x ∈ zs, x ∈ four) → (zs.map (·.length)).sum = zs.length := by
        intro zs hz
        induction zs with
        | nil => rfl
        | cons x r ih =>
          have e1 : x.length = 1 := (by decide +kernel : ∀ x ∈ four, x.length = 1) x (hz x (by simp))
          rw [List.map_cons, List.sum_cons, ih (fun u hu => hz u (by simp [hu])), e1, List.length_cons]
          omega
      rw [hs ys hm]
      show ys.length + ys.length * (Str.ofString "").length ≤ _
      have : (Str.ofString "").length = 0 := by decide
      rw [this]
      omega
    · refine q _ _ hin ((((b1.trans b2).new hc)).new hy3) ?_
      obtain ⟨a, b, e, r⟩ := hp2
      have np1 : p ≠ c := ne_of_none e hc
      have e' : (upd H2 c (.lst ((ws.take (1 + d).toNat).map V.str))) p = some (.lst [.int a, .int b]) := by rw [upd_ne np1]; exact e
      exact ⟨a, b, by rw [upd_ne (ne_of_none e' hy3)]; exact e', r⟩
end
end Lw
set_option Elab.async false
set_option linter.all false
set_option maxRecDepth 100000
set_option maxHeartbeats 4000000
namespace Lw
open PySem PySem.Spec PyProof.Rows L2
theorem Same.new' {H H1 : Hp} {q : Addr} {o : HO} (a : Same H H1) (hq : H1 q = none) : Same H (upd H1 q o) := fun c u h => by
  rw [upd_ne (ne_of_none (a c u h) hq)]; exact a c u h
/-- a change at a place that H doesn't know -/
theorem Same.mut' {H H1 : Hp} {q : Addr} {o : HO} (a : Same H H1) (hq : H q = none) : Same H (upd H1 q o) := fun c u h => by
  rw [upd_ne (ne_of_none h hq)]; exact a c u h
/-- the first n of f -/
def firsts (f : Nat → V) (n : Nat) : List V := (List.range n).map f
theorem firsts_succ (f : Nat → V) (n : Nat) : firsts f (n + 1) = firsts f n ++ [f n] := by
  unfold firsts
  rw [List.range_succ, List.map_append]
  rfl
theorem firsts_len (f : Nat → V) (n : Nat) : (firsts f n).length = n := by
  unfold firsts
  rw [List.length_map, List.length_range]
/-- a comprehension whose turns change nothing that is tracked: the i-th element is f i -/
theorem lc_map {J : It} {n : Nat} {G : Hp → Prop} {Y : Nat → Hp → V → Hp → Prop} (w : Walk J n G Y) (f : Nat → V) {g : TG} {tt : TT} {te : TE} {vs : List Nat} {σ : L2.St} {H1 : Hp} {D : Addr} {Qd : Hp → Prop} (hD : H1 D = none) (hn : n < 100000)
    (hG : ∀ H', Same H1 H' → G H')
    (hs : ∀ i x Ha Hb (C : V → Hp → Prop) (Z : Hp → Prop), i < n → Same H1 Ha → Y i Ha x Hb → (∀ Hc, Same Ha Hc → C (f i) Hc) → g x (wipe σ vs) Hb fun σ2 H2 => wipe σ2 vs = wipe σ vs ∧ tt σ2 H2 fun b H3 => if b = true then te σ2 H3 C else Z H3)
    (hd : ∀ H', Same H1 H' → H' D = some (.lst (firsts f n)) → Qd H') :
    ∃ W : Nat → Nat → Hp → Prop, (∃ m, W 0 m (upd H1 D (.lst []))) ∧ ∀ i m H, W i m H →
      (J.stop i H ∧ Qd H) ∨ (J.go i H ∧ ∃ Nx : Hp → Prop, (∀ H', Nx H' → ∃ m', m' < m ∧ W (i + 1) m' H') ∧ ∀ x H', J.yld i H x H' → g x (wipe σ vs) H' fun σ2 H2 => wipe σ2 vs = wipe σ vs ∧ tt σ2 H2 fun b H3 =>
        if b = true then te σ2 H3 fun y H4 => ∃ acc, H4 D = some (.lst acc) ∧ acc.length < sizeLine ∧ Nx (upd H4 D (.lst (acc ++ [y]))) else Nx H3) := by
  refine lc_it w (fun i H' => Same H1 H' ∧ H' D = some (.lst (firsts f i))) ⟨Same.new' (Same.refl H1) hD, upd_same⟩ (fun i H' _ h => hG H' h.1) (fun i x Ha Hb hi hp y => ?_) (fun H' h => hd H' h.1 h.2)
  refine hs i x Ha Hb _ _ hi hp.1 y fun Hc sc => ?_
  refine ⟨firsts f i, sc _ _ hp.2, ?_, ?_, ?_⟩
  · rw [firsts_len]
    exact Nat.lt_of_lt_of_le (show i < 100000 by omega) (by decide)
  · exact Same.mut' (hp.1.trans sc) hD
  · rw [upd_same, firsts_succ]
/-- the kinds of values that the law hands to the program: a value of a built-in type -/
def Kind (K : PySem.W.Frag) (H : Hp) (v : V) : Prop := ∃ n : String, TyX K H v (.type n) ∧ n ∈ ["NoneType", "bool", "int", "str", "list", "tuple", "dict"]
/-- the kinds told by the value -/
theorem Kind.same {K : PySem.W.Frag} {H H' : Hp} {v : V} (sm : Same H H') (h : Kind K H v) : Kind K H' v := by
  obtain ⟨n, h, hn⟩ := h
  refine ⟨n, ?_, hn⟩
  cases h with
  | base b =>
    cases b with
    | non => exact .base .non
    | bl y => exact .base (.bl y)
    | int i => exact .base (.int i)
    | str y => exact .base (.str y)
    | flt y => exact .base (.flt y)
    | lst ea => exact .base (.lst (sm _ _ ea))
    | frz ea => exact .base (.frz (sm _ _ ea))
    | tup ea => exact .base (.tup (sm _ _ ea))
    | dK ea => exact .base (.dK (sm _ _ ea))
    | dT ea => exact .base (.dT (sm _ _ ea))
  | byt b => exact .byt b
  | set e => exact .set (sm _ _ e)
  | kList e c => exact .kList e c
  | kTuple e c => exact .kTuple e c
  | kDict e c => exact .kDict e c
  | fTuple e => exact .fTuple (sm _ _ e)
  | fDict e => exact .fDict (sm _ _ e)
/-- a text; a number or a bool; a bool -/
def isStrV : V → Bool
  | .str _ => true
  | _ => false
def isIntV : V → Bool
  | .int _ => true
  | .bl _ => true
  | _ => false
def isBlV : V → Bool
  | .bl _ => true
  | _ => false
theorem Kind.isStr {K : PySem.W.Frag} {H : Hp} {v : V} (h : Kind K H v) : ∃ t : Value, TyX K H v t ∧ PySem.W.kitOne K t (.type "str") = some (isStrV v) := by
  obtain ⟨n, h, hn⟩ := h
  refine ⟨_, h, ?_⟩
  cases h with
  | base b => cases b <;> first
      | (show PySem.W.kitOne K _ _ = some false; exact kit_ty (by decide +kernel))
      | (show PySem.W.kitOne K _ _ = some true; exact kit_ty (by decide +kernel))
      | (exact absurd hn (by decide))
      | simp at hn
  | byt b => exact absurd hn (by decide)
  | set e => exact absurd hn (by decide)
  | kList e c => (show PySem.W.kitOne K _ _ = some false; exact kit_ty (by decide +kernel))
  | kTuple e c => (show PySem.W.kitOne K _ _ = some false; exact kit_ty (by decide +kernel))
  | kDict e c => (show PySem.W.kitOne K _ _ = some false; exact kit_ty (by decide +kernel))
  | fTuple e => (show PySem.W.kitOne K _ _ = some false; exact kit_ty (by decide +kernel))
  | fDict e => (show PySem.W.kitOne K _ _ = some false; exact kit_ty (by decide +kernel))
theorem Kind.isInt {K : PySem.W.Frag} {H : Hp} {v : V} (h : Kind K H v) : ∃ t : Value, TyX K H v t ∧ PySem.W.kitOne K t (.type "int") = some (isIntV v) := by
  obtain ⟨n, h, hn⟩ := h
  refine ⟨_, h, ?_⟩
  cases h with
  | base b => cases b <;> first
      | (show PySem.W.kitOne K _ _ = some false; exact kit_ty (by decide +kernel))
      | (show PySem.W.kitOne K _ _ = some true; exact kit_ty (by decide +kernel))
      | (exact absurd hn (by decide))
      | simp at hn
  | byt b => exact absurd hn (by decide)
  | set e => exact absurd hn (by decide)
  | kList e c => (show PySem.W.kitOne K _ _ = some false; exact kit_ty (by decide +kernel))
  | kTuple e c => (show PySem.W.kitOne K _ _ = some false; exact kit_ty (by decide +kernel))
  | kDict e c => (show PySem.W.kitOne K _ _ = some false; exact kit_ty (by decide +kernel))
  | fTuple e => (show PySem.W.kitOne K _ _ = some false; exact kit_ty (by decide +kernel))
  | fDict e => (show PySem.W.kitOne K _ _ = some false; exact kit_ty (by decide +kernel))
theorem Kind.isBool {K : PySem.W.Frag} {H : Hp} {v : V} (h : Kind K H v) : ∃ t : Value, TyX K H v t ∧ PySem.W.kitOne K t (.type "bool") = some (isBlV v) := by
  obtain ⟨n, h, hn⟩ := h
  refine ⟨_, h, ?_⟩
  cases h with
  | base b => cases b <;> first
      | (show PySem.W.kitOne K _ _ = some false; exact kit_ty (by decide +kernel))
      | (show PySem.W.kitOne K _ _ = some true; exact kit_ty (by decide +kernel))
      | (exact absurd hn (by decide))
      | simp at hn
  | byt b => exact absurd hn (by decide)
  | set e => exact absurd hn (by decide)
  | kList e c => (show PySem.W.kitOne K _ _ = some false; exact kit_ty (by decide +kernel))
  | kTuple e c => (show PySem.W.kitOne K _ _ = some false; exact kit_ty (by decide +kernel))
  | kDict e c => (show PySem.W.kitOne K _ _ = some false; exact kit_ty (by decide +kernel))
  | fTuple e => (show PySem.W.kitOne K _ _ = some false; exact kit_ty (by decide +kernel))
  | fDict e => (show PySem.W.kitOne K _ _ = some false; exact kit_ty (by decide +kernel))
end Lw
set_option Elab.async false
set_option linter.all false
set_option maxRecDepth 100000
set_option maxHeartbeats 4000000
namespace Lw
open PySem PySem.Spec PyProof.Rows L2
/-- zip of two texts: at each turn a new pair of signs -/
def Itzs (x y : Str) : It :=
  ⟨fun i _ => i < min x.cps.size y.cps.size,
   fun i H v H' => ∃ T c d, v = .ref T ∧ H T = none ∧ H' = upd H T (.tup [.str (sgn c), .str (sgn d)]) ∧ x.cps[i]? = some c ∧ y.cps[i]? = some d,
   fun i _ => i = min x.cps.size y.cps.size⟩
theorem turn_zipS {P : Program} {w : World} {K : PySem.W.Frag} {elts : List Expr} {kk : Nat} {tpos : Pos} {x y : Str} {tx ty : Tok} {z TI TO i1 i2 : Addr} (D : ZipSep2 z TI TO i1 i2 [i1] [i2]) :
    Turn P w K (.Tuple elts kk tpos) (Itzs x y) [z, TI, TO, i1, i2] z (fun i h => IsZip h z TI TO .none ∧ IsTupOf2 h TI (.ref i1) (.ref i2) ∧ (∃ a b, IsTupOf2 h TO a b) ∧ h.IsStrIter i1 (strIterType x) x tx i ∧ h.IsStrIter i2 (strIterType y) y ty i) where
  mem := by simp
  obj := fun i h st c hc => by
    obtain ⟨hz, hTI, ⟨a, b, hTO⟩, ⟨o1, e1, _, d1⟩, ⟨o2, e2, _, d2⟩⟩ := st
    have e' : c = z ∨ c = TI ∨ c = TO ∨ c = i1 ∨ c = i2 := by simpa using hc
    rcases e' with q | q | q | q | q
    · rw [q]; exact ⟨_, hz, fun v q => nomatch q⟩
    · rw [q]; exact ⟨_, hTI, fun v q => nomatch q⟩
    · rw [q]; exact ⟨_, hTO, fun v q => nomatch q⟩
    · rw [q]; exact ⟨o1, e1, fun v q => by rw [d1] at q; cases q⟩
    · rw [q]; exact ⟨o2, e2, fun v q => by rw [d2] at q; cases q⟩
  keep := fun i h h' st k => by
    obtain ⟨hz, hTI, ⟨a, b, hTO⟩, ⟨o1, e1, r1⟩, ⟨o2, e2, r2⟩⟩ := st
    exact ⟨k z (by simp) _ hz, k TI (by simp) _ hTI, ⟨a, b, k TO (by simp) _ hTO⟩, ⟨o1, k i1 (by simp) _ e1, r1⟩, ⟨o2, k i2 (by simp) _ e2, r2⟩⟩
  item := by
    intro X hP hw hK hc i pins s σ H E I hf st hg
    subst hP hw hK
    obtain ⟨hz, hTI, ⟨x0, y0, hTO⟩, h1, h2⟩ := st
    have hg' : i < min x.cps.size y.cps.size := hg
    have hzl : z < s.heap.objs.size := Heap.lt_size hz
    refine wpAny_pyNext_zipD2_item D (.text (A := X.A.in1) (I.ok.hd hc) i1 x tx) (.text (A := X.A.in1) (I.ok.hd hc) i2 y ty) hz hTI hTO h1 h2 (by omega) (by omega) fun u u2 h' tk pu pu2 z' TO' h1' h2' hT hsz hk => ?_
    obtain ⟨c, t1, hc1, rfl⟩ := pu
    obtain ⟨d, t2, hc2, rfl⟩ := pu2
    refine ⟨_, rfl, wpAny_letOwnedTupleGo_zip (s := { s with heap := h', toks := tk }) z' fun h'' z'' sb => ?_⟩
    have hT2 : h''.get? s.heap.objs.size = some { cls := .type "tuple", data := .seq #[.str ⟨#[c]⟩ t1, .str ⟨#[d]⟩ t2] } := (sb.2 _ (Nat.ne_of_gt hzl)).trans hT
    have new : ObjOk X.prog X.w (upd H s.heap.objs.size (.tup [.str (sgn c), .str (sgn d)])) h'' s.heap.objs.size (.tup [.str (sgn c), .str (sgn d)]) :=
      ⟨by show 2 ≤ sizeLine; decide, [.str ⟨#[c]⟩ t1, .str ⟨#[d]⟩ t2], .cons ⟨t1, rfl⟩ (.cons ⟨t2, rfl⟩ .nil), ⟨_, hT2, rfl, _, rfl⟩⟩
    have I1 : Inv X pins σ (upd H s.heap.objs.size (.tup [.str (sgn c), .str (sgn d)])) { s with heap := h'', toks := tk } :=
      I.turnedNew (t' := tk) (ch := [z, TI, TO, i1, i2]) (fun c o hb q => (sb.2 c (fun q' => hb (by simp [q']))).trans (hk c o (fun q' => hb (by simp [q'])) (fun q' => hb (by simp [q'])) (fun q' => hb (by simp [q'])) (fun q' => hb (by simp [q'])) q)) hf (Nat.le_refl _) new
    refine ⟨.ref s.heap.objs.size, _, I1, rfl, ⟨_, c, d, rfl, I.hok.fresh (Nat.le_refl _), rfl, hc1, hc2⟩, ⟨z'', ?_, ⟨.str ⟨#[c]⟩ t1, .str ⟨#[d]⟩ t2, ?_⟩, ?_, ?_⟩, fun c hcm => ?_⟩
    · exact (sb.2 _ D.TIz).trans (hk _ _ D.TIz D.TITO D.TIi1 D.TIi2 hTI)
    · exact (sb.2 _ D.TOz).trans TO'
    · obtain ⟨o, e, r⟩ := h1'
      exact ⟨o, (sb.2 _ (fun q => D.zf1 (by rw [← q]; exact D.mem1))).trans e, r⟩
    · obtain ⟨o, e, r⟩ := h2'
      exact ⟨o, (sb.2 _ (fun q => D.zf2 (by rw [← q]; exact D.mem2))).trans e, r⟩
    · have hlt : c < s.heap.objs.size := by
        have e' : c = z ∨ c = TI ∨ c = TO ∨ c = i1 ∨ c = i2 := by simpa using hcm
        rcases e' with q | q | q | q | q
        · rw [q]; exact hzl
        · rw [q]; exact Heap.lt_size hTI
        · rw [q]; exact Heap.lt_size hTO
        · rw [q]; obtain ⟨_, e1, _⟩ := h1; exact Heap.lt_size e1
        · rw [q]; obtain ⟨_, e2, _⟩ := h2; exact Heap.lt_size e2
      rw [upd_ne (Nat.ne_of_lt hlt)]
      exact (hf c hcm).1
  done := by
    intro X hP hw hK hc i pins s σ H E I hf st hg
    subst hP hw hK
    obtain ⟨hz, hTI, ⟨x0, y0, hTO⟩, h1, h2⟩ := st
    have hg' : i = min x.cps.size y.cps.size := hg
    exact wpAny_pyNext_zipD2_end D (.text (A := X.A.in1) (I.ok.hd hc) i1 x tx) (.text (A := X.A.in1) (I.ok.hd hc) i2 y ty) hz hTI hTO h1 h2 (by omega) (by omega) (by omega) fun h' tk hk => ⟨rfl, I.turnedL (t' := tk) (ch := [z, TI, TO, i1, i2]) (fun c o hb q =>
      hk c o (fun q' => hb (by simp [q'])) (fun q' => hb (by simp [q'])) (fun q' => hb (by simp [q'])) (fun q' => hb (by simp [q'])) q) hf⟩
  self := fun A i s Q E st h => wpAny_pyIter_zip st.1 h
def iZipS (ta : TA) : TI := fun σ H R => ta σ H fun vs H1 => ∃ x y, vs = [.str x, .str y] ∧ R (Itzs x y) H1
theorem pi_zipS {X : Cx} {e e2 : Expr} {ta : TA} {p pos tpos : Pos} {elts : List Expr} {kk : Nat} (hg : Gl X "zip") (hm : X.mg "zip" = none) (ha : PA X [e, e2] ta)
    (hs : starEach [e, e2] X.env = (false, eval e X.env) :: starEach [e2] X.env := by rfl) (hpl : (backTo pos (starEach [e2] X.env)).any (·.1) = false := by rfl) :
    PI X (.Tuple elts kk tpos) (.Call (.Name "zip" p) [e, e2] [] pos) (iZipS ta) := by
  refine ⟨fun pins s σ H R I h => ?_⟩
  refine Call_ (ld_blt I hg hm PyProof.Rows.boot_zip (PyProof.Rows.callWith_type1 (thn (ha.run pos pins s σ H _ I h) fun us s1 ⟨vs, H1, I1, r1, q1⟩ => ?_) hs hpl))
  obtain ⟨x, y, ex, q⟩ := q1
  subst ex
  obtain ⟨u1, u2, rfl, ⟨t1, rfl⟩, ⟨t2, rfl⟩⟩ := vals2 r1
  refine zip_begins2 (begins_text x t1) (begins_text y t2) trivial trivial fun h' hz hTI hTO h1 h2 hsz hk => wpAny_pyIter_zip hz ?_
  have I2 : Inv X pins σ H1 { s1 with heap := h' } := I1.kept (t' := s1.toks) hk
  refine ⟨s1.heap.objs.size + 4, [s1.heap.objs.size + 4, s1.heap.objs.size + 2, s1.heap.objs.size + 3, s1.heap.objs.size, s1.heap.objs.size + 1], _, _, H1, rfl, I2,
    turn_zipS (zip_sep2 (N := s1.heap.objs.size) (fp1 := []) (fp2 := []) (by simp) (by simp)), ⟨hz, hTI, ⟨_, _, hTO⟩, ⟨_, h1, rfl, rfl⟩, ⟨_, h2, rfl, rfl⟩⟩, fun c hcm => ?_, q⟩
  have e' : c = s1.heap.objs.size + 4 ∨ c = s1.heap.objs.size + 2 ∨ c = s1.heap.objs.size + 3 ∨ c = s1.heap.objs.size ∨ c = s1.heap.objs.size + 1 := by simpa using hcm
  have hle : s1.heap.objs.size ≤ c := by
    rcases e' with z | z | z | z | z
    · rw [z]; exact Nat.le_add_right _ _
    · rw [z]; exact Nat.le_add_right _ _
    · rw [z]; exact Nat.le_add_right _ _
    · rw [z]; exact Nat.le_refl _
    · rw [z]; exact Nat.le_add_right _ _
  exact I1.fpOk hle (I1.hok.fresh hle)
theorem walk_zipS {x y : Str} : Walk (Itzs x y) (min x.cps.size y.cps.size) (fun _ => True)
    (fun i H v H' => ∃ T c d, v = .ref T ∧ H T = none ∧ H' = upd H T (.tup [.str (sgn c), .str (sgn d)]) ∧ x.cps[i]? = some c ∧ y.cps[i]? = some d) :=
  ⟨fun _ _ hi _ => hi, fun _ _ => rfl, fun _ _ _ _ _ _ y => y⟩
end Lw
set_option Elab.async false
set_option linter.all false
set_option maxRecDepth 100000
set_option maxHeartbeats 4000000
namespace Lw
open PySem PySem.Spec PyProof.Rows L2
abbrev sIsInt : Stmt := topS 8
abbrev sIsOver : Stmt := topS 22
abbrev sIsLet : Stmt := topS 15
/-- a whole number and no bool -/
def isNumV : V → Bool
  | .int _ => true
  | _ => false
/-- a text that has only these letters -/
def overV (L : Str) : V → Bool
  | .str z => z.cps.toList.all fun c => decide (c ∈ L.cps.toList)
  | _ => false
def alphabet : Str := "abcdefghijklmnopqrstuvwxyz"
def risesV (z : Str) : Bool := (List.range (z.length - 1)).all fun i => decide ([z.cps.toList.getD i 0] < [z.cps.toList.getD (i + 1) 0])
/-- what is_letters answers -/
def lettersV : V → Bool
  | .str z => decide (1 ≤ z.length) && decide (z.length ≤ 4) && overV alphabet (.str z) && risesV z
  | _ => false
/-- no text is too long -/
def ShortV (v : V) : Prop := ∀ z, v = .str z → z.length < 100000
section
variable {P : Program} {w : World} {K : PySem.W.Frag} {mg : Str → Option Value} {base : Heap}
def spIsInt (K : PySem.W.Frag) : Sp := fun vs H Q _ => ∃ v, vs = [v] ∧ Kind K H v ∧ Q (.bl (isNumV v)) H
theorem scIsInt : FnScope ["value"] ["value"] (defScope sIsInt) := ⟨rfl, rfl, rfl, by decide +kernel, rfl, by decide +kernel, by decide +kernel⟩
theorem ok_isint {f : Addr} {fd : FuncData} (F : Fun K "is_integer" "is_integer" sIsInt f fd) (B : Bl mg) : FnOk P w K mg base CX0 1 f fd ["value"] (spIsInt K) := by
  refine F.ok scIsInt (fun vs H Q E h => ?_) (fun cdv A outer s H vs Q E hr h => ?_)
  · obtain ⟨v, rfl, _⟩ := h
    rfl
  · obtain ⟨v, rfl, kd, q⟩ := h
    refine ⟨_, pss_one (ps_ret (pe_and (pe_callB call_isi (by rfl) B.isinstance (by decide +kernel) (pa_cons (pv 0) (pa_cons (pe_bltn (v := .ty "int") (by rfl) B.int (by decide +kernel) rfl) pa_nil)))
      (pe_one (pe_not (pe_callB call_isi (by rfl) B.isinstance (by decide +kernel) (pa_cons (pv 0) (pa_cons (pe_bltn (v := .ty "bool") (by rfl) B.bool (by decide +kernel) rfl) pa_nil))))))), ?_⟩
    obtain ⟨t, ht, e1⟩ := kd.isInt
    obtain ⟨t2, ht2, e2⟩ := kd.isBool
    refine ⟨_, rfl, _, _, _, _, _, rfl, .ty "int", ht, e1, _, rfl, ?_⟩
    cases hv : isIntV v with
    | false =>
      refine iteF ?_
      have : isNumV v = false := by cases v <;> first | rfl | cases hv
      rw [this] at q
      exact q
    | true =>
      refine iteT ⟨_, rfl, _, _, _, _, _, rfl, .ty "bool", ht2, e2, _, rfl, ?_⟩
      have : isNumV v = !isBlV v := by cases v <;> first | rfl | cases hv
      rw [this] at q
      exact q
def spOver (K : PySem.W.Frag) : Sp := fun vs H Q _ => ∃ (L : Str) (v : V), vs = [.str L, v] ∧ Kind K H v ∧ ShortV v ∧ ∀ H', Same H H' → Q (.bl (overV L v)) H'
theorem scIsOver : FnScope ["letters", "value", "letter"] ["letters", "value"] (defScope sIsOver) := ⟨rfl, rfl, rfl, by decide +kernel, rfl, by decide +kernel, by decide +kernel⟩
theorem all_firsts (z : Str) (p : Nat → Bool) : (firsts (fun i => V.bl (p (z.cps.toList.getD i 0))) z.cps.size) = ((z.cps.toList.map p)).map V.bl := by
  unfold firsts
  apply List.ext_getElem?
  intro i
  simp only [List.getElem?_map]
  by_cases hi : i < z.cps.size
  · rw [List.getElem?_range hi]
    have h2 : i < z.cps.toList.length := by simpa using hi
    rw [Option.map_some, List.getD_eq_getElem?_getD, List.getElem?_eq_getElem h2]
    rfl
  · rw [List.getElem?_eq_none (by rw [List.length_range]; omega), List.getElem?_eq_none (by simp; omega)]
    rfl
theorem ok_over {f : Addr} {fd : FuncData} (F : Fun K "is_over" "is_over" sIsOver f fd) (B : Bl mg) : FnOk P w K mg base CX0 1 f fd ["letters", "value"] (spOver K) := by
  refine F.ok scIsOver (fun vs H Q E h => ?_) (fun cdv A outer s H vs Q E hr h => ?_)
  · obtain ⟨L, v, rfl, _⟩ := h
    rfl
  · obtain ⟨L, v, rfl, kd, sh, q⟩ := h
    refine ⟨_, pss_one (ps_ret (pe_and (pe_callB call_isi (by rfl) B.isinstance (by decide +kernel) (pa_cons (pv 1) (pa_cons (pe_bltn (v := .ty "str") (by rfl) B.str (by decide +kernel) rfl) pa_nil)))
      (pe_one (pe_callB (cr_all rfl) (by rfl) B.all (by decide +kernel) (by exact (pa_cons (pe_lc (own := [("letter", 2)]) (g := gName 2) (tt := tYes) (by rfl) scIsOver.nd (pi_str (pv 1))
        (blkOk_by (own := [("letter", 2)]) (N := ["letters", "value", "letter"]) (sc := defScope sIsOver) (by decide +kernel)) (fun _ _ _ _ _ => pg_name (i := 2) scIsOver.nd rfl (Or.inl rfl)) (fun _ _ _ _ _ => pts_nil)
        (fun _ _ _ _ _ => by exact (pe_cmpR op_in_sign (pv 2) (pv 0) (by rfl)))) pa_nil)))))), ?_⟩
    obtain ⟨t, ht, e1⟩ := kd.isStr
    refine ⟨_, rfl, _, _, _, _, _, rfl, .ty "str", ht, e1, _, rfl, ?_⟩
    cases v with
    | str z =>
      refine iteT ⟨_, rfl, z, rfl, fun D hD => ?_⟩
      have hz := sh z rfl
      have hz' : z.cps.size < 100000 := hz
      refine lc_map walk_str (fun i => V.bl (decide (z.cps.toList.getD i 0 ∈ L.cps.toList))) hD hz' (fun _ _ => trivial) (fun i x Ha Hb C Z hi sm y k => ?_) (fun H' sm hD' => ?_)
      · obtain ⟨rfl, c, hc, rfl⟩ := y
        refine ⟨rfl, _, rfl, _, rfl, c, L, rfl, rfl, ?_⟩
        have ec : z.cps.toList.getD i 0 = c := by
          rw [List.getD_eq_getElem?_getD, Array.getElem?_toList, hc]
          rfl
        have := k Hb (Same.refl Hb)
        rw [ec] at this
        exact this
      · rw [all_firsts z (fun c => decide (c ∈ L.cps.toList))] at hD'
        refine ⟨D, _, rfl, .inl (.inl hD'), ?_⟩
        have e : (z.cps.toList.map (fun c => decide (c ∈ L.cps.toList))).all id = overV L (.str z) := by
          rw [List.all_map]
          rfl
        rw [e]
        exact q H' sm
    | _ => exact q H (Same.refl H)
end
end Lw
set_option Elab.async false
set_option linter.all false
set_option maxRecDepth 100000
set_option maxHeartbeats 4000000
namespace Lw
open PySem PySem.Spec PyProof.Rows L2
/-- the constants of the module rows -/
structure Cs (mg : Str → Option Value) : Prop where
  alpha : ∃ t, mg "ALPHABET" = some (.str alphabet t)
  most : ∃ t, mg "MOST_LETTERS" = some (.int 4 t)
  longest : ∃ t, mg "LONGEST_ROW" = some (.int 200 t)
theorem cut_one (z : Str) (h : 1 ≤ z.length) : cutS z (some 1) none = ⟨(z.cps.toList.drop 1).toArray⟩ := by
  unfold cutS
  have e1 : HT.sIx z.length 0 (some 1) = 1 := by
    have := HT.sIx_nat z.length 0 1
    rw [show (some ((1 : Nat) : Int)) = (some 1 : Option Int) from rfl] at this
    rw [this]
    omega
  rw [e1, HT.sIx_none]
  have e2 : (z.cps.toList.drop 1).length = z.length - 1 := by
    rw [List.length_drop, Array.length_toList]
    rfl
  rw [← e2, List.take_length]
section
variable {P : Program} {w : World} {K : PySem.W.Frag} {mg : Str → Option Value} {base : Heap}
def spIsLet (K : PySem.W.Frag) : Sp := fun vs H Q _ => ∃ (v : V), vs = [v] ∧ Kind K H v ∧ ShortV v ∧ ∀ H', Same H H' → Q (.bl (lettersV v)) H'
theorem scIsLet : FnScope ["value", "one", "other"] ["value"] (defScope sIsLet) := ⟨rfl, rfl, rfl, by decide +kernel, rfl, by decide +kernel, by decide +kernel⟩
theorem ok_islet {f : Addr} {fd : FuncData} (F : Fun K "is_letters" "is_letters" sIsLet f fd) (B : Bl mg) (T : Cs mg) (O : Def P w K mg base 1 "is_over" ["letters", "value"] (spOver K)) : FnOk P w K mg base CX0 2 f fd ["value"] (spIsLet K) := by
  obtain ⟨fO, fdO, GO, gO, kO, bO⟩ := O.ex
  obtain ⟨ta, hA⟩ := T.alpha
  obtain ⟨tm, hM⟩ := T.most
  refine F.ok scIsLet (fun vs H Q E h => ?_) (fun cdv A outer s H vs Q E hr h => ?_)
  · obtain ⟨v, rfl, _⟩ := h
    rfl
  · obtain ⟨v, rfl, kd, sh, q⟩ := h
    refine ⟨_, pss_cons (ps_if (PW.pt (pw_or (pt_not (pt_val (pe_callB call_isi (by rfl) B.isinstance (by decide +kernel) (by exact (pa_cons (pv 0) (pa_cons (pe_bltn (v := .ty "str") (by rfl) B.str (by decide +kernel) rfl) pa_nil))))))
        (pw_or1 (pt_not (pt_chain op_le op_le pe_int (pe_callB call_len_str (by rfl) B.len PySem.boot_len (by exact (pa_cons (pv 0) pa_nil))) (pe_glob (v := .int 4) (by rfl) hM ⟨_, rfl⟩)))))) (pss_one (ps_ret pe_bl)) pss_nil)
      (pss_cons (ps_if (pt_not (pt_val (pe_call GO hr rfl gO kO bO .nil pass0 (by exact (pa_cons (pe_glob (v := .str alphabet) (by rfl) hA ⟨_, rfl⟩) (pa_cons (pv 0) pa_nil)))))) (pss_one (ps_ret pe_bl)) pss_nil)
      (pss_one (ps_ret (pe_callB (cr_all rfl) (by rfl) B.all (by decide +kernel) (by exact (pa_cons (pe_lc (own := [("one", 1), ("other", 2)]) (g := gTup K 2 (gCons (gName 1) (gCons (gName 2) gNil))) (tt := tYes) (by rfl) scIsLet.nd
        (pi_zipS (by rfl) B.zip (pa_cons (pv 0) (pa_cons (pe_slice sl_str (pv 0) (po_some pe_int) po_none) pa_nil)))
        (blkOk_by (own := [("one", 1), ("other", 2)]) (N := ["value", "one", "other"]) (sc := defScope sIsLet) (by decide +kernel)) (fun _ _ _ _ _ => by exact (pg_tup (by rfl) (pgs_cons (pg_name (i := 1) scIsLet.nd rfl (Or.inl rfl)) (pgs_cons (pg_name (i := 2) scIsLet.nd rfl (Or.inl rfl)) pgs_nil)))) (fun _ _ _ _ _ => pts_nil)
        (fun _ _ _ _ _ => by exact (pe_cmpR op_lt_str (pv 1) (pv 2) (nomark _)))) pa_nil)))))), ?_⟩
    obtain ⟨t, ht, e1⟩ := kd.isStr
    refine ⟨_, rfl, _, _, _, _, _, rfl, .ty "str", ht, e1, _, rfl, ?_⟩
    cases v with
    | str z =>
      have hz := sh z rfl
      have hz' : z.length ≤ sizeLine := Evl.sz_of (by omega)
      refine iteF ?_
      refine ⟨_, rfl, z, rfl, hz', _, _, rfl, rfl, _, rfl, ?_⟩
      refine ite2 (fun h1 => ?_) (fun h1 => ?_)
      · have h1 := of_decide_eq_true h1
        refine ⟨_, _, rfl, rfl, _, rfl, ?_⟩
        by_cases h4 : z.length ≤ 4
        · have d4 : decide ((z.length : Int) ≤ 4) = true := decide_eq_true (by omega)
          rw [d4]
          refine iteF ?_
          refine ⟨_, rfl, alphabet, .str z, rfl, kd, sh, fun H1 s1 => ⟨_, rfl, ?_⟩⟩
          cases ho : overV alphabet (.str z) with
          | false =>
            refine iteT ?_
            have e : lettersV (.str z) = false := by
              show (decide (1 ≤ z.length) && decide (z.length ≤ 4) && overV alphabet (.str z) && risesV z) = false
              rw [ho, Bool.and_false, Bool.false_and]
            rw [e] at q
            exact q H1 s1
          | true =>
            refine iteF ?_
            refine ⟨_, rfl, _, rfl, _, rfl, z, rfl, hz', z, _, rfl, fun D hD => ?_⟩
            have e1 : cutS z (some 1) none = ⟨(z.cps.toList.drop 1).toArray⟩ := cut_one z (by omega)
            rw [e1]
            have es : min z.cps.size (⟨(z.cps.toList.drop 1).toArray⟩ : Str).cps.size = z.length - 1 := by
              have e5 : ((z.cps.toList.drop 1).toArray).size = z.cps.size - 1 := by
                rw [List.size_toArray]
                simp
              show min z.cps.size ((z.cps.toList.drop 1).toArray).size = z.cps.size - 1
              omega
            have wz := walk_zipS (x := z) (y := ⟨(z.cps.toList.drop 1).toArray⟩)
            rw [es] at wz
            refine lc_map wz (fun i => V.bl (decide ([z.cps.toList.getD i 0] < [z.cps.toList.getD (i + 1) 0]))) hD (by omega) (fun _ _ => trivial) (fun i x Ha Hb C Z hi sm y k => ?_) (fun H' sm hD' => ?_)
            · obtain ⟨T, c, d, rfl, hT, rfl, hc, hd⟩ := y
              refine ⟨T, _, rfl, .inl (.inl upd_same), rfl, _, _, rfl, _, _, rfl, rfl, ?_⟩
              refine ⟨rfl, _, rfl, _, rfl, _, _, rfl, rfl, ?_⟩
              have ec : z.cps.toList.getD i 0 = c := by
                rw [List.getD_eq_getElem?_getD, Array.getElem?_toList, hc]
                rfl
              have ed : z.cps.toList.getD (i + 1) 0 = d := by
                have hd' : (z.cps.toList.drop 1)[i]? = some d := by
                  rw [← List.getElem?_toArray]
                  exact hd
                rw [List.getElem?_drop] at hd'
                rw [List.getD_eq_getElem?_getD, Nat.add_comm, hd']
                rfl
              have := k (upd Ha T (.tup [.str (sgn c), .str (sgn d)])) (Same.new' (Same.refl Ha) hT)
              rw [ec, ed] at this
              exact this
            · have e2 : firsts (fun i => V.bl (decide ([z.cps.toList.getD i 0] < [z.cps.toList.getD (i + 1) 0]))) (z.length - 1) = ((List.range (z.length - 1)).map fun i => decide ([z.cps.toList.getD i 0] < [z.cps.toList.getD (i + 1) 0])).map V.bl := by
                unfold firsts
                rw [List.map_map]
                rfl
              rw [e2] at hD'
              refine ⟨D, _, rfl, .inl (.inl hD'), ?_⟩
              have e3 : (((List.range (z.length - 1)).map fun i => decide ([z.cps.toList.getD i 0] < [z.cps.toList.getD (i + 1) 0]))).all id = lettersV (.str z) := by
                show _ = (decide (1 ≤ z.length) && decide (z.length ≤ 4) && overV alphabet (.str z) && risesV z)
                rw [ho, decide_eq_true (show 1 ≤ z.length by omega), decide_eq_true h4, List.all_map]
                rfl
              rw [e3]
              exact q H' (s1.trans sm)
        · have d4 : decide ((z.length : Int) ≤ 4) = false := decide_eq_false (by omega)
          rw [d4]
          refine iteT ?_
          have e : lettersV (.str z) = false := by
            show (decide (1 ≤ z.length) && decide (z.length ≤ 4) && overV alphabet (.str z) && risesV z) = false
            rw [decide_eq_false h4, Bool.and_false, Bool.false_and, Bool.false_and]
          rw [e] at q
          exact q H (Same.refl H)
      · refine ⟨_, rfl, ?_⟩
        refine iteT ?_
        have e : lettersV (.str z) = false := by
          show (decide (1 ≤ z.length) && decide (z.length ≤ 4) && overV alphabet (.str z) && risesV z) = false
          rw [decide_eq_false (fun hh => h1 (decide_eq_true (by omega))), Bool.false_and, Bool.false_and, Bool.false_and]
        rw [e] at q
        exact q H (Same.refl H)
    | _ => exact iteT (iteT (q H (Same.refl H)))
end
end Lw
set_option Elab.async false
set_option linter.all false
set_option maxRecDepth 100000
set_option maxHeartbeats 4000000
namespace Lw
open PySem PySem.Spec PyProof.Rows L2
abbrev sChkLet : Stmt := topS 25
abbrev sChkRow : Stmt := topS 26
abbrev sChkCnt : Stmt := topS 10
abbrev sChkMost : Stmt := topS 27
abbrev sInLet : Stmt := inClass (topS 2) 0
abbrev sInRow : Stmt := inClass (topS 3) 0
abbrev sInCnt : Stmt := inClass (topS 4) 0
abbrev sInMany : Stmt := inClass (topS 6) 0
abbrev veB : List Value := [.type "ValueError", .type "Exception", .type "BaseException", .type "object"]
abbrev aeB : List Value := [.type "ArithmeticError", .type "Exception", .type "BaseException", .type "object"]
section
variable {P : Program} {w : World} {K : PySem.W.Frag} {mg : Str → Option Value} {base : Heap}
/-- __init__(self, v) of such an exception keeps v as f -/
def spEx1 (C : Addr) (f : Str) : Sp := fun vs H Q _ => ∃ (a : Addr) (v : V), vs = [.ref a, v] ∧ H a = some (exo a C none) ∧ ∀ dx, H dx = none → dx ≠ a → Q .non (upd (upd H dx (exd dx [(f, v)])) a (exo a C (some dx)))
def spEx2 (C : Addr) (f g : Str) : Sp := fun vs H Q _ => ∃ (a : Addr) (v y : V), vs = [.ref a, v, y] ∧ H a = some (exo a C none) ∧ ∀ dx, H dx = none → dx ≠ a → Q .non (upd (upd (upd H dx (exd dx [(f, v)])) a (exo a C (some dx))) dx (exd dx [(g, y), (f, v)]))
/-- an exception class of the module: its name, its own __init__, what that keeps -/
structure Xc (P : Program) (w : World) (K : PySem.W.Frag) (mg : Str → Option Value) (base : Heap) (x : Str) (C : Addr) (bmB : List Value) (newId : String) (ps : List Str) (sp : Sp) : Prop where
  T : OxC K C bmB newId
  gC : mg x = some (.ref C)
  ex : ∃ (fI : Addr) (fd : FuncData), PySem.W.findIn K (.ref C) "__init__" = some (some (.ref fI)) ∧ PySem.W.typeIn K (.ref fI) = some (.type "function") ∧ FnOk P w K mg base CX0 1 fI fd ps sp ∧ Binds K fd ps []
theorem Same.ext {H : Hp} {a dx : Addr} {f : Str} {v : V} {C : Addr} {fs : List (Str × V)} (ha : H a = none) (hdx : (upd H a (exo a C none)) dx = none) (hne : dx ≠ a) :
    Same H (upd (del (upd (upd (upd H a (exo a C none)) dx (exd dx [(f, v)])) a (exo a C (some dx))) a) dx (.xd fs)) := fun b o e => by
  have h1 : b ≠ a := fun q => by rw [q, ha] at e; cases e
  have hd : H dx = none := by rw [upd_ne hne] at hdx; exact hdx
  have h2 : b ≠ dx := fun q => by rw [q, hd] at e; cases e
  rw [upd_ne h2, del_ne h1, upd_ne h1, upd_ne h2, upd_ne h1]
  exact e
/-- X(v): the way out with a new error that keeps v -/
theorem mk1 {C : Addr} {f : Str} {v : V} {H1 : Hp} {Q : XK} (hq : ∀ d H', H1 d = none → Same H1 H' → H' d = some (.xd [(f, v)]) → Q (.ref C) (some d) H') :
    [v].length ≤ 1000 ∧ ∀ a, H1 a = none → spEx1 C f (.ref a :: ([v] ++ [])) (upd H1 a (exo a C none))
      (fun u H2 => u = .non ∧ ∃ (d : Addr) (fs : List (Str × V)), H2 a = some (exo a C (some d)) ∧ H2 d = some (exd d fs) ∧ H1 d = none ∧ Q (.ref C) (some d) (upd (del H2 a) d (.xd fs))) (fun _ _ _ => False) := by
  refine ⟨by show 1 ≤ 1000; decide, fun a ha => ⟨a, v, rfl, upd_same, fun dx hdx hne => ⟨rfl, dx, [(f, v)], upd_same, ?_, ?_, ?_⟩⟩⟩
  · rw [upd_ne hne, upd_same]
  · rw [upd_ne hne] at hdx; exact hdx
  · exact hq dx _ (by rw [upd_ne hne] at hdx; exact hdx) (Same.ext ha hdx hne) upd_same
theorem mk2 {C : Addr} {f g : Str} {v y : V} {H1 : Hp} {Q : XK} (hq : ∀ d H', H1 d = none → Same H1 H' → H' d = some (.xd [(g, y), (f, v)]) → Q (.ref C) (some d) H') :
    [v, y].length ≤ 1000 ∧ ∀ a, H1 a = none → spEx2 C f g (.ref a :: ([v, y] ++ [])) (upd H1 a (exo a C none))
      (fun u H2 => u = .non ∧ ∃ (d : Addr) (fs : List (Str × V)), H2 a = some (exo a C (some d)) ∧ H2 d = some (exd d fs) ∧ H1 d = none ∧ Q (.ref C) (some d) (upd (del H2 a) d (.xd fs))) (fun _ _ _ => False) := by
  refine ⟨by show 2 ≤ 1000; decide, fun a ha => ⟨a, v, y, rfl, upd_same, fun dx hdx hne => ⟨rfl, dx, [(g, y), (f, v)], ?_, upd_same, ?_, ?_⟩⟩⟩
  · rw [upd_ne hne.symm, upd_same]
  · rw [upd_ne hne] at hdx; exact hdx
  · refine hq dx _ (by rw [upd_ne hne] at hdx; exact hdx) (fun b o e => ?_) upd_same
    have := Same.ext (f := f) (v := v) (fs := [(g, y), (f, v)]) ha hdx hne b o e
    have h1 : b ≠ a := fun q => by rw [q, ha] at e; cases e
    have hd : H1 dx = none := by rw [upd_ne hne] at hdx; exact hdx
    have h2 : b ≠ dx := fun q => by rw [q, hd] at e; cases e
    rw [upd_ne h2, del_ne h1, upd_ne h2]
    rw [upd_ne h2, del_ne h1] at this
    exact this
theorem scInLet : FnScope ["self", "value"] ["self", "value"] (defScope sInLet) := ⟨rfl, rfl, rfl, by decide +kernel, rfl, by decide +kernel, by decide +kernel⟩
theorem scInRow : FnScope ["self", "value"] ["self", "value"] (defScope sInRow) := ⟨rfl, rfl, rfl, by decide +kernel, rfl, by decide +kernel, by decide +kernel⟩
theorem scInCnt : FnScope ["self", "value"] ["self", "value"] (defScope sInCnt) := ⟨rfl, rfl, rfl, by decide +kernel, rfl, by decide +kernel, by decide +kernel⟩
theorem scInMany : FnScope ["self", "what", "limit"] ["self", "what", "limit"] (defScope sInMany) := ⟨rfl, rfl, rfl, by decide +kernel, rfl, by decide +kernel, by decide +kernel⟩
theorem ok_inlet {f C : Addr} {fd : FuncData} {q : Str} (F : Fun K "__init__" q sInLet f fd) (T : OxC K C veB "ValueError.__new__") (nv : PySem.W.findIn K (.ref C) "value" = some none) : FnOk P w K mg base CX0 1 f fd ["self", "value"] (spEx1 C "value") := by
  refine F.ok scInLet (fun vs H Q E h => ?_) (fun cdv A outer s H vs Q E hr h => ?_)
  · obtain ⟨a, v, rfl, _⟩ := h
    rfl
  · obtain ⟨a, v, rfl, ha, k⟩ := h
    refine ⟨_, pss_one (ps_setX PySem.F.store_ValueError T nv (pv 0) (pv 1)), ?_⟩
    exact ⟨_, rfl, _, rfl, a, rfl, .inl ⟨ha, fun dx h1 h2 => k dx h1 h2⟩⟩
theorem ok_inrow {f C : Addr} {fd : FuncData} {q : Str} (F : Fun K "__init__" q sInRow f fd) (T : OxC K C veB "ValueError.__new__") (nv : PySem.W.findIn K (.ref C) "value" = some none) : FnOk P w K mg base CX0 1 f fd ["self", "value"] (spEx1 C "value") := by
  refine F.ok scInRow (fun vs H Q E h => ?_) (fun cdv A outer s H vs Q E hr h => ?_)
  · obtain ⟨a, v, rfl, _⟩ := h
    rfl
  · obtain ⟨a, v, rfl, ha, k⟩ := h
    refine ⟨_, pss_one (ps_setX PySem.F.store_ValueError T nv (pv 0) (pv 1)), ?_⟩
    exact ⟨_, rfl, _, rfl, a, rfl, .inl ⟨ha, fun dx h1 h2 => k dx h1 h2⟩⟩
theorem ok_incnt {f C : Addr} {fd : FuncData} {q : Str} (F : Fun K "__init__" q sInCnt f fd) (T : OxC K C veB "ValueError.__new__") (nv : PySem.W.findIn K (.ref C) "value" = some none) : FnOk P w K mg base CX0 1 f fd ["self", "value"] (spEx1 C "value") := by
  refine F.ok scInCnt (fun vs H Q E h => ?_) (fun cdv A outer s H vs Q E hr h => ?_)
  · obtain ⟨a, v, rfl, _⟩ := h
    rfl
  · obtain ⟨a, v, rfl, ha, k⟩ := h
    refine ⟨_, pss_one (ps_setX PySem.F.store_ValueError T nv (pv 0) (pv 1)), ?_⟩
    exact ⟨_, rfl, _, rfl, a, rfl, .inl ⟨ha, fun dx h1 h2 => k dx h1 h2⟩⟩
theorem ok_inmany {f C : Addr} {fd : FuncData} {q : Str} (F : Fun K "__init__" q sInMany f fd) (T : OxC K C aeB "ArithmeticError.__new__") (nw : PySem.W.findIn K (.ref C) "what" = some none) (nl : PySem.W.findIn K (.ref C) "limit" = some none) :
    FnOk P w K mg base CX0 1 f fd ["self", "what", "limit"] (spEx2 C "what" "limit") := by
  refine F.ok scInMany (fun vs H Q E h => ?_) (fun cdv A outer s H vs Q E hr h => ?_)
  · obtain ⟨a, v, y, rfl, _⟩ := h
    rfl
  · obtain ⟨a, v, y, rfl, ha, k⟩ := h
    refine ⟨_, pss_cons (ps_setX PySem.F.store_ArithmeticError T nw (pv 0) (pv 1)) (pss_one (ps_setX PySem.F.store_ArithmeticError T nl (pv 0) (pv 2))), ?_⟩
    refine ⟨_, rfl, _, rfl, a, rfl, .inl ⟨ha, fun dx h1 h2 => ?_⟩⟩
    refine ⟨_, rfl, _, rfl, a, rfl, .inr ⟨dx, [("what", v)], upd_same, ?_, by show 1 ≤ 900; decide, k dx h1 h2⟩⟩
    rw [upd_ne h2, upd_same]
/-- what a check of the module promises: nothing, or an error of the class C that keeps v as f -/
def spChk (K : PySem.W.Frag) (ok : V → Bool) (C : Addr) : Sp := fun vs H Q E => ∃ v, vs = [v] ∧ Kind K H v ∧ ShortV v ∧ (ok v = true → ∀ H', Same H H' → Q .non H') ∧
  (ok v = false → ∀ d H', H d = none → Same H H' → H' d = some (.xd [("value", v)]) → E (.ref C) (some d) H')
def spChk2 (K : PySem.W.Frag) (ok : Str → V → Bool) (C : Addr) : Sp := fun vs H Q E => ∃ (L : Str) (v : V), vs = [.str L, v] ∧ Kind K H v ∧ ShortV v ∧ (ok L v = true → ∀ H', Same H H' → Q .non H') ∧
  (ok L v = false → ∀ d H', H d = none → Same H H' → H' d = some (.xd [("value", v)]) → E (.ref C) (some d) H')
/-- a whole number that is at least 0 -/
def countV : V → Bool
  | .int i => decide (0 ≤ i)
  | _ => false
theorem scChkLet : FnScope ["letters"] ["letters"] (defScope sChkLet) := ⟨rfl, rfl, rfl, by decide +kernel, rfl, by decide +kernel, by decide +kernel⟩
theorem ok_chklet {f C : Addr} {fd : FuncData} (F : Fun K "check_letters" "check_letters" sChkLet f fd) (XL : Xc P w K mg base "InvalidLetters" C veB "ValueError.__new__" ["self", "value"] (spEx1 C "value"))
    (D : Def P w K mg base 2 "is_letters" ["value"] (spIsLet K)) : FnOk P w K mg base (L2.CX P w) 3 f fd ["letters"] (spChk K lettersV C) := by
  obtain ⟨fD, fdD, GD, gD, kD, bD⟩ := D.ex
  obtain ⟨fI, fdI, iC, tI, F1, bI⟩ := XL.ex
  refine F.okX scChkLet (fun vs H Q E h => ?_) (fun cdv A outer s H vs Q E hr h => ?_)
  · obtain ⟨v, rfl, _⟩ := h
    rfl
  · obtain ⟨v, rfl, kd, sh, q1, q2⟩ := h
    refine ⟨_, pss_one (ps_if (pt_not (pt_val (pe_call GD hr rfl gD kD bD .nil pass0 (by exact (pa_cons (pv 0) pa_nil)))))
      (pss_one (ps_raise rfl (takes_of rfl rfl rfl rfl) (pmk_x PySem.F.excBase_ValueError XL.T iC tI F1 hr bI pass0 rfl XL.gC (pa_cons (pv 0) pa_nil)))) pss_nil), ?_⟩
    refine ⟨_, rfl, v, rfl, kd, sh, fun H1 s1 => ⟨_, rfl, ?_⟩⟩
    cases e : lettersV v with
    | true => exact iteF (q1 e H1 s1)
    | false =>
      refine iteT ?_
      exact ⟨_, rfl, mk1 fun d H' hd sm hx => q2 e d H' (s1.free hd) (s1.trans sm) hx⟩
end
end Lw
set_option Elab.async false
set_option linter.all false
set_option maxRecDepth 100000
set_option maxHeartbeats 4000000
namespace Lw
open PySem PySem.Spec PyProof.Rows L2
section
variable {P : Program} {w : World} {K : PySem.W.Frag} {mg : Str → Option Value} {base : Heap}
/-- as Def, for a def that may raise -/
structure DefX (P : Program) (w : World) (K : PySem.W.Frag) (mg : Str → Option Value) (base : Heap) (k : Nat) (x : Str) (ps : List Str) (sp : Sp) : Prop where
  ex : ∃ (f : Addr) (fd : FuncData), FnOk P w K mg base (L2.CX P w) k f fd ps sp ∧ mg x = some (.ref f) ∧ PySem.W.keepIn K (.ref f) = true ∧ Binds K fd ps []
theorem scChkRow : FnScope ["letters", "row"] ["letters", "row"] (defScope sChkRow) := ⟨rfl, rfl, rfl, by decide +kernel, rfl, by decide +kernel, by decide +kernel⟩
theorem ok_chkrow {f C : Addr} {fd : FuncData} (F : Fun K "check_row" "check_row" sChkRow f fd) (XL : Xc P w K mg base "InvalidRow" C veB "ValueError.__new__" ["self", "value"] (spEx1 C "value"))
    (D : Def P w K mg base 1 "is_over" ["letters", "value"] (spOver K)) : FnOk P w K mg base (L2.CX P w) 3 f fd ["letters", "row"] (spChk2 K overV C) := by
  obtain ⟨fD, fdD, GD, gD, kD, bD⟩ := D.ex
  obtain ⟨fI, fdI, iC, tI, F1, bI⟩ := XL.ex
  refine F.okX scChkRow (fun vs H Q E h => ?_) (fun cdv A outer s H vs Q E hr h => ?_)
  · obtain ⟨L, v, rfl, _⟩ := h
    rfl
  · obtain ⟨L, v, rfl, kd, sh, q1, q2⟩ := h
    refine ⟨_, pss_one (ps_if (pt_not (pt_val (pe_call GD (hr.mono (by decide)) rfl gD kD bD .nil pass0 (by exact (pa_cons (pv 0) (pa_cons (pv 1) pa_nil))))))
      (pss_one (ps_raise rfl (takes_of rfl rfl rfl rfl) (pmk_x PySem.F.excBase_ValueError XL.T iC tI F1 hr bI pass0 rfl XL.gC (pa_cons (pv 1) pa_nil)))) pss_nil), ?_⟩
    refine ⟨_, rfl, _, rfl, L, v, rfl, kd, sh, fun H1 s1 => ⟨_, rfl, ?_⟩⟩
    cases e : overV L v with
    | true => exact iteF (q1 e H1 s1)
    | false =>
      refine iteT ?_
      exact ⟨_, rfl, mk1 fun d H' hd sm hx => q2 e d H' (s1.free hd) (s1.trans sm) hx⟩
abbrev sIsCnt : Stmt := topS 9
def spIsCnt (K : PySem.W.Frag) : Sp := fun vs H Q _ => ∃ v, vs = [v] ∧ Kind K H v ∧ Q (.bl (countV v)) H
theorem scIsCnt : FnScope ["value"] ["value"] (defScope sIsCnt) := ⟨rfl, rfl, rfl, by decide +kernel, rfl, by decide +kernel, by decide +kernel⟩
theorem ok_iscnt {f : Addr} {fd : FuncData} (F : Fun K "is_count" "is_count" sIsCnt f fd) (D : Def P w K mg base 1 "is_integer" ["value"] (spIsInt K)) : FnOk P w K mg base CX0 2 f fd ["value"] (spIsCnt K) := by
  obtain ⟨fD, fdD, GD, gD, kD, bD⟩ := D.ex
  refine F.ok scIsCnt (fun vs H Q E h => ?_) (fun cdv A outer s H vs Q E hr h => ?_)
  · obtain ⟨v, rfl, _⟩ := h
    rfl
  · obtain ⟨v, rfl, kd, q⟩ := h
    refine ⟨_, pss_one (ps_ret (pe_and (pe_call GD hr rfl gD kD bD .nil pass0 (by exact (pa_cons (pv 0) pa_nil))) (pe_one (pe_cmpR op_ge (pv 0) pe_int (nomark _))))), ?_⟩
    refine ⟨_, rfl, v, rfl, kd, _, rfl, ?_⟩
    cases v with
    | int i => exact iteT ⟨_, rfl, _, _, rfl, rfl, q⟩
    | _ => exact iteF q
theorem scChkCnt : FnScope ["value"] ["value"] (defScope sChkCnt) := ⟨rfl, rfl, rfl, by decide +kernel, rfl, by decide +kernel, by decide +kernel⟩
theorem ok_chkcnt {f C : Addr} {fd : FuncData} (F : Fun K "check_count" "check_count" sChkCnt f fd) (XL : Xc P w K mg base "InvalidCount" C veB "ValueError.__new__" ["self", "value"] (spEx1 C "value"))
    (D : Def P w K mg base 2 "is_count" ["value"] (spIsCnt K)) : FnOk P w K mg base (L2.CX P w) 3 f fd ["value"] (spChk K countV C) := by
  obtain ⟨fD, fdD, GD, gD, kD, bD⟩ := D.ex
  obtain ⟨fI, fdI, iC, tI, F1, bI⟩ := XL.ex
  refine F.okX scChkCnt (fun vs H Q E h => ?_) (fun cdv A outer s H vs Q E hr h => ?_)
  · obtain ⟨v, rfl, _⟩ := h
    rfl
  · obtain ⟨v, rfl, kd, sh, q1, q2⟩ := h
    refine ⟨_, pss_one (ps_if (pt_not (pt_val (pe_call GD hr rfl gD kD bD .nil pass0 (by exact (pa_cons (pv 0) pa_nil)))))
      (pss_one (ps_raise rfl (takes_of rfl rfl rfl rfl) (pmk_x PySem.F.excBase_ValueError XL.T iC tI F1 hr bI pass0 rfl XL.gC (pa_cons (pv 0) pa_nil)))) pss_nil), ?_⟩
    refine ⟨_, rfl, v, rfl, kd, _, rfl, ?_⟩
    cases e : countV v with
    | true => exact iteF (q1 e H (Same.refl H))
    | false =>
      refine iteT ?_
      exact ⟨_, rfl, mk1 fun d H' hd sm hx => q2 e d H' hd sm hx⟩
def spMost (K : PySem.W.Frag) (C CM : Addr) : Sp := fun vs H Q E => ∃ v, vs = [v] ∧ Kind K H v ∧ ShortV v ∧ (countV v = false → ∀ d H', H d = none → Same H H' → H' d = some (.xd [("value", v)]) → E (.ref C) (some d) H') ∧
  ∀ i, v = .int i → 0 ≤ i → (i ≤ 200 → ∀ H', Same H H' → Q .non H') ∧ (200 < i → ∀ d H', H d = none → Same H H' → H' d = some (.xd [("limit", .int 200), ("what", .str "letters")]) → E (.ref CM) (some d) H')
theorem scChkMost : FnScope ["most"] ["most"] (defScope sChkMost) := ⟨rfl, rfl, rfl, by decide +kernel, rfl, by decide +kernel, by decide +kernel⟩
theorem ok_chkmost {f C CM : Addr} {fd : FuncData} (F : Fun K "check_most" "check_most" sChkMost f fd) (XM : Xc P w K mg base "TooMany" CM aeB "ArithmeticError.__new__" ["self", "what", "limit"] (spEx2 CM "what" "limit")) (T : Cs mg)
    (D : DefX P w K mg base 3 "check_count" ["value"] (spChk K countV C)) : FnOk P w K mg base (L2.CX P w) 4 f fd ["most"] (spMost K C CM) := by
  obtain ⟨fD, fdD, GD, gD, kD, bD⟩ := D.ex
  obtain ⟨fI, fdI, iC, tI, F1, bI⟩ := XM.ex
  obtain ⟨tL, hL⟩ := T.longest
  refine F.okX scChkMost (fun vs H Q E h => ?_) (fun cdv A outer s H vs Q E hr h => ?_)
  · obtain ⟨v, rfl, _⟩ := h
    rfl
  · obtain ⟨v, rfl, kd, sh, q1, q2⟩ := h
    refine ⟨_, pss_cons (ps_expr (pe_call GD hr rfl gD kD bD .nil (passes_call (takes_of rfl rfl rfl rfl) (fun _ _ _ _ h => h)) (by exact (pa_cons (pv 0) pa_nil))))
      (pss_one (ps_if (pt_cmpR op_gt (pv 0) (pe_glob (v := .int 200) (by rfl) hL ⟨_, rfl⟩) (nomark _))
        (pss_one (ps_raise rfl (takes_of rfl rfl rfl rfl) (pmk_x PySem.F.excBase_ArithmeticError XM.T iC tI F1 (hr.mono (by decide)) bI pass0 rfl XM.gC (by exact (pa_cons pe_str (pa_cons (pe_glob (v := .int 200) (by rfl) hL ⟨_, rfl⟩) pa_nil)))))) pss_nil)), ?_⟩
    refine ⟨_, rfl, v, rfl, kd, sh, fun e H1 s1 => ?_, fun e d H' hd sm hx => q1 e d H' hd sm hx⟩
    obtain ⟨i, rfl, hi⟩ : ∃ i, v = .int i ∧ 0 ≤ i := by
      cases v with
      | int i => exact ⟨i, rfl, of_decide_eq_true e⟩
      | _ => cases e
    obtain ⟨r1, r2⟩ := q2 i rfl hi
    refine ⟨_, rfl, _, _, rfl, rfl, _, rfl, ?_⟩
    refine ite2 (fun c => ?_) (fun c => ?_)
    · have c := of_decide_eq_true c
      exact mk2 fun d H' hd sm hx => r2 c d H' (s1.free hd) (s1.trans sm) hx
    · exact r1 (by simp at c; omega) H1 s1
end
end Lw
set_option Elab.async false
set_option linter.all false
set_option maxRecDepth 100000
set_option maxHeartbeats 4000000
namespace Lw
open PySem PySem.Spec PyProof.Rows L2
abbrev sUpTo : Stmt := topS 23
abbrev sNumbered : Stmt := topS 24
/-! ### the mathematics -/
def idx (L : Str) (c : Nat) : Nat := L.cps.toList.idxOf c
/-- the number of a row -/
def numOf (L : Str) (cs : List Nat) : Nat := cs.foldl (fun a c => a * L.length + idx L c + 1) 0
/-- the number of rows of at most k letters, over n letters -/
def upTo (n : Nat) : Nat → Nat
  | 0 => 1
  | k + 1 => upTo n k * n + 1
theorem numOf_snoc (L : Str) (cs : List Nat) (c : Nat) : numOf L (cs ++ [c]) = numOf L cs * L.length + idx L c + 1 := by
  unfold numOf
  rw [List.foldl_append]
  rfl
theorem lets_len : ∀ L ∈ LETS, 1 ≤ L.length ∧ L.length ≤ 4 := by decide +kernel
theorem lets_occ : ∀ L ∈ LETS, ∀ c ∈ L.cps.toList, Builtin.Str.occurrences L (sgn c) 0 L.length 1 = [idx L c] := by decide +kernel
theorem lets_idx : ∀ L ∈ LETS, ∀ c ∈ L.cps.toList, idx L c < L.length ∧ L.cps.toList[idx L c]? = some c := by decide +kernel
theorem lets_ok : ∀ L ∈ LETS, lettersV (.str L) = true := by decide +kernel
theorem nil_or_snoc (cs : List Nat) : cs = [] ∨ ∃ r c, cs = r ++ [c] := by
  rcases List.eq_nil_or_concat cs with h | ⟨r, c, h⟩
  · exact .inl h
  · exact .inr ⟨r, c, by rw [h, List.concat_eq_append]⟩
theorem numOf_lt {L : Str} (hL : L ∈ LETS) : ∀ (k : Nat) (cs : List Nat), (∀ c ∈ cs, c ∈ L.cps.toList) → cs.length ≤ k → numOf L cs < upTo L.length k := by
  intro k
  induction k with
  | zero =>
    intro cs _ hl
    have : cs = [] := List.eq_nil_of_length_eq_zero (by omega)
    subst this
    show 0 < 1
    omega
  | succ k ih =>
    intro cs hc hl
    by_cases e : cs = []
    · subst e
      show 0 < upTo L.length k * L.length + 1
      omega
    · obtain ⟨r, c, rfl⟩ := (nil_or_snoc cs).resolve_left e
      rw [numOf_snoc]
      have h1 := ih r (fun x hx => hc x (by simp [hx])) (by simp at hl; omega)
      have h2 := (lets_idx L hL c (hc c (by simp))).1
      show _ < upTo L.length k * L.length + 1
      have h3 : numOf L r + 1 ≤ upTo L.length k := h1
      have h4 := Nat.mul_le_mul_right L.length h3
      rw [Nat.add_mul, Nat.one_mul] at h4
      omega
theorem upTo_big (n : Nat) (hn : n ≤ 4) : ∀ k, upTo n k < 2 ^ (3 * k + 1) := by
  intro k
  induction k with
  | zero => show 1 < 2; decide
  | succ k ih =>
    show upTo n k * n + 1 < 2 ^ (3 * (k + 1) + 1)
    have h1 : upTo n k * n ≤ upTo n k * 4 := Nat.mul_le_mul_left _ hn
    have e : 2 ^ (3 * (k + 1) + 1) = 2 ^ (3 * k + 1) * 8 := by
      rw [show 3 * (k + 1) + 1 = (3 * k + 1) + 3 by omega, Nat.pow_add]
    omega
section
variable {P : Program} {w : World} {K : PySem.W.Frag} {mg : Str → Option Value} {base : Heap}
def spUpTo : Sp := fun vs H Q _ => ∃ (L : Str) (k : Nat), vs = [.str L, .int (k : Int)] ∧ L.length ≤ 4 ∧ k ≤ 200 ∧ Q (.int (upTo L.length k : Nat)) H
theorem scUpTo : FnScope ["letters", "most", "many", "_"] ["letters", "most"] (defScope sUpTo) := ⟨rfl, rfl, rfl, by decide +kernel, rfl, by decide +kernel, by decide +kernel⟩
theorem ok_upto {f : Addr} {fd : FuncData} {j : Nat} (F : Fun K "rows_up_to" "rows_up_to" sUpTo f fd) (B : Bl mg) : FnOk P w K mg base CX0 (j + 1) f fd ["letters", "most"] spUpTo := by
  refine F.ok scUpTo (fun vs H Q E h => ?_) (fun cdv A outer s H vs Q E hr h => ?_)
  · obtain ⟨L, k, rfl, _⟩ := h
    rfl
  · obtain ⟨L, k, rfl, hL, hk, q⟩ := h
    refine ⟨_, pss_cons (ps_set (i := 2) scUpTo.nd rfl (.inl rfl) pe_int)
      (pss_cons (ps_for PassesOwn.never rfl (pi_range1 (by rfl) B.range (pa_cons (pv 1) pa_nil)) (pg_name (i := 3) scUpTo.nd rfl (Or.inl rfl))
        (pss_one (ps_set (i := 2) scUpTo.nd rfl (.inl rfl) (pe_op op_add (pe_op op_mul (pv 2) (pe_callB call_len_str (by rfl) B.len PySem.boot_len (pa_cons (pv 0) pa_nil))) pe_int))))
      (pss_one (ps_ret (pv 2)))), ?_⟩
    have hz : L.length ≤ sizeLine := Evl.sz_of (by omega)
    refine ⟨_, rfl, _, rfl, by omega, by omega, ?_⟩
    refine for_range (lo := 0) (n := k) (fun i σ H' => H' = H ∧ ∃ u, σ = [some (.str L), some (.int (k : Int)), some (.int (upTo L.length i : Nat)), u]) ⟨rfl, none, rfl⟩ ?_ ?_
    · rintro i σ H' hi ⟨rfl, u, rfl⟩
      refine ⟨_, rfl, _, rfl, L, rfl, hz, _, _, rfl, rfl, .inr ⟨by omega, by omega⟩, _, _, rfl, rfl, ?_⟩
      refine ⟨rfl, some (.int (0 + (i : Int))), ?_⟩
      have e : ((upTo L.length i : Nat) : Int) * (L.length : Int) + 1 = ((upTo L.length (i + 1) : Nat) : Int) := by
        show _ = ((upTo L.length i * L.length + 1 : Nat) : Int)
        rw [Int.natCast_add, Int.natCast_mul]
        rfl
      show [some (V.str L), some (V.int (k : Int)), some (V.int (((upTo L.length i : Nat) : Int) * (L.length : Int) + 1)), some (V.int (0 + (i : Int)))] = _
      rw [e]
    · rintro σ H' ⟨rfl, u, rfl⟩
      exact ⟨_, rfl, q⟩
/-- the row that has this number -/
def spNumbered : Sp := fun vs H Q _ => ∃ (L : Str) (cs : List Nat), vs = [.str L, .int ((numOf L cs : Nat) : Int)] ∧ L ∈ LETS ∧ (∀ c ∈ cs, c ∈ L.cps.toList) ∧ cs.length ≤ 200 ∧ ∀ H', Same H H' → Q (.str ⟨cs.toArray⟩) H'
theorem scNumbered : FnScope ["letters", "number", "row", "place"] ["letters", "number"] (defScope sNumbered) := ⟨rfl, rfl, rfl, by decide +kernel, rfl, by decide +kernel, by decide +kernel⟩
theorem ok_numbered {f : Addr} {fd : FuncData} {j : Nat} (F : Fun K "numbered_row" "numbered_row" sNumbered f fd) (B : Bl mg) : FnOk P w K mg base CX0 (j + 1) f fd ["letters", "number"] spNumbered := by
  refine F.ok scNumbered (fun vs H Q E h => ?_) (fun cdv A outer s H vs Q E hr h => ?_)
  · obtain ⟨L, k, rfl, _⟩ := h
    rfl
  · obtain ⟨L, cs, rfl, hL, hc, hk, q⟩ := h
    refine ⟨_, pss_cons (ps_set (i := 2) scNumbered.nd rfl (.inl rfl) pe_str)
      (pss_cons (ps_while PassesOwn.never (pt_cmpR op_gt (pv 1) pe_int (nomark _))
        (pss_cons (ps_asg (pe_callB call_divmodW (by rfl) B.divmod (by decide +kernel) (pa_cons (pe_op op_sub (pv 1) pe_int) (pa_cons (pe_callB call_len_str (by rfl) B.len PySem.boot_len (pa_cons (pv 0) pa_nil)) pa_nil)))
            (pg_tup (by rfl) (pgs_cons (pg_name (i := 1) scNumbered.nd rfl (.inl rfl)) (pgs_cons (pg_name (i := 3) scNumbered.nd rfl (.inl rfl)) pgs_nil))))
          (pss_one (ps_set (i := 2) scNumbered.nd rfl (.inl rfl) (pe_op op_add_str (pe_ix ix_str (pv 0) (pv 3) (fun _ _ => rfl)) (pv 2))))))
      (pss_one (ps_ret (pv 2)))), ?_⟩
    have hl4 := lets_len L hL
    have hz : L.length ≤ sizeLine := Evl.sz_of (by omega)
    refine ⟨fun m σ H' => ∃ (a b : List Nat) (u : Option V), cs = a ++ b ∧ m = a.length ∧ σ = [some (.str L), some (.int ((numOf L a : Nat) : Int)), some (.str ⟨b.toArray⟩), u] ∧ Same H H', ⟨cs.length, cs, [], none, by simp, rfl, rfl, Same.refl H⟩, ?_⟩
    rintro m σ H' ⟨a, b, u, rfl, rfl, rfl, sm⟩
    refine ⟨_, rfl, _, _, rfl, rfl, _, rfl, ?_⟩
    rcases nil_or_snoc a with rfl | ⟨r, c, rfl⟩
    · refine ite2 (fun hh => absurd (of_decide_eq_true hh) (by show ¬ (0 : Int) < ((0 : Nat) : Int); decide)) (fun _ => ?_)
      exact ⟨_, rfl, q H' sm⟩
    · rw [numOf_snoc]
      have hcL : c ∈ L.cps.toList := hc c (by simp)
      obtain ⟨hi, hg⟩ := lets_idx L hL c hcL
      refine ite2 (fun _ => ?_) (fun hh => absurd (decide_eq_true (show (0 : Int) < ((numOf L r * L.length + idx L c + 1 : Nat) : Int) by omega)) hh)
      refine ⟨fun σ' H2 => ∃ u', σ' = [some (.str L), some (.int ((numOf L r : Nat) : Int)), some (.str ⟨(c :: b).toArray⟩), u'] ∧ Same H H2, fun σ' H2 ⟨u', e, s2⟩ => ⟨r.length, by simp, r, c :: b, u', by simp, rfl, e, s2⟩, ?_⟩
      refine ⟨_, rfl, _, _, rfl, rfl, _, rfl, L, rfl, hz, _, _, rfl, divp_small (by omega) (by omega), fun t nt => ?_⟩
      have e1 : (((numOf L r * L.length + idx L c + 1 : Nat) : Int) - 1) / (L.length : Int) = ((numOf L r : Nat) : Int) := by
        have e0 : ((numOf L r * L.length + idx L c + 1 : Nat) : Int) - 1 = ((numOf L r * L.length + idx L c : Nat) : Int) := by omega
        rw [e0, ← Int.natCast_ediv]
        congr 1
        rw [Nat.mul_comm, Nat.mul_add_div (by omega), Nat.div_eq_of_lt hi]
        omega
      have e2 : (((numOf L r * L.length + idx L c + 1 : Nat) : Int) - 1) % (L.length : Int) = ((idx L c : Nat) : Int) := by
        have e0 : ((numOf L r * L.length + idx L c + 1 : Nat) : Int) - 1 = ((numOf L r * L.length + idx L c : Nat) : Int) := by omega
        rw [e0, ← Int.natCast_emod]
        congr 1
        rw [Nat.mul_comm, Nat.mul_add_mod, Nat.mod_eq_of_lt hi]
      refine ⟨t, _, rfl, .inl (.inl upd_same), rfl, _, _, rfl, _, _, rfl, rfl, ?_⟩
      rw [e1, e2]
      refine ⟨_, rfl, _, rfl, L, _, c, rfl, rfl, hz, atI_nat hg, _, rfl, _, _, rfl, rfl, ?_, ?_⟩
      · show 1 + b.toArray.size ≤ sizeLine
        rw [List.size_toArray]
        simp at hk
        exact Evl.sz_of (by omega)
      · refine ⟨some (.int ((idx L c : Nat) : Int)), ?_, Same.new' sm nt⟩
        have e3 : (⟨#[c]⟩ : Str) ++ (⟨b.toArray⟩ : Str) = ⟨(c :: b).toArray⟩ := by
          show Str.mk (#[c] ++ b.toArray) = _
          simp
        rw [e3]
        rfl
end
end Lw
set_option Elab.async false
set_option linter.all false
set_option maxRecDepth 100000
set_option maxHeartbeats 4000000
namespace Lw
open PySem PySem.Spec PyProof.Rows L2
abbrev sIsRow : Stmt := topS 16
abbrev sIsAhead : Stmt := topS 17
abbrev sMany : Stmt := topS 19
abbrev sRowAt : Stmt := topS 20
abbrev sNumberOf : Stmt := topS 21
/-- the way out by an error of the class C that keeps v; by the limit of letters -/
def Err (E : XK) (H : Hp) (C : Addr) (v : V) : Prop := ∀ d H', H d = none → Same H H' → H' d = some (.xd [("value", v)]) → E (.ref C) (some d) H'
def ErrM (E : XK) (H : Hp) (C : Addr) : Prop := ∀ d H', H d = none → Same H H' → H' d = some (.xd [("limit", .int 200), ("what", .str "letters")]) → E (.ref C) (some d) H'
theorem Err.on {E : XK} {H H1 : Hp} {C : Addr} {v : V} (h : Err E H C v) (s : Same H H1) : Err E H1 C v := fun d H' hd sm hx => h d H' (s.free hd) (s.trans sm) hx
theorem ErrM.on {E : XK} {H H1 : Hp} {C : Addr} (h : ErrM E H C) (s : Same H H1) : ErrM E H1 C := fun d H' hd sm hx => h d H' (s.free hd) (s.trans sm) hx
theorem lets_short : ∀ L ∈ LETS, L.length < 100000 := by decide +kernel
theorem short_lets {L : Str} (h : L ∈ LETS) : ShortV (.str L) := fun z e => by cases e; exact lets_short _ h
theorem absB {a : Bool} {p : Prop} (h : a = false) (h' : a = true) : p := by rw [h] at h'; cases h'
theorem absB' {a : Bool} {p : Prop} (h : a = true) (h' : a = false) : p := by rw [h] at h'; cases h'
theorem count_nat (k : Nat) : countV (.int (k : Int)) = true := by
  show decide ((0 : Int) ≤ (k : Int)) = true
  exact decide_eq_true (by omega)
theorem kind_str {K : PySem.W.Frag} {H : Hp} (z : Str) : Kind K H (.str z) := ⟨"str", .base (.str z), by decide⟩
theorem kind_int {K : PySem.W.Frag} {H : Hp} (i : Int) : Kind K H (.int i) := ⟨"int", .base (.int i), by decide⟩
section
variable {P : Program} {w : World} {K : PySem.W.Frag} {mg : Str → Option Value} {base : Heap}
def spIsRow (K : PySem.W.Frag) (CL : Addr) : Sp := fun vs H Q E => ∃ v1 v2, vs = [v1, v2] ∧ Kind K H v1 ∧ ShortV v1 ∧ Kind K H v2 ∧ ShortV v2 ∧
  ((lettersV v1 = false ∧ Err E H CL v1) ∨ ∃ L, L ∈ LETS ∧ v1 = .str L ∧ ∀ H', Same H H' → Q (.bl (overV L v2)) H')
def spAhead (K : PySem.W.Frag) (CL CR : Addr) : Sp := fun vs H Q E => ∃ v1 v2 v3, vs = [v1, v2, v3] ∧ Kind K H v1 ∧ ShortV v1 ∧ Kind K H v2 ∧ ShortV v2 ∧ Kind K H v3 ∧ ShortV v3 ∧
  ((lettersV v1 = false ∧ Err E H CL v1) ∨ ∃ L, L ∈ LETS ∧ v1 = .str L ∧ ((overV L v2 = false ∧ Err E H CR v2) ∨ (overV L v2 = true ∧ overV L v3 = false ∧ Err E H CR v3)))
def spNum (K : PySem.W.Frag) (CL CR : Addr) : Sp := fun vs H Q E => ∃ v1 v2, vs = [v1, v2] ∧ Kind K H v1 ∧ ShortV v1 ∧ Kind K H v2 ∧ ShortV v2 ∧
  ((lettersV v1 = false ∧ Err E H CL v1) ∨ ∃ L, L ∈ LETS ∧ v1 = .str L ∧ ((overV L v2 = false ∧ Err E H CR v2) ∨
    ∃ cs : List Nat, v2 = .str ⟨cs.toArray⟩ ∧ (∀ c ∈ cs, c ∈ L.cps.toList) ∧ cs.length ≤ 200 ∧ ∀ H', Same H H' → Q (.int ((numOf L cs : Nat) : Int)) H'))
def spMany (K : PySem.W.Frag) (CL CC CM : Addr) : Sp := fun vs H Q E => ∃ v1 v2, vs = [v1, v2] ∧ Kind K H v1 ∧ ShortV v1 ∧ Kind K H v2 ∧ ShortV v2 ∧
  ((lettersV v1 = false ∧ Err E H CL v1) ∨ ∃ L, L ∈ LETS ∧ v1 = .str L ∧ ((countV v2 = false ∧ Err E H CC v2) ∨
    (∃ i, v2 = .int i ∧ 200 < i ∧ ErrM E H CM) ∨ ∃ k : Nat, v2 = .int (k : Int) ∧ k ≤ 200 ∧ ∀ H', Same H H' → Q (.int ((upTo L.length k : Nat) : Int)) H'))
def spRowAt (K : PySem.W.Frag) (CL CC CM : Addr) : Sp := fun vs H Q E => ∃ v1 v2, vs = [v1, v2] ∧ Kind K H v1 ∧ ShortV v1 ∧ Kind K H v2 ∧ ShortV v2 ∧
  ((lettersV v1 = false ∧ Err E H CL v1) ∨ ∃ L, L ∈ LETS ∧ v1 = .str L ∧ ((countV v2 = false ∧ Err E H CC v2) ∨
    (∃ i, v2 = .int i ∧ ((upTo L.length 200 : Nat) : Int) ≤ i ∧ ErrM E H CM) ∨
    ∃ cs : List Nat, v2 = .int ((numOf L cs : Nat) : Int) ∧ (∀ c ∈ cs, c ∈ L.cps.toList) ∧ cs.length ≤ 200 ∧ ∀ H', Same H H' → Q (.str ⟨cs.toArray⟩) H'))
theorem scIsRow : FnScope ["letters", "value"] ["letters", "value"] (defScope sIsRow) := ⟨rfl, rfl, rfl, by decide +kernel, rfl, by decide +kernel, by decide +kernel⟩
theorem scAhead : FnScope ["letters", "row", "other"] ["letters", "row", "other"] (defScope sIsAhead) := ⟨rfl, rfl, rfl, by decide +kernel, rfl, by decide +kernel, by decide +kernel⟩
theorem scMany : FnScope ["letters", "most"] ["letters", "most"] (defScope sMany) := ⟨rfl, rfl, rfl, by decide +kernel, rfl, by decide +kernel, by decide +kernel⟩
theorem scRowAt : FnScope ["letters", "number"] ["letters", "number"] (defScope sRowAt) := ⟨rfl, rfl, rfl, by decide +kernel, rfl, by decide +kernel, by decide +kernel⟩
theorem scNumberOf : FnScope ["letters", "row", "number", "letter"] ["letters", "row"] (defScope sNumberOf) := ⟨rfl, rfl, rfl, by decide +kernel, rfl, by decide +kernel, by decide +kernel⟩
theorem ok_isrow {f CL : Addr} {fd : FuncData} (F : Fun K "is_row" "is_row" sIsRow f fd) (D1 : DefX P w K mg base 3 "check_letters" ["letters"] (spChk K lettersV CL)) (D2 : Def P w K mg base 1 "is_over" ["letters", "value"] (spOver K)) :
    FnOk P w K mg base (L2.CX P w) 4 f fd ["letters", "value"] (spIsRow K CL) := by
  obtain ⟨f1, fd1, G1, g1, k1, b1⟩ := D1.ex
  obtain ⟨f2, fd2, G2, g2, k2, b2⟩ := D2.ex
  refine F.okX scIsRow (fun vs H Q E h => ?_) (fun cdv A outer s H vs Q E hr h => ?_)
  · obtain ⟨v1, v2, rfl, _⟩ := h
    rfl
  · obtain ⟨v1, v2, rfl, kd1, sh1, kd2, sh2, h⟩ := h
    refine ⟨_, pss_cons (ps_expr (pe_call G1 hr rfl g1 k1 b1 .nil (passes_call (takes_of rfl rfl rfl rfl) (fun _ _ _ _ h => h)) (by exact (pa_cons (pv 0) pa_nil))))
      (pss_one (ps_ret (pe_call G2 (hr.mono (by decide)) rfl g2 k2 b2 .nil pass0 (by exact (pa_cons (pv 0) (pa_cons (pv 1) pa_nil)))))), ?_⟩
    rcases h with ⟨e1, er⟩ | ⟨L, hL, rfl, q⟩
    · exact ⟨_, rfl, v1, rfl, kd1, sh1, fun e => (absB e1 e), fun _ d H' hd sm hx => er d H' hd sm hx⟩
    · refine ⟨_, rfl, _, rfl, kd1, sh1, fun _ H1 s1 => ?_, fun e => (absB' (lets_ok L hL) e)⟩
      exact ⟨_, rfl, _, rfl, L, v2, rfl, kd2.same s1, sh2, fun H2 s2 => q H2 (s1.trans s2)⟩
theorem ok_ahead {f CL CR : Addr} {fd : FuncData} (F : Fun K "is_ahead" "is_ahead" sIsAhead f fd) (D1 : DefX P w K mg base 3 "check_letters" ["letters"] (spChk K lettersV CL)) (D2 : DefX P w K mg base 3 "check_row" ["letters", "row"] (spChk2 K overV CR)) :
    FnOk P w K mg base (L2.CX P w) 4 f fd ["letters", "row", "other"] (spAhead K CL CR) := by
  obtain ⟨f1, fd1, G1, g1, k1, b1⟩ := D1.ex
  obtain ⟨f2, fd2, G2, g2, k2, b2⟩ := D2.ex
  refine F.okX scAhead (fun vs H Q E h => ?_) (fun cdv A outer s H vs Q E hr h => ?_)
  · obtain ⟨v1, v2, v3, rfl, _⟩ := h
    rfl
  · obtain ⟨v1, v2, v3, rfl, kd1, sh1, kd2, sh2, kd3, sh3, h⟩ := h
    refine ⟨_, pss_cons (ps_expr (pe_call G1 hr rfl g1 k1 b1 .nil (passes_call (takes_of rfl rfl rfl rfl) (fun _ _ _ _ h => h)) (by exact (pa_cons (pv 0) pa_nil))))
      (pss_cons (ps_expr (pe_call G2 hr rfl g2 k2 b2 .nil (passes_call (takes_of rfl rfl rfl rfl) (fun _ _ _ _ h => h)) (by exact (pa_cons (pv 0) (pa_cons (pv 1) pa_nil)))))
      (pss_cons (ps_expr (pe_call G2 hr rfl g2 k2 b2 .nil (passes_call (takes_of rfl rfl rfl rfl) (fun _ _ _ _ h => h)) (by exact (pa_cons (pv 0) (pa_cons (pv 2) pa_nil)))))
      (pss_one ps_never))), ?_⟩
    rcases h with ⟨e1, er⟩ | ⟨L, hL, rfl, h⟩
    · exact ⟨_, rfl, v1, rfl, kd1, sh1, fun e => (absB e1 e), fun _ d H' hd sm hx => er d H' hd sm hx⟩
    · refine ⟨_, rfl, _, rfl, kd1, sh1, fun _ H1 s1 => ?_, fun e => (absB' (lets_ok L hL) e)⟩
      rcases h with ⟨e2, er⟩ | ⟨e2, e3, er⟩
      · exact ⟨_, rfl, _, rfl, L, v2, rfl, kd2.same s1, sh2, fun e => (absB e2 e), fun _ => er.on s1⟩
      · refine ⟨_, rfl, _, rfl, L, v2, rfl, kd2.same s1, sh2, fun _ H2 s2 => ?_, fun e => (absB' e2 e)⟩
        exact ⟨_, rfl, _, rfl, L, v3, rfl, kd3.same (s1.trans s2), sh3, fun e => (absB e3 e), fun _ => er.on (s1.trans s2)⟩
theorem ok_many {f CL CC CM : Addr} {fd : FuncData} (F : Fun K "many_rows" "many_rows" sMany f fd) (D1 : DefX P w K mg base 3 "check_letters" ["letters"] (spChk K lettersV CL)) (D2 : DefX P w K mg base 4 "check_most" ["most"] (spMost K CC CM))
    (D3 : Def P w K mg base 1 "rows_up_to" ["letters", "most"] spUpTo) : FnOk P w K mg base (L2.CX P w) 5 f fd ["letters", "most"] (spMany K CL CC CM) := by
  obtain ⟨f1, fd1, G1, g1, k1, b1⟩ := D1.ex
  obtain ⟨f2, fd2, G2, g2, k2, b2⟩ := D2.ex
  obtain ⟨f3, fd3, G3, g3, k3, b3⟩ := D3.ex
  refine F.okX scMany (fun vs H Q E h => ?_) (fun cdv A outer s H vs Q E hr h => ?_)
  · obtain ⟨v1, v2, rfl, _⟩ := h
    rfl
  · obtain ⟨v1, v2, rfl, kd1, sh1, kd2, sh2, h⟩ := h
    refine ⟨_, pss_cons (ps_expr (pe_call G1 (hr.mono (by decide)) rfl g1 k1 b1 .nil (passes_call (takes_of rfl rfl rfl rfl) (fun _ _ _ _ h => h)) (by exact (pa_cons (pv 0) pa_nil))))
      (pss_cons (ps_expr (pe_call G2 hr rfl g2 k2 b2 .nil (passes_call (takes_of rfl rfl rfl rfl) (fun _ _ _ _ h => h)) (by exact (pa_cons (pv 1) pa_nil))))
      (pss_one (ps_ret (pe_call G3 (hr.mono (by decide)) rfl g3 k3 b3 .nil pass0 (by exact (pa_cons (pv 0) (pa_cons (pv 1) pa_nil))))))), ?_⟩
    rcases h with ⟨e1, er⟩ | ⟨L, hL, rfl, h⟩
    · exact ⟨_, rfl, v1, rfl, kd1, sh1, fun e => (absB e1 e), fun _ d H' hd sm hx => er d H' hd sm hx⟩
    · refine ⟨_, rfl, _, rfl, kd1, sh1, fun _ H1 s1 => ?_, fun e => (absB' (lets_ok L hL) e)⟩
      rcases h with ⟨e2, er⟩ | ⟨i, rfl, hi, er⟩ | ⟨k, rfl, hk, q⟩
      · exact ⟨_, rfl, _, rfl, kd2.same s1, sh2, fun _ => er.on s1, fun i e h0 => (by subst e; exact absB' (show countV (.int i) = true from decide_eq_true h0) e2)⟩
      · refine ⟨_, rfl, _, rfl, kd2.same s1, sh2, fun e => (absB' (show countV (.int i) = true from decide_eq_true (by omega)) e), fun j e h0 => ?_⟩
        cases e
        exact ⟨fun hh => absurd hh (by omega), fun _ => er.on s1⟩
      · refine ⟨_, rfl, _, rfl, kd2.same s1, sh2, fun e => (absB' (count_nat k) e), fun j e h0 => ?_⟩
        cases e
        refine ⟨fun _ H2 s2 => ?_, fun hh => absurd hh (by omega)⟩
        exact ⟨_, rfl, _, rfl, L, k, rfl, (lets_len L hL).2, hk, q H2 (s1.trans s2)⟩
theorem ok_rowat {f CL CC CM : Addr} {fd : FuncData} (F : Fun K "row_at" "row_at" sRowAt f fd) (XM : Xc P w K mg base "TooMany" CM aeB "ArithmeticError.__new__" ["self", "what", "limit"] (spEx2 CM "what" "limit")) (T : Cs mg)
    (D1 : DefX P w K mg base 3 "check_letters" ["letters"] (spChk K lettersV CL)) (D2 : DefX P w K mg base 3 "check_count" ["value"] (spChk K countV CC))
    (D3 : Def P w K mg base 1 "rows_up_to" ["letters", "most"] spUpTo) (D4 : Def P w K mg base 1 "numbered_row" ["letters", "number"] spNumbered) : FnOk P w K mg base (L2.CX P w) 4 f fd ["letters", "number"] (spRowAt K CL CC CM) := by
  obtain ⟨f1, fd1, G1, g1, k1, b1⟩ := D1.ex
  obtain ⟨f2, fd2, G2, g2, k2, b2⟩ := D2.ex
  obtain ⟨f3, fd3, G3, g3, k3, b3⟩ := D3.ex
  obtain ⟨f4, fd4, G4, g4, k4, b4⟩ := D4.ex
  obtain ⟨fI, fdI, iC, tI, F1, bI⟩ := XM.ex
  obtain ⟨tL, hLg⟩ := T.longest
  refine F.okX scRowAt (fun vs H Q E h => ?_) (fun cdv A outer s H vs Q E hr h => ?_)
  · obtain ⟨v1, v2, rfl, _⟩ := h
    rfl
  · obtain ⟨v1, v2, rfl, kd1, sh1, kd2, sh2, h⟩ := h
    refine ⟨_, pss_cons (ps_expr (pe_call G1 hr rfl g1 k1 b1 .nil (passes_call (takes_of rfl rfl rfl rfl) (fun _ _ _ _ h => h)) (by exact (pa_cons (pv 0) pa_nil))))
      (pss_cons (ps_expr (pe_call G2 hr rfl g2 k2 b2 .nil (passes_call (takes_of rfl rfl rfl rfl) (fun _ _ _ _ h => h)) (by exact (pa_cons (pv 1) pa_nil))))
      (pss_cons (ps_if (pt_cmpR op_ge (pv 1) (pe_call G3 (hr.mono (by decide)) rfl g3 k3 b3 .nil pass0 (by exact (pa_cons (pv 0) (pa_cons (pe_glob (v := .int 200) (by rfl) hLg ⟨_, rfl⟩) pa_nil)))) (nomark _))
        (pss_one (ps_raise rfl (takes_of rfl rfl rfl rfl) (pmk_x PySem.F.excBase_ArithmeticError XM.T iC tI F1 (hr.mono (by decide)) bI pass0 rfl XM.gC (by exact (pa_cons pe_str (pa_cons (pe_glob (v := .int 200) (by rfl) hLg ⟨_, rfl⟩) pa_nil)))))) pss_nil)
      (pss_one (ps_ret (pe_call G4 (hr.mono (by decide)) rfl g4 k4 b4 .nil pass0 (by exact (pa_cons (pv 0) (pa_cons (pv 1) pa_nil)))))))), ?_⟩
    rcases h with ⟨e1, er⟩ | ⟨L, hL, rfl, h⟩
    · exact ⟨_, rfl, v1, rfl, kd1, sh1, fun e => (absB e1 e), fun _ d H' hd sm hx => er d H' hd sm hx⟩
    · refine ⟨_, rfl, _, rfl, kd1, sh1, fun _ H1 s1 => ?_, fun e => (absB' (lets_ok L hL) e)⟩
      rcases h with ⟨e2, er⟩ | ⟨i, rfl, hi, er⟩ | ⟨cs, rfl, hc, hk, q⟩
      · exact ⟨_, rfl, v2, rfl, kd2.same s1, sh2, fun e => (absB e2 e), fun _ => er.on s1⟩
      · refine ⟨_, rfl, _, rfl, kd2.same s1, sh2, fun _ H2 s2 => ?_, fun e => (absB' (show countV (.int i) = true from decide_eq_true (by omega)) e)⟩
        refine ⟨_, rfl, _, rfl, L, 200, rfl, (lets_len L hL).2, Nat.le_refl _, _, _, rfl, rfl, _, rfl, ?_⟩
        refine ite2 (fun _ => ?_) (fun c => absurd (decide_eq_true hi) c)
        exact mk2 fun d H' hd sm hx => er d H' ((s1.trans s2).free hd) ((s1.trans s2).trans sm) hx
      · refine ⟨_, rfl, _, rfl, kd2.same s1, sh2, fun _ H2 s2 => ?_, fun e => (absB' (count_nat _) e)⟩
        refine ⟨_, rfl, _, rfl, L, 200, rfl, (lets_len L hL).2, Nat.le_refl _, _, _, rfl, rfl, _, rfl, ?_⟩
        have hlt := numOf_lt hL 200 cs hc hk
        refine ite2 (fun c => absurd (of_decide_eq_true c) (by show ¬ ((upTo L.length 200 : Nat) : Int) ≤ ((numOf L cs : Nat) : Int); omega)) (fun _ => ?_)
        exact ⟨_, rfl, _, rfl, L, cs, rfl, hL, hc, hk, fun H3 s3 => q H3 ((s1.trans s2).trans s3)⟩
theorem num_step {L : Str} (hL : L ∈ LETS) {cs : List Nat} {c : Nat} (hc : c ∈ L.cps.toList) : ((numOf L cs : Nat) : Int) * (L.length : Int) + ((idx L c : Nat) : Int) + 1 = ((numOf L (cs ++ [c]) : Nat) : Int) := by
  rw [numOf_snoc, Int.natCast_add, Int.natCast_add, Int.natCast_mul]
  rfl
theorem ok_number {f CL CR : Addr} {fd : FuncData} (F : Fun K "number_of" "number_of" sNumberOf f fd) (B : Bl mg) (D1 : DefX P w K mg base 3 "check_letters" ["letters"] (spChk K lettersV CL)) (D2 : DefX P w K mg base 3 "check_row" ["letters", "row"] (spChk2 K overV CR)) :
    FnOk P w K mg base (L2.CX P w) 4 f fd ["letters", "row"] (spNum K CL CR) := by
  obtain ⟨f1, fd1, G1, g1, k1, b1⟩ := D1.ex
  obtain ⟨f2, fd2, G2, g2, k2, b2⟩ := D2.ex
  refine F.okX scNumberOf (fun vs H Q E h => ?_) (fun cdv A outer s H vs Q E hr h => ?_)
  · obtain ⟨v1, v2, rfl, _⟩ := h
    rfl
  · obtain ⟨v1, v2, rfl, kd1, sh1, kd2, sh2, h⟩ := h
    refine ⟨_, pss_cons (ps_expr (pe_call G1 hr rfl g1 k1 b1 .nil (passes_call (takes_of rfl rfl rfl rfl) (fun _ _ _ _ h => h)) (by exact (pa_cons (pv 0) pa_nil))))
      (pss_cons (ps_expr (pe_call G2 hr rfl g2 k2 b2 .nil (passes_call (takes_of rfl rfl rfl rfl) (fun _ _ _ _ h => h)) (by exact (pa_cons (pv 0) (pa_cons (pv 1) pa_nil)))))
      (pss_cons (ps_set (i := 2) scNumberOf.nd rfl (.inl rfl) pe_int)
      (pss_cons (ps_for (passes_of rfl) rfl (pi_str (pv 1)) (pg_name (i := 3) scNumberOf.nd rfl (Or.inl rfl))
        (pss_one (ps_set (i := 2) scNumberOf.nd rfl (.inl rfl) (pe_op op_add (pe_op op_add (pe_op op_mul (pv 2) (pe_callB call_len_str (by rfl) B.len PySem.boot_len (pa_cons (pv 0) pa_nil)))
          (pe_m1 PySem.F.slot_str_index PySem.F.type_str_index mt_sindex (pv 0) (pv 3))) pe_int))))
      (pss_one (ps_ret (pv 2)))))), ?_⟩
    rcases h with ⟨e1, er⟩ | ⟨L, hL, rfl, h⟩
    · exact ⟨_, rfl, v1, rfl, kd1, sh1, fun e => (absB e1 e), fun _ d H' hd sm hx => er d H' hd sm hx⟩
    · refine ⟨_, rfl, _, rfl, kd1, sh1, fun _ H1 s1 => ?_, fun e => (absB' (lets_ok L hL) e)⟩
      rcases h with ⟨e2, er⟩ | ⟨cs, rfl, hc, hk, q⟩
      · exact ⟨_, rfl, _, rfl, L, v2, rfl, kd2.same s1, sh2, fun e => (absB e2 e), fun _ => er.on s1⟩
      · have ho : overV L (.str ⟨cs.toArray⟩) = true := by
          show (cs.toArray.toList.all fun c => decide (c ∈ L.cps.toList)) = true
          rw [List.all_eq_true]
          intro c hcc
          exact decide_eq_true (hc c (by simpa using hcc))
        refine ⟨_, rfl, _, rfl, L, _, rfl, kd2.same s1, sh2, fun _ H2 s2 => ?_, fun e => (absB' ho e)⟩
        have hz : L.length ≤ sizeLine := Evl.sz_of (by have := (lets_len L hL).2; omega)
        refine ⟨_, rfl, _, rfl, ?_⟩
        have es : (⟨cs.toArray⟩ : Str).cps.size = cs.length := by show cs.toArray.size = _; simp
        have wz := walk_str (z := ⟨cs.toArray⟩)
        rw [es] at wz
        refine for_it wz (fun i σ H' => H' = H2 ∧ ∃ u, σ = [some (.str L), some (.str ⟨cs.toArray⟩), some (.int ((numOf L (cs.take i) : Nat) : Int)), u]) ⟨rfl, none, rfl⟩ (fun _ _ _ _ _ => trivial) ?_ ?_
        · rintro i x σ Ha Hb hi ⟨rfl, u, rfl⟩ ⟨rfl, c, hcx, rfl⟩
          have hci : cs[i]? = some c := by simpa using hcx
          have hcL : c ∈ L.cps.toList := hc c (List.mem_of_getElem? hci)
          refine ⟨_, rfl, _, rfl, L, rfl, hz, _, _, rfl, rfl, .inr ⟨by have := (lets_len L hL).2; omega, by have := (lets_len L hL).2; omega⟩, ?_⟩
          refine ⟨_, rfl, ⟨_, rfl⟩, _, rfl, L, sgn c, _, _, rfl, rfl, lets_occ L hL c hcL, _, _, rfl, rfl, _, _, rfl, rfl, ?_⟩
          refine ⟨rfl, some (.str (sgn c)), ?_⟩
          have et : cs.take (i + 1) = cs.take i ++ [c] := by rw [List.take_add_one, hci]; rfl
          show [some (V.str L), some (V.str ⟨cs.toArray⟩), some (V.int (((numOf L (cs.take i) : Nat) : Int) * (L.length : Int) + ((idx L c : Nat) : Int) + 1)), some (V.str (sgn c))] = _
          rw [num_step hL hcL, et]
        · rintro σ H' ⟨rfl, u, rfl⟩
          refine ⟨_, rfl, ?_⟩
          rw [List.take_length]
          exact q _ (s1.trans s2)
end
end Lw
set_option Elab.async false
set_option linter.all false
set_option maxRecDepth 100000
set_option maxHeartbeats 4000000
/-! what a call tells: the law's def that calls what it is given -/
namespace Lw
open PySem PySem.Spec PyProof.Rows L2
abbrev sTold : Stmt := topS 34
def toldN : List Str := ["_law_call", "_law_told_here", "e"]
theorem scTold : FnScope toldN ["_law_call"] (defScope sTold) := ⟨rfl, rfl, rfl, by decide +kernel, rfl, by decide +kernel, by decide +kernel⟩
/-- an own error class as the law's def meets it: the base B of the module, the built-in base bb -/
structure Met (K : PySem.W.Frag) (mg : Str → Option Value) (x : Str) (C B : Addr) (bb : String) : Prop where
  gC : mg x = some (.ref C)
  is_ : ExcC K C
  fld : XfC K C
  kB : PySem.W.kitOne K (.ref C) (.ref B) = some true
  kb : PySem.W.kitOne K (.ref C) (.type bb) = some true
/-- the four classes of the module, their bases, and which except clause takes which of them -/
structure Mets (K : PySem.W.Frag) (mg : Str → Option Value) (CL CR CC CM BE LE : Addr) : Prop where
  l : Met K mg "InvalidLetters" CL BE "ValueError"
  r : Met K mg "InvalidRow" CR BE "ValueError"
  c : Met K mg "InvalidCount" CC BE "ValueError"
  m : Met K mg "TooMany" CM LE "ArithmeticError"
  be : mg "BookError" = some (.ref BE)
  le : mg "LimitError" = some (.ref LE)
  ve : mg "ValueError" = none
  ae : mg "ArithmeticError" = none
  nl : PySem.W.findIn K (.ref CL) "value" = some none
  nr : PySem.W.findIn K (.ref CR) "value" = some none
  nc : PySem.W.findIn K (.ref CC) "value" = some none
  nw : PySem.W.findIn K (.ref CM) "what" = some none
  nm : PySem.W.findIn K (.ref CM) "limit" = some none
  ll : PySem.W.exmOne K (.ref CL) (.ref CL) = some true
  rl : PySem.W.exmOne K (.ref CR) (.ref CL) = some false
  rr : PySem.W.exmOne K (.ref CR) (.ref CR) = some true
  cl : PySem.W.exmOne K (.ref CC) (.ref CL) = some false
  cr : PySem.W.exmOne K (.ref CC) (.ref CR) = some false
  cc : PySem.W.exmOne K (.ref CC) (.ref CC) = some true
  ml : PySem.W.exmOne K (.ref CM) (.ref CL) = some false
  mr : PySem.W.exmOne K (.ref CM) (.ref CR) = some false
  mc : PySem.W.exmOne K (.ref CM) (.ref CC) = some false
  mm : PySem.W.exmOne K (.ref CM) (.ref CM) = some true
/-- the text that such an error's telling has -/
def tellS (word : Str) (d : PyData) : Str := PyData.shown (.list [.str word, d, .bool true])
def tellM : Str := PyData.shown (.list [.str "many", .list [.str "letters", .int 200], .bool true])
/-- an error of the class C that keeps a value, told -/
def Tells (C : Addr) (word : Str) (Q : VK) : XK := fun cls d H => cls = .ref C ∧ ∃ (dd p : Addr) (v : V) (z : PyData), d = some dd ∧ H dd = some (.xd [("value", v)]) ∧ Item p H v z ∧ rowOk [.str word, z, .bool true] = true ∧ ∀ H', Same H H' → Q (.str (tellS word z)) H'
def TellsM (C : Addr) (Q : VK) : XK := fun cls d H => cls = .ref C ∧ ∃ dd : Addr, d = some dd ∧ H dd = some (.xd [("limit", .int 200), ("what", .str "letters")]) ∧ ∀ H', Same H H' → Q (.str tellM) H'
/-- what is made of the lambda's reading: it ends by one of the four errors -/
def TTells (CL CR CC CM : Addr) : (XK → Hp → VK → Prop) → Hp → VK → Prop := fun tl H Q => ∀ H1 (Q1 : VK), Same H H1 →
  tl (fun cls d H' => Tells CL "letters" Q cls d H' ∨ Tells CR "row" Q cls d H' ∨ Tells CC "count" Q cls d H' ∨ TellsM CM Q cls d H') H1 Q1
section
variable {X : Cx} {K : PySem.W.Frag}
theorem three {σ : L2.St} (h : σ.length = 3) : ∃ x0 x1 x2, σ = [x0, x1, x2] := by
  match σ, h with
  | [x0, x1, x2], _ => exact ⟨x0, x1, x2, rfl⟩
theorem told_gives {q : Str} {g CL CR CC CM BE LE : Addr} {cdg : Value} {k : Nat} (M : Mets X.K X.mg CL CR CC CM BE LE) (B : Bl X.mg) (gd : X.A.guards = some []) (hr : Room (k + 1) X.A) :
    LamX.GivesTo X toldN "_law_told" (defScope sTold) g cdg (defBody sTold) "_law_call" q (TTells CL CR CC CM) := by
  intro f c' s H Q tl act hc h
  have hr' : Room k (X.A.deeper (envOfC "_law_told" (defScope sTold) s.heap.objs.size g cdg)) := hr.deeper _
  refine ⟨_, pss_cons (ps_set (i := 1) scTold.nd rfl (.inl rfl) (pe_lst (pa_cons pe_str pa_nil)))
    (pss_cons (ps_try_each (n := "e") (i := 2) (X := (cxOf C8.CX0 X.prog X.w X.K X.mg X.base toldN "_law_told" (defScope sTold) g cdg X.A X.stack s H C8.E0).nox) (out := fun _ _ _ _ => False)
        (tb := fun W D σ H => ∃ Ech : XK, (∀ cls d σ' H', Ech cls d H' → W cls d σ' H') ∧ σ[0]? = some (some (.ref f)) ∧ H c' = some (LamX.CodeO c' q) ∧ ∀ Q1 : VK, tl Ech H Q1)
        rfl rfl scTold.nd rfl rfl takes_none5 (fun W pn xe tk _ => ?_)
        (.one ⟨rfl, by decide, .inl M.l.gC⟩ (fun a oe cls d pn hz hf => pss_one (ps_set (i := 1) scTold.nd rfl (.inl rfl) (pe_lst (by exact (pa_cons pe_str (pa_cons (pe_xf M.l.fld M.nl hz hf (pv 2)) (pa_cons (pe_and
              (pe_callB (call_isX M.l.is_ hz hf) (by rfl) B.isinstance (by decide +kernel) (pa_cons (pv 2) (pa_cons (pe_glob (v := .ref BE) (by rfl) M.be rfl) pa_nil)))
              (pe_one (pe_callB (call_isX M.l.is_ hz hf) (by rfl) B.isinstance (by decide +kernel) (pa_cons (pv 2) (pa_cons (pe_bltn (v := .ty "ValueError") (by rfl) M.ve (by decide +kernel) rfl) pa_nil))))) pa_nil)))))))
        (.one ⟨rfl, by decide, .inl M.r.gC⟩ (fun a oe cls d pn hz hf => pss_one (ps_set (i := 1) scTold.nd rfl (.inl rfl) (pe_lst (by exact (pa_cons pe_str (pa_cons (pe_xf M.r.fld M.nr hz hf (pv 2)) (pa_cons (pe_and
              (pe_callB (call_isX M.r.is_ hz hf) (by rfl) B.isinstance (by decide +kernel) (pa_cons (pv 2) (pa_cons (pe_glob (v := .ref BE) (by rfl) M.be rfl) pa_nil)))
              (pe_one (pe_callB (call_isX M.r.is_ hz hf) (by rfl) B.isinstance (by decide +kernel) (pa_cons (pv 2) (pa_cons (pe_bltn (v := .ty "ValueError") (by rfl) M.ve (by decide +kernel) rfl) pa_nil))))) pa_nil)))))))
        (.one ⟨rfl, by decide, .inl M.c.gC⟩ (fun a oe cls d pn hz hf => pss_one (ps_set (i := 1) scTold.nd rfl (.inl rfl) (pe_lst (by exact (pa_cons pe_str (pa_cons (pe_xf M.c.fld M.nc hz hf (pv 2)) (pa_cons (pe_and
              (pe_callB (call_isX M.c.is_ hz hf) (by rfl) B.isinstance (by decide +kernel) (pa_cons (pv 2) (pa_cons (pe_glob (v := .ref BE) (by rfl) M.be rfl) pa_nil)))
              (pe_one (pe_callB (call_isX M.c.is_ hz hf) (by rfl) B.isinstance (by decide +kernel) (pa_cons (pv 2) (pa_cons (pe_bltn (v := .ty "ValueError") (by rfl) M.ve (by decide +kernel) rfl) pa_nil))))) pa_nil)))))))
        (.one ⟨rfl, by decide, .inl M.m.gC⟩ (fun a oe cls d pn hz hf => pss_one (ps_set (i := 1) scTold.nd rfl (.inl rfl) (pe_lst (by exact (pa_cons pe_str (pa_cons (pe_lst (pa_cons (pe_xf M.m.fld M.nw hz hf (pv 2)) (pa_cons (pe_xf M.m.fld M.nm hz hf (pv 2)) pa_nil))) (pa_cons (pe_and
              (pe_callB (call_isX M.m.is_ hz hf) (by rfl) B.isinstance (by decide +kernel) (pa_cons (pv 2) (pa_cons (pe_glob (v := .ref LE) (by rfl) M.le rfl) pa_nil)))
              (pe_one (pe_callB (call_isX M.m.is_ hz hf) (by rfl) B.isinstance (by decide +kernel) (pa_cons (pv 2) (pa_cons (pe_bltn (v := .ty "ArithmeticError") (by rfl) M.ae (by decide +kernel) rfl) pa_nil))))) pa_nil)))))))
        .none)))))
    (pss_one (ps_ret (pe_callB (call_repr_row gd hr') (by rfl) B.repr (by decide +kernel) (pa_cons (pv 1) pa_nil))))), ?_⟩
  · refine ⟨fun pins s' σ H' D I h' => ?_⟩
    obtain ⟨Ech, hW, h1, h2, h3⟩ := h'
    refine PSs.run (t := _) (pss_one (ps_set (i := 1) scTold.nd rfl (.inl rfl) (pe_lst (pa_cons pe_str (pa_cons (act W pn xe Ech _ _ tk hW) pa_nil))))) pins s' σ H' D I ?_
    exact ⟨h1, h2, h3 _⟩
  · refine ⟨by decide, fun p hp => ?_⟩
    refine ⟨_, ?_, rfl, (Same.new' (Same.refl H) hp) _ _ hc, fun Q1 => h _ Q1 (Same.new' (Same.refl H) hp)⟩
    rintro cls d σ' H' (⟨rfl, dd, p', v, z, rfl, hx, it, ok, k⟩ | ⟨rfl, dd, p', v, z, rfl, hx, it, ok, k⟩ | ⟨rfl, dd, p', v, z, rfl, hx, it, ok, k⟩ | ⟨rfl, dd, rfl, hx, k⟩)
    · refine ⟨true, M.ll, fun _ a ha hl => ?_, fun z => (nomatch z)⟩
      obtain ⟨x0, x1, x2, rfl⟩ := three hl
      refine ⟨_, rfl, rfl, rfl, dd, _, v, rfl, hx, rfl, ?_⟩
      refine ⟨_, rfl, _, _, true, dd, _, rfl, rfl, rfl, hx, fun u r => r, M.l.kB, true, rfl, ?_⟩
      refine ⟨_, rfl, _, _, true, dd, _, rfl, rfl, rfl, hx, fun u r => r, M.l.kb, ?_⟩
      refine ⟨by show 3 ≤ sizeLine; decide, fun p2 hp2 => ?_⟩
      have sm := Same.new' (o := .lst [V.str "letters", v, V.bl true]) (Same.refl H') hp2
      exact ⟨_, rfl, p', p2, _, _, rfl, upd_same, .cons (.flat (.str _)) (.cons (it.but (But.of sm)) (.cons (.flat (.bl true)) .nil)), ok, k _ sm⟩
    · refine ⟨false, M.rl, fun z => (nomatch z), fun _ => ⟨true, M.rr, fun _ a ha hl => ?_, fun z => (nomatch z)⟩⟩
      obtain ⟨x0, x1, x2, rfl⟩ := three hl
      refine ⟨_, rfl, rfl, rfl, dd, _, v, rfl, hx, rfl, ?_⟩
      refine ⟨_, rfl, _, _, true, dd, _, rfl, rfl, rfl, hx, fun u r => r, M.r.kB, true, rfl, ?_⟩
      refine ⟨_, rfl, _, _, true, dd, _, rfl, rfl, rfl, hx, fun u r => r, M.r.kb, ?_⟩
      refine ⟨by show 3 ≤ sizeLine; decide, fun p2 hp2 => ?_⟩
      have sm := Same.new' (o := .lst [V.str "row", v, V.bl true]) (Same.refl H') hp2
      exact ⟨_, rfl, p', p2, _, _, rfl, upd_same, .cons (.flat (.str _)) (.cons (it.but (But.of sm)) (.cons (.flat (.bl true)) .nil)), ok, k _ sm⟩
    · refine ⟨false, M.cl, fun z => (nomatch z), fun _ => ⟨false, M.cr, fun z => (nomatch z), fun _ => ⟨true, M.cc, fun _ a ha hl => ?_, fun z => (nomatch z)⟩⟩⟩
      obtain ⟨x0, x1, x2, rfl⟩ := three hl
      refine ⟨_, rfl, rfl, rfl, dd, _, v, rfl, hx, rfl, ?_⟩
      refine ⟨_, rfl, _, _, true, dd, _, rfl, rfl, rfl, hx, fun u r => r, M.c.kB, true, rfl, ?_⟩
      refine ⟨_, rfl, _, _, true, dd, _, rfl, rfl, rfl, hx, fun u r => r, M.c.kb, ?_⟩
      refine ⟨by show 3 ≤ sizeLine; decide, fun p2 hp2 => ?_⟩
      have sm := Same.new' (o := .lst [V.str "count", v, V.bl true]) (Same.refl H') hp2
      exact ⟨_, rfl, p', p2, _, _, rfl, upd_same, .cons (.flat (.str _)) (.cons (it.but (But.of sm)) (.cons (.flat (.bl true)) .nil)), ok, k _ sm⟩
    · refine ⟨false, M.ml, fun z => (nomatch z), fun _ => ⟨false, M.mr, fun z => (nomatch z), fun _ => ⟨false, M.mc, fun z => (nomatch z), fun _ => ⟨true, M.mm, fun _ a ha hl => ?_, fun z => (nomatch z)⟩⟩⟩⟩
      obtain ⟨x0, x1, x2, rfl⟩ := three hl
      refine ⟨_, rfl, rfl, rfl, dd, _, _, rfl, hx, rfl, ?_⟩
      refine ⟨_, rfl, rfl, rfl, dd, _, _, rfl, hx, rfl, ?_⟩
      refine ⟨by show 2 ≤ sizeLine; decide, fun p1 hp1 => ?_⟩
      have s1 := Same.new' (o := .lst [V.str "letters", V.int 200]) (Same.refl H') hp1
      refine ⟨_, rfl, _, _, true, dd, _, rfl, rfl, rfl, s1 _ _ hx, fun u r => r, M.m.kB, true, rfl, ?_⟩
      refine ⟨_, rfl, _, _, true, dd, _, rfl, rfl, rfl, s1 _ _ hx, fun u r => r, M.m.kb, ?_⟩
      refine ⟨by show 3 ≤ sizeLine; decide, fun p2 hp2 => ?_⟩
      have s2 := Same.new' (o := .lst [V.str "many", V.ref p1, V.bl true]) s1 hp2
      exact ⟨_, rfl, p1 + 1, p2, _, [.str "many", .list [.str "letters", .int 200], .bool true], rfl, upd_same, .cons (.flat (.str _)) (.cons (.lst ((upd_ne (ne_of_none upd_same hp2)).trans upd_same) (Nat.ne_of_lt (Nat.lt_succ_self _)) (.cons (.str _) (.cons (.int _) .nil))) (.cons (.flat (.bl true)) .nil)),
        by decide +kernel, k _ s2⟩
end
end Lw
set_option Elab.async false
set_option linter.all false
set_option maxRecDepth 100000
set_option maxHeartbeats 4000000
/-! the law's values that are no letters, no rows, no counts -/
namespace Lw
open PySem PySem.Spec PyProof.Rows L2
abbrev sOddS : Stmt := topS 35
abbrev sOddR : Stmt := topS 36
abbrev sOddC : Stmt := topS 37
def oddS : List PyData := [.none, .int 5, .str "", .str "ba", .str "aa", .str "abcde", .str "aB", .str "a b", .list [.str "a", .str "b"], .tuple [.str "a"], .str "a1", .bool true, .str "a-", .str "Za", .str "1a", .str "A"]
def oddR (L : Str) : List PyData := [.none, .int 0, .str "c", .str (L ++ "c"), .str (Txt.upper L), .list [.str "a"], .tuple [], .bool true, .str " ", .str (L ++ " "), .dict [], .str "0", .list [.str L], .str "-"]
def oddC : List PyData := [.none, .bool true, .bool false, .int (-1), .str "1", .list [.int 1], .tuple [], .str "", .int (-(10 ^ 20)), .dict [], .list [.none]]
theorem paired_mem {α β : Type} {R : α → β → Prop} : ∀ {xs : List α} {ys : List β} {x : α}, Paired R xs ys → x ∈ xs → ∃ y, y ∈ ys ∧ R x y
  | _, _, _, .cons r t, h => by
    rcases List.mem_cons.mp h with rfl | h
    · exact ⟨_, List.mem_cons_self, r⟩
    · obtain ⟨y, hy, ry⟩ := paired_mem t h
      exact ⟨y, List.mem_cons_of_mem _ hy, ry⟩
/-- a value of the menu -/
def spMenu (menu : List PyData) : Sp := fun vs H Q _ => ∃ p : Addr, vs = [.ref p] ∧ Pot H p ∧ ∀ (v : V) (z : PyData) (H' : Hp), z ∈ menu → Item p H' v z → But p H H' → Pot H' p → Q v H'
section
variable {P : Program} {w : World} {K : PySem.W.Frag} {mg : Str → Option Value} {base : Heap}
theorem kp {H : Hp} {a b : Addr} {o u : HO} (n : H a = none) (e : H b = some u) : upd H a o b = some u := (upd_ne (ne_of_none e n)).trans e
theorem pot_off {H H' : Hp} {p a : Addr} (hp : Pot H p) (s : Same H H') (h : H' a = none) : a ≠ p := by
  obtain ⟨x, y, e, _⟩ := hp
  exact (ne_of_none (s _ _ e) h).symm
theorem Pot.same {H H' : Hp} {p : Addr} (hp : Pot H p) (s : Same H H') : Pot H' p := by
  obtain ⟨x, y, e, r⟩ := hp
  exact ⟨x, y, s _ _ e, r⟩
theorem scOddS : FnScope ["_law_pot_here", "_law_lot"] ["_law_pot_here"] (defScope sOddS) := ⟨rfl, rfl, rfl, by decide +kernel, rfl, by decide +kernel, by decide +kernel⟩
theorem scOddC : FnScope ["_law_pot_here"] ["_law_pot_here"] (defScope sOddC) := ⟨rfl, rfl, rfl, by decide +kernel, rfl, by decide +kernel, by decide +kernel⟩
theorem ok_odds {f : Addr} {fd : FuncData} (F : Fun K "_law_odd_signs" "_law_odd_signs" sOddS f fd) (D : Def P w K mg base 2 "_law_pick" ["_law_pot_here", "_law_lot"] (spPick K)) : FnOk P w K mg base CX0 3 f fd ["_law_pot_here"] (spMenu oddS) := by
  obtain ⟨fD, fdD, GD, gD, kD, bD⟩ := D.ex
  refine F.ok scOddS (fun vs H Q E h => ?_) (fun cdv A outer s H vs Q E hr h => ?_)
  · obtain ⟨p, rfl, _⟩ := h
    rfl
  · obtain ⟨p, rfl, hp, q⟩ := h
    refine ⟨_, pss_cons (ps_set (i := 1) scOddS.nd rfl (.inl rfl) (pe_lst (by exact (pa_cons pe_non (pa_cons pe_int (pa_cons pe_str (pa_cons pe_str (pa_cons pe_str (pa_cons pe_str (pa_cons pe_str (pa_cons pe_str
        (pa_cons (pe_lst (pa_cons pe_str (pa_cons pe_str pa_nil))) (pa_cons (pe_tup (pa_cons pe_str pa_nil)) pa_nil)))))))))))))
      (pss_one (ps_ret (pe_call GD hr rfl gD kD bD .nil pass0 (by exact (pa_cons (pv 0) (pa_cons (pe_op op_cat (pv 1) (pe_lst (pa_cons pe_str (pa_cons pe_bl (pa_cons pe_str (pa_cons pe_str (pa_cons pe_str (pa_cons pe_str pa_nil)))))))) pa_nil)))))), ?_⟩
    refine ⟨by show 2 ≤ sizeLine; decide, fun a1 n1 => ⟨by show 1 ≤ sizeLine; decide, fun a2 n2 => ⟨by show 10 ≤ sizeLine; decide, fun a3 n3 => ?_⟩⟩⟩
    have s1 := Same.new' (o := .lst [V.str "a", V.str "b"]) (Same.refl H) n1
    have s2 := Same.new' (o := .tup [V.str "a"]) s1 n2
    have s3 := Same.new' (o := .lst [V.non, V.int 5, V.str "", V.str "ba", V.str "aa", V.str "abcde", V.str "aB", V.str "a b", V.ref a1, V.ref a2]) s2 n3
    refine ⟨_, rfl, _, rfl, by show 6 ≤ sizeLine; decide, fun a4 n4 => ?_⟩
    have s4 := Same.new' (o := .lst [V.str "a1", V.bl true, V.str "a-", V.str "Za", V.str "1a", V.str "A"]) s3 n4
    refine ⟨a3, a4, _, _, rfl, rfl, kp n4 upd_same, upd_same, by show 16 ≤ sizeLine; decide, fun a5 n5 => ?_⟩
    have s5 := Same.new' (o := .lst ([V.non, V.int 5, V.str "", V.str "ba", V.str "aa", V.str "abcde", V.str "aB", V.str "a b", V.ref a1, V.ref a2] ++ [V.str "a1", V.bl true, V.str "a-", V.str "Za", V.str "1a", V.str "A"])) s4 n5
    refine ⟨p, a5, _, rfl, hp.same s5, pot_off hp s4 n5, .inl (.inl upd_same), by show 0 < 16; decide, by show 16 ≤ 100000; decide, fun v H' hv hb hp' => ?_⟩
    have its : Paired (Item p H') ([V.non, V.int 5, V.str "", V.str "ba", V.str "aa", V.str "abcde", V.str "aB", V.str "a b", V.ref a1, V.ref a2] ++ [V.str "a1", V.bl true, V.str "a-", V.str "Za", V.str "1a", V.str "A"]) oddS :=
      .cons (.flat .non) (.cons (.flat (.int _)) (.cons (.flat (.str _)) (.cons (.flat (.str _)) (.cons (.flat (.str _)) (.cons (.flat (.str _)) (.cons (.flat (.str _)) (.cons (.flat (.str _))
        (.cons (.lst (hb _ _ (pot_off hp (Same.refl H) n1) (kp n5 (kp n4 (kp n3 (kp n2 upd_same))))) (pot_off hp (Same.refl H) n1) (.cons (.str _) (.cons (.str _) .nil)))
        (.cons (.tup (hb _ _ (pot_off hp s1 n2) (kp n5 (kp n4 (kp n3 upd_same)))) (pot_off hp s1 n2) (.cons (.str _) .nil))
        (.cons (.flat (.str _)) (.cons (.flat (.bl _)) (.cons (.flat (.str _)) (.cons (.flat (.str _)) (.cons (.flat (.str _)) (.cons (.flat (.str _)) .nil)))))))))))))))
    obtain ⟨z, hz, it⟩ := paired_mem its hv
    exact q v z H' hz it ((But.of s5).trans hb) hp'
theorem ok_oddc {f : Addr} {fd : FuncData} (F : Fun K "_law_odd_count" "_law_odd_count" sOddC f fd) (D : Def P w K mg base 2 "_law_pick" ["_law_pot_here", "_law_lot"] (spPick K)) : FnOk P w K mg base CX0 3 f fd ["_law_pot_here"] (spMenu oddC) := by
  obtain ⟨fD, fdD, GD, gD, kD, bD⟩ := D.ex
  refine F.ok scOddC (fun vs H Q E h => ?_) (fun cdv A outer s H vs Q E hr h => ?_)
  · obtain ⟨p, rfl, _⟩ := h
    rfl
  · obtain ⟨p, rfl, hp, q⟩ := h
    refine ⟨_, pss_one (ps_ret (pe_call GD hr rfl gD kD bD .nil pass0 (by exact (pa_cons (pv 0) (pa_cons (pe_lst (pa_cons pe_non (pa_cons pe_bl (pa_cons pe_bl (pa_cons (pe_un un_neg pe_int) (pa_cons pe_str (pa_cons (pe_lst (pa_cons pe_int pa_nil))
        (pa_cons (pe_tup pa_nil) (pa_cons pe_str (pa_cons (pe_un un_neg (pe_op op_pow pe_int pe_int)) (pa_cons pe_dnewK (pa_cons (pe_lst (pa_cons pe_non pa_nil)) pa_nil)))))))))))) pa_nil))))), ?_⟩
    refine ⟨_, rfl, _, rfl, by show 1 ≤ sizeLine; decide, fun a1 n1 => ⟨by show 0 ≤ sizeLine; decide, fun a2 n2 => ⟨10, 20, rfl, rfl, by unfold CPow; decide, _, rfl, fun a3 n3 => ?_⟩⟩⟩
    have s1 := Same.new' (o := .lst [V.int 1]) (Same.refl H) n1
    have s2 := Same.new' (o := .tup []) s1 n2
    have s3 := Same.new' (o := .dK []) s2 n3
    refine ⟨by show 1 ≤ sizeLine; decide, fun a4 n4 => ⟨by show 11 ≤ sizeLine; decide, fun a5 n5 => ?_⟩⟩
    have s4 := Same.new' (o := .lst [V.non]) s3 n4
    have s5 := Same.new' (o := .lst [V.non, V.bl true, V.bl false, V.int (-1), V.str "1", V.ref a1, V.ref a2, V.str "", V.int (-(10 ^ 20)), V.ref a3, V.ref a4]) s4 n5
    refine ⟨p, a5, _, rfl, hp.same s5, pot_off hp s4 n5, .inl (.inl upd_same), by show 0 < 11; decide, by show 11 ≤ 100000; decide, fun v H' hv hb hp' => ?_⟩
    have its : Paired (Item p H') [V.non, V.bl true, V.bl false, V.int (-1), V.str "1", V.ref a1, V.ref a2, V.str "", V.int (-(10 ^ 20)), V.ref a3, V.ref a4] oddC :=
      .cons (.flat .non) (.cons (.flat (.bl _)) (.cons (.flat (.bl _)) (.cons (.flat (.int _)) (.cons (.flat (.str _))
        (.cons (.lst (hb _ _ (pot_off hp (Same.refl H) n1) (kp n5 (kp n4 (kp n3 (kp n2 upd_same))))) (pot_off hp (Same.refl H) n1) (.cons (.int _) .nil))
        (.cons (.tup (hb _ _ (pot_off hp s1 n2) (kp n5 (kp n4 (kp n3 upd_same)))) (pot_off hp s1 n2) .nil)
        (.cons (.flat (.str _)) (.cons (.flat (.int _))
        (.cons (.dict (hb _ _ (pot_off hp s2 n3) (kp n5 (kp n4 upd_same))) (pot_off hp s2 n3))
        (.cons (.lst (hb _ _ (pot_off hp s3 n4) (kp n5 upd_same)) (pot_off hp s3 n4) (.cons .non .nil)) .nil))))))))))
    obtain ⟨z, hz, it⟩ := paired_mem its hv
    exact q v z H' hz it ((But.of s5).trans hb) hp'
end
end Lw
set_option Elab.async false
set_option linter.all false
set_option maxRecDepth 100000
set_option maxHeartbeats 4000000
namespace Lw
open PySem PySem.Spec PyProof.Rows L2
def spOddR : Sp := fun vs H Q _ => ∃ (p : Addr) (L : Str), vs = [.ref p, .str L] ∧ L ∈ LETS ∧ Pot H p ∧ ∀ (v : V) (z : PyData) (H' : Hp), z ∈ oddR L → Item p H' v z → But p H H' → Pot H' p → Q v H'
theorem off_free : ∀ L ∈ LETS, ∀ c ∈ ("cdexy" : Str).cps.toList, decide (c ∈ L.cps.toList) = false := by decide +kernel
section
variable {P : Program} {w : World} {K : PySem.W.Frag} {mg : Str → Option Value} {base : Heap}
theorem scOddR : FnScope ["_law_pot_here", "_law_signs_here", "_law_off", "_law_lot", "_law_sign"] ["_law_pot_here", "_law_signs_here"] (defScope sOddR) := ⟨rfl, rfl, rfl, by decide +kernel, rfl, by decide +kernel, by decide +kernel⟩
theorem ok_oddr {f : Addr} {fd : FuncData} (F : Fun K "_law_odd_row" "_law_odd_row" sOddR f fd) (D : Def P w K mg base 2 "_law_pick" ["_law_pot_here", "_law_lot"] (spPick K)) : FnOk P w K mg base CX0 3 f fd ["_law_pot_here", "_law_signs_here"] spOddR := by
  obtain ⟨fD, fdD, GD, gD, kD, bD⟩ := D.ex
  refine F.ok scOddR (fun vs H Q E h => ?_) (fun cdv A outer s H vs Q E hr h => ?_)
  · obtain ⟨p, L, rfl, _⟩ := h
    rfl
  · obtain ⟨p, L, rfl, hL, hp, q⟩ := h
    refine ⟨_, pss_cons (ps_set (i := 2) scOddR.nd rfl (.inl rfl) (pe_ix ix_list (pe_lc (own := [("_law_sign", 4)]) (g := gName 4) (te := tVar 4) (by rfl) scOddR.nd (pi_str pe_str)
          (blkOk_by (own := [("_law_sign", 4)]) (N := ["_law_pot_here", "_law_signs_here", "_law_off", "_law_lot", "_law_sign"]) (sc := defScope sOddR) (by decide +kernel)) (fun _ _ _ _ _ => pg_name (i := 4) scOddR.nd rfl (Or.inl rfl))
          (fun _ _ _ _ _ => by exact (pts_one (pt_cmpR op_notIn_sign (pv 4) (pv 1) (by rfl)))) (fun _ _ _ _ _ => by exact (pv 4))) pe_int (fun _ _ => rfl)))
      (pss_cons (ps_set (i := 3) scOddR.nd rfl (.inl rfl) (pe_lst (by exact (pa_cons pe_non (pa_cons pe_int (pa_cons (pv 2) (pa_cons (pe_op op_add_str (pv 1) (pv 2)) (pa_cons (pe_upper (pv 1)) (pa_cons (pe_lst (pa_cons pe_str pa_nil)) (pa_cons (pe_tup pa_nil)
          (pa_cons pe_bl (pa_cons pe_str (pa_cons (pe_op op_add_str (pv 1) pe_str) (pa_cons pe_dnewK (pa_cons pe_str (pa_cons (pe_lst (pa_cons (pv 1) pa_nil)) (pa_cons pe_str pa_nil)))))))))))))))))
      (pss_one (ps_ret (pe_call GD hr rfl gD kD bD .nil pass0 (by exact (pa_cons (pv 0) (pa_cons (pv 3) pa_nil))))))), ?_⟩
    have hl := (lets_len L hL).2
    refine ⟨"cdexy", rfl, fun D hD => ?_⟩
    refine lc_map walk_str (fun i => V.str (sgn (("cdexy" : Str).cps.toList.getD i 0))) hD (by decide) (fun _ _ => trivial) (fun i x Ha Hb C Z hi sm y k => ?_) (fun H0 sm hD' => ?_)
    · obtain ⟨rfl, c, hc, rfl⟩ := y
      refine ⟨rfl, _, rfl, _, rfl, c, L, rfl, rfl, _, rfl, ?_⟩
      have hm : c ∈ ("cdexy" : Str).cps.toList := List.mem_of_getElem? (by rw [Array.getElem?_toList]; exact hc)
      have e := off_free L hL c hm
      rw [e]
      refine iteT ?_
      have ec : ("cdexy" : Str).cps.toList.getD i 0 = c := by
        rw [List.getD_eq_getElem?_getD, Array.getElem?_toList, hc]
        rfl
      have := k Hb (Same.refl Hb)
      rw [ec] at this
      exact ⟨_, rfl, this⟩
    refine ⟨D, _, _, V.str "c", rfl, rfl, .inl (.inl hD'), by decide +kernel, ?_⟩
    refine ⟨_, rfl, _, rfl, _, rfl, _, _, rfl, rfl, Evl.sz_of (by show L.length + 1 ≤ 100000; omega), _, rfl, ⟨_, rfl⟩, _, rfl, rfl, by omega, ?_⟩
    refine ⟨by show 1 ≤ sizeLine; decide, fun a1 n1 => ⟨by show 0 ≤ sizeLine; decide, fun a2 n2 => ⟨_, rfl, _, _, rfl, rfl, Evl.sz_of (by show L.length + 1 ≤ 100000; omega), fun a3 n3 => ?_⟩⟩⟩
    have s1 := Same.new' (o := .lst [V.str "a"]) sm n1
    have s2 := Same.new' (o := .tup []) s1 n2
    have s3 := Same.new' (o := .dK []) s2 n3
    refine ⟨_, rfl, by show 1 ≤ sizeLine; decide, fun a4 n4 => ⟨by show 14 ≤ sizeLine; decide, fun a5 n5 => ?_⟩⟩
    have s4 := Same.new' (o := .lst [V.str L]) s3 n4
    have s5 := Same.new' (o := .lst [V.non, V.int 0, V.str "c", V.str (L ++ "c"), V.str (Txt.upper L), V.ref a1, V.ref a2, V.bl true, V.str " ", V.str (L ++ " "), V.ref a3, V.str "0", V.ref a4, V.str "-"]) s4 n5
    refine ⟨_, rfl, _, rfl, p, a5, _, rfl, hp.same s5, pot_off hp s4 n5, .inl (.inl upd_same), by show 0 < 14; decide, by show 14 ≤ 100000; decide, fun v H' hv hb hp' => ?_⟩
    have its : Paired (Item p H') [V.non, V.int 0, V.str "c", V.str (L ++ "c"), V.str (Txt.upper L), V.ref a1, V.ref a2, V.bl true, V.str " ", V.str (L ++ " "), V.ref a3, V.str "0", V.ref a4, V.str "-"] (oddR L) :=
      .cons (.flat .non) (.cons (.flat (.int _)) (.cons (.flat (.str _)) (.cons (.flat (.str _)) (.cons (.flat (.str _))
        (.cons (.lst (hb _ _ (pot_off hp sm n1) (kp n5 (kp n4 (kp n3 (kp n2 upd_same))))) (pot_off hp sm n1) (.cons (.str _) .nil))
        (.cons (.tup (hb _ _ (pot_off hp s1 n2) (kp n5 (kp n4 (kp n3 upd_same)))) (pot_off hp s1 n2) .nil)
        (.cons (.flat (.bl _)) (.cons (.flat (.str _)) (.cons (.flat (.str _))
        (.cons (.dict (hb _ _ (pot_off hp s2 n3) (kp n5 (kp n4 upd_same))) (pot_off hp s2 n3))
        (.cons (.flat (.str _))
        (.cons (.lst (hb _ _ (pot_off hp s3 n4) (kp n5 upd_same)) (pot_off hp s3 n4) (.cons (.str _) .nil))
        (.cons (.flat (.str _)) .nil)))))))))))))
    obtain ⟨z, hz, it⟩ := paired_mem its hv
    exact q v z H' hz it ((But.of s5).trans hb) hp'
end
end Lw
set_option Elab.async false
set_option linter.all false
set_option maxRecDepth 100000
set_option maxHeartbeats 1000000
namespace Lw
open PySem PySem.Spec PyProof.Rows L2 GenW

section
variable {prog : Program} {w : World} {A : Around} {R : GenEnd} {Y : Protocol} {n : Nat} {s₀ : Shared} {c : Code} {fs : List Frame} {s : Shared} {env : Env}
  {K : Flow → Sem PySem.Fin} {H : Value → Sem PySem.Fin} {gd : Bool → Bool} {lv : List Value → List Value}

/-- what a loop's own code does with an exception -/
abbrev outH (env : Env) (e : Value) : Sem PySem.Fin := (do noteFrame e env; theTreesLotGoes e : Sem Unit).wrap (fun _ => .raise e) .raise id id

theorem seg_For {target iter : Expr} {body : List Stmt} {pos : Pos}
    (hs : ∀ x, foldedSetIterable iter env x = pure x)
    (h : wpAny (model prog w) (A.over c fs) (eval iter env) (fun x s1 => wpAny (model prog w) (A.over c fs) (pyIter x) (fun it s2 => ∀ p,
        Seg (model prog w) A R Y n s₀ (.forLoop target it body [] env) ((model prog w).den (.forLoop target it body [] env))
          (.ret (fun r => ((match r with | .ok f => (.pure f : Sem Flow) | .error e => .raise e).onRaise (cameBack env)).wrap K H gd lv) none (gd false) (lv []) c p [] :: fs) s2)
        (fun x s' => Seg (model prog w) A R Y n s₀ c (H x) fs s') s1) (fun x s' => Seg (model prog w) A R Y n s₀ c (H x) fs s') s) :
    Seg (model prog w) A R Y n s₀ c ((exec (.For target iter body [] pos) env).wrap K H gd lv) fs s := by
  rw [exec_For]
  refine seg_at ?_
  show Seg _ _ _ _ _ _ _ ((eval iter env >>= fun v => foldedSetIterable iter env v >>= fun x => standAt iter.pos >>= fun _ => holding [x] (pyIter x) >>= fun it => runOwn (.forLoop target it body [] env) env).wrap K H gd lv) _ _
  refine seg_bind_wrap (wpAny_mono h (fun v s1 h1 => ?_) fun x s' hx => hx)
  rw [hs v]
  show Seg _ _ _ _ _ _ _ ((standAt iter.pos >>= fun _ => holding [v] (pyIter v) >>= fun it => runOwn (.forLoop target it body [] env) env).wrap K H gd lv) _ _
  refine seg_at ?_
  show Seg _ _ _ _ _ _ _ ((holding [v] (pyIter v) >>= fun it => runOwn (.forLoop target it body [] env) env).wrap K H gd lv) _ _
  refine seg_bind_wrap (wpAny_holding (wpAny_mono h1 (fun it s2 h2 => ?_) fun x s' hx => hx))
  exact seg_call h2

theorem seg_forLoop {target : Expr} {it : Value} {body : List Stmt}
    (h : wpAny (model prog w) (A.over (.forLoop target it body [] env) fs) (pyNext it) (fun r s1 => match r with
        | none => Seg (model prog w) A R Y n s₀ (.block [] env) (.pure (.done .next)) fs s1
        | some v => wpAny (model prog w) (A.over (.forLoop target it body [] env) fs) (letOwnedTupleGo target it v) (fun _ s2 =>
            wpAny (model prog w) (A.over (.forLoop target it body [] env) fs) (assign target env v) (fun _ s3 =>
              Seg (model prog w) A R Y n s₀ (.forLoop target it body [] env) ((execs body env).wrap (fun f => match f with
                | .next | .cont => .pure (.again (.forLoop target it body [] env))
                | .brk => .pure (.done .next)
                | .ret v => .pure (.done (.ret v))) (outH env) id id) fs s3)
              (fun x s' => Seg (model prog w) A R Y n s₀ (.forLoop target it body [] env) (outH env x) fs s') s2)
            (fun x s' => Seg (model prog w) A R Y n s₀ (.forLoop target it body [] env) (outH env x) fs s') s1)
      (fun x s' => Seg (model prog w) A R Y n s₀ (.forLoop target it body [] env) (outH env x) fs s') s) :
    Seg (model prog w) A R Y n s₀ (.forLoop target it body [] env) ((model prog w).den (.forLoop target it body [] env)) fs s := by
  show Seg _ A R Y n s₀ _ ((forTurn target it body [] env).onRaise (fun x => do noteFrame x env; theTreesLotGoes x)) fs s
  have eo : (fun e => (do noteFrame e env; theTreesLotGoes e : Sem Unit).bind fun _ => (.raise e : Sem PySem.Fin)) = outH env := by
    funext e
    exact Sem.bind_eq_wrap _ _
  rw [Sem.onRaise_eq_wrap, eo]
  unfold forTurn
  refine seg_at ?_
  show Seg _ _ _ _ _ _ _ ((((pyNext it).onRaise fun _ => standAt { target.pos with line := 0 }) >>= _).wrap .pure (outH env) id id) _ _
  refine seg_bind_wrap (wpAny_onRaise (wpAny_mono h (fun r s1 h1 => ?_) fun x s' hx => wpAny_standAt hx))
  cases r with
  | none =>
    show Seg _ _ _ _ _ _ _ (.pure (.again (.block [] env))) _ _
    refine seg_again rfl ?_
    exact h1
  | some v =>
    refine seg_bind_wrap (wpAny_mono h1 (fun _ s2 h2 => ?_) fun x s' hx => hx)
    refine seg_bind_wrap (wpAny_mono h2 (fun _ s3 h3 => ?_) fun x s' hx => hx)
    rw [Sem.bind_eq_wrap', Sem.wrap_wrap]
    have hh : ∀ K1 : Flow → Sem PySem.Fin, (∀ f, K1 f = (match f with
            | .next | .cont => .pure (.again (.forLoop target it body [] env))
            | .brk => .pure (.done .next)
            | .ret v => .pure (.done (.ret v)))) → Seg (model prog w) A R Y n s₀ (.forLoop target it body [] env) ((execs body env).wrap K1 (outH env) id id) fs s3 := fun K1 e => by
      rw [show K1 = _ from funext e]
      exact h3
    exact hh _ (fun f => by cases f <;> rfl)
end

section
variable {X : Cx} {tg iter : Expr} {body : List Stmt}
def tGFor (wi : TI) (g : TG) (tb : TGn) : TGn := fun D ys σ H => wi σ H fun J H1 => ∃ W : Nat → Nat → List V → L2.St → Hp → Prop, (∃ m, W 0 m ys σ H1) ∧ ∀ i m ys σ H, W i m ys σ H →
  (J.stop i H ∧ D.nx ys σ H) ∨ (J.go i H ∧ ∃ N : List V → L2.St → Hp → Prop, (∀ ys' σ' H', N ys' σ' H' → ∃ m', m' < m ∧ W (i + 1) m' ys' σ' H') ∧ ∀ x H', J.yld i H x H' → g x σ H' fun σ2 H2 => tb { D with nx := N, ct := N, bk := D.nx } ys σ2 H2)

theorem gs_for {wi : TI} {g : TG} {tb : TGn} {pos : Pos} (hp : PassesOwn (model X.prog X.w) X.A X.env X.xe) (hc : X.calm = true) (hi : PI X tg iter wi) (hg : PG X tg g) (hb : GSs X body tb)
    (hs : ∀ x, foldedSetIterable iter X.env x = pure x := by intro _; rfl) : GS X (.For tg iter body [] pos) (tGFor wi g tb) := by
  refine ⟨fun A S ip R n ys s₀ c fs K J gd lv s σ H D gc hn k hI ht => ?_⟩
  obtain ⟨acc, cc, r, I⟩ := hI
  refine seg_For hs ?_
  rw [gc.over]
  refine wpAny_mono (hi.run _ s σ H _ I ht) (fun v s1 h1 => ?_) fun x s' hx => k.exc n s₀ x s' hx
  refine wpAny_mono h1 (fun itv s2 h2 => ?_) fun x s' hx => k.exc n s₀ x s' hx
  obtain ⟨it, fp, tn, Ji, H2, e, I2, T, st2, f2, W, ⟨m0, w0⟩, turn⟩ := h2
  subst e
  intro p
  have gl := fun (kk : Result → Sem PySem.Fin) => gc_loop (k := kk) (c' := .forLoop tg (.ref it) body [] X.env) (l := lv []) (kp := []) (p := p) gc rfl rfl
  have hSfp : ∀ b ∈ fp, b ≠ S := fun b hb z => (f2 b hb).2.2.2.2.2 (S, lstObj acc cc) (List.mem_append_right _ List.mem_cons_self) z.symm
  have stat : ∀ {acc' : Array Value} {cc' : Nat} {H' : Hp}, (∀ b ∈ fp, H' b = none) → ∀ b ∈ fp, FpOk X ((S, lstObj acc' cc') :: ip) H' b := fun hn' b hb => by
    obtain ⟨_, a1, a2, a3, a4, a5⟩ := f2 b hb
    refine ⟨hn' b hb, a1, a2, a3, a4, fun q hq => ?_⟩
    rcases List.mem_append.mp hq with z | z
    · exact a5 q (List.mem_append_left _ z)
    · rcases List.mem_cons.mp z with z | z
      · rw [z]; exact Ne.symm (hSfp b hb)
      · exact a5 q (List.mem_append_right _ (List.mem_cons_of_mem _ z))
  have ee : ∀ (n : Nat) (s₀ : Shared) (x : Value) (s' : Shared), X.xe x s' → Seg (model X.prog X.w) A R (GY X S) n s₀ (.forLoop tg (.ref it) body [] X.env)
      (outH X.env x)
      (.ret (fun r => ((match r with | .ok f => (.pure f : Sem Flow) | .error e => .raise e).onRaise (cameBack X.env)).wrap K J gd lv) none (gd false) (lv []) c p [] :: fs) s' := fun n s₀ x s' hx => by
    refine seg_wrap ?_
    rw [(gl _).over]
    refine wpAny_bind (wpAny_mono (hp x s' hx) (fun _ s'' hcb => wpAny_theTreesLotGoes ?_) fun y s'' hcb => ?_)
    · exact seg_leaf (.error x) (seg_cameBack gc k hcb)
    · exact seg_leaf (.error y) (seg_cameBack gc k hcb)
  have loop : ∀ (m n i : Nat) (ys : List V) (s₀ s : Shared) (σ : L2.St) (H : Hp), n + ys.length = sizeLine → W i m ys σ H → GI X S ip ys σ H s → tn i s.heap → (∀ b ∈ fp, H b = none) →
      Seg (model X.prog X.w) A R (GY X S) n s₀ (.forLoop tg (.ref it) body [] X.env) ((model X.prog X.w).den (.forLoop tg (.ref it) body [] X.env))
        (.ret (fun r => ((match r with | .ok f => (.pure f : Sem Flow) | .error e => .raise e).onRaise (cameBack X.env)).wrap K J gd lv) none (gd false) (lv []) c p [] :: fs) s := by
    intro m
    induction m using Nat.strongRecOn with
    | ind m ih =>
      intro n i ys s₀ s σ H hn w hI st3 fr3
      obtain ⟨acc, cc, r, I⟩ := hI
      refine seg_forLoop ?_
      rw [(gl _).over]
      rcases turn i m ys σ H w with ⟨stop, qn⟩ | ⟨go, N, hN, step⟩
      · refine wpAny_mono (T.done X rfl rfl rfl hc i _ s σ H X.xe I (stat fr3) st3 stop) (fun r' s4 h4 => ?_) fun x s' hx => ee n s₀ x s' hx
        obtain ⟨hr, I4⟩ := h4
        subst hr
        exact seg_leaf (.ok .next) (k.ok n ys s₀ s4 .next hn ⟨σ, H, ⟨acc, cc, r, I4⟩, qn⟩)
      · refine wpAny_mono (T.item X rfl rfl rfl hc i _ s σ H X.xe I (stat fr3) st3 go) (fun r' s4 h4 => ?_) fun x s' hx => ee n s₀ x s' hx
        obtain ⟨u, hr, h4⟩ := h4
        subst hr
        refine wpAny_mono h4 (fun _ s5 h5 => ?_) fun x s' hx => ee n s₀ x s' hx
        obtain ⟨x, H5, I5, r5, y5, st5, fr5⟩ := h5
        have I5' := I5.pinned (stat fr5) (T.obj _ _ st5)
        refine wpAny_mono (hg.run _ s5 σ H5 x u _ I5' r5 (step x H5 y5)) (fun _ s6 h6 => ?_) fun x s' hx => ee n s₀ x s' hx
        obtain ⟨σ6, H6, I6, q6⟩ := h6
        have ipn : ∀ q ∈ ip ++ pinsAt fp s5.heap, q.1 ≠ S := fun q hq => (List.mem_append.mp hq).elim (fun z => gc.ip q z) fun z => hSfp q.1 (of_pinsAt z).1
        have unp : ∀ {ys' : List V} {σ' : L2.St} {H' : Hp} {s' : Shared}, GI X S (ip ++ pinsAt fp s5.heap) ys' σ' H' s' → GI X S ip ys' σ' H' s' := fun hG => by
          obtain ⟨acc', cc', r', J'⟩ := hG
          exact ⟨acc', cc', r', J'.unpinned (pins := (S, lstObj acc' cc') :: ip)⟩
        have again : ∀ {ys' : List V} {σ' : L2.St} {H' : Hp} {s' : Shared} {n' : Nat} {s₀' : Shared}, n' + ys'.length = sizeLine → GI X S (ip ++ pinsAt fp s5.heap) ys' σ' H' s' → N ys' σ' H' →
            Seg (model X.prog X.w) A R (GY X S) n' s₀' (.forLoop tg (.ref it) body [] X.env) ((model X.prog X.w).den (.forLoop tg (.ref it) body [] X.env))
              (.ret (fun r => ((match r with | .ok f => (.pure f : Sem Flow) | .error e => .raise e).onRaise (cameBack X.env)).wrap K J gd lv) none (gd false) (lv []) c p [] :: fs) s' := fun {ys' σ' H' s' n' s₀'} hn' hG nn => by
          obtain ⟨m', hm, w'⟩ := hN ys' σ' H' nn
          have hG0 := hG
          obtain ⟨acc', cc', r', J'⟩ := hG0
          have pin' : ∀ b ∈ fp, ∀ o, s5.heap.get? b = some o → s'.heap.get? b = some o ∧ H' b = none := fun b hb o e => by
            obtain ⟨z1, z2, _⟩ := J'.pin (b, o) (List.mem_append_right _ (List.mem_cons_of_mem _ (List.mem_append_right _ (mem_pinsAt hb e))))
            exact ⟨z1, z2⟩
          refine ih m' hm n' (i + 1) ys' s₀' s' σ' H' hn' w' (unp hG) (T.keep _ _ _ st5 fun b hb o e => (pin' b hb o e).1) fun b hb => ?_
          obtain ⟨o, e, d⟩ := T.obj _ _ st5 b hb
          exact (pin' b hb o e).2
        have gl2 := gl (fun r => ((match r with | .ok f => (.pure f : Sem Flow) | .error e => .raise e).onRaise (cameBack X.env)).wrap K J gd lv)
        refine hb.run A S (ip ++ pinsAt fp s5.heap) R n ys s₀ _ _ _ _ id id s6 σ6 H6 { D with nx := N, ct := N, bk := D.nx } ⟨gl2.pn, ipn, gl2.apart, gl2.over, gl2.split, gl2.guard, gl2.gd⟩ hn ⟨fun n' ys' s₀' s7 f hn' hs' => ?_, fun n' s₀' x s7 hx => ee n' s₀' x s7 hx⟩ ⟨acc, cc, r, I6⟩ q6
        cases f with
        | next =>
          obtain ⟨σ7, H7, I7, n7⟩ := hs'
          exact seg_again rfl (again hn' I7 n7)
        | cont =>
          obtain ⟨σ7, H7, I7, n7⟩ := hs'
          exact seg_again rfl (again hn' I7 n7)
        | brk =>
          obtain ⟨σ7, H7, I7, n7⟩ := hs'
          exact seg_leaf (.ok .next) (k.ok n' ys' s₀' s7 .next hn' ⟨σ7, H7, unp I7, n7⟩)
        | ret v =>
          obtain ⟨x7, σ7, H7, I7, r7, n7⟩ := hs'
          exact seg_leaf (.ok (.ret v)) (k.ok n' ys' s₀' s7 (.ret v) hn' ⟨x7, σ7, H7, unp I7, r7, n7⟩)
  exact loop m0 n 0 ys s₀ s2 σ H2 hn w0 ⟨acc, cc, r, I2⟩ st2 fun b hb => (f2 b hb).1
end
end Lw
set_option Elab.async false
set_option linter.all false
set_option maxRecDepth 100000
set_option maxHeartbeats 4000000
namespace Lw
open PySem PySem.Spec PyProof.Rows L2
abbrev sRows : Stmt := topS 18
section
variable {P : Program} {w : World} {K : PySem.W.Frag} {mg : Str → Option Value} {base : Heap}
/-- THE RULE for a generator def: its body as a term of rules, and the reading of that term -/
theorem Fun.okG {x qual : Str} {st : Stmt} {f : Addr} {fd : FuncData} {N ps : List Str} {k : Nat} {sp : SpG} (F : L2.Fun K x qual st f fd) (S : GScope N ps (defScope st)) (len : ∀ vs H Q E, sp vs H Q E → vs.length = ps.length)
    (hbody : ∀ (cdv : Value) (A : Around) (outer : List Env) (s : Shared) (H : Hp) (vs : List V) (Q : List V → Hp → Prop) (E : XK) (pn : List (Addr × Obj)), Room k (A.deeper (envOfC qual (defScope st) s.heap.objs.size f cdv)) → sp vs H Q E →
      ∃ t, GSs (gcxOf P w K mg base N qual (defScope st) f cdv A outer s H E pn) (defBody st) t ∧ t { nx := fun ys _ H' => Q ys H', rt := fun ys v H' => v = .non ∧ Q ys H' } [] (start N vs) H) : GFn P w K mg base (k + 1) f fd ps sp := by
  obtain ⟨oc, od, kV, doc, pm, an, cdv, ct, osl, rfl, lk, hcd⟩ := F.ex
  exact gfn_of lk hcd S len fun A outer s H vs Q E pn hr hsp => hbody cdv A outer s H vs Q E pn hr hsp
structure DefG (P : Program) (w : World) (K : PySem.W.Frag) (mg : Str → Option Value) (base : Heap) (k : Nat) (x : Str) (ps : List Str) (sp : SpG) : Prop where
  ex : ∃ (f : Addr) (fd : FuncData), GFn P w K mg base k f fd ps sp ∧ mg x = some (.ref f) ∧ PySem.W.keepIn K (.ref f) = true ∧ Binds K fd ps []
/-- rows: only what the law asks of it -/
def spRows (K : PySem.W.Frag) (CL CC CM : Addr) : SpG := fun vs H Q E => ∃ v1 v2, vs = [v1, v2] ∧ Kind K H v1 ∧ ShortV v1 ∧ Kind K H v2 ∧ ShortV v2 ∧
  ((lettersV v1 = false ∧ Err E H CL v1) ∨ ∃ L, L ∈ LETS ∧ v1 = .str L ∧ ((countV v2 = false ∧ Err E H CC v2) ∨
    (∃ i, v2 = .int i ∧ 200 < i ∧ ErrM E H CM) ∨ (v2 = .int 0 ∧ ∀ H', Same H H' → Q [.str ""] H')))
theorem scRows : GScope ["letters", "most", "number"] ["letters", "most"] (defScope sRows) := ⟨rfl, rfl, rfl, by decide +kernel, rfl, by decide +kernel, by decide +kernel⟩
theorem ok_rows {f CL CC CM : Addr} {fd : FuncData} (F : Fun K "rows" "rows" sRows f fd) (B : Bl mg) (D1 : DefX P w K mg base 3 "check_letters" ["letters"] (spChk K lettersV CL)) (D2 : DefX P w K mg base 4 "check_most" ["most"] (spMost K CC CM))
    (D3 : Def P w K mg base 1 "rows_up_to" ["letters", "most"] spUpTo) (D4 : Def P w K mg base 1 "numbered_row" ["letters", "number"] spNumbered) : GFn P w K mg base 5 f fd ["letters", "most"] (spRows K CL CC CM) := by
  obtain ⟨f1, fd1, G1, g1, k1, b1⟩ := D1.ex
  obtain ⟨f2, fd2, G2, g2, k2, b2⟩ := D2.ex
  obtain ⟨f3, fd3, G3, g3, k3, b3⟩ := D3.ex
  obtain ⟨f4, fd4, G4, g4, k4, b4⟩ := D4.ex
  refine Fun.okG F scRows (fun vs H Q E h => ?_) (fun cdv A outer s H vs Q E pn hr h => ?_)
  · obtain ⟨v1, v2, rfl, _⟩ := h
    rfl
  · obtain ⟨v1, v2, rfl, kd1, sh1, kd2, sh2, h⟩ := h
    refine ⟨_, gss_cons (gs_ps (ps_expr (pe_call G1 (hr.mono (by decide)) rfl g1 k1 b1 .nil (passes_call takes_gcx (fun _ _ _ _ h => h)) (by exact (pa_cons (pv 0) pa_nil)))))
      (gss_cons (gs_ps (ps_expr (pe_call G2 hr rfl g2 k2 b2 .nil (passes_call takes_gcx (fun _ _ _ _ h => h)) (by exact (pa_cons (pv 1) pa_nil)))))
      (gss_cons (gs_for owns_gcx rfl (pi_range1 (by rfl) B.range (by exact (pa_cons (pe_call G3 (hr.mono (by decide)) rfl g3 k3 b3 .nil pass0 (by exact (pa_cons (pv 0) (pa_cons (pv 1) pa_nil)))) pa_nil))) (pg_name (i := 2) scRows.nd rfl (Or.inl rfl))
        (gss_cons (gs_yield (pe_call G4 (hr.mono (by decide)) rfl g4 k4 b4 .nil pass0 (by exact (pa_cons (pv 0) (pa_cons (pv 2) pa_nil))))) gss_nil)) gss_nil)), ?_⟩
    rcases h with ⟨e1, er⟩ | ⟨L, hL, rfl, h⟩
    · exact ⟨_, rfl, v1, rfl, kd1, sh1, fun e => (absB e1 e), fun _ d H' hd sm hx => er d H' hd sm hx⟩
    · refine ⟨_, rfl, _, rfl, kd1, sh1, fun _ H1 s1 => ?_, fun e => (absB' (lets_ok L hL) e)⟩
      rcases h with ⟨e2, er⟩ | ⟨i, rfl, hi, er⟩ | ⟨rfl, q⟩
      · exact ⟨_, rfl, _, rfl, kd2.same s1, sh2, fun _ => er.on s1, fun i e h0 => (by subst e; exact absB' (show countV (.int i) = true from decide_eq_true h0) e2)⟩
      · refine ⟨_, rfl, _, rfl, kd2.same s1, sh2, fun e => (absB' (show countV (.int i) = true from decide_eq_true (by omega)) e), fun j e h0 => ?_⟩
        cases e
        exact ⟨fun hh => absurd hh (by omega), fun _ => er.on s1⟩
      · refine ⟨_, rfl, _, rfl, kd2.same s1, sh2, fun e => (absB' (count_nat 0) e), fun j e h0 => ?_⟩
        cases e
        refine ⟨fun _ H2 s2 => ?_, fun hh => absurd hh (by omega)⟩
        refine ⟨_, rfl, _, rfl, L, 0, rfl, (lets_len L hL).2, by omega, ?_⟩
        refine ⟨_, rfl, by show -(2 ^ 62) ≤ (1 : Int); decide, by show (1 : Int) < 2 ^ 62; decide, ?_⟩
        refine ⟨fun i m ys σ H' => (i = 0 ∧ m = 1 ∧ ys = [] ∧ σ = [some (.str L), some (.int 0), none] ∧ H' = H2) ∨ (i = 1 ∧ m = 0 ∧ ys = [.str ""] ∧ Same H2 H'), ⟨1, .inl ⟨rfl, rfl, rfl, rfl, rfl⟩⟩, ?_⟩
        rintro i m ys σ H' (⟨rfl, rfl, rfl, rfl, rfl⟩ | ⟨rfl, rfl, rfl, s3⟩)
        · refine .inr ⟨by show 0 < 1; decide, fun ys' σ' H'' => ys' = [.str ""] ∧ Same H' H'', fun ys' σ' H'' ⟨e, s3⟩ => ⟨0, by decide, .inr ⟨rfl, rfl, e, s3⟩⟩, ?_⟩
          rintro x H'' ⟨rfl, rfl⟩
          refine ⟨by decide, _, rfl, _, rfl, L, [], rfl, hL, (fun c hc => by cases hc), by decide, fun H3 s3 => ?_⟩
          exact ⟨rfl, s3⟩
        · exact .inl ⟨Nat.le_refl 1, q _ ((s1.trans s2).trans s3)⟩
end
end Lw
set_option Elab.async false
set_option linter.all false
set_option maxRecDepth 100000
set_option maxHeartbeats 4000000
/-! calls by keywords alone -/
namespace Lw
open PySem PySem.Spec PyProof.Rows L2
section
variable {α : Type}
/-- two by keywords, the other way round; one; one by place and two by keywords, the other way round -/
def turn2 : List α → List α → List α
  | [], [y, x] => [x, y]
  | _, _ => []
def same1 : List α → List α → List α
  | [], [x] => [x]
  | _, _ => []
def turn3 : List α → List α → List α
  | [z], [y, x] => [z, x, y]
  | _, _ => []
end
theorem turn2_rel {vs zs : List V} {us ws : List Value} (r : Vals vs us) (q : Vals zs ws) : Vals (turn2 vs zs) (turn2 us ws) := by
  cases r with
  | cons r1 r2 => exact .nil
  | nil => cases q with
    | nil => exact .nil
    | cons q1 q2 => cases q2 with
      | nil => exact .nil
      | cons q3 q4 => cases q4 with
        | nil => exact .cons q3 (.cons q1 .nil)
        | cons q5 q6 => exact .nil
theorem same1_rel {vs zs : List V} {us ws : List Value} (r : Vals vs us) (q : Vals zs ws) : Vals (same1 vs zs) (same1 us ws) := by
  cases r with
  | cons r1 r2 => exact .nil
  | nil => cases q with
    | nil => exact .nil
    | cons q1 q2 => cases q2 with
      | nil => exact .cons q1 .nil
      | cons q3 q4 => exact .nil
theorem turn3_rel {vs zs : List V} {us ws : List Value} (r : Vals vs us) (q : Vals zs ws) : Vals (turn3 vs zs) (turn3 us ws) := by
  cases r with
  | nil => exact .nil
  | cons r1 r2 => cases r2 with
    | cons r3 r4 => exact .nil
    | nil => cases q with
      | nil => exact .nil
      | cons q1 q2 => cases q2 with
        | nil => exact .nil
        | cons q3 q4 => cases q4 with
          | nil => exact .cons r1 (.cons q3 (.cons q1 .nil))
          | cons q5 q6 => exact .nil
theorem turn2_len {us ws : List Value} (h : (turn2 us ws).length = 2) : us = [] ∧ ∃ y x, ws = [y, x] := by
  match us, ws, h with
  | [], [y, x], _ => exact ⟨rfl, y, x, rfl⟩
theorem same1_len {us ws : List Value} (h : (same1 us ws).length = 1) : us = [] ∧ ∃ x, ws = [x] := by
  match us, ws, h with
  | [], [x], _ => exact ⟨rfl, x, rfl⟩
theorem turn3_len {us ws : List Value} (h : (turn3 us ws).length = 3) : ∃ z y x, us = [z] ∧ ws = [y, x] := by
  match us, ws, h with
  | [z], [y, x], _ => exact ⟨z, y, x, rfl, rfl⟩
section
variable {K : PySem.W.Frag} {f : Addr} {fd : FuncData}
theorem kb_rows (F : Fun K "rows" "rows" (topS 18) f fd) : KBinds K fd ["letters", "most"] ["most", "letters"] turn2 turn2 := by
  obtain ⟨oc, od, kV, doc, pm, an, cdv, ct, osl, rfl, _⟩ := F.ex
  refine ⟨fun s us ws _ h => ?_, turn2_rel⟩
  obtain ⟨rfl, y, x, rfl⟩ := turn2_len h
  exact .of_eq rfl
theorem kb_many (F : Fun K "many_rows" "many_rows" (topS 19) f fd) : KBinds K fd ["letters", "most"] ["most", "letters"] turn2 turn2 := by
  obtain ⟨oc, od, kV, doc, pm, an, cdv, ct, osl, rfl, _⟩ := F.ex
  refine ⟨fun s us ws _ h => ?_, turn2_rel⟩
  obtain ⟨rfl, y, x, rfl⟩ := turn2_len h
  exact .of_eq rfl
theorem kb_rowat (F : Fun K "row_at" "row_at" (topS 20) f fd) : KBinds K fd ["letters", "number"] ["number", "letters"] turn2 turn2 := by
  obtain ⟨oc, od, kV, doc, pm, an, cdv, ct, osl, rfl, _⟩ := F.ex
  refine ⟨fun s us ws _ h => ?_, turn2_rel⟩
  obtain ⟨rfl, y, x, rfl⟩ := turn2_len h
  exact .of_eq rfl
theorem kb_number (F : Fun K "number_of" "number_of" (topS 21) f fd) : KBinds K fd ["letters", "row"] ["row", "letters"] turn2 turn2 := by
  obtain ⟨oc, od, kV, doc, pm, an, cdv, ct, osl, rfl, _⟩ := F.ex
  refine ⟨fun s us ws _ h => ?_, turn2_rel⟩
  obtain ⟨rfl, y, x, rfl⟩ := turn2_len h
  exact .of_eq rfl
theorem kb_isrow (F : Fun K "is_row" "is_row" (topS 16) f fd) : KBinds K fd ["letters", "value"] ["value", "letters"] turn2 turn2 := by
  obtain ⟨oc, od, kV, doc, pm, an, cdv, ct, osl, rfl, _⟩ := F.ex
  refine ⟨fun s us ws _ h => ?_, turn2_rel⟩
  obtain ⟨rfl, y, x, rfl⟩ := turn2_len h
  exact .of_eq rfl
theorem kb_islet (F : Fun K "is_letters" "is_letters" (topS 15) f fd) : KBinds K fd ["value"] ["value"] same1 same1 := by
  obtain ⟨oc, od, kV, doc, pm, an, cdv, ct, osl, rfl, _⟩ := F.ex
  refine ⟨fun s us ws _ h => ?_, same1_rel⟩
  obtain ⟨rfl, x, rfl⟩ := same1_len h
  exact .of_eq rfl
theorem kb_ahead (F : Fun K "is_ahead" "is_ahead" (topS 17) f fd) : KBinds K fd ["letters", "row", "other"] ["other", "row"] turn3 turn3 := by
  obtain ⟨oc, od, kV, doc, pm, an, cdv, ct, osl, rfl, _⟩ := F.ex
  refine ⟨fun s us ws _ h => ?_, turn3_rel⟩
  obtain ⟨z, y, x, rfl, rfl⟩ := turn3_len h
  exact .of_eq rfl
end
section
variable {X : Cx} {CX : CXT} {k : Nat} {f : Addr} {fd : FuncData} {ps ks : List Str} {sp : Sp} {spg : SpG} {E : XK} {x : Str} {p pos : Pos} {kws : List Keyword} {tk : TA} {g : List Value → List Value → List Value} {gV : List V → List V → List V}
/-- f(k = v, ..), nothing by place -/
theorem pe_callK0 (F : FnOk X.prog X.w X.K X.mg X.base CX k f fd ps sp) (hr : Room k X.A) (hg : Gl X x) (hm : X.mg x = some (.ref f)) (hk : PySem.W.keepIn X.K (.ref f) = true) (hb : KBinds X.K fd ps ks g gV) (hx : Passes CX X E)
    (kw : PK X kws tk) (named : (backToKw pos (keywordEach kws X.env)).all (·.1.isSome) = true := by rfl) (names : (backToKw pos (keywordEach kws X.env)).filterMap (·.1) = ks := by rfl)
    (hdb : (x == ("__debug__" : Str)) = false := by decide) (plain : ((backTo pos (starEach [] X.env)).any (·.1) || (backToKw pos (keywordEach kws X.env)).any (·.1.isNone)) = false := by rfl) :
    PE X (.Call (.Name x p) [] kws pos) (tCallK sp gV E tNil tk) := by
  constructor
  intro pins s σ H Q I h
  refine wpAny_Call_Name_kw (ld_glob I hg hm (PySem.W.callWith_KW0 (h₀ := X.base) I.ok.mod.kin hk named ?_ plain) hdb)
  refine thn (kw.run pos pins s σ H _ I h) ?_
  rintro ws s2 ⟨zs, H2, I2, rz, q2⟩
  rw [names]
  exact ⟨I2.kIn, run_fnk F hr hb hx I2 .nil rz q2⟩
/-- a generator def's call by keywords alone -/
def tCallGK (sp : SpG) (gV : List V → List V → List V) (E : XK) (tk : TA) : TGen := fun σ H cont => tk σ H fun zs H1 => sp (gV [] zs) H1 cont E
theorem pgen_callK0 (F : GFn X.prog X.w X.K X.mg X.base k f fd ps spg) (hr : Room k X.A) (hg : Gl X x) (hm : X.mg x = some (.ref f)) (hk : PySem.W.keepIn X.K (.ref f) = true) (hb : KBinds X.K fd ps ks g gV)
    (kw : PK X kws tk) (named : (backToKw pos (keywordEach kws X.env)).all (·.1.isSome) = true := by rfl) (names : (backToKw pos (keywordEach kws X.env)).filterMap (·.1) = ks := by rfl)
    (hdb : (x == ("__debug__" : Str)) = false := by decide) (plain : ((backTo pos (starEach [] X.env)).any (·.1) || (backToKw pos (keywordEach kws X.env)).any (·.1.isNone)) = false := by rfl) :
    PGen X k (.Call (.Name x p) [] kws pos) (tCallGK spg gV E tk) E := by
  constructor
  intro pins s σ H cont I h
  refine wpAny_Call_Name_kw (ld_glob I hg hm (PySem.W.callWith_KW0 (h₀ := X.base) I.ok.mod.kin hk named ?_ plain) hdb)
  refine thn (kw.run pos pins s σ H _ I h) ?_
  rintro ws s2 ⟨zs, H2, I2, rz, q2⟩
  rw [names]
  refine ⟨I2.kIn, ?_⟩
  have r2 : Vals (gV [] zs) (g [] ws) := hb.rel .nil rz
  have hl : (g [] ws).length = ps.length := r2.length.symm.trans (F.len _ _ _ _ q2)
  refine wpAny_call (codeAny_mono (F.run X.A X.stack s2 H2 ⟨[], ks.zip ws⟩ (g [] ws) (gV [] zs) cont E hr I2.env0 (hb.to s2 [] ws I2.kIn hl) r2 q2) ?_)
  intro o s' ho
  cases o with
  | error e => exact ho.elim
  | ok fl =>
    cases fl with
    | ret u => exact ⟨H2, s2, [], I2, .nil, ho⟩
    | next => exact ho.elim
    | brk => exact ho.elim
    | cont => exact ho.elim
end
end Lw
set_option Elab.async false
set_option linter.all false
set_option maxRecDepth 100000
set_option maxHeartbeats 4000000
/-! the law's way to tell what a call does: _law_told(lambda: ..) -/
namespace Lw
open PySem PySem.Spec PyProof.Rows L2 LamX
/-- a def of the module as it is called: by place and by keywords -/
structure DefK (P : Program) (w : World) (K : PySem.W.Frag) (mg : Str → Option Value) (base : Heap) (CX : CXT) (k : Nat) (x : Str) (ps : List Str) (sp : Sp) (ks : List Str) (g : List Value → List Value → List Value) (gV : List V → List V → List V) : Prop where
  ex : ∃ (f : Addr) (fd : FuncData), FnOk P w K mg base CX k f fd ps sp ∧ mg x = some (.ref f) ∧ PySem.W.keepIn K (.ref f) = true ∧ Binds K fd ps [] ∧ KBinds K fd ps ks g gV
structure DefGK (P : Program) (w : World) (K : PySem.W.Frag) (mg : Str → Option Value) (base : Heap) (k : Nat) (x : Str) (ps : List Str) (sp : SpG) (ks : List Str) (g : List Value → List Value → List Value) (gV : List V → List V → List V) : Prop where
  ex : ∃ (f : Addr) (fd : FuncData), GFn P w K mg base k f fd ps sp ∧ mg x = some (.ref f) ∧ PySem.W.keepIn K (.ref f) = true ∧ Binds K fd ps [] ∧ KBinds K fd ps ks g gV
structure ToldD (K : PySem.W.Frag) (mg : Str → Option Value) : Prop where
  ex : ∃ (g : Addr) (fd : FuncData), Fun K "_law_told" "_law_told" sTold g fd ∧ mg "_law_told" = some (.ref g) ∧ Binds K fd ["_law_call"] []
/-- none of these errors ends an iterator -/
structure NoSt (K : PySem.W.Frag) (CL CC CM : Addr) : Prop where
  l : PySem.W.subIn K (.ref CL) (.type "StopIteration") = some false
  c : PySem.W.subIn K (.ref CC) (.type "StopIteration") = some false
  m : PySem.W.subIn K (.ref CM) (.type "StopIteration") = some false
/-- only these errors -/
def Just (CL CC CM : Addr) (E : XK) : XK := fun cls d H => E cls d H ∧ (cls = .ref CL ∨ cls = .ref CC ∨ cls = .ref CM)
theorem NoSt.just {K : PySem.W.Frag} {CL CC CM : Addr} {E : XK} (n : NoSt K CL CC CM) : NoStop K (Just CL CC CM E) := fun cls d H h => by
  obtain ⟨_, rfl | rfl | rfl⟩ := h
  · exact n.l
  · exact n.c
  · exact n.m
/-- all that the law's own defs call -/
structure Kit (P : Program) (w : World) (K : PySem.W.Frag) (mg : Str → Option Value) (base : Heap) (CL CR CC CM BE LE : Addr) : Prop where
  B : Bl mg
  M : Mets K mg CL CR CC CM BE LE
  isl : DefK P w K mg base CX0 2 "is_letters" ["value"] (spIsLet K) ["value"] same1 same1
  isr : DefK P w K mg base (L2.CX P w) 4 "is_row" ["letters", "value"] (spIsRow K CL) ["value", "letters"] turn2 turn2
  ahd : DefK P w K mg base (L2.CX P w) 4 "is_ahead" ["letters", "row", "other"] (spAhead K CL CR) ["other", "row"] turn3 turn3
  rws : DefGK P w K mg base 5 "rows" ["letters", "most"] (spRows K CL CC CM) ["most", "letters"] turn2 turn2
  mny : DefK P w K mg base (L2.CX P w) 5 "many_rows" ["letters", "most"] (spMany K CL CC CM) ["most", "letters"] turn2 turn2
  rat : DefK P w K mg base (L2.CX P w) 4 "row_at" ["letters", "number"] (spRowAt K CL CC CM) ["number", "letters"] turn2 turn2
  num : DefK P w K mg base (L2.CX P w) 4 "number_of" ["letters", "row"] (spNum K CL CR) ["row", "letters"] turn2 turn2
  ods : Def P w K mg base 3 "_law_odd_signs" ["_law_pot_here"] (spMenu oddS)
  odr : Def P w K mg base 3 "_law_odd_row" ["_law_pot_here", "_law_signs_here"] spOddR
  odc : Def P w K mg base 3 "_law_odd_count" ["_law_pot_here"] (spMenu oddC)
  pick : Def P w K mg base 2 "_law_pick" ["_law_pot_here", "_law_lot"] (spPick K)
  pickS : Def P w K mg base 2 "_law_pick" ["_law_pot_here", "_law_lot"] spPickS
  draw : Def P w K mg base 1 "_law_draw" ["_law_pot_here", "_law_span"] spDraw
  told : ToldD K mg
  ns : NoSt K CL CC CM
section
variable {X : Cx} {T : List (Addr × Str)} {CL CR CC CM BE LE : Addr}
theorem pe_told {k : Nat} {c P : Addr} {params : Arguments} {body : Expr} {scope : Scope} {t : XK → TE} {p lpos pos : Pos} (D : ToldD X.K X.mg) (M : Mets X.K X.mg CL CR CC CM BE LE) (B : Bl X.mg) (gd : X.A.guards = some []) (hg : Gl X "_law_told")
    (TB : TabB X.base X.mg c P) (hcode : X.env.code = .ref c) (hmT : (P, X.env.qual ++ "<lambda>") ∈ T) (hu : ∀ p ∈ T, p.1 = P → p.2 = X.env.qual ++ "<lambda>") (hr : Room (k + 2) X.A) (L : LamS X.env.scope scope) (hdef : defaultsOf params X.env = ([], []))
    (hbind : ∀ (q : Str) (cl : List (Str × Addr)) (pm cv ctv : Value), bindArgs (PySem.W.kla_fn "<lambda>" q params body scope cl pm cv ctv) ⟨[], []⟩ = pure [])
    (hbody : ∀ (A : Around) (outer : List Env) (s : Shared) (H : Hp) (E : XK) (f c' : Addr), Room k (A.deeper (lamEnv X scope s.heap.objs.size f c')) → PE (lamCx X A outer s H E scope f c') body (t E)) :
    PE X (.Call (.Name "_law_told" p) [.Lambda params body scope lpos] [] pos) (tLam T (TTells CL CR CC CM) t) := by
  obtain ⟨g, fd, F, hm, hb⟩ := D.ex
  have hk := F.kp
  obtain ⟨oc, od, kV, doc, pm, an, cdv, ct, osl, rfl, lk, hcd⟩ := F.ex
  exact pe_lamcall (k := k) hg hm hk lk hcd hb scTold rfl (.inl rfl) (told_gives (k := 0) M B gd (hr.mono (by omega))) TB hcode hmT hu hr L hdef hbind hbody
end
/-! ### what a lambda's reading must keep, so that it is told -/
section
variable {T : List (Addr × Str)} {CL CR CC CM : Addr} {H : Hp} {Q : VK} {t : XK → TE} {σ : L2.St} {v : V} {z : PyData} {p : Addr}
theorem Item.kind {K : PySem.W.Frag} (it : Item p H v z) : Kind K H v := by
  cases it with
  | flat f => cases f with
    | non => exact ⟨"NoneType", .base .non, by decide⟩
    | bl b => exact ⟨"bool", .base (.bl b), by decide⟩
    | int i => exact ⟨"int", .base (.int i), by decide⟩
    | str s => exact ⟨"str", .base (.str s), by decide⟩
  | lst e n f => exact ⟨"list", .base (.lst e), by decide⟩
  | tup e n f => exact ⟨"tuple", .base (.tup e), by decide⟩
  | dict e n => exact ⟨"dict", .base (.dK e), by decide⟩
theorem Item.extN {H' : Hp} (e0 : ExtN H H') (it : Item p H v z) : Item p H' v z := by
  cases it with
  | flat f => exact .flat f
  | lst e n f => exact .lst (e0 _ _ e (fun _ q => by cases q)) n f
  | tup e n f => exact .tup (e0 _ _ e (fun _ q => by cases q)) n f
  | dict e n => exact .dict (e0 _ _ e (fun _ q => by cases q)) n
theorem extN_of {H' : Hp} (s : Same H H') : ExtN H H' := fun b o e _ => s b o e
theorem tabs_of {H' : Hp} (s : Same H H') (t : Tabs T H) : Tabs T H' := t.ext s
theorem tells_l (hT : Tabs T H) (it : Item p H v z) (ok : rowOk [.str "letters", z, .bool true] = true) (q : ∀ H', ExtN H H' → Tabs T H' → Q (.str (tellS "letters" z)) H')
    (h : ∀ (E : XK) (H2 : Hp) (Q1 : VK), ExtN H H2 → Err E H2 CL v → t E σ H2 Q1) : tLam T (TTells CL CR CC CM) t σ H Q := by
  refine ⟨hT, fun H1 e1 t1 H2 Q1 s2 => h _ H2 Q1 (e1.trans (extN_of s2)) ?_⟩
  intro d H' hd sm hx
  have it' := ((it.extN e1).extN (extN_of s2)).extN (extN_of sm)
  exact .inl ⟨rfl, d, p, v, z, rfl, hx, it', ok, fun H'' s'' => q H'' (((e1.trans (extN_of s2)).trans (extN_of sm)).trans (extN_of s'')) (tabs_of s'' (tabs_of sm (tabs_of s2 t1)))⟩
theorem tells_r (hT : Tabs T H) (it : Item p H v z) (ok : rowOk [.str "row", z, .bool true] = true) (q : ∀ H', ExtN H H' → Tabs T H' → Q (.str (tellS "row" z)) H')
    (h : ∀ (E : XK) (H2 : Hp) (Q1 : VK), ExtN H H2 → Err E H2 CR v → t E σ H2 Q1) : tLam T (TTells CL CR CC CM) t σ H Q := by
  refine ⟨hT, fun H1 e1 t1 H2 Q1 s2 => h _ H2 Q1 (e1.trans (extN_of s2)) ?_⟩
  intro d H' hd sm hx
  have it' := ((it.extN e1).extN (extN_of s2)).extN (extN_of sm)
  exact .inr (.inl ⟨rfl, d, p, v, z, rfl, hx, it', ok, fun H'' s'' => q H'' (((e1.trans (extN_of s2)).trans (extN_of sm)).trans (extN_of s'')) (tabs_of s'' (tabs_of sm (tabs_of s2 t1)))⟩)
theorem tells_c (hT : Tabs T H) (it : Item p H v z) (ok : rowOk [.str "count", z, .bool true] = true) (q : ∀ H', ExtN H H' → Tabs T H' → Q (.str (tellS "count" z)) H')
    (h : ∀ (E : XK) (H2 : Hp) (Q1 : VK), ExtN H H2 → Err E H2 CC v → t E σ H2 Q1) : tLam T (TTells CL CR CC CM) t σ H Q := by
  refine ⟨hT, fun H1 e1 t1 H2 Q1 s2 => h _ H2 Q1 (e1.trans (extN_of s2)) ?_⟩
  intro d H' hd sm hx
  have it' := ((it.extN e1).extN (extN_of s2)).extN (extN_of sm)
  exact .inr (.inr (.inl ⟨rfl, d, p, v, z, rfl, hx, it', ok, fun H'' s'' => q H'' (((e1.trans (extN_of s2)).trans (extN_of sm)).trans (extN_of s'')) (tabs_of s'' (tabs_of sm (tabs_of s2 t1)))⟩))
theorem tells_m (hT : Tabs T H) (q : ∀ H', ExtN H H' → Tabs T H' → Q (.str tellM) H')
    (h : ∀ (E : XK) (H2 : Hp) (Q1 : VK), ExtN H H2 → ErrM E H2 CM → t E σ H2 Q1) : tLam T (TTells CL CR CC CM) t σ H Q := by
  refine ⟨hT, fun H1 e1 t1 H2 Q1 s2 => h _ H2 Q1 (e1.trans (extN_of s2)) ?_⟩
  intro d H' hd sm hx
  exact .inr (.inr (.inr ⟨rfl, d, rfl, hx, fun H'' s'' => q H'' (((e1.trans (extN_of s2)).trans (extN_of sm)).trans (extN_of s'')) (tabs_of s'' (tabs_of sm (tabs_of s2 t1)))⟩))
end
/-! ### the menus -/
def strLen : PyData → Nat
  | .str s => s.length
  | _ => 0
def lettersP : PyData → Bool
  | .str s => lettersV (.str s)
  | _ => false
def overP (L : Str) : PyData → Bool
  | .str s => overV L (.str s)
  | _ => false
def countP : PyData → Bool
  | .int i => decide (0 ≤ i)
  | _ => false
section
variable {H : Hp} {v : V} {z : PyData} {p : Addr}
theorem Item.short (it : Item p H v z) (h : strLen z < 100000) : ShortV v := fun s e => by
  subst e
  cases it with
  | flat f => cases f; exact h
theorem Item.letters (it : Item p H v z) : lettersV v = lettersP z := by
  cases it with
  | flat f => cases f <;> rfl
  | lst e n f => rfl
  | tup e n f => rfl
  | dict e n => rfl
theorem Item.over {L : Str} (it : Item p H v z) : overV L v = overP L z := by
  cases it with
  | flat f => cases f <;> rfl
  | lst e n f => rfl
  | tup e n f => rfl
  | dict e n => rfl
theorem Item.count (it : Item p H v z) : countV v = countP z := by
  cases it with
  | flat f => cases f <;> rfl
  | lst e n f => rfl
  | tup e n f => rfl
  | dict e n => rfl
theorem fits_s : ∀ z ∈ oddS, lettersP z = false ∧ strLen z < 100000 ∧ rowOk [.str "letters", z, .bool true] = true := by
  have h : (oddS.all fun z => !lettersP z && decide (strLen z < 100000) && rowOk [.str "letters", z, .bool true]) = true := by decide +kernel
  intro z hz
  have := List.all_eq_true.mp h z hz
  simp only [Bool.and_eq_true, Bool.not_eq_true', decide_eq_true_eq] at this
  exact ⟨this.1.1, this.1.2, this.2⟩
theorem fits_c : ∀ z ∈ oddC, countP z = false ∧ strLen z < 100000 ∧ rowOk [.str "count", z, .bool true] = true := by
  have h : (oddC.all fun z => !countP z && decide (strLen z < 100000) && rowOk [.str "count", z, .bool true]) = true := by decide +kernel
  intro z hz
  have := List.all_eq_true.mp h z hz
  simp only [Bool.and_eq_true, Bool.not_eq_true', decide_eq_true_eq] at this
  exact ⟨this.1.1, this.1.2, this.2⟩
theorem fits_r : ∀ L ∈ LETS, ∀ z ∈ oddR L, overP L z = false ∧ strLen z < 100000 ∧ rowOk [.str "row", z, .bool true] = true := by
  have h : (LETS.all fun L => (oddR L).all fun z => !overP L z && decide (strLen z < 100000) && rowOk [.str "row", z, .bool true]) = true := by decide +kernel
  intro L hL z hz
  have := List.all_eq_true.mp (List.all_eq_true.mp h L hL) z hz
  simp only [Bool.and_eq_true, Bool.not_eq_true', decide_eq_true_eq] at this
  exact ⟨this.1.1, this.1.2, this.2⟩
end
end Lw
set_option Elab.async false
set_option linter.all false
set_option maxRecDepth 100000
set_option maxHeartbeats 4000000
namespace Lw
open PySem PySem.Spec PyProof.Rows L2 LamX
abbrev noArgs : Arguments := { posonlyargs := [], args := [], vararg := none, kwonlyargs := [], kw_defaults := [], kwarg := none, defaults := [] }
/-- as Fun, with its code object -/
structure FunC (K : PySem.W.Frag) (x qual : Str) (st : Stmt) (f : Addr) (fd : FuncData) (c : Addr) : Prop where
  ex : ∃ (oc : Value) (od : Option Addr) (kV doc pm : Value) (an : Option Addr) (ct : Value) (osl : Array (Option Value)),
    fd = PySem.W.fnOf x qual (defArgs st) (defBody st) (defScope st) .none kV doc pm an (.ref c) ct ∧ K.lookup f = some ⟨oc, od, .func fd, osl⟩ ∧ PySem.W.codeIn K (.ref c) qual = true
  kp : PySem.W.keepIn K (.ref f) = true
section
variable {P : Program} {w : World} {K : PySem.W.Frag} {mg : Str → Option Value} {base : Heap}
theorem FunC.toFun {x qual : Str} {st : Stmt} {f c : Addr} {fd : FuncData} (F : FunC K x qual st f fd c) : L2.Fun K x qual st f fd := by
  obtain ⟨oc, od, kV, doc, pm, an, ct, osl, e, l, h⟩ := F.ex
  exact ⟨⟨oc, od, kV, doc, pm, an, .ref c, ct, osl, e, l, h⟩, F.kp⟩
theorem fngc_of {x qual : Str} {st : Stmt} {f c : Addr} {fd : FuncData} {N ps : List Str} {k : Nat} {sp : Sp} (F : FunC K x qual st f fd c) (S : FnScope N ps (defScope st)) (size : ∀ vs H Q E, sp vs H Q E → vs.length = ps.length)
    (hb : ∀ (A : Around) (outer : List Env) (s : Shared) (H : Hp) (vs : List V) (Q : VK) (E : XK), A.guards = some [] → Room k (A.deeper (envOfC qual (defScope st) s.heap.objs.size f (.ref c))) → sp vs H Q E →
      ∃ t, PSs (cxOf CX0 P w K mg base N qual (defScope st) f (.ref c) A outer s H E).nox (defBody st) t ∧ t { nx := fun _ H' => Q .non H', rt := Q } (start N vs) H) : FnG P w K mg base CX0 (k + 1) f fd ps sp := by
  obtain ⟨oc, od, kV, doc, pm, an, ct, osl, rfl, lk, hcd⟩ := F.ex
  refine ⟨size, fun A outer s H us vs Q E g hr e0 bt r h => LamX.run_ofS lk hcd S hr e0 bt r (size _ _ _ _ h) fun hr' => ?_⟩
  obtain ⟨t, h1, h2⟩ := hb A outer s H vs Q E g hr' h
  exact ⟨t, h1.nox, h2⟩
/-- _law_told(lambda: body) in such a def -/
theorem told_in {N : List Str} {qual : Str} {sc scope : Scope} {f c Pt : Addr} {T : List (Addr × Str)} {A : Around} {outer : List Env} {s : Shared} {H : Hp} {E0' : XK} {k : Nat} {CL CR CC CM BE LE : Addr} {body : Expr} {t : XK → TE} {p lpos pos : Pos}
    (kit : Kit P w K mg base CL CR CC CM BE LE) (TB : TabB base mg c Pt) (gd : A.guards = some []) (hr : Room (k + 2) (A.deeper (envOfC qual sc s.heap.objs.size f (.ref c)))) (hmT : (Pt, qual ++ ".<locals>." ++ "<lambda>") ∈ T) (hu : ∀ p ∈ T, p.1 = Pt → p.2 = qual ++ ".<locals>." ++ "<lambda>")
    (hg : Gl (cxOf CX0 P w K mg base N qual sc f (.ref c) A outer s H E0').nox "_law_told") (L : lamSB sc scope = true)
    (hb : ∀ (A1 : Around) (o1 : List Env) (s1 : Shared) (H1 : Hp) (E : XK) (f1 c1 : Addr), Room k (A1.deeper (lamEnv (cxOf CX0 P w K mg base N qual sc f (.ref c) A outer s H E0').nox scope s1.heap.objs.size f1 c1)) →
      PE (lamCx (cxOf CX0 P w K mg base N qual sc f (.ref c) A outer s H E0').nox A1 o1 s1 H1 E scope f1 c1) body (t E)) :
    PE (cxOf CX0 P w K mg base N qual sc f (.ref c) A outer s H E0').nox (.Call (.Name "_law_told" p) [.Lambda noArgs body scope lpos] [] pos) (tLam T (TTells CL CR CC CM) t) :=
  pe_told (X := (cxOf CX0 P w K mg base N qual sc f (.ref c) A outer s H E0').nox) (k := k) kit.told kit.M kit.B gd hg TB rfl hmT hu hr (lamS_by L) rfl (fun _ _ _ _ _ => rfl) hb
end
/-! ### the tables through what is done -/
section
variable {T : List (Addr × Str)} {H H' : Hp} {p : Addr}
theorem tabs_keep (k : ∀ b o, H b = some o → (∀ xs, o ≠ .lst xs) → H' b = some o) (t : Tabs T H) : Tabs T H' := fun q hq => by
  obtain ⟨ps, h1, h2, h3⟩ := t q hq
  refine ⟨ps, k _ _ h1 (fun _ e => by cases e), h2, fun pos cv hc => ?_⟩
  obtain ⟨c, e1, e2⟩ := h3 pos cv hc
  exact ⟨c, e1, k _ _ e2 (fun _ e => by unfold CodeO at e; cases e)⟩
theorem tabs_but (hp : Pot H p) (b : But p H H') (t : Tabs T H) : Tabs T H' := tabs_keep (fun a o e n => b a o (fun q => by
  obtain ⟨x, y, e1, _⟩ := hp
  rw [q, e1] at e
  exact n _ (Option.some.inj e).symm) e) t
theorem tabs_set {D : Addr} {xs ys : List V} (e0 : H D = some (.lst xs)) (t : Tabs T H) : Tabs T (upd H D (.lst ys)) := tabs_keep (fun a o e n => by
  have nd : a ≠ D := fun q => by
    rw [q, e0] at e
    exact n _ (Option.some.inj e).symm
  rw [upd_ne nd]
  exact e) t
/-- all stays but the pot and the tables -/
def ExtP (p : Addr) (H H' : Hp) : Prop := ∀ b o, b ≠ p → H b = some o → (∀ ps, o ≠ .tbl ps) → H' b = some o
theorem ExtP.of_but (b : But p H H') : ExtP p H H' := fun a o n e _ => b a o n e
theorem ExtP.of_ext (b : ExtN H H') : ExtP p H H' := fun a o _ e n => b a o e n
theorem ExtP.trans {H2 : Hp} (a : ExtP p H H') (b : ExtP p H' H2) : ExtP p H H2 := fun c o n e m => b c o n (a c o n e m) m
theorem ExtP.item {v : V} {z : PyData} (k : ExtP p H H') (it : Item p H v z) : Item p H' v z := by
  cases it with
  | flat f => exact .flat f
  | lst e n f => exact .lst (k _ _ n e (fun _ q => by cases q)) n f
  | tup e n f => exact .tup (k _ _ n e (fun _ q => by cases q)) n f
  | dict e n => exact .dict (k _ _ n e (fun _ q => by cases q)) n
theorem Pot.extN (hp : Pot H p) (k : ExtN H H') : Pot H' p := by
  obtain ⟨a, b, e, r⟩ := hp
  exact ⟨a, b, k _ _ e (fun _ q => by cases q), r⟩
/-- so many tellings stand in the list at D -/
structure Run (T : List (Addr × Str)) (p : Addr) (H0 : Hp) (D n : Nat) (due : Str) (H : Hp) : Prop where
  ext : ExtN H0 H
  tabs : Tabs T H
  nd : H0 D = none
  at_ : H D = some (.lst (List.replicate n (.str due)))
theorem Run.one {D : Addr} {due : Str} {H0 : Hp} (e : ExtN H0 H) (t : Tabs T H) (h0 : H0 D = none) (hd : H D = none) : Run T p H0 D 1 due (upd H D (.lst [.str due])) where
  ext := fun b o h n => (kp hd (e b o h n))
  tabs := t.ext fun b o h => kp hd h
  nd := h0
  at_ := upd_same
theorem Run.more {D n : Nat} {due : Str} {H0 H2 : Hp} (r : Run T p H0 D n due H) (e : ExtN H H2) (t : Tabs T H2) : H2 D = some (.lst (List.replicate n (.str due))) ∧ Run T p H0 D (n + 1) due (upd H2 D (.lst (List.replicate n (.str due) ++ [.str due]))) := by
  have h2 := e _ _ r.at_ (fun _ q => by cases q)
  refine ⟨h2, ⟨fun b o h m => ?_, tabs_set h2 t, r.nd, ?_⟩⟩
  · rw [upd_ne (ne_of_none h r.nd)]
    exact e _ _ (r.ext b o h m) m
  · rw [upd_same, List.replicate_succ']
end
end Lw
set_option Elab.async false
set_option linter.all false
set_option maxRecDepth 100000
set_option maxHeartbeats 4000000
namespace Lw
open PySem PySem.Spec PyProof.Rows L2 LamX
section
variable {T : List (Addr × Str)} {H H0 : Hp} {p D n i : Nat} {due : Str} {K : PySem.W.Frag} {σ : L2.St} {Dn : Ends} {tl : TE}
theorem Run.append (hσ : σ[i]? = some (some (.ref D))) (r : Run T p H0 D n due H) (hn : n < 1000) (told : ∀ Q : VK, (∀ H', ExtN H H' → Tabs T H' → Q (.str due) H') → tl σ H Q) (k : ∀ H', Run T p H0 D (n + 1) due H' → Dn.nx σ H') :
    tDrop (tBM K "list" rAppend (tVar i) (tCons tl tNil)) Dn σ H := by
  refine ⟨_, hσ, .inl ⟨rfl, _, .inl (.inl r.at_)⟩, told _ fun H2 e2 t2 => ?_⟩
  obtain ⟨h2, r2⟩ := r.more e2 t2
  refine ⟨D, _, _, rfl, rfl, h2, ?_, k _ r2⟩
  rw [List.length_replicate]
  exact Evl.sz_lt (by omega)
theorem dp_reps {H : Hp} : ∀ n : Nat, DpAll K H (List.replicate n (.str due)) (List.replicate n (.str due))
  | 0 => .nil
  | n + 1 => .cons (.str due) (dp_reps n)
theorem eq_reps {b : Addr} {Q : VK} (hs : SeqAt.shaped (.list (List.replicate n (.str due))) = true) (h1 : H D = some (.lst (List.replicate n (.str due)))) (h2 : H b = some (.lst (List.replicate n (.str due)))) (q : Q (.bl true) H) : rEqD K (.ref D) (.ref b) H Q := by
  refine ⟨_, _, .lst (.inl (.inl h1)) (dp_reps n), .lst (.inl (.inl h2)) (dp_reps n), hs, hs, ?_⟩
  rw [SeqAt.eqv_refl _ (SeqAt.canLay_of_shaped hs)]
  exact q
theorem ne_reps {b : Addr} {Q : VK} (hs : SeqAt.shaped (.list (List.replicate n (.str due))) = true) (h1 : H D = some (.lst (List.replicate n (.str due)))) (h2 : H b = some (.lst (List.replicate n (.str due)))) (q : Q (.bl false) H) : rNeD K (.ref D) (.ref b) H Q := by
  refine ⟨_, _, .lst (.inl (.inl h1)) (dp_reps n), .lst (.inl (.inl h2)) (dp_reps n), hs, hs, ?_⟩
  rw [SeqAt.eqv_refl _ (SeqAt.canLay_of_shaped hs)]
  exact q
theorem due_s : ∀ z ∈ oddS, SeqAt.shaped (.list (List.replicate 8 (.str (tellS "letters" z)))) = true := by
  have h : (oddS.all fun z => SeqAt.shaped (.list (List.replicate 8 (.str (tellS "letters" z))))) = true := by decide +kernel
  exact List.all_eq_true.mp h
theorem due_r : ∀ L ∈ LETS, ∀ z ∈ oddR L, SeqAt.shaped (.list (List.replicate 5 (.str (tellS "row" z)))) = true := by
  have h : (LETS.all fun L => (oddR L).all fun z => SeqAt.shaped (.list (List.replicate 5 (.str (tellS "row" z))))) = true := by decide +kernel
  exact fun L hL => List.all_eq_true.mp (List.all_eq_true.mp h L hL)
theorem due_c : ∀ z ∈ oddC, SeqAt.shaped (.list (List.replicate 5 (.str (tellS "count" z)))) = true := by
  have h : (oddC.all fun z => SeqAt.shaped (.list (List.replicate 5 (.str (tellS "count" z))))) = true := by decide +kernel
  exact List.all_eq_true.mp h
theorem due_m : SeqAt.shaped (.list (List.replicate 4 (.str tellM))) = true := by decide +kernel
end
theorem kind_non {K : PySem.W.Frag} {H : Hp} : Kind K H .non := ⟨"NoneType", .base .non, by decide⟩
theorem short_non : ShortV .non := fun _ e => by cases e
theorem short_int {i : Int} : ShortV (.int i) := fun _ e => by cases e
theorem Err.just {E : XK} {H : Hp} {CL CC CM C : Addr} {v : V} (h : Err E H C v) (hc : C = CL ∨ C = CC ∨ C = CM) : Err (Just CL CC CM E) H C v := fun d H' hd sm hx => ⟨h d H' hd sm hx, by
  rcases hc with rfl | rfl | rfl
  · exact .inl rfl
  · exact .inr (.inl rfl)
  · exact .inr (.inr rfl)⟩
theorem ErrM.just {E : XK} {H : Hp} {CL CC CM : Addr} (h : ErrM E H CM) : ErrM (Just CL CC CM E) H CM := fun d H' hd sm hx => ⟨h d H' hd sm hx, .inr (.inr rfl)⟩
end Lw
set_option Elab.async false
set_option linter.all false
set_option maxRecDepth 100000
set_option maxHeartbeats 4000000
/-! a letter, so many times -/
namespace Lw
open PySem PySem.Spec PyProof.Rows L2
/-- so many of one letter -/
def reps (k c : Nat) : Str := ⟨(List.replicate k c).toArray⟩
theorem fold_reps (c : Nat) : ∀ (k : Nat) (a : Array Nat), (List.replicate k #[c]).foldl (· ++ ·) a = a ++ (List.replicate k c).toArray := by
  intro k
  induction k with
  | zero => intro a; simp
  | succ k ih =>
    intro a
    rw [List.replicate_succ, List.foldl_cons, ih, List.replicate_succ]
    apply Array.ext'
    simp
theorem mul_sign (c k : Nat) : Txt.mul (sgn c) ((k : Nat) : Int) = reps k c := by
  unfold Txt.mul
  by_cases h0 : k = 0
  · subst h0
    rfl
  · rw [if_neg (by omega)]
    by_cases h1 : k = 1
    · subst h1
      rfl
    · have e : ((((k : Nat) : Int) == 1) || (sgn c).length == 0) = false := by
        rw [Bool.or_eq_false_iff]
        exact ⟨beq_eq_false_iff_ne.mpr (by omega), rfl⟩
      rw [e, if_neg (by decide)]
      show Str.mk ((List.replicate k #[c]).foldl (· ++ ·) #[]) = _
      rw [fold_reps]
      show Str.mk (#[] ++ (List.replicate k c).toArray) = Str.mk (List.replicate k c).toArray
      simp
theorem mul_ok (c k : Nat) (hk : k ≤ 1000) : MulOk (sgn c) ((k : Nat) : Int) := by
  refine ⟨?_, fun h _ => ?_, fun h _ => ?_⟩
  · rw [Bool.or_eq_false_iff]
    exact ⟨decide_eq_false (by omega), decide_eq_false (by omega)⟩
  · have e : ((sgn c).length : Int) = 1 := rfl
    rw [e]
    have h2 : (1 : Int) ≤ (2 ^ 63 - 1) / ((k : Nat) : Int) := by
      rw [Int.le_ediv_iff_mul_le (by omega)]
      omega
    omega
  · show Builtin.Str.tooLong (1 * ((k : Nat) : Int).toNat) = false
    unfold Builtin.Str.tooLong
    exact decide_eq_false (by
      have : (sizeLine : Nat) ≥ 1000000 := by decide
      omega)
theorem op_mulS {X : Cx} : OpR X (binaryOp .Mult) (fun x y H Q => ∃ c k : Nat, x = .str (sgn c) ∧ y = .int ((k : Nat) : Int) ∧ k ≤ 1000 ∧ Q (.str (reps k c)) H) := by
  intro pins s σ H x y v u Q I rx ry h
  obtain ⟨c, k, rfl, rfl, hk, q⟩ := h
  obtain ⟨t, rfl⟩ := rx
  obtain ⟨t', rfl⟩ := ry
  refine SB.mul (mul_ok c k hk) fun t2 tk => ⟨.str (reps k c), H, I.tok _, ⟨t2, ?_⟩, q⟩
  rw [mul_sign]
theorem reps_len (k c : Nat) : (reps k c).length = k := by
  show (List.replicate k c).toArray.size = k
  simp
theorem reps_over {L : Str} {k c : Nat} (hc : c ∈ L.cps.toList) : overV L (.str (reps k c)) = true := by
  show ((List.replicate k c).toArray.toList.all fun x => decide (x ∈ L.cps.toList)) = true
  rw [List.all_eq_true]
  intro x hx
  have : x = c := List.eq_of_mem_replicate (by simpa using hx)
  rw [this]
  exact decide_eq_true hc
theorem reps_short {k c : Nat} (hk : k ≤ 1000) : ShortV (.str (reps k c)) := fun z e => by
  cases e
  rw [reps_len]
  omega
end Lw
set_option Elab.async false
set_option linter.all false
set_option maxRecDepth 100000
set_option maxHeartbeats 4000000
namespace Lw
open PySem PySem.Spec PyProof.Rows L2 LamX
abbrev sPart1 : Stmt := topS 38
def part1N : List Str := ["_law_pot_here", "_law_signs_here", "_law_odd", "_law_count", "_law_strange", "_law_due", "_law_told_here", "_law_here"]
theorem scPart1 : FnScope part1N ["_law_pot_here", "_law_signs_here"] (defScope sPart1) := ⟨rfl, rfl, rfl, by decide +kernel, rfl, by decide +kernel, by decide +kernel⟩
/-- a part of the law: true, whatever is drawn -/
def spPart (T : List (Addr × Str)) : Sp := fun vs H Q _ => ∃ (p : Addr) (L : Str), vs = [.ref p, .str L] ∧ L ∈ LETS ∧ Pot H p ∧ Tabs T H ∧ ∀ H', ExtP p H H' → Tabs T H' → Pot H' p → Q (.bl true) H'
section
variable {P : Program} {w : World} {K : PySem.W.Frag} {mg : Str → Option Value} {base : Heap}
theorem ok_part1 {f c Pt CL CR CC CM BE LE : Addr} {fd : FuncData} {T : List (Addr × Str)} (F : FunC K "_law_signs_right" "_law_signs_right" sPart1 f fd c) (kit : Kit P w K mg base CL CR CC CM BE LE) (TB : TabB base mg c Pt)
    (hmT : (Pt, ("_law_signs_right" : Str) ++ ".<locals>." ++ "<lambda>") ∈ T) (hu : ∀ p ∈ T, p.1 = Pt → p.2 = ("_law_signs_right" : Str) ++ ".<locals>." ++ "<lambda>") :
    FnG P w K mg base CX0 11 f fd ["_law_pot_here", "_law_signs_here"] (spPart T) := by
  obtain ⟨fS, fdS, GS, gS, kS, bS⟩ := kit.ods.ex
  obtain ⟨fC, fdC, GC, gC, kC, bC⟩ := kit.odc.ex
  obtain ⟨fR, fdR, GR, gR, kR, bR⟩ := kit.odr.ex
  obtain ⟨f1, fd1, G1, g1, k1, b1, kb1⟩ := kit.isl.ex
  obtain ⟨f2, fd2, G2, g2, k2, b2, kb2⟩ := kit.isr.ex
  obtain ⟨f3, fd3, G3, g3, k3, b3, kb3⟩ := kit.ahd.ex
  obtain ⟨f4, fd4, G4, g4, k4, b4, kb4⟩ := kit.rws.ex
  obtain ⟨f5, fd5, G5, g5, k5, b5, kb5⟩ := kit.mny.ex
  obtain ⟨f6, fd6, G6, g6, k6, b6, kb6⟩ := kit.rat.ex
  obtain ⟨f7, fd7, G7, g7, k7, b7, kb7⟩ := kit.num.ex
  have B := kit.B
  refine fngc_of F scPart1 (fun vs H Q E h => ?_) (fun A outer s H vs Q E gd hr h => ?_)
  · obtain ⟨p, L, rfl, _⟩ := h
    rfl
  · obtain ⟨p, L, rfl, hL, hp, hT, q⟩ := h
    have hu64 : (A.deeper (envOfC "_law_signs_right" (defScope sPart1) s.heap.objs.size f (.ref c))).units + 64 < cLine := by
      have := hr.un
      omega
    refine ⟨_, pss_cons (ps_asg (pe_tup (by exact (pa_cons (pe_call GS (hr.mono (by decide)) rfl gS kS bS .nil pass0 (pa_cons (pv 0) pa_nil)) (pa_cons (pe_call GC (hr.mono (by decide)) rfl gC kC bC .nil pass0 (pa_cons (pv 0) pa_nil)) pa_nil))))
        (pg_tup (by rfl) (pgs_cons (pg_name (i := 2) scPart1.nd rfl (.inr rfl)) (pgs_cons (pg_name (i := 3) scPart1.nd rfl (.inr rfl)) pgs_nil))))
      (pss_cons (ps_set (i := 4) scPart1.nd rfl (.inr rfl) (pe_call GR (hr.mono (by decide)) rfl gR kR bR .nil pass0 (by exact (pa_cons (pv 0) (pa_cons (pv 1) pa_nil)))))
      (pss_cons (ps_set (i := 5) scPart1.nd rfl (.inl rfl) (pe_callB (call_repr_row gd hr) (by rfl) B.repr (by decide +kernel) (by exact (pa_cons (pe_lst (pa_cons pe_str (pa_cons (pv 2) (pa_cons pe_bl pa_nil)))) pa_nil))))
      (pss_cons (ps_set (i := 6) scPart1.nd rfl (.inl rfl) (pe_lst (by exact (pa_cons (told_in kit TB gd hr hmT hu (by rfl) (by decide +kernel) (fun A1 o1 s1 H1 E f1 c1 hr1 => by exact (pe_listG (E := Just CL CC CM E) (pgen_call G4 (hr1.mono (by decide)) rfl g4 k4 b4 .nil (pa_cons (pv 2) (pa_cons (pv 3) pa_nil))) (passes_call (takes_of rfl rfl rfl rfl) (fun _ _ _ _ h => h.1)) kit.ns.just (hr1.mono (by decide)) (by rfl) B.list (by decide +kernel)))) pa_nil))))
      (pss_cons (ps_expr (pe_bm PySem.F.plainAttrs_list PySem.F.slot_list_append PySem.F.type_list_append mt_append (pv 6) (by exact (pa_cons (told_in kit TB gd hr hmT hu (by rfl) (by decide +kernel) (fun A1 o1 s1 H1 E f1 c1 hr1 => by exact (pe_call G5 (hr1.mono (by decide)) rfl g5 k5 b5 .nil (passes_call (takes_of rfl rfl rfl rfl) (fun _ _ _ _ h => h)) (by exact (pa_cons (pv 2) (pa_cons (pv 3) pa_nil)))))) pa_nil))))
      (pss_cons (ps_expr (pe_bm PySem.F.plainAttrs_list PySem.F.slot_list_append PySem.F.type_list_append mt_append (pv 6) (by exact (pa_cons (told_in kit TB gd hr hmT hu (by rfl) (by decide +kernel) (fun A1 o1 s1 H1 E f1 c1 hr1 => by exact (pe_call G6 (hr1.mono (by decide)) rfl g6 k6 b6 .nil (passes_call (takes_of rfl rfl rfl rfl) (fun _ _ _ _ h => h)) (by exact (pa_cons (pv 2) (pa_cons (pv 3) pa_nil)))))) pa_nil))))
      (pss_cons (ps_expr (pe_bm PySem.F.plainAttrs_list PySem.F.slot_list_append PySem.F.type_list_append mt_append (pv 6) (by exact (pa_cons (told_in kit TB gd hr hmT hu (by rfl) (by decide +kernel) (fun A1 o1 s1 H1 E f1 c1 hr1 => by exact (pe_call G7 (hr1.mono (by decide)) rfl g7 k7 b7 .nil (passes_call (takes_of rfl rfl rfl rfl) (fun _ _ _ _ h => h)) (by exact (pa_cons (pv 2) (pa_cons (pv 4) pa_nil)))))) pa_nil))))
      (pss_cons (ps_expr (pe_bm PySem.F.plainAttrs_list PySem.F.slot_list_append PySem.F.type_list_append mt_append (pv 6) (by exact (pa_cons (told_in kit TB gd hr hmT hu (by rfl) (by decide +kernel) (fun A1 o1 s1 H1 E f1 c1 hr1 => by exact (pe_call G3 (hr1.mono (by decide)) rfl g3 k3 b3 .nil (passes_call (takes_of rfl rfl rfl rfl) (fun _ _ _ _ h => h)) (by exact (pa_cons (pv 2) (pa_cons (pv 4) (pa_cons pe_non pa_nil))))))) pa_nil))))
      (pss_cons (ps_expr (pe_bm PySem.F.plainAttrs_list PySem.F.slot_list_append PySem.F.type_list_append mt_append (pv 6) (by exact (pa_cons (told_in kit TB gd hr hmT hu (by rfl) (by decide +kernel) (fun A1 o1 s1 H1 E f1 c1 hr1 => by exact (pe_call G2 (hr1.mono (by decide)) rfl g2 k2 b2 .nil (passes_call (takes_of rfl rfl rfl rfl) (fun _ _ _ _ h => h)) (by exact (pa_cons (pv 2) (pa_cons (pv 1) pa_nil)))))) pa_nil))))
      (pss_cons (ps_expr (pe_bm PySem.F.plainAttrs_list PySem.F.slot_list_append PySem.F.type_list_append mt_append (pv 6) (by exact (pa_cons (told_in kit TB gd hr hmT hu (by rfl) (by decide +kernel) (fun A1 o1 s1 H1 E f1 c1 hr1 => by exact (pe_listG (E := Just CL CC CM E) (pgen_callK0 G4 (hr1.mono (by decide)) rfl g4 k4 kb4 (pk_cons pe_int (pk_cons (pv 2) pk_nil))) (passes_call (takes_of rfl rfl rfl rfl) (fun _ _ _ _ h => h.1)) kit.ns.just (hr1.mono (by decide)) (by rfl) B.list (by decide +kernel)))) pa_nil))))
      (pss_cons (ps_expr (pe_bm PySem.F.plainAttrs_list PySem.F.slot_list_append PySem.F.type_list_append mt_append (pv 6) (by exact (pa_cons (told_in kit TB gd hr hmT hu (by rfl) (by decide +kernel) (fun A1 o1 s1 H1 E f1 c1 hr1 => by exact (pe_callK0 G2 (hr1.mono (by decide)) rfl g2 k2 kb2 (passes_call (takes_of rfl rfl rfl rfl) (fun _ _ _ _ h => h)) (pk_cons (pv 1) (pk_cons (pv 2) pk_nil))))) pa_nil))))
      (pss_cons (ps_set (i := 7) scPart1.nd rfl (.inl rfl) (pe_lst (by exact (pa_cons (pe_callK0 G1 (hr.mono (by decide)) rfl g1 k1 kb1 pass0 (pk_cons (pv 2) pk_nil)) (pa_cons (pe_call G1 (hr.mono (by decide)) rfl g1 k1 b1 .nil pass0 (pa_cons (pv 1) pa_nil)) pa_nil)))))
      (pss_one (ps_ret (pe_and (pe_cmpR (op_eqD hu64) (pv 6) (pe_op op_rep (pe_lst (pa_cons (pv 5) pa_nil)) pe_int) (nomark _))
        (pe_one (pe_cmpR op_eq (pe_callB (call_repr_row gd hr) (by rfl) B.repr (by decide +kernel) (pa_cons (pv 7) pa_nil)) pe_str (nomark _))))))))))))))))), ?_⟩
    refine ⟨_, rfl, p, rfl, hp, fun v1 z1 H1 m1 i1 b1 hp1 => ?_⟩
    refine ⟨_, rfl, p, rfl, hp1, fun v2 z2 H2 m2 i2 b2 hp2 => ?_⟩
    refine ⟨by show 2 ≤ sizeLine; decide, fun tp nt => ⟨tp, _, rfl, .inl (.inl upd_same), rfl, _, _, rfl, _, _, rfl, rfl, ?_⟩⟩
    have s3 := Same.new' (o := .tup [v1, v2]) (Same.refl H2) nt
    refine ⟨_, rfl, _, rfl, p, L, rfl, hL, Pot.same hp2 s3, fun v3 z3 H4 m3 i3 b4 hp4 => ?_⟩
    obtain ⟨f1a, f1b, f1c⟩ := fits_s z1 m1
    obtain ⟨f2a, f2b, f2c⟩ := fits_c z2 m2
    obtain ⟨f3a, f3b, f3c⟩ := fits_r L hL z3 m3
    refine ⟨_, rfl, by show 3 ≤ sizeLine; decide, fun l nl => ?_⟩
    have s5 := Same.new' (o := .lst [V.str "letters", v1, V.bl true]) (Same.refl H4) nl
    have e25 : ExtP p H2 (upd H4 l (.lst [V.str "letters", v1, V.bl true])) := ExtP.of_but (((But.of s3).trans b4).trans (But.of s5))
    have i1' := e25.item ((ExtP.of_but b2).item i1)
    have i2' := e25.item i2
    have i3' := (ExtP.of_but (But.of s5)).item i3
    have eB : ExtP p H (upd H4 l (.lst [V.str "letters", v1, V.bl true])) := ((ExtP.of_but b1).trans (ExtP.of_but b2)).trans e25
    have tB := tabs_of s5 (tabs_but (Pot.same hp2 s3) b4 (tabs_of s3 (tabs_but hp1 b2 (tabs_but hp b1 hT))))
    have hpB := Pot.same hp4 s5
    have hl : upd H4 l (.lst [V.str "letters", v1, V.bl true]) l = some (.lst [V.str "letters", v1, V.bl true]) := upd_same
    generalize upd H4 l (.lst [V.str "letters", v1, V.bl true]) = HB at *
    have lf1 : lettersV v1 = false := i1'.letters.trans f1a
    refine ⟨p, l, _, _, rfl, hl, .cons (.flat (.str _)) (.cons i1' (.cons (.flat (.bl true)) .nil)), f1c, ?_⟩
    refine tells_l tB i1' f1c (fun H6 e6 t6 => ?_) (fun E2 H2' Q2 e2 er => ?_)
    rotate_left
    · exact ⟨_, rfl, _, rfl, v1, v2, rfl, (i1'.extN e2).kind, (i1'.extN e2).short f1b, (i2'.extN e2).kind, (i2'.extN e2).short f2b, .inl ⟨lf1, er.just (.inl rfl)⟩⟩
    refine ⟨by show 1 ≤ sizeLine; decide, fun D nD => ?_⟩
    have R := Run.one (p := p) (due := tellS "letters" z1) (ExtN.refl H6) t6 nD nD
    have j1 : ∀ H', ExtN H6 H' → Item p H' v1 z1 := fun H' e => (i1'.extN e6).extN e
    have j2 : ∀ H', ExtN H6 H' → Item p H' v2 z2 := fun H' e => (i2'.extN e6).extN e
    have j3 : ∀ H', ExtN H6 H' → Item p H' v3 z3 := fun H' e => (i3'.extN e6).extN e
    have tail : ∀ H' : Hp, Run T p H6 D 8 (tellS "letters" z1) H' → True := fun _ _ => True.intro
    refine Run.append (due := tellS "letters" z1) rfl R (by decide) (fun Q2 q2 => tells_l R.tabs (j1 _ R.ext) f1c q2 fun E2 H2' Q3 e2 er => by exact ⟨_, rfl, _, rfl, v1, v2, rfl, (j1 _ (R.ext.trans e2)).kind, (j1 _ (R.ext.trans e2)).short f1b, (j2 _ (R.ext.trans e2)).kind, (j2 _ (R.ext.trans e2)).short f2b, .inl ⟨lf1, er⟩⟩) (fun H11 R1 => ?_)
    refine Run.append (due := tellS "letters" z1) rfl R1 (by decide) (fun Q2 q2 => tells_l R1.tabs (j1 _ R1.ext) f1c q2 fun E2 H2' Q3 e2 er => by exact ⟨_, rfl, _, rfl, v1, v2, rfl, (j1 _ (R1.ext.trans e2)).kind, (j1 _ (R1.ext.trans e2)).short f1b, (j2 _ (R1.ext.trans e2)).kind, (j2 _ (R1.ext.trans e2)).short f2b, .inl ⟨lf1, er⟩⟩) (fun H12 R2 => ?_)
    refine Run.append (due := tellS "letters" z1) rfl R2 (by decide) (fun Q2 q2 => tells_l R2.tabs (j1 _ R2.ext) f1c q2 fun E2 H2' Q3 e2 er => by exact ⟨_, rfl, _, rfl, v1, v3, rfl, (j1 _ (R2.ext.trans e2)).kind, (j1 _ (R2.ext.trans e2)).short f1b, (j3 _ (R2.ext.trans e2)).kind, (j3 _ (R2.ext.trans e2)).short f3b, .inl ⟨lf1, er⟩⟩) (fun H13 R3 => ?_)
    refine Run.append (due := tellS "letters" z1) rfl R3 (by decide) (fun Q2 q2 => tells_l R3.tabs (j1 _ R3.ext) f1c q2 fun E2 H2' Q3 e2 er => by exact ⟨_, rfl, _, rfl, v1, v3, .non, rfl, (j1 _ (R3.ext.trans e2)).kind, (j1 _ (R3.ext.trans e2)).short f1b, (j3 _ (R3.ext.trans e2)).kind, (j3 _ (R3.ext.trans e2)).short f3b, kind_non, short_non, .inl ⟨lf1, er⟩⟩) (fun H14 R4 => ?_)
    refine Run.append (due := tellS "letters" z1) rfl R4 (by decide) (fun Q2 q2 => tells_l R4.tabs (j1 _ R4.ext) f1c q2 fun E2 H2' Q3 e2 er => by exact ⟨_, rfl, _, rfl, v1, .str L, rfl, (j1 _ (R4.ext.trans e2)).kind, (j1 _ (R4.ext.trans e2)).short f1b, kind_str L, short_lets hL, .inl ⟨lf1, er⟩⟩) (fun H15 R5 => ?_)
    refine Run.append (due := tellS "letters" z1) rfl R5 (by decide) (fun Q2 q2 => tells_l R5.tabs (j1 _ R5.ext) f1c q2 fun E2 H2' Q3 e2 er => by exact ⟨_, rfl, v1, .int 2, rfl, (j1 _ (R5.ext.trans e2)).kind, (j1 _ (R5.ext.trans e2)).short f1b, kind_int 2, short_int, .inl ⟨lf1, er.just (.inl rfl)⟩⟩) (fun H16 R6 => ?_)
    refine Run.append (due := tellS "letters" z1) rfl R6 (by decide) (fun Q2 q2 => tells_l R6.tabs (j1 _ R6.ext) f1c q2 fun E2 H2' Q3 e2 er => by exact ⟨_, rfl, _, rfl, v1, .str L, rfl, (j1 _ (R6.ext.trans e2)).kind, (j1 _ (R6.ext.trans e2)).short f1b, kind_str L, short_lets hL, .inl ⟨lf1, er⟩⟩) (fun H17 R7 => ?_)
    refine ⟨_, rfl, v1, rfl, (j1 _ R7.ext).kind, (j1 _ R7.ext).short f1b, fun Ha sa => ⟨_, rfl, .str L, rfl, kind_str L, short_lets hL, fun Hb sb => ⟨by show 2 ≤ sizeLine; decide, fun hh nh => ?_⟩⟩⟩
    rw [lf1, lets_ok L hL] at *
    have s1 := Same.new' (o := .lst [V.bl false, V.bl true]) (sa.trans sb) nh
    have at1 : upd Hb hh (.lst [V.bl false, V.bl true]) hh = some (.lst [V.bl false, V.bl true]) := upd_same
    generalize upd Hb hh (.lst [V.bl false, V.bl true]) = Hc at *
    refine ⟨_, rfl, _, rfl, by show 1 ≤ sizeLine; decide, fun a na => ⟨a, 8, _, rfl, rfl, upd_same, by decide, by decide, by show 1 * 8 ≤ sizeLine; decide, fun b nb => ?_⟩⟩
    have s2 := Same.new' (o := .lst [V.str (tellS "letters" z1)]) s1 na
    have s3' := Same.new' (o := .lst (List.replicate 8 (V.str (tellS "letters" z1)))) s2 nb
    refine eq_reps (n := 8) (due_s z1 m1) (s3' _ _ R7.at_) upd_same ⟨true, rfl, ?_⟩
    refine ⟨_, rfl, p, hh, _, [.bool false, .bool true], rfl, kp nb (kp na at1), .cons (.flat (.bl _)) (.cons (.flat (.bl _)) .nil), by decide +kernel, rfl, ?_⟩
    have e1 : decide (V.str (PyData.shown (.list [.bool false, .bool true])) = V.str "[False, True]") = true := by decide +kernel
    rw [e1]
    have eF := (eB.trans (ExtP.of_ext (e6.trans R7.ext))).trans (ExtP.of_ext (extN_of s3'))
    exact q _ eF (tabs_of s3' R7.tabs) ((hpB.extN (e6.trans R7.ext)).same s3')
end
end Lw
set_option Elab.async false
set_option linter.all false
set_option maxRecDepth 100000
set_option maxHeartbeats 4000000
namespace Lw
open PySem PySem.Spec PyProof.Rows L2 LamX
abbrev sPart2 : Stmt := topS 39
def part2N : List Str := ["_law_pot_here", "_law_signs_here", "_law_odd", "_law_good", "_law_due", "_law_told_here", "_law_here"]
theorem scPart2 : FnScope part2N ["_law_pot_here", "_law_signs_here"] (defScope sPart2) := ⟨rfl, rfl, rfl, by decide +kernel, rfl, by decide +kernel, by decide +kernel⟩
theorem lets_pos : ∀ L ∈ LETS, 0 < L.length ∧ L.length ≤ 100000 := by decide +kernel
section
variable {P : Program} {w : World} {K : PySem.W.Frag} {mg : Str → Option Value} {base : Heap}
theorem ok_part2 {f c Pt CL CR CC CM BE LE : Addr} {fd : FuncData} {T : List (Addr × Str)} (F : FunC K "_law_rows_right" "_law_rows_right" sPart2 f fd c) (kit : Kit P w K mg base CL CR CC CM BE LE) (TB : TabB base mg c Pt)
    (hmT : (Pt, ("_law_rows_right" : Str) ++ ".<locals>." ++ "<lambda>") ∈ T) (hu : ∀ p ∈ T, p.1 = Pt → p.2 = ("_law_rows_right" : Str) ++ ".<locals>." ++ "<lambda>") :
    FnG P w K mg base CX0 11 f fd ["_law_pot_here", "_law_signs_here"] (spPart T) := by
  obtain ⟨fR, fdR, GR, gR, kR, bR⟩ := kit.odr.ex
  obtain ⟨fP, fdP, GP, gP, kP, bP⟩ := kit.pickS.ex
  obtain ⟨fD, fdD, GD, gD, kD, bD⟩ := kit.draw.ex
  obtain ⟨f2, fd2, G2, g2, k2, b2, kb2⟩ := kit.isr.ex
  obtain ⟨f3, fd3, G3, g3, k3, b3, kb3⟩ := kit.ahd.ex
  obtain ⟨f7, fd7, G7, g7, k7, b7, kb7⟩ := kit.num.ex
  have B := kit.B
  refine fngc_of F scPart2 (fun vs H Q E h => ?_) (fun A outer s H vs Q E gd hr h => ?_)
  · obtain ⟨p, L, rfl, _⟩ := h
    rfl
  · obtain ⟨p, L, rfl, hL, hp, hT, q⟩ := h
    have hu64 : (A.deeper (envOfC "_law_rows_right" (defScope sPart2) s.heap.objs.size f (.ref c))).units + 64 < cLine := by
      have := hr.un
      omega
    refine ⟨_, pss_cons (ps_asg (pe_tup (by exact (pa_cons (pe_call GR (hr.mono (by decide)) rfl gR kR bR .nil pass0 (pa_cons (pv 0) (pa_cons (pv 1) pa_nil))) (pa_cons (pe_op op_mulS (pe_call GP (hr.mono (by decide)) rfl gP kP bP .nil pass0 (pa_cons (pv 0) (pa_cons (pv 1) pa_nil)))
          (pe_call GD (hr.mono (by decide)) rfl gD kD bD .nil pass0 (pa_cons (pv 0) (pa_cons pe_int pa_nil)))) pa_nil))))
        (pg_tup (by rfl) (pgs_cons (pg_name (i := 2) scPart2.nd rfl (.inr rfl)) (pgs_cons (pg_name (i := 3) scPart2.nd rfl (.inr rfl)) pgs_nil))))
      (pss_cons (ps_set (i := 4) scPart2.nd rfl (.inl rfl) (pe_callB (call_repr_row gd hr) (by rfl) B.repr (by decide +kernel) (by exact (pa_cons (pe_lst (pa_cons pe_str (pa_cons (pv 2) (pa_cons pe_bl pa_nil)))) pa_nil))))
      (pss_cons (ps_set (i := 5) scPart2.nd rfl (.inl rfl) (pe_lst (by exact (pa_cons (told_in kit TB gd hr hmT hu (by rfl) (by decide +kernel) (fun A1 o1 s1 H1 E f1 c1 hr1 => by exact (pe_call G7 (hr1.mono (by decide)) rfl g7 k7 b7 .nil (passes_call (takes_of rfl rfl rfl rfl) (fun _ _ _ _ h => h)) (by exact (pa_cons (pv 1) (pa_cons (pv 2) pa_nil)))))) pa_nil))))
      (pss_cons (ps_expr (pe_bm PySem.F.plainAttrs_list PySem.F.slot_list_append PySem.F.type_list_append mt_append (pv 5) (by exact (pa_cons (told_in kit TB gd hr hmT hu (by rfl) (by decide +kernel) (fun A1 o1 s1 H1 E f1 c1 hr1 => by exact (pe_call G3 (hr1.mono (by decide)) rfl g3 k3 b3 .nil (passes_call (takes_of rfl rfl rfl rfl) (fun _ _ _ _ h => h)) (by exact (pa_cons (pv 1) (pa_cons (pv 2) (pa_cons pe_non pa_nil))))))) pa_nil))))
      (pss_cons (ps_expr (pe_bm PySem.F.plainAttrs_list PySem.F.slot_list_append PySem.F.type_list_append mt_append (pv 5) (by exact (pa_cons (told_in kit TB gd hr hmT hu (by rfl) (by decide +kernel) (fun A1 o1 s1 H1 E f1 c1 hr1 => by exact (pe_call G3 (hr1.mono (by decide)) rfl g3 k3 b3 .nil (passes_call (takes_of rfl rfl rfl rfl) (fun _ _ _ _ h => h)) (by exact (pa_cons (pv 1) (pa_cons (pv 3) (pa_cons (pv 2) pa_nil))))))) pa_nil))))
      (pss_cons (ps_expr (pe_bm PySem.F.plainAttrs_list PySem.F.slot_list_append PySem.F.type_list_append mt_append (pv 5) (by exact (pa_cons (told_in kit TB gd hr hmT hu (by rfl) (by decide +kernel) (fun A1 o1 s1 H1 E f1 c1 hr1 => by exact (pe_callK0 G7 (hr1.mono (by decide)) rfl g7 k7 kb7 (passes_call (takes_of rfl rfl rfl rfl) (fun _ _ _ _ h => h)) (pk_cons (pv 2) (pk_cons (pv 1) pk_nil))))) pa_nil))))
      (pss_cons (ps_expr (pe_bm PySem.F.plainAttrs_list PySem.F.slot_list_append PySem.F.type_list_append mt_append (pv 5) (by exact (pa_cons (told_in kit TB gd hr hmT hu (by rfl) (by decide +kernel) (fun A1 o1 s1 H1 E f1 c1 hr1 => by exact (pe_callK G3 (hr1.mono (by decide)) rfl g3 k3 kb3 (passes_call (takes_of rfl rfl rfl rfl) (fun _ _ _ _ h => h)) (by exact (pa_cons (pv 1) pa_nil)) (by exact (pk_cons (pv 2) (pk_cons (pv 3) pk_nil)))))) pa_nil))))
      (pss_cons (ps_set (i := 6) scPart2.nd rfl (.inl rfl) (pe_lst (by exact (pa_cons (pe_callK0 G2 (hr.mono (by decide)) rfl g2 k2 kb2 (passes_call takes_none5 (fun _ _ _ _ h => h)) (pk_cons (pv 2) (pk_cons (pv 1) pk_nil))) (pa_cons (pe_call G2 (hr.mono (by decide)) rfl g2 k2 b2 .nil (passes_call takes_none5 (fun _ _ _ _ h => h)) (pa_cons (pv 1) (pa_cons (pv 3) pa_nil))) pa_nil)))))
      (pss_one (ps_ret (pe_and (pe_cmpR (op_eqD hu64) (pv 5) (pe_op op_rep (pe_lst (pa_cons (pv 4) pa_nil)) pe_int) (nomark _))
        (pe_one (pe_cmpR op_eq (pe_callB (call_repr_row gd hr) (by rfl) B.repr (by decide +kernel) (pa_cons (pv 6) pa_nil)) pe_str (nomark _))))))))))))), ?_⟩
    obtain ⟨lp, ll⟩ := lets_pos L hL
    refine ⟨_, rfl, _, rfl, p, L, rfl, hL, hp, fun v1 z1 H1 m1 i1 b1 hp1 => ?_⟩
    refine ⟨_, rfl, _, rfl, p, L, rfl, hp1, lp, ll, fun cc H2 hcc b2 hp2 => ?_⟩
    refine ⟨_, rfl, p, 4, rfl, hp2, by decide, by decide, fun d H3 d0 d1 b3 hp3 => ⟨cc, d.toNat, rfl, by rw [Int.toNat_of_nonneg d0], by omega, ?_⟩⟩
    refine ⟨by show 2 ≤ sizeLine; decide, fun tp nt => ⟨tp, _, rfl, .inl (.inl upd_same), rfl, _, _, rfl, _, _, rfl, rfl, ?_⟩⟩
    have s4 := Same.new' (o := .tup [v1, V.str (reps d.toNat cc)]) (Same.refl H3) nt
    obtain ⟨f1a, f1b, f1c⟩ := fits_r L hL z1 m1
    refine ⟨_, rfl, by show 3 ≤ sizeLine; decide, fun l nl => ?_⟩
    have s5 := Same.new' (o := .lst [V.str "row", v1, V.bl true]) s4 nl
    have b13 : But p H1 H3 := b2.trans b3
    have i1' := (ExtP.of_but (b13.trans (But.of s5))).item i1
    have eB : ExtP p H _ := ExtP.of_but ((b1.trans b13).trans (But.of s5))
    have tB := tabs_of s5 (tabs_but hp2 b3 (tabs_but hp1 b2 (tabs_but hp b1 hT)))
    have hpB := Pot.same hp3 s5
    have hl : upd (upd H3 tp (.tup [v1, V.str (reps d.toNat cc)])) l (.lst [V.str "row", v1, V.bl true]) l = some (.lst [V.str "row", v1, V.bl true]) := upd_same
    generalize upd (upd H3 tp (.tup [v1, V.str (reps d.toNat cc)])) l (.lst [V.str "row", v1, V.bl true]) = HB at *
    have of1 : overV L v1 = false := i1'.over.trans f1a
    have og : overV L (.str (reps d.toNat cc)) = true := reps_over hcc
    have sg : ShortV (.str (reps d.toNat cc)) := reps_short (by omega)
    refine ⟨p, l, _, _, rfl, hl, .cons (.flat (.str _)) (.cons i1' (.cons (.flat (.bl true)) .nil)), f1c, ?_⟩
    refine tells_r tB i1' f1c (fun H6 e6 t6 => ?_) (fun E2 H2' Q2 e2 er => ?_)
    rotate_left
    · exact ⟨_, rfl, _, rfl, .str L, v1, rfl, kind_str L, short_lets hL, (i1'.extN e2).kind, (i1'.extN e2).short f1b, .inr ⟨L, hL, rfl, .inl ⟨of1, er⟩⟩⟩
    refine ⟨by show 1 ≤ sizeLine; decide, fun D nD => ?_⟩
    have R := Run.one (p := p) (due := tellS "row" z1) (ExtN.refl H6) t6 nD nD
    have j1 : ∀ H', ExtN H6 H' → Item p H' v1 z1 := fun H' e => (i1'.extN e6).extN e
    refine Run.append (due := tellS "row" z1) rfl R (by decide) (fun Q2 q2 => tells_r R.tabs (j1 _ R.ext) f1c q2 fun E2 H2' Q3 e2 er => by exact ⟨_, rfl, _, rfl, .str L, v1, .non, rfl, kind_str L, short_lets hL, (j1 _ (R.ext.trans e2)).kind, (j1 _ (R.ext.trans e2)).short f1b, kind_non, short_non, .inr ⟨L, hL, rfl, .inl ⟨of1, er⟩⟩⟩) (fun H11 R1 => ?_)
    refine Run.append (due := tellS "row" z1) rfl R1 (by decide) (fun Q2 q2 => tells_r R1.tabs (j1 _ R1.ext) f1c q2 fun E2 H2' Q3 e2 er => by exact ⟨_, rfl, _, rfl, _, rfl, .str L, .str (reps d.toNat cc), v1, rfl, kind_str L, short_lets hL, kind_str _, sg, (j1 _ (R1.ext.trans e2)).kind, (j1 _ (R1.ext.trans e2)).short f1b, .inr ⟨L, hL, rfl, .inr ⟨og, of1, er⟩⟩⟩) (fun H12 R2 => ?_)
    refine Run.append (due := tellS "row" z1) rfl R2 (by decide) (fun Q2 q2 => tells_r R2.tabs (j1 _ R2.ext) f1c q2 fun E2 H2' Q3 e2 er => by exact ⟨_, rfl, _, rfl, .str L, v1, rfl, kind_str L, short_lets hL, (j1 _ (R2.ext.trans e2)).kind, (j1 _ (R2.ext.trans e2)).short f1b, .inr ⟨L, hL, rfl, .inl ⟨of1, er⟩⟩⟩) (fun H13 R3 => ?_)
    refine Run.append (due := tellS "row" z1) rfl R3 (by decide) (fun Q2 q2 => tells_r R3.tabs (j1 _ R3.ext) f1c q2 fun E2 H2' Q3 e2 er => by exact ⟨_, rfl, _, rfl, _, rfl, .str L, .str (reps d.toNat cc), v1, rfl, kind_str L, short_lets hL, kind_str _, sg, (j1 _ (R3.ext.trans e2)).kind, (j1 _ (R3.ext.trans e2)).short f1b, .inr ⟨L, hL, rfl, .inr ⟨og, of1, er⟩⟩⟩) (fun H14 R4 => ?_)
    refine ⟨_, rfl, _, rfl, .str L, v1, rfl, kind_str L, short_lets hL, (j1 _ R4.ext).kind, (j1 _ R4.ext).short f1b, .inr ⟨L, hL, rfl, fun Ha sa => ⟨_, rfl, _, rfl, .str L, .str (reps d.toNat cc), rfl, kind_str L, short_lets hL, kind_str _, sg, .inr ⟨L, hL, rfl, fun Hb sb => ⟨by show 2 ≤ sizeLine; decide, fun hh nh => ?_⟩⟩⟩⟩⟩
    rw [of1, og] at *
    have s1 := Same.new' (o := .lst [V.bl false, V.bl true]) (sa.trans sb) nh
    have at1 : upd Hb hh (.lst [V.bl false, V.bl true]) hh = some (.lst [V.bl false, V.bl true]) := upd_same
    generalize upd Hb hh (.lst [V.bl false, V.bl true]) = Hc at *
    refine ⟨_, rfl, _, rfl, by show 1 ≤ sizeLine; decide, fun a na => ⟨a, 5, _, rfl, rfl, upd_same, by decide, by decide, by show 1 * 5 ≤ sizeLine; decide, fun b nb => ?_⟩⟩
    have s2 := Same.new' (o := .lst [V.str (tellS "row" z1)]) s1 na
    have s3' := Same.new' (o := .lst (List.replicate 5 (V.str (tellS "row" z1)))) s2 nb
    refine eq_reps (n := 5) (due_r L hL z1 m1) (s3' _ _ R4.at_) upd_same ⟨true, rfl, ?_⟩
    refine ⟨_, rfl, p, hh, _, [.bool false, .bool true], rfl, kp nb (kp na at1), .cons (.flat (.bl _)) (.cons (.flat (.bl _)) .nil), by decide +kernel, rfl, ?_⟩
    have e1 : decide (V.str (PyData.shown (.list [.bool false, .bool true])) = V.str "[False, True]") = true := by decide +kernel
    rw [e1]
    have eF := (eB.trans (ExtP.of_ext (e6.trans R4.ext))).trans (ExtP.of_ext (extN_of s3'))
    exact q _ eF (tabs_of s3' R4.tabs) ((hpB.extN (e6.trans R4.ext)).same s3')
end
end Lw
set_option Elab.async false
set_option linter.all false
set_option maxRecDepth 100000
set_option maxHeartbeats 4000000
namespace Lw
open PySem PySem.Spec PyProof.Rows L2 LamX
abbrev sPart3 : Stmt := topS 40
def part3N : List Str := ["_law_pot_here", "_law_signs_here", "_law_odd", "_law_great", "_law_due", "_law_told_here", "_law_last"]
theorem scPart3 : FnScope part3N ["_law_pot_here", "_law_signs_here"] (defScope sPart3) := ⟨rfl, rfl, rfl, by decide +kernel, rfl, by decide +kernel, by decide +kernel⟩
theorem lets_last : ∀ L ∈ LETS, ∃ c, atI L.cps.toList (-1) = some c ∧ c ∈ L.cps.toList := by
  have h : ∀ L ∈ LETS, atI L.cps.toList (-1) = some (L.cps.toList.getD (L.length - 1) 0) ∧ L.cps.toList.getD (L.length - 1) 0 ∈ L.cps.toList := by decide +kernel
  exact fun L hL => ⟨_, h L hL⟩
theorem a_lets : ("a" : Str) ∈ LETS := by decide +kernel
theorem upTo_one : ∀ k, upTo 1 k = k + 1
  | 0 => rfl
  | k + 1 => by rw [upTo, upTo_one k]; omega
section
variable {P : Program} {w : World} {K : PySem.W.Frag} {mg : Str → Option Value} {base : Heap}
theorem ok_part3 {f c Pt CL CR CC CM BE LE : Addr} {fd : FuncData} {T : List (Addr × Str)} (F : FunC K "_law_counts_right" "_law_counts_right" sPart3 f fd c) (kit : Kit P w K mg base CL CR CC CM BE LE) (TB : TabB base mg c Pt)
    (hmT : (Pt, ("_law_counts_right" : Str) ++ ".<locals>." ++ "<lambda>") ∈ T) (hu : ∀ p ∈ T, p.1 = Pt → p.2 = ("_law_counts_right" : Str) ++ ".<locals>." ++ "<lambda>") :
    FnG P w K mg base CX0 11 f fd ["_law_pot_here", "_law_signs_here"] (spPart T) := by
  obtain ⟨fC, fdC, GC, gC, kC, bC⟩ := kit.odc.ex
  obtain ⟨fP, fdP, GP, gP, kP, bP⟩ := kit.pick.ex
  obtain ⟨f4, fd4, G4, g4, k4, b4, kb4⟩ := kit.rws.ex
  obtain ⟨f5, fd5, G5, g5, k5, b5, kb5⟩ := kit.mny.ex
  obtain ⟨f6, fd6, G6, g6, k6, b6, kb6⟩ := kit.rat.ex
  obtain ⟨f7, fd7, G7, g7, k7, b7, kb7⟩ := kit.num.ex
  have B := kit.B
  refine fngc_of F scPart3 (fun vs H Q E h => ?_) (fun A outer s H vs Q E gd hr h => ?_)
  · obtain ⟨p, L, rfl, _⟩ := h
    rfl
  · obtain ⟨p, L, rfl, hL, hp, hT, q⟩ := h
    have hu64 : (A.deeper (envOfC "_law_counts_right" (defScope sPart3) s.heap.objs.size f (.ref c))).units + 64 < cLine := by
      have := hr.un
      omega
    refine ⟨_, pss_cons (ps_set (i := 2) scPart3.nd rfl (.inr rfl) (pe_call GC (hr.mono (by decide)) rfl gC kC bC .nil pass0 (by exact (pa_cons (pv 0) pa_nil))))
      (pss_cons (ps_set (i := 4) scPart3.nd rfl (.inl rfl) (pe_callB (call_repr_row gd hr) (by rfl) B.repr (by decide +kernel) (by exact (pa_cons (pe_lst (pa_cons pe_str (pa_cons (pv 2) (pa_cons pe_bl pa_nil)))) pa_nil))))
      (pss_cons (ps_set (i := 5) scPart3.nd rfl (.inl rfl) (pe_lst (by exact (pa_cons (told_in kit TB gd hr hmT hu (by rfl) (by decide +kernel) (fun A1 o1 s1 H1 E f1 c1 hr1 => by exact (pe_listG (E := Just CL CC CM E) (pgen_call G4 (hr1.mono (by decide)) rfl g4 k4 b4 .nil (pa_cons (pv 1) (pa_cons (pv 2) pa_nil))) (passes_call (takes_of rfl rfl rfl rfl) (fun _ _ _ _ h => h.1)) kit.ns.just (hr1.mono (by decide)) (by rfl) B.list (by decide +kernel)))) pa_nil))))
      (pss_cons (ps_expr (pe_bm PySem.F.plainAttrs_list PySem.F.slot_list_append PySem.F.type_list_append mt_append (pv 5) (by exact (pa_cons (told_in kit TB gd hr hmT hu (by rfl) (by decide +kernel) (fun A1 o1 s1 H1 E f1 c1 hr1 => by exact (pe_call G5 (hr1.mono (by decide)) rfl g5 k5 b5 .nil (passes_call (takes_of rfl rfl rfl rfl) (fun _ _ _ _ h => h)) (by exact (pa_cons (pv 1) (pa_cons (pv 2) pa_nil)))))) pa_nil))))
      (pss_cons (ps_expr (pe_bm PySem.F.plainAttrs_list PySem.F.slot_list_append PySem.F.type_list_append mt_append (pv 5) (by exact (pa_cons (told_in kit TB gd hr hmT hu (by rfl) (by decide +kernel) (fun A1 o1 s1 H1 E f1 c1 hr1 => by exact (pe_call G6 (hr1.mono (by decide)) rfl g6 k6 b6 .nil (passes_call (takes_of rfl rfl rfl rfl) (fun _ _ _ _ h => h)) (by exact (pa_cons (pv 1) (pa_cons (pv 2) pa_nil)))))) pa_nil))))
      (pss_cons (ps_expr (pe_bm PySem.F.plainAttrs_list PySem.F.slot_list_append PySem.F.type_list_append mt_append (pv 5) (by exact (pa_cons (told_in kit TB gd hr hmT hu (by rfl) (by decide +kernel) (fun A1 o1 s1 H1 E f1 c1 hr1 => by exact (pe_callK0 G6 (hr1.mono (by decide)) rfl g6 k6 kb6 (passes_call (takes_of rfl rfl rfl rfl) (fun _ _ _ _ h => h)) (pk_cons (pv 2) (pk_cons (pv 1) pk_nil))))) pa_nil))))
      (pss_cons (ps_expr (pe_bm PySem.F.plainAttrs_list PySem.F.slot_list_append PySem.F.type_list_append mt_append (pv 5) (by exact (pa_cons (told_in kit TB gd hr hmT hu (by rfl) (by decide +kernel) (fun A1 o1 s1 H1 E f1 c1 hr1 => by exact (pe_callK0 G5 (hr1.mono (by decide)) rfl g5 k5 kb5 (passes_call (takes_of rfl rfl rfl rfl) (fun _ _ _ _ h => h)) (pk_cons (pv 2) (pk_cons (pv 1) pk_nil))))) pa_nil))))
      (pss_cons (ps_if (pt_cmpR (op_neD hu64) (pv 5) (pe_op op_rep (pe_lst (pa_cons (pv 4) pa_nil)) pe_int) (nomark _)) (pss_one (ps_ret pe_bl)) pss_nil)
      (pss_cons (ps_set (i := 4) scPart3.nd rfl (.inl rfl) (pe_callB (call_repr_row gd hr) (by rfl) B.repr (by decide +kernel) (by exact (pa_cons (pe_lst (pa_cons pe_str (pa_cons (pe_lst (pa_cons pe_str (pa_cons pe_int pa_nil))) (pa_cons pe_bl pa_nil)))) pa_nil))))
      (pss_cons (ps_set (i := 3) scPart3.nd rfl (.inr rfl) (pe_call GP (hr.mono (by decide)) rfl gP kP bP .nil pass0 (by exact (pa_cons (pv 0) (pa_cons (pe_lst (pa_cons pe_int (pa_cons pe_int (pa_cons (pe_op op_pow pe_int pe_int) (pa_cons (pe_op op_pow pe_int pe_int) pa_nil))))) pa_nil)))))
      (pss_cons (ps_set (i := 5) scPart3.nd rfl (.inl rfl) (pe_lst (by exact (pa_cons (told_in kit TB gd hr hmT hu (by rfl) (by decide +kernel) (fun A1 o1 s1 H1 E f1 c1 hr1 => by exact (pe_listG (E := Just CL CC CM E) (pgen_call G4 (hr1.mono (by decide)) rfl g4 k4 b4 .nil (pa_cons (pv 1) (pa_cons (pv 3) pa_nil))) (passes_call (takes_of rfl rfl rfl rfl) (fun _ _ _ _ h => h.1)) kit.ns.just (hr1.mono (by decide)) (by rfl) B.list (by decide +kernel)))) pa_nil))))
      (pss_cons (ps_expr (pe_bm PySem.F.plainAttrs_list PySem.F.slot_list_append PySem.F.type_list_append mt_append (pv 5) (by exact (pa_cons (told_in kit TB gd hr hmT hu (by rfl) (by decide +kernel) (fun A1 o1 s1 H1 E f1 c1 hr1 => by exact (pe_call G5 (hr1.mono (by decide)) rfl g5 k5 b5 .nil (passes_call (takes_of rfl rfl rfl rfl) (fun _ _ _ _ h => h)) (by exact (pa_cons (pv 1) (pa_cons (pv 3) pa_nil)))))) pa_nil))))
      (pss_cons (ps_expr (pe_bm PySem.F.plainAttrs_list PySem.F.slot_list_append PySem.F.type_list_append mt_append (pv 5) (by exact (pa_cons (told_in kit TB gd hr hmT hu (by rfl) (by decide +kernel) (fun A1 o1 s1 H1 E f1 c1 hr1 => by exact (pe_call G6 (hr1.mono (by decide)) rfl g6 k6 b6 .nil (passes_call (takes_of rfl rfl rfl rfl) (fun _ _ _ _ h => h)) (by exact (pa_cons (pv 1) (pa_cons (pe_call G5 (hr1.mono (by decide)) rfl g5 k5 b5 .nil (passes_call (takes_of rfl rfl rfl rfl) (fun _ _ _ _ h => h)) (by exact (pa_cons (pv 1) (pa_cons pe_int pa_nil)))) pa_nil)))))) pa_nil))))
      (pss_cons (ps_expr (pe_bm PySem.F.plainAttrs_list PySem.F.slot_list_append PySem.F.type_list_append mt_append (pv 5) (by exact (pa_cons (told_in kit TB gd hr hmT hu (by rfl) (by decide +kernel) (fun A1 o1 s1 H1 E f1 c1 hr1 => by exact (pe_call G6 (hr1.mono (by decide)) rfl g6 k6 b6 .nil (passes_call (takes_of rfl rfl rfl rfl) (fun _ _ _ _ h => h)) (by exact (pa_cons pe_str (pa_cons (pv 3) pa_nil)))))) pa_nil))))
      (pss_cons (ps_set (i := 6) scPart3.nd rfl (.inl rfl) (pe_op op_mulS (pe_ix ix_str (pv 1) (pe_un un_neg pe_int) (fun _ _ => rfl)) pe_int))
      (pss_one (ps_ret (pe_and (pe_cmpR (op_eqD hu64) (pv 5) (pe_op op_rep (pe_lst (pa_cons (pv 4) pa_nil)) pe_int) (nomark _))
        (pe_one (pe_cmpR op_eq (pe_call G6 (hr.mono (by decide)) rfl g6 k6 b6 .nil (passes_call takes_none5 (fun _ _ _ _ h => h)) (by exact (pa_cons (pv 1) (pa_cons (pe_call G7 (hr.mono (by decide)) rfl g7 k7 b7 .nil (passes_call takes_none5 (fun _ _ _ _ h => h)) (by exact (pa_cons (pv 1) (pa_cons (pv 6) pa_nil)))) pa_nil)))) (pv 6) (nomark _)))))))))))))))))))), ?_⟩
    obtain ⟨cc, hat, hcc⟩ := lets_last L hL
    have hl4 := (lets_len L hL).2
    refine ⟨_, rfl, p, rfl, hp, fun v1 z1 H1 m1 i1 b1 hp1 => ?_⟩
    obtain ⟨f1a, f1b, f1c⟩ := fits_c z1 m1
    refine ⟨_, rfl, by show 3 ≤ sizeLine; decide, fun l nl => ?_⟩
    have s5 := Same.new' (o := .lst [V.str "count", v1, V.bl true]) (Same.refl H1) nl
    have i1' := (ExtP.of_but (But.of s5)).item i1
    have eB : ExtP p H _ := ExtP.of_but (b1.trans (But.of s5))
    have tB := tabs_of s5 (tabs_but hp b1 hT)
    have hpB := Pot.same hp1 s5
    have hl : upd H1 l (.lst [V.str "count", v1, V.bl true]) l = some (.lst [V.str "count", v1, V.bl true]) := upd_same
    generalize upd H1 l (.lst [V.str "count", v1, V.bl true]) = HB at *
    have cf1 : countV v1 = false := i1'.count.trans f1a
    refine ⟨p, l, _, _, rfl, hl, .cons (.flat (.str _)) (.cons i1' (.cons (.flat (.bl true)) .nil)), f1c, ?_⟩
    refine tells_c tB i1' f1c (fun H6 e6 t6 => ?_) (fun E2 H2' Q2 e2 er => ?_)
    rotate_left
    · exact ⟨_, rfl, _, rfl, .str L, v1, rfl, kind_str L, short_lets hL, (i1'.extN e2).kind, (i1'.extN e2).short f1b, .inr ⟨L, hL, rfl, .inl ⟨cf1, er.just (.inr (.inl rfl))⟩⟩⟩
    refine ⟨by show 1 ≤ sizeLine; decide, fun D nD => ?_⟩
    have R := Run.one (p := p) (due := tellS "count" z1) (ExtN.refl H6) t6 nD nD
    have j1 : ∀ H', ExtN H6 H' → Item p H' v1 z1 := fun H' e => (i1'.extN e6).extN e
    refine Run.append (due := tellS "count" z1) rfl R (by decide) (fun Q2 q2 => tells_c R.tabs (j1 _ R.ext) f1c q2 fun E2 H2' Q3 e2 er => by exact ⟨_, rfl, _, rfl, .str L, v1, rfl, kind_str L, short_lets hL, (j1 _ (R.ext.trans e2)).kind, (j1 _ (R.ext.trans e2)).short f1b, .inr ⟨L, hL, rfl, .inl ⟨cf1, er⟩⟩⟩) (fun H11 R1 => ?_)
    refine Run.append (due := tellS "count" z1) rfl R1 (by decide) (fun Q2 q2 => tells_c R1.tabs (j1 _ R1.ext) f1c q2 fun E2 H2' Q3 e2 er => by exact ⟨_, rfl, _, rfl, .str L, v1, rfl, kind_str L, short_lets hL, (j1 _ (R1.ext.trans e2)).kind, (j1 _ (R1.ext.trans e2)).short f1b, .inr ⟨L, hL, rfl, .inl ⟨cf1, er⟩⟩⟩) (fun H12 R2 => ?_)
    refine Run.append (due := tellS "count" z1) rfl R2 (by decide) (fun Q2 q2 => tells_c R2.tabs (j1 _ R2.ext) f1c q2 fun E2 H2' Q3 e2 er => by exact ⟨_, rfl, _, rfl, .str L, v1, rfl, kind_str L, short_lets hL, (j1 _ (R2.ext.trans e2)).kind, (j1 _ (R2.ext.trans e2)).short f1b, .inr ⟨L, hL, rfl, .inl ⟨cf1, er⟩⟩⟩) (fun H13 R3 => ?_)
    refine Run.append (due := tellS "count" z1) rfl R3 (by decide) (fun Q2 q2 => tells_c R3.tabs (j1 _ R3.ext) f1c q2 fun E2 H2' Q3 e2 er => by exact ⟨_, rfl, _, rfl, .str L, v1, rfl, kind_str L, short_lets hL, (j1 _ (R3.ext.trans e2)).kind, (j1 _ (R3.ext.trans e2)).short f1b, .inr ⟨L, hL, rfl, .inl ⟨cf1, er⟩⟩⟩) (fun H14 R4 => ?_)
    refine ⟨_, rfl, _, rfl, by show 1 ≤ sizeLine; decide, fun a na => ⟨a, 5, _, rfl, rfl, upd_same, by decide, by decide, by show 1 * 5 ≤ sizeLine; decide, fun b nb => ?_⟩⟩
    have s2 := Same.new' (o := .lst [V.str (tellS "count" z1)]) (Same.refl H14) na
    have s3 := Same.new' (o := .lst (List.replicate 5 (V.str (tellS "count" z1)))) s2 nb
    refine ne_reps (n := 5) (due_c z1 m1) (s3 _ _ R4.at_) upd_same ⟨false, rfl, ?_⟩
    refine iteF ?_
    have eC := (eB.trans (ExtP.of_ext (e6.trans R4.ext))).trans (ExtP.of_ext (extN_of s3))
    have tC := tabs_of s3 R4.tabs
    have hpC := (hpB.extN (e6.trans R4.ext)).same s3
    refine ⟨by show 2 ≤ sizeLine; decide, fun l1 n1 => ⟨by show 3 ≤ sizeLine; decide, fun l2 n2 => ⟨l1 + 1, l2, _, [.str "many", .list [.str "letters", .int 200], .bool true], rfl, upd_same,
      .cons (.flat (.str _)) (.cons (.lst (kp n2 upd_same) (Nat.ne_of_lt (Nat.lt_succ_self _)) (.cons (.str _) (.cons (.int _) .nil))) (.cons (.flat (.bl true)) .nil)), by decide +kernel, ?_⟩⟩⟩
    have u1 := Same.new' (o := .lst [V.str "letters", V.int 200]) (Same.refl _) n1
    have u2 := Same.new' (o := .lst [V.str "many", V.ref l1, V.bl true]) u1 n2
    refine ⟨_, rfl, 10, 9, rfl, rfl, by unfold CPow; decide, 10, 29, rfl, rfl, by unfold CPow; decide, by show 4 ≤ sizeLine; decide, fun l3 n3 => ?_⟩
    have u3 := Same.new' (o := .lst [V.int 201, V.int 202, V.int (10 ^ (9 : Int).toNat), V.int (10 ^ (29 : Int).toNat)]) u2 n3
    refine ⟨p, l3, _, rfl, Pot.same hpC u3, pot_off hpC u2 n3, .inl (.inl upd_same), by show 0 < 4; decide, by show 4 ≤ 100000; decide, fun vg HG hvg bg hpg => ?_⟩
    obtain ⟨i, rfl, hi⟩ : ∃ i, vg = V.int i ∧ 201 ≤ i := by
      simp only [List.mem_cons, List.not_mem_nil, or_false] at hvg
      rcases hvg with rfl | rfl | rfl | rfl
      · exact ⟨_, rfl, by decide⟩
      · exact ⟨_, rfl, by decide⟩
      · exact ⟨_, rfl, by decide⟩
      · exact ⟨_, rfl, by decide⟩
    have eG := eC.trans (ExtP.of_but ((But.of u3).trans bg))
    have tG := tabs_but (Pot.same hpC u3) bg (tabs_of u3 tC)
    refine tells_m tG (fun H20 e20 t20 => ?_) (fun E2 H2' Q2 e2 er => ?_)
    rotate_left
    · exact ⟨_, rfl, _, rfl, .str L, .int i, rfl, kind_str L, short_lets hL, kind_int i, short_int, .inr ⟨L, hL, rfl, .inr (.inl ⟨i, rfl, by omega, er.just⟩)⟩⟩
    refine ⟨by show 1 ≤ sizeLine; decide, fun D2 nD2 => ?_⟩
    have S := Run.one (p := p) (due := tellM) (ExtN.refl H20) t20 nD2 nD2
    refine Run.append (due := tellM) rfl S (by decide) (fun Q2 q2 => tells_m S.tabs q2 fun E2 H2' Q3 e2 er => by exact ⟨_, rfl, _, rfl, .str L, .int i, rfl, kind_str L, short_lets hL, kind_int i, short_int, .inr ⟨L, hL, rfl, .inr (.inl ⟨i, rfl, by omega, er⟩)⟩⟩) (fun H21 S1 => ?_)
    refine Run.append (due := tellM) rfl S1 (by decide) (fun Q2 q2 => tells_m S1.tabs q2 fun E2 H2' Q3 e2 er => by exact ⟨_, rfl, _, rfl, .str L, .int 200, rfl, kind_str L, short_lets hL, kind_int 200, short_int, .inr ⟨L, hL, rfl, .inr (.inr ⟨200, rfl, by omega, fun Ha sa =>
      ⟨.str L, .int _, rfl, kind_str L, short_lets hL, kind_int _, short_int, .inr ⟨L, hL, rfl, .inr (.inl ⟨_, rfl, Int.le_refl _, er.on sa⟩)⟩⟩⟩)⟩⟩) (fun H22 S2 => ?_)
    refine Run.append (due := tellM) rfl S2 (by decide) (fun Q2 q2 => tells_m S2.tabs q2 fun E2 H2' Q3 e2 er => by exact ⟨_, rfl, .str "a", .int i, rfl, kind_str _, short_lets a_lets, kind_int i, short_int, .inr ⟨"a", a_lets, rfl, .inr (.inl ⟨i, rfl, by
      show ((upTo 1 200 : Nat) : Int) ≤ i
      rw [upTo_one]
      omega, er⟩)⟩⟩) (fun H23 S3 => ?_)
    have hmem : ∀ x ∈ List.replicate 200 cc, x ∈ L.cps.toList := fun x hx => by rw [List.eq_of_mem_replicate hx]; exact hcc
    have hlen : (List.replicate 200 cc).length ≤ 200 := by rw [List.length_replicate]; exact Nat.le_refl _
    refine ⟨_, rfl, _, rfl, L, _, cc, rfl, rfl, Evl.sz_of (by omega), hat, cc, 200, rfl, rfl, by decide, ?_⟩
    refine ⟨_, rfl, _, rfl, by show 1 ≤ sizeLine; decide, fun a' na' => ⟨a', 4, _, rfl, rfl, upd_same, by decide, by decide, by show 1 * 4 ≤ sizeLine; decide, fun b' nb' => ?_⟩⟩
    have w2 := Same.new' (o := .lst [V.str tellM]) (Same.refl H23) na'
    have w3 := Same.new' (o := .lst (List.replicate 4 (V.str tellM))) w2 nb'
    refine eq_reps (n := 4) due_m (w3 _ _ S3.at_) upd_same ⟨true, rfl, ?_⟩
    refine ⟨_, rfl, _, rfl, _, rfl, .str L, .str (reps 200 cc), rfl, kind_str L, short_lets hL, kind_str _, reps_short (by decide), .inr ⟨L, hL, rfl, .inr ⟨List.replicate 200 cc, rfl, hmem, hlen, fun Ha sa => ?_⟩⟩⟩
    refine ⟨.str L, .int _, rfl, kind_str L, short_lets hL, kind_int _, short_int, .inr ⟨L, hL, rfl, .inr (.inr ⟨List.replicate 200 cc, rfl, hmem, hlen, fun Hb sb => ⟨_, rfl, rfl, ?_⟩⟩)⟩⟩
    rw [show decide (V.str ⟨(List.replicate 200 cc).toArray⟩ = V.str (reps 200 cc)) = true from decide_eq_true rfl]
    have w4 := (w3.trans sa).trans sb
    have eF := (eG.trans (ExtP.of_ext (e20.trans S3.ext))).trans (ExtP.of_ext (extN_of w4))
    exact q _ eF (tabs_of w4 S3.tabs) ((hpg.extN (e20.trans S3.ext)).same w4)
end
end Lw
set_option Elab.async false
set_option linter.all false
set_option maxRecDepth 100000
set_option maxHeartbeats 4000000
namespace Lw
open PySem PySem.Spec PyProof.Rows L2 LamX
abbrev sRight : Stmt := topS 41
abbrev sLaw : Stmt := topS 42
structure DefQ (P : Program) (w : World) (K : PySem.W.Frag) (mg : Str → Option Value) (base : Heap) (k : Nat) (x : Str) (ps : List Str) (sp : Sp) : Prop where
  ex : ∃ (f : Addr) (fd : FuncData), FnG P w K mg base CX0 k f fd ps sp ∧ mg x = some (.ref f) ∧ PySem.W.keepIn K (.ref f) = true ∧ Binds K fd ps []
def rightN : List Str := ["_law_pot_here", "_law_signs_here", "_law_turn"]
theorem scRight : FnScope rightN ["_law_pot_here"] (defScope sRight) := ⟨rfl, rfl, rfl, by decide +kernel, rfl, by decide +kernel, by decide +kernel⟩
def spRight (T : List (Addr × Str)) : Sp := fun vs H Q _ => ∃ p : Addr, vs = [.ref p] ∧ Pot H p ∧ Tabs T H ∧ ∀ H', ExtP p H H' → Tabs T H' → Pot H' p → Q (.bl true) H'
section
variable {P : Program} {w : World} {K : PySem.W.Frag} {mg : Str → Option Value} {base : Heap}
theorem ok_right {f CL CR CC CM BE LE : Addr} {fd : FuncData} {T : List (Addr × Str)} (F : Fun K "_law_right" "_law_right" sRight f fd) (kit : Kit P w K mg base CL CR CC CM BE LE)
    (S : Def P w K mg base 3 "_law_signs" ["_law_pot_here", "_law_few"] spSigns)
    (D1 : DefQ P w K mg base 11 "_law_signs_right" ["_law_pot_here", "_law_signs_here"] (spPart T)) (D2 : DefQ P w K mg base 11 "_law_rows_right" ["_law_pot_here", "_law_signs_here"] (spPart T))
    (D3 : DefQ P w K mg base 11 "_law_counts_right" ["_law_pot_here", "_law_signs_here"] (spPart T)) : FnG P w K mg base CX0 12 f fd ["_law_pot_here"] (spRight T) := by
  obtain ⟨f0, fd0, G0, g0, k0, b0⟩ := S.ex
  obtain ⟨f1, fd1, G1, g1, k1, b1⟩ := D1.ex
  obtain ⟨f2, fd2, G2, g2, k2, b2⟩ := D2.ex
  obtain ⟨f3, fd3, G3, g3, k3, b3⟩ := D3.ex
  obtain ⟨f4, fd4, G4, g4, k4, b4, kb4⟩ := kit.rws.ex
  have B := kit.B
  refine fng_of0 F scRight (fun vs H Q E h => ?_) (fun cdv A outer s H vs Q E gd hr h => ?_)
  · obtain ⟨p, rfl, _⟩ := h
    rfl
  · obtain ⟨p, rfl, hp, hT, q⟩ := h
    refine ⟨_, pss_cons (ps_set (i := 1) scRight.nd rfl (.inl rfl) (pe_call G0 (hr.mono (by decide)) rfl g0 k0 b0 .nil pass0 (by exact (pa_cons (pv 0) (pa_cons pe_int pa_nil)))))
      (pss_cons (ps_for PassesOwn.never rfl (pi_range1 (by rfl) B.range (by exact (pa_cons pe_int pa_nil))) (pg_name (i := 2) scRight.nd rfl (Or.inl rfl))
        (pss_cons (ps_if (PW.pt (pw_or (pt_not (pt_val (pe_callG gd G1 hr rfl g1 k1 b1 pass0 (by exact (pa_cons (pv 0) (pa_cons (pv 1) pa_nil)))))) (pw_or1 (pt_not (pt_val (pe_callG gd G2 hr rfl g2 k2 b2 pass0 (by exact (pa_cons (pv 0) (pa_cons (pv 1) pa_nil)))))))))
            (pss_one (ps_ret pe_bl)) pss_nil)
        (pss_one (ps_if (pt_not (pt_val (pe_callG gd G3 hr rfl g3 k3 b3 pass0 (by exact (pa_cons (pv 0) (pa_cons (pv 1) pa_nil)))))) (pss_one (ps_ret pe_bl)) pss_nil))))
      (pss_one (ps_ret (pe_cmpR op_eq (pe_callB (call_repr_row gd hr) (by rfl) B.repr (by decide +kernel) (by exact (pa_cons (pe_listG (E := fun _ _ _ => False) (pgen_call G4 (hr.mono (by decide)) rfl g4 k4 b4 .nil (pa_cons (pv 1) (pa_cons pe_int pa_nil)))
          (passes_call takes_none5 (fun _ _ _ _ h => h)) (fun _ _ _ h => h.elim) (hr.mono (by decide)) (by rfl) B.list (by decide +kernel)) pa_nil))) pe_str (nomark _))))), ?_⟩
    refine ⟨_, rfl, p, 4, rfl, hp, by decide, by decide, fun L H1 hL b1 hp1 => ?_⟩
    refine ⟨4, rfl, by decide, by decide, ?_⟩
    refine for_range (lo := 0) (n := 4) (fun i σ H' => ExtP p H H' ∧ Tabs T H' ∧ Pot H' p ∧ ∃ u, σ = [some (.ref p), some (.str L), u]) ⟨ExtP.of_but b1, tabs_but hp b1 hT, hp1, none, rfl⟩ ?_ ?_
    · rintro i σ H' hi ⟨e, t, hp', u, rfl⟩
      refine ⟨_, rfl, _, rfl, p, L, rfl, hL, hp', t, fun Ha ea ta hpa => ⟨_, rfl, ?_⟩⟩
      refine iteF ⟨_, rfl, _, rfl, p, L, rfl, hL, hpa, ta, fun Hb eb tb hpb => ⟨_, rfl, ?_⟩⟩
      refine iteF ⟨_, rfl, _, rfl, p, L, rfl, hL, hpb, tb, fun Hc ec tc hpc => ⟨_, rfl, ?_⟩⟩
      exact iteF ⟨((e.trans ea).trans eb).trans ec, tc, hpc, _, rfl⟩
    · rintro σ H' ⟨e, t, hp', u, rfl⟩
      refine ⟨_, rfl, .str L, .int 0, rfl, kind_str L, short_lets hL, kind_int 0, short_int, .inr ⟨L, hL, rfl, .inr (.inr ⟨rfl, fun Ha sa l nl => ?_⟩)⟩⟩
      refine ⟨p, l, _, [.str ""], rfl, upd_same, .cons (.flat (.str _)) .nil, by decide +kernel, rfl, ?_⟩
      have e1 : decide (V.str (PyData.shown (.list [.str ""])) = V.str "['']") = true := by decide +kernel
      rw [e1]
      have s1 := Same.new' (o := .lst [V.str ""]) sa nl
      exact q _ (e.trans (ExtP.of_ext (extN_of s1))) (tabs_of s1 t) (hp'.same s1)
end
end Lw
set_option Elab.async false
set_option linter.all false
set_option maxRecDepth 100000
set_option maxHeartbeats 4000000
namespace Lw
open PySem PySem.Spec PyProof.Rows L2 LamX
def lawN : List Str := ["_law_script", "_law_k", "_law_pot_here", "_law_turn"]
theorem scLaw : FnScope lawN ["_law_script"] (defScope sLaw) := ⟨rfl, rfl, rfl, by decide +kernel, rfl, by decide +kernel, by decide +kernel⟩
def spLaw (K : PySem.W.Frag) (T : List (Addr × Str)) : Sp := fun vs H Q _ => ∃ (a : Addr) (ns : List Int), vs = [.ref a] ∧ SqL K H a (ns.map V.int) ∧ ns.length ≤ 63 ∧ Tabs T H ∧ ∀ H', Q (.bl true) H'
theorem SqL.extP {K : PySem.W.Frag} {p a : Addr} {xs : List V} {H H2 H3 : Hp} (h : SqL K H a xs) (hp : H p = none) (s : Same H H2) (e : ExtP p H2 H3) : SqL K H3 a xs := by
  rcases h with (h | ⟨o, h⟩) | h
  · exact .inl (.inl (e _ _ (ne_of_none h hp) (s _ _ h) (fun _ q => by cases q)))
  · exact .inl (.inr ⟨o, e _ _ (ne_of_none h hp) (s _ _ h) (fun _ q => by cases q)⟩)
  · exact .inr h
theorem trues (n : Nat) : (List.replicate n (V.bl true)) ++ [V.bl true] = List.replicate (n + 1) (V.bl true) := by rw [List.replicate_succ']
section
variable {P : Program} {w : World} {K : PySem.W.Frag} {mg : Str → Option Value} {base : Heap}
theorem ok_law {f : Addr} {fd : FuncData} {T : List (Addr × Str)} (F : Fun K "law" "law" sLaw f fd) (B : Bl mg) (D0 : Def P w K mg base 1 "_law_pot" ["_law_script", "_law_k"] (spPot K))
    (D1 : DefQ P w K mg base 12 "_law_right" ["_law_pot_here"] (spRight T)) : FnG P w K mg base CX0 13 f fd ["_law_script"] (spLaw K T) := by
  obtain ⟨f0, fd0, G0, g0, k0, b0⟩ := D0.ex
  obtain ⟨f1, fd1, G1, g1, k1, b1⟩ := D1.ex
  refine fng_of0 F scLaw (fun vs H Q E h => ?_) (fun cdv A outer s H vs Q E gd hr h => ?_)
  · obtain ⟨a, ns, rfl, _⟩ := h
    rfl
  · obtain ⟨a, ns, rfl, hS, hlen, hT, q⟩ := h
    refine ⟨_, pss_cons (ps_for PassesOwn.never rfl (pi_range1 (by rfl) B.range (by exact (pa_cons (pe_callB (call_max2 rfl) (by rfl) B.max (by decide +kernel) (pa_cons pe_int (pa_cons (pe_callB (call_min2 rfl) (by rfl) B.min (by decide +kernel) (pa_cons pe_int (pa_cons (pe_callB call_len_seq (by rfl) B.len PySem.boot_len (pa_cons (pv 0) pa_nil)) pa_nil))) pa_nil))) pa_nil))) (pg_name (i := 1) scLaw.nd rfl (Or.inl rfl))
        (pss_cons (ps_set (i := 2) scLaw.nd rfl (.inr rfl) (pe_call G0 (hr.mono (by decide)) rfl g0 k0 b0 .nil pass0 (by exact (pa_cons (pv 0) (pa_cons (pv 1) pa_nil)))))
        (pss_one (ps_if (pt_not (pt_val (pe_callB (cr_all rfl) (by rfl) B.all (by decide +kernel) (by exact (pa_cons (pe_lc (own := [("_law_turn", 3)]) (g := gName 3) (tt := tYes) (te := tCall (spRight T) [] E0 (tCons (tVar 2) tNil)) (by rfl) scLaw.nd (pi_range1 (by rfl) B.range (pa_cons pe_int pa_nil))
            (blkOk_by (own := [("_law_turn", 3)]) (N := lawN) (sc := defScope sLaw) (by decide +kernel)) (fun _ _ _ _ _ => pg_name (i := 3) scLaw.nd rfl (Or.inl rfl)) (fun _ _ _ _ _ => pts_nil)
            (fun _ _ _ _ _ => by exact (pe_callG gd G1 hr rfl g1 k1 b1 pass0 (by exact (pa_cons (pv 2) pa_nil))))) pa_nil))))) (pss_one (ps_ret pe_bl)) pss_nil))))
      (pss_one (ps_ret pe_bl)), ?_⟩
    have hl : (ns.map V.int).length ≤ 63 := by rw [List.length_map]; exact hlen
    refine ⟨_, rfl, a, _, rfl, .inl hS, 2, _, rfl, 1, _, rfl, _, rfl, ?_, ?_, ?_⟩
    · split <;> split <;> omega
    · split <;> split <;> omega
    have hj : ∀ (j : Int), j = (if (if (((ns.map V.int).length : Nat) : Int) < 2 then (((ns.map V.int).length : Nat) : Int) else 2) > 1 then (if (((ns.map V.int).length : Nat) : Int) < 2 then (((ns.map V.int).length : Nat) : Int) else 2) else 1) → j.toNat ≤ 2 := by
      intro j e
      rw [e]
      split <;> split <;> omega
    have hj' := hj _ rfl
    generalize (if (if (((ns.map V.int).length : Nat) : Int) < 2 then (((ns.map V.int).length : Nat) : Int) else 2) > 1 then (if (((ns.map V.int).length : Nat) : Int) < 2 then (((ns.map V.int).length : Nat) : Int) else 2) else 1) = j0 at *
    refine for_range (lo := 0) (n := j0.toNat) (fun i σ H' => SqL K H' a (ns.map V.int) ∧ Tabs T H' ∧ ∃ u1 u2 u3, σ = [some (.ref a), u1, u2, u3]) ⟨hS, hT, none, none, none, rfl⟩ ?_ ?_
    · rintro i σ H' hi ⟨hS', t, u1, u2, u3, rfl⟩
      refine ⟨_, rfl, _, rfl, a, ns, _, rfl, hS', hlen, by omega, by omega, fun p H2 hp s2 hpot => ?_⟩
      refine ⟨2, rfl, by decide, by decide, fun D hD => ?_⟩
      have nDp : D ≠ p := pot_off hpot (Same.refl H2) hD
      refine lc_it walk_range (fun n H3 => ExtP p H2 H3 ∧ Tabs T H3 ∧ Pot H3 p ∧ H3 D = some (.lst (List.replicate n (V.bl true)))) ⟨?_, ?_, ?_, upd_same⟩ (fun _ _ _ _ => trivial) (fun n x Ha Hb hn hv y => ?_) (fun H3 hv => ?_)
      · exact fun b o _ e _ => kp hD e
      · exact (tabs_of s2 t).ext fun b o e => kp hD e
      · exact hpot.same (Same.new' (Same.refl H2) hD)
      · obtain ⟨rfl, rfl⟩ := y
        obtain ⟨e3, t3, p3, d3⟩ := hv
        refine ⟨rfl, _, rfl, p, rfl, p3, t3, fun H4 e4 t4 p4 => ⟨_, e4 _ _ nDp d3 (fun _ q => by cases q), ?_, ?_, ?_, ?_, ?_⟩⟩
        · rw [List.length_replicate]; exact Evl.sz_lt (by omega)
        · intro b o nb e m
          have e' := e4 b o nb (e3 b o nb e m) m
          rw [upd_ne (ne_of_none e hD)]
          exact e'
        · exact tabs_set (e4 _ _ nDp d3 (fun _ q => by cases q)) t4
        · obtain ⟨x1, x2, ex, rx⟩ := p4
          exact ⟨x1, x2, by rw [upd_ne nDp.symm]; exact ex, rx⟩
        · rw [upd_same, trues]
      · obtain ⟨e3, t3, p3, d3⟩ := hv
        refine ⟨D, [true, true], rfl, .inl (.inl d3), _, rfl, ?_⟩
        refine iteF ?_
        exact ⟨SqL.extP hS' hp s2 e3, t3, _, _, _, rfl⟩
    · rintro σ H' ⟨_, _, u1, u2, u3, rfl⟩
      exact q H'
end
end Lw
set_option Elab.async false
set_option linter.all false
set_option maxRecDepth 100000
set_option maxHeartbeats 4000000
/-! the end: a law whose promise wants that no repr is under way, with tables of code objects -/
namespace Lw
open PySem PySem.Spec PyProof.Rows L2 LamX
/-- the abstract heap at the law's entry: the tables, and the script unless the fragment tells of it -/
def entryH (lst : Option HO) (a : Addr) (tabs : List Addr) : Hp := fun b => if b ∈ tabs then some (.tbl #[]) else if b = a then lst else none
section
variable {lst : Option HO} {a : Addr} {tabs : List Addr}
theorem entry_cases {b : Addr} {u : HO} (h : entryH lst a tabs b = some u) : (b ∈ tabs ∧ u = .tbl #[]) ∨ (b = a ∧ lst = some u) := by
  unfold entryH at h
  by_cases h1 : b ∈ tabs
  · rw [if_pos h1] at h
    exact .inl ⟨h1, (Option.some.inj h).symm⟩
  · rw [if_neg h1] at h
    by_cases h2 : b = a
    · rw [if_pos h2] at h
      exact .inr ⟨h2, h⟩
    · rw [if_neg h2] at h
      cases h
theorem entry_tab {b : Addr} (h : b ∈ tabs) : entryH lst a tabs b = some (.tbl #[]) := if_pos h
theorem entry_scr (h : a ∉ tabs) : entryH lst a tabs a = lst := (if_neg h).trans (if_pos rfl)
end
abbrev scriptObj (vs : List Value) : Obj := { cls := .type "list", data := .seq vs.toArray }
section
variable {P : Program} {w : World} {K : PySem.W.Frag} {mg mb : Str → Option Value}
theorem law_run {k : Nat} {fa a : Addr} {cs : List (Addr × Addr)} {fd : FuncData} {x : Str} {sp : Sp} {s : Shared} {vs : List Value} {ns : List Int} (kin : K.In s.heap) (gl : s.heap.Ns mainGlobals mg) (bl : s.heap.Ns builtinsNs mb) (bb : ∀ y : Str, y ≠ "__name__" → mb y = bootBuiltins y)
    (nl : s.heap.NoLimit) (noGen : s.gens = #[]) (tb : ∀ p ∈ cs, s.heap.get? p.2 = some (PySem.W.tabObj #[])) (nk : ∀ p ∈ cs, K.lookup p.2 = none) (cd : ∀ p ∈ cs, PySem.W.CodeHd s.heap p.1 p.2)
    (bmain : ∃ (bm : Addr) (ob : Obj), mg "__builtins__" = some (.ref bm) ∧ bm ≠ builtinsNs ∧ s.heap.get? bm = some ob ∧ ob.cls = .type "module" ∧ ob.dict = some builtinsNs ∧ ob.data = .plain)
    (ha : s.heap.get? a = some (scriptObj vs)) (hi : IntsAre vs ns) (hl : ns.length ≤ sizeLine) (hr : Room k callerA)
    (F : ∀ base : Heap, K.In base → base.Ns mainGlobals mg → (∀ p ∈ cs, TabB base mg p.1 p.2) → FnG P w K mg base CX0 k fa fd [x] sp) (bind : ∀ (s' : Shared) (u : Value), BindsTo s' fd ⟨[u], []⟩ [(x, u)])
    (told : ∀ H : Hp, (∀ p ∈ cs, H p.2 = some (.tbl #[])) → SqL K H a (ns.map V.int) → sp [.ref a] H (fun v _ => v = .bl true) fun _ _ _ => False) :
    codeAny (model P w) callerA (.call (.ref fa) ⟨[.ref a], []⟩) (fun r s' => r = .ok (.ret (.bool true)) ∧ OldK s.heap s'.heap ∧ s'.os = s.os ∧ AllBare s'.gens) s := by
  have rel := vals_ints hi
  let tabs := cs.map (·.2)
  let lst : Option HO := if (K.lookup a).isNone = true then some (.frz (scriptObj vs) (.lst (ns.map V.int))) else none
  let H := entryH lst a tabs
  have isTab : ∀ {b : Addr}, b ∈ tabs → ∃ p ∈ cs, p.2 = b := fun hb => List.mem_map.mp hb
  have tabOf : ∀ {b : Addr}, b ∈ tabs → s.heap.get? b = some (PySem.W.tabObj #[]) := fun hb => by
    obtain ⟨p, hp, e⟩ := isTab hb
    rw [← e]
    exact tb p hp
  have aNo : a ∉ tabs := fun hm => by
    have z := ha.symm.trans (tabOf hm)
    have z2 : Data.seq vs.toArray _ = Data.fields #[] := congrArg Obj.data (Option.some.inj z)
    cases z2
  have cases_ : ∀ {b : Addr} {u : HO}, H b = some u → (b ∈ tabs ∧ u = .tbl #[]) ∨ (b = a ∧ (K.lookup a).isNone = true ∧ u = .frz (scriptObj vs) (.lst (ns.map V.int))) := fun {b u} e => by
    rcases entry_cases e with z | ⟨z1, z2⟩
    · exact .inl z
    · by_cases hn : (K.lookup a).isNone = true
      · have z3 : lst = some (.frz (scriptObj vs) (.lst (ns.map V.int))) := if_pos hn
        rw [z3] at z2
        exact .inr ⟨z1, hn, (Option.some.inj z2).symm⟩
      · have z3 : lst = none := if_neg hn
        rw [z3] at z2
        cases z2
  -- what is not tracked
  have seen : ∀ {b : Addr} {o : Obj}, s.heap.get? b = some o → o.data ≠ .fields #[] → (∀ xs n, o.data ≠ .seq xs n) → H b = none := fun {b o} e d1 d2 => by
    cases q : H b with
    | none => rfl
    | some u =>
      rcases cases_ q with ⟨z, _⟩ | ⟨z, _⟩
      · cases e.symm.trans (tabOf z)
        exact absurd rfl d1
      · rw [z] at e
        cases e.symm.trans ha
        exact absurd rfl (d2 _ _)
  have inK : ∀ {b : Addr} {o : Obj}, K.lookup b = some o → H b = none := fun {b o} e => by
    cases q : H b with
    | none => rfl
    | some u =>
      rcases cases_ q with ⟨z, _⟩ | ⟨z, z2, _⟩
      · obtain ⟨p, hp, ep⟩ := isTab z
        rw [← ep, nk p hp] at e
        cases e
      · rw [z] at e
        rw [e] at z2
        cases z2
  have nsOf : ∀ {b : Addr} {m : Str → Option Value}, s.heap.Ns b m → (hidT s.heap H).Ns b m := fun {b m} ⟨o, es, ep, e, d, r⟩ =>
    ⟨o, es, ep, hidT_get e (seen e (fun z => by rw [d] at z; cases z) fun _ _ z => by rw [d] at z; cases z), d, r⟩
  have kinB : K.In (hidT s.heap H) := fun b o e => hidT_get (kin b o e) (inK e)
  have md : L2.Mod K mg (hidT s.heap H) := ⟨kinB, nsOf gl, ⟨mb, nsOf bl, bb⟩, let ⟨mc, h1, h2⟩ := nl; ⟨mc, nsOf h1, h2⟩⟩
  have dictNe : ∀ {b c : Addr} {m : Str → Option Value} {o : Obj}, s.heap.Ns b m → s.heap.get? c = some o → (∀ es n, o.data ≠ .dict es n) → b ≠ c := fun {b c m o} ⟨o1, es, ep, e, d, _⟩ e2 hd q => by
    subst q
    cases e.symm.trans e2
    exact hd _ _ d
  have tbs : ∀ p ∈ cs, TabB (hidT s.heap H) mg p.1 p.2 := fun p hp => by
    obtain ⟨bm, ob, m1, m2, m3, m4, m5, m6⟩ := bmain
    have g1 : mainGlobals ≠ bm := dictNe gl m3 (fun _ _ z => by rw [m6] at z; cases z)
    have g2 : mainGlobals ≠ p.2 := dictNe gl (tb p hp) (fun _ _ z => by cases z)
    have g3 : bm ≠ p.2 := fun z => by
      rw [z] at m3
      cases m3.symm.trans (tb p hp)
      cases m6
    refine ⟨?_, ⟨bm, ob, m1, m2, g1.symm, g3, hidT_get m3 (seen m3 (fun z => by rw [m6] at z; cases z) fun _ _ z => by rw [m6] at z; cases z), m4, m5, m6⟩, g2⟩
    obtain ⟨o, us, file, tf, flags, tg, inF, text, tt, e1, e2, e3, e4, more⟩ := cd p hp
    have nb : H p.1 = none := seen e1 (fun z => by
      rw [e3] at z
      cases z
      simp at e4) fun _ _ z => by rw [e3] at z; cases z
    exact ⟨o, us, file, tf, flags, tg, inF, text, tt, hidT_get e1 nb, e2, e3, e4, more⟩
  have tabsH : ∀ p ∈ cs, H p.2 = some (.tbl #[]) := fun p hp => entry_tab (List.mem_map.mpr ⟨p, hp, rfl⟩)
  have okH : HOk P w H s.heap := fun b u e => by
    rcases cases_ e with ⟨z, rfl⟩ | ⟨z, _, rfl⟩
    · exact tabOf z
    · rw [z]
      exact ⟨ha, by rw [List.length_map]; exact hl, vs, _, rel, ha⟩
  have scr : SqL K H a (ns.map V.int) := by
    cases q : K.lookup a with
    | none =>
      refine .inl (.inr ⟨scriptObj vs, ?_⟩)
      have z3 : lst = some (.frz (scriptObj vs) (.lst (ns.map V.int))) := if_pos (by rw [q]; rfl)
      exact (entry_scr aNo).trans z3
    | some o =>
      cases (kin a o q).symm.trans ha
      refine .inr ⟨_, vs.toArray, _, q, rfl, rfl, rfl, ?_, by simpa using rel⟩
      rw [List.size_toArray, ← rel.length, List.length_map]
      exact hl
  have e0 : Env0 P w K mg (hidT s.heap H) callerA [] s H := ⟨rfl, md, fun b o e => of_hidT e, Nat.le_of_eq (hidT_size _ _), trivial, fun b hb => absurd (show b ∈ ([] : List Addr) from hb) List.not_mem_nil, okH, .of_eq noGen⟩
  refine codeAny_mono ((F _ kinB (nsOf gl) tbs).goes callerA [] s H [.ref a] [.ref a] _ _ rfl hr e0 (bind s (.ref a)) (.cons rfl .nil) (told H tabsH scr)) fun r s' out => ?_
  cases r with
  | error e => exact False.elim out
  | ok fl =>
    cases fl with
    | next => exact out.elim
    | brk => exact out.elim
    | cont => exact out.elim
    | ret u =>
      obtain ⟨v, H', os, bare, un, okH', ru, q⟩ := out
      cases (show v = .bl true from q)
      cases (show u = Value.bool true from ru)
      have kept : ∀ b o, b ∉ tabs → s.heap.get? b = some o → s'.heap.get? b = some o := fun b o nt e => by
        cases q : H b with
        | none => exact un.keep b o e q (fun z => absurd (show b ∈ ([] : List Addr) from z) List.not_mem_nil) List.not_mem_nil
        | some y =>
          rcases cases_ q with ⟨z, _⟩ | ⟨z, _, rfl⟩
          · exact absurd z nt
          · obtain ⟨e1, _⟩ := okH' b _ (un.frzs b _ _ q)
            rw [z] at e e1 ⊢
            cases e.symm.trans ha
            exact e1
      have grows : ∀ p ∈ cs, ∃ more : Array Value, s'.heap.get? p.2 = some { cls := .none, data := .fields more } := fun p hp => by
        obtain ⟨more, z⟩ := un.tbls p.2 #[] (tabsH p hp)
        exact ⟨_, okH' p.2 _ z⟩
      refine ⟨rfl, ⟨fun b o e => ?_, fun b o e => ?_⟩, os, bare⟩
      · by_cases nt : b ∈ tabs
        · obtain ⟨p, hp, ep⟩ := isTab nt
          obtain ⟨more, hm⟩ := grows p hp
          cases e.symm.trans (tabOf nt)
          rw [← ep]
          exact .inr (.inl ⟨((cd p hp).tab (tb p hp)).isCodeTable, rfl, #[], more, rfl, by rw [Array.empty_append]; exact hm⟩)
        · exact .inl (kept b o nt e)
      · by_cases nt : b ∈ tabs
        · obtain ⟨p, hp, ep⟩ := isTab nt
          obtain ⟨more, hm⟩ := grows p hp
          rw [← ep]
          exact ⟨_, hm⟩
        · exact ⟨o, kept b o nt e⟩
end
end Lw
set_option Elab.async false
set_option linter.all false
set_option maxRecDepth 100000
set_option maxHeartbeats 4000000
/-! what the top has written, and the law's end -/
namespace Lw
open PySem PySem.Spec PyProof.Rows L2 LamX
def FunAt (K : PySem.W.Frag) (x : Str) (st : Stmt) : Prop := ∃ (f : Addr) (fd : FuncData), L2.Fun K x x st f fd ∧ PySem.W.nsIn K mainGlobals x = some (some (.ref f))
def FunCAt (K : PySem.W.Frag) (ts : List Addr) (x : Str) (st : Stmt) (Pt : Addr) : Prop := ∃ (f : Addr) (fd : FuncData) (c : Addr), FunC K x x st f fd c ∧ PySem.W.nsIn K mainGlobals x = some (some (.ref f)) ∧ PySem.W.codeHdIn K c Pt = true ∧ Pt ∈ ts ∧ K.lookup Pt = none
section
variable {K : PySem.W.Frag}
theorem funAt {x : Str} {st : Stmt} {f : Addr} {oc : Value} {od an : Option Addr} {osl : Array (Option Value)} {kV doc pm cdv ct : Value} (a : PySem.W.nsIn K mainGlobals x = some (some (.ref f)))
    (l : K.lookup f = some ⟨oc, od, .func (PySem.W.fnOf x x (defArgs st) (defBody st) (defScope st) .none kV doc pm an cdv ct), osl⟩) (c : PySem.W.codeIn K cdv x = true) (k : PySem.W.keepIn K (.ref f) = true) : FunAt K x st := ⟨f, _, fun_mk l c k, a⟩
theorem funCAt {ts : List Addr} {x : Str} {st : Stmt} {f c Pt : Addr} {oc : Value} {od an : Option Addr} {osl : Array (Option Value)} {kV doc pm ct : Value} (a : PySem.W.nsIn K mainGlobals x = some (some (.ref f)))
    (l : K.lookup f = some ⟨oc, od, .func (PySem.W.fnOf x x (defArgs st) (defBody st) (defScope st) .none kV doc pm an (.ref c) ct), osl⟩) (c0 : PySem.W.codeIn K (.ref c) x = true) (k : PySem.W.keepIn K (.ref f) = true)
    (hd : PySem.W.codeHdIn K c Pt = true) (m : Pt ∈ ts) (n : K.lookup Pt = none) : FunCAt K ts x st Pt := ⟨f, _, c, ⟨⟨oc, od, kV, doc, pm, an, ct, osl, rfl, l, c0⟩, k⟩, a, hd, m, n⟩
end
/-- an error class of the module -/
structure ErrAt (K : PySem.W.Frag) (x q : Str) (C : Addr) (bmB : List Value) (newId : String) (st : Stmt) : Prop where
  gC : PySem.W.nsIn K mainGlobals x = some (some (.ref C))
  T : OxC K C bmB newId
  init : ∃ (f : Addr) (fd : FuncData), L2.Fun K "__init__" q st f fd ∧ PySem.W.findIn K (.ref C) "__init__" = some (some (.ref f)) ∧ PySem.W.typeIn K (.ref f) = some (.type "function")
  is_ : ExcC K C
  fld : XfC K C
theorem errAt {K : PySem.W.Frag} {x q : Str} {C f : Addr} {bmB : List Value} {newId : String} {st : Stmt} {oc : Value} {od an : Option Addr} {osl : Array (Option Value)} {kV doc pm cdv ct : Value} (a : PySem.W.nsIn K mainGlobals x = some (some (.ref C)))
    (i : PySem.W.findIn K (.ref C) "__init__" = some (some (.ref f))) (l : K.lookup f = some ⟨oc, od, .func (PySem.W.fnOf "__init__" q (defArgs st) (defBody st) (defScope st) .none kV doc pm an cdv ct), osl⟩) (c : PySem.W.codeIn K cdv q = true) (k : PySem.W.keepIn K (.ref f) = true)
    (t : PySem.W.typeIn K (.ref f) = some (.type "function")) (e1 : PySem.W.excInitIn K C bmB newId = true) (e2 : PySem.W.excOver K C bmB = true) (e3 : PySem.W.hasDictIn K C = true) (e4 : PySem.W.findIn K (.ref C) "__setattr__" = some (some (.builtin "object.__setattr__")))
    (e5 : PySem.W.subIn K (.ref C) (.type "BaseException") = some true) (e6 : PySem.W.typeIn K (.ref C) = some (.type "type")) (e7 : PySem.W.keepIn K (.ref C) = true)
    (e8 : PySem.W.findIn K (.ref C) "__getattribute__" = some (some (.builtin "BaseException.__getattribute__"))) (e9 : PySem.W.findIn K (.ref C) "__getattr__" = some none) (e10 : PySem.W.findIn K (.ref C) "__class__" = some (some (.builtin "object.__class__")))
    (e11 : PySem.W.specialIn K (.builtin "object.__class__") "__get__" = some (some (.builtin "getset_descriptor.__get__"))) (e12 : PySem.W.takesIn K (.builtin "object.__class__") = some true) (e13 : PySem.W.mroIn K C (.type "object") = some true) :
    ErrAt K x q C bmB newId st := ⟨a, ⟨e1, e2, e3, e4, e5, e6, e7⟩, ⟨f, _, fun_mk l c k, i, t⟩, ⟨e8, e9, e5, e3, e10, e11, e12, e13⟩, ⟨e8, e9, e5, e3⟩⟩
structure AllAt (K : PySem.W.Frag) (ts : List Addr) (CL CR CC CM BE LE P1 P2 P3 : Addr) : Prop where
  d8 : FunAt K "is_integer" (topS 8)
  dC : FunAt K "is_count" (topS 9)
  d9 : FunAt K "check_count" (topS 10)
  d14 : FunAt K "is_letters" (topS 15)
  d15 : FunAt K "is_row" (topS 16)
  d16 : FunAt K "is_ahead" (topS 17)
  d17 : FunAt K "rows" (topS 18)
  d18 : FunAt K "many_rows" (topS 19)
  d19 : FunAt K "row_at" (topS 20)
  d20 : FunAt K "number_of" (topS 21)
  d21 : FunAt K "is_over" (topS 22)
  d22 : FunAt K "rows_up_to" (topS 23)
  d23 : FunAt K "numbered_row" (topS 24)
  d24 : FunAt K "check_letters" (topS 25)
  d25 : FunAt K "check_row" (topS 26)
  d26 : FunAt K "check_most" (topS 27)
  d28 : FunAt K "_law_pot" (topS 29)
  d29 : FunAt K "_law_draw" (topS 30)
  d30 : FunAt K "_law_pick" (topS 31)
  d31 : FunAt K "_law_mixed" (topS 32)
  d32 : FunAt K "_law_signs" (topS 33)
  d33 : FunAt K "_law_told" (topS 34)
  d34 : FunAt K "_law_odd_signs" (topS 35)
  d35 : FunAt K "_law_odd_row" (topS 36)
  d36 : FunAt K "_law_odd_count" (topS 37)
  d40 : FunAt K "_law_right" (topS 41)
  d41 : FunAt K "law" (topS 42)
  p1 : FunCAt K ts "_law_signs_right" (topS 38) P1
  p2 : FunCAt K ts "_law_rows_right" (topS 39) P2
  p3 : FunCAt K ts "_law_counts_right" (topS 40) P3
  p12 : P1 ≠ P2
  p13 : P1 ≠ P3
  p23 : P2 ≠ P3
  eL : ErrAt K "InvalidLetters" "InvalidLetters.__init__" CL veB "ValueError.__new__" sInLet
  eR : ErrAt K "InvalidRow" "InvalidRow.__init__" CR veB "ValueError.__new__" sInRow
  eC : ErrAt K "InvalidCount" "InvalidCount.__init__" CC veB "ValueError.__new__" sInCnt
  eM : ErrAt K "TooMany" "TooMany.__init__" CM aeB "ArithmeticError.__new__" sInMany
  gB : PySem.W.nsIn K mainGlobals "BookError" = some (some (.ref BE))
  gE : PySem.W.nsIn K mainGlobals "LimitError" = some (some (.ref LE))
  nvL : PySem.W.findIn K (.ref CL) "value" = some none
  nvR : PySem.W.findIn K (.ref CR) "value" = some none
  nvC : PySem.W.findIn K (.ref CC) "value" = some none
  nvW : PySem.W.findIn K (.ref CM) "what" = some none
  nvM : PySem.W.findIn K (.ref CM) "limit" = some none
  kBL : PySem.W.kitOne K (.ref CL) (.ref BE) = some true
  kbL : PySem.W.kitOne K (.ref CL) (.type "ValueError") = some true
  kBR : PySem.W.kitOne K (.ref CR) (.ref BE) = some true
  kbR : PySem.W.kitOne K (.ref CR) (.type "ValueError") = some true
  kBC : PySem.W.kitOne K (.ref CC) (.ref BE) = some true
  kbC : PySem.W.kitOne K (.ref CC) (.type "ValueError") = some true
  kBM : PySem.W.kitOne K (.ref CM) (.ref LE) = some true
  kbM : PySem.W.kitOne K (.ref CM) (.type "ArithmeticError") = some true
  xll : PySem.W.exmOne K (.ref CL) (.ref CL) = some true
  xrl : PySem.W.exmOne K (.ref CR) (.ref CL) = some false
  xrr : PySem.W.exmOne K (.ref CR) (.ref CR) = some true
  xcl : PySem.W.exmOne K (.ref CC) (.ref CL) = some false
  xcr : PySem.W.exmOne K (.ref CC) (.ref CR) = some false
  xcc : PySem.W.exmOne K (.ref CC) (.ref CC) = some true
  xml : PySem.W.exmOne K (.ref CM) (.ref CL) = some false
  xmr : PySem.W.exmOne K (.ref CM) (.ref CR) = some false
  xmc : PySem.W.exmOne K (.ref CM) (.ref CC) = some false
  xmm : PySem.W.exmOne K (.ref CM) (.ref CM) = some true
  stL : PySem.W.subIn K (.ref CL) (.type "StopIteration") = some false
  stC : PySem.W.subIn K (.ref CC) (.type "StopIteration") = some false
  stM : PySem.W.subIn K (.ref CM) (.type "StopIteration") = some false
  alpha : ∃ t, PySem.W.nsIn K mainGlobals "ALPHABET" = some (some (.str alphabet t))
  most : ∃ t, PySem.W.nsIn K mainGlobals "MOST_LETTERS" = some (some (.int 4 t))
  longest : ∃ t, PySem.W.nsIn K mainGlobals "LONGEST_ROW" = some (some (.int 200 t))
  n_divmod : PySem.W.nsIn K mainGlobals "divmod" = some none
  n_int : PySem.W.nsIn K mainGlobals "int" = some none
  n_len : PySem.W.nsIn K mainGlobals "len" = some none
  n_abs : PySem.W.nsIn K mainGlobals "abs" = some none
  n_max : PySem.W.nsIn K mainGlobals "max" = some none
  n_min : PySem.W.nsIn K mainGlobals "min" = some none
  n_list : PySem.W.nsIn K mainGlobals "list" = some none
  n_range : PySem.W.nsIn K mainGlobals "range" = some none
  n_sorted : PySem.W.nsIn K mainGlobals "sorted" = some none
  n_all : PySem.W.nsIn K mainGlobals "all" = some none
  n_isinstance : PySem.W.nsIn K mainGlobals "isinstance" = some none
  n_str : PySem.W.nsIn K mainGlobals "str" = some none
  n_bool : PySem.W.nsIn K mainGlobals "bool" = some none
  n_zip : PySem.W.nsIn K mainGlobals "zip" = some none
  n_repr : PySem.W.nsIn K mainGlobals "repr" = some none
  n_ValueError : PySem.W.nsIn K mainGlobals "ValueError" = some none
  n_ArithmeticError : PySem.W.nsIn K mainGlobals "ArithmeticError" = some none
section
variable {P : Program} {w : World} {K : PySem.W.Frag} {mg : Str → Option Value} {h : Heap} {ts : List Addr} {CL CR CC CM BE LE P1 P2 P3 : Addr}
theorem bl_of (X : K.In h) (G : h.Ns mainGlobals mg) (A : AllAt K ts CL CR CC CM BE LE P1 P2 P3) : Bl mg :=
  ⟨PySem.W.mg_none_of X G A.n_divmod, PySem.W.mg_none_of X G A.n_int, PySem.W.mg_none_of X G A.n_len, PySem.W.mg_none_of X G A.n_abs, PySem.W.mg_none_of X G A.n_max, PySem.W.mg_none_of X G A.n_min, PySem.W.mg_none_of X G A.n_list, PySem.W.mg_none_of X G A.n_range, PySem.W.mg_none_of X G A.n_sorted, PySem.W.mg_none_of X G A.n_all, PySem.W.mg_none_of X G A.n_isinstance, PySem.W.mg_none_of X G A.n_str, PySem.W.mg_none_of X G A.n_bool, PySem.W.mg_none_of X G A.n_zip, PySem.W.mg_none_of X G A.n_repr⟩
theorem cs_of (X : K.In h) (G : h.Ns mainGlobals mg) (A : AllAt K ts CL CR CC CM BE LE P1 P2 P3) : Cs mg := by
  obtain ⟨t1, h1⟩ := A.alpha
  obtain ⟨t2, h2⟩ := A.most
  obtain ⟨t3, h3⟩ := A.longest
  exact ⟨⟨t1, PySem.W.mg_of X G h1⟩, ⟨t2, PySem.W.mg_of X G h2⟩, ⟨t3, PySem.W.mg_of X G h3⟩⟩
theorem mets_of (X : K.In h) (G : h.Ns mainGlobals mg) (A : AllAt K ts CL CR CC CM BE LE P1 P2 P3) : Mets K mg CL CR CC CM BE LE where
  l := ⟨PySem.W.mg_of X G A.eL.gC, A.eL.is_, A.eL.fld, A.kBL, A.kbL⟩
  r := ⟨PySem.W.mg_of X G A.eR.gC, A.eR.is_, A.eR.fld, A.kBR, A.kbR⟩
  c := ⟨PySem.W.mg_of X G A.eC.gC, A.eC.is_, A.eC.fld, A.kBC, A.kbC⟩
  m := ⟨PySem.W.mg_of X G A.eM.gC, A.eM.is_, A.eM.fld, A.kBM, A.kbM⟩
  be := PySem.W.mg_of X G A.gB
  le := PySem.W.mg_of X G A.gE
  ve := PySem.W.mg_none_of X G A.n_ValueError
  ae := PySem.W.mg_none_of X G A.n_ArithmeticError
  nl := A.nvL
  nr := A.nvR
  nc := A.nvC
  nw := A.nvW
  nm := A.nvM
  ll := A.xll
  rl := A.xrl
  rr := A.xrr
  cl := A.xcl
  cr := A.xcr
  cc := A.xcc
  ml := A.xml
  mr := A.xmr
  mc := A.xmc
  mm := A.xmm
theorem made {base : Heap} (X : K.In h) (G : h.Ns mainGlobals mg) (A : AllAt K ts CL CR CC CM BE LE P1 P2 P3) : Kit P w K mg base CL CR CC CM BE LE ∧ Def P w K mg base 3 "_law_signs" ["_law_pot_here", "_law_few"] spSigns ∧ Def P w K mg base 1 "_law_pot" ["_law_script", "_law_k"] (spPot K) := by
  have B := bl_of X G A
  have C := cs_of X G A
  have M := mets_of X G A
  obtain ⟨f8, fd8, F8, a8⟩ := A.d8
  have m8 := PySem.W.mg_of X G a8
  have b8 := F8.binds (ps := ["value"]) fun _ _ _ _ _ _ us hl => match us, hl with | [_], _ => rfl
  obtain ⟨fC9, fdC9, FC9, aC9⟩ := A.dC
  have mC9 := PySem.W.mg_of X G aC9
  have bC9 := FC9.binds (ps := ["value"]) fun _ _ _ _ _ _ us hl => match us, hl with | [_], _ => rfl
  obtain ⟨f9, fd9, F9, a9⟩ := A.d9
  have m9 := PySem.W.mg_of X G a9
  have b9 := F9.binds (ps := ["value"]) fun _ _ _ _ _ _ us hl => match us, hl with | [_], _ => rfl
  obtain ⟨f14, fd14, F14, a14⟩ := A.d14
  have m14 := PySem.W.mg_of X G a14
  have b14 := F14.binds (ps := ["value"]) fun _ _ _ _ _ _ us hl => match us, hl with | [_], _ => rfl
  obtain ⟨f15, fd15, F15, a15⟩ := A.d15
  have m15 := PySem.W.mg_of X G a15
  have b15 := F15.binds (ps := ["letters", "value"]) fun _ _ _ _ _ _ us hl => match us, hl with | [_, _], _ => rfl
  obtain ⟨f16, fd16, F16, a16⟩ := A.d16
  have m16 := PySem.W.mg_of X G a16
  have b16 := F16.binds (ps := ["letters", "row", "other"]) fun _ _ _ _ _ _ us hl => match us, hl with | [_, _, _], _ => rfl
  obtain ⟨f17, fd17, F17, a17⟩ := A.d17
  have m17 := PySem.W.mg_of X G a17
  have b17 := F17.binds (ps := ["letters", "most"]) fun _ _ _ _ _ _ us hl => match us, hl with | [_, _], _ => rfl
  obtain ⟨f18, fd18, F18, a18⟩ := A.d18
  have m18 := PySem.W.mg_of X G a18
  have b18 := F18.binds (ps := ["letters", "most"]) fun _ _ _ _ _ _ us hl => match us, hl with | [_, _], _ => rfl
  obtain ⟨f19, fd19, F19, a19⟩ := A.d19
  have m19 := PySem.W.mg_of X G a19
  have b19 := F19.binds (ps := ["letters", "number"]) fun _ _ _ _ _ _ us hl => match us, hl with | [_, _], _ => rfl
  obtain ⟨f20, fd20, F20, a20⟩ := A.d20
  have m20 := PySem.W.mg_of X G a20
  have b20 := F20.binds (ps := ["letters", "row"]) fun _ _ _ _ _ _ us hl => match us, hl with | [_, _], _ => rfl
  obtain ⟨f21, fd21, F21, a21⟩ := A.d21
  have m21 := PySem.W.mg_of X G a21
  have b21 := F21.binds (ps := ["letters", "value"]) fun _ _ _ _ _ _ us hl => match us, hl with | [_, _], _ => rfl
  obtain ⟨f22, fd22, F22, a22⟩ := A.d22
  have m22 := PySem.W.mg_of X G a22
  have b22 := F22.binds (ps := ["letters", "most"]) fun _ _ _ _ _ _ us hl => match us, hl with | [_, _], _ => rfl
  obtain ⟨f23, fd23, F23, a23⟩ := A.d23
  have m23 := PySem.W.mg_of X G a23
  have b23 := F23.binds (ps := ["letters", "number"]) fun _ _ _ _ _ _ us hl => match us, hl with | [_, _], _ => rfl
  obtain ⟨f24, fd24, F24, a24⟩ := A.d24
  have m24 := PySem.W.mg_of X G a24
  have b24 := F24.binds (ps := ["letters"]) fun _ _ _ _ _ _ us hl => match us, hl with | [_], _ => rfl
  obtain ⟨f25, fd25, F25, a25⟩ := A.d25
  have m25 := PySem.W.mg_of X G a25
  have b25 := F25.binds (ps := ["letters", "row"]) fun _ _ _ _ _ _ us hl => match us, hl with | [_, _], _ => rfl
  obtain ⟨f26, fd26, F26, a26⟩ := A.d26
  have m26 := PySem.W.mg_of X G a26
  have b26 := F26.binds (ps := ["most"]) fun _ _ _ _ _ _ us hl => match us, hl with | [_], _ => rfl
  obtain ⟨f28, fd28, F28, a28⟩ := A.d28
  have m28 := PySem.W.mg_of X G a28
  have b28 := F28.binds (ps := ["_law_script", "_law_k"]) fun _ _ _ _ _ _ us hl => match us, hl with | [_, _], _ => rfl
  obtain ⟨f29, fd29, F29, a29⟩ := A.d29
  have m29 := PySem.W.mg_of X G a29
  have b29 := F29.binds (ps := ["_law_pot_here", "_law_span"]) fun _ _ _ _ _ _ us hl => match us, hl with | [_, _], _ => rfl
  obtain ⟨f30, fd30, F30, a30⟩ := A.d30
  have m30 := PySem.W.mg_of X G a30
  have b30 := F30.binds (ps := ["_law_pot_here", "_law_lot"]) fun _ _ _ _ _ _ us hl => match us, hl with | [_, _], _ => rfl
  obtain ⟨f31, fd31, F31, a31⟩ := A.d31
  have m31 := PySem.W.mg_of X G a31
  have b31 := F31.binds (ps := ["_law_pot_here", "_law_lot"]) fun _ _ _ _ _ _ us hl => match us, hl with | [_, _], _ => rfl
  obtain ⟨f32, fd32, F32, a32⟩ := A.d32
  have m32 := PySem.W.mg_of X G a32
  have b32 := F32.binds (ps := ["_law_pot_here", "_law_few"]) fun _ _ _ _ _ _ us hl => match us, hl with | [_, _], _ => rfl
  obtain ⟨f33, fd33, F33, a33⟩ := A.d33
  have m33 := PySem.W.mg_of X G a33
  have b33 := F33.binds (ps := ["_law_call"]) fun _ _ _ _ _ _ us hl => match us, hl with | [_], _ => rfl
  obtain ⟨f34, fd34, F34, a34⟩ := A.d34
  have m34 := PySem.W.mg_of X G a34
  have b34 := F34.binds (ps := ["_law_pot_here"]) fun _ _ _ _ _ _ us hl => match us, hl with | [_], _ => rfl
  obtain ⟨f35, fd35, F35, a35⟩ := A.d35
  have m35 := PySem.W.mg_of X G a35
  have b35 := F35.binds (ps := ["_law_pot_here", "_law_signs_here"]) fun _ _ _ _ _ _ us hl => match us, hl with | [_, _], _ => rfl
  obtain ⟨f36, fd36, F36, a36⟩ := A.d36
  have m36 := PySem.W.mg_of X G a36
  have b36 := F36.binds (ps := ["_law_pot_here"]) fun _ _ _ _ _ _ us hl => match us, hl with | [_], _ => rfl
  obtain ⟨fIL, fdIL, FIL, iIL, tIL⟩ := A.eL.init
  have bIL := FIL.binds (ps := ["self", "value"]) fun _ _ _ _ _ _ us hl => match us, hl with | [_, _], _ => rfl
  have XL : Xc P w K mg base "InvalidLetters" CL veB "ValueError.__new__" ["self", "value"] (spEx1 CL "value") := ⟨A.eL.T, PySem.W.mg_of X G A.eL.gC, fIL, fdIL, iIL, tIL, ok_inlet FIL A.eL.T A.nvL, bIL⟩
  obtain ⟨fIR, fdIR, FIR, iIR, tIR⟩ := A.eR.init
  have bIR := FIR.binds (ps := ["self", "value"]) fun _ _ _ _ _ _ us hl => match us, hl with | [_, _], _ => rfl
  have XR : Xc P w K mg base "InvalidRow" CR veB "ValueError.__new__" ["self", "value"] (spEx1 CR "value") := ⟨A.eR.T, PySem.W.mg_of X G A.eR.gC, fIR, fdIR, iIR, tIR, ok_inrow FIR A.eR.T A.nvR, bIR⟩
  obtain ⟨fIC, fdIC, FIC, iIC, tIC⟩ := A.eC.init
  have bIC := FIC.binds (ps := ["self", "value"]) fun _ _ _ _ _ _ us hl => match us, hl with | [_, _], _ => rfl
  have XC : Xc P w K mg base "InvalidCount" CC veB "ValueError.__new__" ["self", "value"] (spEx1 CC "value") := ⟨A.eC.T, PySem.W.mg_of X G A.eC.gC, fIC, fdIC, iIC, tIC, ok_incnt FIC A.eC.T A.nvC, bIC⟩
  obtain ⟨fIM, fdIM, FIM, iIM, tIM⟩ := A.eM.init
  have bIM := FIM.binds (ps := ["self", "what", "limit"]) fun _ _ _ _ _ _ us hl => match us, hl with | [_, _, _], _ => rfl
  have XM : Xc P w K mg base "TooMany" CM aeB "ArithmeticError.__new__" ["self", "what", "limit"] (spEx2 CM "what" "limit") := ⟨A.eM.T, PySem.W.mg_of X G A.eM.gC, fIM, fdIM, iIM, tIM, ok_inmany FIM A.eM.T A.nvW A.nvM, bIM⟩
  have D8 : Def P w K mg base 1 "is_integer" ["value"] (spIsInt K) := ⟨f8, fd8, ok_isint F8 B, m8, F8.kp, b8⟩
  have D21 : Def P w K mg base 1 "is_over" ["letters", "value"] (spOver K) := ⟨f21, fd21, ok_over F21 B, m21, F21.kp, b21⟩
  have D14 : Def P w K mg base 2 "is_letters" ["value"] (spIsLet K) := ⟨f14, fd14, ok_islet F14 B C D21, m14, F14.kp, b14⟩
  have D24 : DefX P w K mg base 3 "check_letters" ["letters"] (spChk K lettersV CL) := ⟨f24, fd24, ok_chklet F24 XL D14, m24, F24.kp, b24⟩
  have D25 : DefX P w K mg base 3 "check_row" ["letters", "row"] (spChk2 K overV CR) := ⟨f25, fd25, ok_chkrow F25 XR D21, m25, F25.kp, b25⟩
  have DC9 : Def P w K mg base 2 "is_count" ["value"] (spIsCnt K) := ⟨fC9, fdC9, ok_iscnt FC9 D8, mC9, FC9.kp, bC9⟩
  have D9 : DefX P w K mg base 3 "check_count" ["value"] (spChk K countV CC) := ⟨f9, fd9, ok_chkcnt F9 XC DC9, m9, F9.kp, b9⟩
  have D26 : DefX P w K mg base 4 "check_most" ["most"] (spMost K CC CM) := ⟨f26, fd26, ok_chkmost F26 XM C D9, m26, F26.kp, b26⟩
  have D22 : Def P w K mg base 1 "rows_up_to" ["letters", "most"] spUpTo := ⟨f22, fd22, ok_upto F22 B, m22, F22.kp, b22⟩
  have D23 : Def P w K mg base 1 "numbered_row" ["letters", "number"] spNumbered := ⟨f23, fd23, ok_numbered F23 B, m23, F23.kp, b23⟩
  have D29 : Def P w K mg base 1 "_law_draw" ["_law_pot_here", "_law_span"] spDraw := ⟨f29, fd29, ok_draw F29 B, m29, F29.kp, b29⟩
  have D30 : Def P w K mg base 2 "_law_pick" ["_law_pot_here", "_law_lot"] (spPick K) := ⟨f30, fd30, ok_pick F30 B D29, m30, F30.kp, b30⟩
  have D30S : Def P w K mg base 2 "_law_pick" ["_law_pot_here", "_law_lot"] spPickS := ⟨f30, fd30, ok_pickS F30 B D29, m30, F30.kp, b30⟩
  have D31 : Def P w K mg base 2 "_law_mixed" ["_law_pot_here", "_law_lot"] (spMixed K) := ⟨f31, fd31, ok_mixed F31 B D29, m31, F31.kp, b31⟩
  have D32 : Def P w K mg base 3 "_law_signs" ["_law_pot_here", "_law_few"] spSigns := ⟨f32, fd32, ok_signs F32 B D29 D31, m32, F32.kp, b32⟩
  have D28 : Def P w K mg base 1 "_law_pot" ["_law_script", "_law_k"] (spPot K) := ⟨f28, fd28, ok_pot F28 B, m28, F28.kp, b28⟩
  have D34 : Def P w K mg base 3 "_law_odd_signs" ["_law_pot_here"] (spMenu oddS) := ⟨f34, fd34, ok_odds F34 D30, m34, F34.kp, b34⟩
  have D35 : Def P w K mg base 3 "_law_odd_row" ["_law_pot_here", "_law_signs_here"] spOddR := ⟨f35, fd35, ok_oddr F35 D30, m35, F35.kp, b35⟩
  have D36 : Def P w K mg base 3 "_law_odd_count" ["_law_pot_here"] (spMenu oddC) := ⟨f36, fd36, ok_oddc F36 D30, m36, F36.kp, b36⟩
  refine ⟨⟨B, M, ⟨f14, fd14, ok_islet F14 B C D21, m14, F14.kp, b14, kb_islet F14⟩, ⟨f15, fd15, ok_isrow F15 D24 D21, m15, F15.kp, b15, kb_isrow F15⟩, ⟨f16, fd16, ok_ahead F16 D24 D25, m16, F16.kp, b16, kb_ahead F16⟩,
    ⟨f17, fd17, ok_rows F17 B D24 D26 D22 D23, m17, F17.kp, b17, kb_rows F17⟩, ⟨f18, fd18, ok_many F18 D24 D26 D22, m18, F18.kp, b18, kb_many F18⟩, ⟨f19, fd19, ok_rowat F19 XM C D24 D9 D22 D23, m19, F19.kp, b19, kb_rowat F19⟩,
    ⟨f20, fd20, ok_number F20 B D24 D25, m20, F20.kp, b20, kb_number F20⟩, D34, D35, D36, D30, D30S, D29, ⟨f33, fd33, F33, m33, b33⟩, ⟨A.stL, A.stC, A.stM⟩⟩, D32, D28⟩
end
end Lw
set_option Elab.async false
set_option linter.all false
set_option maxRecDepth 100000
set_option maxHeartbeats 4000000
namespace Lw
open PySem PySem.Spec PyProof.Rows L2 LamX
theorem exStr {K : PySem.W.Frag} {x y : Str} {t : Tok} (h : PySem.W.nsIn K mainGlobals x = some (some (.str y t))) : ∃ t, PySem.W.nsIn K mainGlobals x = some (some (.str y t)) := ⟨t, h⟩
theorem exInt {K : PySem.W.Frag} {x : Str} {i : Int} {t : Tok} (h : PySem.W.nsIn K mainGlobals x = some (some (.int i t))) : ∃ t, PySem.W.nsIn K mainGlobals x = some (some (.int i t)) := ⟨t, h⟩
def qual1 : Str := ("_law_signs_right" : Str) ++ ".<locals>." ++ "<lambda>"
def qual2 : Str := ("_law_rows_right" : Str) ++ ".<locals>." ++ "<lambda>"
def qual3 : Str := ("_law_counts_right" : Str) ++ ".<locals>." ++ "<lambda>"
def tabsT (P1 P2 P3 : Addr) : List (Addr × Str) := [(P1, qual1), (P2, qual2), (P3, qual3)]
theorem tabs_mem {P1 P2 P3 : Addr} {p : Addr × Str} (h : p ∈ tabsT P1 P2 P3) : p = (P1, qual1) ∨ p = (P2, qual2) ∨ p = (P3, qual3) := by
  simpa [tabsT] using h
theorem walk {l : PySem.W.OpenLaw} {q : Program} {loose : List Str} {XP : (Str → Option Value) → Heap → Prop} {d : DefRec} {K : Params → PySem.W.Frag} {as : List Addr} {e : ∀ P, as = (K P).map (·.1)} {ts : List Addr} (hn : l.most = some 63) (hdf : d.params.defaults = []) (hname : d.name = "law")
    (all : ∀ w : World, ∃ CL CR CC CM BE LE P1 P2 P3, AllAt (K w.params) ts CL CR CC CM BE LE P1 P2 P3) : PySem.W.WalkO q loose XP (PySem.W.kmHook K as e ts).says l.row.toRowW d [] (fun f vs => PySem.call f vs) := by
  refine Att.attach_callB hn hdf fun w s₀ s₁ mg mb fa o pm cd doc a vs ns G Y ho hd hcd hmg hobj hints hlen hbits hg => ?_
  have KX := PySem.W.km_in_of Y
  have tabs := PySem.W.km_tabs_of Y
  obtain ⟨CL, CR, CC, CM, BE, LE, P1, P2, P3, A⟩ := all w
  obtain ⟨f41, fd41, F41, a41⟩ := A.d41
  obtain ⟨f40, fd40, F40, a40⟩ := A.d40
  rw [hname] at hmg
  cases hmg.symm.trans (PySem.W.mg_of KX G.T.g a41)
  obtain ⟨g1, fd1, c1, Fn1, aP1, h1, m1, n1⟩ := A.p1
  obtain ⟨g2, fd2, c2, Fn2, aP2, h2, m2, n2⟩ := A.p2
  obtain ⟨g3, fd3, c3, Fn3, aP3, h3, m3, n3⟩ := A.p3
  have bd1 := Fn1.toFun.binds (ps := ["_law_pot_here", "_law_signs_here"]) fun _ _ _ _ _ _ us hl => match us, hl with | [_, _], _ => rfl
  have bd2 := Fn2.toFun.binds (ps := ["_law_pot_here", "_law_signs_here"]) fun _ _ _ _ _ _ us hl => match us, hl with | [_, _], _ => rfl
  have bd3 := Fn3.toFun.binds (ps := ["_law_pot_here", "_law_signs_here"]) fun _ _ _ _ _ _ us hl => match us, hl with | [_, _], _ => rfl
  have bd40 := F40.binds (ps := ["_law_pot_here"]) fun _ _ _ _ _ _ us hl => match us, hl with | [_], _ => rfl
  have bd41 : ∀ (s' : Shared) (u : Value), BindsTo s' fd41 ⟨[u], []⟩ [("_law_script", u)] := by
    obtain ⟨oc, od, kV, doc', pm', an, cdv, ct, osl, rfl, _⟩ := F41.ex
    exact fun s' u => .of_eq rfl
  have inT1 : (P1, qual1) ∈ tabsT P1 P2 P3 := by simp [tabsT]
  have inT2 : (P2, qual2) ∈ tabsT P1 P2 P3 := by simp [tabsT]
  have inT3 : (P3, qual3) ∈ tabsT P1 P2 P3 := by simp [tabsT]
  have of3 : ∀ {R : Addr × Addr → Prop}, R (c1, P1) → R (c2, P2) → R (c3, P3) → ∀ p ∈ [(c1, P1), (c2, P2), (c3, P3)], R p := fun r1 r2 r3 p hp => by
    simp only [List.mem_cons, List.not_mem_nil, or_false] at hp
    rcases hp with rfl | rfl | rfl
    · exact r1
    · exact r2
    · exact r3
  refine law_run (P := l.prog) (w := w) (K := K w.params) (k := 13) (cs := [(c1, P1), (c2, P2), (c3, P3)]) (x := "_law_script") (sp := spLaw (K w.params) (tabsT P1 P2 P3)) KX G.T.g G.T.b G.T.builtins G.T.nolimit hg (of3 (tabs _ m1) (tabs _ m2) (tabs _ m3)) (of3 n1 n2 n3)
    (of3 (PySem.W.codeHd_of_K KX h1) (PySem.W.codeHd_of_K KX h2) (PySem.W.codeHd_of_K KX h3)) G.T.bmain hobj hints (Nat.le_trans hlen (by decide)) ⟨rfl, by decide, by decide⟩ (fun base kinB glB tb => ?_) bd41 (fun H hH hS => ?_)
  · obtain ⟨kit, DS, DP⟩ := made (P := l.prog) (w := w) (base := base) KX G.T.g A
    have u1 : ∀ p ∈ tabsT P1 P2 P3, p.1 = P1 → p.2 = qual1 := fun p hp e => by
      rcases tabs_mem hp with rfl | rfl | rfl
      · rfl
      · exact absurd e.symm A.p12
      · exact absurd e.symm A.p13
    have u2 : ∀ p ∈ tabsT P1 P2 P3, p.1 = P2 → p.2 = qual2 := fun p hp e => by
      rcases tabs_mem hp with rfl | rfl | rfl
      · exact absurd e A.p12
      · rfl
      · exact absurd e.symm A.p23
    have u3 : ∀ p ∈ tabsT P1 P2 P3, p.1 = P3 → p.2 = qual3 := fun p hp e => by
      rcases tabs_mem hp with rfl | rfl | rfl
      · exact absurd e A.p13
      · exact absurd e A.p23
      · rfl
    have D1 : DefQ l.prog w (K w.params) mg base 11 "_law_signs_right" ["_law_pot_here", "_law_signs_here"] (spPart (tabsT P1 P2 P3)) := ⟨g1, fd1, ok_part1 Fn1 kit (tb (c1, P1) (by simp)) inT1 u1, PySem.W.mg_of KX G.T.g aP1, Fn1.kp, bd1⟩
    have D2 : DefQ l.prog w (K w.params) mg base 11 "_law_rows_right" ["_law_pot_here", "_law_signs_here"] (spPart (tabsT P1 P2 P3)) := ⟨g2, fd2, ok_part2 Fn2 kit (tb (c2, P2) (by simp)) inT2 u2, PySem.W.mg_of KX G.T.g aP2, Fn2.kp, bd2⟩
    have D3 : DefQ l.prog w (K w.params) mg base 11 "_law_counts_right" ["_law_pot_here", "_law_signs_here"] (spPart (tabsT P1 P2 P3)) := ⟨g3, fd3, ok_part3 Fn3 kit (tb (c3, P3) (by simp)) inT3 u3, PySem.W.mg_of KX G.T.g aP3, Fn3.kp, bd3⟩
    have DR : DefQ l.prog w (K w.params) mg base 12 "_law_right" ["_law_pot_here"] (spRight (tabsT P1 P2 P3)) := ⟨f40, fd40, ok_right F40 kit DS D1 D2 D3, PySem.W.mg_of KX G.T.g a40, F40.kp, bd40⟩
    exact ok_law F41 kit.B DP DR
  · refine ⟨a, ns, rfl, hS, hlen, fun p hp => ?_, fun _ => rfl⟩
    rcases tabs_mem hp with rfl | rfl | rfl
    · exact TabS.nil (hH (c1, P1) (by simp))
    · exact TabS.nil (hH (c2, P2) (by simp))
    · exact TabS.nil (hH (c3, P3) (by simp))
end Lw
set_option Elab.async false
set_option linter.all false
set_option maxRecDepth 100000
open PySem PySem.W PyProof.Rows
set_option maxHeartbeats 0 in
theorem PySem.Challenge.cw_fewheld_k10_rows_refused_holds : PySem.Challenge.rw_fewheld_k10_rows_refused.Holds := by
  w_on; o_law; k_head; (case hw => w_witness2)
  k_fill
  refine Lw.walk rfl rfl rfl (fun w => ?_)
  refine' ⟨_, _, _, _, _, _, 285, 292, 299, ?A⟩
  case A =>
    refine' Lw.AllAt.mk ?d8 ?dC ?d9 ?d14 ?d15 ?d16 ?d17 ?d18 ?d19 ?d20 ?d21 ?d22 ?d23 ?d24 ?d25 ?d26 ?d28 ?d29 ?d30 ?d31 ?d32 ?d33 ?d34 ?d35 ?d36 ?d40 ?d41 ?p1 ?p2 ?p3 ?p12 ?p13 ?p23 ?eL ?eR ?eC ?eM ?gB ?gE ?nvL ?nvR ?nvC ?nvW ?nvM ?kBL ?kbL ?kBR ?kbR ?kBC ?kbC ?kBM ?kbM ?xll ?xrl ?xrr ?xcl ?xcr ?xcc ?xml ?xmr ?xmc ?xmm ?stL ?stC ?stM ?alpha ?most ?longest ?n_divmod ?n_int ?n_len ?n_abs ?n_max ?n_min ?n_list ?n_range ?n_sorted ?n_all ?n_isinstance ?n_str ?n_bool ?n_zip ?n_repr ?n_ValueError ?n_ArithmeticError
    case eL =>
      refine' Lw.errAt ?a ?i ?l ?c ?k ?t ?e1 ?e2 ?e3 ?e4 ?e5 ?e6 ?e7 ?e8 ?e9 ?e10 ?e11 ?e12 ?e13
      (case a => k_is); (case i => k_is); (case l => k_is); (case c => k_is); (case k => k_is); (case t => k_is)
      (case e1 => kernel_rfl); (case e2 => kernel_rfl); (case e3 => k_is); (case e4 => k_is); (case e5 => k_is); (case e6 => k_is); (case e7 => k_is)
      (case e8 => k_is); (case e9 => k_is); (case e10 => k_is); (case e11 => k_is); (case e12 => k_is); (case e13 => k_is)
    case eR =>
      refine' Lw.errAt ?a ?i ?l ?c ?k ?t ?e1 ?e2 ?e3 ?e4 ?e5 ?e6 ?e7 ?e8 ?e9 ?e10 ?e11 ?e12 ?e13
      (case a => k_is); (case i => k_is); (case l => k_is); (case c => k_is); (case k => k_is); (case t => k_is)
      (case e1 => kernel_rfl); (case e2 => kernel_rfl); (case e3 => k_is); (case e4 => k_is); (case e5 => k_is); (case e6 => k_is); (case e7 => k_is)
      (case e8 => k_is); (case e9 => k_is); (case e10 => k_is); (case e11 => k_is); (case e12 => k_is); (case e13 => k_is)
    case eC =>
      refine' Lw.errAt ?a ?i ?l ?c ?k ?t ?e1 ?e2 ?e3 ?e4 ?e5 ?e6 ?e7 ?e8 ?e9 ?e10 ?e11 ?e12 ?e13
      (case a => k_is); (case i => k_is); (case l => k_is); (case c => k_is); (case k => k_is); (case t => k_is)
      (case e1 => kernel_rfl); (case e2 => kernel_rfl); (case e3 => k_is); (case e4 => k_is); (case e5 => k_is); (case e6 => k_is); (case e7 => k_is)
      (case e8 => k_is); (case e9 => k_is); (case e10 => k_is); (case e11 => k_is); (case e12 => k_is); (case e13 => k_is)
    case eM =>
      refine' Lw.errAt ?a ?i ?l ?c ?k ?t ?e1 ?e2 ?e3 ?e4 ?e5 ?e6 ?e7 ?e8 ?e9 ?e10 ?e11 ?e12 ?e13
      (case a => k_is); (case i => k_is); (case l => k_is); (case c => k_is); (case k => k_is); (case t => k_is)
      (case e1 => kernel_rfl); (case e2 => kernel_rfl); (case e3 => k_is); (case e4 => k_is); (case e5 => k_is); (case e6 => k_is); (case e7 => k_is)
      (case e8 => k_is); (case e9 => k_is); (case e10 => k_is); (case e11 => k_is); (case e12 => k_is); (case e13 => k_is)
    (case gB => k_is); (case gE => k_is); (case nvL => k_is); (case nvR => k_is); (case nvC => k_is); (case nvW => k_is); (case nvM => k_is)
    (case kBL => kernel_rfl)
    (case kBR => kernel_rfl)
    (case kBC => kernel_rfl)
    (case kBM => kernel_rfl)
    (case kbL => kernel_rfl)
    (case kbR => kernel_rfl)
    (case kbC => kernel_rfl)
    (case kbM => kernel_rfl)
    (case xll => kernel_rfl)
    (case xrl => kernel_rfl)
    (case xrr => kernel_rfl)
    (case xcl => kernel_rfl)
    (case xcr => kernel_rfl)
    (case xcc => kernel_rfl)
    (case xml => kernel_rfl)
    (case xmr => kernel_rfl)
    (case xmc => kernel_rfl)
    (case xmm => kernel_rfl)
    (case stL => k_is); (case stC => k_is); (case stM => k_is)
    (case alpha => (refine' Lw.exStr ?h; (case h => k_is)))
    (case most => (refine' Lw.exInt ?h; (case h => k_is)))
    (case longest => (refine' Lw.exInt ?h; (case h => k_is)))
    (case n_divmod => k_is)
    (case n_int => k_is)
    (case n_len => k_is)
    (case n_abs => k_is)
    (case n_max => k_is)
    (case n_min => k_is)
    (case n_list => k_is)
    (case n_range => k_is)
    (case n_sorted => k_is)
    (case n_all => k_is)
    (case n_isinstance => k_is)
    (case n_str => k_is)
    (case n_bool => k_is)
    (case n_zip => k_is)
    (case n_repr => k_is)
    (case n_ValueError => k_is)
    (case n_ArithmeticError => k_is)
    (case d8 => (refine' Lw.funAt ?a ?l ?c ?k; (case a => k_is); (case l => k_is); (case c => k_is); (case k => k_is)))
    (case dC => (refine' Lw.funAt ?a ?l ?c ?k; (case a => k_is); (case l => k_is); (case c => k_is); (case k => k_is)))
    (case d9 => (refine' Lw.funAt ?a ?l ?c ?k; (case a => k_is); (case l => k_is); (case c => k_is); (case k => k_is)))
    (case d14 => (refine' Lw.funAt ?a ?l ?c ?k; (case a => k_is); (case l => k_is); (case c => k_is); (case k => k_is)))
    (case d15 => (refine' Lw.funAt ?a ?l ?c ?k; (case a => k_is); (case l => k_is); (case c => k_is); (case k => k_is)))
    (case d16 => (refine' Lw.funAt ?a ?l ?c ?k; (case a => k_is); (case l => k_is); (case c => k_is); (case k => k_is)))
    (case d17 => (refine' Lw.funAt ?a ?l ?c ?k; (case a => k_is); (case l => k_is); (case c => k_is); (case k => k_is)))
    (case d18 => (refine' Lw.funAt ?a ?l ?c ?k; (case a => k_is); (case l => k_is); (case c => k_is); (case k => k_is)))
    (case d19 => (refine' Lw.funAt ?a ?l ?c ?k; (case a => k_is); (case l => k_is); (case c => k_is); (case k => k_is)))
    (case d20 => (refine' Lw.funAt ?a ?l ?c ?k; (case a => k_is); (case l => k_is); (case c => k_is); (case k => k_is)))
    (case d21 => (refine' Lw.funAt ?a ?l ?c ?k; (case a => k_is); (case l => k_is); (case c => k_is); (case k => k_is)))
    (case d22 => (refine' Lw.funAt ?a ?l ?c ?k; (case a => k_is); (case l => k_is); (case c => k_is); (case k => k_is)))
    (case d23 => (refine' Lw.funAt ?a ?l ?c ?k; (case a => k_is); (case l => k_is); (case c => k_is); (case k => k_is)))
    (case d24 => (refine' Lw.funAt ?a ?l ?c ?k; (case a => k_is); (case l => k_is); (case c => k_is); (case k => k_is)))
    (case d25 => (refine' Lw.funAt ?a ?l ?c ?k; (case a => k_is); (case l => k_is); (case c => k_is); (case k => k_is)))
    (case d26 => (refine' Lw.funAt ?a ?l ?c ?k; (case a => k_is); (case l => k_is); (case c => k_is); (case k => k_is)))
    (case d28 => (refine' Lw.funAt ?a ?l ?c ?k; (case a => k_is); (case l => k_is); (case c => k_is); (case k => k_is)))
    (case d29 => (refine' Lw.funAt ?a ?l ?c ?k; (case a => k_is); (case l => k_is); (case c => k_is); (case k => k_is)))
    (case d30 => (refine' Lw.funAt ?a ?l ?c ?k; (case a => k_is); (case l => k_is); (case c => k_is); (case k => k_is)))
    (case d31 => (refine' Lw.funAt ?a ?l ?c ?k; (case a => k_is); (case l => k_is); (case c => k_is); (case k => k_is)))
    (case d32 => (refine' Lw.funAt ?a ?l ?c ?k; (case a => k_is); (case l => k_is); (case c => k_is); (case k => k_is)))
    (case d33 => (refine' Lw.funAt ?a ?l ?c ?k; (case a => k_is); (case l => k_is); (case c => k_is); (case k => k_is)))
    (case d34 => (refine' Lw.funAt ?a ?l ?c ?k; (case a => k_is); (case l => k_is); (case c => k_is); (case k => k_is)))
    (case d35 => (refine' Lw.funAt ?a ?l ?c ?k; (case a => k_is); (case l => k_is); (case c => k_is); (case k => k_is)))
    (case d36 => (refine' Lw.funAt ?a ?l ?c ?k; (case a => k_is); (case l => k_is); (case c => k_is); (case k => k_is)))
    (case d40 => (refine' Lw.funAt ?a ?l ?c ?k; (case a => k_is); (case l => k_is); (case c => k_is); (case k => k_is)))
    (case d41 => (refine' Lw.funAt ?a ?l ?c ?k; (case a => k_is); (case l => k_is); (case c => k_is); (case k => k_is)))
    (case p1 => (refine' Lw.funCAt ?a ?l ?c ?k ?h ?m ?n; (case a => k_is); (case l => k_is); (case c => k_is); (case k => k_is); (case h => kernel_rfl); (case m => decide); (case n => kernel_rfl)))
    (case p2 => (refine' Lw.funCAt ?a ?l ?c ?k ?h ?m ?n; (case a => k_is); (case l => k_is); (case c => k_is); (case k => k_is); (case h => kernel_rfl); (case m => decide); (case n => kernel_rfl)))
    (case p3 => (refine' Lw.funCAt ?a ?l ?c ?k ?h ?m ?n; (case a => k_is); (case l => k_is); (case c => k_is); (case k => k_is); (case h => kernel_rfl); (case m => decide); (case n => kernel_rfl)))
    (case p12 => decide); (case p13 => decide); (case p23 => decide)
