import PyProof.Rows.All
import Wide.All
import OpenK.AllK
import Wide.FinOn
import HandS.ForMost
import HandS.ForExc
import HandS.ExcValue
import HandS.ExcInit
import HandS.ExcIs
import HandS.IsInst
import HandS.Wide
import HandS.DeepEq
import HandS.TupAny
import HandS.Defaults
import HandS.ExcField
import PyProof.ReprRoads
import HandS.Walk
import HandS.Style
import HandS.DictComp
import HandS.LawCells
import PyProof.TupleOfStr
import PyProof.EqKinds
import PySem.Challenge.RW_lasttouch_k50_programs_are_recognized
import HandS.TupMul
import HandS.SetBool
import HandS.Set
import HandS.More
set_option Elab.async false
set_option linter.all false
set_option maxRecDepth 100000
set_option maxHeartbeats 8000000
namespace PySem
namespace KwX
open PySem.W PySem.Calls PyProof.Rows PySem.HandSPX
section
variable {M : Model} {A : Around} {E : Value → Shared → Prop} {h : Heap} {g : Array GenState} {d : Drawn} {t : Nat} {os : OsState}
variable {nm q : Str} {C N : Addr} {bs bm bmB : List Value} {hdct : Bool} {sn : List Str} {sub : List Value} {ab : Bool} {col : Option Bool} {dd : Option Addr} {k0 k1 k2 k3 k5 : Option Value} {B newId initId : String}
theorem chkNew (F : ExcBaseFacts B newId initId bmB) (hT : ∀ X : String, bm.contains (.type X) = bmB.contains (.type X)) {us : List Value} {kw : List (Str × Value)} {Q : Unit → Shared → Prop}
    (hC : h.get? C = some (excClassObj nm q C N bs bm hdct sn sub ab col dd k0 k1 k2 k3 k5 newId))
    (hq : Q () ⟨h, g, d, t, os⟩) : wpAny M A (checkBuiltinCall newId ⟨.ref C :: us, kw⟩) Q E ⟨h, g, d, t, os⟩ := by
  have c1 : (Value.ref C :: bm).contains (.type B) = true := by rw [List.contains_cons, hT, F.hasB, Bool.or_true]
  have c2 := F.noStar
  simp only [checkBuiltinCall, F.newKind, F.newSplit, F.newRow]
  repeat (first | refine wpAny_loadPart_at hC ?_ | (refine wpAny_isSubtype_exc hC ?_; rw [c1]) | refine wpAny_staticBase_exc hC ?_ | refine wpAny_madeBy_exc hC ?_ | simp only [bne_self_eq_false, Bool.false_eq_true, if_false] | wp_step)
  exact hq
end
section
variable {prog : Program} {w : World} {A : Around} {E : Value → Shared → Prop} {R : Result → Shared → Prop} {h : Heap} {g : Array GenState} {d : Drawn} {t : Nat} {os : OsState}
variable {nm q : Str} {C N : Addr} {bs bm bmB : List Value} {hdct : Bool} {sn : List Str} {sub : List Value} {ab : Bool} {col : Option Bool} {dd : Option Addr} {k0 k1 k2 k3 k5 : Option Value} {B newId initId : String}
theorem newKw (F : ExcBaseFacts B newId initId bmB) (hT : ∀ X : String, bm.contains (.type X) = bmB.contains (.type X)) {us : List Value} {kw : List (Str × Value)}
    (hC : h.get? C = some (excClassObj nm q C N bs bm hdct sn sub ab col dd k0 k1 k2 k3 k5 newId))
    (hq : R (.ok (.ret (.ref (h.objs.size + 1)))) ⟨(h.push { cls := .type "tuple", data := .seq us.toArray }).push
      { cls := .ref C, data := .fields #[.ref h.objs.size, .none, .none, .none, .bool false, .none] }, g, d, t, os⟩) (hrest : us.length ≤ sizeLine) :
    codeAny (model prog w) A (.builtin newId ⟨.ref C :: us, kw⟩) R ⟨h, g, d, t, os⟩ := by
  have c0 := F.ends
  have c1 : (Value.ref C :: bm).contains (.type B) = true := by rw [List.contains_cons, hT, F.hasB, Bool.or_true]
  have c2 : (Value.ref C :: bm).contains (.type "AttributeError") = false := by rw [List.contains_cons, hT, F.noAttr]; rfl
  have c3 : (Value.ref C :: bm).contains (.type "NameError") = false := by rw [List.contains_cons, hT, F.noName]; rfl
  refine codeAny_builtinAt F.entry ?_
  unfold Builtin.«BaseException.__new__»
  refine wpAt_bind ?_
  show wpAt _ _ _ (stack >>= _) _ _ _
  refine wpAt_bind (wpAt_stack fun p below => wpAt_of_wpAny ?_)
  wp_walk
  refine wpAt_of_wpAny ?_
  rw [F.owner]
  repeat (first | with_reducible refine wpAny_madeHere_exc F.canon hC ?_ | with_reducible refine wpAny_loadPart_at hC ?_ | (with_reducible refine wpAny_isSubtype_exc hC ?_; first | rw [c1] | rw [c2] | rw [c3]) | wp_step)
  show R _ _
  rw [Heap.size_push]
  exact hq
theorem tcallKw (F : ExcBaseFacts B newId initId bmB) (hT : ∀ X : String, bm.contains (.type X) = bmB.contains (.type X)) {us : List Value} {kw : List (Str × Value)} {fI : Addr} {Q : Fin → Shared → Prop}
    (hC : h.get? C = some (excClassObj nm q C N bs bm hdct sn sub ab col dd k0 k1 k2 k3 k5 newId))
    (hi : W.Looks (model prog w) h (typeLookup (.ref C) "__init__") (some (.ref fI))) (hb : ∀ self, W.Looks (model prog w) h (bindSpecial (.ref fI) self) (.ref fI, [self])) (hrest : us.length ≤ sizeLine)
    (hq : codeAny (model prog w) A (.call (.ref fI) ⟨.ref (h.objs.size + 1) :: us, kw⟩)
      (fun r s' => match r with | .ok (.ret v) => v = .none ∧ Q (.done (.ret (.ref (h.objs.size + 1)))) s' | .ok _ => False | .error e => E e s')
      ⟨(h.push (W.kdv_tup us)).push (excO C h.objs.size), g, d, t, os⟩) :
    wpAny (model prog w) A (Builtin.«type.__call__» ⟨.ref C :: us, kw⟩) Q E ⟨h, g, d, t, os⟩ := by
  repeat (first | with_reducible refine wpAny_loadPart_at hC ?_ | with_reducible refine wpAny_madeBy_exc hC ?_ | wp_step)
  refine codeAny_call_builtin_code (Code.quiet_builtin _ F.quiet) (chkNew F hT hC ?_)
  refine newKw F hT hC ?_ hrest
  show wpAny _ _ _ _ _ _
  have k : ∀ b o, h.get? b = some o → ((h.push (W.kdv_tup us)).push (excO C h.objs.size)).get? b = some o := fun b o e => Heap.get?_push_of_some _ (Heap.get?_push_of_some _ e)
  have hC' := k _ _ hC
  have hgt : ((h.push (W.kdv_tup us)).push (excO C h.objs.size)).get? (h.objs.size + 1) = some (excO C h.objs.size) := by heap_get
  have c4 : (Value.ref C :: bm).contains (.ref C) = true := by simp
  have i1 := hi.keeps k
  have b1 := (hb (.ref (h.objs.size + 1))).keeps k
  unfold isInstance
  repeat (first | with_reducible refine wpAny_loadPart_at hgt ?_ | (with_reducible refine wpAny_isSubtype_exc hC' ?_; rw [c4]) | wp_step)
  show wpAny _ _ (typeLookup (.ref C) _) _ _ _
  refine i1.at ?_
  refine wpAny_holding (wpAny_bind (b1.at ?_))
  refine wpAny_bind (wpAny_call (codeAny_mono hq fun r s' z => ?_))
  rcases r with e | (v | _ | _ | _) <;> first | exact z | exact z.elim | skip
  obtain ⟨rfl, z⟩ := z
  first
    | exact wpAny_pure (wpAny_pure z)
    | (wp_walk; exact z)
theorem ownKw (F : ExcBaseFacts B newId initId bmB) (hT : ∀ X : String, bm.contains (.type X) = bmB.contains (.type X)) {us : List Value} {kw : List (Str × Value)} {fI : Addr}
    (hC : h.get? C = some (excClassObj nm q C N bs bm hdct sn sub ab col dd k0 k1 k2 k3 k5 newId))
    (hi : W.Looks (model prog w) h (typeLookup (.ref C) "__init__") (some (.ref fI))) (hb : ∀ self, W.Looks (model prog w) h (bindSpecial (.ref fI) self) (.ref fI, [self])) (hrest : us.length ≤ sizeLine)
    (hq : codeAny (model prog w) (A.under (.builtin "type.__call__" ⟨.ref C :: us, kw⟩)) (.call (.ref fI) ⟨.ref (h.objs.size + 1) :: us, kw⟩) (W.InitBack (h.objs.size + 1) R)
      ⟨(h.push (W.kdv_tup us)).push (excO C h.objs.size), g, d, t, os⟩) :
    codeAny (model prog w) A (.call (.ref C) ⟨us, kw⟩) R ⟨h, g, d, t, os⟩ := by
  have f1 := tc_lookup
  have f2 := tc_bind (.ref C)
  have f3 : (⟨h, g, d, t, os⟩ : Shared).TypeIs (.ref C) "type" := ⟨_, hC, rfl⟩
  refine codeAny_of_tree ?_
  show wpAny _ _ (callAny (.ref C) _) _ _ _
  repeat (any_goals (first | assumption | with_reducible refine wpAny_loadPart_at hC ?_ | wp_step))
  refine ⟨rfl, ?_⟩
  refine codeAny_call_builtin_at (Code.quiet_builtin _ (by decide +kernel)) entry_typeCall (wpAny_check_type_call_sub hC (tcallKw F hT hC hi hb hrest ?_))
  refine codeAny_mono hq fun r s' z => ?_
  rcases r with e | (v | _ | _ | _) <;> exact z
end
end KwX
end PySem
namespace PySem.W
open PySem PySem.Spec PySem.Calls PyProof.Rows
section
variable {prog : Program} {w : World} {A : Around} {E : Value → Shared → Prop} {s : Shared} {K : Frag} {x D : Addr} {ox : Obj} {od : Option Obj}
theorem clsE54 {Q : Option Value → Shared → Prop} (h1 : findIn K (.ref D) "__getattribute__" = some (some (.builtin "BaseException.__getattribute__"))) (h2 : findIn K (.ref D) "__getattr__" = some none)
    (h3 : subIn K (.ref D) (.type "BaseException") = some true)
    (hf : findObj K D od "__class__" = some (.bind (.builtin "getset_descriptor.__get__") (.builtin "object.__class__"))) (h4 : mroIn K D (.type "object") = some true)
    (X : K.In s.heap) (I : InstAt s.heap x ox D od) (h : Q (some (.ref D)) { s with toks := s.toks + 1 }) : wpAny (model prog w) A (getAttr? (.ref x) "__class__") Q E s := by
  obtain ⟨hp, g, d, t, os⟩ := s
  have g0 := I.type (M := model prog w)
  have g1 := looks_findIn (M := model prog w) X h1
  have g2 := looks_findIn (M := model prog w) X h2
  have g3 := looks_find (M := model prog w) X I hf
  have sub : Looks (model prog w) hp (isInstance (.ref x) (.type "BaseException")) true := g0.andThen (looks_subIn X h3)
  have e0 : (false && onTheHeap (Value.builtin "BaseException.__getattribute__")) = false := rfl
  have e2 : (Value.builtin "BaseException.__getattribute__" == Value.builtin "object.__getattribute__") = false := by decide +kernel
  have e1 : (onTheHeap (Value.ref D) && Value.builtin "BaseException.__getattribute__" == Value.builtin "object.__getattribute__") = false := by rw [e2]; rfl
  unfold getAttr? getAttrBy? getAttrBy
  refine wpAny_bind (wpAny_mkText (wpAny_bind (wpAny_attempt (wpAny_holding (wpAny_bind (g0.at (wpAny_bind (g1.at ?_))))))))
  show wpAny _ _ (if (onTheHeap (Value.ref D) && Value.builtin "BaseException.__getattribute__" == Value.builtin "object.__getattribute__") = true then _ else _) _ _ _
  rw [e1, if_neg Bool.false_ne_true]
  unfold getAttrByItsOwn hookBefore
  refine wpAny_bind ?_
  rw [if_pos (show onTheHeap (Value.ref D) = true from rfl)]
  refine g2.at ?_
  refine wpAny_bind (wpAny_attempt (wpAny_holding ?_))
  unfold callGetattribute
  rw [e0, if_neg Bool.false_ne_true]
  unfold boundAndCalled
  rw [PySem.F.excAttr_ValueError.ga.bind (.ref x)]
  refine wpAny_bind (wpAny_pure ?_)
  show wpAny _ _ (call (.builtin "BaseException.__getattribute__") [.ref x, .str "__class__" t]) _ _ _
  refine wpAny_call (codeAny_call_builtin PySem.F.excAttr_ValueError.ga.plain PySem.F.entry_bexc_ga ?_)
  refine @check_slot (model prog w) _ _ ⟨hp, g, d, t + 1, os⟩ "BaseException.__getattribute__" "BaseException" "__getattribute__" (.ref x) [.str "__class__" t] [] _ (by decide +kernel) (by decide +kernel) sub (PySem.F.args_bexc_ga (.ref x) (.str "__class__" t)) ?_
  unfold Builtin.«object.__getattribute__»
  refine wpAny_bind (wpAny_of_eq (a := ((Value.ref x : Value), [Value.str "__class__" t])) (by first | rfl | (simp only [slotArgs]; rfl)) ?_)
  refine wpAny_bind (wpAny_pure (wpAny_bind (g0.at (wpAny_bind (g3.at ?_)))))
  show wpAny _ _ (holding [Value.builtin "object.__class__"] (call (.builtin "getset_descriptor.__get__") [.builtin "object.__class__", .ref x, .ref D]) >>= ret) _ _ _
  refine wpAny_bind (wpAny_holding (wpAny_call (class_get (s := ⟨hp, g, d, t + 1, os⟩) (ox := ox) (od := od) X I h4 ?_)))
  refine wpAny_pure ?_
  show wpAny _ _ (handedOut (.ref D)) _ _ _
  rw [handedOut_of (v := .ref D) rfl]
  first
    | exact wpAny_pure (wpAny_pure h)
    | exact wpAny_pure h
    | exact wpAny_pure (wpAny_bind (wpAny_pure (wpAny_pure h)))
end
end PySem.W
namespace L54
open PySem PySem.Spec PyProof.Rows L2
theorem kitx54 {K : PySem.W.Frag} {D x : Addr} {ox : Obj} {od : Option Obj} (c : ExcC K D) : PySem.W.KitX K (.ref x) (.ref D) (fun h => PySem.W.InstAt h x ox D od) where
  ty := fun _ _ _ I => I.type
  it := fun _ _ X _ => by
    obtain ⟨cdD, hcD, _⟩ := PySem.W.any_some c.hd
    unfold PySem.W.clsIn at hcD
    split at hcD
    · rename_i c' d' cd' sl' ho
      intro A' Q' E' s' k q
      unfold isType loadHead
      exact wpAny_bind (wpAny_loadPart (k _ _ (X _ _ ho)) (wpAny_pure q))
    · cases hcD
  ne := fun h tp dd its n sl X htp => by
    obtain ⟨cdD, hcD, _⟩ := PySem.W.any_some c.hd
    refine Bool.eq_false_iff.mpr fun q => ?_
    have e : D = tp := Value.ref.inj (beq_iff_eq.mp q)
    subst e
    unfold PySem.W.clsIn at hcD
    split at hcD
    · rename_i c' d' cd' sl' ho
      have z := (X _ _ ho).symm.trans htp
      cases z
    · cases hcD
  ca := fun X I k => by
    have hc : (PySem.W.clsIn K D).isSome = true := by
      obtain ⟨cd, hc, _⟩ := PySem.W.any_some c.hd
      rw [hc]
      rfl
    refine PySem.W.clsE54 c.hg c.hk c.hs ?_ c.hm X I k
    cases od with
    | none => exact PySem.W.findObj_dataN hc c.ha c.hn c.ht
    | some o => exact PySem.W.findObj_data hc c.ha c.hn c.ht
/-- what is said of a value's class where it is asked by isinstance: a plain thing, or an exception of ours -/
inductive TyE (K : PySem.W.Frag) (H : Hp) : V → Value → Prop where
  | of {x : V} {t : Value} (h : TyX K H x t) : TyE K H x t
  | ex {a C : Addr} {d : Option Addr} (c : ExcC K C) (e : H a = some (exo a C d)) (ed : ∀ dx, d = some dx → ∃ fs, H dx = some (exd dx fs)) : TyE K H (.ref a) (.ref C)
section
variable {X : Cx} {pins : List (Addr × Obj)} {σ : L2.St} {H : Hp} {s : Shared}
theorem inst54 (I : Inv X pins σ H s) {a C : Addr} {d : Option Addr} (e : H a = some (exo a C d)) (ed : ∀ dx, d = some dx → ∃ fs, H dx = some (exd dx fs)) :
    ∃ (ox : Obj) (od : Option Obj), PySem.W.InstAt s.heap a ox C od := by
  obtain ⟨t1, ho⟩ := exo_at I.hok e
  cases d with
  | none => exact ⟨_, none, ho, rfl, rfl, trivial⟩
  | some dx =>
    obtain ⟨fs, q⟩ := ed dx rfl
    obtain ⟨mA, ⟨o, es, ep, hod, _⟩, _⟩ := exd_at I.hok q
    exact ⟨_, some o, ho, rfl, rfl, hod⟩
theorem kitE {x : V} {u t : Value} (I : Inv X pins σ H s) (rx : RelV x u) (ty : TyE X.K H x t) : ∃ P : Heap → Prop, PySem.W.KitX X.K u t P ∧ P s.heap ∧ u ≠ .builtin "__main__.__loader__#opaque" := by
  cases ty with
  | of h => exact kit_of I rx h
  | ex c e ed =>
    cases rx
    obtain ⟨ox, od, J⟩ := inst54 I e ed
    exact ⟨_, kitx54 c, J, fun z => nomatch z⟩
def rIsE1 (K : PySem.W.Frag) : List V → Hp → VK → Prop := fun xs H Q => ∃ (x c : V) (t u : Value) (b : Bool), xs = [x, c] ∧ ClsV c u ∧ TyE K H x t ∧ PySem.W.kitOne K t u = some b ∧ Q (.bl b) H
def rIsET (K : PySem.W.Frag) : List V → Hp → VK → Prop := fun xs H Q => ∃ (x : V) (tp : Addr) (cs : List V) (t : Value) (us : List Value) (b : Bool), xs = [x, .ref tp] ∧ H tp = some (.tup cs) ∧ Paired ClsV cs us ∧ TyE K H x t ∧ PySem.W.kitAny K t us = some b ∧ Q (.bl b) H
theorem call_isE1 : CallR X (.builtin "isinstance") (rIsE1 X.K) := by
  intro pins s σ H xs us Q I r h
  obtain ⟨x, c, t, u, b, rfl, k, ty, e, q⟩ := h
  obtain ⟨u1, u2, rfl, r1, r2⟩ := vals2 r
  have e2 := k.eq r2
  subst e2
  obtain ⟨P, Z, p, hx⟩ := kitE I r1 ty
  exact PySem.W.kia_one Z I.kIn p e hx fun tk => ⟨.bl b, H, I.tok tk, rfl, q⟩
theorem call_isET : CallR X (.builtin "isinstance") (rIsET X.K) := by
  intro pins s σ H xs us Q I r h
  obtain ⟨x, tp, cs, t, ws, b, rfl, hT, k, ty, e, q⟩ := h
  obtain ⟨u1, u2, rfl, r1, r2⟩ := vals2 r
  cases (show u2 = Value.ref tp from r2)
  obtain ⟨P, Z, p, hx⟩ := kitE I r1 ty
  obtain ⟨_, its, rv, o, h1, h2, n, h3⟩ := (show ObjOk X.prog X.w H s.heap tp (.tup cs) from I.hok tp _ hT)
  have e3 := ClsV.all k rv
  subst e3
  obtain ⟨oc, od, dt, sl⟩ := o
  simp only at h2 h3
  subst h2 h3
  exact PySem.W.kia_tup Z I.kIn p h1 e hx fun tk => ⟨.bl b, H, I.tok tk, rfl, q⟩
end
/-! ### exceptions made as values -/
/-- an own class of errors without an `__init__`: the name stands in the module, the class is plain -/
structure ExN (K : PySem.W.Frag) (mg : Str → Option Value) (x : Str) (C : Addr) (bmB : List Value) : Prop where
  q : PySem.W.excIn K C bmB "ValueError.__new__" = true
  g : mg x = some (.ref C)
  k : PySem.W.keepIn K (.ref C) = true
section
variable {X : Cx} {B initId : String} {bmB : List Value} {C : Addr} {x : Str} {p pos : Pos}
theorem mkd {us : List Value} {pins : List (Addr × Obj)} {σ : L2.St} {H : Hp} {s : Shared} {Q : VK} (F : ExcBaseFacts B "ValueError.__new__" initId bmB) (n : ExN X.K X.mg x C bmB) (I : Inv X pins σ H s) (hz : us.length ≤ sizeLine)
    (q : ∀ a, H a = none → Q (.ref a) (upd H a (exo a C none))) : wpAny (model X.prog X.w) X.A (call (.ref C) us) (EP X pins σ Q) X.xe s := by
  obtain ⟨bm, N, nm, qn, bs, hdct, sn, sub, ab, col, dd, k0, k1, k2, k3, k5, mN, hC, hN, hni, T⟩ := exc_obj I.kIn n.q
  refine wpAny_call_exc_subT F T hC hN hni (fun h' a hm => ?_) hz
  have hn : H a = none := I.hok.gone hm.new
  obtain ⟨t, ht, _, _⟩ := hm.there
  exact ⟨.ref a, upd H a (exo a C none), I.laidN hm.keeps hm.new hn (exo_ok ht), rfl, q a hn⟩
theorem pe_ex0 (F : ExcBaseFacts B "ValueError.__new__" initId bmB) (n : ExN X.K X.mg x C bmB) (hg : Gl X x := by rfl) (hdb : (x == ("__debug__" : Str)) = false := by decide) :
    PE X (.Call (.Name x p) [] [] pos) (fun _ H Q => ∀ a, H a = none → Q (.ref a) (upd H a (exo a C none))) := by
  refine ⟨fun pins s σ H Q I h => ?_⟩
  refine wpAny_Call_Name_kw (ld_glob I hg n.g ?_ hdb)
  exact PySem.W.callWith_K0 I.kIn n.k (mkd (us := []) F n I (Nat.zero_le _) h)
theorem pe_ex1 {e : Expr} {ta : TE} (F : ExcBaseFacts B "ValueError.__new__" initId bmB) (n : ExN X.K X.mg x C bmB) (he : PE X e ta) (hg : Gl X x := by rfl) (hs : starEach [e] X.env = (false, eval e X.env) :: starEach [] X.env := by rfl) (hdb : (x == ("__debug__" : Str)) = false := by decide) :
    PE X (.Call (.Name x p) [e] [] pos) (fun σ H Q => ta σ H fun _ H1 => ∀ a, H1 a = none → Q (.ref a) (upd H1 a (exo a C none))) := by
  refine ⟨fun pins s σ H Q I h => ?_⟩
  refine wpAny_Call_Name_kw (ld_glob I hg n.g ?_ hdb)
  refine PySem.W.callWith_K (h₀ := X.base) I.ok.mod.kin n.k ?_ hs (by rfl)
  rw [hs]
  show wpAny _ _ (spliced ((false, eval e X.env) :: backTo pos (starEach [] X.env))) _ _ s
  refine Calls.spliced_cons (thn (he.run pins s σ H _ I h) fun u s1 ⟨v, H1, I1, r1, q1⟩ => ?_)
  exact Calls.spliced_nil ⟨I1.kIn, mkd (us := [u]) F n I1 (by show 1 ≤ sizeLine; rw [sizeLine_eq]; omega) q1⟩
end
/-- an own class of errors with `def __init__(self, name=None): self.name = name` -/
structure ExF (K : PySem.W.Frag) (mg : Str → Option Value) (x : Str) (C fI : Addr) : Prop where
  o : OexC K C
  g : mg x = some (.ref C)
  i : PySem.W.findIn K (.ref C) "__init__" = some (some (.ref fI))
  t : PySem.W.typeIn K (.ref fI) = some (.type "function")
  n : PySem.W.findIn K (.ref C) "name" = some none
  f : XfC K C
def spI (K : PySem.W.Frag) (C : Addr) : Sp := fun vs H Q _ => ∃ (a : Addr) (v : V), vs = [.ref a, v] ∧ H a = some (exo a C none) ∧ ∀ dx, H dx = none → dx ≠ a → Q .non (upd (upd H dx (exd dx [(("name" : Str), v)])) a (exo a C (some dx)))
section
variable {X : Cx} {C fI : Addr} {x : Str} {p pos : Pos} {fd : FuncData} {k : Nat}
theorem runI {us : List Value} {kw : List (Str × Value)} {v : V} {u : Value} {pins : List (Addr × Obj)} {σ : L2.St} {H : Hp} {s : Shared} {Q : VK} (n : ExF X.K X.mg x C fI)
    (G : FnOk X.prog X.w X.K X.mg X.base CX0 k fI fd ["self", "name"] (spI X.K C)) (hr : Room (k + 1) X.A) (I : Inv X pins σ H s) (ru : RelV v u) (hz : us.length ≤ sizeLine)
    (hb : ∀ (s' : Shared) (y : Value), X.K.In s'.heap → BindsTo s' fd ⟨y :: us, kw⟩ ((["self", "name"] : List Str).zip [y, u]))
    (q : ∀ a dx, H a = none → H dx = none → dx ≠ a → Q (.ref a) (upd (upd (upd H a (exo a C none)) dx (exd dx [(("name" : Str), v)])) a (exo a C (some dx)))) :
    wpAny (model X.prog X.w) X.A (call (.ref C) us kw) (EP X pins σ Q) X.xe s := by
  obtain ⟨nm, qn, N, bs, bm, sn, sub, ab, col, dd, k0, k1, k2, k3, k5, hC, hbm⟩ := n.o.cls
  obtain ⟨hp, g, dr, tk, os⟩ := s
  have z1 : hp.objs.size ≤ hp.objs.size + 1 := Nat.le_succ _
  have hn : H (hp.objs.size + 1) = none := I.hok.fresh z1
  have kk : ∀ b o, hp.get? b = some o → ((hp.push (PySem.W.kdv_tup us)).push (PySem.HandSPX.excO C hp.objs.size)).get? b = some o := fun b o e => Heap.get?_push_of_some _ (Heap.get?_push_of_some _ e)
  have hgt : ((hp.push (PySem.W.kdv_tup us)).push (PySem.HandSPX.excO C hp.objs.size)).get? (hp.objs.size + 1) = some (PySem.HandSPX.excO C hp.objs.size) := by heap_get
  have I2 : Inv X pins σ (upd H (hp.objs.size + 1) (exo (hp.objs.size + 1) C none)) ⟨(hp.push (PySem.W.kdv_tup us)).push (PySem.HandSPX.excO C hp.objs.size), g, dr, tk, os⟩ :=
    I.laid (t' := tk) (a := hp.objs.size + 1) (o := exo (hp.objs.size + 1) C none) (h' := (hp.push (PySem.W.kdv_tup us)).push (PySem.HandSPX.excO C hp.objs.size)) kk z1 (exo_ok hgt)
  have r2 : Vals [V.ref (hp.objs.size + 1), v] [Value.ref (hp.objs.size + 1), u] := .cons rfl (.cons ru .nil)
  have hq : spI X.K C [V.ref (hp.objs.size + 1), v] (upd H (hp.objs.size + 1) (exo (hp.objs.size + 1) C none)) (fun y H2 => y = .non ∧ Q (.ref (hp.objs.size + 1)) H2) (fun _ _ _ => False) :=
    ⟨_, v, rfl, upd_same, fun dx h1 h2 => ⟨rfl, q _ dx hn (by rw [upd_ne h2] at h1; exact h1) h2⟩⟩
  refine wpAny_call (PySem.KwX.ownKw F.excBase_ValueError (fun Y => PySem.HandSPX.refsVE_contains Y bm hbm) (I.kIn _ _ hC) (PySem.W.looks_findIn I.kIn n.i) (fun self => PySem.W.bind_fn I.kIn self n.t) hz
    (codeAny_mono (G.run _ X.stack _ _ ⟨Value.ref (hp.objs.size + 1) :: us, kw⟩ [Value.ref (hp.objs.size + 1), u] _ _ (fun _ _ _ => False) (hr.make C us kw) (I2.env0.make C us kw) (hb _ _ I2.kIn) r2 hq) fun r s' hq' => ?_))
  cases r with
  | error er => exact (hq' : False).elim
  | ok fl =>
    cases fl with
    | ret y =>
      obtain ⟨v', H2, I3, rv, ev, q2⟩ := I2.after hq'
      subst ev
      exact ⟨rv, V.ref (hp.objs.size + 1), H2, I3, rfl, q2⟩
    | next => exact False.elim hq'
    | brk => exact False.elim hq'
    | cont => exact False.elim hq'
/-- what a made one leaves -/
def made (C : Addr) (v : V) (H : Hp) (Q : VK) : Prop := ∀ a dx, H a = none → H dx = none → dx ≠ a → Q (.ref a) (upd (upd (upd H a (exo a C none)) dx (exd dx [(("name" : Str), v)])) a (exo a C (some dx)))
/-- how calls of the class bind -/
structure BindI (K : PySem.W.Frag) (fd : FuncData) : Prop where
  b0 : ∀ (s' : Shared) (y : Value), K.In s'.heap → BindsTo s' fd ⟨[y], []⟩ ((["self", "name"] : List Str).zip [y, Value.none])
  b1 : ∀ (s' : Shared) (y u : Value), K.In s'.heap → BindsTo s' fd ⟨[y, u], []⟩ ((["self", "name"] : List Str).zip [y, u])
  bk : ∀ (s' : Shared) (y u : Value), K.In s'.heap → BindsTo s' fd ⟨[y], [(("name" : Str), u)]⟩ ((["self", "name"] : List Str).zip [y, u])
theorem pe_mf0 (n : ExF X.K X.mg x C fI) (b : BindI X.K fd) (G : FnOk X.prog X.w X.K X.mg X.base CX0 k fI fd ["self", "name"] (spI X.K C)) (hr : Room (k + 1) X.A) (hg : Gl X x := by rfl) (hdb : (x == ("__debug__" : Str)) = false := by decide) :
    PE X (.Call (.Name x p) [] [] pos) (fun _ H Q => made C .non H Q) := by
  refine ⟨fun pins s σ H Q I h => ?_⟩
  refine wpAny_Call_Name_kw (ld_glob I hg n.g ?_ hdb)
  exact PySem.W.callWith_K0 I.kIn n.o.kC (runI (us := []) (v := .non) n G hr I rfl (Nat.zero_le _) b.b0 h)
theorem pe_mf1 {e : Expr} {ta : TE} (n : ExF X.K X.mg x C fI) (b : BindI X.K fd) (G : FnOk X.prog X.w X.K X.mg X.base CX0 k fI fd ["self", "name"] (spI X.K C)) (hr : Room (k + 1) X.A) (he : PE X e ta) (hg : Gl X x := by rfl)
    (hs : starEach [e] X.env = (false, eval e X.env) :: starEach [] X.env := by rfl) (hdb : (x == ("__debug__" : Str)) = false := by decide) :
    PE X (.Call (.Name x p) [e] [] pos) (fun σ H Q => ta σ H fun v H1 => made C v H1 Q) := by
  refine ⟨fun pins s σ H Q I h => ?_⟩
  refine wpAny_Call_Name_kw (ld_glob I hg n.g ?_ hdb)
  refine PySem.W.callWith_K (h₀ := X.base) I.ok.mod.kin n.o.kC ?_ hs (by rfl)
  rw [hs]
  show wpAny _ _ (spliced ((false, eval e X.env) :: backTo pos (starEach [] X.env))) _ _ s
  refine Calls.spliced_cons (thn (he.run pins s σ H _ I h) fun u s1 ⟨v, H1, I1, r1, q1⟩ => ?_)
  exact Calls.spliced_nil ⟨I1.kIn, runI (us := [u]) n G hr I1 r1 (by show 1 ≤ sizeLine; rw [sizeLine_eq]; omega) (fun s' y => b.b1 s' y u) q1⟩
end
end L54
namespace L54
open PySem PySem.Spec PyProof.Rows L2
section
variable {X : Cx} {C fI : Addr} {x : Str} {p pos : Pos} {fd : FuncData} {k : Nat}
theorem zip1 (a : Str) (u : Value) : ([a] : List Str).zip [u] = [(a, u)] := rfl
theorem pe_mfk {e : Expr} {ta : TE} {kp : Pos} (n : ExF X.K X.mg x C fI) (b : BindI X.K fd) (G : FnOk X.prog X.w X.K X.mg X.base CX0 k fI fd ["self", "name"] (spI X.K C)) (hr : Room (k + 1) X.A) (he : PE X e ta) (hg : Gl X x := by rfl)
    (hall : (backToKw pos (keywordEach [⟨some "name", e, kp⟩] X.env)).all (·.1.isSome) = true := by rfl) (hks : (backToKw pos (keywordEach [⟨some "name", e, kp⟩] X.env)).filterMap (·.1) = [("name" : Str)] := by rfl)
    (hpl : ((backTo pos (starEach [] X.env)).any (·.1) || (backToKw pos (keywordEach [⟨some "name", e, kp⟩] X.env)).any (·.1.isNone)) = false := by rfl) (hdb : (x == ("__debug__" : Str)) = false := by decide) :
    PE X (.Call (.Name x p) [] [⟨some "name", e, kp⟩] pos) (fun σ H Q => ta σ H fun v H1 => made C v H1 Q) := by
  refine ⟨fun pins s σ H Q I h => ?_⟩
  refine wpAny_Call_Name_kw (ld_glob I hg n.g ?_ hdb)
  refine PySem.W.callWith_KW0 (h₀ := X.base) I.ok.mod.kin n.o.kC hall ?_ hpl
  have hkw : PK X [⟨some "name", e, kp⟩] (tCons ta tNil) := pk_cons he pk_nil
  have h' : tCons ta tNil σ H (fun zs H1 => match zs with | [v] => made C v H1 Q | _ => False) := h
  have hh := hkw.run pos pins s σ H _ I h'
  rw [hks]
  refine thn hh fun ws s2 hq => ?_
  obtain ⟨zs, H2, I2, rz, q2⟩ := hq
  refine ⟨I2.kIn, ?_⟩
  cases rz with
  | nil => exact q2.elim
  | cons r1 r2 =>
    cases r2 with
    | cons r3 r4 => exact q2.elim
    | nil =>
      rw [zip1]
      rw [List.append_nil]
      exact runI (us := []) n G hr I2 r1 (Nat.zero_le _) (fun s' y => b.bk s' y _) q2
end
end L54
namespace L54
open PySem PySem.Spec PyProof.Rows L2
section
variable {X : Cx} {C fI : Addr} {x : Str} {p pos : Pos} {fd : FuncData} {k : Nat}
/-- e.name of an error of ours -/
def tNm (K : PySem.W.Frag) (te : TE) : TE := fun σ H Q => te σ H fun x H1 => ∃ (a C dx : Addr) (fs : List (Str × V)) (v : V), x = .ref a ∧ H1 a = some (exo a C (some dx)) ∧ H1 dx = some (exd dx fs) ∧ XfC K C ∧
  PySem.W.findIn K (.ref C) "name" = some none ∧ fs.lookup ("name" : Str) = some v ∧ Q v H1
theorem pe_nm {e : Expr} {te : TE} (he : PE X e te) (hb : attributeBase e "name" X.env (eval e X.env) = eval e X.env := by rfl) : PE X (.Attribute e "name" pos) (tNm X.K te) := by
  refine ⟨fun pins s σ H Q I h => ?_⟩
  refine attr_of hb (thn (he.run pins s σ H _ I h) fun u s1 hh => ?_)
  obtain ⟨x, H1, I1, rx, a, C, dx, fs, v, rfl, ea, ed, T, hno, l, q⟩ := hh
  cases rx
  obtain ⟨t1, ho⟩ := exo_at I1.hok ea
  obtain ⟨mA, hns, hr⟩ := exd_at I1.hok ed
  obtain ⟨od, hod, hl⟩ := lookIn_ns hns
  obtain ⟨u, hu, ru⟩ := RelO.some_of (v := v) (o := mA ("name" : Str)) (by rw [← l]; exact hr ("name" : Str))
  have J : PySem.W.InstAt s1.heap a _ C (some od) := ⟨ho, rfl, rfl, hod⟩
  exact HandSPX.exc_get I1.kIn J T.ga T.gg T.exC (PySem.W.findObj_own T.hdC hno rfl (by rw [hl, hu])) (handed_of ru) ⟨v, H1, I1.tok _, ru, q⟩
/-! ### data: what str() and != of it say -/
inductive Dt (K : PySem.W.Frag) (H : Hp) : V → PyData → Prop
  | of {v : V} {d : PyData} (h : Dp K H v d) (hd : d.hasDict = false) (hs : SeqAt.shaped d = true) : Dt K H v d
  | d0 {a : Addr} (h : H a = some (.dK [])) : Dt K H (.ref a) (.dict [])
  | d1 {a t : Addr} {x : Str} {n : Int} (h : H a = some (.dK [(Sum.inr x, .ref t)])) (ht : H t = some (.tup [.int n])) : Dt K H (.ref a) (.dict [(.str x, .tuple [.int n])])
def small (d : PyData) : Prop := d.showable = true ∧ d.depth ≤ 40 ∧ d.leavesShort 2000 = true ∧ d.weight ≤ 2000
theorem small_fits {d : PyData} (h : small d) : d.shown.length ≤ sizeLine := by
  have h1 := PyData.shown_le 2000 (by decide) d h.2.2.1
  have h2 := h.2.2.2
  rw [sizeLine_eq]
  have h3 : (2000 + 2) * d.weight ≤ (2000 + 2) * 2000 := Nat.mul_le_mul_left _ h2
  omega
section
variable {pins : List (Addr × Obj)} {σ : L2.St} {H : Hp} {s : Shared}
theorem dt_reads (I : Inv X pins σ H s) {v : V} {u : Value} {d : PyData} (h : Dt X.K H v d) (r : RelV v u) : ∃ as, Reads s.heap u d as ∧ (d.hasDict = true → sysModules ∉ as) := by
  cases h with
  | of h hd hs =>
    obtain ⟨as, q⟩ := Dp.reads I d v u h r
    exact ⟨as, q, fun z => by rw [hd] at z; cases z⟩
  | @d0 a h =>
    cases r
    obtain ⟨_, ya, va, ra, o, es, ep, ho, hx, hd, _, hp, _⟩ := (show ObjOk X.prog X.w H s.heap a (.dK []) from I.hok a _ h)
    cases ra
    generalize hes : es.toList = l at hp
    cases hp
    refine ⟨_, Reads.dict ho hx.1 hd (kvs := []) (by rw [hes]; exact .nil) (by rw [hes]; exact .nil), fun _ hm => ?_⟩
    rcases List.mem_append.mp hm with hm | hm
    · rcases List.mem_cons.mp hm with hm | hm
      · rw [hm] at ya; simp at ya
      · cases hm
    · cases hm
  | @d1 a t x n h ht =>
    cases r
    obtain ⟨_, ya, va, ra, o, es, ep, ho, hx, hd, _, hp, _⟩ := (show ObjOk X.prog X.w H s.heap a (.dK [(Sum.inr x, .ref t)]) from I.hok a _ h)
    cases ra with
    | @cons pa q ps qs hh tl =>
      cases tl
      obtain ⟨key, val⟩ := q
      obtain ⟨e1, e2⟩ := hh
      simp only at e1 e2
      subst e1
      cases e2
      obtain ⟨_, its, rv, ot, t1, t2, n3, t4⟩ := (show ObjOk X.prog X.w H s.heap t (.tup [.int n]) from I.hok t _ ht)
      cases rv with
      | @cons _ u0 _ ur r0 rr =>
        cases rr
        obtain ⟨tk, rfl⟩ := r0
        generalize hes : es.toList = l at hp
        cases hp with
        | cons k1 k2 k3 =>
          rename_i ent ents
          cases k3
          have k1' : keyIs (Sum.inr x) ent.key = true := k1
          obtain ⟨t9, e9⟩ : ∃ t, ent.key = Value.str x t := by
            rcases keyIs_shape k1' with ⟨i, t, e, _⟩ | ⟨y, t, e, e'⟩
            · cases e
            · cases e
              exact ⟨t, e'⟩
          have k2' : ent.val = Value.ref t := k2
          refine ⟨_, Reads.dict ho hx.1 hd (kvs := [(.str x, .tuple [.int n])]) (as := [] ++ []) (bs := [] ++ []) ?_ ?_, fun _ hm => ?_⟩
          · rw [hes]
            show ReadsAll s.heap [ent.key] [PyData.str x] _
            rw [e9]
            exact .cons (Reads.str x t9) .nil
          · rw [hes]
            show ReadsAll s.heap [ent.val] [PyData.tuple [.int n]] _
            rw [k2']
            exact .cons (Reads.tuple (as := [] ++ []) t1 t2 t4 (.cons (Reads.int n tk) .nil)) .nil
          · rcases List.mem_append.mp hm with hm | hm
            · rcases List.mem_cons.mp hm with hm | hm
              · rw [hm] at ya; simp at ya
              · cases hm
            · cases hm
end
def strOfD : PyData → Str
  | .str x => x
  | d => d.shown
theorem natLog0 : (0 : Int).natAbs.log2 < 1920 := by decide
def rStrD (K : PySem.W.Frag) : List V → Hp → VK → Prop := fun xs H Q => ∃ (v : V) (d : PyData), xs = [v] ∧ Dt K H v d ∧ small d ∧ Q (.str (strOfD d)) H
theorem call_strD (hg : X.A.guards = some []) (hu : X.A.units + 100 < cLine) : CallR X (.type "str") (rStrD X.K) := by
  intro pins s σ H xs us Q I r h
  obtain ⟨v, d, rfl, hD, hs, q⟩ := h
  cases r with
  | @cons _ u _ ur r0 rr =>
    cases rr
    have key : ∀ a, v = .ref a → strOfD d = d.shown → wpAny (model X.prog X.w) X.A (call (.type "str") [u]) (EP X pins σ Q) X.xe s := by
      intro a e e2
      subst e
      cases r0
      obtain ⟨as, hr, hm⟩ := dt_reads I hD rfl
      rw [e2] at q
      refine str_of_reads hr hs.1 hm hg (by have := hs.2.1; omega) (fun _ _ z => z) (fun h' u tk k => ?_) (small_fits hs)
      exact ⟨.str d.shown, H, I.kept k, ⟨u, rfl⟩, q⟩
    cases hD with
    | of hp hd hsh =>
      cases hp with
      | non => cases r0; exact PySem.P.str_of_none ⟨.str _, H, I.tok _, ⟨_, rfl⟩, q⟩
      | bl b => cases r0; exact PySem.P.str_of_bool ⟨.str _, H, I.tok _, ⟨_, rfl⟩, q⟩
      | int i =>
        obtain ⟨t, rfl⟩ := r0
        exact PySem.P.str_of_int (of_decide_eq_true hs.1) ⟨.str _, H, I.tok _, ⟨_, rfl⟩, q⟩
      | str x =>
        obtain ⟨t, rfl⟩ := r0
        exact PySem.P.str_of_str ⟨.str x, H, I, ⟨t, rfl⟩, q⟩
      | lst _ _ => exact key _ rfl rfl
      | tup _ _ => exact key _ rfl rfl
    | d0 _ => exact key _ rfl rfl
    | d1 _ _ => exact key _ rfl rfl
/-- v != v -/
def rNeS (K : PySem.W.Frag) : R2 := fun x y H Q => y = x ∧ (∃ d, Dt K H x d) ∧ Q (.bl false) H
theorem op_neS (hu : X.A.units + 100 < cLine) : OpR X (compareOp .NotEq) (rNeS X.K) := by
  intro pins s σ H x y v u Q I rx ry h
  obtain ⟨rfl, ⟨d, hD⟩, q⟩ := h
  have dct : ∀ (a : Addr) (ks : List (Key × V)), y = .ref a → H a = some (.dK ks) → (∀ va : List (Key × Value), KV ks va → PySem.W.KeqHits X.A.in1 s va va true) →
      wpAny (model X.prog X.w) X.A (compareOp .NotEq v u) (EP X pins σ Q) X.xe s := by
    intro a ks e ha hks
    subst e
    cases rx
    cases ry
    obtain ⟨_, ya, va, ra, da⟩ := (show ObjOk X.prog X.w H s.heap a (.dK ks) from I.hok a _ ha)
    exact PySem.W.keq_ne (knd := mixKind X.prog X.w) (r := true) ya ya da da (by omega) (fun _ => hks va ra) (fin_bl I q (by simp))
  cases hD with
  | of hp hd hsh =>
    obtain ⟨as, h1⟩ := Dp.reads I d y v hp rx
    obtain ⟨bs, h2⟩ := Dp.reads I d y u hp ry
    refine SeqAt.compareNe_shaped h1 h2 hsh hsh (by omega) ?_
    rw [SeqAt.eqv_refl d (SeqAt.canLay_of_shaped hsh)]
    exact ⟨.bl _, H, I, rfl, q⟩
  | d0 h =>
    refine dct _ _ rfl h fun va r => ?_
    cases r
    exact .nil
  | d1 h ht =>
    refine dct _ _ rfl h fun va r => ?_
    cases r with
    | @cons pa q ps qs hh tl =>
      cases tl
      obtain ⟨key, val⟩ := q
      exact PySem.W.KeqHits.hit (e := true) (b := true) (by simp [valueAt]) (SeqAt.EqAt.same _) .nil
end
end L54
namespace L54
open PySem PySem.Spec PyProof.Rows L2
/-! ### defs that are called where no repr is under way -/
structure FnG (P : Program) (w : World) (K : PySem.W.Frag) (mg : Str → Option Value) (base : Heap) (k : Nat) (f : Addr) (fd : FuncData) (ps : List Str) (sp : Sp) : Prop where
  len : ∀ vs H Q E, sp vs H Q E → vs.length = ps.length
  run : ∀ (A : Around) (outer : List Env) (s : Shared) (H : Hp) (args : Args) (us : List Value) (vs : List V) (Q : VK) (E : XK), A.guards = some [] → Room k A → Env0 P w K mg base A outer s H → BindsTo s fd args (ps.zip us) → Vals vs us → sp vs H Q E →
    codeAny (model P w) A (.call (.ref f) args) (CR CX0 outer P w H s Q E) s
theorem FnG.of {P : Program} {w : World} {K : PySem.W.Frag} {mg : Str → Option Value} {base : Heap} {k : Nat} {f : Addr} {fd : FuncData} {ps : List Str} {sp : Sp} (F : FnOk P w K mg base CX0 k f fd ps sp) : FnG P w K mg base k f fd ps sp :=
  ⟨F.len, fun A outer s H args us vs Q E _ hr => F.run A outer s H args us vs Q E hr⟩
section
variable {P : Program} {w : World} {K : PySem.W.Frag} {mg : Str → Option Value} {base : Heap}
theorem Fun.okG {x qual : Str} {st : Stmt} {f : Addr} {fd : FuncData} {N ps : List Str} {k : Nat} {sp : Sp} (F : Fun K x qual st f fd) (S : FnScope N ps (defScope st)) (len : ∀ vs H Q E, sp vs H Q E → vs.length = ps.length)
    (hbody : ∀ (cdv : Value) (A : Around) (outer : List Env) (s : Shared) (H : Hp) (vs : List V) (Q : VK) (E : XK), (A.deeper (envOfC qual (defScope st) s.heap.objs.size f cdv)).guards = some [] → Room k (A.deeper (envOfC qual (defScope st) s.heap.objs.size f cdv)) → sp vs H Q E →
      ∃ t, PSs (cxOf CX0 P w K mg base N qual (defScope st) f cdv A outer s H E).nox (defBody st) t ∧ t { nx := fun _ H' => Q .non H', rt := Q } (start N vs) H) : FnG P w K mg base (k + 1) f fd ps sp := by
  obtain ⟨oc, od, kV, doc, pm, an, cdv, ct, osl, rfl, lk, hcd⟩ := F.ex
  refine ⟨len, fun A outer s H args us vs Q E hg hr e0 hb r hsp => ?_⟩
  have hl := len _ _ _ _ hsp
  have KX : K.In s.heap := e0.mod.kin.keeps fun b o e => (e0.bs b o e).1
  have lim : s.heap.NoLimit := e0.mod.nolimit.keeps fun b o e => (e0.bs b o e).1
  have hk : ∀ y ∈ ps.zip us, (defScope st).names.lookup y.1 = some .local ∨ ((defScope st).names.lookup y.1 = some .cell ∧ ((cellsFrom (s.heap.objs.size + 1) (defScope st).names []).lookup y.1).isSome = true) := fun ⟨n, v⟩ hy => by
    rcases S.par n (List.of_mem_zip hy).1 with q | q
    · exact .inl q
    · exact .inr ⟨q, PySem.W.cellsFrom_some _ _ _ (.inl q)⟩
  refine codeAny_call_function hr.depth (KX _ _ lk) rfl S.co S.gen rfl (PySem.W.codeRec_of KX hcd) (hb _ _ _ _ ?_)
  refine wpAny_newFunctionEnv_cells S.kind hk fun env he s1 xx => ?_
  subst he
  refine ⟨lim.keeps xx.toInCall.keep, codeAny_func ?_⟩
  obtain ⟨t, ht0, hq⟩ := hbody cdv A outer s H vs Q E hg (hr.deeper _) hsp
  have ht := ht0.nox
  have I : Inv (cxOf CX0 P w K mg base N qual (defScope st) f cdv A outer s H E) [] (start N vs) H s1 := inv_start S hr.hd e0 hl r xx
  refine wpAny_mono (ht.run [] s1 (start N vs) H _ I hq) (fun fl s' hs => ?_) fun e s' hs => hs
  cases fl with
  | ret u =>
    obtain ⟨v, σ', H', J, rv, q⟩ := hs
    exact ⟨v, H', J.os, J.bare, J.base, J.hok, rv, q⟩
  | next =>
    obtain ⟨σ', H', J, q⟩ := hs
    exact ⟨V.non, H', J.os, J.bare, J.base, J.hok, rfl, q⟩
  | brk =>
    obtain ⟨_, _, _, q⟩ := hs
    exact False.elim q
  | cont =>
    obtain ⟨_, _, _, q⟩ := hs
    exact False.elim q
end
section
variable {X : Cx} {k : Nat} {f : Addr} {fd : FuncData} {ps : List Str} {sp : Sp} {x : Str} {p pos : Pos} {e : Expr} {es : List Expr} {t : TA}
theorem pe_callG (F : FnG X.prog X.w X.K X.mg X.base k f fd ps sp) (hgd : X.A.guards = some []) (hr : Room k X.A) (hm : X.mg x = some (.ref f)) (hk : PySem.W.keepIn X.K (.ref f) = true) (hb : Binds X.K fd ps []) (ha : PA X (e :: es) t) (hg : Gl X x := by rfl)
    (hdb : (x == ("__debug__" : Str)) = false := by decide) (he : starEach (e :: es) X.env = (false, eval e X.env) :: starEach es X.env := by rfl) (hpl : (backTo pos (starEach es X.env)).any (·.1) = false := by rfl) :
    PE X (.Call (.Name x p) (e :: es) [] pos) (fun σ H Q => t σ H fun vs H1 => sp vs H1 Q E0) := by
  refine ⟨fun pins s σ H Q I h => ?_⟩
  refine wpAny_Call_Name_kw (ld_glob I hg hm ?_ hdb)
  refine PySem.W.callWith_K (h₀ := X.base) I.ok.mod.kin hk (thn (ha.run pos pins s σ H _ I h) fun us s1 ⟨vs, H1, I1, r, q⟩ => ⟨I1.kIn, ?_⟩) he hpl
  have hl : (us ++ []).length = ps.length := by rw [List.append_nil, ← r.length]; exact F.len _ _ _ _ q
  have hb' := hb s1 us I1.kIn hl
  rw [List.append_nil] at hb'
  refine wpAny_call (codeAny_mono (F.run X.A X.stack s1 H1 ⟨us, []⟩ us vs Q E0 hgd hr I1.env0 hb' r q) fun r' s' hq => ?_)
  cases r' with
  | error e => exact (hq : False).elim
  | ok fl =>
    cases fl with
    | ret u => exact I1.after hq
    | next => exact False.elim hq
    | brk => exact False.elim hq
    | cont => exact False.elim hq
end
/-! ### the end of the row, for a law's def of this kind -/
theorem entry54 {P : Program} {w : World} {K : PySem.W.Frag} {mg mb : Str → Option Value} {k : Nat} {fa a : Addr} {fd : FuncData} {x : Str} {sp : Sp} {s₁ : Shared} {vs : List Value} {ns : List Int}
    (KX : K.In s₁.heap) (hns : s₁.heap.Ns mainGlobals mg) (hb : s₁.heap.Ns builtinsNs mb) (hbb : ∀ x : Str, x ≠ "__name__" → mb x = bootBuiltins x) (hlim : s₁.heap.NoLimit) (hg : s₁.gens = #[])
    (ha : s₁.heap.get? a = some { cls := .type "list", data := .seq vs.toArray }) (hi : IntsAre vs ns) (hl : ns.length ≤ sizeLine) (hr : Room k callerA)
    (F : ∀ base : Heap, K.In base → base.Ns mainGlobals mg → FnG P w K mg base k fa fd [x] sp) (hbind : ∀ (s : Shared) (u : Value), BindsTo s fd ⟨[u], []⟩ [(x, u)])
    (hsp : ∀ H : Hp, Only H → SqL K H a (ns.map V.int) → sp [.ref a] H (fun v _ => v = .bl true) fun _ _ _ => False) :
    codeAny (model P w) callerA (.call (.ref fa) ⟨[.ref a], []⟩) (fun r s' => r = .ok (.ret (.bool true)) ∧ OldK s₁.heap s'.heap ∧ s'.os = s₁.os ∧ AllBare s'.gens) s₁ := by
  have rv := vals_ints hi
  have lenV := hi.length
  have core : ∀ H : Hp, Only H → SqL K H a (ns.map V.int) → HOk P w H s₁.heap → (∀ b, H b ≠ none → b = a) → (H a ≠ none → K.lookup a = none) →
      codeAny (model P w) callerA (.call (.ref fa) ⟨[.ref a], []⟩) (fun r s' => r = .ok (.ret (.bool true)) ∧ OldK s₁.heap s'.heap ∧ s'.os = s₁.os ∧ AllBare s'.gens) s₁ := by
    intro H hO hS hok hA hK
    have base_of : ∀ {b : Addr} {o : Obj}, s₁.heap.get? b = some o → H b = none → (hidT s₁.heap H).get? b = some o := fun e n => hidT_get e n
    have at_a : ∀ {b : Addr}, H b ≠ none → b = a := fun {b} n => hA b n
    have noA : ∀ {b : Addr} {o : Obj} {es : Array DictEntry} {ep : Nat}, s₁.heap.get? b = some o → o.data = .dict es ep → H b = none := fun {b o es ep} e d => by
      cases q : H b with
      | none => rfl
      | some u =>
        obtain rfl := at_a (b := b) (by rw [q]; simp)
        rw [ha] at e; cases e; cases d
    have nsK : ∀ {b : Addr} {m : Str → Option Value}, s₁.heap.Ns b m → (hidT s₁.heap H).Ns b m := fun {b m} ⟨o, es, ep, e, d, r⟩ => ⟨o, es, ep, base_of e (noA e d), d, r⟩
    have hKb : K.In (hidT s₁.heap H) := fun b o e => base_of (KX b o e) (by
      cases q : H b with
      | none => rfl
      | some u =>
        obtain rfl := at_a (b := b) (by rw [q]; simp)
        rw [hK (by rw [q]; simp)] at e; cases e)
    have hM : Mod K mg (hidT s₁.heap H) := ⟨hKb, nsK hns, ⟨mb, nsK hb, hbb⟩, let ⟨mc, h1, h2⟩ := hlim; ⟨mc, nsK h1, h2⟩⟩
    have e0 : Env0 P w K mg (hidT s₁.heap H) callerA [] s₁ H := ⟨rfl, hM, fun b o e => of_hidT e, Nat.le_of_eq (hidT_size _ _), trivial, fun b hb => absurd (show b ∈ ([] : List Addr) from hb) (by simp), hok, .of_eq hg⟩
    refine codeAny_mono ((F _ hKb (nsK hns)).run callerA [] s₁ H ⟨[.ref a], []⟩ [.ref a] [.ref a] _ _ rfl hr e0 (hbind s₁ (.ref a)) (.cons rfl .nil) (hsp H hO hS)) fun r s' h => ?_
    cases r with
    | error e => exact (h : False).elim
    | ok fl =>
      cases fl with
      | next => exact False.elim h
      | brk => exact False.elim h
      | cont => exact False.elim h
      | ret u =>
        obtain ⟨v, H', os, bare, un, hok', r', q⟩ := h
        obtain rfl : v = .bl true := q
        obtain rfl : u = Value.bool true := r'
        refine ⟨rfl, OldK.of_keep fun b o e => ?_, os, bare⟩
        cases q : H b with
        | none => exact un.keep b o e q (by intro z; exact absurd (show b ∈ ([] : List Addr) from z) (by simp)) (by simp)
        | some u =>
          rcases hO b with z | ⟨ob, xs, z⟩
          · rw [q] at z; cases z
          · obtain ⟨e1, _⟩ := hok b _ z
            obtain ⟨e2, _⟩ := hok' b _ (un.frzs b ob _ z)
            rw [e] at e1; cases e1
            exact e2
  cases hk : K.lookup a with
  | some o =>
    have e := KX a o hk
    rw [ha] at e
    cases e
    refine core (fun _ => none) (fun _ => .inl rfl) (.inr ⟨_, vs.toArray, _, hk, rfl, rfl, rfl, by rw [List.size_toArray, lenV]; exact hl, by simpa using rv⟩) (fun b u z => by have z' : (none : Option HO) = some u := z; cases z') (fun b z => absurd rfl z) fun z => absurd rfl z
  | none =>
    refine core (fun b => if b = a then some (.frz { cls := .type "list", data := .seq vs.toArray } (.lst (ns.map V.int))) else none) (fun b => ?_) (.inl (.inr ⟨{ cls := .type "list", data := .seq vs.toArray }, if_pos rfl⟩)) (fun b u z => ?_) (fun b z => ?_) fun _ => hk
    · by_cases hb : b = a
      · exact .inr ⟨_, _, if_pos hb⟩
      · exact .inl (if_neg hb)
    · by_cases hb : b = a
      · have z' := (if_pos hb).symm.trans z
        cases z'
        subst hb
        exact ⟨ha, by rw [List.length_map]; exact hl, vs, _, rv, ha⟩
      · have z' := (if_neg hb).symm.trans z
        cases z'
    · by_cases hb : b = a
      · exact hb
      · exact absurd (if_neg hb) z
theorem walk54 {l : PySem.W.OpenLaw} {n k : Nat} {q : Program} {loose : List Str} {XP : (Str → Option Value) → Heap → Prop} {YP : World → Heap → Prop} {d : DefRec} {K : Params → PySem.W.Frag} {sp : PySem.W.Frag → Sp} {x : Str}
    (hn : l.most = some n) (hn2 : n ≤ sizeLine) (hdf : d.params.defaults = []) (hr : Room k callerA)
    (hY : ∀ (w : World) (h : Heap), YP w h → (K w.params).In h)
    (F : ∀ (w : World) (mg : Str → Option Value) (fa : Addr) (h : Heap), (K w.params).In h → h.Ns mainGlobals mg → mg d.name = some (.ref fa) →
      ∃ fd : FuncData, (∀ (s : Shared) (u : Value), BindsTo s fd ⟨[u], []⟩ [(x, u)]) ∧
        ∀ base : Heap, (K w.params).In base → base.Ns mainGlobals mg → FnG l.prog w (K w.params) mg base k fa fd [x] (sp (K w.params)))
    (hsp : ∀ (K : PySem.W.Frag) (H : Hp) (a : Addr) (ns : List Int), ns.length ≤ n → Only H → SqL K H a (ns.map V.int) → sp K [.ref a] H (fun v _ => v = .bl true) fun _ _ _ => False) :
    PySem.W.WalkO q loose XP YP l.row.toRowW d [] (fun f vs => PySem.call f vs) := by
  refine Att.attach_call hn hdf fun w s₀ s₁ mg mb fa o pm cd doc a vs ns G Y ho hd hcd hmg hobj hints hlen hg => ?_
  have KX := hY w _ Y
  obtain ⟨fd, hb, hF⟩ := F w mg fa _ KX G.T.g hmg
  exact entry54 KX G.T.g G.T.b G.T.builtins G.T.nolimit hg hobj hints (Nat.le_trans hlen hn2) hr hF hb (fun H hO hS => hsp _ H a ns hlen hO hS)
end L54
namespace L50
open PySem PySem.Spec PyProof.Rows L2 L54
theorem iF {c A B : Prop} [Decidable c] (h : ¬ c) (b : B) : if c then A else B := by rw [if_neg h]; exact b
theorem iT {c A B : Prop} [Decidable c] (h : c) (a : A) : if c then A else B := by rw [if_pos h]; exact a
theorem len_small {n : Nat} (h : n ≤ 1000) : n ≤ sizeLine := Nat.le_of_lt (small1000 h)
theorem same_upd {H H' : Hp} {p : Addr} {o : HO} (s : Same H H') (n : H' p = none) : Same H (upd H' p o) := fun b u e => by
  rw [upd_ne (ne_of_none (s b u e) n)]
  exact s b u e
theorem same_at {H H' : Hp} {p : Addr} {o : HO} (s : Same H H') (n : H p = none) : Same H (upd H' p o) := fun b u e => by
  rw [upd_ne (ne_of_none e n)]
  exact s b u e
theorem up1 {H : Hp} {p : Addr} {o : HO} (n : H p = none) : Same H (upd H p o) := same_upd (Same.refl H) n
theorem seqT {K : PySem.W.Frag} {H H' : Hp} {a : Addr} {xs : List V} (e : Same H H') (h : SqT K H a xs) : SqT K H' a xs := by
  rcases h with (h | ⟨o, h⟩) | h
  · exact .inl (.inl (e _ _ h))
  · exact .inl (.inr ⟨o, e _ _ h⟩)
  · exact .inr h
/-! ### values: data with empty dicts in it -/
mutual
inductive Dv (K : PySem.W.Frag) (H : Hp) : V → PyData → Prop
  | non : Dv K H .non .none
  | bl (b : Bool) : Dv K H (.bl b) (.bool b)
  | int (i : Int) : Dv K H (.int i) (.int i)
  | str (x : Str) : Dv K H (.str x) (.str x)
  | lst {a : Addr} {xs : List V} {ds : List PyData} : SqL K H a xs → DvAll K H xs ds → Dv K H (.ref a) (.list ds)
  | tup {a : Addr} {xs : List V} {ds : List PyData} : SqT K H a xs → DvAll K H xs ds → Dv K H (.ref a) (.tuple ds)
  | emp {a : Addr} : H a = some (.dK []) → Dv K H (.ref a) (.dict [])
inductive DvAll (K : PySem.W.Frag) (H : Hp) : List V → List PyData → Prop
  | nil : DvAll K H [] []
  | cons {v : V} {vs : List V} {d : PyData} {ds : List PyData} : Dv K H v d → DvAll K H vs ds → DvAll K H (v :: vs) (d :: ds)
end
mutual
theorem dvMono {K : PySem.W.Frag} {H H' : Hp} (s : Same H H') : ∀ (d : PyData) (v : V), Dv K H v d → Dv K H' v d
  | .none, _, h => by cases h; exact .non
  | .bool _, _, h => by cases h; exact .bl _
  | .int _, _, h => by cases h; exact .int _
  | .str _, _, h => by cases h; exact .str _
  | .list ds, _, h => by
    cases h with
    | lst h1 h2 => exact .lst (s.seq h1) (dvMonoAll s ds _ h2)
  | .tuple ds, _, h => by
    cases h with
    | tup h1 h2 => exact .tup (seqT s h1) (dvMonoAll s ds _ h2)
  | .dict _, _, h => by
    cases h with
    | emp h => exact .emp (s _ _ h)
theorem dvMonoAll {K : PySem.W.Frag} {H H' : Hp} (s : Same H H') : ∀ (ds : List PyData) (vs : List V), DvAll K H vs ds → DvAll K H' vs ds
  | [], _, h => by cases h; exact .nil
  | d :: ds, _, h => by
    cases h with
    | cons h1 h2 => exact .cons (dvMono s d _ h1) (dvMonoAll s ds _ h2)
end
theorem Dv.mono {K : PySem.W.Frag} {H H' : Hp} {v : V} {d : PyData} (h : Dv K H v d) (s : Same H H') : Dv K H' v d := dvMono s d v h
theorem DvAll.mono {K : PySem.W.Frag} {H H' : Hp} {vs : List V} {ds : List PyData} (h : DvAll K H vs ds) (s : Same H H') : DvAll K H' vs ds := dvMonoAll s ds vs h
theorem DvAll.len {K : PySem.W.Frag} {H : Hp} : ∀ {vs : List V} {ds : List PyData}, DvAll K H vs ds → vs.length = ds.length
  | _, _, .nil => rfl
  | _, _, .cons _ t => by rw [List.length_cons, List.length_cons, t.len]
theorem DvAll.app {K : PySem.W.Frag} {H : Hp} : ∀ {vs ws : List V} {ds es : List PyData}, DvAll K H vs ds → DvAll K H ws es → DvAll K H (vs ++ ws) (ds ++ es)
  | _, _, _, _, .nil, h => h
  | _, _, _, _, .cons a t, h => .cons a (t.app h)
theorem DvAll.get {K : PySem.W.Frag} {H : Hp} : ∀ {vs : List V} {ds : List PyData} {i : Nat} {v : V}, DvAll K H vs ds → vs[i]? = some v → ∃ d, ds[i]? = some d ∧ Dv K H v d
  | _, _, _, _, .nil, e => by simp at e
  | _, _, 0, _, .cons (d := d) a _, e => by
    obtain rfl := Option.some.inj (by simpa using e)
    exact ⟨d, rfl, a⟩
  | _, _, i + 1, _, .cons _ t, e => by
    obtain ⟨d, e1, e2⟩ := t.get (i := i) (by simpa using e)
    exact ⟨d, by simpa using e1, e2⟩
theorem DvAll.drop {K : PySem.W.Frag} {H : Hp} : ∀ {vs : List V} {ds : List PyData} (n : Nat), DvAll K H vs ds → DvAll K H (vs.drop n) (ds.drop n)
  | _, _, 0, h => h
  | _, _, _ + 1, .nil => .nil
  | _, _, n + 1, .cons _ t => t.drop n
theorem DvAll.take {K : PySem.W.Frag} {H : Hp} : ∀ {vs : List V} {ds : List PyData} (n : Nat), DvAll K H vs ds → DvAll K H (vs.take n) (ds.take n)
  | _, _, 0, _ => .nil
  | _, _, _ + 1, .nil => .nil
  | _, _, n + 1, .cons a t => .cons a (t.take n)
theorem DvAll.rev {K : PySem.W.Frag} {H : Hp} : ∀ {vs : List V} {ds : List PyData}, DvAll K H vs ds → DvAll K H vs.reverse ds.reverse
  | _, _, .nil => .nil
  | _, _, .cons a t => by
    rw [List.reverse_cons, List.reverse_cons]
    exact t.rev.app (.cons a .nil)
mutual
/-- no list stands in it -/
def noList : PyData → Bool
  | .list _ => false
  | .tuple ds => noListAll ds
  | _ => true
def noListAll : List PyData → Bool
  | [] => true
  | d :: ds => noList d && noListAll ds
end
section
variable {X : Cx} {pins : List (Addr × Obj)} {σ : L2.St} {H : Hp} {s : Shared}
mutual
theorem dvReads (I : Inv X pins σ H s) : ∀ (d : PyData) (v : V) (u : Value), Dv X.K H v d → RelV v u → ∃ as, Reads s.heap u d as ∧ (noList d = true → sysModules ∉ as)
  | .none, _, _, h, r => by
    cases h
    cases r
    exact ⟨_, Reads.none, fun _ => by simp⟩
  | .bool b, _, _, h, r => by
    cases h
    cases r
    exact ⟨_, Reads.bool b, fun _ => by simp⟩
  | .int i, _, _, h, r => by
    cases h
    obtain ⟨t, rfl⟩ := r
    exact ⟨_, Reads.int i t, fun _ => by simp⟩
  | .str x, _, _, h, r => by
    cases h
    obtain ⟨t, rfl⟩ := r
    exact ⟨_, Reads.str x t, fun _ => by simp⟩
  | .list ds, _, _, h, r => by
    cases h with
    | lst hs ha =>
      cases r
      obtain ⟨its, rv, ⟨o, n, ho, hc, _, hd⟩, _⟩ := I.list hs
      obtain ⟨as, hr, hm⟩ := dvReadsAll I ds _ its ha rv
      exact ⟨_, Reads.list ho hc hd hr, fun z => by simp [noList] at z⟩
  | .tuple ds, _, _, h, r => by
    cases h with
    | tup hs ha =>
      cases r
      obtain ⟨its, rv, ⟨o, ho, hc, n, hd⟩, _⟩ := I.tuple hs
      obtain ⟨as, hr, hm⟩ := dvReadsAll I ds _ its ha rv
      exact ⟨_, Reads.tuple ho hc hd hr, fun z => hm (by simpa [noList] using z)⟩
  | .dict _, _, _, h, r => by
    cases h with
    | @emp a h =>
      cases r
      obtain ⟨_, ya, va, ra, o, es, ep, ho, hx, hd, _, hp, _⟩ := (show ObjOk X.prog X.w H s.heap a (.dK []) from I.hok a _ h)
      cases ra
      generalize hes : es.toList = l at hp
      cases hp
      refine ⟨_, Reads.dict ho hx.1 hd (kvs := []) (by rw [hes]; exact .nil) (by rw [hes]; exact .nil), fun _ hm => ?_⟩
      rcases List.mem_append.mp hm with hm | hm
      · rcases List.mem_cons.mp hm with hm | hm
        · rw [hm] at ya; simp at ya
        · cases hm
      · cases hm
theorem dvReadsAll (I : Inv X pins σ H s) : ∀ (ds : List PyData) (vs : List V) (us : List Value), DvAll X.K H vs ds → Vals vs us → ∃ as, ReadsAll s.heap us ds as ∧ (noListAll ds = true → sysModules ∉ as)
  | [], _, _, h, r => by
    cases h
    cases r
    exact ⟨_, ReadsAll.nil, fun _ => by simp⟩
  | d :: ds, _, _, h, r => by
    cases h with
    | cons h1 h2 =>
      cases r with
      | cons r1 r2 =>
        obtain ⟨as, q1, m1⟩ := dvReads I d _ _ h1 r1
        obtain ⟨bs, q2, m2⟩ := dvReadsAll I ds _ _ h2 r2
        refine ⟨_, ReadsAll.cons q1 q2, fun n z => ?_⟩
        simp only [noListAll, Bool.and_eq_true] at n
        rcases List.mem_append.mp z with z | z
        · exact m1 n.1 z
        · exact m2 n.2 z
end
end
/-! ### str of a value -/
def fit (d : PyData) : Prop := d.showable = true ∧ d.depth ≤ 60 ∧ d.leavesShort 2000 = true ∧ d.weight ≤ 4000 ∧ (d.hasDict = true → noList d = true)
theorem fit_fits {d : PyData} (h : fit d) : d.shown.length ≤ sizeLine := by
  have h1 := PyData.shown_le 2000 (by decide) d h.2.2.1
  have h2 := h.2.2.2.1
  rw [sizeLine_eq]
  have h3 : (2000 + 2) * d.weight ≤ (2000 + 2) * 4000 := Nat.mul_le_mul_left _ h2
  omega
def rStrV (K : PySem.W.Frag) : List V → Hp → VK → Prop := fun xs H Q => ∃ (v : V) (d : PyData), xs = [v] ∧ Dv K H v d ∧ fit d ∧ Q (.str (L54.strOfD d)) H
theorem call_strV {X : Cx} (hg : X.A.guards = some []) (hu : X.A.units + 100 < cLine) : CallR X (.type "str") (rStrV X.K) := by
  intro pins s σ H xs us Q I r h
  obtain ⟨v, d, rfl, hD, hs, q⟩ := h
  cases r with
  | @cons _ u _ ur r0 rr =>
    cases rr
    have key : ∀ a, v = .ref a → L54.strOfD d = d.shown → wpAny (model X.prog X.w) X.A (call (.type "str") [u]) (EP X pins σ Q) X.xe s := by
      intro a e e2
      subst e
      cases r0
      obtain ⟨as, hr, hm⟩ := dvReads I d _ _ hD rfl
      rw [e2] at q
      refine str_of_reads hr hs.1 (fun z => hm (hs.2.2.2.2 z)) hg (by have := hs.2.1; omega) (fun _ _ z => z) (fun h' u tk k => ?_) (fit_fits hs)
      exact ⟨.str d.shown, H, I.kept k, ⟨u, rfl⟩, q⟩
    cases hD with
    | non => cases r0; exact PySem.P.str_of_none ⟨.str _, H, I.tok _, ⟨_, rfl⟩, q⟩
    | bl b => cases r0; exact PySem.P.str_of_bool ⟨.str _, H, I.tok _, ⟨_, rfl⟩, q⟩
    | int i =>
      obtain ⟨t, rfl⟩ := r0
      exact PySem.P.str_of_int (of_decide_eq_true hs.1) ⟨.str _, H, I.tok _, ⟨_, rfl⟩, q⟩
    | str x =>
      obtain ⟨t, rfl⟩ := r0
      exact PySem.P.str_of_str ⟨.str x, H, I, ⟨t, rfl⟩, q⟩
    | lst _ _ => exact key _ rfl rfl
    | tup _ _ => exact key _ rfl rfl
    | emp _ => exact key _ rfl rfl
end L50
namespace PySem.SeqAt
open AutoSeq1 (wpAny_loadPart')
open MeetsSeq MeetsSeq2 MeetsSeq3 SeqRoads2
theorem dict_no_str50 (l : Addr) (es : Array DictEntry) (n : Nat) (dd : Option Addr) (sl : Array (Option Value)) (b : Str) (u : Tok) :
    Meets (Builtin.«dict.__eq__» ⟨[.ref l, .str b u], []⟩) (fun _ R s => s.heap.get? l = some { cls := .type "dict", dict := dd, data := .dict es n, slots := sl } ∧ R (.ok (.ret .notImplemented)) s) :=
  .of_wp fun prog w A R s h => by obtain ⟨hp, g, d, tk, os⟩ := s; obtain ⟨hl, h⟩ := h; have f1 := F.sub_str_dict; wp_walk using wpAny_loadPart' hl; exact ⟨_, rfl, h⟩
theorem str_no_dict50 (b : Str) (u : Tok) (l : Addr) (c : Value) (es : Array DictEntry) (n : Nat) (dd : Option Addr) (sl : Array (Option Value)) :
    Meets (Builtin.«str.__eq__» ⟨[.str b u, .ref l], []⟩) (fun _ R s => s.heap.get? l = some { cls := c, dict := dd, data := .dict es n, slots := sl } ∧ R (.ok (.ret .notImplemented)) s) :=
  .of_wp fun prog w A R s h => by obtain ⟨hp, g, d, tk, os⟩ := s; obtain ⟨hl, h⟩ := h; wp_walk using wpAny_loadPart' hl, wpAny_load hl; exact ⟨_, rfl, h⟩
section
variable {A : Around} {s : Shared}
theorem rc_dict_str50 {l : Addr} {es : Array DictEntry} {n : Nat} {dd : Option Addr} {sl : Array (Option Value)} (b : Str) (u : Tok) (ho : s.heap.get? l = some { cls := .type "dict", dict := dd, data := .dict es n, slots := sl }) (hu : A.units < cLine) : RcAt A s (.ref l) (.str b u) false := fun prog w E Q h =>
  rc_eq_decline_or (k := false) ⟨_, ho, rfl⟩ (typeIs_str s b u) (by decide) F.sub_str_dict F.slot_dict_eq F.slot_str_eq_refl
    (fun _ hq => call_meets F.slot_dict_eq ⟨_, ho, rfl⟩ F.entry_dict_eq (F.args_dict_eq_2 _ _) (dict_no_str50 l es n dd sl b u) ⟨ho, hq⟩)
    (fun _ hq => call_meets F.slot_str_eq_refl (typeIs_str s b u) F.entry_str_eq (F.args_str_eq_2 _ _) (str_no_dict50 b u l (.type "dict") es n dd sl) ⟨ho, hq⟩)
    (fun _ hq => wpAny_of_eq (rfl : isSame (.ref l) (.str b u) = pure false) hq) (.inr hu) h
theorem eq_str_dict50 {l : Addr} {es : Array DictEntry} {n : Nat} {dd : Option Addr} {sl : Array (Option Value)} (b : Str) (u : Tok) (ho : s.heap.get? l = some { cls := .type "dict", dict := dd, data := .dict es n, slots := sl }) (hu : A.units < cLine) : EqAt A s (.str b u) (.ref l) false := fun prog w E Q h => by
  unfold eqBool
  refine wpAny_holding ?_
  refine wpAny_ite_split (fun hab => absurd (eq_of_beq hab) nofun) (fun _ => ?_)
  refine wpAny_bind (rc_eq_decline_or (k := false) (typeIs_str s b u) ⟨_, ho, rfl⟩ (by decide) F.sub_dict_str F.slot_str_eq F.slot_dict_eq_refl
    (fun _ hq => call_meets F.slot_str_eq (typeIs_str s b u) F.entry_str_eq (F.args_str_eq_2 _ _) (str_no_dict50 b u l (.type "dict") es n dd sl) ⟨ho, hq⟩)
    (fun _ hq => call_meets F.slot_dict_eq_refl ⟨_, ho, rfl⟩ F.entry_dict_eq (F.args_dict_eq_2 _ _) (dict_no_str50 l es n dd sl b u) ⟨ho, hq⟩)
    (fun _ hq => wpAny_of_eq (rfl : isSame (.str b u) (.ref l) = pure false) hq) (.inr hu) (wpAny_truthy_bool h))
end
end PySem.SeqAt
namespace L50
open PySem PySem.Spec PyProof.Rows L2 L54
def isStr : PyData → Str → Bool
  | .str a, z => a == z
  | _, _ => false
section
variable {X : Cx} {pins : List (Addr × Obj)} {σ : L2.St} {H : Hp} {s : Shared}
theorem rcS (I : Inv X pins σ H s) {A : Around} (hu : A.units < cLine) {d : PyData} {v : V} {u : Value} (h : Dv X.K H v d) (r : RelV v u) (z : Str) (t : Tok) : SeqAt.RcAt A s u (.str z t) (isStr d z) := by
  cases h with
  | non => cases r; exact .none_str z t
  | bl b => cases r; exact .bool_str b z t
  | int i => obtain ⟨t', rfl⟩ := r; exact .int_str i t' z t
  | str x => obtain ⟨t', rfl⟩ := r; exact .str_str x t' z t
  | lst hs ha =>
    cases r
    obtain ⟨its, rv, pl, _⟩ := I.list hs
    exact .list_str z t pl.isList hu
  | tup hs ha =>
    cases r
    obtain ⟨its, rv, pl, _⟩ := I.tuple hs
    exact .tuple_str z t pl hu
  | @emp a h =>
    cases r
    obtain ⟨_, ya, va, ra, ⟨cls, dd, dat, sl⟩, es, ep, ho, hx, hd, _⟩ := (show ObjOk X.prog X.w H s.heap a (.dK []) from I.hok a _ h)
    have e1 := hx.1
    simp only at e1 hd
    subst e1 hd
    exact SeqAt.rc_dict_str50 z t ho hu
theorem eqS' (I : Inv X pins σ H s) {A : Around} (hu : A.units < cLine) {d : PyData} {v : V} {u : Value} (h : Dv X.K H v d) (r : RelV v u) (z : Str) (t : Tok) : SeqAt.EqAt A s (.str z t) u (isStr d z) := by
  cases h with
  | non => cases r; exact .str_none z t
  | bl b => cases r; exact .str_bool z t b
  | int i => obtain ⟨t', rfl⟩ := r; exact .str_int z t i t'
  | str x =>
    obtain ⟨t', rfl⟩ := r
    have e : isStr (.str x) z = (z == x) := by
      show (x == z) = (z == x)
      rw [Bool.eq_iff_iff, beq_iff_eq, beq_iff_eq]
      exact ⟨Eq.symm, Eq.symm⟩
    rw [e]
    exact .str_str z t x t'
  | lst hs ha =>
    cases r
    obtain ⟨its, rv, pl, _⟩ := I.list hs
    exact .str_list z t pl.isList hu
  | tup hs ha =>
    cases r
    obtain ⟨its, rv, pl, _⟩ := I.tuple hs
    exact .str_tuple z t pl hu
  | @emp a h =>
    cases r
    obtain ⟨_, ya, va, ra, ⟨cls, dd, dat, sl⟩, es, ep, ho, hx, hd, _⟩ := (show ObjOk X.prog X.w H s.heap a (.dK []) from I.hok a _ h)
    have e1 := hx.1
    simp only at e1 hd
    subst e1 hd
    exact SeqAt.eq_str_dict50 z t ho hu
end
/-- v == 'text' -/
def rEqS (K : PySem.W.Frag) : R2 := fun x y H Q => ∃ d z, Dv K H x d ∧ y = .str z ∧ Q (.bl (isStr d z)) H
theorem op_eqS {X : Cx} (hu : X.A.units < cLine) : OpR X (compareOp .Eq) (rEqS X.K) := by
  intro pins s σ H x y v u Q I rx ry h
  obtain ⟨d, z, hd, rfl, q⟩ := h
  obtain ⟨t, rfl⟩ := ry
  exact rcS I hu hd rx z t X.prog X.w _ _ ⟨.bl _, H, I, rfl, q⟩
/-- v in ('a', 'b') or a list of texts -/
def rInZ (K : PySem.W.Frag) : R2 := fun x y H Q => ∃ d p, ∃ zs : List Str, Dv K H x d ∧ y = .ref p ∧ (SqL K H p (zs.map V.str) ∨ SqT K H p (zs.map V.str)) ∧ Q (.bl (zs.any (isStr d))) H
def rNotInZ (K : PySem.W.Frag) : R2 := fun x y H Q => ∃ d p, ∃ zs : List Str, Dv K H x d ∧ y = .ref p ∧ (SqL K H p (zs.map V.str) ∨ SqT K H p (zs.map V.str)) ∧ Q (.bl (!zs.any (isStr d))) H
def isV (d : PyData) : Value → Bool
  | .str z _ => isStr d z
  | _ => false
theorem isV_any (d : PyData) : ∀ {zs : List Str} {us : List Value}, Vals (zs.map V.str) us → us.any (isV d) = zs.any (isStr d)
  | [], _, h => by cases h; rfl
  | z :: zs, _, h => by
    cases h with
    | cons r t =>
      obtain ⟨tk, rfl⟩ := r
      rw [List.any_cons, List.any_cons, isV_any d t]
      rfl
section
variable {X : Cx} {pins : List (Addr × Obj)} {σ : L2.St} {H : Hp} {s : Shared}
theorem isV_all (I : Inv X pins σ H s) {A : Around} (hu : A.units < cLine) {d : PyData} {v : V} {u : Value} (h : Dv X.K H v d) (r : RelV v u) : ∀ {zs : List Str} {us : List Value}, Vals (zs.map V.str) us → ∀ y ∈ us, SeqAt.EqAt A s y u (isV d y)
  | [], _, hv => fun y hy => by cases hv; cases hy
  | z :: zs, _, hv => fun y hy => by
    cases hv with
    | cons r1 t =>
      obtain ⟨tk, rfl⟩ := r1
      rcases List.mem_cons.mp hy with rfl | hy
      · exact eqS' I hu h r z tk
      · exact isV_all I hu h r t y hy
end
theorem op_inZ {X : Cx} (hu : X.A.units + 1 < cLine) : OpR X (compareOp .In) (rInZ X.K) := by
  intro pins s σ H x y v u Q I rx ry h
  obtain ⟨d, p, zs, hd, rfl, hq, q⟩ := h
  cases ry
  rcases hq with hq | hq
  · obtain ⟨its, r, pl, hz⟩ := I.list hq
    refine SeqAt.in_listAt (isV d) pl.isList (fun w hw => isV_all I (A := X.A.in1) hu hd rx r w (by simpa using hw)) ⟨.bl _, H, I, rfl, ?_⟩
    rw [show its.toArray.any (isV d) = its.any (isV d) by simp, isV_any d r]
    exact q
  · obtain ⟨its, r, pl, hz⟩ := I.tuple hq
    refine SeqAt.in_tupleAt (isV d) pl (fun w hw => isV_all I (A := X.A.in1) hu hd rx r w (by simpa using hw)) ⟨.bl _, H, I, rfl, ?_⟩
    rw [show its.toArray.any (isV d) = its.any (isV d) by simp, isV_any d r]
    exact q
theorem op_notInZ {X : Cx} (hu : X.A.units + 1 < cLine) : OpR X (compareOp .NotIn) (rNotInZ X.K) := by
  intro pins s σ H x y v u Q I rx ry h
  obtain ⟨d, p, zs, hd, rfl, hq, q⟩ := h
  cases ry
  rcases hq with hq | hq
  · obtain ⟨its, r, pl, hz⟩ := I.list hq
    refine SeqAt.notIn_listAt (isV d) pl.isList (fun w hw => isV_all I (A := X.A.in1) hu hd rx r w (by simpa using hw)) ⟨.bl _, H, I, rfl, ?_⟩
    rw [show its.toArray.any (isV d) = its.any (isV d) by simp, isV_any d r]
    exact q
  · obtain ⟨its, r, pl, hz⟩ := I.tuple hq
    refine SeqAt.notIn_tupleAt (isV d) pl (fun w hw => isV_all I (A := X.A.in1) hu hd rx r w (by simpa using hw)) ⟨.bl _, H, I, rfl, ?_⟩
    rw [show its.toArray.any (isV d) = its.any (isV d) by simp, isV_any d r]
    exact q
/-- what kind of thing it is -/
def tyD : PyData → Value
  | .none => .type "NoneType"
  | .bool _ => .type "bool"
  | .int _ => .type "int"
  | .str _ => .type "str"
  | .list _ => .type "list"
  | .tuple _ => .type "tuple"
  | .dict _ => .type "dict"
def rIsD (K : PySem.W.Frag) : List V → Hp → VK → Prop := fun xs H Q => ∃ (x c : V) (d : PyData) (u : Value) (b : Bool), xs = [x, c] ∧ ClsV c u ∧ Dv K H x d ∧ PySem.W.kitOne K (tyD d) u = some b ∧ Q (.bl b) H
theorem call_isD {X : Cx} : CallR X (.builtin "isinstance") (rIsD X.K) := by
  intro pins s σ H xs us Q I r h
  obtain ⟨x, c, d, u, b, rfl, k, hd, e, q⟩ := h
  obtain ⟨u1, u2, rfl, r1, r2⟩ := vals2 r
  have e2 := k.eq r2
  subst e2
  have fin : ∀ {P : Heap → Prop}, PySem.W.KitX X.K u1 (tyD d) P → P s.heap → u1 ≠ .builtin "__main__.__loader__#opaque" → wpAny (model X.prog X.w) X.A (call (.builtin "isinstance") [u1, u2]) (EP X pins σ Q) X.xe s :=
    fun Z p hx => PySem.W.kia_one Z I.kIn p e hx fun tk => ⟨.bl b, H, I.tok tk, rfl, q⟩
  cases hd with
  | non => cases r1; exact fin PySem.W.kitx_none True.intro fun z => nomatch z
  | bl b => cases r1; exact fin PySem.W.kitx_bool True.intro fun z => nomatch z
  | int i => obtain ⟨t', rfl⟩ := r1; exact fin PySem.W.kitx_int True.intro fun z => nomatch z
  | str x => obtain ⟨t', rfl⟩ := r1; exact fin PySem.W.kitx_str True.intro fun z => nomatch z
  | lst hs ha =>
    cases r1
    obtain ⟨its, rv, ⟨o, n, ho, hc, _, hd⟩, _⟩ := I.list hs
    exact fin PySem.W.kitx_list ⟨o, ho, hc⟩ fun z => nomatch z
  | tup hs ha =>
    cases r1
    obtain ⟨its, rv, ⟨o, ho, hc, n, hd⟩, _⟩ := I.tuple hs
    exact fin PySem.W.kitx_tuple ⟨o, ho, hc⟩ fun z => nomatch z
  | @emp a h =>
    cases r1
    obtain ⟨_, ya, va, ra, o, es, ep, ho, hx, hd, _⟩ := (show ObjOk X.prog X.w H s.heap a (.dK []) from I.hok a _ h)
    exact fin PySem.W.kitx_dict ⟨o, ho, hx.1⟩ fun z => nomatch z
end L50
namespace L50
open PySem PySem.Spec PyProof.Rows L2 L54
def top (i : Nat) : Stmt := PySem.Challenge.pw_lasttouch_k50_programs_are_recognized.main.body.getD i (.Pass ⟨0, 0, 0, 0⟩)
abbrev sIsName : Stmt := top 10
abbrev sIsProgram : Stmt := top 11
abbrev sCheck : Stmt := top 12
abbrev sNames : Stmt := top 13
abbrev sIsPart : Stmt := top 14
abbrev sMembers : Stmt := top 15
abbrev sMixed : Stmt := top 17
abbrev sCell : Stmt := top 18
abbrev sTake : Stmt := top 19
abbrev sWords : Stmt := top 20
abbrev sProgram : Stmt := top 21
abbrev sInner : Stmt := top 22
abbrev sLawNames : Stmt := top 23
abbrev sNoNames : Stmt := top 24
abbrev sNoProgs : Stmt := top 25
abbrev sWord : Stmt := top 26
abbrev sLook : Stmt := top 27
abbrev sIs : Stmt := top 28
abbrev sGood : Stmt := top 29
abbrev sBent : Stmt := top 30
abbrev sEdges : Stmt := top 31
abbrev sLaw : Stmt := top 32
/-- the built-ins are still the built-ins -/
structure Bl (mg : Str → Option Value) : Prop where
  int : mg "int" = none
  len : mg "len" = none
  range : mg "range" = none
  max : mg "max" = none
  min : mg "min" = none
  isi : mg "isinstance" = none
  str : mg "str" = none
  all : mg "all" = none
  any : mg "any" = none
  tup : mg "tuple" = none
  srt : mg "sorted" = none
  lst : mg "list" = none
  dct : mg "dict" = none
  bool : mg "bool" = none
theorem b_int : bootBuiltins "int" = some (.type "int") := by decide +kernel
theorem b_str : bootBuiltins "str" = some (.type "str") := by decide +kernel
theorem b_tup : bootBuiltins "tuple" = some (.type "tuple") := by decide +kernel
theorem b_len : bootBuiltins "len" = some (.builtin "len") := by decide +kernel
theorem b_max : bootBuiltins "max" = some (.builtin "max") := by decide +kernel
theorem b_min : bootBuiltins "min" = some (.builtin "min") := by decide +kernel
theorem b_isi : bootBuiltins "isinstance" = some (.builtin "isinstance") := by decide +kernel
theorem b_all : bootBuiltins "all" = some (.builtin "all") := by decide +kernel
theorem b_any : bootBuiltins "any" = some (.builtin "any") := by decide +kernel
section
variable {P : Program} {w : World} {K : PySem.W.Frag} {mg : Str → Option Value} {base : Heap}
/-! ### _law_mixed -/
def spMixed : Sp := fun vs H Q _ => ∃ c k : Int, vs = [.int c, .int k] ∧ ∀ r : Int, 0 ≤ r → r < 2147483579 → Q (.int r) H
theorem scM : FnScope ["cell", "k", "mix"] ["cell", "k"] (defScope sMixed) := ⟨rfl, rfl, rfl, by decide +kernel, rfl, by decide +kernel, by decide +kernel⟩
theorem ok_mixed {f : Addr} {fd : FuncData} (F : Fun K "_law_mixed" "_law_mixed" sMixed f fd) (T : Bl mg) : FnOk P w K mg base CX0 1 f fd ["cell", "k"] spMixed := by
  refine F.ok scM (fun vs H Q E h => ?_) (fun cdv A outer s H vs Q E hr h => ?_)
  · obtain ⟨c, k, rfl, _⟩ := h
    rfl
  · obtain ⟨c, k, rfl, h⟩ := h
    refine ⟨_, pss_cons (ps_set (i := 2) scM.nd rfl (.inl rfl) (pe_op op_mod (pe_callTy call_int1 rfl T.int b_int (pa_cons (pe_op op_add (pe_op op_add (pe_op op_mul (pe_op op_mod (pe_callTy call_int1 rfl T.int b_int (pa_cons (pv 0) pa_nil)) pe_int) pe_int) (pe_op op_mul (pv 1) pe_int)) pe_int) pa_nil)) pe_int))
      (pss_cons (ps_set (i := 2) scM.nd rfl (.inl rfl) (pe_op op_mod (pe_callTy call_int1 rfl T.int b_int (pa_cons (pe_op op_mul (pv 2) (pv 2)) pa_nil)) pe_int))
      (pss_one (ps_ret (pe_op op_mod (pe_callTy call_int1 rfl T.int b_int (pa_cons (pe_op op_mul (pv 2) (pe_op op_add (pv 2) pe_int)) pa_nil)) pe_int)))), ?_⟩
    refine ⟨_, rfl, .inl ⟨_, rfl, _, _, rfl, rfl, (by show (0 : Int) < 2147483647; decide), _, _, rfl, rfl, .inr ⟨by decide, by decide⟩, _, rfl, _, _, rfl, rfl, .inr ⟨by decide, by decide⟩, _, _, rfl, rfl, _, _, rfl, rfl, .inl ⟨_, rfl, _, _, rfl, rfl, (by show (0 : Int) < 2147483629; decide), ?_⟩⟩⟩
    generalize hm : (c % 2147483647 * 48271 + k * 69621 + 1048583) % 2147483629 = m
    have m0 : 0 ≤ m := by rw [← hm]; exact Int.emod_nonneg _ (by decide)
    have m1 : m < 2147483629 := by rw [← hm]; exact Int.emod_lt_of_pos _ (by decide)
    refine ⟨_, rfl, _, rfl, _, _, rfl, rfl, .inl ⟨by omega, by omega⟩, .inl ⟨_, rfl, _, _, rfl, rfl, (by show (0 : Int) < 2147483587; decide), ?_⟩⟩
    generalize hn : (m * m) % 2147483587 = n
    have n0 : 0 ≤ n := by rw [← hn]; exact Int.emod_nonneg _ (by decide)
    have n1 : n < 2147483587 := by rw [← hn]; exact Int.emod_lt_of_pos _ (by decide)
    refine ⟨_, rfl, _, rfl, _, _, rfl, rfl, _, _, rfl, rfl, .inl ⟨by omega, by omega⟩, .inl ⟨_, rfl, _, _, rfl, rfl, (by show (0 : Int) < 2147483579; decide), ?_⟩⟩
    exact h _ (Int.emod_nonneg _ (by decide)) (Int.emod_lt_of_pos _ (by decide))
/-! ### _law_take -/
def big : Int := 2 ^ 1000
def spTake : Sp := fun vs H Q _ => ∃ (p : Addr) (n o : Int), vs = [.ref p, .int o] ∧ H p = some (.lst [.int n]) ∧ 0 ≤ n ∧ n < big ∧ 1 ≤ o ∧ o ≤ 1000 ∧
  ∀ d n' : Int, 0 ≤ d → d < o → 0 ≤ n' → n' < big → Q (.int d) (upd H p (.lst [.int n']))
theorem scT : FnScope ["own", "options", "digit"] ["own", "options"] (defScope sTake) := ⟨rfl, rfl, rfl, by decide +kernel, rfl, by decide +kernel, by decide +kernel⟩
theorem ok_take {f : Addr} {fd : FuncData} (F : Fun K "_law_take" "_law_take" sTake f fd) (T : Bl mg) : FnOk P w K mg base CX0 1 f fd ["own", "options"] spTake := by
  refine F.ok scT (fun vs H Q E h => ?_) (fun cdv A outer s H vs Q E hr h => ?_)
  · obtain ⟨p, n, o, rfl, _⟩ := h
    rfl
  · obtain ⟨p, n, o, rfl, hp, n0, n1, o1, o2, h⟩ := h
    refine ⟨_, pss_cons (ps_set (i := 2) scT.nd rfl (.inl rfl) (pe_op op_mod (pe_callTy call_int1 rfl T.int b_int (pa_cons (pe_ix ix_list (pv 0) pe_int (fun _ _ => rfl)) pa_nil)) (pv 1)))
      (pss_cons (ps_asg (pe_op op_fdivW (pe_ix ix_list (pv 0) pe_int (fun _ _ => rfl)) (pv 1)) (pg_sub (pv 0) pe_int set_list))
      (pss_one (ps_ret (pv 2)))), ?_⟩
    have hs : SqL K H p [V.int n] := .inl (.inl hp)
    refine ⟨_, rfl, p, _, _, _, rfl, rfl, hs, rfl, .inl ⟨_, rfl, _, rfl, _, _, rfl, rfl, (by omega), ?_⟩⟩
    refine ⟨_, rfl, p, _, _, _, rfl, rfl, hs, rfl, _, rfl, _, _, rfl, rfl, wide_div (b := 64) (by omega) (by omega) (by decide) (by decide), _, rfl, p, _, _, 0, rfl, rfl, hp, rfl, _, rfl, ?_⟩
    refine h _ _ (Int.emod_nonneg _ (by omega)) (Int.emod_lt_of_pos _ (by omega)) (Int.ediv_nonneg n0 (by omega)) ?_
    exact Int.lt_of_le_of_lt (Int.ediv_le_self _ n0) n1
end
end L50
namespace L50
open PySem PySem.Spec PyProof.Rows L2 L54
section
variable {P : Program} {w : World} {K : PySem.W.Frag} {mg : Str → Option Value} {base : Heap}
/-! ### _law_cell -/
def spCell (K : PySem.W.Frag) : Sp := fun vs H Q _ => ∃ (l : Addr) (ns : List Int) (j : Nat), vs = [.ref l, .int (j : Int)] ∧ SqL K H l (ns.map V.int) ∧ j ≤ 1000 ∧ ∀ c : Int, 0 ≤ c → c < big → Q (.int c) H
theorem scC : FnScope ["script", "k", "cell", "found", "j"] ["script", "k"] (defScope sCell) := ⟨rfl, rfl, rfl, by decide +kernel, rfl, by decide +kernel, by decide +kernel⟩
theorem mod0 : (0 : Int) < 10 ^ (60 : Int).toNat * 10 ^ (60 : Int).toNat * 10 ^ (60 : Int).toNat * 10 ^ (60 : Int).toNat := by decide +kernel
theorem mod1 : (10 : Int) ^ (60 : Int).toNat * 10 ^ (60 : Int).toNat * 10 ^ (60 : Int).toNat * 10 ^ (60 : Int).toNat < big := by decide +kernel
theorem pow24 : (2147483579 : Int) ^ 24 < big := by decide +kernel
theorem ok_cell {f fM : Addr} {fd fdM : FuncData} (F : Fun K "_law_cell" "_law_cell" sCell f fd) (T : Bl mg) (FM : Fun K "_law_mixed" "_law_mixed" sMixed fM fdM) (bM : Binds K fdM ["cell", "k"] []) (mM : mg "_law_mixed" = some (.ref fM)) :
    FnOk P w K mg base CX0 2 f fd ["script", "k"] (spCell K) := by
  have GM : FnOk P w K mg base CX0 1 fM fdM ["cell", "k"] spMixed := ok_mixed FM T
  refine F.ok scC (fun vs H Q E h => ?_) (fun cdv A outer s H vs Q E hr h => ?_)
  · obtain ⟨l, ns, j, rfl, _⟩ := h
    rfl
  · obtain ⟨l, ns, j, rfl, hs, hj, h⟩ := h
    obtain ⟨t2, h2, q2⟩ : ∃ t2, PSs (cxOf CX0 P w K mg base ["script", "k", "cell", "found", "j"] "_law_cell" (defScope sCell) f cdv A outer s H E).nox ((defBody sCell).drop 2) t2 ∧
        ∀ c : Int, t2 { nx := fun _ H' => Q .non H', rt := Q } [some (.ref l), some (.int (j : Int)), some (.int c), none, none] H := by
      refine ⟨_, pss_cons (ps_if (pt_cmpR op_ge (pv 2) (pe_op op_pow pe_int pe_int) (nomark _))
          (pss_one (ps_ret (pe_op op_mod (pe_callTy call_int1 rfl T.int b_int (pa_cons (pe_op op_sub (pv 2) (pe_op op_pow pe_int pe_int)) pa_nil))
            (pe_op op_mulW (pe_op op_mulW (pe_op op_mulW (pe_op op_pow pe_int pe_int) (pe_op op_pow pe_int pe_int)) (pe_op op_pow pe_int pe_int)) (pe_op op_pow pe_int pe_int))))) pss_nil)
        (pss_cons (ps_set (i := 3) scC.nd rfl (.inl rfl) pe_int)
        (pss_cons (ps_for PassesOwn.never rfl (pi_range1 rfl T.range (pa_cons pe_int pa_nil)) (pg_name (i := 4) scC.nd rfl (Or.inl rfl))
          (pss_one (ps_set (i := 3) scC.nd rfl (.inl rfl) (pe_op op_add (pe_op op_mul (pv 3) pe_int)
            (pe_call GM hr rfl mM FM.kp bM .nil pass0 (pa_cons (pv 2) (pa_cons (pe_op op_add (pe_op op_add (pe_op op_mul pe_int (pv 1)) (pe_op op_mul pe_int (pv 4))) (pe_op op_mul (pv 4) (pv 4))) pa_nil)))))))
        (pss_one (ps_ret (pv 3))))), fun c => ?_⟩
      have pw : ∀ i j : Int, 0 ≤ j → j ≤ 1000 → i.natAbs < 1000 → CPow i j := fun i j a b c => ⟨a, by omega, Nat.lt_trans c (by decide)⟩
      refine ⟨_, rfl, _, _, rfl, rfl, pw _ _ (by decide) (by decide) (by decide), _, _, rfl, rfl, _, rfl, ?_⟩
      refine ite2 (fun _ => ?_) (fun _ => ?_)
      · refine ⟨_, rfl, _, _, rfl, rfl, pw _ _ (by decide) (by decide) (by decide), _, _, rfl, rfl, .inl ⟨_, rfl, _, _, rfl, rfl, pw _ _ (by decide) (by decide) (by decide), _, _, rfl, rfl, pw _ _ (by decide) (by decide) (by decide), _, _, rfl, rfl, (by unfold CMulW; decide +kernel), _, _, rfl, rfl, pw _ _ (by decide) (by decide) (by decide), _, _, rfl, rfl, (by unfold CMulW; decide +kernel), _, _, rfl, rfl, pw _ _ (by decide) (by decide) (by decide), _, _, rfl, rfl, (by unfold CMulW; decide +kernel), _, _, rfl, rfl, mod0, ?_⟩⟩
        refine h _ (Int.emod_nonneg _ (Int.ne_of_gt mod0)) (Int.lt_trans (Int.emod_lt_of_pos _ mod0) mod1)
      · refine ⟨24, rfl, by decide, by decide, for_range (n := 24) (fun i σ H' => ∃ (fv : Int) (jv : Option V), σ = [some (.ref l), some (.int (j : Int)), some (.int c), some (.int fv), jv] ∧ H' = H ∧ 0 ≤ fv ∧ fv < 2147483579 ^ i) ⟨0, none, rfl, rfl, by decide, by decide⟩ ?_ ?_⟩
        · rintro i σ H' hi ⟨fv, jv, rfl, rfl, f0, f1⟩
          refine ⟨_, rfl, _, _, rfl, rfl, .inr ⟨by decide, by decide⟩, _, rfl, _, rfl, _, _, rfl, rfl, .inl ⟨by decide, by decide⟩, _, rfl, _, _, rfl, rfl, .inl ⟨by decide, by decide⟩, _, _, rfl, rfl, _, rfl, _, rfl, _, _, rfl, rfl, .inl ⟨by omega, by omega⟩, _, _, rfl, rfl, c, _, rfl, fun r r0 r1 => ?_⟩
          refine ⟨_, _, rfl, rfl, _, _, rfl, rfl, by omega, ?_⟩
          rw [Int.pow_succ]
          generalize (2147483579 : Int) ^ i = pp at *
          omega
        · rintro σ H' ⟨fv, jv, rfl, rfl, f0, f1⟩
          exact ⟨_, rfl, h _ f0 (Int.lt_trans f1 pow24)⟩
    refine ⟨_, pss_cons (ps_set (i := 2) scC.nd rfl (.inl rfl) pe_int)
      (pss_cons (ps_if (pt_cmpR op_lt (pv 1) (pe_callB call_len_seq rfl T.len b_len (pa_cons (pv 0) pa_nil)) (nomark _)) (pss_one (ps_set (i := 2) scC.nd rfl (.inl rfl) (pe_ix ix_list (pv 0) (pv 1) (fun _ _ => rfl)))) pss_nil) h2), ?_⟩
    refine ⟨_, rfl, _, rfl, l, _, rfl, .inl hs, _, _, rfl, rfl, _, rfl, ?_⟩
    refine ite2 (fun hlt => ?_) (fun _ => q2 0)
    have hlt' : j < ns.length := by
      have z := of_decide_eq_true hlt
      rw [List.length_map] at z
      omega
    refine ⟨_, rfl, _, rfl, l, _, _, .int (ns[j]), rfl, rfl, hs, atI_nat (by simp [hlt']), q2 _⟩
end
end L50
namespace L50
open PySem PySem.Spec PyProof.Rows L2 L54
/-! ### the module's constants -/
def letters : Str := "abcdefghijklmnopqrstuvwxyz"
def noNames : List Str := ["skip", "start", "end"]
structure Gb (K : PySem.W.Frag) (mg : Str → Option Value) : Prop where
  let_ : ∃ u, mg "LETTERS" = some u ∧ RelV (.str letters) u
  no : ∃ a, mg "NOT_NAMES" = some (.ref a) ∧ ∀ H, SqT K H a (noNames.map V.str)
  ln : ∃ u, mg "LONGEST_NAME" = some u ∧ RelV (.int 8) u
  mp : ∃ u, mg "MOST_PARTS" = some u ∧ RelV (.int 60) u
  mn : ∃ u, mg "MOST_NAMES" = some u ∧ RelV (.int 6) u
  dp : ∃ u, mg "DEEPEST" = some u ∧ RelV (.int 40) u
def isS : PyData → Bool
  | .str _ => true
  | _ => false
def isT : PyData → Bool
  | .tuple _ => true
  | _ => false
theorem nS {c : Bool} {A B : Prop} (a : c = true → A) (b : c = false → B) : if (c = true) then A else B := by cases c with
  | true => exact iT rfl (a rfl)
  | false => exact iF Bool.false_ne_true (b rfl)
theorem k_str {K : PySem.W.Frag} (d : PyData) : PySem.W.kitOne K (tyD d) (.type "str") = some (isS d) := by
  cases d <;> first | exact kit_ty (r := true) (by decide +kernel) | exact kit_ty (r := false) (by decide +kernel)
theorem k_tup {K : PySem.W.Frag} (d : PyData) : PySem.W.kitOne K (tyD d) (.type "tuple") = some (isT d) := by
  cases d <;> first | exact kit_ty (r := true) (by decide +kernel) | exact kit_ty (r := false) (by decide +kernel)
def isName : PyData → Bool
  | .str z => decide (1 ≤ z.length) && decide (z.length ≤ 8) && !noNames.any (isStr (.str z)) && z.cps.toList.all fun c => decide (c ∈ letters.cps.toList)
  | _ => false
section
variable {P : Program} {w : World} {K : PySem.W.Frag} {mg : Str → Option Value} {base : Heap}
def spName (K : PySem.W.Frag) : Sp := fun vs H Q _ => ∃ (v : V) (d : PyData), vs = [v] ∧ Dv K H v d ∧ d.weight ≤ 4000 ∧ ∀ H', Same H H' → Q (.bl (isName d)) H'
abbrev nIN : List Str := ["value", "sign"]
theorem scIN : FnScope nIN ["value"] (defScope sIsName) := ⟨rfl, rfl, rfl, by decide +kernel, rfl, by decide +kernel, by decide +kernel⟩
theorem ok_name {f : Addr} {fd : FuncData} (F : Fun K "is_name" "is_name" sIsName f fd) (T : Bl mg) (G : Gb K mg) : FnOk P w K mg base CX0 1 f fd ["value"] (spName K) := by
  obtain ⟨uL, mL, rL⟩ := G.let_
  obtain ⟨aN, mN, tN⟩ := G.no
  obtain ⟨u8, m8, r8⟩ := G.ln
  refine F.ok scIN (fun vs H Q E h => ?_) (fun cdv A outer s H vs Q E hr h => ?_)
  · obtain ⟨v, d, rfl, _⟩ := h
    rfl
  · obtain ⟨v, d, rfl, hD, hw, h⟩ := h
    have hu := hu_of hr
    refine ⟨_, pss_cons (ps_if (PW.pt (pw_or (pt_not (pt_val (pe_callB call_isD rfl T.isi b_isi (pa_cons (pv 0) (pa_cons (pe_bltn (v := .ty "str") rfl T.str b_str rfl) pa_nil)))))
        (pw_or (pt_not (pt_chain op_le op_le pe_int (pe_callB call_len_str rfl T.len b_len (pa_cons (pv 0) pa_nil)) (pe_glob rfl m8 r8)))
        (pw_or1 (pt_cmpR (op_inZ hu) (pv 0) (pe_glob (v := .ref aN) rfl mN rfl) rfl))))) (pss_one (ps_ret pe_bl)) pss_nil)
      (pss_one (ps_ret (pe_callB (cr_all rfl) rfl T.all b_all (pa_cons (pe_lc (own := [("sign", 1)]) (g := gName 1) (tt := tYes) rfl scIN.nd (pi_str (pv 0)) (blkOk_by (N := nIN) (sc := defScope sIsName) (by decide +kernel)) (fun _ _ _ _ _ => pg_name (i := 1) scIN.nd rfl (Or.inl rfl)) (fun _ _ _ _ _ => pts_nil)
        (fun _ _ _ _ _ => pe_cmpR op_in_sign (pv 1) (pe_glob rfl mL rL) rfl)) pa_nil)))), ?_⟩
    refine ⟨_, rfl, _, _, d, _, _, rfl, .ty _, hD, k_str d, _, rfl, ?_⟩
    cases d with
    | str z =>
      cases hD
      refine iF Bool.false_ne_true ?_
      have hz : z.length ≤ 4000 := hw
      refine ⟨_, rfl, z, rfl, by rw [sizeLine_eq]; omega, _, _, rfl, rfl, _, rfl, nS (fun h1 => ⟨_, _, rfl, rfl, _, rfl, ?_⟩) (fun h1 => ⟨_, rfl, ?_⟩)⟩
      · refine nS (fun h2 => ?_) (fun h2 => ?_)
        · have e : isName (.str z) = false := by simp [isName] at h2 ⊢; intros; omega
          have q := h H (Same.refl H)
          rw [e] at q
          exact q
        · refine ⟨_, rfl, .str z, aN, noNames, .str z, rfl, .inr (tN H), _, rfl, ?_⟩
          refine nS (fun h3 => ?_) (fun h3 => ?_)
          · have e : isName (.str z) = false := by simp [isName, h3]
            have q := h H (Same.refl H)
            rw [e] at q
            exact q
          · refine ⟨_, rfl, z, rfl, fun D nD => ?_⟩
            refine lc_it (walk_str (z := z)) (fun i Hc => Same H Hc ∧ Hc D = some (.lst (((z.cps.toList.take i).map fun c => decide (c ∈ letters.cps.toList)).map V.bl))) ⟨up1 nD, by rw [upd_same]; rfl⟩ (fun _ _ _ _ => True.intro) ?_ ?_
            · rintro i x Hc H' hi ⟨Sc, Lc⟩ ⟨rfl, c, hc, rfl⟩
              refine ⟨rfl, ?_⟩
              refine ⟨_, rfl, c, letters, rfl, rfl, _, Lc, small1000 (by
                have h9 : z.length ≤ 8 := by simp at h2; omega
                have h8 : z.cps.size = z.length := rfl
                rw [List.length_map, List.length_map, List.length_take]
                omega), same_at Sc nD, ?_⟩
              have hc' : z.cps.toList[i]? = some c := by simpa using hc
              rw [upd_same, List.take_add_one, hc']
              simp
            · rintro Hc ⟨Sc, Lc⟩
              have e : (((z.cps.toList.take z.cps.size).map fun c => decide (c ∈ letters.cps.toList)).all id) = isName (.str z) := by
                have f : z.cps.toList.take z.cps.size = z.cps.toList := List.take_of_length_le (by simp)
                rw [f]
                have h8 : 1 ≤ z.length := by simp at h1; omega
                have h9 : z.length ≤ 8 := by simp at h2; omega
                simp [isName, h3, h8, h9, List.all_map]
              refine ⟨D, _, rfl, .inl (.inl Lc), ?_⟩
              rw [e]
              exact h _ Sc
      · refine iT rfl ?_
        have e : isName (.str z) = false := by
          have h1' : ¬ (1 ≤ z.length) := fun z1 => by simp at h1; omega
          simp [isName, h1']
        have q := h H (Same.refl H)
        rw [e] at q
        exact q
    | none => exact iT rfl (h H (Same.refl H))
    | bool b => exact iT rfl (h H (Same.refl H))
    | int i => exact iT rfl (h H (Same.refl H))
    | list ds => exact iT rfl (h H (Same.refl H))
    | tuple ds => exact iT rfl (h H (Same.refl H))
    | dict ds => exact iT rfl (h H (Same.refl H))
end
end L50
namespace L50
open PySem PySem.Spec PyProof.Rows L2 L54
/-! ### a part by its form, its members -/
def one1 : List PyData → Bool
  | [n] => isName n
  | _ => false
def partOf (k : PyData) (r : List PyData) : Bool :=
  if isStr k "do" then one1 r else if isStr k "skip" then r.isEmpty else if isStr k "rep" then decide (r.length = 1) else (isStr k "seq" || isStr k "or") && decide (2 ≤ r.length)
def isPart : PyData → Bool
  | .tuple (k :: r) => partOf k r
  | _ => false
theorem DvAll.at {K : PySem.W.Frag} {H : Hp} {vs : List V} {ds : List PyData} (h : DvAll K H vs ds) {i : Nat} {d : PyData} (e : ds[i]? = some d) : ∃ v, vs[i]? = some v ∧ Dv K H v d := by
  have hl := h.len
  have hi : i < vs.length := by rw [hl]; exact (List.getElem?_eq_some_iff.mp e).1
  obtain ⟨d', e1, e2⟩ := h.get (List.getElem?_eq_getElem hi)
  rw [e] at e1
  cases e1
  exact ⟨_, List.getElem?_eq_getElem hi, e2⟩
theorem wAll_mem : ∀ {ds : List PyData} {d : PyData}, d ∈ ds → d.weight ≤ PyData.weightAll ds
  | x :: xs, d, h => by
    have e : PyData.weightAll (x :: xs) = x.weight + 1 + PyData.weightAll xs := by rw [PyData.weightAll]
    rw [e]
    rcases List.mem_cons.mp h with rfl | h
    · omega
    · have := wAll_mem h
      omega
theorem wAll_len : ∀ ds : List PyData, ds.length ≤ PyData.weightAll ds
  | [] => Nat.zero_le _
  | x :: xs => by
    have e : PyData.weightAll (x :: xs) = x.weight + 1 + PyData.weightAll xs := by rw [PyData.weightAll]
    have := wAll_len xs
    rw [e, List.length_cons]
    omega
theorem w_tup (ds : List PyData) : (PyData.tuple ds).weight = PyData.weightAll ds := by rw [PyData.weight]
theorem at0 {α : Type} {x : α} {xs : List α} : atI (x :: xs) 0 = some x := atI_nat (j := 0) (by simp)
theorem at1 {α : Type} {x y : α} {xs : List α} : atI (x :: y :: xs) 1 = some y := atI_nat (j := 1) (by simp)
theorem dlen {n m : Nat} : decide (V.int (n : Int) = V.int (m : Int)) = decide (n = m) := by
  by_cases h : n = m
  · subst h; simp
  · have : ¬ (V.int (n : Int) = V.int (m : Int)) := fun z => h (by have := V.int.inj z; omega)
    rw [decide_eq_false this, decide_eq_false h]
section
variable {P : Program} {w : World} {K : PySem.W.Frag} {mg : Str → Option Value} {base : Heap}
def spPart (K : PySem.W.Frag) : Sp := fun vs H Q _ => ∃ (v : V) (d : PyData), vs = [v] ∧ Dv K H v d ∧ d.weight ≤ 4000 ∧ ∀ H', Same H H' → Q (.bl (isPart d)) H'
abbrev nIP : List Str := ["value", "kind"]
theorem scIP : FnScope nIP ["value"] (defScope sIsPart) := ⟨rfl, rfl, rfl, by decide +kernel, rfl, by decide +kernel, by decide +kernel⟩
theorem ok_part {f fN : Addr} {fd fdN : FuncData} (F : Fun K "_is_part" "_is_part" sIsPart f fd) (T : Bl mg) (G : Gb K mg) (FN : Fun K "is_name" "is_name" sIsName fN fdN) (bN : Binds K fdN ["value"] []) (mN : mg "is_name" = some (.ref fN)) : FnOk P w K mg base CX0 2 f fd ["value"] (spPart K) := by
  have GN : FnOk P w K mg base CX0 1 fN fdN ["value"] (spName K) := ok_name FN T G
  refine F.ok scIP (fun vs H Q E h => ?_) (fun cdv A outer s H vs Q E hr h => ?_)
  · obtain ⟨v, d, rfl, _⟩ := h
    rfl
  · obtain ⟨v, d, rfl, hD, hw, h⟩ := h
    have hu := hu_of hr
    have hu0 : (A.deeper (envOfC "_is_part" (defScope sIsPart) s.heap.objs.size f cdv)).units < cLine := by omega
    refine ⟨_, pss_cons (ps_if (PW.pt (pw_or (pt_not (pt_val (pe_callB call_isD rfl T.isi b_isi (pa_cons (pv 0) (pa_cons (pe_bltn (v := .ty "tuple") rfl T.tup b_tup rfl) pa_nil)))))
        (pw_or1 (pt_cmpR op_eq (pe_callB call_len_seq rfl T.len b_len (pa_cons (pv 0) pa_nil)) pe_int (nomark _))))) (pss_one (ps_ret pe_bl)) pss_nil)
      (pss_cons (ps_set (i := 1) scIP.nd rfl (.inl rfl) (pe_ix ix_tup (pv 0) pe_int (fun _ _ => rfl)))
      (pss_cons (ps_if (pt_cmpR (op_eqS hu0) (pv 1) pe_str (nomark _)) (pss_one (ps_ret (pe_and (pe_cmpR op_eq (pe_callB call_len_seq rfl T.len b_len (pa_cons (pv 0) pa_nil)) pe_int (nomark _)) (pe_one (pe_call GN hr rfl mN FN.kp bN .nil pass0 (pa_cons (pe_ix ix_tup (pv 0) pe_int (fun _ _ => rfl)) pa_nil)))))) pss_nil)
      (pss_cons (ps_if (pt_cmpR (op_eqS hu0) (pv 1) pe_str (nomark _)) (pss_one (ps_ret (pe_cmpR op_eq (pe_callB call_len_seq rfl T.len b_len (pa_cons (pv 0) pa_nil)) pe_int (nomark _)))) pss_nil)
      (pss_cons (ps_if (pt_cmpR (op_eqS hu0) (pv 1) pe_str (nomark _)) (pss_one (ps_ret (pe_cmpR op_eq (pe_callB call_len_seq rfl T.len b_len (pa_cons (pv 0) pa_nil)) pe_int (nomark _)))) pss_nil)
      (pss_one (ps_ret (pe_and (pe_cmpR (op_inZ hu) (pv 1) (pe_tup (pa_cons pe_str (pa_cons pe_str pa_nil))) rfl) (pe_one (pe_cmpR op_gt (pe_callB call_len_seq rfl T.len b_len (pa_cons (pv 0) pa_nil)) pe_int (nomark _)))))))))), ?_⟩
    refine ⟨_, rfl, _, _, d, _, _, rfl, .ty _, hD, k_tup d, _, rfl, ?_⟩
    cases d with
    | tuple ds =>
      cases hD with
      | @tup a xs _ hs ha =>
        have hl := ha.len
        have hwd : PyData.weightAll ds ≤ 4000 := by rw [← w_tup]; exact hw
        refine iF Bool.false_ne_true ?_
        refine ⟨_, rfl, a, xs, rfl, .inr hs, rfl, _, rfl, ?_⟩
        cases ha with
        | nil => exact iT rfl (h H (Same.refl H))
        | @cons x xs k ds hx ht =>
          have hlt := ht.len
          refine iF (by simp; omega) ?_
          refine ⟨_, rfl, a, _, _, x, rfl, rfl, hs, at0, ?_⟩
          refine ⟨_, rfl, k, _, hx, rfl, _, rfl, ?_⟩
          have hlen : (((x :: xs).length : Nat) : Int) = (ds.length : Int) + 1 := by rw [List.length_cons, hlt]; omega
          refine nS (fun h1 => ?_) (fun h1 => ?_)
          · refine ⟨_, rfl, a, _, rfl, .inr hs, rfl, _, rfl, ?_⟩
            have hp : isPart (.tuple (k :: ds)) = one1 ds := by
              show partOf k ds = _
              unfold partOf
              rw [h1]
              rfl
            cases ht with
            | nil => rw [hp] at h; exact h H (Same.refl H)
            | @cons y ys n es hy ht2 =>
              cases ht2 with
              | nil =>
                rw [hp] at h
                refine ⟨_, rfl, a, _, _, y, rfl, rfl, hs, at1, y, n, rfl, hy, ?_, h⟩
                have := wAll_mem (ds := [k, n]) (d := n) (by simp)
                omega
              | @cons z zs m fs hz ht3 =>
                have e : decide (V.int (((x :: y :: z :: zs).length : Nat) : Int) = V.int 2) = false := decide_eq_false (fun q => by
                  have := V.int.inj q
                  simp only [List.length_cons] at this
                  omega)
                rw [e]
                rw [hp] at h
                exact h H (Same.refl H)
          · refine ⟨_, rfl, k, _, hx, rfl, _, rfl, ?_⟩
            refine nS (fun h2 => ?_) (fun h2 => ?_)
            · refine ⟨_, rfl, a, _, rfl, .inr hs, rfl, ?_⟩
              have hp : isPart (.tuple (k :: ds)) = decide (V.int (((x :: xs).length : Nat) : Int) = V.int 1) := by
                rw [show (V.int 1) = V.int ((1 : Nat) : Int) from rfl, dlen, List.length_cons, hlt]
                show partOf k ds = _
                unfold partOf
                rw [h1, h2]
                cases ds <;> simp
              rw [← hp]
              exact h H (Same.refl H)
            · refine ⟨_, rfl, k, _, hx, rfl, _, rfl, ?_⟩
              refine nS (fun h3 => ?_) (fun h3 => ?_)
              · refine ⟨_, rfl, a, _, rfl, .inr hs, rfl, ?_⟩
                have hp : isPart (.tuple (k :: ds)) = decide (V.int (((x :: xs).length : Nat) : Int) = V.int 2) := by
                  rw [show (V.int 2) = V.int ((2 : Nat) : Int) from rfl, dlen, List.length_cons, hlt]
                  show partOf k ds = _
                  unfold partOf
                  rw [h1, h2, h3]
                  simp
                rw [← hp]
                exact h H (Same.refl H)
              · refine ⟨_, rfl, len_small (by simp), fun p np => ?_⟩
                have S := up1 (o := .tup [V.str "seq", V.str "or"]) np
                refine ⟨k, p, ["seq", "or"], hx.mono S, rfl, .inr (.inl (.inl upd_same)), _, rfl, ?_⟩
                have ha : (["seq", "or"] : List Str).any (isStr k) = (isStr k "seq" || isStr k "or") := by simp
                have hp : isPart (.tuple (k :: ds)) = ((isStr k "seq" || isStr k "or") && decide (2 ≤ ds.length)) := by
                  show partOf k ds = _
                  unfold partOf
                  rw [h1, h2, h3]
                  simp
                rw [ha]
                cases hc : (isStr k "seq" || isStr k "or") with
                | false =>
                  rw [hc] at hp
                  rw [hp] at h
                  exact h _ S
                | true =>
                  rw [hc, Bool.true_and] at hp
                  refine ⟨_, rfl, a, _, rfl, .inr (seqT S hs), _, _, rfl, rfl, ?_⟩
                  have e : decide ((2 : Int) < (((x :: xs).length : Nat) : Int)) = decide (2 ≤ ds.length) := by
                    rw [List.length_cons, hlt]
                    by_cases q : 2 ≤ ds.length
                    · rw [decide_eq_true q, decide_eq_true (by omega)]
                    · rw [decide_eq_false q, decide_eq_false (by omega)]
                  show Q (V.bl (decide ((2 : Int) < (((x :: xs).length : Nat) : Int)))) _
                  rw [e, ← hp]
                  exact h _ S
    | none => exact iT rfl (h H (Same.refl H))
    | bool b => exact iT rfl (h H (Same.refl H))
    | int i => exact iT rfl (h H (Same.refl H))
    | list ds => exact iT rfl (h H (Same.refl H))
    | str ds => exact iT rfl (h H (Same.refl H))
    | dict ds => exact iT rfl (h H (Same.refl H))
end
end L50
namespace L50
open PySem PySem.Spec PyProof.Rows L2 L54
def kids : PyData → List PyData
  | .tuple (k :: r) => if isStr k "do" then [] else r
  | _ => []
section
variable {P : Program} {w : World} {K : PySem.W.Frag} {mg : Str → Option Value} {base : Heap}
def spMem (K : PySem.W.Frag) : Sp := fun vs H Q _ => ∃ (v : V) (k : PyData) (r : List PyData) (G : Hp), vs = [v] ∧ Same G H ∧ Dv K G v (.tuple (k :: r)) ∧ ∀ p H' xs, Same H H' → SqT K H' p xs → DvAll K G xs (kids (.tuple (k :: r))) → Q (.ref p) H'
abbrev nM : List Str := ["part"]
theorem scMe : FnScope nM ["part"] (defScope sMembers) := ⟨rfl, rfl, rfl, by decide +kernel, rfl, by decide +kernel, by decide +kernel⟩
theorem cut1 (x : V) (xs : List V) : cutV (x :: xs) (some 1) none = xs := by
  have e1 : HT.sIx (x :: xs).length 0 (some 1) = 1 := by
    show (if (1 : Int) < 0 then ((1 : Int) + ((x :: xs).length : Int)).toNat else min (1 : Int).toNat (x :: xs).length) = 1
    rw [if_neg (by decide)]
    simp
  have e2 : HT.sIx (x :: xs).length (x :: xs).length none = (x :: xs).length := rfl
  unfold cutV
  rw [e1, e2]
  simp
theorem ok_mem {f : Addr} {fd : FuncData} (F : Fun K "_members" "_members" sMembers f fd) : FnOk P w K mg base CX0 1 f fd ["part"] (spMem K) := by
  refine F.ok scMe (fun vs H Q E h => ?_) (fun cdv A outer s H vs Q E hr h => ?_)
  · obtain ⟨v, k, r, G, rfl, _⟩ := h
    rfl
  · obtain ⟨v, k, r, G, rfl, sG, hD, h⟩ := h
    have hu := hu_of hr
    have hu0 : (A.deeper (envOfC "_members" (defScope sMembers) s.heap.objs.size f cdv)).units < cLine := by omega
    refine ⟨_, pss_cons (ps_if (pt_cmpR (op_eqS hu0) (pe_ix ix_tup (pv 0) pe_int (fun _ _ => rfl)) pe_str (nomark _)) (pss_one (ps_ret (pe_tup pa_nil))) pss_nil)
      (pss_one (ps_ret (pe_slice sl_tup (pv 0) (po_some pe_int) po_none))), ?_⟩
    cases hD with
    | @tup a xs _ hs0 ha =>
      have hs := seqT sG hs0
      cases ha with
      | @cons x xs _ _ hx ht =>
        refine ⟨_, rfl, a, _, _, x, rfl, rfl, hs, at0, k, _, hx.mono sG, rfl, _, rfl, ?_⟩
        refine nS (fun h1 => ?_) (fun h1 => ?_)
        · refine ⟨len_small (by simp), fun p np => h p _ [] (up1 np) (.inl (.inl upd_same)) ?_⟩
          have e : kids (.tuple (k :: r)) = [] := by simp [kids, h1]
          rw [e]
          exact .nil
        · refine ⟨_, rfl, 1, rfl, a, _, rfl, hs, fun z => ?_, fun p np => ?_⟩
          · have e1 : HT.sIx (x :: xs).length 0 (some 1) = 1 := by
              show (if (1 : Int) < 0 then ((1 : Int) + ((x :: xs).length : Int)).toNat else min (1 : Int).toNat (x :: xs).length) = 1
              rw [if_neg (by decide)]
              simp
            rw [e1] at z
            exact absurd z.1 (by decide)
          · rw [cut1]
            have e : kids (.tuple (k :: r)) = r := by simp [kids, h1]
            refine h p _ xs (up1 np) (.inl (.inl upd_same)) ?_
            rw [e]
            exact ht
/-! ### is_program: the walk over the parts -/
def isDo : PyData → Bool
  | .tuple (k :: _) => isStr k "do"
  | _ => false
def nameOf : PyData → Str
  | .tuple [_, .str z] => z
  | _ => ""
def put (d : PyData) (found : List Str) : List Str := if isDo d && !found.any (isStr (.str (nameOf d))) then found ++ [nameOf d] else found
/-- st: the top first -/
def go : Nat → List (PyData × Nat) → List Str → Nat → Bool
  | 0, _, _, _ => false
  | _ + 1, [], found, _ => decide (found.length ≤ 6)
  | n + 1, (d, k) :: st, found, parts => if decide (60 < parts + 1) || decide (40 < k) || !isPart d then false else go n (((kids d).map fun e => (e, k + 1)).reverse ++ st) (put d found) (parts + 1)
def isProg (d : PyData) : Bool := go 62 [(d, 1)] [] 0
/-- the pairs of the walk's list, the top first -/
def Ents (K : PySem.W.Frag) (H Hc : Hp) : List Addr → List (PyData × Nat) → Prop
  | [], [] => True
  | t :: ws, (d, k) :: st => (∃ v, Hc t = some (.tup [v, .int (k : Nat)]) ∧ Dv K H v d ∧ d.weight ≤ 4000) ∧ Ents K H Hc ws st
  | _, _ => False
theorem Ents.to {K : PySem.W.Frag} {H Hc Hd : Hp} (f : ∀ t xs, Hc t = some (.tup xs) → Hd t = some (.tup xs)) : ∀ {ws : List Addr} {st : List (PyData × Nat)}, Ents K H Hc ws st → Ents K H Hd ws st
  | [], [], _ => True.intro
  | t :: ws, (d, k) :: st, ⟨⟨v, a, b⟩, r⟩ => ⟨⟨v, f _ _ a, b⟩, r.to f⟩
  | [], _ :: _, h => h.elim
  | _ :: _, [], h => h.elim
theorem Ents.len {K : PySem.W.Frag} {H Hc : Hp} : ∀ {ws : List Addr} {st : List (PyData × Nat)}, Ents K H Hc ws st → ws.length = st.length
  | [], [], _ => rfl
  | t :: ws, (d, k) :: st, ⟨_, r⟩ => by rw [List.length_cons, List.length_cons, r.len]
  | [], _ :: _, h => h.elim
  | _ :: _, [], h => h.elim
theorem tupU {H : Hp} {l t : Addr} {ys xs : List V} {o : HO} (hl : H l = some (.lst ys)) (h : H t = some (.tup xs)) : upd H l o t = some (.tup xs) := by
  rw [upd_ne (fun e => by rw [e, hl] at h; cases h)]
  exact h
theorem seqU {K : PySem.W.Frag} {H : Hp} {l p : Addr} {ys xs : List V} {o : HO} (hl : H l = some (.lst ys)) (h : SqT K H p xs) : SqT K (upd H l o) p xs := by
  rcases h with (h | ⟨u, h⟩) | h
  · exact .inl (.inl (tupU hl h))
  · refine .inl (.inr ⟨u, ?_⟩)
    rw [upd_ne (fun e => by rw [e, hl] at h; cases h)]
    exact h
  · exact .inr h
def left (σ : L2.St) : Nat := match σ[3]? with
  | some (some (V.int p)) => 61 - p.toNat
  | _ => 0
theorem isPart_shape {d : PyData} (h : isPart d = true) : ∃ k r, d = .tuple (k :: r) ∧ partOf k r = true := by
  cases d with
  | tuple ds =>
    cases ds with
    | nil => cases h
    | cons k r => exact ⟨k, r, rfl, h⟩
  | none => cases h
  | bool _ => cases h
  | int _ => cases h
  | str _ => cases h
  | list _ => cases h
  | dict _ => cases h
theorem partDo {k : PyData} {r : List PyData} (h : partOf k r = true) (e : isStr k "do" = true) : ∃ z, r = [.str z] ∧ isName (.str z) = true := by
  unfold partOf at h
  rw [e] at h
  have h' : one1 r = true := h
  cases r with
  | nil => cases h'
  | cons n t =>
    cases t with
    | cons _ _ => cases h'
    | nil =>
      have h2 : isName n = true := h'
      cases n with
      | str z => exact ⟨z, rfl, h2⟩
      | none => cases h2
      | bool _ => cases h2
      | int _ => cases h2
      | tuple _ => cases h2
      | list _ => cases h2
      | dict _ => cases h2
def whileB (s : Stmt) : List Stmt := match s with
  | .While _ b _ _ => b
  | _ => []
def spProg (K : PySem.W.Frag) : Sp := fun vs H Q _ => ∃ (v : V) (d : PyData), vs = [v] ∧ Dv K H v d ∧ d.weight ≤ 4000 ∧ ∀ H', Same H H' → Q (.bl (isProg d)) H'
abbrev nPr : List Str := ["value", "waiting", "found", "parts", "part", "depth", "member"]
theorem scPr : FnScope nPr ["value"] (defScope sIsProgram) := ⟨rfl, rfl, rfl, by decide +kernel, rfl, by decide +kernel, by decide +kernel⟩
theorem ok_prog {f fP fM fN : Addr} {fd fdP fdM fdN : FuncData} (F : Fun K "is_program" "is_program" sIsProgram f fd) (T : Bl mg) (G : Gb K mg)
    (FN : Fun K "is_name" "is_name" sIsName fN fdN) (bN : Binds K fdN ["value"] []) (mN : mg "is_name" = some (.ref fN))
    (FP : Fun K "_is_part" "_is_part" sIsPart fP fdP) (bP : Binds K fdP ["value"] []) (mP : mg "_is_part" = some (.ref fP))
    (FM : Fun K "_members" "_members" sMembers fM fdM) (bM : Binds K fdM ["part"] []) (mM : mg "_members" = some (.ref fM)) : FnOk P w K mg base CX0 3 f fd ["value"] (spProg K) := by
  have GP : FnOk P w K mg base CX0 2 fP fdP ["value"] (spPart K) := ok_part FP T G FN bN mN
  have GM : FnOk P w K mg base CX0 1 fM fdM ["part"] (spMem K) := ok_mem FM
  obtain ⟨uP, mgP, rP⟩ := G.mp
  obtain ⟨uN, mgN, rN⟩ := G.mn
  obtain ⟨uD, mgD, rD⟩ := G.dp
  refine F.ok scPr (fun vs H Q E h => ?_) (fun cdv A outer s H vs Q E hr h => ?_)
  · obtain ⟨v, d, rfl, _⟩ := h
    rfl
  · obtain ⟨v, d, rfl, hD, hw, h⟩ := h
    have hu := hu_of hr
    have hu0 : (A.deeper (envOfC "is_program" (defScope sIsProgram) s.heap.objs.size f cdv)).units < cLine := by omega
    obtain ⟨tF, hF, qF⟩ : ∃ t, PSs (cxOf CX0 P w K mg base nPr "is_program" (defScope sIsProgram) f cdv A outer s H E).nox ((whileB ((defBody sIsProgram).getD 3 (.Pass ⟨0, 0, 0, 0⟩))).drop 4) t ∧
        ∀ (D : Ends) (l fl : Addr) (pp : V) (k1 : Nat) (v1 : V) (k : PyData) (r : List PyData) (m : Option V) (Hs : Hp) (ws : List Addr) (st : List (PyData × Nat)) (fo : List V), l ≠ fl → H l = none → Dv K H v1 (.tuple (k :: r)) → (PyData.tuple (k :: r)).weight ≤ 4000 → Same H Hs →
          Hs l = some (.lst (ws.reverse.map V.ref)) → Hs fl = some (.lst fo) → Ents K H Hs ws st → st.length ≤ 1000000 →
          (∀ (m' : Option V) (Hd : Hp) (ws' : List Addr), Same H Hd → Hd l = some (.lst (ws'.reverse.map V.ref)) → Hd fl = some (.lst fo) → Ents K H Hd ws' (((kids (.tuple (k :: r))).map fun e => (e, k1 + 1)).reverse ++ st) → D.nx [some v, some (.ref l), some (.ref fl), some pp, some v1, some (.int (k1 : Nat)), m'] Hd) →
          t D [some v, some (.ref l), some (.ref fl), some pp, some v1, some (.int (k1 : Nat)), m] Hs := by
      refine ⟨_, pss_one (ps_for PassesOwn.never rfl (pi_tup (pe_call GM (hr.mono (by decide)) rfl mM FM.kp bM .nil pass0 (pa_cons (pv 4) pa_nil))) (pg_name (i := 6) scPr.nd rfl (Or.inl rfl))
          (pss_one (ps_expr (pe_bm PySem.F.plainAttrs_list PySem.F.slot_list_append PySem.F.type_list_append mt_append (pv 1) (pa_cons (pe_tup (pa_cons (pv 6) (pa_cons (pe_op op_add (pv 5) pe_int) pa_nil))) pa_nil))))), ?_⟩
      intro D l fl pp k1 v1 k r m Hs ws st fo lf nlH hD1 hw1 S hL hFo hE hst hfin
      refine ⟨_, rfl, v1, k, r, H, rfl, S, hD1, fun p H' xs S' hs' ha' => ⟨p, rfl, ⟨xs, hs'⟩, ?_⟩⟩
      have hlen := ha'.len
      have wk : ∀ e ∈ kids (.tuple (k :: r)), e.weight ≤ 4000 := fun e he => by
        have h1 : e ∈ r := by
          simp only [kids] at he
          split at he
          · cases he
          · exact he
        have h2 := wAll_mem (ds := k :: r) (d := e) (List.mem_cons_of_mem _ h1)
        rw [w_tup] at hw1
        omega
      have lk : (kids (.tuple (k :: r))).length ≤ 4000 := by
        have h1 : (kids (.tuple (k :: r))).length ≤ r.length := by
          simp only [kids]
          split
          · exact Nat.zero_le _
          · exact Nat.le_refl _
        have h2 := wAll_len (k :: r)
        rw [w_tup] at hw1
        rw [List.length_cons] at h2
        omega
      generalize hkd : kids (.tuple (k :: r)) = kd at *
      refine for_tup (K := K) (a := p) (xs := xs) (fun i σ Hc => ∃ (m : Option V) (ws2 : List Addr), σ = [some v, some (.ref l), some (.ref fl), some pp, some v1, some (.int (k1 : Nat)), m] ∧ Same H Hc ∧ SqT K Hc p xs ∧ Hc l = some (.lst (ws2.reverse.map V.ref)) ∧ Hc fl = some (.lst fo) ∧
          Ents K H Hc ws2 (((kd.take i).map fun e => (e, k1 + 1)).reverse ++ st)) ?_ (fun i σ Hc _ ⟨_, _, _, _, q, _⟩ => q) ?_ ?_
      · exact ⟨m, ws, rfl, S.trans S', hs', S' _ _ hL, S' _ _ hFo, hE.to (fun t xs h => S' _ _ h)⟩
      · rintro i x σ Hc hi ⟨m, ws2, rfl, S2, hs2, hL2, hF2, hE2⟩
        obtain ⟨e, he, hx⟩ := ha'.get hi
        have hwl := hE2.len
        have hi' : i < kd.length := (List.getElem?_eq_some_iff.mp he).1
        rw [List.length_append, List.length_reverse, List.length_map, List.length_take] at hwl
        refine ⟨_, rfl, .inl ⟨rfl, _, .inl (.inl hL2)⟩, _, rfl, _, rfl, _, _, rfl, rfl, len_small (by simp), fun t nt => ?_⟩
        have U : Same Hc (upd Hc t (.tup [x, .int ((k1 : Int) + 1)])) := up1 nt
        refine ⟨l, _, _, rfl, rfl, U _ _ hL2, ?_, ?_⟩
        · rw [List.length_map, List.length_reverse, sizeLine_eq]
          omega
        · have hL3 := U _ _ hL2
          have ht3 : (upd Hc t (.tup [x, .int ((k1 : Int) + 1)])) t = some (.tup [x, .int (((k1 + 1 : Nat)) : Int)]) := upd_same
          refine ⟨_, t :: ws2, rfl, same_at (S2.trans U) nlH, seqU hL3 (seqT U hs2), ?_, ?_, ?_⟩
          · rw [upd_same]
            simp
          · rw [upd_ne (Ne.symm lf)]
            exact U _ _ hF2
          · have e1 : kd.take (i + 1) = kd.take i ++ [e] := by rw [List.take_add_one, he]; rfl
            rw [e1, List.map_append, List.reverse_append]
            exact ⟨⟨x, tupU hL3 ht3, hx, wk e (List.mem_of_getElem? he)⟩, hE2.to (fun t xs h => tupU hL3 (U _ _ h))⟩
      · rintro σ Hc ⟨m, ws2, rfl, S2, hs2, hL2, hF2, hE2⟩
        have e1 : kd.take xs.length = kd := List.take_of_length_le (by omega)
        rw [e1] at hE2
        exact hfin m Hc ws2 S2 hL2 hF2 hE2
    obtain ⟨tW, hW, qW⟩ : ∃ t, PSs (cxOf CX0 P w K mg base nPr "is_program" (defScope sIsProgram) f cdv A outer s H E).nox ((defBody sIsProgram).drop 3) t ∧ ∀ (l fl t0 : Addr) (Hs : Hp), l ≠ fl → H l = none → H fl = none → Same H Hs → Hs l = some (.lst [.ref t0]) → Hs fl = some (.lst []) → Hs t0 = some (.tup [v, .int 1]) →
        t { nx := fun _ H' => Q .non H', rt := Q } [some v, some (.ref l), some (.ref fl), some (.int 0), none, none, none] Hs := by
      refine ⟨_, pss_cons (ps_while PassesOwn.never (pt_truth (pv 1) (by intro _; rfl))
        (pss_cons (ps_asg (pe_bm0 PySem.F.plainAttrs_list PySem.F.slot_list_pop PySem.F.type_list_pop mt_pop (pv 1)) (pg_tup (by rfl) (pgs_cons (pg_name (i := 4) scPr.nd rfl (Or.inl rfl)) (pgs_cons (pg_name (i := 5) scPr.nd rfl (Or.inl rfl)) pgs_nil))))
        (pss_cons (ps_aug (i := 3) scPr.nd rfl (.inl rfl) pe_int ip_add)
        (pss_cons (ps_if (PW.pt (pw_or (pt_cmpR op_gt (pv 3) (pe_glob rfl mgP rP) (nomark _)) (pw_or (pt_cmpR op_gt (pv 5) (pe_glob rfl mgD rD) (nomark _)) (pw_or1 (pt_not (pt_val (pe_call GP hr rfl mP FP.kp bP .nil pass0 (pa_cons (pv 4) pa_nil)))))))) (pss_one (ps_ret pe_bl)) pss_nil)
        (pss_cons (ps_if (PW.pt (pw_and (pt_cmpR (op_eqS hu0) (pe_ix ix_tup (pv 4) pe_int (fun _ _ => rfl)) pe_str (nomark _)) (pw_and1 (pt_cmpR (op_notInZ hu) (pe_ix ix_tup (pv 4) pe_int (fun _ _ => rfl)) (pv 2) rfl))))
            (pss_one (ps_expr (pe_bm PySem.F.plainAttrs_list PySem.F.slot_list_append PySem.F.type_list_append mt_append (pv 2) (pa_cons (pe_ix ix_tup (pv 4) pe_int (fun _ _ => rfl)) pa_nil)))) pss_nil)
        hF)))))
      (pss_one (ps_ret (pe_cmpR op_le (pe_callB call_len_seq rfl T.len b_len (pa_cons (pv 2) pa_nil)) (pe_glob rfl mgN rN) (nomark _)))), ?_⟩
      intro l fl t0 Hs lf nlH nfH sS hSl hSf hSt
      have good : ∀ Hc, Same H Hc → ∀ b, isProg d = b → Q (.bl b) Hc := fun Hc S b e => by rw [← e]; exact h Hc S
      show tWhile _ _ _ _ _
      refine while_by (fun σ Hc => ∃ ws st found parts, ∃ p dp m : Option V, σ = [some v, some (.ref l), some (.ref fl), some (.int ((parts : Nat) : Int)), p, dp, m] ∧ Same H Hc ∧ Hc l = some (.lst (ws.reverse.map V.ref)) ∧ Hc fl = some (.lst (found.map V.str)) ∧
          Ents K H Hc ws st ∧ parts ≤ 60 ∧ st.length ≤ 1 + 4000 * parts ∧ found.length ≤ parts ∧ go (62 - parts) st found parts = isProg d) (fun σ _ => left σ) ?_ ?_ ?_
      · exact ⟨[t0], [(d, 1)], [], 0, none, none, none, rfl, sS, hSl, hSf, ⟨⟨v, hSt, hD, hw⟩, True.intro⟩, by omega, by simp, by simp, rfl⟩
      · rintro σ Hc ⟨ws, st, found, parts, p, dp, m, rfl, S, hL, hF, hE, hp, hst, hfo, hgo⟩
        refine ⟨_, rfl, _, .inl ⟨_, .inl (.inl hL), rfl⟩, ?_⟩
        have hn : 62 - parts = (61 - parts) + 1 := by omega
        rw [hn] at hgo
        cases st with
        | nil =>
         cases ws with
         | cons _ _ => exact hE.elim
         | nil =>
          refine iF (by simp) ?_
          refine ⟨_, rfl, fl, _, rfl, .inl (.inl (.inl hF)), _, _, rfl, rfl, ?_⟩
          refine good Hc S _ ?_
          rw [← hgo]
          show decide (found.length ≤ 6) = _
          rw [List.length_map]
          by_cases q : found.length ≤ 6
          · rw [decide_eq_true q, decide_eq_true (by omega)]
          · rw [decide_eq_false q, decide_eq_false (by omega)]
        | cons dk st =>
         obtain ⟨d1, k1⟩ := dk
         cases ws with
         | nil => exact hE.elim
         | cons t ws =>
          obtain ⟨⟨v1, ht, hD1, hw1⟩, hE⟩ := hE
          refine iT (by simp) ?_
          have hL' : Hc l = some (.lst (ws.reverse.map V.ref ++ [V.ref t])) := by rw [hL]; simp
          have hg : (if decide (60 < parts + 1) || decide (40 < k1) || !isPart d1 then false else go (61 - parts) (((kids d1).map fun e => (e, k1 + 1)).reverse ++ st) (put d1 found) (parts + 1)) = isProg d := hgo
          refine ⟨_, rfl, .inl ⟨rfl, _, .inl (.inl hL')⟩, l, _, V.ref t, rfl, rfl, hL', by simp, ?_⟩
          have S1 : Same H (upd Hc l (.lst (ws.reverse.map V.ref ++ [V.ref t]).dropLast)) := same_at S nlH
          have hL1 : (upd Hc l (.lst (ws.reverse.map V.ref ++ [V.ref t]).dropLast)) l = some (.lst (ws.reverse.map V.ref)) := by rw [upd_same, List.dropLast_concat]
          have hF1 : (upd Hc l (.lst (ws.reverse.map V.ref ++ [V.ref t]).dropLast)) fl = some (.lst (found.map V.str)) := by rw [upd_ne (Ne.symm lf)]; exact hF
          have hE1 : Ents K H (upd Hc l (.lst (ws.reverse.map V.ref ++ [V.ref t]).dropLast)) ws st := hE.to (fun t xs h => tupU hL h)
          have ht1 : (upd Hc l (.lst (ws.reverse.map V.ref ++ [V.ref t]).dropLast)) t = some (.tup [v1, .int (k1 : Nat)]) := tupU hL ht
          clear hL hL' hF hE ht S
          generalize upd Hc l (.lst (ws.reverse.map V.ref ++ [V.ref t]).dropLast) = H1 at *
          refine ⟨t, _, rfl, .inl (.inl ht1), rfl, _, _, rfl, _, _, rfl, rfl, ?_⟩
          refine ⟨_, rfl, _, _, rfl, rfl, ?_⟩
          refine ⟨_, rfl, _, _, rfl, rfl, _, rfl, ?_⟩
          refine nS (fun c1 => good H1 S1 false ?_) (fun c1 => ?_)
          · have c : decide (60 < parts + 1) = true := decide_eq_true (by have z : (60 : Int) < (parts : Int) + 1 := of_decide_eq_true c1; omega)
            rw [← hg, c]
            rfl
          have c1' : decide (60 < parts + 1) = false := decide_eq_false (by have z : ¬ (60 : Int) < (parts : Int) + 1 := of_decide_eq_false c1; omega)
          refine ⟨_, rfl, _, _, rfl, rfl, _, rfl, ?_⟩
          refine nS (fun c2 => good H1 S1 false ?_) (fun c2 => ?_)
          · have c : decide (40 < k1) = true := decide_eq_true (by have := of_decide_eq_true c2; omega)
            rw [← hg, c1', c]
            rfl
          have c2' : decide (40 < k1) = false := decide_eq_false (by have := of_decide_eq_false c2; omega)
          refine ⟨_, rfl, v1, d1, rfl, hD1.mono S1, hw1, fun H2 S12 => ⟨_, rfl, ?_⟩⟩
          refine nS (fun c3 => good H2 (S1.trans S12) false ?_) (fun c3 => ?_)
          · rw [← hg, c1', c2', c3]
            rfl
          rw [c1', c2', c3] at hg
          have hg' : go (61 - parts) (((kids d1).map fun e => (e, k1 + 1)).reverse ++ st) (put d1 found) (parts + 1) = isProg d := hg
          have c3' : isPart d1 = true := by simpa using c3
          obtain ⟨k, r, rfl, hpo⟩ := isPart_shape c3'
          have S2 := S1.trans S12
          have hL2 := S12 _ _ hL1
          have hF2 := S12 _ _ hF1
          have hE2 : Ents K H H2 ws st := hE1.to (fun t xs h => S12 _ _ h)
          have pp1 : parts + 1 ≤ 60 := by have z := c1'; rw [decide_eq_false_iff_not] at z; omega
          have lk : (kids (.tuple (k :: r))).length ≤ 4000 := by
            have h1 : (kids (.tuple (k :: r))).length ≤ r.length := by
              simp only [kids]
              split
              · exact Nat.zero_le _
              · exact Nat.le_refl _
            have h2 := wAll_len (k :: r)
            rw [w_tup] at hw1
            rw [List.length_cons] at h2
            omega
          obtain ⟨a, x, xs, rfl, hs, hx, hts⟩ : ∃ a x xs, v1 = .ref a ∧ SqT K H a (x :: xs) ∧ Dv K H x k ∧ DvAll K H xs r := by
            cases hD1 with
            | @tup a ys _ hs ha =>
              cases ha with
              | @cons x xs _ _ hx hts => exact ⟨a, x, xs, rfl, hs, hx, hts⟩
          have hsN := seqT S2 hs
          have lst' : (((kids (.tuple (k :: r))).map fun e => (e, k1 + 1)).reverse ++ st).length ≤ 1 + 4000 * (parts + 1) := by
            rw [List.length_append, List.length_reverse, List.length_map]
            rw [List.length_cons] at hst
            omega
          have ms : ∀ (p1 dp1 m1 : Option V), left [some v, some (.ref l), some (.ref fl), some (.int (((parts + 1 : Nat)) : Int)), p1, dp1, m1] < left [some v, some (.ref l), some (.ref fl), some (.int ((parts : Nat) : Int)), p, dp, m] := fun _ _ _ => by
            show 61 - (((parts + 1 : Nat)) : Int).toNat < 61 - ((parts : Nat) : Int).toNat
            omega
          have st1 : st.length ≤ 1000000 := by
            rw [List.length_cons] at hst
            omega
          refine ⟨_, rfl, a, _, _, x, rfl, rfl, hsN, at0, k, _, hx.mono S2, rfl, _, rfl, ?_⟩
          refine nS (fun hk => ?_) (fun hk => ?_)
          · obtain ⟨z, rfl, hz⟩ := partDo hpo hk
            cases hts with
            | @cons y ys _ _ hy hy2 =>
              cases hy2
              cases hy
              have hput : put (.tuple [k, .str z]) found = if !found.any (isStr (.str z)) then found ++ [z] else found := by
                show (if (isStr k "do" && !found.any (isStr (.str z))) then _ else _) = _
                rw [hk, Bool.true_and]
                rfl
              refine ⟨_, rfl, a, _, _, V.str z, rfl, rfl, hsN, at1, _, rfl, .str z, fl, found, .str z, rfl, .inl (.inl (.inl hF2)), _, rfl, ?_⟩
              refine nS (fun hin => ?_) (fun hin => ?_)
              · refine ⟨_, rfl, .inl ⟨rfl, _, .inl (.inl hF2)⟩, _, rfl, a, _, _, V.str z, rfl, rfl, hsN, at1, fl, _, _, rfl, rfl, hF2, small1000 (by rw [List.length_map]; omega), ?_⟩
                rw [hput, hin] at hg'
                refine qF _ l fl _ k1 _ k _ m _ ws st ((found ++ [z]).map V.str) lf nlH hD1 hw1 (same_at S2 nfH) ?_ ?_ (hE2.to (fun t xs h => tupU hF2 h)) st1 ?_
                · rw [upd_ne lf]; exact hL2
                · rw [upd_same, List.map_append]; rfl
                · intro m' Hd ws' Sd hLd hFd hEd
                  exact ⟨⟨ws', _, found ++ [z], parts + 1, _, _, m', rfl, Sd, hLd, hFd, hEd, pp1, lst', by rw [List.length_append]; simp; omega, by rw [show 62 - (parts + 1) = 61 - parts by omega]; exact hg'⟩, ms _ _ _⟩
              · rw [hput, hin] at hg'
                refine qF _ l fl _ k1 _ k _ m _ ws st _ lf nlH hD1 hw1 S2 hL2 hF2 hE2 st1 ?_
                intro m' Hd ws' Sd hLd hFd hEd
                exact ⟨⟨ws', _, found, parts + 1, _, _, m', rfl, Sd, hLd, hFd, hEd, pp1, lst', by omega, by rw [show 62 - (parts + 1) = 61 - parts by omega]; exact hg'⟩, ms _ _ _⟩
          · have hput : put (.tuple (k :: r)) found = found := by
              show (if (isStr k "do" && !found.any (isStr (.str (nameOf (.tuple (k :: r)))))) then _ else _) = _
              rw [hk, Bool.false_and]
              rfl
            rw [hput] at hg'
            refine qF _ l fl _ k1 _ k _ m _ ws st _ lf nlH hD1 hw1 S2 hL2 hF2 hE2 st1 ?_
            intro m' Hd ws' Sd hLd hFd hEd
            exact ⟨⟨ws', _, found, parts + 1, _, _, m', rfl, Sd, hLd, hFd, hEd, pp1, lst', by omega, by rw [show 62 - (parts + 1) = 61 - parts by omega]; exact hg'⟩, ms _ _ _⟩
      · rintro σ Hc Q1 Q2 hh ⟨x, e, k, tr, q⟩
        exact ⟨x, e, k, tr, hh _ _ q⟩
    refine ⟨_, pss_cons (ps_set (i := 1) scPr.nd rfl (.inl rfl) (pe_lst (pa_cons (pe_tup (pa_cons (pv 0) (pa_cons pe_int pa_nil))) pa_nil)))
      (pss_cons (ps_set (i := 2) scPr.nd rfl (.inl rfl) (pe_lst pa_nil))
      (pss_cons (ps_set (i := 3) scPr.nd rfl (.inl rfl) pe_int) hW)), ?_⟩
    refine ⟨_, rfl, len_small (by simp), fun t0 nt0 => ⟨len_small (by simp), fun l nl => ⟨len_small (by simp), fun fl nfl => ?_⟩⟩⟩
    have l0 : l ≠ t0 := fun e => by rw [e, upd_same] at nl; cases nl
    have nlH : H l = none := by rw [upd_ne l0] at nl; exact nl
    have lf : l ≠ fl := fun e => by rw [← e, upd_same] at nfl; cases nfl
    have f0 : fl ≠ t0 := fun e => by rw [e, upd_ne (Ne.symm l0), upd_same] at nfl; cases nfl
    have nfH : H fl = none := by rw [upd_ne (Ne.symm lf), upd_ne f0] at nfl; exact nfl
    refine qW l fl t0 _ lf nlH nfH (same_at (same_at (same_at (Same.refl H) nt0) nlH) nfH) ?_ upd_same ?_
    · rw [upd_ne lf, upd_same]
    · rw [upd_ne (Ne.symm f0), upd_ne (Ne.symm l0), upd_same]
end
end L50
namespace L50
open PySem PySem.Spec PyProof.Rows L2 L54
section
variable {P : Program} {w : World} {K : PySem.W.Frag} {mg : Str → Option Value} {base : Heap}
abbrev nWo : List Str := ["value", "letter"]
theorem scW : FnScope nWo ["value"] (defScope sWord) := ⟨rfl, rfl, rfl, by decide +kernel, rfl, by decide +kernel, by decide +kernel⟩
theorem ok_word {f : Addr} {fd : FuncData} (F : Fun K "_law_word" "_law_word" sWord f fd) (T : Bl mg) : FnOk P w K mg base CX0 1 f fd ["value"] (spName K) := by
  refine F.ok scW (fun vs H Q E h => ?_) (fun cdv A outer s H vs Q E hr h => ?_)
  · obtain ⟨v, d, rfl, _⟩ := h
    rfl
  · obtain ⟨v, d, rfl, hD, hw, h⟩ := h
    have hu := hu_of hr
    refine ⟨_, pss_cons (ps_if (PW.pt (pw_or (pt_not (pt_val (pe_callB call_isD rfl T.isi b_isi (pa_cons (pv 0) (pa_cons (pe_bltn (v := .ty "str") rfl T.str b_str rfl) pa_nil)))))
        (pw_or (pt_not (pt_chain op_le op_le pe_int (pe_callB call_len_str rfl T.len b_len (pa_cons (pv 0) pa_nil)) pe_int))
        (pw_or1 (pt_cmpR (op_inZ hu) (pv 0) (pe_lst (pa_cons pe_str (pa_cons pe_str (pa_cons pe_str pa_nil)))) rfl))))) (pss_one (ps_ret pe_bl)) pss_nil)
      (pss_one (ps_ret (pe_callB (cr_all rfl) rfl T.all b_all (pa_cons (pe_lc (own := [("letter", 1)]) (g := gName 1) (tt := tYes) rfl scW.nd (pi_str (pv 0)) (blkOk_by (N := nWo) (sc := defScope sWord) (by decide +kernel)) (fun _ _ _ _ _ => pg_name (i := 1) scW.nd rfl (Or.inl rfl)) (fun _ _ _ _ _ => pts_nil)
        (fun _ _ _ _ _ => pe_cmpR op_in_sign (pv 1) pe_str rfl)) pa_nil)))), ?_⟩
    refine ⟨_, rfl, _, _, d, _, _, rfl, .ty _, hD, k_str d, _, rfl, ?_⟩
    cases d with
    | str z =>
      cases hD
      refine iF Bool.false_ne_true ?_
      have hz : z.length ≤ 4000 := hw
      refine ⟨_, rfl, z, rfl, by rw [sizeLine_eq]; omega, _, _, rfl, rfl, _, rfl, nS (fun h1 => ⟨_, _, rfl, rfl, _, rfl, ?_⟩) (fun h1 => ⟨_, rfl, ?_⟩)⟩
      · refine nS (fun h2 => ?_) (fun h2 => ?_)
        · have e : isName (.str z) = false := by simp [isName] at h2 ⊢; intros; omega
          have q := h H (Same.refl H)
          rw [e] at q
          exact q
        · refine ⟨_, rfl, len_small (by simp), fun pl npl => ?_⟩
          have SU : Same H (upd H pl (.lst [V.str "skip", V.str "start", V.str "end"])) := up1 npl
          refine ⟨.str z, pl, noNames, .str z, rfl, .inl (.inl (.inl upd_same)), _, rfl, ?_⟩
          generalize upd H pl (.lst [V.str "skip", V.str "start", V.str "end"]) = H0 at *
          refine nS (fun h3 => ?_) (fun h3 => ?_)
          · have e : isName (.str z) = false := by simp [isName, h3]
            have q := h H0 SU
            rw [e] at q
            exact q
          · refine ⟨_, rfl, z, rfl, fun D nD => ?_⟩
            refine lc_it (walk_str (z := z)) (fun i Hc => Same H0 Hc ∧ Hc D = some (.lst (((z.cps.toList.take i).map fun c => decide (c ∈ letters.cps.toList)).map V.bl))) ⟨up1 nD, by rw [upd_same]; rfl⟩ (fun _ _ _ _ => True.intro) ?_ ?_
            · rintro i x Hc H' hi ⟨Sc, Lc⟩ ⟨rfl, c, hc, rfl⟩
              refine ⟨rfl, ?_⟩
              refine ⟨_, rfl, c, letters, rfl, rfl, _, Lc, small1000 (by
                have h9 : z.length ≤ 8 := by simp at h2; omega
                have h8 : z.cps.size = z.length := rfl
                rw [List.length_map, List.length_map, List.length_take]
                omega), same_at Sc nD, ?_⟩
              have hc' : z.cps.toList[i]? = some c := by simpa using hc
              rw [upd_same, List.take_add_one, hc']
              simp
            · rintro Hc ⟨Sc, Lc⟩
              have e : (((z.cps.toList.take z.cps.size).map fun c => decide (c ∈ letters.cps.toList)).all id) = isName (.str z) := by
                have f : z.cps.toList.take z.cps.size = z.cps.toList := List.take_of_length_le (by simp)
                rw [f]
                have h8 : 1 ≤ z.length := by simp at h1; omega
                have h9 : z.length ≤ 8 := by simp at h2; omega
                simp [isName, h3, h8, h9, List.all_map]
              refine ⟨D, _, rfl, .inl (.inl Lc), ?_⟩
              rw [e]
              exact h _ (SU.trans Sc)
      · refine iT rfl ?_
        have e : isName (.str z) = false := by
          have h1' : ¬ (1 ≤ z.length) := fun z1 => by simp at h1; omega
          simp [isName, h1']
        have q := h H (Same.refl H)
        rw [e] at q
        exact q
    | none => exact iT rfl (h H (Same.refl H))
    | bool b => exact iT rfl (h H (Same.refl H))
    | int i => exact iT rfl (h H (Same.refl H))
    | list ds => exact iT rfl (h H (Same.refl H))
    | tuple ds => exact iT rfl (h H (Same.refl H))
    | dict ds => exact iT rfl (h H (Same.refl H))
end
end L50
namespace L50
open PySem PySem.Spec PyProof.Rows L2 L54
def nm1 : List PyData → Str
  | [.str z] => z
  | _ => ""
mutual
def look : Nat → PyData → List V → Bool × List V
  | k, .tuple ds, fo => look2 k ds fo
  | _, _, fo => (false, fo)
def look2 : Nat → List PyData → List V → Bool × List V
  | k, h :: r, fo =>
    if decide (40 < k) || decide (60 < fo.length) then (false, fo) else if !isS h then (false, fo) else
    if isStr h "do" then (one1 r, fo ++ [if one1 r then V.str (nm1 r) else V.int 0])
    else if isStr h "skip" then (r.isEmpty, fo ++ [V.str ""])
    else if !(isStr h "seq" || isStr h "or" || isStr h "rep") || (decide (r.length < 2) && !isStr h "rep") then (false, fo ++ [V.str ""])
    else if isStr h "rep" && !decide (r.length = 1) then (false, fo ++ [V.str ""])
    else ((lookAll (k + 1) r (fo ++ [V.str ""])).1.all id, (lookAll (k + 1) r (fo ++ [V.str ""])).2)
  | _, [], fo => (false, fo)
def lookAll : Nat → List PyData → List V → List Bool × List V
  | _, [], fo => ([], fo)
  | k, d :: ds, fo => ((look k d fo).1 :: (lookAll k ds (look k d fo).2).1, (lookAll k ds (look k d fo).2).2)
end
theorem add_len {fo : List V} {x : V} (h : ¬ 60 < fo.length) : (fo ++ [x]).length ≤ 61 := by rw [List.length_append]; simp; omega
mutual
theorem look_len : ∀ (k : Nat) (d : PyData) (fo : List V), fo.length ≤ 61 → (look k d fo).2.length ≤ 61
  | k, .tuple ds, fo, h => by
    rw [look]
    exact look2_len k ds fo h
  | _, .none, fo, h => by rw [look] <;> first | exact h | nofun
  | _, .bool _, fo, h => by rw [look] <;> first | exact h | nofun
  | _, .int _, fo, h => by rw [look] <;> first | exact h | nofun
  | _, .str _, fo, h => by rw [look] <;> first | exact h | nofun
  | _, .list _, fo, h => by rw [look] <;> first | exact h | nofun
  | _, .dict _, fo, h => by rw [look] <;> first | exact h | nofun
theorem look2_len : ∀ (k : Nat) (ds : List PyData) (fo : List V), fo.length ≤ 61 → (look2 k ds fo).2.length ≤ 61
  | k, [], fo, h => by rw [look2]; exact h
  | k, x :: r, fo, h => by
    rw [look2]
    by_cases q : 60 < fo.length
    · simp [q]
      exact h
    · have a : ∀ y : V, (fo ++ [y]).length ≤ 61 := fun y => add_len q
      have b := lookAll_len (k + 1) r (fo ++ [V.str ""]) (a _)
      split
      · exact h
      split
      · exact h
      split
      · exact a _
      split
      · exact a _
      split
      · exact a _
      split
      · exact a _
      · exact b
theorem lookAll_len : ∀ (k : Nat) (ds : List PyData) (fo : List V), fo.length ≤ 61 → (lookAll k ds fo).2.length ≤ 61
  | k, [], fo, h => by rw [lookAll]; exact h
  | k, d :: ds, fo, h => by
    rw [lookAll]
    exact lookAll_len k ds _ (look_len k d fo h)
end
/-- all objects but the one at l stay -/
def SameB (l : Addr) (H H' : Hp) : Prop := ∀ b u, b ≠ l → H b = some u → H' b = some u
theorem SameB.refl {l : Addr} {H : Hp} : SameB l H H := fun _ _ _ e => e
theorem SameB.trans {l : Addr} {H H1 H2 : Hp} (a : SameB l H H1) (b : SameB l H1 H2) : SameB l H H2 := fun x u n e => b x u n (a x u n e)
theorem SameB.of {l : Addr} {H H' : Hp} (s : Same H H') : SameB l H H' := fun b u _ e => s b u e
theorem SameB.at {l : Addr} {H : Hp} {o : HO} : SameB l H (upd H l o) := fun b u n e => by rw [upd_ne n]; exact e
theorem SameB.new {l D : Addr} {H H' : Hp} {o : HO} (b : SameB l H H') (n : H D = none) : SameB l H (upd H' D o) := fun x u ne e => by
  rw [upd_ne (ne_of_none e n)]
  exact b x u ne e
theorem SameB.same {l : Addr} {G H H' : Hp} (b : SameB l H H') (s : Same G H) (n : G l = none) : Same G H' := fun x u e => b x u (fun q => by rw [q, n] at e; cases e) (s x u e)
theorem look_stop {k : Nat} {d : PyData} {fo : List V} (h : decide (40 < k) = true ∨ decide (60 < fo.length) = true ∨ isT d = false) : look k d fo = (false, fo) := by
  cases d with
  | tuple ds =>
    rw [look]
    cases ds with
    | nil => rw [look2]
    | cons x r =>
      rw [look2]
      have e : (decide (40 < k) || decide (60 < fo.length)) = true := by
        rcases h with h | h | h
        · rw [h]; rfl
        · rw [h, Bool.or_true]
        · cases h
      rw [e]
      rfl
  | none => rw [look]; nofun
  | bool _ => rw [look]; nofun
  | int _ => rw [look]; nofun
  | str _ => rw [look]; nofun
  | list _ => rw [look]; nofun
  | dict _ => rw [look]; nofun
theorem dgt {n m : Nat} : decide ((m : Int) < (n : Int)) = decide (m < n) := by
  by_cases h : m < n
  · rw [decide_eq_true h, decide_eq_true (by omega)]
  · rw [decide_eq_false h, decide_eq_false (by omega)]
theorem nS2 {c : Bool} {A B : Prop} (b : B) (a : c = true → B → A) : if (c = true) then A else B := by cases c with
  | true => exact iT rfl (a rfl b)
  | false => exact iF Bool.false_ne_true b
theorem lookAll_snoc (k : Nat) (d : PyData) : ∀ (ds : List PyData) (fo : List V), lookAll k (ds ++ [d]) fo = ((lookAll k ds fo).1 ++ [(look k d (lookAll k ds fo).2).1], (look k d (lookAll k ds fo).2).2)
  | [], fo => by
    rw [List.nil_append, lookAll, lookAll, lookAll]
    rfl
  | e :: ds, fo => by
    rw [List.cons_append, lookAll, lookAll_snoc k d ds, lookAll]
    rfl
theorem lookAll_num : ∀ (k : Nat) (ds : List PyData) (fo : List V), (lookAll k ds fo).1.length = ds.length
  | _, [], _ => by rw [lookAll]; rfl
  | k, d :: ds, fo => by rw [lookAll, List.length_cons, List.length_cons, lookAll_num k ds]
theorem neStr (z t : Str) : (!decide (V.str z = V.str t)) = !isStr (.str z) t := by
  by_cases h : z = t
  · subst h; simp [isStr]
  · have h' : ¬ (V.str z = V.str t) := fun e => h (V.str.inj e)
    have h2 : isStr (.str z) t = false := by
      show (z == t) = false
      exact beq_false_of_ne h
    rw [decide_eq_false h', h2]
theorem lt3 {n : Nat} : decide (((n + 1 : Nat) : Int) < 3) = decide (n < 2) := by
  by_cases h : n < 2
  · rw [decide_eq_true h, decide_eq_true (by omega)]
  · rw [decide_eq_false h, decide_eq_false (by omega)]
theorem ne2 {n : Nat} : (!decide (V.int (((n + 1 : Nat)) : Int) = V.int 2)) = !decide (n = 1) := by
  rw [show (V.int 2) = V.int ((2 : Nat) : Int) from rfl, dlen]
  by_cases h : n = 1
  · subst h; rfl
  · rw [decide_eq_false h, decide_eq_false (by omega)]
theorem eq1' {r : List PyData} : decide (V.int (((r.length + 1 : Nat)) : Int) = V.int 1) = r.isEmpty := by
  rw [show (V.int 1) = V.int ((1 : Nat) : Int) from rfl, dlen]
  cases r <;> simp
theorem depthAll_mem : ∀ {ds : List PyData} {d : PyData}, d ∈ ds → d.depth ≤ PyData.depthAll ds
  | x :: xs, d, h => by
    have e : PyData.depthAll (x :: xs) = max x.depth (PyData.depthAll xs) := by rw [PyData.depthAll]
    rw [e]
    rcases List.mem_cons.mp h with rfl | h
    · omega
    · have := depthAll_mem h
      omega
theorem ixLast {α : Type} {xs : List α} {y : α} : ixN (xs ++ [y]).length (-1) = some xs.length := by
  have hl : (xs ++ [y]).length = xs.length + 1 := by simp
  rw [hl]
  unfold ixN
  rw [if_neg (by decide), if_pos (by omega)]
  congr 1
  omega
theorem setLast {α : Type} {xs : List α} {y v : α} : (xs ++ [y]).set xs.length v = xs ++ [v] := by simp
section
variable {P : Program} {w : World} {K : PySem.W.Frag} {mg : Str → Option Value} {base : Heap}
def spLook (K : PySem.W.Frag) (m : Nat) : Sp := fun vs H Q _ => ∃ (v : V) (d : PyData) (k : Nat) (fl : Addr) (fo : List V) (G : Hp), vs = [v, .int (k : Nat), .ref fl] ∧ Same G H ∧ G fl = none ∧ Dv K G v d ∧ d.weight ≤ 4000 ∧ d.depth ≤ m ∧
  H fl = some (.lst fo) ∧ fo.length ≤ 61 ∧ ∀ H', SameB fl H H' → H' fl = some (.lst (look k d fo).2) → Q (.bl (look k d fo).1) H'
abbrev nLk : List Str := ["value", "deep", "found", "piece"]
theorem scLk : FnScope nLk ["value", "deep", "found"] (defScope sLook) := ⟨rfl, rfl, rfl, by decide +kernel, rfl, by decide +kernel, by decide +kernel⟩
theorem step_look {f fW : Addr} {fd fdW : FuncData} {m j : Nat} {sp : Sp} (F : Fun K "_law_look" "_law_look" sLook f fd) (T : Bl mg) (bF : Binds K fd ["value", "deep", "found"] []) (mF : mg "_law_look" = some (.ref f))
    (FW : Fun K "_law_word" "_law_word" sWord fW fdW) (bW : Binds K fdW ["value"] []) (mW : mg "_law_word" = some (.ref fW)) (hj : 1 ≤ j) (GL : FnOk P w K mg base CX0 j f fd ["value", "deep", "found"] sp)
    (hsp : ∀ vs H Q, (∃ m', m = m' + 1 ∧ spLook K m' vs H Q E0) → sp vs H Q E0) : FnOk P w K mg base CX0 (j + 1) f fd ["value", "deep", "found"] (spLook K m) := by
  have GW : FnOk P w K mg base CX0 1 fW fdW ["value"] (spName K) := ok_word FW T
  refine F.ok scLk (fun vs H Q E h => ?_) (fun cdv A outer s H vs Q E hr h => ?_)
  · obtain ⟨v, d, k, fl, fo, G, rfl, _⟩ := h
    rfl
  · obtain ⟨v, d, k, fl, fo, G, rfl, sG, nG, hD, hw, hd, hf, hfo, h⟩ := h
    have hu := hu_of hr
    have hu0 : (A.deeper (envOfC "_law_look" (defScope sLook) s.heap.objs.size f cdv)).units < cLine := by omega
    refine ⟨_, pss_cons (ps_if (PW.pt (pw_or (pt_cmpR op_gt (pv 1) pe_int (nomark _)) (pw_or (pt_cmpR op_gt (pe_callB call_len_seq rfl T.len b_len (pa_cons (pv 2) pa_nil)) pe_int (nomark _))
        (pw_or (pt_not (pt_val (pe_callB call_isD rfl T.isi b_isi (pa_cons (pv 0) (pa_cons (pe_bltn (v := .ty "tuple") rfl T.tup b_tup rfl) pa_nil))))) (pw_or1 (pt_cmpR op_lt (pe_callB call_len_seq rfl T.len b_len (pa_cons (pv 0) pa_nil)) pe_int (nomark _))))))) (pss_one (ps_ret pe_bl)) pss_nil)
      (pss_cons (ps_if (pt_not (pt_val (pe_callB call_isD rfl T.isi b_isi (pa_cons (pe_ix ix_tup (pv 0) pe_int (fun _ _ => rfl)) (pa_cons (pe_bltn (v := .ty "str") rfl T.str b_str rfl) pa_nil))))) (pss_one (ps_ret pe_bl)) pss_nil)
      (pss_cons (ps_expr (pe_bm PySem.F.plainAttrs_list PySem.F.slot_list_append PySem.F.type_list_append mt_append (pv 2) (pa_cons pe_str pa_nil)))
      (pss_cons (ps_if (pt_cmpR (op_eqS hu0) (pe_ix ix_tup (pv 0) pe_int (fun _ _ => rfl)) pe_str (nomark _))
        (pss_cons (ps_asg (pe_ifExp (PW.pt (pw_and (pt_cmpR op_eq (pe_callB call_len_seq rfl T.len b_len (pa_cons (pv 0) pa_nil)) pe_int (nomark _)) (pw_and1 (pt_val (pe_call GW (hr.mono hj) rfl mW FW.kp bW .nil pass0 (pa_cons (pe_ix ix_tup (pv 0) pe_int (fun _ _ => rfl)) pa_nil))))))
            (pe_ix ix_tup (pv 0) pe_int (fun _ _ => rfl)) pe_int) (pg_sub (pv 2) (pe_un un_neg pe_int) set_list))
        (pss_one (ps_ret (pe_cmpR op_ne (pe_ix ix_list (pv 2) (pe_un un_neg pe_int) (fun _ _ => rfl)) pe_int (nomark _))))) pss_nil)
      (pss_cons (ps_if (pt_cmpR (op_eqS hu0) (pe_ix ix_tup (pv 0) pe_int (fun _ _ => rfl)) pe_str (nomark _)) (pss_one (ps_ret (pe_cmpR op_eq (pe_callB call_len_seq rfl T.len b_len (pa_cons (pv 0) pa_nil)) pe_int (nomark _)))) pss_nil)
      (pss_cons (ps_if (PW.pt (pw_or (pt_cmpR (op_notInZ hu) (pe_ix ix_tup (pv 0) pe_int (fun _ _ => rfl)) (pe_lst (pa_cons pe_str (pa_cons pe_str (pa_cons pe_str pa_nil)))) rfl)
          (pw_or1 (PW.pt (pw_and (pt_cmpR op_lt (pe_callB call_len_seq rfl T.len b_len (pa_cons (pv 0) pa_nil)) pe_int (nomark _)) (pw_and1 (pt_cmpR op_ne (pe_ix ix_tup (pv 0) pe_int (fun _ _ => rfl)) pe_str (nomark _)))))))) (pss_one (ps_ret pe_bl)) pss_nil)
      (pss_cons (ps_if (PW.pt (pw_and (pt_cmpR (op_eqS hu0) (pe_ix ix_tup (pv 0) pe_int (fun _ _ => rfl)) pe_str (nomark _)) (pw_and1 (pt_cmpR op_ne (pe_callB call_len_seq rfl T.len b_len (pa_cons (pv 0) pa_nil)) pe_int (nomark _))))) (pss_one (ps_ret pe_bl)) pss_nil)
      (pss_one (ps_ret (pe_callB (cr_all rfl) rfl T.all b_all (pa_cons
        (pe_lc (own := [("piece", 3)]) (g := gName 3) (tt := tYes) rfl scLk.nd (pi_tup (pe_slice sl_tup (pv 0) (po_some pe_int) po_none)) (blkOk_by (N := nLk) (sc := defScope sLook) (by decide +kernel)) (fun _ _ _ _ _ => pg_name (i := 3) scLk.nd rfl (Or.inl rfl)) (fun _ _ _ _ _ => pts_nil)
          (fun _ _ _ _ _ => pe_call GL hr rfl mF F.kp bF .nil pass0 (pa_cons (pv 3) (pa_cons (pe_op op_add (pv 1) pe_int) (pa_cons (pv 2) pa_nil))))) pa_nil)))))))))), ?_⟩
    have hD' : Dv K H v d := hD.mono sG
    have fin : ∀ b, look k d fo = (b, fo) → Q (.bl b) H := fun b e => by
      have q := h H SameB.refl (by rw [e]; exact hf)
      rw [e] at q
      exact q
    refine ⟨_, rfl, _, _, rfl, rfl, _, rfl, ?_⟩
    refine nS (fun c1 => fin false (look_stop (.inl ?_))) (fun c1 => ?_)
    · rw [← dgt]; exact c1
    have c1' : decide (40 < k) = false := by rw [← dgt]; exact c1
    refine ⟨_, rfl, fl, _, rfl, .inl (.inl (.inl hf)), _, _, rfl, rfl, _, rfl, ?_⟩
    refine nS (fun c2 => fin false (look_stop (.inr (.inl ?_)))) (fun c2 => ?_)
    · rw [← dgt]; exact c2
    have c2' : decide (60 < fo.length) = false := by rw [← dgt]; exact c2
    have hfo60 : ¬ 60 < fo.length := of_decide_eq_false c2'
    refine ⟨_, rfl, _, _, d, _, _, rfl, .ty _, hD', k_tup d, _, rfl, ?_⟩
    refine nS (fun c3 => fin false (look_stop (.inr (.inr (by simpa using c3))))) (fun c3 => ?_)
    obtain ⟨ds, rfl⟩ : ∃ ds, d = .tuple ds := by
      cases d with
      | tuple ds => exact ⟨ds, rfl⟩
      | none => cases c3
      | bool _ => cases c3
      | int _ => cases c3
      | str _ => cases c3
      | list _ => cases c3
      | dict _ => cases c3
    have hlk : look k (.tuple ds) fo = look2 k ds fo := by rw [look]
    rw [hlk] at h fin
    cases hD with
    | @tup a xs _ hs ha =>
    have hwd : PyData.weightAll ds ≤ 4000 := by rw [← w_tup]; exact hw
    refine ⟨_, rfl, a, xs, rfl, .inr (seqT sG hs), _, _, rfl, rfl, _, rfl, ?_⟩
    cases ha with
    | nil => exact iT rfl (fin false (by rw [look2]))
    | @cons x xs hd1 r hx ht =>
    have hlt := ht.len
    refine iF (by simp; omega) ?_
    have hsH := seqT sG hs
    refine ⟨_, rfl, a, _, _, x, rfl, rfl, hsH, at0, x, _, hd1, _, _, rfl, .ty _, hx.mono sG, k_str hd1, _, rfl, ?_⟩
    refine nS (fun c4 => fin false ?_) (fun c4 => ?_)
    · rw [look2, c1', c2']
      have c4' : isS hd1 = false := by simpa using c4
      rw [c4']
      rfl
    obtain ⟨z, rfl⟩ : ∃ z, hd1 = .str z := by
      cases hd1 with
      | str z => exact ⟨z, rfl⟩
      | none => cases c4
      | bool _ => cases c4
      | int _ => cases c4
      | tuple _ => cases c4
      | list _ => cases c4
      | dict _ => cases c4
    cases hx
    have h2 : look2 k (.str z :: r) fo = (if isStr (.str z) "do" then (one1 r, fo ++ [if one1 r then V.str (nm1 r) else V.int 0])
        else if isStr (.str z) "skip" then (r.isEmpty, fo ++ [V.str ""])
        else if !(isStr (.str z) "seq" || isStr (.str z) "or" || isStr (.str z) "rep") || (decide (r.length < 2) && !isStr (.str z) "rep") then (false, fo ++ [V.str ""])
        else if isStr (.str z) "rep" && !decide (r.length = 1) then (false, fo ++ [V.str ""])
        else ((lookAll (k + 1) r (fo ++ [V.str ""])).1.all id, (lookAll (k + 1) r (fo ++ [V.str ""])).2)) := by
      rw [look2, c1', c2']
      rfl
    rw [h2] at h
    clear fin h2 hlk
    refine ⟨_, rfl, .inl ⟨rfl, _, .inl (.inl hf)⟩, fl, _, _, rfl, rfl, hf, small1000 (by omega), ?_⟩
    have B1 : SameB fl H (upd H fl (.lst (fo ++ [V.str ""]))) := SameB.at
    have hf1 : (upd H fl (.lst (fo ++ [V.str ""]))) fl = some (.lst (fo ++ [V.str ""])) := upd_same
    have s1 : Same G (upd H fl (.lst (fo ++ [V.str ""]))) := B1.same sG nG
    generalize upd H fl (.lst (fo ++ [V.str ""])) = H1 at *
    have hs1 := seqT s1 hs
    have hle : (((V.str z :: xs).length : Nat) : Int) = (r.length : Int) + 1 := by rw [List.length_cons, hlt]; omega
    refine ⟨_, rfl, a, _, _, _, rfl, rfl, hs1, at0, .str z, _, .str z, rfl, _, rfl, ?_⟩
    refine nS (fun e1 => ?_) (fun e1 => ?_)
    · have hA : ∀ H', SameB fl H H' → H' fl = some (.lst (fo ++ [if one1 r then V.str (nm1 r) else V.int 0])) → Q (.bl (one1 r)) H' := fun H' b q => by
        have z := h H' b
        rw [e1] at z
        exact z q
      refine ⟨_, rfl, a, _, rfl, .inr hs1, rfl, _, rfl, ?_⟩
      cases ht with
      | nil =>
        refine iF (by simp) ?_
        refine ⟨_, rfl, _, rfl, fl, _, _, fo.length, rfl, rfl, hf1, ixLast, ?_⟩
        refine ⟨_, rfl, _, rfl, fl, _, _, V.int 0, rfl, rfl, .inl (.inl (by rw [upd_same, setLast])), atI_last _ _, rfl, ?_⟩
        exact hA _ (B1.trans SameB.at) (by rw [upd_same, setLast]; rfl)
      | @cons y ys n ns hy ht2 =>
        cases ht2 with
        | @cons y2 ys2 n2 ns2 hy2 ht3 =>
          refine iF (by simp; omega) ?_
          refine ⟨_, rfl, _, rfl, fl, _, _, fo.length, rfl, rfl, hf1, ixLast, ?_⟩
          refine ⟨_, rfl, _, rfl, fl, _, _, V.int 0, rfl, rfl, .inl (.inl (by rw [upd_same, setLast])), atI_last _ _, rfl, ?_⟩
          exact hA _ (B1.trans SameB.at) (by rw [upd_same, setLast]; rfl)
        | nil =>
          refine iT (by simp) ?_
          have wn : n.weight ≤ 4000 := by
            have := wAll_mem (ds := [.str z, n]) (d := n) (by simp)
            omega
          refine ⟨_, rfl, a, _, _, y, rfl, rfl, hs1, at1, y, n, rfl, hy.mono s1, wn, fun H2 S2 => ⟨_, rfl, ?_⟩⟩
          have hf2 := S2 _ _ hf1
          have B2 : SameB fl H H2 := B1.trans (SameB.of S2)
          have hs2 := seqT S2 hs1
          refine nS (fun hn => ?_) (fun hn => ?_)
          · obtain ⟨z2, rfl⟩ : ∃ z, n = .str z := by
              cases n with
              | str z => exact ⟨z, rfl⟩
              | none => cases hn
              | bool _ => cases hn
              | int _ => cases hn
              | tuple _ => cases hn
              | list _ => cases hn
              | dict _ => cases hn
            cases hy
            have ho : one1 [PyData.str z2] = true := hn
            refine ⟨_, rfl, a, _, _, V.str z2, rfl, rfl, hs2, at1, _, rfl, _, rfl, fl, _, _, fo.length, rfl, rfl, hf2, ixLast, ?_⟩
            refine ⟨_, rfl, _, rfl, fl, _, _, V.str z2, rfl, rfl, .inl (.inl (by rw [upd_same, setLast])), atI_last _ _, rfl, ?_⟩
            have q := hA (upd H2 fl (.lst ((fo ++ [V.str ""]).set fo.length (V.str z2)))) (B2.trans SameB.at) (by rw [upd_same, setLast, ho]; rfl)
            rw [ho] at q
            exact q
          · have ho : one1 [n] = false := hn
            refine ⟨_, rfl, _, rfl, fl, _, _, fo.length, rfl, rfl, hf2, ixLast, ?_⟩
            refine ⟨_, rfl, _, rfl, fl, _, _, V.int 0, rfl, rfl, .inl (.inl (by rw [upd_same, setLast])), atI_last _ _, rfl, ?_⟩
            have q := hA (upd H2 fl (.lst ((fo ++ [V.str ""]).set fo.length (V.int 0)))) (B2.trans SameB.at) (by rw [upd_same, setLast, ho]; rfl)
            rw [ho] at q
            exact q
    · rw [e1] at h
      simp only [Bool.false_eq_true, if_false] at h
      have hlc : (V.str z :: xs).length = r.length + 1 := by rw [List.length_cons, hlt]
      refine ⟨_, rfl, a, _, _, _, rfl, rfl, hs1, at0, .str z, _, .str z, rfl, _, rfl, ?_⟩
      refine nS (fun e2 => ?_) (fun e2 => ?_)
      · rw [e2] at h
        simp only [if_true] at h
        refine ⟨_, rfl, a, _, rfl, .inr hs1, rfl, ?_⟩
        rw [hlc, eq1']
        exact h H1 B1 hf1
      rw [e2] at h
      simp only [Bool.false_eq_true, if_false] at h
      refine ⟨_, rfl, a, _, _, _, rfl, rfl, hs1, at0, len_small (by simp), fun pl npl => ?_⟩
      have S2 : Same H1 (upd H1 pl (.lst [V.str "seq", V.str "or", V.str "rep"])) := up1 npl
      refine ⟨.str z, pl, ["seq", "or", "rep"], .str z, rfl, .inl (.inl (.inl upd_same)), _, rfl, ?_⟩
      have ea : (["seq", "or", "rep"] : List Str).any (isStr (.str z)) = (isStr (.str z) "seq" || isStr (.str z) "or" || isStr (.str z) "rep") := by simp [Bool.or_assoc]
      rw [ea]
      have B2 : SameB fl H (upd H1 pl (.lst [V.str "seq", V.str "or", V.str "rep"])) := B1.trans (SameB.of S2)
      have hf2 := S2 _ _ hf1
      have hs2 := seqT S2 hs1
      have s2 := s1.trans S2
      generalize upd H1 pl (.lst [V.str "seq", V.str "or", V.str "rep"]) = H2 at *
      refine nS (fun e3 => ?_) (fun e3 => ?_)
      · rw [e3, Bool.true_or] at h
        simp only [if_true] at h
        exact h H2 B2 hf2
      rw [e3, Bool.false_or] at h
      refine ⟨_, rfl, a, _, rfl, .inr hs2, _, _, rfl, rfl, _, rfl, ?_⟩
      rw [hlc]
      show if decide (((r.length + 1 : Nat) : Int) < 3) = true then _ else _
      rw [lt3]
      cases b3 : (decide (r.length < 2) && !isStr (.str z) "rep") with
      | true =>
        rw [b3] at h
        simp only [if_true] at h
        obtain ⟨b31, b32⟩ := Bool.and_eq_true_iff.mp b3
        refine iT b31 ?_
        refine ⟨_, rfl, a, _, _, _, rfl, rfl, hs2, at0, rfl, _, rfl, ?_⟩
        refine iT ?_ (h H2 B2 hf2)
        rw [neStr]
        exact b32
      | false =>
      rw [b3] at h
      simp only [Bool.false_eq_true, if_false] at h
      refine nS2 ?_ (fun c hB => ?_)
      rotate_left
      · refine ⟨_, rfl, a, _, _, _, rfl, rfl, hs2, at0, rfl, _, rfl, ?_⟩
        refine iF ?_ hB
        rw [neStr]
        rw [c, Bool.true_and] at b3
        rw [b3]
        exact Bool.false_ne_true
      refine ⟨_, rfl, a, _, _, _, rfl, rfl, hs2, at0, .str z, _, .str z, rfl, _, rfl, ?_⟩
      cases b4 : (isStr (.str z) "rep" && !decide (r.length = 1)) with
      | true =>
        rw [b4] at h
        simp only [if_true] at h
        obtain ⟨b41, b42⟩ := Bool.and_eq_true_iff.mp b4
        refine iT b41 ?_
        refine ⟨_, rfl, a, _, rfl, .inr hs2, rfl, _, rfl, ?_⟩
        refine iT ?_ (h H2 B2 hf2)
        rw [hlc, ne2]
        exact b42
      | false =>
      rw [b4] at h
      simp only [Bool.false_eq_true, if_false] at h
      refine nS2 ?_ (fun c hB => ?_)
      rotate_left
      · refine ⟨_, rfl, a, _, rfl, .inr hs2, rfl, _, rfl, ?_⟩
        refine iF ?_ hB
        rw [hlc, ne2]
        rw [c, Bool.true_and] at b4
        rw [b4]
        exact Bool.false_ne_true
      have hne : ¬ (HT.sIx (V.str z :: xs).length 0 (some 1) = 0 ∧ HT.sIx (V.str z :: xs).length (V.str z :: xs).length none = (V.str z :: xs).length) := fun q => by
        have e1 : HT.sIx (V.str z :: xs).length 0 (some 1) = 1 := by
          show (if (1 : Int) < 0 then ((1 : Int) + ((V.str z :: xs).length : Int)).toNat else min (1 : Int).toNat (V.str z :: xs).length) = 1
          rw [if_neg (by decide)]
          simp
        rw [e1] at q
        exact absurd q.1 (by decide)
      refine ⟨_, rfl, 1, rfl, a, _, rfl, hs2, hne, fun p np => ?_⟩
      rw [cut1]
      have S3 : Same H2 (upd H2 p (.tup xs)) := up1 np
      have hp3 : (upd H2 p (.tup xs)) p = some (.tup xs) := upd_same
      have B3 : SameB fl H (upd H2 p (.tup xs)) := B2.trans (SameB.of S3)
      have hf3 := S3 _ _ hf2
      have s3 := s2.trans S3
      generalize upd H2 p (.tup xs) = H3 at *
      refine ⟨p, rfl, ⟨xs, .inl (.inl hp3)⟩, fun D nD => ?_⟩
      have nDf : D ≠ fl := fun e => by rw [e, hf3] at nD; cases nD
      have npf : p ≠ fl := fun e => by rw [e, hf3] at hp3; cases hp3
      refine lc_tup (K := K) (a := p) (xs := xs) (fun i Hc => SameB fl H3 Hc ∧ Hc D = some (.lst ((lookAll (k + 1) (r.take i) (fo ++ [V.str ""])).1.map V.bl)) ∧ Hc fl = some (.lst (lookAll (k + 1) (r.take i) (fo ++ [V.str ""])).2)) ?_ (fun i Hc _ ⟨b, _, _⟩ => .inl (.inl (b _ _ npf hp3))) ?_ ?_
      · refine ⟨SameB.of (up1 nD), ?_, ?_⟩
        · rw [upd_same, List.take_zero, lookAll]; rfl
        · rw [upd_ne (Ne.symm nDf), hf3, List.take_zero, lookAll]
      · rintro i x Hc hi ⟨Bc, Lc, Fc⟩
        refine ⟨rfl, ?_⟩
        obtain ⟨e, he, hx⟩ := ht.get hi
        have hmem : e ∈ r := List.mem_of_getElem? he
        have hl60 : (lookAll (k + 1) (r.take i) (fo ++ [V.str ""])).2.length ≤ 61 := lookAll_len _ _ _ (add_len hfo60)
        have hdp : e.depth + 1 ≤ m := by
          have q1 := depthAll_mem (ds := .str z :: r) (d := e) (List.mem_cons_of_mem _ hmem)
          have q2 : (PyData.tuple (.str z :: r)).depth = PyData.depthAll (.str z :: r) + 1 := by rw [PyData.depth]
          omega
        have hwe : e.weight ≤ 4000 := by
          have := wAll_mem (ds := .str z :: r) (d := e) (List.mem_cons_of_mem _ hmem)
          omega
        have hi' : i < r.length := (List.getElem?_eq_some_iff.mp he).1
        refine ⟨_, rfl, _, rfl, _, _, rfl, rfl, _, rfl, hsp _ _ _ ⟨m - 1, by omega, x, e, k + 1, fl, _, G, rfl, Bc.same s3 nG, nG, hx, hwe, by omega, Fc, hl60, fun H' b' f' => ?_⟩⟩
        have hD' := b' _ _ nDf Lc
        have et : r.take (i + 1) = r.take i ++ [e] := by rw [List.take_add_one, he]; rfl
        refine ⟨_, hD', ?_, ?_, ?_, ?_⟩
        · rw [List.length_map]
          have q := lookAll_num (k + 1) (r.take i) (fo ++ [V.str ""])
          rw [q, List.length_take]
          have := wAll_len (PyData.str z :: r)
          rw [List.length_cons] at this
          rw [sizeLine_eq]
          omega
        · exact (Bc.trans b').new nD
        · rw [upd_same, et, lookAll_snoc, List.map_append]
          rfl
        · rw [upd_ne (Ne.symm nDf), et, lookAll_snoc]
          exact f'
      · rintro Hc ⟨Bc, Lc, Fc⟩
        have et : r.take xs.length = r := by rw [hlt]; exact List.take_length
        rw [et] at Lc Fc
        exact ⟨D, _, rfl, .inl (.inl Lc), h Hc (B3.trans Bc) Fc⟩
end
end L50
namespace L50
open PySem PySem.Spec PyProof.Rows L2 L54
/-! ### what a program is, said once: every part of its form, no deeper than 40 -/
mutual
def wf : Nat → PyData → Bool
  | k, .tuple ds => wf2 k ds
  | _, _ => false
def wf2 : Nat → List PyData → Bool
  | k, h :: r => decide (k ≤ 40) && partOf h r && (isStr h "do" || wfAll (k + 1) r)
  | _, [] => false
def wfAll : Nat → List PyData → Bool
  | _, [] => true
  | k, d :: ds => wf k d && wfAll k ds
end
mutual
/-- the names as they come, "" for a part that isn't an action -/
def pre : PyData → List Str
  | .tuple ds => pre2 ds
  | _ => []
def pre2 : List PyData → List Str
  | h :: r => if isStr h "do" then [nm1 r] else "" :: preAll r
  | [] => []
def preAll : List PyData → List Str
  | [] => []
  | d :: ds => pre d ++ preAll ds
end
theorem partOf_cases {h : PyData} {r : List PyData} : partOf h r = (if isStr h "do" then one1 r else if isStr h "skip" then r.isEmpty else if isStr h "rep" then decide (r.length = 1) else (isStr h "seq" || isStr h "or") && decide (2 ≤ r.length)) := rfl
theorem isStr_eq {h : PyData} {z : Str} (e : isStr h z = true) : h = .str z := by
  cases h with
  | str a => rw [show a = z from eq_of_beq e]
  | none => cases e
  | bool _ => cases e
  | int _ => cases e
  | tuple _ => cases e
  | list _ => cases e
  | dict _ => cases e
theorem part_isS {h : PyData} {r : List PyData} (e : partOf h r = true) : isS h = true := by
  rw [partOf_cases] at e
  cases q1 : isStr h "do" with
  | true => rw [isStr_eq q1]; rfl
  | false =>
  cases q2 : isStr h "skip" with
  | true => rw [isStr_eq q2]; rfl
  | false =>
  cases q3 : isStr h "rep" with
  | true => rw [isStr_eq q3]; rfl
  | false =>
  cases q4 : isStr h "seq" with
  | true => rw [isStr_eq q4]; rfl
  | false =>
  cases q5 : isStr h "or" with
  | true => rw [isStr_eq q5]; rfl
  | false => rw [q1, q2, q3, q4, q5] at e; simp at e
theorem rep_ne {h : PyData} (e : isStr h "rep" = true) : isStr h "seq" = false ∧ isStr h "or" = false := by
  rw [isStr_eq e]
  exact ⟨by decide +kernel, by decide +kernel⟩
/-- one step of the look, by the form -/
theorem look2_step {k : Nat} {h : PyData} {r : List PyData} {fo : List V} : look2 k (h :: r) fo =
    if decide (40 < k) || decide (60 < fo.length) then (false, fo) else if !isS h then (false, fo) else
    if isStr h "do" then (one1 r, fo ++ [if one1 r then V.str (nm1 r) else V.int 0]) else
    if partOf h r then ((lookAll (k + 1) r (fo ++ [V.str ""])).1.all id, (lookAll (k + 1) r (fo ++ [V.str ""])).2) else (false, fo ++ [V.str ""]) := by
  rw [look2, partOf_cases]
  cases q1 : isStr h "do" with
  | true => simp
  | false =>
  cases q2 : isStr h "skip" with
  | true =>
    cases r with
    | nil => rw [lookAll]; simp
    | cons x r => simp
  | false =>
  cases q3 : isStr h "rep" with
  | true =>
    by_cases q : r.length = 1
    · simp [q]
    · simp [q]
  | false =>
  cases q4 : (isStr h "seq" || isStr h "or") with
  | false => simp
  | true =>
    by_cases q : 2 ≤ r.length
    · have q' : ¬ r.length < 2 := by omega
      simp [q, q']
    · have q' : r.length < 2 := by omega
      simp [q, q']
mutual
theorem look_wf : ∀ (k : Nat) (d : PyData) (fo : List V), (look k d fo).1 = true → wf k d = true ∧ (look k d fo).2 = fo ++ (pre d).map V.str
  | k, .tuple ds, fo, h => by
    rw [look] at h ⊢
    rw [wf, pre]
    exact look2_wf k ds fo h
  | _, .none, fo, h => by rw [look] at h <;> first | cases h | nofun
  | _, .bool _, fo, h => by rw [look] at h <;> first | cases h | nofun
  | _, .int _, fo, h => by rw [look] at h <;> first | cases h | nofun
  | _, .str _, fo, h => by rw [look] at h <;> first | cases h | nofun
  | _, .list _, fo, h => by rw [look] at h <;> first | cases h | nofun
  | _, .dict _, fo, h => by rw [look] at h <;> first | cases h | nofun
theorem look2_wf : ∀ (k : Nat) (ds : List PyData) (fo : List V), (look2 k ds fo).1 = true → wf2 k ds = true ∧ (look2 k ds fo).2 = fo ++ (pre2 ds).map V.str
  | k, [], fo, h => by rw [look2] at h; cases h
  | k, x :: r, fo, h => by
    have ih := lookAll_wf (k + 1) r (fo ++ [V.str ""])
    rw [look2_step] at h ⊢
    rw [wf2, pre2]
    cases c1 : (decide (40 < k) || decide (60 < fo.length)) with
    | true => rw [c1] at h; cases h
    | false =>
    rw [c1] at h
    have hk : decide (k ≤ 40) = true := by
      have q := (Bool.or_eq_false_iff.mp c1).1
      exact decide_eq_true (by have := of_decide_eq_false q; omega)
    cases c2 : isS x with
    | false => rw [c2] at h; cases h
    | true =>
    rw [c2] at h
    cases c3 : isStr x "do" with
    | true =>
      rw [c3] at h
      have ho : one1 r = true := h
      rw [hk, partOf_cases, c3, ho]
      simp
    | false =>
    rw [c3] at h
    cases c4 : partOf x r with
    | false => rw [c4] at h; cases h
    | true =>
      rw [c4] at h
      obtain ⟨w1, w2⟩ := ih h
      rw [hk, w1]
      refine ⟨by simp, ?_⟩
      show (lookAll (k + 1) r (fo ++ [V.str ""])).2 = _
      rw [w2]
      simp
theorem lookAll_wf : ∀ (k : Nat) (ds : List PyData) (fo : List V), (lookAll k ds fo).1.all id = true → wfAll k ds = true ∧ (lookAll k ds fo).2 = fo ++ (preAll ds).map V.str
  | k, [], fo, h => by rw [lookAll, wfAll, preAll]; simp
  | k, d :: ds, fo, h => by
    rw [lookAll] at h ⊢
    rw [wfAll, preAll]
    rw [List.all_cons, Bool.and_eq_true] at h
    obtain ⟨a1, a2⟩ := look_wf k d fo h.1
    obtain ⟨b1, b2⟩ := lookAll_wf k ds _ h.2
    rw [a1, b1]
    refine ⟨rfl, ?_⟩
    show (lookAll k ds (look k d fo).2).2 = _
    rw [b2, a2]
    simp
end
mutual
theorem wf_look : ∀ (k : Nat) (d : PyData) (fo : List V), wf k d = true → fo.length + (pre d).length ≤ 61 → (look k d fo).1 = true
  | k, .tuple ds, fo, h, hl => by
    rw [wf] at h
    rw [pre] at hl
    rw [look]
    exact wf2_look k ds fo h hl
  | _, .none, fo, h, _ => by rw [wf] at h <;> first | cases h | nofun
  | _, .bool _, fo, h, _ => by rw [wf] at h <;> first | cases h | nofun
  | _, .int _, fo, h, _ => by rw [wf] at h <;> first | cases h | nofun
  | _, .str _, fo, h, _ => by rw [wf] at h <;> first | cases h | nofun
  | _, .list _, fo, h, _ => by rw [wf] at h <;> first | cases h | nofun
  | _, .dict _, fo, h, _ => by rw [wf] at h <;> first | cases h | nofun
theorem wf2_look : ∀ (k : Nat) (ds : List PyData) (fo : List V), wf2 k ds = true → fo.length + (pre2 ds).length ≤ 61 → (look2 k ds fo).1 = true
  | k, [], fo, h, _ => by rw [wf2] at h; cases h
  | k, x :: r, fo, h, hl => by
    have ih := wfAll_look (k + 1) r (fo ++ [V.str ""])
    rw [wf2, Bool.and_eq_true, Bool.and_eq_true] at h
    obtain ⟨⟨h1, h2⟩, h3⟩ := h
    rw [pre2] at hl
    have hk := of_decide_eq_true h1
    have h4 : fo.length + 1 ≤ 61 := by
      split at hl
      · simpa using hl
      · rw [List.length_cons] at hl; omega
    rw [look2_step]
    have c1 : (decide (40 < k) || decide (60 < fo.length)) = false := by
      rw [decide_eq_false (by omega), decide_eq_false (by omega)]
      rfl
    rw [c1, part_isS h2]
    cases c3 : isStr x "do" with
    | true =>
      rw [partOf_cases, c3] at h2
      exact h2
    | false =>
      rw [c3] at hl h3
      rw [h2]
      rw [Bool.false_or] at h3
      have hl' : fo.length + (("" : Str) :: preAll r).length ≤ 61 := hl
      refine ih h3 ?_
      rw [List.length_append]
      rw [List.length_cons] at hl'
      simp
      omega
theorem wfAll_look : ∀ (k : Nat) (ds : List PyData) (fo : List V), wfAll k ds = true → fo.length + (preAll ds).length ≤ 61 → (lookAll k ds fo).1.all id = true
  | k, [], fo, _, _ => by rw [lookAll]; rfl
  | k, d :: ds, fo, h, hl => by
    rw [wfAll, Bool.and_eq_true] at h
    rw [preAll, List.length_append] at hl
    have a := wf_look k d fo h.1 (by omega)
    have b := (look_wf k d fo a).2
    rw [lookAll, List.all_cons, a, Bool.and_eq_true]
    refine ⟨rfl, wfAll_look k ds _ h.2 ?_⟩
    rw [b, List.length_append, List.length_map]
    omega
end
section
variable {P : Program} {w : World} {K : PySem.W.Frag} {mg : Str → Option Value} {base : Heap}
theorem ok_look {f fW : Addr} {fd fdW : FuncData} (F : Fun K "_law_look" "_law_look" sLook f fd) (T : Bl mg) (bF : Binds K fd ["value", "deep", "found"] []) (mF : mg "_law_look" = some (.ref f))
    (FW : Fun K "_law_word" "_law_word" sWord fW fdW) (bW : Binds K fdW ["value"] []) (mW : mg "_law_word" = some (.ref fW)) : ∀ m : Nat, FnOk P w K mg base CX0 (m + 2) f fd ["value", "deep", "found"] (spLook K m)
  | 0 => step_look (j := 1) (sp := fun _ _ _ _ => False) F T bF mF FW bW mW (Nat.le_refl _) ⟨fun _ _ _ _ h => h.elim, fun _ _ _ _ _ _ _ _ _ _ _ _ _ h => h.elim⟩ fun _ _ _ ⟨_, e, _⟩ => by cases e
  | m + 1 => step_look (j := m + 2) F T bF mF FW bW mW (by omega) (ok_look F T bF mF FW bW mW m) fun _ _ _ ⟨m', e, q⟩ => by cases e; exact q
end
end L50
namespace L50
open PySem PySem.Spec PyProof.Rows L2 L54
theorem wfAll_eq (k : Nat) : ∀ ds : List PyData, wfAll k ds = ds.all (wf k)
  | [] => by rw [wfAll]; rfl
  | d :: ds => by rw [wfAll, wfAll_eq k ds]; rfl
theorem preAll_eq : ∀ ds : List PyData, preAll ds = ds.flatMap pre
  | [] => by rw [preAll]; rfl
  | d :: ds => by rw [preAll, preAll_eq ds]; rfl
def own (d : PyData) : Str := if isDo d then nameOf d else ""
theorem wf_kids {k : Nat} {d : PyData} (h : isPart d = true) : wf k d = (decide (k ≤ 40) && (kids d).all (wf (k + 1))) := by
  obtain ⟨x, r, rfl, hp⟩ := isPart_shape h
  rw [wf, wf2, hp, wfAll_eq, kids]
  cases q : isStr x "do" with
  | true => simp
  | false => simp
theorem wf_part {k : Nat} {d : PyData} (h : wf k d = true) : isPart d = true ∧ k ≤ 40 := by
  cases d with
  | tuple ds =>
    rw [wf] at h
    cases ds with
    | nil => rw [wf2] at h; cases h
    | cons x r =>
      rw [wf2, Bool.and_eq_true, Bool.and_eq_true] at h
      exact ⟨h.1.2, of_decide_eq_true h.1.1⟩
  | none => rw [wf] at h <;> first | cases h | nofun
  | bool _ => rw [wf] at h <;> first | cases h | nofun
  | int _ => rw [wf] at h <;> first | cases h | nofun
  | str _ => rw [wf] at h <;> first | cases h | nofun
  | list _ => rw [wf] at h <;> first | cases h | nofun
  | dict _ => rw [wf] at h <;> first | cases h | nofun
theorem pre_kids {d : PyData} (h : isPart d = true) : pre d = own d :: (kids d).flatMap pre := by
  obtain ⟨x, r, rfl, hp⟩ := isPart_shape h
  rw [pre, pre2, preAll_eq, kids]
  cases q : isStr x "do" with
  | true =>
    obtain ⟨z, rfl, hz⟩ := partDo hp q
    have e : own (.tuple [x, .str z]) = z := by
      show (if isStr x "do" = true then z else "") = z
      rw [q]
      rfl
    rw [e]
    rfl
  | false =>
    have e : own (.tuple (x :: r)) = "" := by
      have q2 : isDo (.tuple (x :: r)) = false := q
      unfold own
      rw [q2]
      rfl
    rw [e]
    rfl
/-- the names done in it -/
def act (d : PyData) (x : Str) : Prop := x ∈ pre d ∧ x ≠ ""
theorem name_ne {z : Str} (h : isName (.str z) = true) : z ≠ "" := fun e => by
  subst e
  revert h
  decide +kernel
theorem own_do {d : PyData} (h : isPart d = true) (q : isDo d = true) : own d = nameOf d ∧ nameOf d ≠ "" := by
  obtain ⟨x, r, rfl, hp⟩ := isPart_shape h
  have q' : isStr x "do" = true := q
  obtain ⟨z, rfl, hz⟩ := partDo hp q'
  refine ⟨?_, name_ne hz⟩
  unfold own
  rw [q]
  rfl
theorem own_no {d : PyData} (q : isDo d = false) : own d = "" := by
  unfold own
  rw [q]
  rfl
theorem any_mem {z : Str} {found : List Str} : found.any (isStr (.str z)) = decide (z ∈ found) := by
  rw [Bool.eq_iff_iff, List.any_eq_true, decide_eq_true_iff]
  constructor
  · rintro ⟨y, hy, e⟩
    have : z = y := eq_of_beq e
    rw [this]; exact hy
  · intro h
    exact ⟨z, h, beq_self_eq_true z⟩
theorem put_mem {d : PyData} {found : List Str} (h : isPart d = true) (x : Str) : x ∈ put d found ↔ x ∈ found ∨ (x = own d ∧ x ≠ "") := by
  unfold put
  rw [any_mem]
  cases q : isDo d with
  | false =>
    rw [own_no q]
    simp
  | true =>
    obtain ⟨e1, e2⟩ := own_do h q
    rw [e1]
    by_cases m : nameOf d ∈ found
    · simp only [Bool.true_and, m, decide_true, Bool.not_true, Bool.false_eq_true, if_false]
      constructor
      · exact .inl
      · rintro (a | ⟨rfl, _⟩)
        · exact a
        · exact m
    · simp only [Bool.true_and, m, decide_false, Bool.not_false, if_true, List.mem_append, List.mem_singleton]
      constructor
      · rintro (a | rfl)
        · exact .inl a
        · exact .inr ⟨rfl, e2⟩
      · rintro (a | ⟨rfl, _⟩)
        · exact .inl a
        · exact .inr rfl
theorem put_nodup {d : PyData} {found : List Str} (h : found.Nodup) : (put d found).Nodup := by
  unfold put
  rw [any_mem]
  split
  · rename_i q
    rw [Bool.and_eq_true] at q
    have m : nameOf d ∉ found := by simpa using q.2
    rw [List.nodup_append]
    refine ⟨h, by simp, ?_⟩
    intro a ha b hb e
    rw [List.mem_singleton] at hb
    rw [e, hb] at ha
    exact m ha
  · exact h
theorem nodup_le {α : Type} [DecidableEq α] : ∀ {A B : List α}, A.Nodup → (∀ x ∈ A, x ∈ B) → A.length ≤ B.length
  | [], _, _, _ => Nat.zero_le _
  | a :: A, B, hA, h => by
    rw [List.nodup_cons] at hA
    have hB : a ∈ B := h a List.mem_cons_self
    have q := nodup_le (B := B.erase a) hA.2 fun x hx => by
      have hne : x ≠ a := fun e => hA.1 (by rw [← e]; exact hx)
      exact (List.mem_erase_of_ne hne).mpr (h x (List.mem_cons_of_mem _ hx))
    rw [List.length_erase_of_mem hB] at q
    have := List.length_pos_of_mem hB
    rw [List.length_cons]
    omega
theorem nodup_len {α : Type} [DecidableEq α] {A B : List α} (hA : A.Nodup) (hB : B.Nodup) (h : ∀ x, x ∈ A ↔ x ∈ B) : A.length = B.length :=
  Nat.le_antisymm (nodup_le hA fun x hx => (h x).mp hx) (nodup_le hB fun x hx => (h x).mpr hx)
def cnt (d : PyData) : Nat := (pre d).length
def cnts : List (PyData × Nat) → Nat
  | [] => 0
  | p :: st => cnt p.1 + cnts st
theorem cnts_app : ∀ (a b : List (PyData × Nat)), cnts (a ++ b) = cnts a + cnts b
  | [], b => by simp [cnts]
  | p :: a, b => by rw [List.cons_append, cnts, cnts, cnts_app a b]; omega
theorem cnts_rev : ∀ (a : List (PyData × Nat)), cnts a.reverse = cnts a
  | [] => rfl
  | p :: a => by rw [List.reverse_cons, cnts_app, cnts_rev a, cnts, cnts, cnts]; omega
theorem cnts_kids (k : Nat) : ∀ ds : List PyData, cnts (ds.map fun e => (e, k)) = (ds.flatMap pre).length
  | [] => rfl
  | d :: ds => by
    rw [List.map_cons, cnts, cnts_kids k ds, List.flatMap_cons, List.length_append]
    rfl
theorem go_spec : ∀ (n : Nat) (st : List (PyData × Nat)) (found : List Str) (parts : Nat), n + parts = 62 → parts ≤ 60 → found.Nodup →
    (go n st found parts = true ↔ (∀ p ∈ st, wf p.2 p.1 = true) ∧ parts + cnts st ≤ 60 ∧ ∀ F : List Str, F.Nodup → (∀ x, x ∈ F ↔ x ∈ found ∨ ∃ p ∈ st, act p.1 x) → F.length ≤ 6)
  | 0, _, _, _, h, h2, _ => by omega
  | n + 1, [], found, parts, h, h2, hn => by
    show decide (found.length ≤ 6) = true ↔ _
    rw [decide_eq_true_iff]
    constructor
    · intro q
      refine ⟨fun p hp => (by cases hp), by simpa [cnts] using h2, fun F hF hm => ?_⟩
      rw [nodup_len hF hn fun x => by rw [hm x]; simp]
      exact q
    · rintro ⟨_, _, q⟩
      exact q found hn fun x => by simp
  | n + 1, (d, k) :: st, found, parts, h, h2, hn => by
    have ih := go_spec n (((kids d).map fun e => (e, k + 1)).reverse ++ st) (put d found) (parts + 1) (by omega)
    show (if decide (60 < parts + 1) || decide (40 < k) || !isPart d then false else go n (((kids d).map fun e => (e, k + 1)).reverse ++ st) (put d found) (parts + 1)) = true ↔ _
    by_cases hc : (decide (60 < parts + 1) || decide (40 < k) || !isPart d) = true
    · rw [if_pos hc]
      constructor
      · intro q; cases q
      · rintro ⟨q1, q2, _⟩
        have w := q1 (d, k) List.mem_cons_self
        obtain ⟨w1, w2⟩ := wf_part w
        have c1 : 1 ≤ cnt d := by
          unfold cnt
          rw [pre_kids w1]
          simp
        rw [cnts] at q2
        rw [Bool.or_eq_true, Bool.or_eq_true, decide_eq_true_iff, decide_eq_true_iff, w1] at hc
        rcases hc with (a | a) | a
        · have c2 : parts + (cnt d + cnts st) ≤ 60 := q2
          omega
        · have w2' : k ≤ 40 := w2
          omega
        · cases a
    · rw [if_neg hc]
      rw [Bool.or_eq_true, Bool.or_eq_true, decide_eq_true_iff, decide_eq_true_iff, not_or, not_or] at hc
      obtain ⟨⟨c1, c2⟩, c3⟩ := hc
      have w1 : isPart d = true := by simpa using c3
      rw [ih (by omega) (put_nodup hn)]
      have e1 : cnts (((kids d).map fun e => (e, k + 1)).reverse ++ st) + 1 = cnts ((d, k) :: st) := by
        have e2 : cnt d = ((kids d).flatMap pre).length + 1 := by
          unfold cnt
          rw [pre_kids w1, List.length_cons]
        rw [cnts_app, cnts_rev, cnts_kids, cnts]
        show _ = cnt d + cnts st
        omega
      have e3 : (∀ p ∈ ((kids d).map fun e => (e, k + 1)).reverse ++ st, wf p.2 p.1 = true) ↔ ∀ p ∈ (d, k) :: st, wf p.2 p.1 = true := by
        have ew := wf_kids (k := k) w1
        rw [decide_eq_true (by omega), Bool.true_and] at ew
        constructor
        · intro q p hp
          rcases List.mem_cons.mp hp with rfl | hp
          · show wf k d = true
            rw [ew, List.all_eq_true]
            intro e he
            exact q (e, k + 1) (List.mem_append_left _ (List.mem_reverse.mpr (List.mem_map.mpr ⟨e, he, rfl⟩)))
          · exact q p (List.mem_append_right _ hp)
        · intro q p hp
          rcases List.mem_append.mp hp with hp | hp
          · obtain ⟨e, he, rfl⟩ := List.mem_map.mp (List.mem_reverse.mp hp)
            have z : wf k d = true := q (d, k) List.mem_cons_self
            rw [ew, List.all_eq_true] at z
            exact z e he
          · exact q p (List.mem_cons_of_mem _ hp)
      have e4 : ∀ x, (x ∈ put d found ∨ ∃ p ∈ ((kids d).map fun e => (e, k + 1)).reverse ++ st, act p.1 x) ↔ (x ∈ found ∨ ∃ p ∈ (d, k) :: st, act p.1 x) := by
        intro x
        rw [put_mem w1]
        have ha : act d x ↔ (x = own d ∧ x ≠ "") ∨ ∃ e ∈ kids d, act e x := by
          unfold act
          rw [pre_kids w1, List.mem_cons, List.mem_flatMap]
          constructor
          · rintro ⟨a | ⟨e, he, hx⟩, hne⟩
            · exact .inl ⟨a, hne⟩
            · exact .inr ⟨e, he, hx, hne⟩
          · rintro (⟨a, hne⟩ | ⟨e, he, hx, hne⟩)
            · exact ⟨.inl a, hne⟩
            · exact ⟨.inr ⟨e, he, hx⟩, hne⟩
        constructor
        · rintro ((a | a) | ⟨p, hp, hx⟩)
          · exact .inl a
          · exact .inr ⟨(d, k), List.mem_cons_self, ha.mpr (.inl a)⟩
          · rcases List.mem_append.mp hp with hp | hp
            · obtain ⟨e, he, rfl⟩ := List.mem_map.mp (List.mem_reverse.mp hp)
              exact .inr ⟨(d, k), List.mem_cons_self, ha.mpr (.inr ⟨e, he, hx⟩)⟩
            · exact .inr ⟨p, List.mem_cons_of_mem _ hp, hx⟩
        · rintro (a | ⟨p, hp, hx⟩)
          · exact .inl (.inl a)
          · rcases List.mem_cons.mp hp with rfl | hp
            · rcases ha.mp hx with a | ⟨e, he, hx⟩
              · exact .inl (.inr a)
              · exact .inr ⟨(e, k + 1), List.mem_append_left _ (List.mem_reverse.mpr (List.mem_map.mpr ⟨e, he, rfl⟩)), hx⟩
            · exact .inr ⟨p, List.mem_append_right _ hp, hx⟩
      rw [e3, ← e1]
      constructor
      · rintro ⟨a, b, c⟩
        exact ⟨a, by omega, fun F hF hm => c F hF fun x => by rw [hm x, e4 x]⟩
      · rintro ⟨a, b, c⟩
        exact ⟨a, by omega, fun F hF hm => c F hF fun x => by rw [hm x, e4 x]⟩
/-- is_program, said by its words -/
theorem prog_spec (d : PyData) : isProg d = true ↔ wf 1 d = true ∧ (pre d).length ≤ 60 ∧ ∀ F : List Str, F.Nodup → (∀ x, x ∈ F ↔ act d x) → F.length ≤ 6 := by
  unfold isProg
  rw [go_spec 62 [(d, 1)] [] 0 (by omega) (by omega) .nil]
  have e : cnts [(d, 1)] = (pre d).length := by simp [cnts, cnt]
  rw [e]
  constructor
  · rintro ⟨a, b, c⟩
    exact ⟨a (d, 1) List.mem_cons_self, by omega, fun F hF hm => c F hF fun x => by rw [hm x]; simp⟩
  · rintro ⟨a, b, c⟩
    refine ⟨fun p hp => ?_, by omega, fun F hF hm => c F hF fun x => by rw [hm x]; simp⟩
    rw [List.mem_singleton] at hp
    rw [hp]
    exact a
end L50
namespace L50
open PySem PySem.Spec PyProof.Rows L2 L54
theorem b_dct : bootBuiltins "dict" = some (.type "dict") := by decide +kernel
def addN (acc : List Str) (z : Str) : List Str := if z ∈ acc then acc else acc ++ [z]
def nkv (z : Str) : Key × V := (Sum.inr z, V.bl true)
theorem put_nkv (acc : List Str) (z : Str) : putK (acc.map nkv) (nkv z).1 (nkv z).2 = (addN acc z).map nkv := by
  unfold putK addN
  have e : ((acc.map nkv).any fun kv => decide (kv.1 = (nkv z).1)) = decide (z ∈ acc) := by
    rw [Bool.eq_iff_iff, List.any_eq_true, decide_eq_true_iff]
    constructor
    · rintro ⟨kv, h1, h2⟩
      obtain ⟨y, hy, rfl⟩ := List.mem_map.mp h1
      have q : (Sum.inr y : Key) = Sum.inr z := of_decide_eq_true h2
      cases q
      exact hy
    · intro h
      exact ⟨nkv z, List.mem_map.mpr ⟨z, h, rfl⟩, decide_eq_true rfl⟩
  rw [e]
  by_cases h : z ∈ acc
  · rw [if_pos (decide_eq_true h), if_pos h]
    have q : ∀ kv ∈ acc.map nkv, (if kv.1 = (nkv z).1 then (kv.1, (nkv z).2) else kv) = kv := by
      intro kv hk
      obtain ⟨y, _, rfl⟩ := List.mem_map.mp hk
      split
      · rfl
      · rfl
    exact (List.map_congr_left q).trans (List.map_id' _)
  · rw [if_neg (by simpa using h), if_neg h, List.map_append]
    rfl
theorem merge_nkv : ∀ (zs acc : List Str), mergeK (acc.map nkv) (zs.map nkv) = (zs.foldl addN acc).map nkv
  | [], _ => rfl
  | z :: zs, acc => by
    show mergeK (putK (acc.map nkv) (nkv z).1 (nkv z).2) (zs.map nkv) = _
    rw [put_nkv, merge_nkv zs]
    rfl
theorem addN_nodup : ∀ (zs acc : List Str), acc.Nodup → (zs.foldl addN acc).Nodup ∧ ∀ x, x ∈ zs.foldl addN acc ↔ x ∈ acc ∨ x ∈ zs
  | [], acc, h => ⟨h, fun x => by simp⟩
  | z :: zs, acc, h => by
    have h1 : (addN acc z).Nodup := by
      unfold addN
      split
      · exact h
      · rename_i m
        rw [List.nodup_append]
        refine ⟨h, by simp, ?_⟩
        intro a ha b hb e
        rw [List.mem_singleton] at hb
        rw [e, hb] at ha
        exact m ha
    have h2 : ∀ x, x ∈ addN acc z ↔ x ∈ acc ∨ x = z := by
      intro x
      unfold addN
      split
      · rename_i m
        constructor
        · exact .inl
        · rintro (a | rfl)
          · exact a
          · exact m
      · simp
    obtain ⟨a, b⟩ := addN_nodup zs _ h1
    refine ⟨a, fun x => ?_⟩
    show x ∈ zs.foldl addN (addN acc z) ↔ _
    rw [b x, h2 x, List.mem_cons]
    constructor
    · rintro ((a | a) | a)
      · exact .inl a
      · exact .inr (.inl a)
      · exact .inr (.inr a)
    · rintro (a | a | a)
      · exact .inl (.inl a)
      · exact .inl (.inr a)
      · exact .inr a
def noE (z : Str) : Bool := !decide (V.str z = V.str "")
theorem noE_iff (z : Str) : noE z = true ↔ z ≠ "" := by
  unfold noE
  rw [Bool.not_eq_true', decide_eq_false_iff_not]
  constructor
  · intro h e
    exact h (by rw [e])
  · intro h e
    exact h (V.str.inj e)
def dstn (d : PyData) : List Str := ((pre d).filter noE).foldl addN []
theorem dstn_mem (d : PyData) : (dstn d).Nodup ∧ ∀ x, x ∈ dstn d ↔ act d x := by
  obtain ⟨a, b⟩ := addN_nodup ((pre d).filter noE) [] .nil
  refine ⟨a, fun x => ?_⟩
  show x ∈ ((pre d).filter noE).foldl addN [] ↔ _
  rw [b x, List.mem_filter, noE_iff]
  simp [act]
theorem is_spec (d : PyData) : isProg d = ((look 1 d []).1 && (decide ((pre d).length ≤ 60) && decide ((dstn d).length ≤ 6))) := by
  rw [Bool.eq_iff_iff, prog_spec, Bool.and_eq_true, Bool.and_eq_true, decide_eq_true_iff, decide_eq_true_iff]
  obtain ⟨n1, n2⟩ := dstn_mem d
  constructor
  · rintro ⟨a, b, c⟩
    exact ⟨wf_look 1 d [] a (by simp; omega), b, c _ n1 n2⟩
  · rintro ⟨a, b, c⟩
    refine ⟨(look_wf 1 d [] a).1, b, fun F hF hm => ?_⟩
    rw [nodup_len hF n1 fun x => by rw [hm x, n2 x]]
    exact c
theorem pairSnoc {α β : Type} {R : α → β → Prop} {a : α} {b : β} (h : R a b) : ∀ {as : List α} {bs : List β}, Paired R as bs → Paired R (as ++ [a]) (bs ++ [b])
  | _, _, .nil => .cons h .nil
  | _, _, .cons r t => .cons r (pairSnoc h t)
section
variable {P : Program} {w : World} {K : PySem.W.Frag} {mg : Str → Option Value} {base : Heap}
def spIs (K : PySem.W.Frag) (m : Nat) : Sp := fun vs H Q _ => ∃ (v : V) (d : PyData), vs = [v] ∧ Dv K H v d ∧ d.weight ≤ 4000 ∧ d.depth ≤ m ∧ ∀ H', Same H H' → Q (.bl (isProg d)) H'
abbrev nIs : List Str := ["value", "found", "name"]
theorem scIs : FnScope nIs ["value"] (defScope sIs) := ⟨rfl, rfl, rfl, by decide +kernel, rfl, by decide +kernel, by decide +kernel⟩
theorem ok_is {m : Nat} {f fL fW : Addr} {fd fdL fdW : FuncData} (F : Fun K "_law_is" "_law_is" sIs f fd) (T : Bl mg) (FL : Fun K "_law_look" "_law_look" sLook fL fdL) (bL : Binds K fdL ["value", "deep", "found"] []) (mL : mg "_law_look" = some (.ref fL))
    (FW : Fun K "_law_word" "_law_word" sWord fW fdW) (bW : Binds K fdW ["value"] []) (mW : mg "_law_word" = some (.ref fW)) : FnOk P w K mg base CX0 (m + 3) f fd ["value"] (spIs K m) := by
  have GL : FnOk P w K mg base CX0 (m + 2) fL fdL ["value", "deep", "found"] (spLook K m) := ok_look FL T bL mL FW bW mW m
  refine F.ok scIs (fun vs H Q E h => ?_) (fun cdv A outer s H vs Q E hr h => ?_)
  · obtain ⟨v, d, rfl, _⟩ := h
    rfl
  · obtain ⟨v, d, rfl, hD, hw, hd, h⟩ := h
    refine ⟨_, pss_cons (ps_set (i := 1) scIs.nd rfl (.inl rfl) (pe_lst pa_nil))
      (pss_cons (ps_if (PW.pt (pw_or (pt_not (pt_val (pe_call GL hr rfl mL FL.kp bL .nil pass0 (pa_cons (pv 0) (pa_cons pe_int (pa_cons (pv 1) pa_nil)))))) (pw_or1 (pt_cmpR op_gt (pe_callB call_len_seq rfl T.len b_len (pa_cons (pv 1) pa_nil)) pe_int (nomark _))))) (pss_one (ps_ret pe_bl)) pss_nil)
      (pss_one (ps_ret (pe_cmpR op_le (pe_callB call_lenD rfl T.len b_len (pa_cons (pe_callTy (call_dictP rfl) rfl T.dct b_dct (pa_cons
        (pe_lc (own := [("name", 2)]) (g := gName 2) rfl scIs.nd (pi_list (pv 1)) (blkOk_by (N := nIs) (sc := defScope sIs) (by decide +kernel)) (fun _ _ _ _ _ => pg_name (i := 2) scIs.nd rfl (Or.inl rfl)) (fun _ _ _ _ _ => pts_one (pt_cmpR op_ne (pv 2) pe_str (nomark _)))
          (fun _ _ _ _ _ => pe_tup (pa_cons (pv 2) (pa_cons pe_bl pa_nil)))) pa_nil)) pa_nil)) pe_int (nomark _))))), ?_⟩
    refine ⟨len_small (by simp), fun fl nf => ?_⟩
    have S1 : Same H (upd H fl (.lst [])) := up1 nf
    refine ⟨_, rfl, _, rfl, v, d, 1, fl, [], H, rfl, S1, nf, hD, hw, hd, upd_same, by simp, fun H2 B2 hf2 => ⟨_, rfl, ?_⟩⟩
    have S2 : Same H H2 := B2.same S1 nf
    have hsp := is_spec d
    cases e1 : (look 1 d []).1 with
    | false =>
      rw [e1, Bool.false_and] at hsp
      refine iT rfl ?_
      rw [← hsp]
      exact h H2 S2
    | true =>
      refine iF Bool.false_ne_true ?_
      rw [e1, Bool.true_and] at hsp
      rw [(look_wf 1 d [] e1).2, List.nil_append] at hf2
      refine ⟨_, rfl, fl, _, rfl, .inl (.inl (.inl hf2)), _, _, rfl, rfl, _, rfl, ?_⟩
      rw [List.length_map, show ((60 : Int)) = ((60 : Nat) : Int) from rfl, dgt]
      by_cases e2 : 60 < (pre d).length
      · refine iT (decide_eq_true e2) ?_
        rw [decide_eq_false (show ¬ (pre d).length ≤ 60 by omega), Bool.false_and] at hsp
        rw [← hsp]
        exact h H2 S2
      refine iF (by rw [decide_eq_false e2]; exact Bool.false_ne_true) ?_
      rw [decide_eq_true (show (pre d).length ≤ 60 by omega), Bool.true_and] at hsp
      refine ⟨_, rfl, fl, rfl, ⟨_, .inl (.inl hf2)⟩, fun D nD => ?_⟩
      have nDf : D ≠ fl := fun e => by rw [e, hf2] at nD; cases nD
      refine lc_list (K := K) (a := fl) (xs := (pre d).map V.str) (fun i Hc => Same H2 Hc ∧ ∃ ps : List Addr, Hc D = some (.lst (ps.map V.ref)) ∧ ps.length ≤ i ∧ Paired (fun p kv => SqT K Hc p [kV kv.1, kv.2]) ps ((((pre d).take i).filter noE).map nkv)) ?_ (fun i Hc _ ⟨s, _⟩ => .inl (.inl (s _ _ hf2))) ?_ ?_
      · exact ⟨up1 nD, [], upd_same, Nat.le_refl _, .nil⟩
      · rintro i x Hc hi ⟨Sc, ps, Lc, hps, hP⟩
        refine ⟨rfl, ?_⟩
        obtain ⟨z, hz, rfl⟩ : ∃ z, (pre d)[i]? = some z ∧ V.str z = x := by
          rw [List.getElem?_map] at hi
          cases hq : (pre d)[i]? with
          | none => rw [hq] at hi; cases hi
          | some z =>
            rw [hq] at hi
            exact ⟨z, rfl, Option.some.inj hi⟩
        have hil : i < (pre d).length := (List.getElem?_eq_some_iff.mp hz).1
        have et : (pre d).take (i + 1) = (pre d).take i ++ [z] := by rw [List.take_add_one, hz]; rfl
        refine ⟨_, rfl, rfl, _, rfl, ?_⟩
        show if noE z = true then _ else _
        cases en : noE z with
        | true =>
          refine iT rfl ?_
          refine ⟨_, rfl, len_small (by simp), fun t nt => ?_⟩
          have U := up1 (o := .tup [V.str z, V.bl true]) nt
          have LU := U _ _ Lc
          refine ⟨_, LU, small1000 (by rw [List.length_map]; omega), same_at (Sc.trans U) nD, ps ++ [t], ?_, by rw [List.length_append]; simp; omega, ?_⟩
          · rw [upd_same, List.map_append]; rfl
          · rw [et, List.filter_append, List.map_append]
            have e1 : ([z].filter noE).map nkv = [nkv z] := by simp [en]
            rw [e1]
            refine pairSnoc (R := fun (p : Addr) (kv : Key × V) => SqT K (upd (upd Hc t (.tup [V.str z, V.bl true])) D (.lst (ps.map V.ref ++ [V.ref t]))) p [kV kv.1, kv.2]) (a := t) (b := nkv z) (seqU LU (.inl (.inl upd_same))) (L2.Paired.mapP (F := fun (p : Addr) (kv : Key × V) => SqT K Hc p [kV kv.1, kv.2]) (G := fun (p : Addr) (kv : Key × V) => SqT K (upd (upd Hc t (.tup [V.str z, V.bl true])) D (.lst (ps.map V.ref ++ [V.ref t]))) p [kV kv.1, kv.2]) hP fun p kv q => seqU LU (seqT U q))
        | false =>
          refine iF Bool.false_ne_true ?_
          refine ⟨Sc, ps, Lc, by omega, ?_⟩
          rw [et, List.filter_append]
          have e1 : [z].filter noE = [] := by simp [en]
          rw [e1, List.append_nil]
          exact hP
      · rintro Hc ⟨Sc, ps, Lc, hps, hP⟩
        rw [List.length_map, List.take_length] at hP
        refine ⟨D, ps, _, rfl, .inl (.inl Lc), hP, fun p np => ⟨p, _, rfl, upd_same, _, _, rfl, rfl, ?_⟩⟩
        have em : (mergeK [] (((pre d).filter noE).map nkv)).length = (dstn d).length := by
          have q := merge_nkv ((pre d).filter noE) []
          rw [show (([] : List Str).map nkv) = [] from rfl] at q
          rw [q, List.length_map]
          rfl
        show Q (.bl (decide (((mergeK [] (((pre d).filter noE).map nkv)).length : Int) ≤ 6))) _
        rw [em]
        have e6 : decide (((dstn d).length : Int) ≤ 6) = decide ((dstn d).length ≤ 6) := by
          by_cases q : (dstn d).length ≤ 6
          · rw [decide_eq_true q, decide_eq_true (by omega)]
          · rw [decide_eq_false q, decide_eq_false (by omega)]
        rw [e6, ← hsp]
        exact h _ (S2.trans (Sc.trans (up1 np)))
end
end L50
namespace L50
open PySem PySem.Spec PyProof.Rows L2 L54
def ten : List Str := ["a", "ends", "skipb", "do", "seq", "or", "rep", "gen", "starts", "longname"]
def cutS' (zs : List Str) (lo hi : Option Int) : List Str := (zs.drop (HT.sIx zs.length 0 lo)).take (HT.sIx zs.length zs.length hi - HT.sIx zs.length 0 lo)
theorem cut_map (zs : List Str) (lo hi : Option Int) : cutV (zs.map V.str) lo hi = (cutS' zs lo hi).map V.str := by
  unfold cutV cutS'
  rw [List.length_map, List.map_take, List.map_drop]
theorem cut_mem {zs : List Str} {lo hi : Option Int} {x : Str} (h : x ∈ cutS' zs lo hi) : x ∈ zs := List.mem_of_mem_drop (List.mem_of_mem_take h)
theorem cut_from {zs : List Str} {n : Nat} (h : n ≤ zs.length) : (cutS' zs (some (n : Int)) none).length = zs.length - n := by
  unfold cutS'
  rw [HT.sIx_nat, HT.sIx_none, List.length_take, List.length_drop]
  omega
theorem cut_to {zs : List Str} {n : Nat} (h : n ≤ zs.length) : (cutS' zs none (some (n : Int))).length = n := by
  unfold cutS'
  rw [HT.sIx_nat, HT.sIx_none, List.length_take, List.length_drop]
  omega
section
variable {P : Program} {w : World} {K : PySem.W.Frag} {mg : Str → Option Value} {base : Heap}
/-- the digits that are left: at p, one number of the right size -/
def Dg (H : Hp) (p : Addr) : Prop := ∃ n : Int, H p = some (.lst [.int n]) ∧ 0 ≤ n ∧ n < big
def spWords : Sp := fun vs H Q _ => ∃ (p : Addr) (m : Nat), vs = [.ref p, .int (m : Nat)] ∧ Dg H p ∧ 1 ≤ m ∧ m ≤ 10 ∧
  ∀ (q : Addr) (H' : Hp) (zs : List Str), SameB p H H' → Dg H' p → H' q = some (.lst (zs.map V.str)) → zs.length = m → (∀ z ∈ zs, z ∈ ten) → Q (.ref q) H'
abbrev nWs : List Str := ["own", "many", "some", "at"]
theorem scWs : FnScope nWs ["own", "many"] (defScope sWords) := ⟨rfl, rfl, rfl, by decide +kernel, rfl, by decide +kernel, by decide +kernel⟩
theorem ok_words {f fT : Addr} {fd fdT : FuncData} (F : Fun K "_law_words" "_law_words" sWords f fd) (T : Bl mg) (FT : Fun K "_law_take" "_law_take" sTake fT fdT) (bT : Binds K fdT ["own", "options"] []) (mT : mg "_law_take" = some (.ref fT)) :
    FnOk P w K mg base CX0 2 f fd ["own", "many"] spWords := by
  have GT : FnOk P w K mg base CX0 1 fT fdT ["own", "options"] spTake := ok_take FT T
  refine F.ok scWs (fun vs H Q E h => ?_) (fun cdv A outer s H vs Q E hr h => ?_)
  · obtain ⟨p, m, rfl, _⟩ := h
    rfl
  · obtain ⟨p, m, rfl, ⟨n, hp, n0, n1⟩, m1, m2, h⟩ := h
    refine ⟨_, pss_cons (ps_set (i := 2) scWs.nd rfl (.inl rfl) (pe_lst (pa_cons pe_str (pa_cons pe_str (pa_cons pe_str (pa_cons pe_str (pa_cons pe_str (pa_cons pe_str (pa_cons pe_str (pa_cons pe_str (pa_cons pe_str (pa_cons pe_str pa_nil))))))))))))
      (pss_cons (ps_set (i := 3) scWs.nd rfl (.inl rfl) (pe_call GT hr rfl mT FT.kp bT .nil pass0 (pa_cons (pv 0) (pa_cons pe_int pa_nil))))
      (pss_one (ps_ret (pe_slice sl_list (pe_op op_cat (pe_slice sl_list (pv 2) (po_some (pv 3)) po_none) (pe_slice sl_list (pv 2) po_none (po_some (pv 3)))) po_none (po_some (pv 1)))))), ?_⟩
    refine ⟨len_small (by simp), fun l nl => ?_⟩
    have nlp : l ≠ p := fun e => by rw [e, hp] at nl; cases nl
    refine ⟨_, rfl, p, n, 10, rfl, (by rw [upd_ne (Ne.symm nlp)]; exact hp), n0, n1, by decide, by decide, fun d n' d0 d1 n0' n1' => ?_⟩
    have hL : (upd (upd H l (.lst [V.str "a", V.str "ends", V.str "skipb", V.str "do", V.str "seq", V.str "or", V.str "rep", V.str "gen", V.str "starts", V.str "longname"])) p (.lst [.int n'])) l = some (.lst (ten.map V.str)) := by rw [upd_ne nlp, upd_same]; rfl
    have hP : (upd (upd H l (.lst [V.str "a", V.str "ends", V.str "skipb", V.str "do", V.str "seq", V.str "or", V.str "rep", V.str "gen", V.str "starts", V.str "longname"])) p (.lst [.int n'])) p = some (.lst [.int n']) := upd_same
    have hB : SameB p H (upd (upd H l (.lst [V.str "a", V.str "ends", V.str "skipb", V.str "do", V.str "seq", V.str "or", V.str "rep", V.str "gen", V.str "starts", V.str "longname"])) p (.lst [.int n'])) := (SameB.of (up1 nl)).trans SameB.at
    generalize upd (upd H l (.lst [V.str "a", V.str "ends", V.str "skipb", V.str "do", V.str "seq", V.str "or", V.str "rep", V.str "gen", V.str "starts", V.str "longname"])) p (.lst [.int n']) = H1 at *
    obtain ⟨j, rfl⟩ : ∃ j : Nat, d = (j : Int) := ⟨d.toNat, by omega⟩
    refine ⟨_, rfl, _, rfl, _, rfl, l, _, rfl, .inl (.inl hL), fun q1 nq1 => ?_⟩
    rw [cut_map]
    have U1 := up1 (o := .lst ((cutS' ten (some (j : Int)) none).map V.str)) nq1
    refine ⟨_, rfl, _, rfl, _, rfl, l, _, rfl, .inl (.inl (U1 _ _ hL)), fun q2 nq2 => ?_⟩
    rw [cut_map]
    have U2 := up1 (o := .lst ((cutS' ten none (some (j : Int))).map V.str)) nq2
    have A1 := U2 _ _ (upd_same (H := H1) (a := q1) (o := .lst ((cutS' ten (some (j : Int)) none).map V.str)))
    have l1 : (cutS' ten (some (j : Int)) none).length = 10 - j := cut_from (zs := ten) (show j ≤ 10 by omega)
    have l2 : (cutS' ten none (some (j : Int))).length = j := cut_to (zs := ten) (show j ≤ 10 by omega)
    refine ⟨_, _, _, _, rfl, rfl, A1, upd_same, len_small (by rw [List.length_map, List.length_map, l1, l2]; omega), fun r nr => ?_⟩
    have U3 := up1 (o := .lst ((cutS' ten (some (j : Int)) none).map V.str ++ (cutS' ten none (some (j : Int))).map V.str)) nr
    refine ⟨_, rfl, _, rfl, r, _, rfl, .inl (.inl upd_same), fun q3 nq3 => ?_⟩
    rw [← List.map_append, cut_map]
    rw [← List.map_append] at U3
    have U4 := up1 (o := .lst ((cutS' (cutS' ten (some (j : Int)) none ++ cutS' ten none (some (j : Int))) none (some (m : Int))).map V.str)) nq3
    rw [← List.map_append] at U4
    have U := U1.trans (U2.trans (U3.trans U4))
    refine h q3 _ _ (hB.trans (SameB.of U)) ⟨n', U _ _ hP, n0', n1'⟩ upd_same (cut_to (by rw [List.length_append, l1, l2]; omega)) fun z hz => ?_
    rcases List.mem_append.mp (cut_mem hz) with a | a
    · exact cut_mem a
    · exact cut_mem a
end
end L50
namespace L50
open PySem PySem.Spec PyProof.Rows L2 L54
mutual
theorem dvB {K : PySem.W.Frag} {H H' : Hp} {p : Addr} {ys : List V} (s : SameB p H H') (hp : H p = some (.lst ys)) : ∀ (d : PyData) (v : V), noList d = true → d.hasDict = false → Dv K H v d → Dv K H' v d
  | .none, _, _, _, h => by cases h; exact .non
  | .bool _, _, _, _, h => by cases h; exact .bl _
  | .int _, _, _, _, h => by cases h; exact .int _
  | .str _, _, _, _, h => by cases h; exact .str _
  | .list ds, _, n, _, h => by simp [noList] at n
  | .tuple ds, _, n, m, h => by
    cases h with
    | @tup a xs _ h1 h2 =>
      refine .tup ?_ (dvBAll s hp ds _ (by simpa [noList] using n) (by simpa [PyData.hasDict] using m) h2)
      rcases h1 with (h1 | ⟨o, h1⟩) | h1
      · exact .inl (.inl (s _ _ (fun e => by rw [e, hp] at h1; cases h1) h1))
      · exact .inl (.inr ⟨o, s _ _ (fun e => by rw [e, hp] at h1; cases h1) h1⟩)
      · exact .inr h1
  | .dict _, _, _, m, h => by simp [PyData.hasDict] at m
theorem dvBAll {K : PySem.W.Frag} {H H' : Hp} {p : Addr} {ys : List V} (s : SameB p H H') (hp : H p = some (.lst ys)) : ∀ (ds : List PyData) (vs : List V), noListAll ds = true → PyData.hasDictAll ds = false → DvAll K H vs ds → DvAll K H' vs ds
  | [], _, _, _, h => by cases h; exact .nil
  | d :: ds, _, n, m, h => by
    cases h with
    | cons h1 h2 =>
      simp only [noListAll, Bool.and_eq_true] at n
      simp only [PyData.hasDictAll, Bool.or_eq_false_iff] at m
      exact .cons (dvB s hp d _ n.1 m.1 h1) (dvBAll s hp ds _ n.2 m.2 h2)
end
def cM : Nat → Nat
  | 0 => 1
  | m + 1 => 1 + 3 * cM m
def wM : Nat → Nat
  | 0 => 12
  | m + 1 => 4 + 3 * (wM m + 1)
/-- a program as the law builds it, so deep at most, over the names zs -/
structure Pgm (zs : List Str) (m : Nat) (d : PyData) : Prop where
  wf : ∀ k, k + m ≤ 40 → wf k d = true
  cn : (pre d).length ≤ cM m
  ac : ∀ x, act d x → x ∈ zs
  wt : d.weight ≤ wM m
  dp : d.depth ≤ m + 1
  sh : d.showable = true
  lv : d.leavesShort 2000 = true
  nl : noList d = true
  hd : d.hasDict = false
theorem cM_up : ∀ m, cM m ≤ cM (m + 1) := fun m => by show cM m ≤ 1 + 3 * cM m; omega
theorem wM_up : ∀ m, wM m ≤ wM (m + 1) := fun m => by show wM m ≤ 4 + 3 * (wM m + 1); omega
theorem wM_pos : ∀ m, 12 ≤ wM m
  | 0 => Nat.le_refl _
  | m + 1 => Nat.le_trans (wM_pos m) (wM_up m)
theorem cM_pos : ∀ m, 1 ≤ cM m
  | 0 => Nat.le_refl _
  | m + 1 => Nat.le_trans (cM_pos m) (cM_up m)
theorem pgm_skip (zs : List Str) (m : Nat) : Pgm zs m (.tuple [.str "skip"]) := by
  refine ⟨fun k hk => ?_, ?_, fun x hx => ?_, ?_, ?_, by decide +kernel, by decide +kernel, by decide +kernel, by decide +kernel⟩
  · rw [L50.wf, wf2, wfAll, decide_eq_true (show k ≤ 40 by omega)]
    decide +kernel
  · have e : (pre (.tuple [.str "skip"])).length = 1 := by decide +kernel
    rw [e]
    exact cM_pos m
  · have e : pre (.tuple [.str "skip"]) = [("" : Str)] := by decide +kernel
    unfold act at hx
    rw [e] at hx
    exact absurd (List.mem_singleton.mp hx.1) hx.2
  · have e : (PyData.tuple [.str "skip"]).weight = 5 := by decide +kernel
    rw [e]
    have := wM_pos m
    omega
  · have e : (PyData.tuple [.str "skip"]).depth = 1 := by decide +kernel
    rw [e]
    omega
theorem ten_ok : ∀ z ∈ ten, isName (.str z) = true ∧ z.length ≤ 8 ∧ (PyData.tuple [.str "do", .str z]).leavesShort 2000 = true := by decide +kernel
theorem pgm_do {zs : List Str} {m : Nat} {z : Str} (hz : z ∈ zs) (ht : z ∈ ten) : Pgm zs m (.tuple [.str "do", .str z]) := by
  obtain ⟨n1, n2, n3⟩ := ten_ok z ht
  have hd : isStr (.str "do") "do" = true := by decide +kernel
  have ep : pre (.tuple [.str "do", .str z]) = [z] := by rw [pre, pre2, hd]; rfl
  refine ⟨fun k hk => ?_, ?_, fun x hx => ?_, ?_, ?_, ?_, n3, ?_, ?_⟩
  · rw [L50.wf, wf2, decide_eq_true (show k ≤ 40 by omega), partOf_cases, hd]
    show (true && isName (.str z) && _) = true
    rw [n1]
    rfl
  · rw [ep]
    exact cM_pos m
  · unfold act at hx
    rw [ep] at hx
    rw [List.mem_singleton.mp hx.1]
    exact hz
  · have e : (PyData.tuple [.str "do", .str z]).weight = 2 + 1 + (z.length + 1 + 0) := by
      rw [PyData.weight, PyData.weightAll, PyData.weightAll, PyData.weightAll, PyData.weight, PyData.weight]
      rfl
    rw [e]
    have := wM_pos m
    omega
  · rw [PyData.depth, PyData.depthAll, PyData.depthAll, PyData.depthAll, PyData.depth, PyData.depth]
    omega
  · simp [PyData.showable, PyData.showableAll]
  · simp [noList, noListAll]
  · simp [PyData.hasDict, PyData.hasDictAll]
/-- a program over programs -/
theorem pgm_over {zs : List Str} {m : Nat} {h : Str} {r : List PyData} (hh : h = "rep" ∨ h = "seq" ∨ h = "or") (hp : partOf (.str h) r = true) (hl : r.length ≤ 3) (hr : ∀ d ∈ r, Pgm zs m d) : Pgm zs (m + 1) (.tuple (.str h :: r)) := by
  have hnd : isStr (.str h) "do" = false := by rcases hh with rfl | rfl | rfl <;> decide +kernel
  have hlen : h.length ≤ 3 ∧ (PyData.str h).leavesShort 2000 = true := by rcases hh with rfl | rfl | rfl <;> exact ⟨by decide +kernel, by decide +kernel⟩
  have ep : pre (.tuple (.str h :: r)) = ("" : Str) :: r.flatMap pre := by rw [pre, pre2, hnd, preAll_eq]; rfl
  have ind : ∀ l : List PyData, (∀ d ∈ l, Pgm zs m d) → (l.flatMap pre).length ≤ l.length * cM m ∧ PyData.weightAll l ≤ l.length * (wM m + 1) ∧ PyData.depthAll l ≤ m + 1 ∧ PyData.showableAll l = true ∧ PyData.leavesShortAll 2000 l = true ∧ noListAll l = true ∧ PyData.hasDictAll l = false := by
    intro l
    induction l with
    | nil => exact fun _ => ⟨Nat.zero_le _, Nat.zero_le _, Nat.zero_le _, rfl, rfl, rfl, rfl⟩
    | cons d l ih =>
      intro q
      obtain ⟨a1, a2, a3, a4, a5, a6, a7⟩ := ih fun e he => q e (List.mem_cons_of_mem _ he)
      have b := q d List.mem_cons_self
      have b1 := b.cn
      have b2 := b.wt
      have b3 := b.dp
      refine ⟨?_, ?_, ?_, ?_, ?_, ?_, ?_⟩
      · rw [List.flatMap_cons, List.length_append, List.length_cons, Nat.succ_mul]
        omega
      · rw [PyData.weightAll, List.length_cons, Nat.succ_mul]
        omega
      · rw [PyData.depthAll]
        omega
      · simp [PyData.showableAll, b.sh, a4]
      · simp [PyData.leavesShortAll, b.lv, a5]
      · simp [noListAll, b.nl, a6]
      · simp [PyData.hasDictAll, b.hd, a7]
  obtain ⟨a1, a2, a3, a4, a5, a6, a7⟩ := ind r hr
  have l1 : r.length * cM m ≤ 3 * cM m := Nat.mul_le_mul_right _ hl
  have l2 : r.length * (wM m + 1) ≤ 3 * (wM m + 1) := Nat.mul_le_mul_right _ hl
  refine ⟨fun k hk => ?_, ?_, fun x hx => ?_, ?_, ?_, ?_, ?_, ?_, ?_⟩
  · rw [L50.wf, wf2, decide_eq_true (show k ≤ 40 by omega), hp, wfAll_eq, hnd]
    show (r.all (L50.wf (k + 1))) = true
    rw [List.all_eq_true]
    exact fun d hd => (hr d hd).wf (k + 1) (by omega)
  · rw [ep, List.length_cons]
    show _ ≤ 1 + 3 * cM m
    omega
  · unfold act at hx
    rw [ep] at hx
    rcases List.mem_cons.mp hx.1 with e | e
    · exact absurd e hx.2
    · obtain ⟨d, hd, hxd⟩ := List.mem_flatMap.mp e
      exact (hr d hd).ac x ⟨hxd, hx.2⟩
  · rw [w_tup, PyData.weightAll, PyData.weight]
    have : h.cps.size = h.length := rfl
    show _ ≤ 4 + 3 * (wM m + 1)
    omega
  · rw [PyData.depth, PyData.depthAll, PyData.depth]
    omega
  · simp [PyData.showable, PyData.showableAll, a4]
  · have q := hlen.2
    simp only [PyData.leavesShort, PyData.leavesShortAll, Bool.and_eq_true] at q ⊢
    exact ⟨q, a5⟩
  · simp [noList, noListAll, a6]
  · simp [PyData.hasDict, PyData.hasDictAll, a7]
end L50
namespace L50
open PySem PySem.Spec PyProof.Rows L2 L54
theorem nS3 {c : Bool} {A B : Prop} (a : A) (b : c = false → A → B) : if (c = true) then A else B := by cases c with
  | true => exact iT rfl a
  | false => exact iF Bool.false_ne_true (b rfl a)
theorem part_seq {ds : List PyData} (h : 2 ≤ ds.length) : partOf (.str "seq") ds = true := by
  rw [partOf_cases, show isStr (.str "seq") "do" = false by decide +kernel, show isStr (.str "seq") "skip" = false by decide +kernel, show isStr (.str "seq") "rep" = false by decide +kernel, show isStr (.str "seq") "seq" = true by decide +kernel]
  simp [h]
theorem part_or {ds : List PyData} (h : 2 ≤ ds.length) : partOf (.str "or") ds = true := by
  rw [partOf_cases, show isStr (.str "or") "do" = false by decide +kernel, show isStr (.str "or") "skip" = false by decide +kernel, show isStr (.str "or") "rep" = false by decide +kernel, show isStr (.str "or") "or" = true by decide +kernel]
  simp [h]
theorem part_rep {d : PyData} : partOf (.str "rep") [d] = true := by
  rw [partOf_cases, show isStr (.str "rep") "do" = false by decide +kernel, show isStr (.str "rep") "skip" = false by decide +kernel, show isStr (.str "rep") "rep" = true by decide +kernel]
  rfl
section
variable {P : Program} {w : World} {K : PySem.W.Frag} {mg : Str → Option Value} {base : Heap}
def spPg (K : PySem.W.Frag) (m : Nat) : Sp := fun vs H Q _ => ∃ (p q : Addr) (zs : List Str), vs = [.ref p, .ref q, .int (m : Nat)] ∧ Dg H p ∧ H q = some (.lst (zs.map V.str)) ∧ q ≠ p ∧ 1 ≤ zs.length ∧ zs.length ≤ 10 ∧ (∀ z ∈ zs, z ∈ ten) ∧
  ∀ (v : V) (d : PyData) (H' : Hp), SameB p H H' → Dg H' p → Dv K H' v d → Pgm zs m d → Q v H'
abbrev nPg : List Str := ["own", "called", "deep", "pick", "pieces", "k"]
theorem scPg : FnScope nPg ["own", "called", "deep"] (defScope sProgram) := ⟨rfl, rfl, rfl, by decide +kernel, rfl, by decide +kernel, by decide +kernel⟩
theorem step_pg {f fT : Addr} {fd fdT : FuncData} {m j : Nat} {sp : Sp} (F : Fun K "_law_program" "_law_program" sProgram f fd) (T : Bl mg) (bF : Binds K fd ["own", "called", "deep"] []) (mF : mg "_law_program" = some (.ref f))
    (FT : Fun K "_law_take" "_law_take" sTake fT fdT) (bT : Binds K fdT ["own", "options"] []) (mT : mg "_law_take" = some (.ref fT)) (hj : 1 ≤ j) (GL : FnOk P w K mg base CX0 j f fd ["own", "called", "deep"] sp)
    (hsp : ∀ vs H Q, (∃ m', m = m' + 1 ∧ spPg K m' vs H Q E0) → sp vs H Q E0) : FnOk P w K mg base CX0 (j + 1) f fd ["own", "called", "deep"] (spPg K m) := by
  have GT : FnOk P w K mg base CX0 1 fT fdT ["own", "options"] spTake := ok_take FT T
  refine F.ok scPg (fun vs H Q E h => ?_) (fun cdv A outer s H vs Q E hr h => ?_)
  · obtain ⟨p, q, zs, rfl, _⟩ := h
    rfl
  · obtain ⟨p, q, zs, rfl, ⟨n, hp, n0, n1⟩, hq, nqp, z1, z2, zt, h⟩ := h
    have hrT := hr.mono hj
    refine ⟨_, pss_cons (ps_set (i := 3) scPg.nd rfl (.inl rfl) (pe_call GT hrT rfl mT FT.kp bT .nil pass0 (pa_cons (pv 0) (pa_cons pe_int pa_nil))))
      (pss_cons (ps_if (PW.pt (pw_or (pt_cmpR op_eq (pv 2) pe_int (nomark _)) (pw_or1 (pt_cmpR op_lt (pv 3) pe_int (nomark _))))) (pss_one (ps_ret (pe_ifExp (pt_cmpR op_eq (pe_call GT hrT rfl mT FT.kp bT .nil pass0 (pa_cons (pv 0) (pa_cons pe_int pa_nil))) pe_int (nomark _)) (pe_tup (pa_cons pe_str pa_nil))
          (pe_tup (pa_cons pe_str (pa_cons (pe_ix ix_list (pv 1) (pe_call GT hrT rfl mT FT.kp bT .nil pass0 (pa_cons (pv 0) (pa_cons (pe_callB call_len_seq rfl T.len b_len (pa_cons (pv 1) pa_nil)) pa_nil))) (fun _ _ => rfl)) pa_nil)))))) pss_nil)
      (pss_cons (ps_if (pt_cmpR op_eq (pv 3) pe_int (nomark _)) (pss_one (ps_ret (pe_tup (pa_cons pe_str (pa_cons (pe_call GL hr rfl mF F.kp bF .nil pass0 (pa_cons (pv 0) (pa_cons (pv 1) (pa_cons (pe_op op_sub (pv 2) pe_int) pa_nil)))) pa_nil))))) pss_nil)
      (pss_cons (ps_setLc (i := 4) (own := [("k", 5)]) (g := gName 5) (tt := tYes) rfl scPg.nd rfl rfl (sw_true rfl rfl rfl (by decide +kernel)) (pi_range1 rfl T.range (pa_cons (pe_op op_add pe_int (pe_op op_fdiv (pe_call GT hrT rfl mT FT.kp bT .nil pass0 (pa_cons (pv 0) (pa_cons pe_int pa_nil))) pe_int)) pa_nil))
          (blkOk_by (N := nPg) (sc := defScope sProgram) (by decide +kernel)) (fun _ _ _ _ _ => pg_name (i := 5) scPg.nd rfl (Or.inl rfl)) (fun _ _ _ _ _ => pts_nil)
          (fun _ _ _ _ _ => pe_call GL hr rfl mF F.kp bF .nil pass0 (pa_cons (pv 0) (pa_cons (pv 1) (pa_cons (pe_op op_sub (pv 2) pe_int) pa_nil)))))
      (pss_one (ps_ret (pe_op op_catT (pe_tup (pa_cons (pe_ifExp (pt_cmpR op_lt (pv 3) pe_int (nomark _)) pe_str pe_str) pa_nil)) (pe_callTy call_tuple_of rfl T.tup b_tup (pa_cons (pv 4) pa_nil)))))))), ?_⟩
    refine ⟨_, rfl, p, n, 10, rfl, hp, n0, n1, by decide, by decide, fun pk n' d0 d1 n0' n1' => ?_⟩
    have hp1 : (upd H p (.lst [.int n'])) p = some (.lst [.int n']) := upd_same
    have hq1 : (upd H p (.lst [.int n'])) q = some (.lst (zs.map V.str)) := by rw [upd_ne nqp]; exact hq
    have B1 : SameB p H (upd H p (.lst [.int n'])) := SameB.at
    clear hp hq n0 n1 n
    generalize upd H p (.lst [.int n']) = H1 at *
    refine ⟨_, rfl, rfl, _, rfl, ?_⟩
    refine nS3 ?_ (fun c1 hA => ?_)
    · refine ⟨_, rfl, p, n', 6, rfl, hp1, n0', n1', by decide, by decide, fun d2 n2 e0 e1 n20 n21 => ⟨rfl, _, rfl, ?_⟩⟩
      have hp2 : (upd H1 p (.lst [.int n2])) p = some (.lst [.int n2]) := upd_same
      have hq2 : (upd H1 p (.lst [.int n2])) q = some (.lst (zs.map V.str)) := by rw [upd_ne nqp]; exact hq1
      have B2 : SameB p H (upd H1 p (.lst [.int n2])) := B1.trans SameB.at
      generalize upd H1 p (.lst [.int n2]) = H2 at *
      refine nS (fun c => ?_) (fun c => ?_)
      · refine ⟨len_small (by simp), fun t nt => ?_⟩
        have U := up1 (o := .tup [V.str "skip"]) nt
        exact h _ _ _ (B2.trans (SameB.of U)) ⟨n2, U _ _ hp2, n20, n21⟩ (.tup (.inl (.inl upd_same)) (.cons (.str _) .nil)) (pgm_skip zs m)
      · refine ⟨_, rfl, _, rfl, _, rfl, q, _, rfl, .inl (.inl (.inl hq2)), p, n2, _, rfl, hp2, n20, n21, by rw [List.length_map]; omega, by rw [List.length_map]; omega, fun d3 n3 f0 f1 n30 n31 => ?_⟩
        have hp3 : (upd H2 p (.lst [.int n3])) p = some (.lst [.int n3]) := upd_same
        have hq3 : (upd H2 p (.lst [.int n3])) q = some (.lst (zs.map V.str)) := by rw [upd_ne nqp]; exact hq2
        have B3 : SameB p H (upd H2 p (.lst [.int n3])) := B2.trans SameB.at
        generalize upd H2 p (.lst [.int n3]) = H3 at *
        rw [List.length_map] at f1
        obtain ⟨i, rfl⟩ : ∃ i : Nat, d3 = (i : Int) := ⟨d3.toNat, by omega⟩
        have hi : i < zs.length := by omega
        refine ⟨q, _, _, V.str zs[i], rfl, rfl, .inl (.inl hq3), atI_nat (by simp [hi]), ?_⟩
        refine ⟨len_small (by simp), fun t nt => ?_⟩
        have U := up1 (o := .tup [V.str "do", V.str zs[i]]) nt
        have hz : zs[i] ∈ zs := List.getElem_mem hi
        exact h _ _ _ (B3.trans (SameB.of U)) ⟨n3, U _ _ hp3, n30, n31⟩ (.tup (.inl (.inl upd_same)) (.cons (.str _) (.cons (.str _) .nil))) (pgm_do hz (zt _ hz))
    refine ⟨_, rfl, _, _, rfl, rfl, _, rfl, nS (fun _ => hA) (fun c2 => ?_)⟩
    clear hA
    have m0 : m ≠ 0 := fun e => by subst e; revert c1; decide
    obtain ⟨m', rfl⟩ : ∃ m', m = m' + 1 := ⟨m - 1, by omega⟩
    have args : [V.ref p, V.ref q, V.int (((m' + 1 : Nat) : Int) - 1)] = [V.ref p, V.ref q, V.int ((m' : Nat) : Int)] := by
      rw [show (((m' + 1 : Nat) : Int) - 1) = ((m' : Nat) : Int) by omega]
    refine ⟨_, rfl, rfl, _, rfl, ?_⟩
    refine nS (fun c3 => ?_) (fun c3 => ?_)
    · refine ⟨_, rfl, _, rfl, _, rfl, _, _, rfl, rfl, hsp _ _ _ ⟨m', rfl, p, q, zs, args, ⟨n', hp1, n0', n1'⟩, hq1, nqp, z1, z2, zt, fun v d H2 B2 D2 hd2 pg => ?_⟩⟩
      refine ⟨len_small (by simp), fun t nt => ?_⟩
      have U := up1 (o := .tup [V.str "rep", v]) nt
      obtain ⟨n2, hp2, a2, b2⟩ := D2
      exact h _ _ _ (B1.trans (B2.trans (SameB.of U))) ⟨n2, U _ _ hp2, a2, b2⟩ (.tup (.inl (.inl upd_same)) (.cons (.str _) (.cons (hd2.mono U) .nil))) (pgm_over (.inl rfl) part_rep (by simp) fun e he => by rw [List.mem_singleton.mp he]; exact pg)
    · refine ⟨_, rfl, p, n', 3, rfl, hp1, n0', n1', by decide, by decide, fun d3 n3 f0 f1 n30 n31 => ?_⟩
      have hp3 : (upd H1 p (.lst [.int n3])) p = some (.lst [.int n3]) := upd_same
      have hq3 : (upd H1 p (.lst [.int n3])) q = some (.lst (zs.map V.str)) := by rw [upd_ne nqp]; exact hq1
      have B3 : SameB p H (upd H1 p (.lst [.int n3])) := B1.trans SameB.at
      generalize upd H1 p (.lst [.int n3]) = H3 at *
      have hc : 2 ≤ (2 + d3 / 2).toNat ∧ (2 + d3 / 2).toNat ≤ 3 := by omega
      refine ⟨_, _, rfl, rfl, ⟨by decide, by decide⟩, _, _, rfl, rfl, _, rfl, by omega, by omega, fun D nD => ?_⟩
      generalize (2 + d3 / 2).toNat = cn at *
      have nDp : D ≠ p := fun e => by rw [e, hp3] at nD; cases nD
      have nDq : D ≠ q := fun e => by rw [e, hq3] at nD; cases nD
      refine lc_range (n := cn) (fun i Hc => ∃ (vs : List V) (ds : List PyData), SameB p H3 Hc ∧ Dg Hc p ∧ Hc D = some (.lst vs) ∧ DvAll K Hc vs ds ∧ vs.length = i ∧ ∀ d ∈ ds, Pgm zs m' d) ?_ ?_ ?_
      · exact ⟨[], [], SameB.of (up1 nD), ⟨n3, by rw [upd_ne (Ne.symm nDp)]; exact hp3, n30, n31⟩, upd_same, .nil, rfl, fun d hd => by cases hd⟩
      · rintro i Hc hi ⟨vs, ds, Bc, Dc, Lc, Ac, hl, hds⟩
        refine ⟨rfl, ?_⟩
        have hqc := Bc _ _ nqp hq3
        refine ⟨_, rfl, _, rfl, _, rfl, _, _, rfl, rfl, hsp _ _ _ ⟨m', rfl, p, q, zs, args, Dc, hqc, nqp, z1, z2, zt, fun v d H' B' D' hd' pg => ?_⟩⟩
        obtain ⟨nc, hpc, _, _⟩ := Dc
        have nl : noListAll ds = true ∧ PyData.hasDictAll ds = false := by
          clear Ac
          induction ds with
          | nil => exact ⟨rfl, rfl⟩
          | cons e es ih =>
            obtain ⟨i1, i2⟩ := ih fun x hx => hds x (List.mem_cons_of_mem _ hx)
            have pe := hds e List.mem_cons_self
            exact ⟨by simp [noListAll, pe.nl, i1], by simp [PyData.hasDictAll, pe.hd, i2]⟩
        have A' := dvBAll B' hpc ds vs nl.1 nl.2 Ac
        have L' := B' _ _ nDp Lc
        obtain ⟨nd, hpd, a2, b2⟩ := D'
        have gone : ∀ (x : V) (e : PyData), noList e = true → e.hasDict = false → Dv K H' x e → Dv K (upd H' D (.lst (vs ++ [v]))) x e := fun x e n1 n2 hx => dvB (p := D) SameB.at L' e x n1 n2 hx
        refine ⟨vs, L', small1000 (by omega), vs ++ [v], ds ++ [d], (Bc.trans B').new nD, ⟨nd, by rw [upd_ne (Ne.symm nDp)]; exact hpd, a2, b2⟩, upd_same, ?_, by rw [List.length_append, hl]; rfl, fun e he => ?_⟩
        · exact (dvBAll (p := D) SameB.at L' ds vs nl.1 nl.2 A').app (.cons (gone v d pg.nl pg.hd hd') .nil)
        · rcases List.mem_append.mp he with he | he
          · exact hds e he
          · rw [List.mem_singleton.mp he]
            exact pg
      · rintro Hc ⟨vs, ds, Bc, Dc, Lc, Ac, hl, hds⟩
        have hld := Ac.len
        have hvs : vs ≠ [] := fun e => by rw [e] at hl; simp at hl; omega
        obtain ⟨nc, hpc, a2, b2⟩ := Dc
        refine ⟨_, rfl, _, _, rfl, rfl, _, rfl, ?_⟩
        refine nS (fun c => ?_) (fun c => ?_)
        · refine ⟨len_small (by simp), fun t1 nt1 => ?_⟩
          have U1 := up1 (o := .tup [V.str "seq"]) nt1
          refine ⟨_, rfl, D, vs, rfl, .inl ⟨.inl (.inl (U1 _ _ Lc)), fun t2 nt2 => ?_⟩⟩
          have U2 := up1 (o := .tup vs) nt2
          have T1 := U2 _ _ (upd_same (H := Hc) (a := t1) (o := .tup [V.str "seq"]))
          refine ⟨t1, t2, _, _, rfl, rfl, .inl (.inl T1), .inl (.inl upd_same), by simp, len_small (by simp; omega), fun e => absurd e hvs, fun _ t3 nt3 => ?_⟩
          have U3 := up1 (o := .tup ([V.str "seq"] ++ vs)) nt3
          have U := U1.trans (U2.trans U3)
          exact h _ _ _ (B3.trans (Bc.trans (SameB.of U))) ⟨nc, U _ _ hpc, a2, b2⟩ (.tup (ds := .str "seq" :: ds) (.inl (.inl upd_same)) (.cons (.str _) (Ac.mono U))) (pgm_over (.inr (.inl rfl)) (part_seq (by omega)) (by omega) hds)
        · refine ⟨len_small (by simp), fun t1 nt1 => ?_⟩
          have U1 := up1 (o := .tup [V.str "or"]) nt1
          refine ⟨_, rfl, D, vs, rfl, .inl ⟨.inl (.inl (U1 _ _ Lc)), fun t2 nt2 => ?_⟩⟩
          have U2 := up1 (o := .tup vs) nt2
          have T1 := U2 _ _ (upd_same (H := Hc) (a := t1) (o := .tup [V.str "or"]))
          refine ⟨t1, t2, _, _, rfl, rfl, .inl (.inl T1), .inl (.inl upd_same), by simp, len_small (by simp; omega), fun e => absurd e hvs, fun _ t3 nt3 => ?_⟩
          have U3 := up1 (o := .tup ([V.str "or"] ++ vs)) nt3
          have U := U1.trans (U2.trans U3)
          exact h _ _ _ (B3.trans (Bc.trans (SameB.of U))) ⟨nc, U _ _ hpc, a2, b2⟩ (.tup (ds := .str "or" :: ds) (.inl (.inl upd_same)) (.cons (.str _) (Ac.mono U))) (pgm_over (.inr (.inr rfl)) (part_or (by omega)) (by omega) hds)
theorem ok_pg {f fT : Addr} {fd fdT : FuncData} (F : Fun K "_law_program" "_law_program" sProgram f fd) (T : Bl mg) (bF : Binds K fd ["own", "called", "deep"] []) (mF : mg "_law_program" = some (.ref f))
    (FT : Fun K "_law_take" "_law_take" sTake fT fdT) (bT : Binds K fdT ["own", "options"] []) (mT : mg "_law_take" = some (.ref fT)) : ∀ m : Nat, FnOk P w K mg base CX0 (m + 2) f fd ["own", "called", "deep"] (spPg K m)
  | 0 => step_pg (j := 1) (sp := fun _ _ _ _ => False) F T bF mF FT bT mT (Nat.le_refl _) ⟨fun _ _ _ _ h => h.elim, fun _ _ _ _ _ _ _ _ _ _ _ _ _ h => h.elim⟩ fun _ _ _ ⟨_, e, _⟩ => by cases e
  | m + 1 => step_pg (j := m + 2) F T bF mF FT bT mT (by omega) (ok_pg F T bF mF FT bT mT m) fun _ _ _ ⟨m', e, q⟩ => by cases e; exact q
end
end L50
namespace L50
open PySem PySem.Spec PyProof.Rows L2 L54
theorem b_lst : bootBuiltins "list" = some (.type "list") := by decide +kernel
theorem b_srt : bootBuiltins "sorted" = some (.builtin "sorted") := by decide +kernel
section
variable {P : Program} {w : World} {K : PySem.W.Frag} {mg : Str → Option Value} {base : Heap}
def spInner (K : PySem.W.Frag) : Sp := fun vs H Q _ => ∃ (v : V) (k : PyData) (r : List PyData), vs = [v] ∧ Dv K H v (.tuple (k :: r)) ∧ ∀ (p : Addr) (H' : Hp) (xs : List V), Same H H' → H' p = some (.lst xs) → DvAll K H' xs (kids (.tuple (k :: r))) → Q (.ref p) H'
abbrev nIn : List Str := ["one"]
theorem scIn : FnScope nIn ["one"] (defScope sInner) := ⟨rfl, rfl, rfl, by decide +kernel, rfl, by decide +kernel, by decide +kernel⟩
theorem ok_inner {f : Addr} {fd : FuncData} (F : Fun K "_law_inner" "_law_inner" sInner f fd) (T : Bl mg) : FnOk P w K mg base CX0 1 f fd ["one"] (spInner K) := by
  refine F.ok scIn (fun vs H Q E h => ?_) (fun cdv A outer s H vs Q E hr h => ?_)
  · obtain ⟨v, k, r, rfl, _⟩ := h
    rfl
  · obtain ⟨v, k, r, rfl, hD, h⟩ := h
    have hu := hu_of hr
    have hu0 : (A.deeper (envOfC "_law_inner" (defScope sInner) s.heap.objs.size f cdv)).units < cLine := by omega
    refine ⟨_, pss_one (ps_ret (pe_ifExp (pt_cmpR (op_eqS hu0) (pe_ix ix_tup (pv 0) pe_int (fun _ _ => rfl)) pe_str (nomark _)) (pe_lst pa_nil)
      (pe_callTy call_list_of rfl T.lst b_lst (pa_cons (pe_slice sl_tup (pv 0) (po_some pe_int) po_none) pa_nil)))), ?_⟩
    cases hD with
    | @tup a xs _ hs ha =>
      cases ha with
      | @cons x xs _ _ hx ht =>
        refine ⟨_, rfl, a, _, _, x, rfl, rfl, hs, at0, k, _, hx, rfl, _, rfl, ?_⟩
        refine nS (fun h1 => ?_) (fun h1 => ?_)
        · refine ⟨len_small (by simp), fun p np => h p _ [] (up1 np) upd_same ?_⟩
          have e : kids (.tuple (k :: r)) = [] := by simp [kids, h1]
          rw [e]
          exact .nil
        · refine ⟨_, rfl, 1, rfl, a, _, rfl, hs, fun z => ?_, fun p np => ?_⟩
          · have e1 : HT.sIx (x :: xs).length 0 (some 1) = 1 := by
              show (if (1 : Int) < 0 then ((1 : Int) + ((x :: xs).length : Int)).toNat else min (1 : Int).toNat (x :: xs).length) = 1
              rw [if_neg (by decide)]
              simp
            rw [e1] at z
            exact absurd z.1 (by decide)
          · rw [cut1]
            have e : kids (.tuple (k :: r)) = r := by simp [kids, h1]
            have U := up1 (o := .tup xs) np
            refine ⟨p, xs, rfl, .inr (.inl (.inl upd_same)), fun l nl => ?_⟩
            have U2 := up1 (o := .lst xs) nl
            refine h l _ xs (U.trans U2) upd_same ?_
            rw [e]
            exact ht.mono (U.trans U2)
theorem act_kids {d : PyData} (w1 : isPart d = true) (x : Str) : act d x ↔ (x = own d ∧ x ≠ "") ∨ ∃ e ∈ kids d, act e x := by
  unfold act
  rw [pre_kids w1, List.mem_cons, List.mem_flatMap]
  constructor
  · rintro ⟨a | ⟨e, he, hx⟩, hne⟩
    · exact .inl ⟨a, hne⟩
    · exact .inr ⟨e, he, hx, hne⟩
  · rintro (⟨a, hne⟩ | ⟨e, he, hx, hne⟩)
    · exact ⟨.inl a, hne⟩
    · exact ⟨.inr ⟨e, he, hx⟩, hne⟩
def few (d : PyData) : Prop := (dstn d).length ≤ 6
def spNm (K : PySem.W.Frag) (m : Nat) : Sp := fun vs H Q _ => ∃ (v : V) (d : PyData) (k : Nat), vs = [v] ∧ Dv K H v d ∧ wf k d = true ∧ d.depth ≤ m ∧ d.weight ≤ 4000 ∧ few d ∧
  ∀ (p : Addr) (H' : Hp) (ys : List Str), Same H H' → H' p = some (.lst (ys.map V.str)) → ys.Nodup → (∀ x, x ∈ ys ↔ act d x) → sortedS ys = true → Q (.ref p) H'
abbrev nNm : List Str := ["one", "found", "piece", "name"]
theorem scNm : FnScope nNm ["one"] (defScope sLawNames) := ⟨rfl, rfl, rfl, by decide +kernel, rfl, by decide +kernel, by decide +kernel⟩
theorem step_nm {f fI : Addr} {fd fdI : FuncData} {m j : Nat} {sp : Sp} (F : Fun K "_law_names" "_law_names" sLawNames f fd) (T : Bl mg) (bF : Binds K fd ["one"] []) (mF : mg "_law_names" = some (.ref f))
    (FI : Fun K "_law_inner" "_law_inner" sInner fI fdI) (bI : Binds K fdI ["one"] []) (mI : mg "_law_inner" = some (.ref fI)) (hj : 1 ≤ j) (GL : FnOk P w K mg base CX0 j f fd ["one"] sp)
    (hsp : ∀ vs H Q, (∃ m', m = m' + 1 ∧ spNm K m' vs H Q E0) → sp vs H Q E0) : FnOk P w K mg base CX0 (j + 1) f fd ["one"] (spNm K m) := by
  have GI : FnOk P w K mg base CX0 1 fI fdI ["one"] (spInner K) := ok_inner FI T
  refine F.ok scNm (fun vs H Q E h => ?_) (fun cdv A outer s H vs Q E hr h => ?_)
  · obtain ⟨v, d, k, rfl, _⟩ := h
    rfl
  · obtain ⟨v, d, k, rfl, hD, hwf, hd, hw, hfew, h⟩ := h
    have hu := hu_of hr
    have hu0 : (A.deeper (envOfC "_law_names" (defScope sLawNames) s.heap.objs.size f cdv)).units < cLine := by omega
    obtain ⟨hpart, hk40⟩ := wf_part hwf
    obtain ⟨x0, r, rfl, hpo⟩ := isPart_shape hpart
    obtain ⟨tL, hL, qL⟩ : ∃ t, PSs (cxOf CX0 P w K mg base nNm "_law_names" (defScope sLawNames) f cdv A outer s H E).nox ((defBody sLawNames).drop 1) t ∧ ∀ (fl : Addr) (H1 : Hp) (fo : List Str), Same H H1 → H1 fl = some (.lst (fo.map V.str)) → fo.length ≤ 1 → (∀ x, x ∈ fo ↔ (x = own (.tuple (x0 :: r)) ∧ x ≠ "")) →
        t { nx := fun _ H' => Q .non H', rt := Q } [some v, some (.ref fl), none, none] H1 := by
      refine ⟨_, pss_cons (ps_for PassesOwn.never rfl (pi_list (pe_call GI (hr.mono hj) rfl mI FI.kp bI .nil pass0 (pa_cons (pv 0) pa_nil))) (pg_name (i := 2) scNm.nd rfl (Or.inl rfl))
        (pss_one (ps_set (i := 1) scNm.nd rfl (.inl rfl) (pe_op op_cat (pv 1) (pe_call GL hr rfl mF F.kp bF .nil pass0 (pa_cons (pv 2) pa_nil))))))
      (pss_one (ps_ret (pe_callB cr_sortedS rfl T.srt b_srt (pa_cons (pe_callTy (call_listD rfl) rfl T.lst b_lst (pa_cons (pe_callTy (call_dictP rfl) rfl T.dct b_dct (pa_cons
        (pe_lc (own := [("name", 3)]) (g := gName 3) (tt := tYes) rfl scNm.nd (pi_list (pv 1)) (blkOk_by (N := nNm) (sc := defScope sLawNames) (by decide +kernel)) (fun _ _ _ _ _ => pg_name (i := 3) scNm.nd rfl (Or.inl rfl)) (fun _ _ _ _ _ => pts_nil)
          (fun _ _ _ _ _ => pe_tup (pa_cons (pv 3) (pa_cons pe_bl pa_nil)))) pa_nil)) pa_nil)) pa_nil)))), ?_⟩
      intro fl H1 fo S1 hf1 hfl hfm
      have m1 : ∃ m', m = m' + 1 := ⟨m - 1, by have q : (PyData.tuple (x0 :: r)).depth = PyData.depthAll (x0 :: r) + 1 := by (rw [PyData.depth])
                                               omega⟩
      obtain ⟨m', rfl⟩ := m1
      refine ⟨_, rfl, v, x0, r, rfl, hD.mono S1, fun p H' xs S' hp' ha' => ⟨p, rfl, ⟨xs, .inl (.inl hp')⟩, ?_⟩⟩
      have S2 := S1.trans S'
      have hkr : ∀ e ∈ kids (.tuple (x0 :: r)), e ∈ r := fun e he => by
        simp only [kids] at he
        split at he
        · cases he
        · exact he
      have hwk := wf_kids (k := k) hpart
      rw [hwf, decide_eq_true hk40, Bool.true_and] at hwk
      have hall := List.all_eq_true.mp hwk.symm
      have hkid : ∀ e ∈ kids (.tuple (x0 :: r)), wf (k + 1) e = true ∧ e.depth ≤ m' ∧ e.weight ≤ 4000 ∧ few e := fun e he => by
        have h1 := hkr e he
        have q1 := depthAll_mem (ds := x0 :: r) (d := e) (List.mem_cons_of_mem _ h1)
        have q2 : (PyData.tuple (x0 :: r)).depth = PyData.depthAll (x0 :: r) + 1 := by rw [PyData.depth]
        have q3 := wAll_mem (ds := x0 :: r) (d := e) (List.mem_cons_of_mem _ h1)
        rw [w_tup] at hw
        refine ⟨hall e he, by omega, by omega, ?_⟩
        have a1 := dstn_mem e
        have a2 := dstn_mem (.tuple (x0 :: r))
        have := nodup_le a1.1 fun x hx => (a2.2 x).mpr ((act_kids hpart x).mpr (.inr ⟨e, he, (a1.2 x).mp hx⟩))
        exact Nat.le_trans this hfew
      have hkl : (kids (.tuple (x0 :: r))).length ≤ 4000 := by
        have h1 : (kids (.tuple (x0 :: r))).length ≤ r.length := by
          simp only [kids]
          split
          · exact Nat.zero_le _
          · exact Nat.le_refl _
        have h2 := wAll_len (x0 :: r)
        rw [w_tup] at hw
        rw [List.length_cons] at h2
        omega
      have hxl := ha'.len
      have hak := act_kids hpart
      generalize hkd : kids (.tuple (x0 :: r)) = kd at *
      refine for_list (K := K) (a := p) (xs := xs) (fun i σ Hc => ∃ (fl' : Addr) (fo' : List Str) (pc : Option V), σ = [some v, some (.ref fl'), pc, none] ∧ Same H' Hc ∧ Hc fl' = some (.lst (fo'.map V.str)) ∧ fo'.length ≤ 1 + 6 * i ∧
          ∀ x, x ∈ fo' ↔ (x = own (.tuple (x0 :: r)) ∧ x ≠ "") ∨ ∃ e ∈ kd.take i, act e x) ?_ (fun i σ Hc _ ⟨_, _, _, _, q, _⟩ => q.seq (.inl (.inl hp'))) ?_ ?_
      · exact ⟨fl, fo, none, rfl, Same.refl H', S' _ _ hf1, by omega, fun x => by rw [hfm x]; simp⟩
      · rintro i x σ Hc hi ⟨fl', fo', pc, rfl, Sc, hF, hlF, hmF⟩
        obtain ⟨e, he, hx⟩ := ha'.get hi
        have hem : e ∈ kd := List.mem_of_getElem? he
        obtain ⟨k1, k2, k3, k4⟩ := hkid e hem
        have hil : i < kd.length := (List.getElem?_eq_some_iff.mp he).1
        refine ⟨_, rfl, _, rfl, hsp _ _ _ ⟨m', rfl, x, e, k + 1, rfl, hx.mono Sc, k1, k2, k3, k4, fun p2 H2 ys Sy hy nd hmy srt => ?_⟩⟩
        have hyl : ys.length ≤ 6 := by
          have a1 := dstn_mem e
          rw [nodup_len nd a1.1 fun x => by rw [hmy x, a1.2 x]]
          exact k4
        refine ⟨_, _, _, _, rfl, rfl, Sy _ _ hF, hy, ?_, fun r2 nr => ?_⟩
        · rw [List.length_map, List.length_map, sizeLine_eq]
          omega
        · refine ⟨r2, fo' ++ ys, _, rfl, Sc.trans (Sy.trans (up1 nr)), by rw [upd_same, List.map_append], by rw [List.length_append]; omega, fun z => ?_⟩
          have et : kd.take (i + 1) = kd.take i ++ [e] := by rw [List.take_add_one, he]; rfl
          rw [List.mem_append, hmF z, hmy z, et]
          constructor
          · rintro ((a | ⟨e', h1, h2⟩) | a)
            · exact .inl a
            · exact .inr ⟨e', List.mem_append_left _ h1, h2⟩
            · exact .inr ⟨e, List.mem_append_right _ (List.mem_singleton.mpr rfl), a⟩
          · rintro (a | ⟨e', h1, h2⟩)
            · exact .inl (.inl a)
            · rcases List.mem_append.mp h1 with h1 | h1
              · exact .inl (.inr ⟨e', h1, h2⟩)
              · rw [List.mem_singleton.mp h1] at h2
                exact .inr h2
      · rintro σ Hc ⟨fl', fo', pc, rfl, Sc, hF, hlF, hmF⟩
        rw [List.take_of_length_le (by omega)] at hmF
        have hmA : ∀ x, x ∈ fo' ↔ act (.tuple (x0 :: r)) x := fun x => by rw [hmF x, hak x]
        obtain ⟨dn, dm⟩ := addN_nodup fo' [] .nil
        have dm' : ∀ x, x ∈ fo'.foldl addN [] ↔ act (.tuple (x0 :: r)) x := fun x => by rw [dm x, ← hmA x]; simp
        have dl : (fo'.foldl addN []).length ≤ 6 := by
          have a1 := dstn_mem (.tuple (x0 :: r))
          rw [nodup_len dn a1.1 fun x => by rw [dm' x, a1.2 x]]
          exact hfew
        refine ⟨_, rfl, fl', rfl, ⟨_, .inl (.inl hF)⟩, fun D nD => ?_⟩
        refine lc_list (K := K) (a := fl') (xs := fo'.map V.str) (fun i Hd => Same Hc Hd ∧ ∃ ps : List Addr, Hd D = some (.lst (ps.map V.ref)) ∧ ps.length ≤ i ∧ Paired (fun p kv => SqT K Hd p [kV kv.1, kv.2]) ps ((fo'.take i).map nkv)) ?_ (fun i Hd _ ⟨q, _⟩ => .inl (.inl (q _ _ hF))) ?_ ?_
        · exact ⟨up1 nD, [], upd_same, Nat.le_refl _, .nil⟩
        · rintro i x Hd hi ⟨Sd, ps, Ld, hps, hP⟩
          refine ⟨rfl, ?_⟩
          obtain ⟨z, hz, rfl⟩ : ∃ z, fo'[i]? = some z ∧ V.str z = x := by
            rw [List.getElem?_map] at hi
            cases hq : fo'[i]? with
            | none => rw [hq] at hi; cases hi
            | some z =>
              rw [hq] at hi
              exact ⟨z, rfl, Option.some.inj hi⟩
          have hil : i < fo'.length := (List.getElem?_eq_some_iff.mp hz).1
          have et : fo'.take (i + 1) = fo'.take i ++ [z] := by rw [List.take_add_one, hz]; rfl
          refine ⟨_, rfl, len_small (by simp), fun t nt => ?_⟩
          have U := up1 (o := .tup [V.str z, V.bl true]) nt
          have LU := U _ _ Ld
          refine ⟨_, LU, (by rw [List.length_map, sizeLine_eq]; omega), same_at (Sd.trans U) nD, ps ++ [t], ?_, by rw [List.length_append]; simp; omega, ?_⟩
          · rw [upd_same, List.map_append]; rfl
          · rw [et, List.map_append]
            refine pairSnoc (R := fun (p : Addr) (kv : Key × V) => SqT K (upd (upd Hd t (.tup [V.str z, V.bl true])) D (.lst (ps.map V.ref ++ [V.ref t]))) p [kV kv.1, kv.2]) (a := t) (b := nkv z) (seqU LU (.inl (.inl upd_same)))
              (L2.Paired.mapP (F := fun (p : Addr) (kv : Key × V) => SqT K Hd p [kV kv.1, kv.2]) (G := fun (p : Addr) (kv : Key × V) => SqT K (upd (upd Hd t (.tup [V.str z, V.bl true])) D (.lst (ps.map V.ref ++ [V.ref t]))) p [kV kv.1, kv.2]) hP fun p kv q => seqU LU (seqT U q))
        · rintro Hd ⟨Sd, ps, Ld, hps, hP⟩
          rw [List.length_map, List.take_length] at hP
          have em : mergeK [] (fo'.map nkv) = (fo'.foldl addN []).map nkv := merge_nkv fo' []
          refine ⟨D, ps, _, rfl, .inl (.inl Ld), hP, fun pd nd => ?_⟩
          rw [em]
          have U1 := up1 (o := .dK ((fo'.foldl addN []).map nkv)) nd
          refine ⟨pd, _, rfl, .inl upd_same, fun pl nl => ?_⟩
          have ek : (((fo'.foldl addN []).map nkv).map fun kv => kV kv.1) = (fo'.foldl addN []).map V.str := by rw [List.map_map]; rfl
          rw [ek]
          have U2 := up1 (o := .lst ((fo'.foldl addN []).map V.str)) nl
          refine ⟨pl, fo'.foldl addN [], rfl, .inl (.inl upd_same), by omega, fun ys pr perm srt nr => ?_⟩
          have U3 := up1 (o := .lst (ys.map V.str)) nr
          exact h pr _ ys (S2.trans (Sc.trans (Sd.trans (U1.trans (U2.trans U3))))) upd_same (perm.symm.nodup dn) (fun x => by rw [perm.mem_iff, dm' x]) srt
    refine ⟨_, pss_cons (ps_set (i := 1) scNm.nd rfl (.inl rfl) (pe_ifExp (pt_cmpR (op_eqS hu0) (pe_ix ix_tup (pv 0) pe_int (fun _ _ => rfl)) pe_str (nomark _)) (pe_lst (pa_cons (pe_ix ix_tup (pv 0) pe_int (fun _ _ => rfl)) pa_nil)) (pe_lst pa_nil))) hL, ?_⟩
    cases hD with
    | @tup a xs _ hs ha =>
      cases ha with
      | @cons x xs _ _ hx ht =>
        refine ⟨_, rfl, a, _, _, x, rfl, rfl, hs, at0, x0, _, hx, rfl, _, rfl, ?_⟩
        refine nS (fun h1 => ?_) (fun h1 => ?_)
        · obtain ⟨z, rfl, hz⟩ := partDo hpo h1
          cases ht with
          | @cons y ys _ _ hy hy2 =>
            cases hy2
            cases hy
            refine ⟨_, rfl, a, _, _, V.str z, rfl, rfl, hs, at1, len_small (by simp), fun fl nf => qL fl _ [z] (up1 nf) upd_same (by simp) fun x => ?_⟩
            have hq : isDo (.tuple [x0, .str z]) = true := h1
            obtain ⟨o1, o2⟩ := own_do hpart hq
            have o3 : own (.tuple [x0, .str z]) = z := o1
            rw [o3, List.mem_singleton]
            constructor
            · rintro rfl
              exact ⟨rfl, o2⟩
            · exact fun q => q.1
        · refine ⟨len_small (by simp), fun fl nf => qL fl _ [] (up1 nf) upd_same (by simp) fun x => ?_⟩
          have hq : isDo (.tuple (x0 :: r)) = false := h1
          rw [own_no hq]
          simp
theorem ok_nm {f fI : Addr} {fd fdI : FuncData} (F : Fun K "_law_names" "_law_names" sLawNames f fd) (T : Bl mg) (bF : Binds K fd ["one"] []) (mF : mg "_law_names" = some (.ref f))
    (FI : Fun K "_law_inner" "_law_inner" sInner fI fdI) (bI : Binds K fdI ["one"] []) (mI : mg "_law_inner" = some (.ref fI)) : ∀ m : Nat, FnOk P w K mg base CX0 (m + 2) f fd ["one"] (spNm K m)
  | 0 => step_nm (j := 1) (sp := fun _ _ _ _ => False) F T bF mF FI bI mI (Nat.le_refl _) ⟨fun _ _ _ _ h => h.elim, fun _ _ _ _ _ _ _ _ _ _ _ _ _ h => h.elim⟩ fun _ _ _ ⟨_, e, _⟩ => by cases e
  | m + 1 => step_nm (j := m + 2) F T bF mF FI bI mI (by omega) (ok_nm F T bF mF FI bI mI m) fun _ _ _ ⟨m', e, q⟩ => by cases e; exact q
end
end L50
namespace L50
open PySem PySem.Spec PyProof.Rows L2 L54
theorem rising_le : ∀ (p : Str) (l : List Str), risingS p l = true → ∀ x ∈ l, ¬ (x.cps.toList < p.cps.toList)
  | p, [], _, x, hx => by cases hx
  | p, y :: r, h, x, hx => by
    have h' : (!ltCps y.cps.toList p.cps.toList && risingS y r) = true := h
    rw [Bool.and_eq_true] at h'
    have h1 : ¬ (y.cps.toList < p.cps.toList) := by
      have q := h'.1
      rw [ltCps_eq] at q
      simpa using q
    rcases List.mem_cons.mp hx with rfl | hx
    · exact h1
    · have h2 := rising_le y r h'.2 x hx
      exact fun z => List.le_trans (α := Nat) h1 h2 z
theorem sorted_tail {x : Str} {r : List Str} (h : sortedS (x :: r) = true) : sortedS r = true := by
  cases r with
  | nil => rfl
  | cons y r =>
    have h' : (!ltCps y.cps.toList x.cps.toList && risingS y r) = true := h
    rw [Bool.and_eq_true] at h'
    exact h'.2
theorem str_anti {x y : Str} (h1 : ¬ (x.cps.toList < y.cps.toList)) (h2 : ¬ (y.cps.toList < x.cps.toList)) : x = y := by
  have e : x.cps.toList = y.cps.toList := List.le_antisymm (α := Nat) h2 h1
  cases x
  cases y
  simp only [Str.mk.injEq]
  exact Array.toList_inj.mp e
theorem sorted_uniq : ∀ {a b : List Str}, sortedS a = true → sortedS b = true → a.Nodup → b.Nodup → (∀ x, x ∈ a ↔ x ∈ b) → a = b
  | [], [], _, _, _, _, _ => rfl
  | [], y :: b, _, _, _, _, h => by
    have := (h y).mpr List.mem_cons_self
    cases this
  | x :: a, [], _, _, _, _, h => by
    have := (h x).mp List.mem_cons_self
    cases this
  | x :: a, y :: b, ha, hb, na, nb, h => by
    have ra : ∀ z ∈ a, ¬ (z.cps.toList < x.cps.toList) := rising_le x a ha
    have rb : ∀ z ∈ b, ¬ (z.cps.toList < y.cps.toList) := rising_le y b hb
    have e : x = y := by
      rcases List.mem_cons.mp ((h x).mp List.mem_cons_self) with e | e
      · exact e
      · rcases List.mem_cons.mp ((h y).mpr List.mem_cons_self) with e2 | e2
        · exact e2.symm
        · exact str_anti (rb x e) (ra y e2)
    subst e
    rw [List.nodup_cons] at na nb
    rw [sorted_uniq (sorted_tail ha) (sorted_tail hb) na.2 nb.2 fun z => ?_]
    constructor
    · intro hz
      rcases List.mem_cons.mp ((h z).mp (List.mem_cons_of_mem _ hz)) with e | e
      · rw [e] at hz; exact absurd hz na.1
      · exact e
    · intro hz
      rcases List.mem_cons.mp ((h z).mpr (List.mem_cons_of_mem _ hz)) with e | e
      · rw [e] at hz; exact absurd hz nb.1
      · exact e
end L50
namespace L50
open PySem PySem.Spec PyProof.Rows L2 L54
mutual
theorem pre_ok : ∀ (k : Nat) (d : PyData), wf k d = true → ∀ x ∈ pre d, x = "" ∨ isName (.str x) = true
  | k, .tuple ds, h, x, hx => by
    rw [wf] at h
    rw [pre] at hx
    exact pre2_ok k ds h x hx
  | _, .none, h, _, _ => by rw [wf] at h <;> first | cases h | nofun
  | _, .bool _, h, _, _ => by rw [wf] at h <;> first | cases h | nofun
  | _, .int _, h, _, _ => by rw [wf] at h <;> first | cases h | nofun
  | _, .str _, h, _, _ => by rw [wf] at h <;> first | cases h | nofun
  | _, .list _, h, _, _ => by rw [wf] at h <;> first | cases h | nofun
  | _, .dict _, h, _, _ => by rw [wf] at h <;> first | cases h | nofun
theorem pre2_ok : ∀ (k : Nat) (ds : List PyData), wf2 k ds = true → ∀ x ∈ pre2 ds, x = "" ∨ isName (.str x) = true
  | k, [], h, _, _ => by rw [wf2] at h; cases h
  | k, y :: r, h, x, hx => by
    have ih := preAll_ok (k + 1) r
    rw [wf2, Bool.and_eq_true, Bool.and_eq_true] at h
    obtain ⟨⟨_, h2⟩, h3⟩ := h
    rw [pre2] at hx
    cases c : isStr y "do" with
    | true =>
      rw [c] at hx
      obtain ⟨z, rfl, hz⟩ := partDo h2 c
      have e : x = z := List.mem_singleton.mp hx
      rw [e]
      exact .inr hz
    | false =>
      rw [c] at hx h3
      rw [Bool.false_or] at h3
      have hx' : x ∈ (("" : Str) :: preAll r) := hx
      rcases List.mem_cons.mp hx' with e | e
      · exact .inl e
      · exact ih h3 x e
theorem preAll_ok : ∀ (k : Nat) (ds : List PyData), wfAll k ds = true → ∀ x ∈ preAll ds, x = "" ∨ isName (.str x) = true
  | k, [], _, x, hx => by rw [preAll] at hx; cases hx
  | k, d :: ds, h, x, hx => by
    rw [wfAll, Bool.and_eq_true] at h
    rw [preAll] at hx
    rcases List.mem_append.mp hx with e | e
    · exact pre_ok k d h.1 x e
    · exact preAll_ok k ds h.2 x e
end
theorem act_name {k : Nat} {d : PyData} (h : wf k d = true) {x : Str} (hx : act d x) : isName (.str x) = true := by
  rcases pre_ok k d h x hx.1 with e | e
  · exact absurd e hx.2
  · exact e
theorem letters_small : ∀ c ∈ letters.cps.toList, c < 128 := by decide +kernel
theorem name_ok {x : Str} (h : isName (.str x) = true) : PyData.strOk x = true := by
  unfold isName at h
  rw [Bool.and_eq_true] at h
  have h2 := List.all_eq_true.mp h.2
  unfold PyData.strOk
  rw [Array.all_eq_true']
  intro c hc
  have h3 := of_decide_eq_true (h2 c (by simpa using hc))
  exact decide_eq_true (Nat.lt_trans (letters_small c h3) (by decide))
def isB : PyData → Bool
  | .bool _ => true
  | _ => false
theorem k_bool {K : PySem.W.Frag} (d : PyData) : PySem.W.kitOne K (tyD d) (.type "bool") = some (isB d) := by
  cases d <;> first | exact kit_ty (r := true) (by decide +kernel) | exact kit_ty (r := false) (by decide +kernel)
theorem b_bool : bootBuiltins "bool" = some (.type "bool") := by decide +kernel
theorem dpStrs {K : PySem.W.Frag} {H : Hp} : ∀ ys : List Str, DpAll K H (ys.map V.str) (ys.map PyData.str)
  | [] => .nil
  | y :: ys => .cons (.str y) (dpStrs ys)
theorem shStrs {ys : List Str} (h : ∀ y ∈ ys, PyData.strOk y = true) : SeqAt.shaped (.tuple (ys.map PyData.str)) = true := by
  have a : PyData.canLayAll0 (ys.map PyData.str) = true := by
    induction ys with
    | nil => rfl
    | cons y ys ih =>
      have := ih fun z hz => h z (List.mem_cons_of_mem _ hz)
      simp [PyData.canLayAll0, PyData.canLay0, h y List.mem_cons_self, this]
  have b : PyData.depthAll (ys.map PyData.str) = 0 := by
    clear a h
    induction ys with
    | nil => rfl
    | cons y ys ih => rw [List.map_cons, PyData.depthAll, ih, PyData.depth]; rfl
  simp [SeqAt.shaped, PyData.canLay0, a, PyData.depth, b]
section
variable {P : Program} {w : World} {K : PySem.W.Frag} {mg : Str → Option Value} {base : Heap}
/-- what names promises (its own text: still to be shown) -/
def spNames (K : PySem.W.Frag) : Sp := fun vs H Q _ => ∃ (v : V) (d : PyData), vs = [v] ∧ Dv K H v d ∧ isProg d = true ∧ d.weight ≤ 4000 ∧
  ∀ (p : Addr) (H' : Hp) (ys : List Str), Same H H' → SqT K H' p (ys.map V.str) → ys.Nodup → (∀ x, x ∈ ys ↔ act d x) → sortedS ys = true → Q (.ref p) H'
def spGood (K : PySem.W.Frag) (m : Nat) : Sp := fun vs H Q _ => ∃ (v : V) (d : PyData), vs = [v] ∧ Dv K H v d ∧ fit d ∧ d.depth ≤ m ∧ ∀ H', Same H H' → Q (.bl true) H'
abbrev nGo : List Str := ["value", "kept", "found"]
theorem scGo : FnScope nGo ["value"] (defScope sGood) := ⟨rfl, rfl, rfl, by decide +kernel, rfl, by decide +kernel, by decide +kernel⟩
theorem ok_good {m : Nat} {f fP fI fN fL : Addr} {fd fdP fdI fdN fdL : FuncData} (F : Fun K "_law_good" "_law_good" sGood f fd) (T : Bl mg)
    (kP : PySem.W.keepIn K (.ref fP) = true) (bP : Binds K fdP ["value"] []) (mP : mg "is_program" = some (.ref fP)) (GP : FnOk P w K mg base CX0 3 fP fdP ["value"] (spProg K))
    (kI : PySem.W.keepIn K (.ref fI) = true) (bI : Binds K fdI ["value"] []) (mI : mg "_law_is" = some (.ref fI)) (GI : FnOk P w K mg base CX0 (m + 3) fI fdI ["value"] (spIs K m))
    (kN : PySem.W.keepIn K (.ref fN) = true) (bN : Binds K fdN ["program"] []) (mN : mg "names" = some (.ref fN)) (GN : FnOk P w K mg base CX0 (m + 3) fN fdN ["program"] (spNames K))
    (kL : PySem.W.keepIn K (.ref fL) = true) (bL : Binds K fdL ["one"] []) (mL : mg "_law_names" = some (.ref fL)) (GL : FnOk P w K mg base CX0 (m + 2) fL fdL ["one"] (spNm K m)) : FnG P w K mg base (m + 4) f fd ["value"] (spGood K m) := by
  refine Fun.okG F scGo (fun vs H Q E h => ?_) (fun cdv A outer s H vs Q E hg hr h => ?_)
  · obtain ⟨v, d, rfl, _⟩ := h
    rfl
  · obtain ⟨v, d, rfl, hD, hfit, hd, h⟩ := h
    have hu := hr.units
    have hu2 : (A.deeper (envOfC "_law_good" (defScope sGood) s.heap.objs.size f cdv)).units + 100 < cLine := by have := hr.un; omega
    have hr3 : Room 3 (A.deeper (envOfC "_law_good" (defScope sGood) s.heap.objs.size f cdv)) := hr.mono (by omega)
    have hr2 : Room (m + 2) (A.deeper (envOfC "_law_good" (defScope sGood) s.heap.objs.size f cdv)) := hr.mono (by omega)
    refine ⟨_, pss_cons (ps_set (i := 1) scGo.nd rfl (.inl rfl) (pe_callTy (call_strV hg hu2) rfl T.str b_str (pa_cons (pv 0) pa_nil)))
      (pss_cons (ps_set (i := 2) scGo.nd rfl (.inl rfl) (pe_call GP hr3 rfl mP kP bP .nil pass0 (pa_cons (pv 0) pa_nil)))
      (pss_cons (ps_if (PW.pt (pw_or (pt_not (pt_val (pe_callB call_isD rfl T.isi b_isi (pa_cons (pv 2) (pa_cons (pe_bltn (v := .ty "bool") rfl T.bool b_bool rfl) pa_nil)))))
          (pw_or (pt_cmpR op_ne (pv 2) (pe_call GI hr rfl mI kI bI .nil pass0 (pa_cons (pv 0) pa_nil)) (nomark _)) (pw_or1 (pt_cmpR op_ne (pe_callTy (call_strV hg hu2) rfl T.str b_str (pa_cons (pv 0) pa_nil)) (pv 1) (nomark _)))))) (pss_one (ps_ret pe_bl)) pss_nil)
      (pss_one (ps_ret (pe_or (pe_not (pv 2)) (pe_one (pe_cmpR (op_eqD hu) (pe_call GN hr rfl mN kN bN .nil pass0 (pa_cons (pv 0) pa_nil)) (pe_callTy call_tuple_of rfl T.tup b_tup (pa_cons (pe_call GL hr2 rfl mL kL bL .nil pass0 (pa_cons (pv 0) pa_nil)) pa_nil)) (nomark _)))))))), ?_⟩
    have hw : d.weight ≤ 4000 := hfit.2.2.2.1
    refine ⟨_, rfl, v, d, rfl, hD, hfit, _, rfl, v, d, rfl, hD, hw, fun H1 S1 => ?_⟩
    refine ⟨_, rfl, _, _, .bool (isProg d), _, _, rfl, .ty _, .bl _, k_bool _, _, rfl, ?_⟩
    refine iF Bool.false_ne_true ?_
    refine ⟨_, rfl, _, rfl, v, d, rfl, hD.mono S1, hw, hd, fun H2 S2 => ⟨rfl, _, rfl, ?_⟩⟩
    refine iF (by simp) ?_
    have S12 := S1.trans S2
    refine ⟨_, rfl, v, d, rfl, hD.mono S12, hfit, _, rfl, rfl, _, rfl, ?_⟩
    refine iF (by simp) ?_
    refine ⟨_, rfl, _, rfl, ?_⟩
    cases hpd : isProg d with
    | false => exact ⟨_, rfl, h H2 S12⟩
    | true =>
    refine ⟨_, rfl, ?_⟩
    have hsp := is_spec d
    rw [hpd] at hsp
    obtain ⟨s1, s2⟩ := Bool.and_eq_true_iff.mp hsp.symm
    obtain ⟨s3, s4⟩ := Bool.and_eq_true_iff.mp s2
    have hwf := (look_wf 1 d [] s1).1
    have hfew : few d := by unfold few; exact of_decide_eq_true s4
    refine ⟨_, rfl, v, d, rfl, hD.mono S12, hpd, hw, fun p H3 ys S3 hys nd mem srt => ?_⟩
    refine ⟨_, rfl, v, d, 1, rfl, hD.mono (S12.trans S3), hwf, hd, hw, hfew, fun p2 H4 zs S4 hzs nd2 mem2 srt2 => ?_⟩
    have e : zs = ys := sorted_uniq srt2 srt nd2 nd fun x => by rw [mem2 x, mem x]
    subst e
    refine ⟨p2, _, rfl, .inl ⟨.inl (.inl hzs), fun t nt => ?_⟩⟩
    have U := up1 (o := .tup (zs.map V.str)) nt
    have sh : SeqAt.shaped (.tuple (zs.map PyData.str)) = true := shStrs fun y hy => name_ok (act_name hwf ((mem y).mp hy))
    refine ⟨.tuple (zs.map PyData.str), .tuple (zs.map PyData.str), .tup (seqT (S4.trans U) hys) (dpStrs zs), .tup (.inl (.inl upd_same)) (dpStrs zs), sh, sh, ?_⟩
    rw [SeqAt.eqv_refl _ (SeqAt.canLay_of_shaped sh)]
    exact h _ (S12.trans (S3.trans (S4.trans U)))
end
end L50
namespace L50
open PySem PySem.Spec PyProof.Rows L2 L54
section
variable {P : Program} {w : World} {K : PySem.W.Frag} {mg : Str → Option Value} {base : Heap}
def noNms : List PyData := [.none, .bool true, .int 0, .str "", .str "A", .str "a1", .str "a b", .str "abcdefghi", .str "skip", .str "start", .str "end", .str "aB", .str "a_", .str "abc1", .str "ab cd", .str "abcdefG", .str "longName", .str "ab_cd", .tuple [.str "a"], .list [.str "a"], .dict [], .str "a\n"]
def spNoN (K : PySem.W.Frag) : Sp := fun vs H Q _ => vs = [] ∧ ∀ (p : Addr) (H' : Hp) (xs : List V), Same H H' → H' p = some (.lst xs) → DvAll K H' xs noNms → Q (.ref p) H'
abbrev nNN : List Str := ["some"]
theorem scNN : FnScope nNN [] (defScope sNoNames) := ⟨rfl, rfl, rfl, by decide +kernel, rfl, by decide +kernel, by decide +kernel⟩
theorem ok_nonames {f : Addr} {fd : FuncData} (F : Fun K "_law_no_names" "_law_no_names" sNoNames f fd) : FnOk P w K mg base CX0 1 f fd [] (spNoN K) := by
  refine F.ok scNN (fun vs H Q E h => ?_) (fun cdv A outer s H vs Q E hr h => ?_)
  · obtain ⟨rfl, _⟩ := h
    rfl
  · obtain ⟨rfl, h⟩ := h
    refine ⟨_, pss_cons (ps_set (i := 0) scNN.nd rfl (.inl rfl) (pe_lst (pa_cons pe_non (pa_cons pe_bl (pa_cons pe_int (pa_cons pe_str (pa_cons pe_str (pa_cons pe_str (pa_cons pe_str (pa_cons pe_str (pa_cons pe_str (pa_cons pe_str (pa_cons pe_str (pa_cons pe_str (pa_cons pe_str pa_nil)))))))))))))))
      (pss_cons (ps_set (i := 0) scNN.nd rfl (.inl rfl) (pe_op op_cat (pv 0) (pe_lst (pa_cons pe_str (pa_cons pe_str (pa_cons pe_str (pa_cons pe_str (pa_cons pe_str pa_nil))))))))
      (pss_one (ps_ret (pe_op op_cat (pv 0) (pe_lst (pa_cons (pe_tup (pa_cons pe_str pa_nil)) (pa_cons (pe_lst (pa_cons pe_str pa_nil)) (pa_cons pe_dnewK (pa_cons pe_str pa_nil))))))))), ?_⟩
    have S : Same H H := Same.refl H
    refine ⟨len_small (by simp), fun a1 na1 => ?_⟩
    have AL : DvAll K H [V.non, V.bl true, V.int 0, V.str "", V.str "A", V.str "a1", V.str "a b", V.str "abcdefghi", V.str "skip", V.str "start", V.str "end", V.str "aB", V.str "a_"] [PyData.none, PyData.bool true, PyData.int 0, PyData.str "", PyData.str "A", PyData.str "a1", PyData.str "a b", PyData.str "abcdefghi", PyData.str "skip", PyData.str "start", PyData.str "end", PyData.str "aB", PyData.str "a_"] := (.cons (.non) (.cons (.bl _) (.cons (.int _) (.cons (.str _) (.cons (.str _) (.cons (.str _) (.cons (.str _) (.cons (.str _) (.cons (.str _) (.cons (.str _) (.cons (.str _) (.cons (.str _) (.cons (.str _) .nil)))))))))))))
    have U := up1 (o := .lst [V.non, V.bl true, V.int 0, V.str "", V.str "A", V.str "a1", V.str "a b", V.str "abcdefghi", V.str "skip", V.str "start", V.str "end", V.str "aB", V.str "a_"]) na1
    replace S := S.trans U
    replace AL := AL.mono U
    have L1 := (show upd H a1 (.lst [V.non, V.bl true, V.int 0, V.str "", V.str "A", V.str "a1", V.str "a b", V.str "abcdefghi", V.str "skip", V.str "start", V.str "end", V.str "aB", V.str "a_"]) a1 = some (.lst [V.non, V.bl true, V.int 0, V.str "", V.str "A", V.str "a1", V.str "a b", V.str "abcdefghi", V.str "skip", V.str "start", V.str "end", V.str "aB", V.str "a_"]) from upd_same)
    clear U na1
    generalize upd H a1 (.lst [V.non, V.bl true, V.int 0, V.str "", V.str "A", V.str "a1", V.str "a b", V.str "abcdefghi", V.str "skip", V.str "start", V.str "end", V.str "aB", V.str "a_"]) = W2 at *
    have NL : [V.non, V.bl true, V.int 0, V.str "", V.str "A", V.str "a1", V.str "a b", V.str "abcdefghi", V.str "skip", V.str "start", V.str "end", V.str "aB", V.str "a_"].length ≤ 13 := by simp
    generalize [V.non, V.bl true, V.int 0, V.str "", V.str "A", V.str "a1", V.str "a b", V.str "abcdefghi", V.str "skip", V.str "start", V.str "end", V.str "aB", V.str "a_"] = xs0 at *
    refine ⟨_, rfl, ?_⟩
    refine ⟨len_small (by simp), fun a3 na3 => ?_⟩
    have BL : DvAll K W2 [V.str "abc1", V.str "ab cd", V.str "abcdefG", V.str "longName", V.str "ab_cd"] [PyData.str "abc1", PyData.str "ab cd", PyData.str "abcdefG", PyData.str "longName", PyData.str "ab_cd"] := (.cons (.str _) (.cons (.str _) (.cons (.str _) (.cons (.str _) (.cons (.str _) .nil)))))
    have U := up1 (o := .lst [V.str "abc1", V.str "ab cd", V.str "abcdefG", V.str "longName", V.str "ab_cd"]) na3
    replace S := S.trans U
    replace AL := AL.mono U
    replace L1 := U _ _ L1
    replace BL := BL.mono U
    have L2 := (show upd W2 a3 (.lst [V.str "abc1", V.str "ab cd", V.str "abcdefG", V.str "longName", V.str "ab_cd"]) a3 = some (.lst [V.str "abc1", V.str "ab cd", V.str "abcdefG", V.str "longName", V.str "ab_cd"]) from upd_same)
    clear U na3
    generalize upd W2 a3 (.lst [V.str "abc1", V.str "ab cd", V.str "abcdefG", V.str "longName", V.str "ab_cd"]) = W5 at *
    refine ⟨_, _, _, _, rfl, rfl, L1, L2, len_small (by simp; omega), fun a4 na4 => ?_⟩
    replace AL := DvAll.app AL BL
    clear BL L2 L1
    have U := up1 (o := .lst (xs0 ++ [V.str "abc1", V.str "ab cd", V.str "abcdefG", V.str "longName", V.str "ab_cd"])) na4
    replace S := S.trans U
    replace AL := AL.mono U
    have L1 := (show upd W5 a4 (.lst (xs0 ++ [V.str "abc1", V.str "ab cd", V.str "abcdefG", V.str "longName", V.str "ab_cd"])) a4 = some (.lst (xs0 ++ [V.str "abc1", V.str "ab cd", V.str "abcdefG", V.str "longName", V.str "ab_cd"])) from upd_same)
    clear U na4
    generalize upd W5 a4 (.lst (xs0 ++ [V.str "abc1", V.str "ab cd", V.str "abcdefG", V.str "longName", V.str "ab_cd"])) = W6 at *
    replace NL : (xs0 ++ [V.str "abc1", V.str "ab cd", V.str "abcdefG", V.str "longName", V.str "ab_cd"]).length ≤ 18 := by simp; omega
    generalize xs0 ++ [V.str "abc1", V.str "ab cd", V.str "abcdefG", V.str "longName", V.str "ab_cd"] = xs7 at *
    refine ⟨_, rfl, ?_⟩
    refine ⟨len_small (by simp), fun a8 na8 => ?_⟩
    have U := up1 (o := .tup [V.str "a"]) na8
    replace S := S.trans U
    replace AL := AL.mono U
    replace L1 := U _ _ L1
    have ga8 := (show Dv K (upd W6 a8 (.tup [V.str "a"])) (.ref a8) (PyData.tuple [PyData.str "a"]) from .tup (.inl (.inl upd_same)) (.cons (.str _) .nil))
    clear U na8
    generalize upd W6 a8 (.tup [V.str "a"]) = W9 at *
    refine ⟨len_small (by simp), fun a10 na10 => ?_⟩
    have U := up1 (o := .lst [V.str "a"]) na10
    replace S := S.trans U
    replace AL := AL.mono U
    replace L1 := U _ _ L1
    replace ga8 := ga8.mono U
    have ga10 := (show Dv K (upd W9 a10 (.lst [V.str "a"])) (.ref a10) (PyData.list [PyData.str "a"]) from .lst (.inl (.inl upd_same)) (.cons (.str _) .nil))
    clear U na10
    generalize upd W9 a10 (.lst [V.str "a"]) = W11 at *
    intro a12 na12
    have U := up1 (o := .dK []) na12
    replace S := S.trans U
    replace AL := AL.mono U
    replace L1 := U _ _ L1
    replace ga8 := ga8.mono U
    replace ga10 := ga10.mono U
    have ga12 := (show Dv K (upd W11 a12 (.dK [])) (.ref a12) (.dict []) from .emp upd_same)
    clear U na12
    generalize upd W11 a12 (.dK []) = W13 at *
    refine ⟨len_small (by simp), fun a14 na14 => ?_⟩
    have BL : DvAll K W13 [V.ref a8, V.ref a10, V.ref a12, V.str "a\n"] [PyData.tuple [PyData.str "a"], PyData.list [PyData.str "a"], PyData.dict [], PyData.str "a\n"] := (.cons (ga8) (.cons (ga10) (.cons (ga12) (.cons (.str _) .nil))))
    clear ga8
    clear ga10
    clear ga12
    have U := up1 (o := .lst [V.ref a8, V.ref a10, V.ref a12, V.str "a\n"]) na14
    replace S := S.trans U
    replace AL := AL.mono U
    replace L1 := U _ _ L1
    replace BL := BL.mono U
    have L2 := (show upd W13 a14 (.lst [V.ref a8, V.ref a10, V.ref a12, V.str "a\n"]) a14 = some (.lst [V.ref a8, V.ref a10, V.ref a12, V.str "a\n"]) from upd_same)
    clear U na14
    generalize upd W13 a14 (.lst [V.ref a8, V.ref a10, V.ref a12, V.str "a\n"]) = W16 at *
    refine ⟨_, _, _, _, rfl, rfl, L1, L2, len_small (by simp; omega), fun a15 na15 => ?_⟩
    replace AL := DvAll.app AL BL
    clear BL L2 L1
    have U := up1 (o := .lst (xs7 ++ [V.ref a8, V.ref a10, V.ref a12, V.str "a\n"])) na15
    replace S := S.trans U
    replace AL := AL.mono U
    have L1 := (show upd W16 a15 (.lst (xs7 ++ [V.ref a8, V.ref a10, V.ref a12, V.str "a\n"])) a15 = some (.lst (xs7 ++ [V.ref a8, V.ref a10, V.ref a12, V.str "a\n"])) from upd_same)
    clear U na15
    generalize upd W16 a15 (.lst (xs7 ++ [V.ref a8, V.ref a10, V.ref a12, V.str "a\n"])) = W17 at *
    replace NL : (xs7 ++ [V.ref a8, V.ref a10, V.ref a12, V.str "a\n"]).length ≤ 22 := by simp; omega
    generalize xs7 ++ [V.ref a8, V.ref a10, V.ref a12, V.str "a\n"] = xs18 at *
    exact h _ _ _ S L1 AL
end
end L50
namespace L50
open PySem PySem.Spec PyProof.Rows L2 L54
/-! ### the values that are no programs, as data -/
def goodD : PyData := .tuple [.str "do", .str "a"]
def odds0 : List PyData := [.none, .bool true, .int 0, .str "a", .str "skip", .str "", .tuple [], .list [], .dict [], .tuple [.str "do"], .tuple [.str "do", .str "a", .str "b"], .list [.str "do", .str "a"],
  .tuple [.str "DO", .str "a"], .tuple [.str "skip", .str "a"],
  .list [.str "skip"], .tuple [.str "rep"], .tuple [.str "rep", goodD, goodD], .tuple [.str "rep", .str "a"], .tuple [.str "seq"], .tuple [.str "seq", goodD],
  .tuple [.str "or", goodD], .tuple [.str "or", .str "a", .str "b"],
  .tuple [goodD, goodD], .tuple [.none, goodD], .tuple [.list [.str "or"], goodD, goodD], .tuple [.str "or", .list [goodD, goodD]],
  .list [.str "seq", goodD, goodD], .tuple [.dict [], goodD, goodD]]
def heads : List Str := ["xor", "", "o", "se", "AND", "seqor", "do", "skip", "repeat", "call"]
def odds1 : List PyData := odds0 ++ heads.flatMap fun h => [.tuple [.str h, goodD, goodD], .tuple [.str h, goodD], .tuple [.str h, goodD, goodD, goodD]]
def odds2 : List PyData := odds1 ++ [.tuple [.str "call", .str "a"], .tuple [.str "call", goodD], .tuple (.str "seq" :: List.replicate 60 goodD)]
def odds3 : List PyData := odds2 ++ noNms.map fun d => .tuple [.str "do", d]
def wraps (d : PyData) : List PyData := [.tuple [.str "rep", d], .tuple [.str "seq", goodD, d], .tuple [.str "or", d, goodD], .tuple [.str "or", goodD, .tuple [.str "skip"], d]]
def deepD : Nat → PyData
  | 0 => goodD
  | n + 1 => .tuple [.str "rep", deepD n]
def xs6 : List PyData := (List.range 6).map fun k => .tuple [.str "do", .str ⟨(List.replicate (k + 1) 120).toArray⟩]
def manyD : PyData := .tuple (.str "or" :: xs6)
def noProgs : List PyData := odds3 ++ odds3.flatMap wraps ++ [deepD 40, .tuple [.str "seq", manyD, goodD], .tuple [.str "or", .tuple (.str "seq" :: List.replicate 29 goodD), .tuple (.str "seq" :: List.replicate 29 goodD)]]
theorem noProgs_len : noProgs.length = 418 := by decide +kernel
theorem noProgs_not : noProgs.all (fun d => !isProg d) = true := by decide +kernel
def fitB (d : PyData) : Bool := d.showable && (decide (d.depth ≤ 60) && (d.leavesShort 2000 && (decide (d.weight ≤ 4000) && (!d.hasDict || noList d))))
theorem fitB_ok {d : PyData} (h : fitB d = true) : fit d := by
  obtain ⟨h1, h⟩ := Bool.and_eq_true_iff.mp h
  obtain ⟨h2, h⟩ := Bool.and_eq_true_iff.mp h
  obtain ⟨h3, h⟩ := Bool.and_eq_true_iff.mp h
  obtain ⟨h4, h5⟩ := Bool.and_eq_true_iff.mp h
  refine ⟨h1, of_decide_eq_true h2, h3, of_decide_eq_true h4, fun z => ?_⟩
  rw [z] at h5
  simpa using h5
theorem noProgs_fit : noProgs.all fitB = true := by decide +kernel
theorem noProgs_deep : noProgs.all (fun d => decide (d.depth ≤ 44)) = true := by decide +kernel
end L50
namespace L50
open PySem PySem.Spec PyProof.Rows L2 L54
/-! ### the values at the bounds, as data -/
def skipD : PyData := .tuple [.str "skip"]
def seqA (n : Nat) : PyData := .tuple (.str "seq" :: List.replicate n goodD)
/-- the two chains after k turns -/
def chain : Nat → PyData × PyData
  | 0 => (goodD, skipD)
  | k + 1 => (if decide (8 < k) || decide (k % 2 = 0) then .tuple [.str "rep", (chain k).1] else .tuple [.str "or", (chain k).1, goodD], if k < 9 then .tuple [.str "seq", (chain k).2, goodD] else .tuple [.str "rep", (chain k).2])
def edges0 : List PyData := [seqA 59, .tuple (.str "or" :: List.replicate 60 goodD), .tuple (.str "or" :: xs6), .tuple (.str "or" :: xs6 ++ [.tuple [.str "do", .str "y"]])]
def edgesC (n : Nat) : List PyData := (List.range n).flatMap fun k => [(chain k).1, (chain k).2]
def edges1 : List PyData := edges0 ++ edgesC 41 ++ [(chain 41).1, (chain 41).2, .tuple [.str "or", seqA 28, seqA 29], .tuple [.str "rep", seqA 59], .tuple [.str "or", seqA 29, seqA 29], .tuple [.str "rep", seqA 58],
  .tuple (.str "seq" :: List.replicate 59 skipD), .tuple (.str "seq" :: List.replicate 60 skipD), .tuple ([.str "or", goodD] ++ List.replicate 58 skipD), .tuple ([.str "or", goodD] ++ List.replicate 59 skipD)]
def moreW : List Str := ["call", "kill", "both", "forward", "given", "join", "last", "tail", "gen", "pass", "seq", "word", "names"]
def edgeSigns : Str := "abcdefghijklmnopqrstuvwxyz`{\x40[ABZ_/09:~!-"
def edgesL (c : Nat) : List PyData := [.tuple [.str "do", .str ⟨#[c]⟩], .tuple [.str "do", .str ⟨#[97, c]⟩], .tuple [.str "seq", .tuple [.str "do", .str ⟨#[98, c]⟩], skipD]]
def edges : List PyData := edges1 ++ (moreW.map fun z => .tuple [.str "do", .str z]) ++ edgeSigns.cps.toList.flatMap edgesL
theorem edges_fit : edges.all fitB = true := by decide +kernel
theorem edges_deep : edges.all (fun d => decide (d.depth ≤ 44)) = true := by decide +kernel
end L50
namespace L50
open PySem PySem.Spec PyProof.Rows L2 L54
/-! ### text * n, from 1 on -/
section
variable {X : Cx}
def rRepN : R2 := fun x y H Q => ∃ (z : Str) (n : Int), x = .str z ∧ y = .int n ∧ 1 ≤ n ∧ n ≤ 1000 ∧ z.length ≤ 1000 ∧ ∀ r : Str, r.length = n.toNat * z.length → (∀ c ∈ r.cps.toList, c ∈ z.cps.toList) → Q (.str r) H
theorem repl_len : ∀ (m : Nat) (z acc : Array Nat), ((List.replicate m z).foldl (· ++ ·) acc).size = acc.size + m * z.size
  | 0, z, acc => by simp
  | m + 1, z, acc => by
    rw [List.replicate_succ, List.foldl_cons, repl_len m z (acc ++ z), Array.size_append, Nat.succ_mul]
    omega
theorem repl_mem : ∀ (m : Nat) (z acc : Array Nat) (c : Nat), c ∈ ((List.replicate m z).foldl (· ++ ·) acc).toList → c ∈ acc.toList ∨ c ∈ z.toList
  | 0, z, acc, c, h => .inl h
  | m + 1, z, acc, c, h => by
    rw [List.replicate_succ, List.foldl_cons] at h
    rcases repl_mem m z (acc ++ z) c h with h | h
    · rw [Array.toList_append] at h
      exact List.mem_append.mp h
    · exact .inr h
theorem op_repN : OpR X (binaryOp .Mult) rRepN := by
  intro pins s σ H x y v u Q I rx ry h
  obtain ⟨z, n, rfl, rfl, n1, n2, hz, q⟩ := h
  obtain ⟨t, rfl⟩ := rx
  obtain ⟨t', rfl⟩ := ry
  have hb : ¬ ((z.length : Int) > (2 ^ 63 - 1) / n) := by
    have : (1000 : Int) ≤ (2 ^ 63 - 1) / n := by
      rw [Int.le_ediv_iff_mul_le (by omega)]
      omega
    omega
  have hl : Builtin.Str.tooLong (z.length * n.toNat) = false := by
    have h1 : z.length * n.toNat ≤ 1000 * 1000 := Nat.mul_le_mul hz (by omega)
    have h2 : z.length * n.toNat ≤ sizeLine := by rw [sizeLine_eq]; omega
    unfold Builtin.Str.tooLong
    first
      | exact decide_eq_false (by omega)
      | simpa using h2
  refine PySem.P.mul_str (by have a : ¬ n < -(2 ^ 63 : Int) := by omega
                             have b : ¬ n ≥ 2 ^ 63 := by omega
                             rw [decide_eq_false a, decide_eq_false b]; rfl) (fun _ _ => hb) (fun _ _ => hl) ?_
  rw [if_neg (by omega)]
  by_cases hc : (n == 1 || z.length == 0) = true
  · rw [if_pos hc]
    refine ⟨.str z, H, I, ⟨t, rfl⟩, q z ?_ fun _ h => h⟩
    rcases Bool.or_eq_true_iff.mp hc with e | e
    · have e' : n = 1 := eq_of_beq e
      rw [e']
      simp
    · have e' : z.length = 0 := eq_of_beq e
      rw [e']
      simp
  · rw [if_neg hc]
    have e1 : (⟨(List.replicate n.toNat z.cps).foldl (· ++ ·) #[]⟩ : Str).length = n.toNat * z.length := by
      show ((List.replicate n.toNat z.cps).foldl (· ++ ·) #[]).size = _
      rw [repl_len]
      simp [Str.length]
    refine ⟨?_, .str _, H, I.tok _, ⟨_, rfl⟩, q _ e1 fun c hm => ?_⟩
    · first
        | (have h1 : n.toNat * z.length ≤ 1000 * 1000 := Nat.mul_le_mul (by omega) hz
           rw [e1, sizeLine_eq]; omega)
        | skip
    · rcases repl_mem _ _ _ _ hm with e | e
      · cases e
      · exact e
end
theorem one_sign {r : Str} {m c : Nat} (h : r.length = m) (ha : ∀ d ∈ r.cps.toList, d = c) : r = ⟨(List.replicate m c).toArray⟩ := by
  have e : r.cps.toList = List.replicate m c := List.eq_replicate_iff.mpr ⟨by simpa [Str.length] using h, ha⟩
  cases r
  simp only [Str.mk.injEq]
  exact Array.toList_inj.mp (by simpa using e)
end L50
namespace L50
open PySem PySem.Spec PyProof.Rows L2 L54
theorem flat1 {α : Type} {x : α} : ∀ n : Nat, (List.replicate n [x]).flatten = List.replicate n x
  | 0 => rfl
  | n + 1 => by rw [List.replicate_succ, List.flatten_cons, flat1 n, List.replicate_succ]; rfl
theorem dvRep {K : PySem.W.Frag} {H : Hp} {v : V} {d : PyData} (h : Dv K H v d) : ∀ n : Nat, DvAll K H (List.replicate n v) (List.replicate n d)
  | 0 => .nil
  | n + 1 => .cons h (dvRep h n)
section
variable {P : Program} {w : World} {K : PySem.W.Frag} {mg : Str → Option Value} {base : Heap}
abbrev nNp : List Str := ["good", "odds", "head", "found", "odd", "deep", "k", "many", "word"]
theorem scNp : FnScope nNp [] (defScope sNoProgs) := ⟨rfl, rfl, rfl, by decide +kernel, rfl, by decide +kernel, by decide +kernel⟩
abbrev XN (P : Program) (w : World) (K : PySem.W.Frag) (mg : Str → Option Value) (base : Heap) (f : Addr) (cdv : Value) (A : Around) (outer : List Env) (s : Shared) (H : Hp) (E : XK) : Cx := (cxOf CX0 P w K mg base nNp "_law_no_programs" (defScope sNoProgs) f cdv A outer s H E).nox
variable {f : Addr} {cdv : Value} {A : Around} {outer : List Env} {s : Shared} {H : Hp} {E : XK}
def tailD : List PyData := [deepD 40, .tuple [.str "seq", manyD, goodD], .tuple [.str "or", .tuple (.str "seq" :: List.replicate 29 goodD), .tuple (.str "seq" :: List.replicate 29 goodD)]]
theorem np3 (T : Bl mg) : ∃ t, PSs (XN P w K mg base f cdv A outer s H E) ((defBody sNoProgs).drop 12) t ∧ ∀ (Q : VK) (g : V) (o1 o2 o4 o5 o6 o7 : Option V) (fo : Addr) (xs : List V) (ds : List PyData) (H1 : Hp), Dv K H1 g goodD → H1 fo = some (.lst xs) → DvAll K H1 xs ds → xs.length ≤ 100000 →
    (∀ (p : Addr) (H' : Hp) (ys : List V), Same H1 H' → H' p = some (.lst ys) → DvAll K H' ys (ds ++ tailD) → Q (.ref p) H') → t { nx := fun _ H' => Q .non H', rt := Q } [some g, o1, o2, some (.ref fo), o4, o5, o6, o7, none] H1 := by
  refine ⟨_, pss_cons (ps_set (i := 5) scNp.nd rfl (.inl rfl) (pv 0))
    (pss_cons (ps_for PassesOwn.never rfl (pi_range1 rfl T.range (pa_cons pe_int pa_nil)) (pg_name (i := 6) scNp.nd rfl (Or.inl rfl)) (pss_one (ps_set (i := 5) scNp.nd rfl (.inl rfl) (pe_tup (pa_cons pe_str (pa_cons (pv 5) pa_nil))))))
    (pss_cons (ps_set (i := 7) scNp.nd rfl (.inl rfl) (pe_op op_catT (pe_tup (pa_cons pe_str pa_nil)) (pe_callTy call_tuple_of rfl T.tup b_tup (pa_cons
      (pe_lc (own := [("k", 6)]) (g := gName 6) (tt := tYes) rfl scNp.nd (pi_range1 rfl T.range (pa_cons pe_int pa_nil)) (blkOk_by (N := nNp) (sc := defScope sNoProgs) (by decide +kernel)) (fun _ _ _ _ _ => pg_name (i := 6) scNp.nd rfl (Or.inl rfl)) (fun _ _ _ _ _ => pts_nil)
        (fun _ _ _ _ _ => pe_tup (pa_cons pe_str (pa_cons (pe_op op_repN pe_str (pe_op op_add (pv 6) pe_int)) pa_nil)))) pa_nil))))
    (pss_one (ps_ret (pe_op op_cat (pv 3) (pe_lst (pa_cons (pv 5) (pa_cons (pe_tup (pa_cons pe_str (pa_cons (pv 7) (pa_cons (pv 0) pa_nil)))) (pa_cons (pe_tup (pa_cons pe_str
      (pa_cons (pe_op op_catT (pe_tup (pa_cons pe_str pa_nil)) (pe_op op_repT (pe_tup (pa_cons (pv 0) pa_nil)) pe_int)) (pa_cons (pe_op op_catT (pe_tup (pa_cons pe_str pa_nil)) (pe_op op_repT (pe_tup (pa_cons (pv 0) pa_nil)) pe_int)) pa_nil)))) pa_nil))))))))), ?_⟩
  intro Q g o1 o2 o4 o5 o6 o7 fo xs ds H1 hg hf hA hl h
  refine ⟨_, rfl, 40, rfl, by decide, by decide, for_range (n := 40) (fun i σ Hc => ∃ (dv : V) (kk : Option V), σ = [some g, o1, o2, some (.ref fo), o4, some dv, kk, o7, none] ∧ Same H1 Hc ∧ Dv K Hc dv (deepD i)) ⟨g, o6, rfl, Same.refl H1, hg⟩ ?_ ?_⟩
  · rintro i σ Hc hi ⟨dv, kk, rfl, Sc, hd⟩
    refine ⟨_, rfl, len_small (by simp), fun t nt => ?_⟩
    have U := up1 (o := .tup [V.str "rep", dv]) nt
    exact ⟨.ref t, _, rfl, Sc.trans U, .tup (.inl (.inl upd_same)) (.cons (.str _) (.cons (hd.mono U) .nil))⟩
  · rintro σ Hc ⟨dv, kk, rfl, Sc, hd⟩
    refine ⟨len_small (by simp), fun t1 nt1 => ?_⟩
    have U1 := up1 (o := .tup [V.str "or"]) nt1
    have T1 : (upd Hc t1 (.tup [V.str "or"])) t1 = some (.tup [V.str "or"]) := upd_same
    generalize upd Hc t1 (.tup [V.str "or"]) = H2 at *
    refine ⟨6, rfl, by decide, by decide, fun D nD => ?_⟩
    refine lc_range (n := 6) (fun i Hd => Same H2 Hd ∧ ∃ vs, Hd D = some (.lst vs) ∧ vs.length = i ∧ DvAll K Hd vs (xs6.take i)) ⟨up1 nD, [], upd_same, rfl, .nil⟩ ?_ ?_
    · rintro i Hd hi ⟨Sd, vs, Ld, hvl, Ad⟩
      refine ⟨rfl, ?_⟩
      have hg6 : xs6[i]? = some (.tuple [.str "do", .str ⟨(List.replicate (i + 1) 120).toArray⟩]) := by
        unfold xs6
        rw [List.getElem?_map, List.getElem?_range hi]
        rfl
      refine ⟨_, rfl, _, _, rfl, rfl, _, _, rfl, rfl, by omega, by omega, by decide +kernel, fun r hr hc => ?_⟩
      have ex : ("x" : Str).length = 1 := by decide +kernel
      have er : r = ⟨(List.replicate (i + 1) 120).toArray⟩ := one_sign (by rw [hr, ex]; omega) fun d hd => by
        have q := hc d hd
        have e : ("x" : Str).cps.toList = [120] := by decide +kernel
        rw [e] at q
        exact List.mem_singleton.mp q
      subst er
      refine ⟨len_small (by simp), fun t nt => ?_⟩
      have U := up1 (o := .tup [V.str "do", V.str ⟨(List.replicate (i + 1) 120).toArray⟩]) nt
      have LU := U _ _ Ld
      have nn : ∀ x : V, ∀ d, Dv K (upd Hd t (.tup [V.str "do", V.str ⟨(List.replicate (i + 1) 120).toArray⟩])) x d → noList d = true → d.hasDict = false → Dv K (upd (upd Hd t (.tup [V.str "do", V.str ⟨(List.replicate (i + 1) 120).toArray⟩])) D (.lst (vs ++ [V.ref t]))) x d := fun x d q n1 n2 => dvB (p := D) SameB.at LU d x n1 n2 q
      have nl6 : noListAll (xs6.take i) = true ∧ PyData.hasDictAll (xs6.take i) = false := by
        have q : ∀ j : Nat, j < 6 → noListAll (xs6.take j) = true ∧ PyData.hasDictAll (xs6.take j) = false := by decide +kernel
        exact q i hi
      refine ⟨vs, LU, small1000 (by omega), same_at (Sd.trans U) nD, vs ++ [V.ref t], upd_same, by rw [List.length_append, hvl]; rfl, ?_⟩
      rw [List.take_add_one, hg6]
      exact (dvBAll (p := D) SameB.at LU _ _ nl6.1 nl6.2 (Ad.mono U)).app (.cons (nn _ _ (.tup (.inl (.inl upd_same)) (.cons (.str _) (.cons (.str _) .nil))) (by simp [noList, noListAll]) (by simp [PyData.hasDict, PyData.hasDictAll])) .nil)
    · rintro Hd ⟨Sd, vs, Ld, hvl, Ad⟩
      have S : Same H1 Hd := Sc.trans (U1.trans Sd)
      have gg : Dv K Hd g goodD := hg.mono S
      have gd : Dv K Hd dv (deepD 40) := hd.mono (U1.trans Sd)
      have LF : Hd fo = some (.lst xs) := S _ _ hf
      have AF : DvAll K Hd xs ds := hA.mono S
      have TT : Hd t1 = some (.tup [V.str "or"]) := Sd _ _ T1
      have A6 : DvAll K Hd vs xs6 := Ad
      have hne : vs ≠ [] := fun e => by rw [e] at hvl; cases hvl
      clear Sc U1 Sd T1 hg hf hA hd Ad nD
      refine ⟨D, vs, rfl, .inl ⟨.inl (.inl Ld), fun t2 nt2 => ?_⟩⟩
      clear Ld
      have U := up1 (o := .tup vs) nt2
      replace S := S.trans U
      replace gg := gg.mono U
      replace gd := gd.mono U
      replace LF := U _ _ LF
      replace AF := AF.mono U
      replace TT := U _ _ TT
      replace A6 := A6.mono U
      have T2 := (show upd Hd t2 (.tup vs) t2 = some (.tup vs) from upd_same)
      clear U nt2
      generalize upd Hd t2 (.tup vs) = W1 at *
      refine ⟨t1, t2, _, _, rfl, rfl, .inl (.inl TT), .inl (.inl T2), by simp, len_small (by simp; omega), fun e => absurd e hne, fun _ t3 nt3 => ?_⟩
      have U := up1 (o := .tup ([V.str "or"] ++ vs)) nt3
      replace S := S.trans U
      replace gg := gg.mono U
      replace gd := gd.mono U
      replace LF := U _ _ LF
      replace AF := AF.mono U
      replace TT := U _ _ TT
      replace A6 := A6.mono U
      replace T2 := U _ _ T2
      have gm := (show Dv K (upd W1 t3 (.tup ([V.str "or"] ++ vs))) (.ref t3) manyD from .tup (.inl (.inl upd_same)) (.cons (.str _) A6))
      clear U nt3
      generalize upd W1 t3 (.tup ([V.str "or"] ++ vs)) = W2 at *
      clear A6 T2 TT
      refine ⟨_, rfl, ?_⟩
      refine ⟨_, rfl, ?_⟩
      refine ⟨_, rfl, _, rfl, ?_⟩
      refine ⟨len_small (by simp), fun u1 nu1 => ?_⟩
      have U := up1 (o := .tup [V.str "seq", V.ref t3, g]) nu1
      replace S := S.trans U
      replace gg := gg.mono U
      replace gd := gd.mono U
      replace LF := U _ _ LF
      replace AF := AF.mono U
      replace gm := gm.mono U
      have g1 := (show Dv K (upd W2 u1 (.tup [V.str "seq", V.ref t3, g])) (.ref u1) (.tuple [.str "seq", manyD, goodD]) from .tup (.inl (.inl upd_same)) (.cons (.str _) (.cons gm (.cons gg .nil))))
      clear U nu1
      generalize upd W2 u1 (.tup [V.str "seq", V.ref t3, g]) = W3 at *
      refine ⟨len_small (by simp), fun u2 nu2 => ?_⟩
      have U := up1 (o := .tup [V.str "seq"]) nu2
      replace S := S.trans U
      replace gg := gg.mono U
      replace gd := gd.mono U
      replace LF := U _ _ LF
      replace AF := AF.mono U
      replace gm := gm.mono U
      replace g1 := g1.mono U
      have Q1 := (show upd W3 u2 (.tup [V.str "seq"]) u2 = some (.tup [V.str "seq"]) from upd_same)
      clear U nu2
      generalize upd W3 u2 (.tup [V.str "seq"]) = W4 at *
      refine ⟨_, rfl, len_small (by simp), fun u3 nu3 => ?_⟩
      have U := up1 (o := .tup [g]) nu3
      replace S := S.trans U
      replace gg := gg.mono U
      replace gd := gd.mono U
      replace LF := U _ _ LF
      replace AF := AF.mono U
      replace gm := gm.mono U
      replace g1 := g1.mono U
      replace Q1 := U _ _ Q1
      have Q2 := (show upd W4 u3 (.tup [g]) u3 = some (.tup [g]) from upd_same)
      clear U nu3
      generalize upd W4 u3 (.tup [g]) = W5 at *
      refine ⟨u3, 29, [g], rfl, rfl, .inl (.inl Q2), by simp, by decide, by decide, by simp, fun u4 nu4 => ?_⟩
      have U := up1 (o := .tup (List.replicate (29 : Int).toNat [g]).flatten) nu4
      replace S := S.trans U
      replace gg := gg.mono U
      replace gd := gd.mono U
      replace LF := U _ _ LF
      replace AF := AF.mono U
      replace gm := gm.mono U
      replace g1 := g1.mono U
      replace Q1 := U _ _ Q1
      replace Q2 := U _ _ Q2
      have Q3 := (show upd W5 u4 (.tup (List.replicate (29 : Int).toNat [g]).flatten) u4 = some (.tup (List.replicate 29 g)) from by rw [upd_same, flat1]; rfl)
      clear U nu4
      generalize upd W5 u4 (.tup (List.replicate (29 : Int).toNat [g]).flatten) = W6 at *
      refine ⟨u2, u4, _, _, rfl, rfl, .inl (.inl Q1), .inl (.inl Q3), by simp, len_small (by simp), fun e => (by simp at e), fun _ u5 nu5 => ?_⟩
      have U := up1 (o := .tup ([V.str "seq"] ++ List.replicate 29 g)) nu5
      replace S := S.trans U
      replace gg := gg.mono U
      replace gd := gd.mono U
      replace LF := U _ _ LF
      replace AF := AF.mono U
      replace gm := gm.mono U
      replace g1 := g1.mono U
      replace Q1 := U _ _ Q1
      replace Q2 := U _ _ Q2
      replace Q3 := U _ _ Q3
      have g2 := (show Dv K (upd W6 u5 (.tup ([V.str "seq"] ++ List.replicate 29 g))) (.ref u5) (.tuple (.str "seq" :: List.replicate 29 goodD)) from .tup (.inl (.inl upd_same)) (.cons (.str _) (dvRep gg 29)))
      clear U nu5
      generalize upd W6 u5 (.tup ([V.str "seq"] ++ List.replicate 29 g)) = W7 at *
      clear Q1 Q2 Q3
      refine ⟨len_small (by simp), fun u6 nu6 => ?_⟩
      have U := up1 (o := .tup [V.str "seq"]) nu6
      replace S := S.trans U
      replace gg := gg.mono U
      replace gd := gd.mono U
      replace LF := U _ _ LF
      replace AF := AF.mono U
      replace gm := gm.mono U
      replace g1 := g1.mono U
      replace g2 := g2.mono U
      have Q1 := (show upd W7 u6 (.tup [V.str "seq"]) u6 = some (.tup [V.str "seq"]) from upd_same)
      clear U nu6
      generalize upd W7 u6 (.tup [V.str "seq"]) = W8 at *
      refine ⟨_, rfl, len_small (by simp), fun u7 nu7 => ?_⟩
      have U := up1 (o := .tup [g]) nu7
      replace S := S.trans U
      replace gg := gg.mono U
      replace gd := gd.mono U
      replace LF := U _ _ LF
      replace AF := AF.mono U
      replace gm := gm.mono U
      replace g1 := g1.mono U
      replace g2 := g2.mono U
      replace Q1 := U _ _ Q1
      have Q2 := (show upd W8 u7 (.tup [g]) u7 = some (.tup [g]) from upd_same)
      clear U nu7
      generalize upd W8 u7 (.tup [g]) = W9 at *
      refine ⟨u7, 29, [g], rfl, rfl, .inl (.inl Q2), by simp, by decide, by decide, by simp, fun u8 nu8 => ?_⟩
      have U := up1 (o := .tup (List.replicate (29 : Int).toNat [g]).flatten) nu8
      replace S := S.trans U
      replace gg := gg.mono U
      replace gd := gd.mono U
      replace LF := U _ _ LF
      replace AF := AF.mono U
      replace gm := gm.mono U
      replace g1 := g1.mono U
      replace g2 := g2.mono U
      replace Q1 := U _ _ Q1
      replace Q2 := U _ _ Q2
      have Q3 := (show upd W9 u8 (.tup (List.replicate (29 : Int).toNat [g]).flatten) u8 = some (.tup (List.replicate 29 g)) from by rw [upd_same, flat1]; rfl)
      clear U nu8
      generalize upd W9 u8 (.tup (List.replicate (29 : Int).toNat [g]).flatten) = W10 at *
      refine ⟨u6, u8, _, _, rfl, rfl, .inl (.inl Q1), .inl (.inl Q3), by simp, len_small (by simp), fun e => (by simp at e), fun _ u9 nu9 => ?_⟩
      have U := up1 (o := .tup ([V.str "seq"] ++ List.replicate 29 g)) nu9
      replace S := S.trans U
      replace gg := gg.mono U
      replace gd := gd.mono U
      replace LF := U _ _ LF
      replace AF := AF.mono U
      replace gm := gm.mono U
      replace g1 := g1.mono U
      replace g2 := g2.mono U
      replace Q1 := U _ _ Q1
      replace Q2 := U _ _ Q2
      replace Q3 := U _ _ Q3
      have g3 := (show Dv K (upd W10 u9 (.tup ([V.str "seq"] ++ List.replicate 29 g))) (.ref u9) (.tuple (.str "seq" :: List.replicate 29 goodD)) from .tup (.inl (.inl upd_same)) (.cons (.str _) (dvRep gg 29)))
      clear U nu9
      generalize upd W10 u9 (.tup ([V.str "seq"] ++ List.replicate 29 g)) = W11 at *
      clear Q1 Q2 Q3
      refine ⟨len_small (by simp), fun v1 nv1 => ?_⟩
      have U := up1 (o := .tup [V.str "or", V.ref u5, V.ref u9]) nv1
      replace S := S.trans U
      replace gg := gg.mono U
      replace gd := gd.mono U
      replace LF := U _ _ LF
      replace AF := AF.mono U
      replace gm := gm.mono U
      replace g1 := g1.mono U
      replace g2 := g2.mono U
      replace g3 := g3.mono U
      have g4 := (show Dv K (upd W11 v1 (.tup [V.str "or", V.ref u5, V.ref u9])) (.ref v1) (.tuple [.str "or", .tuple (.str "seq" :: List.replicate 29 goodD), .tuple (.str "seq" :: List.replicate 29 goodD)]) from .tup (.inl (.inl upd_same)) (.cons (.str _) (.cons g2 (.cons g3 .nil))))
      clear U nv1
      generalize upd W11 v1 (.tup [V.str "or", V.ref u5, V.ref u9]) = W12 at *
      refine ⟨len_small (by simp), fun v2 nv2 => ?_⟩
      have U := up1 (o := .lst [dv, V.ref u1, V.ref v1]) nv2
      replace S := S.trans U
      replace gg := gg.mono U
      replace gd := gd.mono U
      replace LF := U _ _ LF
      replace AF := AF.mono U
      replace gm := gm.mono U
      replace g1 := g1.mono U
      replace g2 := g2.mono U
      replace g3 := g3.mono U
      replace g4 := g4.mono U
      have LL := (show upd W12 v2 (.lst [dv, V.ref u1, V.ref v1]) v2 = some (.lst [dv, V.ref u1, V.ref v1]) from upd_same)
      clear U nv2
      generalize upd W12 v2 (.lst [dv, V.ref u1, V.ref v1]) = W13 at *
      refine ⟨_, _, _, _, rfl, rfl, LF, LL, by rw [sizeLine_eq]; simp; omega, fun v3 nv3 => ?_⟩
      have U := up1 (o := .lst (xs ++ [dv, V.ref u1, V.ref v1])) nv3
      exact h v3 _ _ (S.trans U) upd_same ((AF.mono U).app (.cons (gd.mono U) (.cons (g1.mono U) (.cons (g4.mono U) .nil))))
end
end L50
namespace L50
open PySem PySem.Spec PyProof.Rows L2 L54
section
variable {P : Program} {w : World} {K : PySem.W.Frag} {mg : Str → Option Value} {base : Heap}
variable {f : Addr} {cdv : Value} {A : Around} {outer : List Env} {s : Shared} {H : Hp} {E : XK}
def wrapH (h : Str) : List PyData := [.tuple [.str h, goodD, goodD], .tuple [.str h, goodD], .tuple [.str h, goodD, goodD, goodD]]
theorem flatSnoc {α β : Type} {f : α → List β} (l : List α) (x : α) : (l ++ [x]).flatMap f = l.flatMap f ++ f x := by simp
theorem pairDv {K : PySem.W.Frag} {H : Hp} : ∀ {ts : List Addr} {xs : List V} {ds : List PyData}, Paired (fun t x => H t = some (.tup [V.str "do", x])) ts xs → DvAll K H xs ds → DvAll K H (ts.map V.ref) (ds.map fun d => .tuple [.str "do", d])
  | _, _, _, .nil, .nil => .nil
  | _, _, _, .cons r t, .cons a b => .cons (.tup (.inl (.inl r)) (.cons (.str _) (.cons a .nil))) (pairDv t b)
theorem np2 (T : Bl mg) {fN : Addr} {fdN : FuncData} (FN : Fun K "_law_no_names" "_law_no_names" sNoNames fN fdN) (bN : Binds K fdN [] []) (mN : mg "_law_no_names" = some (.ref fN)) (hr : Room 1 (A.deeper (envOfC "_law_no_programs" (defScope sNoProgs) s.heap.objs.size f cdv))) :
    ∃ t, PSs (XN P w K mg base f cdv A outer s H E) ((defBody sNoProgs).drop 7) t ∧ ∀ (Q : VK) (g : V) (oa : Addr) (xs : List V) (H1 : Hp), Dv K H1 g goodD → H1 oa = some (.lst xs) → DvAll K H1 xs odds0 → xs.length = 28 →
    (∀ (p : Addr) (H' : Hp) (ys : List V), Same H1 H' → H' p = some (.lst ys) → DvAll K H' ys noProgs → Q (.ref p) H') → t { nx := fun _ H' => Q .non H', rt := Q } [some g, some (.ref oa), none, none, none, none, none, none, none] H1 := by
  have GN : FnOk P w K mg base CX0 1 fN fdN [] (spNoN K) := ok_nonames FN
  obtain ⟨t3, h3, q3⟩ := np3 (P := P) (w := w) (K := K) (mg := mg) (base := base) (f := f) (cdv := cdv) (A := A) (outer := outer) (s := s) (H := H) (E := E) T
  refine ⟨_, pss_cons (ps_for PassesOwn.never rfl (pi_list (pe_lst (pa_cons pe_str (pa_cons pe_str (pa_cons pe_str (pa_cons pe_str (pa_cons pe_str (pa_cons pe_str (pa_cons pe_str (pa_cons pe_str (pa_cons pe_str (pa_cons pe_str pa_nil)))))))))))) (pg_name (i := 2) scNp.nd rfl (Or.inl rfl)) (pss_one (ps_set (i := 1) scNp.nd rfl (.inl rfl) (pe_op op_cat (pv 1) (pe_lst (pa_cons (pe_tup (pa_cons (pv 2) (pa_cons (pv 0) (pa_cons (pv 0) pa_nil)))) (pa_cons (pe_tup (pa_cons (pv 2) (pa_cons (pv 0) pa_nil))) (pa_cons (pe_tup (pa_cons (pv 2) (pa_cons (pv 0) (pa_cons (pv 0) (pa_cons (pv 0) pa_nil))))) pa_nil))))))))
    (pss_cons (ps_set (i := 1) scNp.nd rfl (.inl rfl) (pe_op op_cat (pv 1) (pe_lst (pa_cons (pe_tup (pa_cons pe_str (pa_cons pe_str pa_nil))) (pa_cons (pe_tup (pa_cons pe_str (pa_cons (pv 0) pa_nil))) (pa_cons (pe_op op_catT (pe_tup (pa_cons pe_str pa_nil)) (pe_op op_repT (pe_tup (pa_cons (pv 0) pa_nil)) pe_int)) pa_nil))))))
    (pss_cons (ps_set (i := 1) scNp.nd rfl (.inl rfl) (pe_op op_cat (pv 1) (pe_lc (own := [("word", 8)]) (g := gName 8) (tt := tYes) rfl scNp.nd (pi_list (pe_call0 GN hr rfl mN FN.kp bN .nil pass0)) (blkOk_by (N := nNp) (sc := defScope sNoProgs) (by decide +kernel)) (fun _ _ _ _ _ => pg_name (i := 8) scNp.nd rfl (Or.inl rfl)) (fun _ _ _ _ _ => pts_nil)
        (fun _ _ _ _ _ => pe_tup (pa_cons pe_str (pa_cons (pv 8) pa_nil))))))
    (pss_cons (ps_set (i := 3) scNp.nd rfl (.inl rfl) (pe_callTy call_list_of rfl T.lst b_lst (pa_cons (pv 1) pa_nil)))
    (pss_cons (ps_for PassesOwn.never rfl (pi_list (pv 1)) (pg_name (i := 4) scNp.nd rfl (Or.inl rfl)) (pss_cons (ps_set (i := 3) scNp.nd rfl (.inl rfl) (pe_op op_cat (pv 3) (pe_lst (pa_cons (pe_tup (pa_cons pe_str (pa_cons (pv 4) pa_nil))) (pa_cons (pe_tup (pa_cons pe_str (pa_cons (pv 0) (pa_cons (pv 4) pa_nil)))) (pa_cons (pe_tup (pa_cons pe_str (pa_cons (pv 4) (pa_cons (pv 0) pa_nil)))) pa_nil)))))) (pss_one (ps_set (i := 3) scNp.nd rfl (.inl rfl) (pe_op op_cat (pv 3) (pe_lst (pa_cons (pe_tup (pa_cons pe_str (pa_cons (pv 0) (pa_cons (pe_tup (pa_cons pe_str pa_nil)) (pa_cons (pv 4) pa_nil))))) pa_nil))))))) h3)))), ?_⟩
  intro Q g oa xs H1 hg hf hA hl h
  have S : Same H1 H1 := Same.refl H1
  refine ⟨len_small (by simp), fun hl nhl => ?_⟩
  have U := up1 (o := .lst [V.str "xor", V.str "", V.str "o", V.str "se", V.str "AND", V.str "seqor", V.str "do", V.str "skip", V.str "repeat", V.str "call"]) nhl
  replace S := S.trans U
  replace hg := hg.mono U
  replace hf := U _ _ hf
  replace hA := hA.mono U
  have LH := (show upd H1 hl (.lst [V.str "xor", V.str "", V.str "o", V.str "se", V.str "AND", V.str "seqor", V.str "do", V.str "skip", V.str "repeat", V.str "call"]) hl = some (.lst (heads.map V.str)) from upd_same)
  clear U nhl
  generalize upd H1 hl (.lst [V.str "xor", V.str "", V.str "o", V.str "se", V.str "AND", V.str "seqor", V.str "do", V.str "skip", V.str "repeat", V.str "call"]) = W1 at *
  refine ⟨hl, rfl, ⟨_, .inl (.inl LH)⟩, for_list (K := K) (a := hl) (xs := heads.map V.str) (fun i σ Hc => ∃ (ob : Addr) (ys : List V) (hd : Option V), σ = [some g, some (.ref ob), hd, none, none, none, none, none, none] ∧ Same W1 Hc ∧ Hc ob = some (.lst ys) ∧ DvAll K Hc ys (odds0 ++ (heads.take i).flatMap wrapH) ∧ ys.length = 28 + 3 * i) ⟨oa, xs, none, rfl, Same.refl _, hf, (by rw [List.take_zero, List.flatMap_nil, List.append_nil]; exact hA), by omega⟩ (fun i σ Hc _ ⟨_, _, _, _, q, _⟩ => q.seq (.inl (.inl LH))) ?_ ?_⟩
  · rintro i x σ Hc hi ⟨ob, ys, hd, rfl, Sc, LO, AO, hyl⟩
    obtain ⟨z, hz, rfl⟩ : ∃ z, heads[i]? = some z ∧ V.str z = x := by
      rw [List.getElem?_map] at hi
      cases hq : heads[i]? with
      | none => rw [hq] at hi; cases hi
      | some z =>
        rw [hq] at hi
        exact ⟨z, rfl, Option.some.inj hi⟩
    have hil : i < 10 := (List.getElem?_eq_some_iff.mp hz).1
    have gg : Dv K Hc g goodD := hg.mono Sc
    refine ⟨_, rfl, ?_⟩
    refine ⟨_, rfl, _, rfl, _, rfl, len_small (by simp), fun b1 nb1 => ?_⟩
    have U := up1 (o := .tup [V.str z, g, g]) nb1
    replace Sc := Sc.trans U
    replace gg := gg.mono U
    replace LO := U _ _ LO
    replace AO := AO.mono U
    have k1 := (show Dv K (upd Hc b1 (.tup [V.str z, g, g])) (.ref b1) (.tuple [.str z, goodD, goodD]) from .tup (.inl (.inl upd_same)) (.cons (.str _) (.cons (gg) (.cons (gg) .nil))))
    clear U nb1
    generalize upd Hc b1 (.tup [V.str z, g, g]) = W2 at *
    refine ⟨_, rfl, _, rfl, len_small (by simp), fun b2 nb2 => ?_⟩
    have U := up1 (o := .tup [V.str z, g]) nb2
    replace Sc := Sc.trans U
    replace gg := gg.mono U
    replace LO := U _ _ LO
    replace AO := AO.mono U
    replace k1 := k1.mono U
    have k2 := (show Dv K (upd W2 b2 (.tup [V.str z, g])) (.ref b2) (.tuple [.str z, goodD]) from .tup (.inl (.inl upd_same)) (.cons (.str _) (.cons (gg) .nil)))
    clear U nb2
    generalize upd W2 b2 (.tup [V.str z, g]) = W3 at *
    refine ⟨_, rfl, _, rfl, _, rfl, _, rfl, len_small (by simp), fun b3 nb3 => ?_⟩
    have U := up1 (o := .tup [V.str z, g, g, g]) nb3
    replace Sc := Sc.trans U
    replace gg := gg.mono U
    replace LO := U _ _ LO
    replace AO := AO.mono U
    replace k1 := k1.mono U
    replace k2 := k2.mono U
    have k3 := (show Dv K (upd W3 b3 (.tup [V.str z, g, g, g])) (.ref b3) (.tuple [.str z, goodD, goodD, goodD]) from .tup (.inl (.inl upd_same)) (.cons (.str _) (.cons (gg) (.cons (gg) (.cons (gg) .nil)))))
    clear U nb3
    generalize upd W3 b3 (.tup [V.str z, g, g, g]) = W4 at *
    refine ⟨len_small (by simp), fun b4 nb4 => ?_⟩
    have U := up1 (o := .lst [V.ref b1, V.ref b2, V.ref b3]) nb4
    replace Sc := Sc.trans U
    replace gg := gg.mono U
    replace LO := U _ _ LO
    replace AO := AO.mono U
    replace k1 := k1.mono U
    replace k2 := k2.mono U
    replace k3 := k3.mono U
    have LL := (show upd W4 b4 (.lst [V.ref b1, V.ref b2, V.ref b3]) b4 = some (.lst [V.ref b1, V.ref b2, V.ref b3]) from upd_same)
    clear U nb4
    generalize upd W4 b4 (.lst [V.ref b1, V.ref b2, V.ref b3]) = W5 at *
    refine ⟨_, _, _, _, rfl, rfl, LO, LL, by rw [sizeLine_eq]; simp; omega, fun b5 nb5 => ?_⟩
    have U := up1 (o := .lst (ys ++ [V.ref b1, V.ref b2, V.ref b3])) nb5
    replace Sc := Sc.trans U
    replace gg := gg.mono U
    replace LO := U _ _ LO
    replace AO := AO.mono U
    replace k1 := k1.mono U
    replace k2 := k2.mono U
    replace k3 := k3.mono U
    replace LL := U _ _ LL
    have LN := (show upd W5 b5 (.lst (ys ++ [V.ref b1, V.ref b2, V.ref b3])) b5 = some (.lst (ys ++ [V.ref b1, V.ref b2, V.ref b3])) from upd_same)
    clear U nb5
    generalize upd W5 b5 (.lst (ys ++ [V.ref b1, V.ref b2, V.ref b3])) = W6 at *
    refine ⟨b5, _, _, rfl, Sc, LN, ?_, by rw [List.length_append, hyl]; simp; omega⟩
    rw [List.take_add_one, hz]
    show DvAll K _ _ (odds0 ++ (heads.take i ++ [z]).flatMap wrapH)
    rw [flatSnoc, ← List.append_assoc]
    exact AO.app (.cons k1 (.cons k2 (.cons k3 .nil)))
  · rintro σ Hc ⟨ob, ys, hd, rfl, Sc, LO, AO0, hyl⟩
    replace hyl : ys.length = 58 := by (have q : (heads.map V.str).length = 10 := rfl); rw [q] at hyl; omega
    have SS : Same H1 Hc := S.trans Sc
    have gg : Dv K Hc g goodD := hg.mono Sc
    have AO : DvAll K Hc ys odds1 := AO0
    clear AO0 Sc hg S hf hA LH
    refine ⟨_, rfl, ?_⟩
    refine ⟨len_small (by simp), fun c1 nc1 => ?_⟩
    have U := up1 (o := .tup [V.str "call", V.str "a"]) nc1
    replace SS := SS.trans U
    replace gg := gg.mono U
    replace LO := U _ _ LO
    replace AO := AO.mono U
    have k1 := (show Dv K (upd Hc c1 (.tup [V.str "call", V.str "a"])) (.ref c1) (.tuple [.str "call", .str "a"]) from .tup (.inl (.inl upd_same)) (.cons (.str _) (.cons (.str _) .nil)))
    clear U nc1
    generalize upd Hc c1 (.tup [V.str "call", V.str "a"]) = W7 at *
    refine ⟨_, rfl, len_small (by simp), fun c2 nc2 => ?_⟩
    have U := up1 (o := .tup [V.str "call", g]) nc2
    replace SS := SS.trans U
    replace gg := gg.mono U
    replace LO := U _ _ LO
    replace AO := AO.mono U
    replace k1 := k1.mono U
    have k2 := (show Dv K (upd W7 c2 (.tup [V.str "call", g])) (.ref c2) (.tuple [.str "call", goodD]) from .tup (.inl (.inl upd_same)) (.cons (.str _) (.cons (gg) .nil)))
    clear U nc2
    generalize upd W7 c2 (.tup [V.str "call", g]) = W8 at *
    refine ⟨len_small (by simp), fun c3 nc3 => ?_⟩
    have U := up1 (o := .tup [V.str "seq"]) nc3
    replace SS := SS.trans U
    replace gg := gg.mono U
    replace LO := U _ _ LO
    replace AO := AO.mono U
    replace k1 := k1.mono U
    replace k2 := k2.mono U
    have Q1 := (show upd W8 c3 (.tup [V.str "seq"]) c3 = some (.tup [V.str "seq"]) from upd_same)
    clear U nc3
    generalize upd W8 c3 (.tup [V.str "seq"]) = W9 at *
    refine ⟨_, rfl, len_small (by simp), fun c4 nc4 => ?_⟩
    have U := up1 (o := .tup [g]) nc4
    replace SS := SS.trans U
    replace gg := gg.mono U
    replace LO := U _ _ LO
    replace AO := AO.mono U
    replace k1 := k1.mono U
    replace k2 := k2.mono U
    replace Q1 := U _ _ Q1
    have Q2 := (show upd W9 c4 (.tup [g]) c4 = some (.tup [g]) from upd_same)
    clear U nc4
    generalize upd W9 c4 (.tup [g]) = W10 at *
    refine ⟨c4, 60, [g], rfl, rfl, .inl (.inl Q2), by simp, by decide, by decide, by simp, fun c5 nc5 => ?_⟩
    have U := up1 (o := .tup (List.replicate (60 : Int).toNat [g]).flatten) nc5
    replace SS := SS.trans U
    replace gg := gg.mono U
    replace LO := U _ _ LO
    replace AO := AO.mono U
    replace k1 := k1.mono U
    replace k2 := k2.mono U
    replace Q1 := U _ _ Q1
    replace Q2 := U _ _ Q2
    have Q3 := (show upd W10 c5 (.tup (List.replicate (60 : Int).toNat [g]).flatten) c5 = some (.tup (List.replicate 60 g)) from by rw [upd_same, flat1]; rfl)
    clear U nc5
    generalize upd W10 c5 (.tup (List.replicate (60 : Int).toNat [g]).flatten) = W11 at *
    refine ⟨c3, c5, _, _, rfl, rfl, .inl (.inl Q1), .inl (.inl Q3), by simp, len_small (by simp), fun e => (by simp at e), fun _ c6 nc6 => ?_⟩
    have U := up1 (o := .tup ([V.str "seq"] ++ List.replicate 60 g)) nc6
    replace SS := SS.trans U
    replace gg := gg.mono U
    replace LO := U _ _ LO
    replace AO := AO.mono U
    replace k1 := k1.mono U
    replace k2 := k2.mono U
    replace Q1 := U _ _ Q1
    replace Q2 := U _ _ Q2
    replace Q3 := U _ _ Q3
    have k3 := (show Dv K (upd W11 c6 (.tup ([V.str "seq"] ++ List.replicate 60 g))) (.ref c6) (.tuple (.str "seq" :: List.replicate 60 goodD)) from .tup (.inl (.inl upd_same)) (.cons (.str _) (dvRep gg 60)))
    clear U nc6
    generalize upd W11 c6 (.tup ([V.str "seq"] ++ List.replicate 60 g)) = W12 at *
    refine ⟨len_small (by simp), fun c7 nc7 => ?_⟩
    have U := up1 (o := .lst [V.ref c1, V.ref c2, V.ref c6]) nc7
    replace SS := SS.trans U
    replace gg := gg.mono U
    replace LO := U _ _ LO
    replace AO := AO.mono U
    replace k1 := k1.mono U
    replace k2 := k2.mono U
    replace Q1 := U _ _ Q1
    replace Q2 := U _ _ Q2
    replace Q3 := U _ _ Q3
    replace k3 := k3.mono U
    have LL := (show upd W12 c7 (.lst [V.ref c1, V.ref c2, V.ref c6]) c7 = some (.lst [V.ref c1, V.ref c2, V.ref c6]) from upd_same)
    clear U nc7
    generalize upd W12 c7 (.lst [V.ref c1, V.ref c2, V.ref c6]) = W13 at *
    refine ⟨_, _, _, _, rfl, rfl, LO, LL, by rw [sizeLine_eq]; simp; omega, fun c8 nc8 => ?_⟩
    have U := up1 (o := .lst (ys ++ [V.ref c1, V.ref c2, V.ref c6])) nc8
    replace SS := SS.trans U
    replace gg := gg.mono U
    replace LO := U _ _ LO
    replace AO := AO.mono U
    replace k1 := k1.mono U
    replace k2 := k2.mono U
    replace Q1 := U _ _ Q1
    replace Q2 := U _ _ Q2
    replace Q3 := U _ _ Q3
    replace k3 := k3.mono U
    replace LL := U _ _ LL
    have LN := (show upd W13 c8 (.lst (ys ++ [V.ref c1, V.ref c2, V.ref c6])) c8 = some (.lst (ys ++ [V.ref c1, V.ref c2, V.ref c6])) from upd_same)
    clear U nc8
    generalize upd W13 c8 (.lst (ys ++ [V.ref c1, V.ref c2, V.ref c6])) = W14 at *
    have A2 : DvAll K _ (ys ++ [V.ref c1, V.ref c2, V.ref c6]) odds2 := AO.app (.cons k1 (.cons k2 (.cons k3 .nil)))
    have l2 : (ys ++ [V.ref c1, V.ref c2, V.ref c6]).length = 61 := by rw [List.length_append, hyl]; rfl
    clear AO k1 k2 k3 Q1 Q2 Q3 LO LL hyl
    generalize ys ++ [V.ref c1, V.ref c2, V.ref c6] = y2 at *
    refine ⟨_, rfl, rfl, fun p Hp wz S4 LW AW => ⟨p, rfl, ⟨wz, .inl (.inl LW)⟩, fun D nD => ?_⟩⟩
    have lw : wz.length = 22 := by rw [AW.len]; decide +kernel
    refine lc_list (K := K) (a := p) (xs := wz) (fun i Hd => Same Hp Hd ∧ ∃ ts : List Addr, Hd D = some (.lst (ts.map V.ref)) ∧ ts.length ≤ i ∧ Paired (fun t x => Hd t = some (.tup [V.str "do", x])) ts (wz.take i)) ⟨up1 nD, [], upd_same, Nat.le_refl _, .nil⟩ (fun i Hd _ ⟨q, _⟩ => q.seq (.inl (.inl LW))) ?_ ?_
    · rintro i x Hd hi ⟨Sd, ts, Ld, htl, Pd⟩
      refine ⟨rfl, ?_⟩
      have hil : i < wz.length := (List.getElem?_eq_some_iff.mp hi).1
      refine ⟨_, rfl, len_small (by simp), fun tq ntq => ?_⟩
      have U := up1 (o := .tup [V.str "do", x]) ntq
      have LU := U _ _ Ld
      refine ⟨_, LU, small1000 (by rw [List.length_map]; omega), same_at (Sd.trans U) nD, ts ++ [tq], by rw [upd_same, List.map_append]; rfl, by rw [List.length_append]; simp; omega, ?_⟩
      rw [List.take_add_one, hi]
      exact pairSnoc (R := fun (t : Addr) (y : V) => (upd (upd Hd tq (.tup [V.str "do", x])) D (.lst (ts.map V.ref ++ [V.ref tq]))) t = some (.tup [V.str "do", y])) (a := tq) (b := x) (tupU LU upd_same) (L2.Paired.mapP (F := fun (t : Addr) (y : V) => Hd t = some (.tup [V.str "do", y])) (G := fun (t : Addr) (y : V) => (upd (upd Hd tq (.tup [V.str "do", x])) D (.lst (ts.map V.ref ++ [V.ref tq]))) t = some (.tup [V.str "do", y])) Pd fun t y q => tupU LU (U _ _ q))
    · rintro Hd ⟨Sd, ts, Ld, htl, Pd⟩
      have htl2 : ts.length ≤ 22 := by omega
      rw [List.take_length] at Pd
      have S5 := S4.trans Sd
      have A4 : DvAll K Hd (ts.map V.ref) (noNms.map fun d => .tuple [.str "do", d]) := pairDv Pd (AW.mono Sd)
      have LN5 := S5 _ _ LN
      refine ⟨_, _, _, _, rfl, rfl, LN5, Ld, by rw [sizeLine_eq, List.length_map]; omega, fun r nr => ?_⟩
      have U := up1 (o := .lst (y2 ++ ts.map V.ref)) nr
      have A3 : DvAll K (upd Hd r (.lst (y2 ++ ts.map V.ref))) (y2 ++ ts.map V.ref) odds3 := ((A2.mono S5).app A4).mono U
      have LR : (upd Hd r (.lst (y2 ++ ts.map V.ref))) r = some (.lst (y2 ++ ts.map V.ref)) := upd_same
      have S6 := SS.trans (S5.trans U)
      have g6 := gg.mono (S5.trans U)
      have l3 : (y2 ++ ts.map V.ref).length = 83 := by rw [A3.len]; decide +kernel
      clear A2 A4 LN LN5 Ld Pd AW LW nD nr U S5 SS gg htl htl2 lw Sd S4 l2
      generalize upd Hd r (.lst (y2 ++ ts.map V.ref)) = H6 at *
      generalize y2 ++ ts.map V.ref = y3 at *
      refine ⟨_, rfl, r, _, rfl, .inl (.inl (.inl LR)), fun fo nfo => ?_⟩
      have U := up1 (o := .lst y3) nfo
      have LF : (upd H6 fo (.lst y3)) fo = some (.lst y3) := upd_same
      replace A3 := A3.mono U
      replace LR := U _ _ LR
      replace S6 := S6.trans U
      replace g6 := g6.mono U
      clear U nfo
      generalize upd H6 fo (.lst y3) = H7 at *
      refine ⟨_, rfl, r, rfl, ⟨_, .inl (.inl LR)⟩, for_list (K := K) (a := r) (xs := y3) (fun i σ Hc => ∃ (fq : Addr) (zs : List V) (ov : Option V), σ = [some g, some (.ref r), hd, some (.ref fq), ov, none, none, none, none] ∧ Same H7 Hc ∧ Hc fq = some (.lst zs) ∧ DvAll K Hc zs (odds3 ++ (odds3.take i).flatMap wraps) ∧ zs.length = 83 + 4 * i) ⟨fo, y3, none, rfl, Same.refl _, LF, (by rw [List.take_zero, List.flatMap_nil, List.append_nil]; exact A3), by omega⟩ (fun i σ Hc _ ⟨_, _, _, _, q, _⟩ => q.seq (.inl (.inl LR))) ?_ ?_⟩
      · rintro i x σ Hc hi ⟨fq, zs, ov, rfl, Sc, LO, AO, hzl⟩
        obtain ⟨e, he, hx⟩ := A3.get hi
        have hil : i < y3.length := (List.getElem?_eq_some_iff.mp hi).1
        have gx : Dv K Hc x e := hx.mono Sc
        have gg : Dv K Hc g goodD := g6.mono Sc
        refine ⟨_, rfl, ?_⟩
        refine ⟨_, rfl, len_small (by simp), fun d1 nd1 => ?_⟩
        have U := up1 (o := .tup [V.str "rep", x]) nd1
        replace Sc := Sc.trans U
        replace gg := gg.mono U
        replace gx := gx.mono U
        replace LO := U _ _ LO
        replace AO := AO.mono U
        have k1 := (show Dv K (upd Hc d1 (.tup [V.str "rep", x])) (.ref d1) (.tuple [.str "rep", e]) from .tup (.inl (.inl upd_same)) (.cons (.str _) (.cons (gx) .nil)))
        clear U nd1
        generalize upd Hc d1 (.tup [V.str "rep", x]) = W15 at *
        refine ⟨_, rfl, _, rfl, len_small (by simp), fun d2 nd2 => ?_⟩
        have U := up1 (o := .tup [V.str "seq", g, x]) nd2
        replace Sc := Sc.trans U
        replace gg := gg.mono U
        replace gx := gx.mono U
        replace LO := U _ _ LO
        replace AO := AO.mono U
        replace k1 := k1.mono U
        have k2 := (show Dv K (upd W15 d2 (.tup [V.str "seq", g, x])) (.ref d2) (.tuple [.str "seq", goodD, e]) from .tup (.inl (.inl upd_same)) (.cons (.str _) (.cons (gg) (.cons (gx) .nil))))
        clear U nd2
        generalize upd W15 d2 (.tup [V.str "seq", g, x]) = W16 at *
        refine ⟨_, rfl, _, rfl, len_small (by simp), fun d3 nd3 => ?_⟩
        have U := up1 (o := .tup [V.str "or", x, g]) nd3
        replace Sc := Sc.trans U
        replace gg := gg.mono U
        replace gx := gx.mono U
        replace LO := U _ _ LO
        replace AO := AO.mono U
        replace k1 := k1.mono U
        replace k2 := k2.mono U
        have k3 := (show Dv K (upd W16 d3 (.tup [V.str "or", x, g])) (.ref d3) (.tuple [.str "or", e, goodD]) from .tup (.inl (.inl upd_same)) (.cons (.str _) (.cons (gx) (.cons (gg) .nil))))
        clear U nd3
        generalize upd W16 d3 (.tup [V.str "or", x, g]) = W17 at *
        refine ⟨len_small (by simp), fun d4 nd4 => ?_⟩
        have U := up1 (o := .lst [V.ref d1, V.ref d2, V.ref d3]) nd4
        replace Sc := Sc.trans U
        replace gg := gg.mono U
        replace gx := gx.mono U
        replace LO := U _ _ LO
        replace AO := AO.mono U
        replace k1 := k1.mono U
        replace k2 := k2.mono U
        replace k3 := k3.mono U
        have LL := (show upd W17 d4 (.lst [V.ref d1, V.ref d2, V.ref d3]) d4 = some (.lst [V.ref d1, V.ref d2, V.ref d3]) from upd_same)
        clear U nd4
        generalize upd W17 d4 (.lst [V.ref d1, V.ref d2, V.ref d3]) = W18 at *
        refine ⟨_, _, _, _, rfl, rfl, LO, LL, by rw [sizeLine_eq]; simp; omega, fun d5 nd5 => ?_⟩
        have U := up1 (o := .lst (zs ++ [V.ref d1, V.ref d2, V.ref d3])) nd5
        replace Sc := Sc.trans U
        replace gg := gg.mono U
        replace gx := gx.mono U
        replace LO := U _ _ LO
        replace AO := AO.mono U
        replace k1 := k1.mono U
        replace k2 := k2.mono U
        replace k3 := k3.mono U
        replace LL := U _ _ LL
        have LN := (show upd W18 d5 (.lst (zs ++ [V.ref d1, V.ref d2, V.ref d3])) d5 = some (.lst (zs ++ [V.ref d1, V.ref d2, V.ref d3])) from upd_same)
        clear U nd5
        generalize upd W18 d5 (.lst (zs ++ [V.ref d1, V.ref d2, V.ref d3])) = W19 at *
        refine ⟨_, rfl, _, rfl, ?_⟩
        refine ⟨len_small (by simp), fun d6 nd6 => ?_⟩
        have U := up1 (o := .tup [V.str "skip"]) nd6
        replace Sc := Sc.trans U
        replace gg := gg.mono U
        replace gx := gx.mono U
        replace LO := U _ _ LO
        replace AO := AO.mono U
        replace k1 := k1.mono U
        replace k2 := k2.mono U
        replace k3 := k3.mono U
        replace LL := U _ _ LL
        replace LN := U _ _ LN
        have k5 := (show Dv K (upd W19 d6 (.tup [V.str "skip"])) (.ref d6) (.tuple [.str "skip"]) from .tup (.inl (.inl upd_same)) (.cons (.str _) .nil))
        clear U nd6
        generalize upd W19 d6 (.tup [V.str "skip"]) = W20 at *
        refine ⟨_, rfl, len_small (by simp), fun d7 nd7 => ?_⟩
        have U := up1 (o := .tup [V.str "or", g, V.ref d6, x]) nd7
        replace Sc := Sc.trans U
        replace gg := gg.mono U
        replace gx := gx.mono U
        replace LO := U _ _ LO
        replace AO := AO.mono U
        replace k1 := k1.mono U
        replace k2 := k2.mono U
        replace k3 := k3.mono U
        replace LL := U _ _ LL
        replace LN := U _ _ LN
        replace k5 := k5.mono U
        have k6 := (show Dv K (upd W20 d7 (.tup [V.str "or", g, V.ref d6, x])) (.ref d7) (.tuple [.str "or", goodD, .tuple [.str "skip"], e]) from .tup (.inl (.inl upd_same)) (.cons (.str _) (.cons (gg) (.cons (k5) (.cons (gx) .nil)))))
        clear U nd7
        generalize upd W20 d7 (.tup [V.str "or", g, V.ref d6, x]) = W21 at *
        refine ⟨len_small (by simp), fun d8 nd8 => ?_⟩
        have U := up1 (o := .lst [V.ref d7]) nd8
        replace Sc := Sc.trans U
        replace gg := gg.mono U
        replace gx := gx.mono U
        replace LO := U _ _ LO
        replace AO := AO.mono U
        replace k1 := k1.mono U
        replace k2 := k2.mono U
        replace k3 := k3.mono U
        replace LL := U _ _ LL
        replace LN := U _ _ LN
        replace k5 := k5.mono U
        replace k6 := k6.mono U
        have L8 := (show upd W21 d8 (.lst [V.ref d7]) d8 = some (.lst [V.ref d7]) from upd_same)
        clear U nd8
        generalize upd W21 d8 (.lst [V.ref d7]) = W22 at *
        refine ⟨_, _, _, _, rfl, rfl, LN, L8, by rw [sizeLine_eq]; simp; omega, fun d9 nd9 => ?_⟩
        have U := up1 (o := .lst (zs ++ [V.ref d1, V.ref d2, V.ref d3] ++ [V.ref d7])) nd9
        replace Sc := Sc.trans U
        replace gg := gg.mono U
        replace gx := gx.mono U
        replace LO := U _ _ LO
        replace AO := AO.mono U
        replace k1 := k1.mono U
        replace k2 := k2.mono U
        replace k3 := k3.mono U
        replace LL := U _ _ LL
        replace LN := U _ _ LN
        replace k5 := k5.mono U
        replace k6 := k6.mono U
        replace L8 := U _ _ L8
        have L9 := (show upd W22 d9 (.lst (zs ++ [V.ref d1, V.ref d2, V.ref d3] ++ [V.ref d7])) d9 = some (.lst (zs ++ [V.ref d1, V.ref d2, V.ref d3] ++ [V.ref d7])) from upd_same)
        clear U nd9
        generalize upd W22 d9 (.lst (zs ++ [V.ref d1, V.ref d2, V.ref d3] ++ [V.ref d7])) = W23 at *
        refine ⟨d9, _, _, rfl, Sc, L9, ?_, by rw [List.length_append, List.length_append, hzl]; simp; omega⟩
        rw [List.take_add_one, he]
        show DvAll K _ _ (odds3 ++ (odds3.take i ++ [e]).flatMap wraps)
        rw [flatSnoc, ← List.append_assoc, List.append_assoc zs]
        exact AO.app (.cons k1 (.cons k2 (.cons k3 (.cons k6 .nil))))
      · rintro σ Hc ⟨fq, zs, ov, rfl, Sc, LO, AO, hzl⟩
        have et : odds3.take y3.length = odds3 := List.take_of_length_le (by rw [A3.len]; exact Nat.le_refl _)
        rw [et] at AO
        exact q3 Q g _ _ _ _ _ _ fq zs _ Hc (g6.mono Sc) LO AO (by omega) fun p H' ys Sq hp hA => h p H' ys (S6.trans (Sc.trans Sq)) hp hA
end
end L50
namespace L50
open PySem PySem.Spec PyProof.Rows L2 L54
section
variable {P : Program} {w : World} {K : PySem.W.Frag} {mg : Str → Option Value} {base : Heap}
def spNoP (K : PySem.W.Frag) : Sp := fun vs H Q _ => vs = [] ∧ ∀ (p : Addr) (H' : Hp) (ys : List V), Same H H' → H' p = some (.lst ys) → DvAll K H' ys noProgs → Q (.ref p) H'
theorem ok_noprogs {f fN : Addr} {fd fdN : FuncData} (F : Fun K "_law_no_programs" "_law_no_programs" sNoProgs f fd) (T : Bl mg) (FN : Fun K "_law_no_names" "_law_no_names" sNoNames fN fdN) (bN : Binds K fdN [] []) (mN : mg "_law_no_names" = some (.ref fN)) :
    FnOk P w K mg base CX0 2 f fd [] (spNoP K) := by
  refine F.ok scNp (fun vs H Q E h => ?_) (fun cdv A outer s H vs Q E hr h => ?_)
  · obtain ⟨rfl, _⟩ := h
    rfl
  · obtain ⟨rfl, h⟩ := h
    obtain ⟨t2, h2, q2⟩ := np2 (P := P) (w := w) (K := K) (mg := mg) (base := base) (f := f) (cdv := cdv) (A := A) (outer := outer) (s := s) (H := H) (E := E) T FN bN mN hr
    refine ⟨_, pss_cons (ps_set (i := 0) scNp.nd rfl (.inl rfl) (pe_tup (pa_cons pe_str (pa_cons pe_str pa_nil))))
      (pss_cons (ps_set (i := 1) scNp.nd rfl (.inl rfl) (pe_lst (pa_cons pe_non (pa_cons pe_bl (pa_cons pe_int (pa_cons pe_str (pa_cons pe_str (pa_cons pe_str (pa_cons (pe_tup pa_nil) (pa_cons (pe_lst pa_nil) (pa_cons pe_dnewK (pa_cons (pe_tup (pa_cons pe_str pa_nil)) (pa_cons (pe_tup (pa_cons pe_str (pa_cons pe_str (pa_cons pe_str pa_nil)))) (pa_cons (pe_lst (pa_cons pe_str (pa_cons pe_str pa_nil))) pa_nil))))))))))))))
      (pss_cons (ps_set (i := 1) scNp.nd rfl (.inl rfl) (pe_op op_cat (pv 1) (pe_lst (pa_cons (pe_tup (pa_cons pe_str (pa_cons pe_str pa_nil))) (pa_cons (pe_tup (pa_cons pe_str (pa_cons pe_str pa_nil))) pa_nil)))))
      (pss_cons (ps_set (i := 1) scNp.nd rfl (.inl rfl) (pe_op op_cat (pv 1) (pe_lst (pa_cons (pe_lst (pa_cons pe_str pa_nil)) (pa_cons (pe_tup (pa_cons pe_str pa_nil)) (pa_cons (pe_tup (pa_cons pe_str (pa_cons (pv 0) (pa_cons (pv 0) pa_nil)))) (pa_cons (pe_tup (pa_cons pe_str (pa_cons pe_str pa_nil))) (pa_cons (pe_tup (pa_cons pe_str pa_nil)) (pa_cons (pe_tup (pa_cons pe_str (pa_cons (pv 0) pa_nil))) pa_nil)))))))))
      (pss_cons (ps_set (i := 1) scNp.nd rfl (.inl rfl) (pe_op op_cat (pv 1) (pe_lst (pa_cons (pe_tup (pa_cons pe_str (pa_cons (pv 0) pa_nil))) (pa_cons (pe_tup (pa_cons pe_str (pa_cons pe_str (pa_cons pe_str pa_nil)))) pa_nil)))))
      (pss_cons (ps_set (i := 1) scNp.nd rfl (.inl rfl) (pe_op op_cat (pv 1) (pe_lst (pa_cons (pe_tup (pa_cons (pv 0) (pa_cons (pv 0) pa_nil))) (pa_cons (pe_tup (pa_cons pe_non (pa_cons (pv 0) pa_nil))) (pa_cons (pe_tup (pa_cons (pe_lst (pa_cons pe_str pa_nil)) (pa_cons (pv 0) (pa_cons (pv 0) pa_nil)))) (pa_cons (pe_tup (pa_cons pe_str (pa_cons (pe_lst (pa_cons (pv 0) (pa_cons (pv 0) pa_nil))) pa_nil))) pa_nil)))))))
      (pss_cons (ps_set (i := 1) scNp.nd rfl (.inl rfl) (pe_op op_cat (pv 1) (pe_lst (pa_cons (pe_lst (pa_cons pe_str (pa_cons (pv 0) (pa_cons (pv 0) pa_nil)))) (pa_cons (pe_tup (pa_cons pe_dnewK (pa_cons (pv 0) (pa_cons (pv 0) pa_nil)))) pa_nil))))) h2)))))), ?_⟩
    have S : Same H H := Same.refl H
    refine ⟨len_small (by simp), fun gt ngt => ?_⟩
    have U := up1 (o := .tup [V.str "do", V.str "a"]) ngt
    replace S := S.trans U
    have gg := (show Dv K (upd H gt (.tup [V.str "do", V.str "a"])) (.ref gt) goodD from .tup (.inl (.inl upd_same)) (.cons (.str _) (.cons (.str _) .nil)))
    clear U ngt
    generalize upd H gt (.tup [V.str "do", V.str "a"]) = W1 at *
    refine ⟨len_small (by simp), fun a2 na2 => ?_⟩
    have U := up1 (o := .tup []) na2
    replace S := S.trans U
    replace gg := gg.mono U
    have ga2 := (show Dv K (upd W1 a2 (.tup [])) (.ref a2) (PyData.tuple []) from .tup (.inl (.inl upd_same)) .nil)
    clear U na2
    generalize upd W1 a2 (.tup []) = W3 at *
    refine ⟨len_small (by simp), fun a4 na4 => ?_⟩
    have U := up1 (o := .lst []) na4
    replace S := S.trans U
    replace gg := gg.mono U
    replace ga2 := ga2.mono U
    have ga4 := (show Dv K (upd W3 a4 (.lst [])) (.ref a4) (PyData.list []) from .lst (.inl (.inl upd_same)) .nil)
    clear U na4
    generalize upd W3 a4 (.lst []) = W5 at *
    intro a6 na6
    have U := up1 (o := .dK []) na6
    replace S := S.trans U
    replace gg := gg.mono U
    replace ga2 := ga2.mono U
    replace ga4 := ga4.mono U
    have ga6 := (show Dv K (upd W5 a6 (.dK [])) (.ref a6) (.dict []) from .emp upd_same)
    clear U na6
    generalize upd W5 a6 (.dK []) = W7 at *
    refine ⟨len_small (by simp), fun a8 na8 => ?_⟩
    have U := up1 (o := .tup [V.str "do"]) na8
    replace S := S.trans U
    replace gg := gg.mono U
    replace ga2 := ga2.mono U
    replace ga4 := ga4.mono U
    replace ga6 := ga6.mono U
    have ga8 := (show Dv K (upd W7 a8 (.tup [V.str "do"])) (.ref a8) (PyData.tuple [PyData.str "do"]) from .tup (.inl (.inl upd_same)) (.cons (.str _) .nil))
    clear U na8
    generalize upd W7 a8 (.tup [V.str "do"]) = W9 at *
    refine ⟨len_small (by simp), fun a10 na10 => ?_⟩
    have U := up1 (o := .tup [V.str "do", V.str "a", V.str "b"]) na10
    replace S := S.trans U
    replace gg := gg.mono U
    replace ga2 := ga2.mono U
    replace ga4 := ga4.mono U
    replace ga6 := ga6.mono U
    replace ga8 := ga8.mono U
    have ga10 := (show Dv K (upd W9 a10 (.tup [V.str "do", V.str "a", V.str "b"])) (.ref a10) (PyData.tuple [PyData.str "do", PyData.str "a", PyData.str "b"]) from .tup (.inl (.inl upd_same)) (.cons (.str _) (.cons (.str _) (.cons (.str _) .nil))))
    clear U na10
    generalize upd W9 a10 (.tup [V.str "do", V.str "a", V.str "b"]) = W11 at *
    refine ⟨len_small (by simp), fun a12 na12 => ?_⟩
    have U := up1 (o := .lst [V.str "do", V.str "a"]) na12
    replace S := S.trans U
    replace gg := gg.mono U
    replace ga2 := ga2.mono U
    replace ga4 := ga4.mono U
    replace ga6 := ga6.mono U
    replace ga8 := ga8.mono U
    replace ga10 := ga10.mono U
    have ga12 := (show Dv K (upd W11 a12 (.lst [V.str "do", V.str "a"])) (.ref a12) (PyData.list [PyData.str "do", PyData.str "a"]) from .lst (.inl (.inl upd_same)) (.cons (.str _) (.cons (.str _) .nil)))
    clear U na12
    generalize upd W11 a12 (.lst [V.str "do", V.str "a"]) = W13 at *
    refine ⟨len_small (by simp), fun a14 na14 => ?_⟩
    have AL : DvAll K W13 [V.non, V.bl true, V.int 0, V.str "a", V.str "skip", V.str "", V.ref a2, V.ref a4, V.ref a6, V.ref a8, V.ref a10, V.ref a12] [PyData.none, PyData.bool true, PyData.int 0, PyData.str "a", PyData.str "skip", PyData.str "", PyData.tuple [], PyData.list [], PyData.dict [], PyData.tuple [PyData.str "do"], PyData.tuple [PyData.str "do", PyData.str "a", PyData.str "b"], PyData.list [PyData.str "do", PyData.str "a"]] := (.cons (.non) (.cons (.bl _) (.cons (.int _) (.cons (.str _) (.cons (.str _) (.cons (.str _) (.cons (ga2) (.cons (ga4) (.cons (ga6) (.cons (ga8) (.cons (ga10) (.cons (ga12) .nil))))))))))))
    clear ga2
    clear ga4
    clear ga6
    clear ga8
    clear ga10
    clear ga12
    have U := up1 (o := .lst [V.non, V.bl true, V.int 0, V.str "a", V.str "skip", V.str "", V.ref a2, V.ref a4, V.ref a6, V.ref a8, V.ref a10, V.ref a12]) na14
    replace S := S.trans U
    replace gg := gg.mono U
    replace AL := AL.mono U
    have L1 := (show upd W13 a14 (.lst [V.non, V.bl true, V.int 0, V.str "a", V.str "skip", V.str "", V.ref a2, V.ref a4, V.ref a6, V.ref a8, V.ref a10, V.ref a12]) a14 = some (.lst [V.non, V.bl true, V.int 0, V.str "a", V.str "skip", V.str "", V.ref a2, V.ref a4, V.ref a6, V.ref a8, V.ref a10, V.ref a12]) from upd_same)
    clear U na14
    generalize upd W13 a14 (.lst [V.non, V.bl true, V.int 0, V.str "a", V.str "skip", V.str "", V.ref a2, V.ref a4, V.ref a6, V.ref a8, V.ref a10, V.ref a12]) = W15 at *
    have NL : [V.non, V.bl true, V.int 0, V.str "a", V.str "skip", V.str "", V.ref a2, V.ref a4, V.ref a6, V.ref a8, V.ref a10, V.ref a12].length = 12 := by simp
    generalize [V.non, V.bl true, V.int 0, V.str "a", V.str "skip", V.str "", V.ref a2, V.ref a4, V.ref a6, V.ref a8, V.ref a10, V.ref a12] = xs0 at *
    refine ⟨_, rfl, ?_⟩
    refine ⟨len_small (by simp), fun a16 na16 => ?_⟩
    have U := up1 (o := .tup [V.str "DO", V.str "a"]) na16
    replace S := S.trans U
    replace gg := gg.mono U
    replace AL := AL.mono U
    replace L1 := U _ _ L1
    have ga16 := (show Dv K (upd W15 a16 (.tup [V.str "DO", V.str "a"])) (.ref a16) (PyData.tuple [PyData.str "DO", PyData.str "a"]) from .tup (.inl (.inl upd_same)) (.cons (.str _) (.cons (.str _) .nil)))
    clear U na16
    generalize upd W15 a16 (.tup [V.str "DO", V.str "a"]) = W17 at *
    refine ⟨len_small (by simp), fun a18 na18 => ?_⟩
    have U := up1 (o := .tup [V.str "skip", V.str "a"]) na18
    replace S := S.trans U
    replace gg := gg.mono U
    replace AL := AL.mono U
    replace L1 := U _ _ L1
    replace ga16 := ga16.mono U
    have ga18 := (show Dv K (upd W17 a18 (.tup [V.str "skip", V.str "a"])) (.ref a18) (PyData.tuple [PyData.str "skip", PyData.str "a"]) from .tup (.inl (.inl upd_same)) (.cons (.str _) (.cons (.str _) .nil)))
    clear U na18
    generalize upd W17 a18 (.tup [V.str "skip", V.str "a"]) = W19 at *
    refine ⟨len_small (by simp), fun a20 na20 => ?_⟩
    have BL : DvAll K W19 [V.ref a16, V.ref a18] [PyData.tuple [PyData.str "DO", PyData.str "a"], PyData.tuple [PyData.str "skip", PyData.str "a"]] := (.cons (ga16) (.cons (ga18) .nil))
    clear ga16
    clear ga18
    have U := up1 (o := .lst [V.ref a16, V.ref a18]) na20
    replace S := S.trans U
    replace gg := gg.mono U
    replace AL := AL.mono U
    replace L1 := U _ _ L1
    replace BL := BL.mono U
    have L2 := (show upd W19 a20 (.lst [V.ref a16, V.ref a18]) a20 = some (.lst [V.ref a16, V.ref a18]) from upd_same)
    clear U na20
    generalize upd W19 a20 (.lst [V.ref a16, V.ref a18]) = W22 at *
    refine ⟨_, _, _, _, rfl, rfl, L1, L2, len_small (by simp; omega), fun a21 na21 => ?_⟩
    replace AL := DvAll.app AL BL
    clear BL L2 L1
    have U := up1 (o := .lst (xs0 ++ [V.ref a16, V.ref a18])) na21
    replace S := S.trans U
    replace gg := gg.mono U
    replace AL := AL.mono U
    have L1 := (show upd W22 a21 (.lst (xs0 ++ [V.ref a16, V.ref a18])) a21 = some (.lst (xs0 ++ [V.ref a16, V.ref a18])) from upd_same)
    clear U na21
    generalize upd W22 a21 (.lst (xs0 ++ [V.ref a16, V.ref a18])) = W23 at *
    replace NL : (xs0 ++ [V.ref a16, V.ref a18]).length = 14 := by simp; omega
    generalize xs0 ++ [V.ref a16, V.ref a18] = xs24 at *
    refine ⟨_, rfl, ?_⟩
    refine ⟨len_small (by simp), fun a25 na25 => ?_⟩
    have U := up1 (o := .lst [V.str "skip"]) na25
    replace S := S.trans U
    replace gg := gg.mono U
    replace AL := AL.mono U
    replace L1 := U _ _ L1
    have ga25 := (show Dv K (upd W23 a25 (.lst [V.str "skip"])) (.ref a25) (PyData.list [PyData.str "skip"]) from .lst (.inl (.inl upd_same)) (.cons (.str _) .nil))
    clear U na25
    generalize upd W23 a25 (.lst [V.str "skip"]) = W26 at *
    refine ⟨len_small (by simp), fun a27 na27 => ?_⟩
    have U := up1 (o := .tup [V.str "rep"]) na27
    replace S := S.trans U
    replace gg := gg.mono U
    replace AL := AL.mono U
    replace L1 := U _ _ L1
    replace ga25 := ga25.mono U
    have ga27 := (show Dv K (upd W26 a27 (.tup [V.str "rep"])) (.ref a27) (PyData.tuple [PyData.str "rep"]) from .tup (.inl (.inl upd_same)) (.cons (.str _) .nil))
    clear U na27
    generalize upd W26 a27 (.tup [V.str "rep"]) = W28 at *
    refine ⟨_, rfl, ?_⟩
    refine ⟨_, rfl, ?_⟩
    refine ⟨len_small (by simp), fun a29 na29 => ?_⟩
    have U := up1 (o := .tup [V.str "rep", V.ref gt, V.ref gt]) na29
    replace S := S.trans U
    replace gg := gg.mono U
    replace AL := AL.mono U
    replace L1 := U _ _ L1
    replace ga25 := ga25.mono U
    replace ga27 := ga27.mono U
    have ga29 := (show Dv K (upd W28 a29 (.tup [V.str "rep", V.ref gt, V.ref gt])) (.ref a29) (PyData.tuple [PyData.str "rep", goodD, goodD]) from .tup (.inl (.inl upd_same)) (.cons (.str _) (.cons (gg) (.cons (gg) .nil))))
    clear U na29
    generalize upd W28 a29 (.tup [V.str "rep", V.ref gt, V.ref gt]) = W30 at *
    refine ⟨len_small (by simp), fun a31 na31 => ?_⟩
    have U := up1 (o := .tup [V.str "rep", V.str "a"]) na31
    replace S := S.trans U
    replace gg := gg.mono U
    replace AL := AL.mono U
    replace L1 := U _ _ L1
    replace ga25 := ga25.mono U
    replace ga27 := ga27.mono U
    replace ga29 := ga29.mono U
    have ga31 := (show Dv K (upd W30 a31 (.tup [V.str "rep", V.str "a"])) (.ref a31) (PyData.tuple [PyData.str "rep", PyData.str "a"]) from .tup (.inl (.inl upd_same)) (.cons (.str _) (.cons (.str _) .nil)))
    clear U na31
    generalize upd W30 a31 (.tup [V.str "rep", V.str "a"]) = W32 at *
    refine ⟨len_small (by simp), fun a33 na33 => ?_⟩
    have U := up1 (o := .tup [V.str "seq"]) na33
    replace S := S.trans U
    replace gg := gg.mono U
    replace AL := AL.mono U
    replace L1 := U _ _ L1
    replace ga25 := ga25.mono U
    replace ga27 := ga27.mono U
    replace ga29 := ga29.mono U
    replace ga31 := ga31.mono U
    have ga33 := (show Dv K (upd W32 a33 (.tup [V.str "seq"])) (.ref a33) (PyData.tuple [PyData.str "seq"]) from .tup (.inl (.inl upd_same)) (.cons (.str _) .nil))
    clear U na33
    generalize upd W32 a33 (.tup [V.str "seq"]) = W34 at *
    refine ⟨_, rfl, ?_⟩
    refine ⟨len_small (by simp), fun a35 na35 => ?_⟩
    have U := up1 (o := .tup [V.str "seq", V.ref gt]) na35
    replace S := S.trans U
    replace gg := gg.mono U
    replace AL := AL.mono U
    replace L1 := U _ _ L1
    replace ga25 := ga25.mono U
    replace ga27 := ga27.mono U
    replace ga29 := ga29.mono U
    replace ga31 := ga31.mono U
    replace ga33 := ga33.mono U
    have ga35 := (show Dv K (upd W34 a35 (.tup [V.str "seq", V.ref gt])) (.ref a35) (PyData.tuple [PyData.str "seq", goodD]) from .tup (.inl (.inl upd_same)) (.cons (.str _) (.cons (gg) .nil)))
    clear U na35
    generalize upd W34 a35 (.tup [V.str "seq", V.ref gt]) = W36 at *
    refine ⟨len_small (by simp), fun a37 na37 => ?_⟩
    have BL : DvAll K W36 [V.ref a25, V.ref a27, V.ref a29, V.ref a31, V.ref a33, V.ref a35] [PyData.list [PyData.str "skip"], PyData.tuple [PyData.str "rep"], PyData.tuple [PyData.str "rep", goodD, goodD], PyData.tuple [PyData.str "rep", PyData.str "a"], PyData.tuple [PyData.str "seq"], PyData.tuple [PyData.str "seq", goodD]] := (.cons (ga25) (.cons (ga27) (.cons (ga29) (.cons (ga31) (.cons (ga33) (.cons (ga35) .nil))))))
    clear ga25
    clear ga27
    clear ga29
    clear ga31
    clear ga33
    clear ga35
    have U := up1 (o := .lst [V.ref a25, V.ref a27, V.ref a29, V.ref a31, V.ref a33, V.ref a35]) na37
    replace S := S.trans U
    replace gg := gg.mono U
    replace AL := AL.mono U
    replace L1 := U _ _ L1
    replace BL := BL.mono U
    have L2 := (show upd W36 a37 (.lst [V.ref a25, V.ref a27, V.ref a29, V.ref a31, V.ref a33, V.ref a35]) a37 = some (.lst [V.ref a25, V.ref a27, V.ref a29, V.ref a31, V.ref a33, V.ref a35]) from upd_same)
    clear U na37
    generalize upd W36 a37 (.lst [V.ref a25, V.ref a27, V.ref a29, V.ref a31, V.ref a33, V.ref a35]) = W39 at *
    refine ⟨_, _, _, _, rfl, rfl, L1, L2, len_small (by simp; omega), fun a38 na38 => ?_⟩
    replace AL := DvAll.app AL BL
    clear BL L2 L1
    have U := up1 (o := .lst (xs24 ++ [V.ref a25, V.ref a27, V.ref a29, V.ref a31, V.ref a33, V.ref a35])) na38
    replace S := S.trans U
    replace gg := gg.mono U
    replace AL := AL.mono U
    have L1 := (show upd W39 a38 (.lst (xs24 ++ [V.ref a25, V.ref a27, V.ref a29, V.ref a31, V.ref a33, V.ref a35])) a38 = some (.lst (xs24 ++ [V.ref a25, V.ref a27, V.ref a29, V.ref a31, V.ref a33, V.ref a35])) from upd_same)
    clear U na38
    generalize upd W39 a38 (.lst (xs24 ++ [V.ref a25, V.ref a27, V.ref a29, V.ref a31, V.ref a33, V.ref a35])) = W40 at *
    replace NL : (xs24 ++ [V.ref a25, V.ref a27, V.ref a29, V.ref a31, V.ref a33, V.ref a35]).length = 20 := by simp; omega
    generalize xs24 ++ [V.ref a25, V.ref a27, V.ref a29, V.ref a31, V.ref a33, V.ref a35] = xs41 at *
    refine ⟨_, rfl, ?_⟩
    refine ⟨_, rfl, ?_⟩
    refine ⟨len_small (by simp), fun a42 na42 => ?_⟩
    have U := up1 (o := .tup [V.str "or", V.ref gt]) na42
    replace S := S.trans U
    replace gg := gg.mono U
    replace AL := AL.mono U
    replace L1 := U _ _ L1
    have ga42 := (show Dv K (upd W40 a42 (.tup [V.str "or", V.ref gt])) (.ref a42) (PyData.tuple [PyData.str "or", goodD]) from .tup (.inl (.inl upd_same)) (.cons (.str _) (.cons (gg) .nil)))
    clear U na42
    generalize upd W40 a42 (.tup [V.str "or", V.ref gt]) = W43 at *
    refine ⟨len_small (by simp), fun a44 na44 => ?_⟩
    have U := up1 (o := .tup [V.str "or", V.str "a", V.str "b"]) na44
    replace S := S.trans U
    replace gg := gg.mono U
    replace AL := AL.mono U
    replace L1 := U _ _ L1
    replace ga42 := ga42.mono U
    have ga44 := (show Dv K (upd W43 a44 (.tup [V.str "or", V.str "a", V.str "b"])) (.ref a44) (PyData.tuple [PyData.str "or", PyData.str "a", PyData.str "b"]) from .tup (.inl (.inl upd_same)) (.cons (.str _) (.cons (.str _) (.cons (.str _) .nil))))
    clear U na44
    generalize upd W43 a44 (.tup [V.str "or", V.str "a", V.str "b"]) = W45 at *
    refine ⟨len_small (by simp), fun a46 na46 => ?_⟩
    have BL : DvAll K W45 [V.ref a42, V.ref a44] [PyData.tuple [PyData.str "or", goodD], PyData.tuple [PyData.str "or", PyData.str "a", PyData.str "b"]] := (.cons (ga42) (.cons (ga44) .nil))
    clear ga42
    clear ga44
    have U := up1 (o := .lst [V.ref a42, V.ref a44]) na46
    replace S := S.trans U
    replace gg := gg.mono U
    replace AL := AL.mono U
    replace L1 := U _ _ L1
    replace BL := BL.mono U
    have L2 := (show upd W45 a46 (.lst [V.ref a42, V.ref a44]) a46 = some (.lst [V.ref a42, V.ref a44]) from upd_same)
    clear U na46
    generalize upd W45 a46 (.lst [V.ref a42, V.ref a44]) = W48 at *
    refine ⟨_, _, _, _, rfl, rfl, L1, L2, len_small (by simp; omega), fun a47 na47 => ?_⟩
    replace AL := DvAll.app AL BL
    clear BL L2 L1
    have U := up1 (o := .lst (xs41 ++ [V.ref a42, V.ref a44])) na47
    replace S := S.trans U
    replace gg := gg.mono U
    replace AL := AL.mono U
    have L1 := (show upd W48 a47 (.lst (xs41 ++ [V.ref a42, V.ref a44])) a47 = some (.lst (xs41 ++ [V.ref a42, V.ref a44])) from upd_same)
    clear U na47
    generalize upd W48 a47 (.lst (xs41 ++ [V.ref a42, V.ref a44])) = W49 at *
    replace NL : (xs41 ++ [V.ref a42, V.ref a44]).length = 22 := by simp; omega
    generalize xs41 ++ [V.ref a42, V.ref a44] = xs50 at *
    refine ⟨_, rfl, ?_⟩
    refine ⟨_, rfl, ?_⟩
    refine ⟨_, rfl, ?_⟩
    refine ⟨len_small (by simp), fun a51 na51 => ?_⟩
    have U := up1 (o := .tup [V.ref gt, V.ref gt]) na51
    replace S := S.trans U
    replace gg := gg.mono U
    replace AL := AL.mono U
    replace L1 := U _ _ L1
    have ga51 := (show Dv K (upd W49 a51 (.tup [V.ref gt, V.ref gt])) (.ref a51) (PyData.tuple [goodD, goodD]) from .tup (.inl (.inl upd_same)) (.cons (gg) (.cons (gg) .nil)))
    clear U na51
    generalize upd W49 a51 (.tup [V.ref gt, V.ref gt]) = W52 at *
    refine ⟨_, rfl, ?_⟩
    refine ⟨len_small (by simp), fun a53 na53 => ?_⟩
    have U := up1 (o := .tup [V.non, V.ref gt]) na53
    replace S := S.trans U
    replace gg := gg.mono U
    replace AL := AL.mono U
    replace L1 := U _ _ L1
    replace ga51 := ga51.mono U
    have ga53 := (show Dv K (upd W52 a53 (.tup [V.non, V.ref gt])) (.ref a53) (PyData.tuple [PyData.none, goodD]) from .tup (.inl (.inl upd_same)) (.cons (.non) (.cons (gg) .nil)))
    clear U na53
    generalize upd W52 a53 (.tup [V.non, V.ref gt]) = W54 at *
    refine ⟨len_small (by simp), fun a55 na55 => ?_⟩
    have U := up1 (o := .lst [V.str "or"]) na55
    replace S := S.trans U
    replace gg := gg.mono U
    replace AL := AL.mono U
    replace L1 := U _ _ L1
    replace ga51 := ga51.mono U
    replace ga53 := ga53.mono U
    have ga55 := (show Dv K (upd W54 a55 (.lst [V.str "or"])) (.ref a55) (PyData.list [PyData.str "or"]) from .lst (.inl (.inl upd_same)) (.cons (.str _) .nil))
    clear U na55
    generalize upd W54 a55 (.lst [V.str "or"]) = W56 at *
    refine ⟨_, rfl, ?_⟩
    refine ⟨_, rfl, ?_⟩
    refine ⟨len_small (by simp), fun a57 na57 => ?_⟩
    have U := up1 (o := .tup [V.ref a55, V.ref gt, V.ref gt]) na57
    replace S := S.trans U
    replace gg := gg.mono U
    replace AL := AL.mono U
    replace L1 := U _ _ L1
    replace ga51 := ga51.mono U
    replace ga53 := ga53.mono U
    replace ga55 := ga55.mono U
    have ga57 := (show Dv K (upd W56 a57 (.tup [V.ref a55, V.ref gt, V.ref gt])) (.ref a57) (PyData.tuple [PyData.list [PyData.str "or"], goodD, goodD]) from .tup (.inl (.inl upd_same)) (.cons (ga55) (.cons (gg) (.cons (gg) .nil))))
    clear U na57
    generalize upd W56 a57 (.tup [V.ref a55, V.ref gt, V.ref gt]) = W58 at *
    clear ga55
    refine ⟨_, rfl, ?_⟩
    refine ⟨_, rfl, ?_⟩
    refine ⟨len_small (by simp), fun a59 na59 => ?_⟩
    have U := up1 (o := .lst [V.ref gt, V.ref gt]) na59
    replace S := S.trans U
    replace gg := gg.mono U
    replace AL := AL.mono U
    replace L1 := U _ _ L1
    replace ga51 := ga51.mono U
    replace ga53 := ga53.mono U
    replace ga57 := ga57.mono U
    have ga59 := (show Dv K (upd W58 a59 (.lst [V.ref gt, V.ref gt])) (.ref a59) (PyData.list [goodD, goodD]) from .lst (.inl (.inl upd_same)) (.cons (gg) (.cons (gg) .nil)))
    clear U na59
    generalize upd W58 a59 (.lst [V.ref gt, V.ref gt]) = W60 at *
    refine ⟨len_small (by simp), fun a61 na61 => ?_⟩
    have U := up1 (o := .tup [V.str "or", V.ref a59]) na61
    replace S := S.trans U
    replace gg := gg.mono U
    replace AL := AL.mono U
    replace L1 := U _ _ L1
    replace ga51 := ga51.mono U
    replace ga53 := ga53.mono U
    replace ga57 := ga57.mono U
    replace ga59 := ga59.mono U
    have ga61 := (show Dv K (upd W60 a61 (.tup [V.str "or", V.ref a59])) (.ref a61) (PyData.tuple [PyData.str "or", PyData.list [goodD, goodD]]) from .tup (.inl (.inl upd_same)) (.cons (.str _) (.cons (ga59) .nil)))
    clear U na61
    generalize upd W60 a61 (.tup [V.str "or", V.ref a59]) = W62 at *
    clear ga59
    refine ⟨len_small (by simp), fun a63 na63 => ?_⟩
    have BL : DvAll K W62 [V.ref a51, V.ref a53, V.ref a57, V.ref a61] [PyData.tuple [goodD, goodD], PyData.tuple [PyData.none, goodD], PyData.tuple [PyData.list [PyData.str "or"], goodD, goodD], PyData.tuple [PyData.str "or", PyData.list [goodD, goodD]]] := (.cons (ga51) (.cons (ga53) (.cons (ga57) (.cons (ga61) .nil))))
    clear ga51
    clear ga53
    clear ga57
    clear ga61
    have U := up1 (o := .lst [V.ref a51, V.ref a53, V.ref a57, V.ref a61]) na63
    replace S := S.trans U
    replace gg := gg.mono U
    replace AL := AL.mono U
    replace L1 := U _ _ L1
    replace BL := BL.mono U
    have L2 := (show upd W62 a63 (.lst [V.ref a51, V.ref a53, V.ref a57, V.ref a61]) a63 = some (.lst [V.ref a51, V.ref a53, V.ref a57, V.ref a61]) from upd_same)
    clear U na63
    generalize upd W62 a63 (.lst [V.ref a51, V.ref a53, V.ref a57, V.ref a61]) = W65 at *
    refine ⟨_, _, _, _, rfl, rfl, L1, L2, len_small (by simp; omega), fun a64 na64 => ?_⟩
    replace AL := DvAll.app AL BL
    clear BL L2 L1
    have U := up1 (o := .lst (xs50 ++ [V.ref a51, V.ref a53, V.ref a57, V.ref a61])) na64
    replace S := S.trans U
    replace gg := gg.mono U
    replace AL := AL.mono U
    have L1 := (show upd W65 a64 (.lst (xs50 ++ [V.ref a51, V.ref a53, V.ref a57, V.ref a61])) a64 = some (.lst (xs50 ++ [V.ref a51, V.ref a53, V.ref a57, V.ref a61])) from upd_same)
    clear U na64
    generalize upd W65 a64 (.lst (xs50 ++ [V.ref a51, V.ref a53, V.ref a57, V.ref a61])) = W66 at *
    replace NL : (xs50 ++ [V.ref a51, V.ref a53, V.ref a57, V.ref a61]).length = 26 := by simp; omega
    generalize xs50 ++ [V.ref a51, V.ref a53, V.ref a57, V.ref a61] = xs67 at *
    refine ⟨_, rfl, ?_⟩
    refine ⟨_, rfl, ?_⟩
    refine ⟨_, rfl, ?_⟩
    refine ⟨len_small (by simp), fun a68 na68 => ?_⟩
    have U := up1 (o := .lst [V.str "seq", V.ref gt, V.ref gt]) na68
    replace S := S.trans U
    replace gg := gg.mono U
    replace AL := AL.mono U
    replace L1 := U _ _ L1
    have ga68 := (show Dv K (upd W66 a68 (.lst [V.str "seq", V.ref gt, V.ref gt])) (.ref a68) (PyData.list [PyData.str "seq", goodD, goodD]) from .lst (.inl (.inl upd_same)) (.cons (.str _) (.cons (gg) (.cons (gg) .nil))))
    clear U na68
    generalize upd W66 a68 (.lst [V.str "seq", V.ref gt, V.ref gt]) = W69 at *
    intro a70 na70
    have U := up1 (o := .dK []) na70
    replace S := S.trans U
    replace gg := gg.mono U
    replace AL := AL.mono U
    replace L1 := U _ _ L1
    replace ga68 := ga68.mono U
    have ga70 := (show Dv K (upd W69 a70 (.dK [])) (.ref a70) (.dict []) from .emp upd_same)
    clear U na70
    generalize upd W69 a70 (.dK []) = W71 at *
    refine ⟨_, rfl, ?_⟩
    refine ⟨_, rfl, ?_⟩
    refine ⟨len_small (by simp), fun a72 na72 => ?_⟩
    have U := up1 (o := .tup [V.ref a70, V.ref gt, V.ref gt]) na72
    replace S := S.trans U
    replace gg := gg.mono U
    replace AL := AL.mono U
    replace L1 := U _ _ L1
    replace ga68 := ga68.mono U
    replace ga70 := ga70.mono U
    have ga72 := (show Dv K (upd W71 a72 (.tup [V.ref a70, V.ref gt, V.ref gt])) (.ref a72) (PyData.tuple [PyData.dict [], goodD, goodD]) from .tup (.inl (.inl upd_same)) (.cons (ga70) (.cons (gg) (.cons (gg) .nil))))
    clear U na72
    generalize upd W71 a72 (.tup [V.ref a70, V.ref gt, V.ref gt]) = W73 at *
    clear ga70
    refine ⟨len_small (by simp), fun a74 na74 => ?_⟩
    have BL : DvAll K W73 [V.ref a68, V.ref a72] [PyData.list [PyData.str "seq", goodD, goodD], PyData.tuple [PyData.dict [], goodD, goodD]] := (.cons (ga68) (.cons (ga72) .nil))
    clear ga68
    clear ga72
    have U := up1 (o := .lst [V.ref a68, V.ref a72]) na74
    replace S := S.trans U
    replace gg := gg.mono U
    replace AL := AL.mono U
    replace L1 := U _ _ L1
    replace BL := BL.mono U
    have L2 := (show upd W73 a74 (.lst [V.ref a68, V.ref a72]) a74 = some (.lst [V.ref a68, V.ref a72]) from upd_same)
    clear U na74
    generalize upd W73 a74 (.lst [V.ref a68, V.ref a72]) = W76 at *
    refine ⟨_, _, _, _, rfl, rfl, L1, L2, len_small (by simp; omega), fun a75 na75 => ?_⟩
    replace AL := DvAll.app AL BL
    clear BL L2 L1
    have U := up1 (o := .lst (xs67 ++ [V.ref a68, V.ref a72])) na75
    replace S := S.trans U
    replace gg := gg.mono U
    replace AL := AL.mono U
    have L1 := (show upd W76 a75 (.lst (xs67 ++ [V.ref a68, V.ref a72])) a75 = some (.lst (xs67 ++ [V.ref a68, V.ref a72])) from upd_same)
    clear U na75
    generalize upd W76 a75 (.lst (xs67 ++ [V.ref a68, V.ref a72])) = W77 at *
    replace NL : (xs67 ++ [V.ref a68, V.ref a72]).length = 28 := by simp; omega
    generalize xs67 ++ [V.ref a68, V.ref a72] = xs78 at *
    exact q2 Q (V.ref gt) a75 xs78 _ gg L1 AL NL (fun p H' ys Sq hp hA => h p H' ys (S.trans Sq) hp hA)
end
end L50
namespace L50
open PySem PySem.Spec PyProof.Rows L2 L54
section
variable {P : Program} {w : World} {K : PySem.W.Frag} {mg : Str → Option Value} {base : Heap}
abbrev nEd : List Str := ["a", "many", "found", "deep", "other", "k", "skip", "more", "word", "letter"]
theorem scEd : FnScope nEd [] (defScope sEdges) := ⟨rfl, rfl, rfl, by decide +kernel, rfl, by decide +kernel, by decide +kernel⟩
abbrev XE (P : Program) (w : World) (K : PySem.W.Frag) (mg : Str → Option Value) (base : Heap) (f : Addr) (cdv : Value) (A : Around) (outer : List Env) (s : Shared) (H : Hp) (E : XK) : Cx := (cxOf CX0 P w K mg base nEd "_law_edges" (defScope sEdges) f cdv A outer s H E).nox
variable {f : Addr} {cdv : Value} {A : Around} {outer : List Env} {s : Shared} {H : Hp} {E : XK}
def edgesT : List PyData := [.tuple (.str "seq" :: List.replicate 59 skipD), .tuple (.str "seq" :: List.replicate 60 skipD), .tuple ([.str "or", goodD] ++ List.replicate 58 skipD), .tuple ([.str "or", goodD] ++ List.replicate 59 skipD)]
theorem dvStrs {K : PySem.W.Frag} {H : Hp} : ∀ zs : List Str, DvAll K H (zs.map V.str) (zs.map PyData.str)
  | [] => .nil
  | z :: zs => .cons (.str z) (dvStrs zs)
theorem ed2 (T : Bl mg) : ∃ t, PSs (XE P w K mg base f cdv A outer s H E) ((defBody sEdges).drop 8) t ∧ ∀ (Q : VK) (g : V) (o1 o3 o4 o5 : Option V) (fo : Addr) (xs : List V) (ds : List PyData) (H1 : Hp), Dv K H1 g goodD → H1 fo = some (.lst xs) → DvAll K H1 xs ds → xs.length ≤ 1000 →
    (∀ (p : Addr) (H' : Hp) (ys : List V), Same H1 H' → H' p = some (.lst ys) → DvAll K H' ys (ds ++ edgesT ++ (moreW.map fun z => .tuple [.str "do", .str z]) ++ edgeSigns.cps.toList.flatMap edgesL) → Q (.ref p) H') →
    t { nx := fun _ H' => Q .non H', rt := Q } [some g, o1, some (.ref fo), o3, o4, o5, none, none, none, none] H1 := by
  refine ⟨_, pss_cons (ps_set (i := 6) scEd.nd rfl (.inl rfl) (pe_tup (pa_cons pe_str pa_nil)))
    (pss_cons (ps_set (i := 2) scEd.nd rfl (.inl rfl) (pe_op op_cat (pv 2) (pe_lst (pa_cons (pe_op op_catT (pe_tup (pa_cons pe_str pa_nil)) (pe_op op_repT (pe_tup (pa_cons (pv 6) pa_nil)) pe_int)) (pa_cons (pe_op op_catT (pe_tup (pa_cons pe_str pa_nil)) (pe_op op_repT (pe_tup (pa_cons (pv 6) pa_nil)) pe_int)) pa_nil)))))
    (pss_cons (ps_set (i := 2) scEd.nd rfl (.inl rfl) (pe_op op_cat (pv 2) (pe_lst (pa_cons (pe_op op_catT (pe_tup (pa_cons pe_str (pa_cons (pv 0) pa_nil))) (pe_op op_repT (pe_tup (pa_cons (pv 6) pa_nil)) pe_int)) (pa_cons (pe_op op_catT (pe_tup (pa_cons pe_str (pa_cons (pv 0) pa_nil))) (pe_op op_repT (pe_tup (pa_cons (pv 6) pa_nil)) pe_int)) pa_nil)))))
    (pss_cons (ps_set (i := 7) scEd.nd rfl (.inl rfl) (pe_lst (pa_cons pe_str (pa_cons pe_str (pa_cons pe_str (pa_cons pe_str (pa_cons pe_str (pa_cons pe_str (pa_cons pe_str (pa_cons pe_str (pa_cons pe_str (pa_cons pe_str pa_nil))))))))))))
    (pss_cons (ps_set (i := 7) scEd.nd rfl (.inl rfl) (pe_op op_cat (pv 7) (pe_lst (pa_cons pe_str (pa_cons pe_str (pa_cons pe_str pa_nil))))))
    (pss_cons (ps_set (i := 2) scEd.nd rfl (.inl rfl) (pe_op op_cat (pv 2) (pe_lc (own := [("word", 8)]) (g := gName 8) (tt := tYes) rfl scEd.nd (pi_list (pv 7)) (blkOk_by (N := nEd) (sc := defScope sEdges) (by decide +kernel)) (fun _ _ _ _ _ => pg_name (i := 8) scEd.nd rfl (Or.inl rfl)) (fun _ _ _ _ _ => pts_nil)
        (fun _ _ _ _ _ => pe_tup (pa_cons pe_str (pa_cons (pv 8) pa_nil))))))
    (pss_cons (ps_for PassesOwn.never rfl (pi_str pe_str) (pg_name (i := 9) scEd.nd rfl (Or.inl rfl)) (pss_one (ps_set (i := 2) scEd.nd rfl (.inl rfl) (pe_op op_cat (pv 2) (pe_lst (pa_cons (pe_tup (pa_cons pe_str (pa_cons (pv 9) pa_nil))) (pa_cons (pe_tup (pa_cons pe_str (pa_cons (pe_op op_add_str pe_str (pv 9)) pa_nil))) (pa_cons (pe_tup (pa_cons pe_str (pa_cons (pe_tup (pa_cons pe_str (pa_cons (pe_op op_add_str pe_str (pv 9)) pa_nil))) (pa_cons (pe_tup (pa_cons pe_str pa_nil)) pa_nil)))) pa_nil))))))))
    (pss_one (ps_ret (pv 2))))))))), ?_⟩
  intro Q g o1 o3 o4 o5 fo xs ds H1 hg hf hA hl h
  have S : Same H1 H1 := Same.refl H1
  refine ⟨len_small (by simp), fun sk nsk => ?_⟩
  have U := up1 (o := .tup [V.str "skip"]) nsk
  replace S := S.trans U
  replace hg := hg.mono U
  replace hf := U _ _ hf
  replace hA := hA.mono U
  have gs := (show Dv K (upd H1 sk (.tup [V.str "skip"])) (.ref sk) skipD from .tup (.inl (.inl upd_same)) (.cons (.str _) .nil))
  clear U nsk
  generalize upd H1 sk (.tup [V.str "skip"]) = W1 at *
  refine ⟨_, rfl, ?_⟩
  refine ⟨len_small (by simp), fun p1 np1 => ?_⟩
  have U := up1 (o := .tup [V.str "seq"]) np1
  replace S := S.trans U
  replace hg := hg.mono U
  replace hf := U _ _ hf
  replace hA := hA.mono U
  replace gs := gs.mono U
  have Q1 := (show upd W1 p1 (.tup [V.str "seq"]) p1 = some (.tup [V.str "seq"]) from upd_same)
  clear U np1
  generalize upd W1 p1 (.tup [V.str "seq"]) = W2 at *
  refine ⟨_, rfl, len_small (by simp), fun q1 nq1 => ?_⟩
  have U := up1 (o := .tup [V.ref sk]) nq1
  replace S := S.trans U
  replace hg := hg.mono U
  replace hf := U _ _ hf
  replace hA := hA.mono U
  replace gs := gs.mono U
  replace Q1 := U _ _ Q1
  have Q2 := (show upd W2 q1 (.tup [V.ref sk]) q1 = some (.tup [V.ref sk]) from upd_same)
  clear U nq1
  generalize upd W2 q1 (.tup [V.ref sk]) = W3 at *
  refine ⟨q1, 59, [V.ref sk], rfl, rfl, .inl (.inl Q2), by simp, by decide, by decide, by simp, fun r1 nr1 => ?_⟩
  have U := up1 (o := .tup (List.replicate (59 : Int).toNat [V.ref sk]).flatten) nr1
  replace S := S.trans U
  replace hg := hg.mono U
  replace hf := U _ _ hf
  replace hA := hA.mono U
  replace gs := gs.mono U
  replace Q1 := U _ _ Q1
  replace Q2 := U _ _ Q2
  have Q3 := (show upd W3 r1 (.tup (List.replicate (59 : Int).toNat [V.ref sk]).flatten) r1 = some (.tup (List.replicate 59 (V.ref sk))) from by rw [upd_same, flat1]; rfl)
  clear U nr1
  generalize upd W3 r1 (.tup (List.replicate (59 : Int).toNat [V.ref sk]).flatten) = W4 at *
  refine ⟨p1, r1, _, _, rfl, rfl, .inl (.inl Q1), .inl (.inl Q3), by simp, len_small (by simp), fun e => (by simp at e), fun _ t1 nt1 => ?_⟩
  have U := up1 (o := .tup ([V.str "seq"] ++ List.replicate 59 (V.ref sk))) nt1
  replace S := S.trans U
  replace hg := hg.mono U
  replace hf := U _ _ hf
  replace hA := hA.mono U
  replace gs := gs.mono U
  replace Q1 := U _ _ Q1
  replace Q2 := U _ _ Q2
  replace Q3 := U _ _ Q3
  have k1 := (show Dv K (upd W4 t1 (.tup ([V.str "seq"] ++ List.replicate 59 (V.ref sk)))) (.ref t1) (.tuple ([.str "seq"] ++ List.replicate 59 skipD)) from .tup (.inl (.inl upd_same)) (DvAll.app (.cons (.str _) .nil) (dvRep gs 59)))
  clear U nt1
  generalize upd W4 t1 (.tup ([V.str "seq"] ++ List.replicate 59 (V.ref sk))) = W5 at *
  clear Q1 Q2 Q3
  refine ⟨len_small (by simp), fun p2 np2 => ?_⟩
  have U := up1 (o := .tup [V.str "seq"]) np2
  replace S := S.trans U
  replace hg := hg.mono U
  replace hf := U _ _ hf
  replace hA := hA.mono U
  replace gs := gs.mono U
  replace k1 := k1.mono U
  have Q1 := (show upd W5 p2 (.tup [V.str "seq"]) p2 = some (.tup [V.str "seq"]) from upd_same)
  clear U np2
  generalize upd W5 p2 (.tup [V.str "seq"]) = W6 at *
  refine ⟨_, rfl, len_small (by simp), fun q2 nq2 => ?_⟩
  have U := up1 (o := .tup [V.ref sk]) nq2
  replace S := S.trans U
  replace hg := hg.mono U
  replace hf := U _ _ hf
  replace hA := hA.mono U
  replace gs := gs.mono U
  replace k1 := k1.mono U
  replace Q1 := U _ _ Q1
  have Q2 := (show upd W6 q2 (.tup [V.ref sk]) q2 = some (.tup [V.ref sk]) from upd_same)
  clear U nq2
  generalize upd W6 q2 (.tup [V.ref sk]) = W7 at *
  refine ⟨q2, 60, [V.ref sk], rfl, rfl, .inl (.inl Q2), by simp, by decide, by decide, by simp, fun r2 nr2 => ?_⟩
  have U := up1 (o := .tup (List.replicate (60 : Int).toNat [V.ref sk]).flatten) nr2
  replace S := S.trans U
  replace hg := hg.mono U
  replace hf := U _ _ hf
  replace hA := hA.mono U
  replace gs := gs.mono U
  replace k1 := k1.mono U
  replace Q1 := U _ _ Q1
  replace Q2 := U _ _ Q2
  have Q3 := (show upd W7 r2 (.tup (List.replicate (60 : Int).toNat [V.ref sk]).flatten) r2 = some (.tup (List.replicate 60 (V.ref sk))) from by rw [upd_same, flat1]; rfl)
  clear U nr2
  generalize upd W7 r2 (.tup (List.replicate (60 : Int).toNat [V.ref sk]).flatten) = W8 at *
  refine ⟨p2, r2, _, _, rfl, rfl, .inl (.inl Q1), .inl (.inl Q3), by simp, len_small (by simp), fun e => (by simp at e), fun _ t2 nt2 => ?_⟩
  have U := up1 (o := .tup ([V.str "seq"] ++ List.replicate 60 (V.ref sk))) nt2
  replace S := S.trans U
  replace hg := hg.mono U
  replace hf := U _ _ hf
  replace hA := hA.mono U
  replace gs := gs.mono U
  replace k1 := k1.mono U
  replace Q1 := U _ _ Q1
  replace Q2 := U _ _ Q2
  replace Q3 := U _ _ Q3
  have k2 := (show Dv K (upd W8 t2 (.tup ([V.str "seq"] ++ List.replicate 60 (V.ref sk)))) (.ref t2) (.tuple ([.str "seq"] ++ List.replicate 60 skipD)) from .tup (.inl (.inl upd_same)) (DvAll.app (.cons (.str _) .nil) (dvRep gs 60)))
  clear U nt2
  generalize upd W8 t2 (.tup ([V.str "seq"] ++ List.replicate 60 (V.ref sk))) = W9 at *
  clear Q1 Q2 Q3
  refine ⟨len_small (by simp), fun l3 nl3 => ?_⟩
  have U := up1 (o := .lst [V.ref t1, V.ref t2]) nl3
  replace S := S.trans U
  replace hg := hg.mono U
  replace hf := U _ _ hf
  replace hA := hA.mono U
  replace gs := gs.mono U
  replace k1 := k1.mono U
  replace k2 := k2.mono U
  have LL := (show upd W9 l3 (.lst [V.ref t1, V.ref t2]) l3 = some (.lst [V.ref t1, V.ref t2]) from upd_same)
  clear U nl3
  generalize upd W9 l3 (.lst [V.ref t1, V.ref t2]) = W10 at *
  refine ⟨_, _, _, _, rfl, rfl, hf, LL, by rw [sizeLine_eq]; simp; omega, fun m3 nm3 => ?_⟩
  replace hA := DvAll.app hA (.cons k1 (.cons k2 .nil))
  clear hf LL
  have U := up1 (o := .lst (xs ++ [V.ref t1, V.ref t2])) nm3
  replace S := S.trans U
  replace hg := hg.mono U
  replace hA := hA.mono U
  replace gs := gs.mono U
  replace k1 := k1.mono U
  replace k2 := k2.mono U
  have hf := (show upd W10 m3 (.lst (xs ++ [V.ref t1, V.ref t2])) m3 = some (.lst (xs ++ [V.ref t1, V.ref t2])) from upd_same)
  clear U nm3
  generalize upd W10 m3 (.lst (xs ++ [V.ref t1, V.ref t2])) = W11 at *
  replace hl : (xs ++ [V.ref t1, V.ref t2]).length ≤ 1002 := by simp; omega
  generalize xs ++ [V.ref t1, V.ref t2] = ys3 at *
  clear k1 k2
  refine ⟨_, rfl, ?_⟩
  refine ⟨_, rfl, len_small (by simp), fun p4 np4 => ?_⟩
  have U := up1 (o := .tup [V.str "or", g]) np4
  replace S := S.trans U
  replace hg := hg.mono U
  replace hA := hA.mono U
  replace gs := gs.mono U
  replace hf := U _ _ hf
  have Q1 := (show upd W11 p4 (.tup [V.str "or", g]) p4 = some (.tup [V.str "or", g]) from upd_same)
  clear U np4
  generalize upd W11 p4 (.tup [V.str "or", g]) = W12 at *
  refine ⟨_, rfl, len_small (by simp), fun q4 nq4 => ?_⟩
  have U := up1 (o := .tup [V.ref sk]) nq4
  replace S := S.trans U
  replace hg := hg.mono U
  replace hA := hA.mono U
  replace gs := gs.mono U
  replace hf := U _ _ hf
  replace Q1 := U _ _ Q1
  have Q2 := (show upd W12 q4 (.tup [V.ref sk]) q4 = some (.tup [V.ref sk]) from upd_same)
  clear U nq4
  generalize upd W12 q4 (.tup [V.ref sk]) = W13 at *
  refine ⟨q4, 58, [V.ref sk], rfl, rfl, .inl (.inl Q2), by simp, by decide, by decide, by simp, fun r4 nr4 => ?_⟩
  have U := up1 (o := .tup (List.replicate (58 : Int).toNat [V.ref sk]).flatten) nr4
  replace S := S.trans U
  replace hg := hg.mono U
  replace hA := hA.mono U
  replace gs := gs.mono U
  replace hf := U _ _ hf
  replace Q1 := U _ _ Q1
  replace Q2 := U _ _ Q2
  have Q3 := (show upd W13 r4 (.tup (List.replicate (58 : Int).toNat [V.ref sk]).flatten) r4 = some (.tup (List.replicate 58 (V.ref sk))) from by rw [upd_same, flat1]; rfl)
  clear U nr4
  generalize upd W13 r4 (.tup (List.replicate (58 : Int).toNat [V.ref sk]).flatten) = W14 at *
  refine ⟨p4, r4, _, _, rfl, rfl, .inl (.inl Q1), .inl (.inl Q3), by simp, len_small (by simp), fun e => (by simp at e), fun _ t4 nt4 => ?_⟩
  have U := up1 (o := .tup ([V.str "or", g] ++ List.replicate 58 (V.ref sk))) nt4
  replace S := S.trans U
  replace hg := hg.mono U
  replace hA := hA.mono U
  replace gs := gs.mono U
  replace hf := U _ _ hf
  replace Q1 := U _ _ Q1
  replace Q2 := U _ _ Q2
  replace Q3 := U _ _ Q3
  have k1 := (show Dv K (upd W14 t4 (.tup ([V.str "or", g] ++ List.replicate 58 (V.ref sk)))) (.ref t4) (.tuple ([.str "or", goodD] ++ List.replicate 58 skipD)) from .tup (.inl (.inl upd_same)) (DvAll.app (.cons (.str _) (.cons hg .nil)) (dvRep gs 58)))
  clear U nt4
  generalize upd W14 t4 (.tup ([V.str "or", g] ++ List.replicate 58 (V.ref sk))) = W15 at *
  clear Q1 Q2 Q3
  refine ⟨_, rfl, len_small (by simp), fun p5 np5 => ?_⟩
  have U := up1 (o := .tup [V.str "or", g]) np5
  replace S := S.trans U
  replace hg := hg.mono U
  replace hA := hA.mono U
  replace gs := gs.mono U
  replace hf := U _ _ hf
  replace k1 := k1.mono U
  have Q1 := (show upd W15 p5 (.tup [V.str "or", g]) p5 = some (.tup [V.str "or", g]) from upd_same)
  clear U np5
  generalize upd W15 p5 (.tup [V.str "or", g]) = W16 at *
  refine ⟨_, rfl, len_small (by simp), fun q5 nq5 => ?_⟩
  have U := up1 (o := .tup [V.ref sk]) nq5
  replace S := S.trans U
  replace hg := hg.mono U
  replace hA := hA.mono U
  replace gs := gs.mono U
  replace hf := U _ _ hf
  replace k1 := k1.mono U
  replace Q1 := U _ _ Q1
  have Q2 := (show upd W16 q5 (.tup [V.ref sk]) q5 = some (.tup [V.ref sk]) from upd_same)
  clear U nq5
  generalize upd W16 q5 (.tup [V.ref sk]) = W17 at *
  refine ⟨q5, 59, [V.ref sk], rfl, rfl, .inl (.inl Q2), by simp, by decide, by decide, by simp, fun r5 nr5 => ?_⟩
  have U := up1 (o := .tup (List.replicate (59 : Int).toNat [V.ref sk]).flatten) nr5
  replace S := S.trans U
  replace hg := hg.mono U
  replace hA := hA.mono U
  replace gs := gs.mono U
  replace hf := U _ _ hf
  replace k1 := k1.mono U
  replace Q1 := U _ _ Q1
  replace Q2 := U _ _ Q2
  have Q3 := (show upd W17 r5 (.tup (List.replicate (59 : Int).toNat [V.ref sk]).flatten) r5 = some (.tup (List.replicate 59 (V.ref sk))) from by rw [upd_same, flat1]; rfl)
  clear U nr5
  generalize upd W17 r5 (.tup (List.replicate (59 : Int).toNat [V.ref sk]).flatten) = W18 at *
  refine ⟨p5, r5, _, _, rfl, rfl, .inl (.inl Q1), .inl (.inl Q3), by simp, len_small (by simp), fun e => (by simp at e), fun _ t5 nt5 => ?_⟩
  have U := up1 (o := .tup ([V.str "or", g] ++ List.replicate 59 (V.ref sk))) nt5
  replace S := S.trans U
  replace hg := hg.mono U
  replace hA := hA.mono U
  replace gs := gs.mono U
  replace hf := U _ _ hf
  replace k1 := k1.mono U
  replace Q1 := U _ _ Q1
  replace Q2 := U _ _ Q2
  replace Q3 := U _ _ Q3
  have k2 := (show Dv K (upd W18 t5 (.tup ([V.str "or", g] ++ List.replicate 59 (V.ref sk)))) (.ref t5) (.tuple ([.str "or", goodD] ++ List.replicate 59 skipD)) from .tup (.inl (.inl upd_same)) (DvAll.app (.cons (.str _) (.cons hg .nil)) (dvRep gs 59)))
  clear U nt5
  generalize upd W18 t5 (.tup ([V.str "or", g] ++ List.replicate 59 (V.ref sk))) = W19 at *
  clear Q1 Q2 Q3
  refine ⟨len_small (by simp), fun l6 nl6 => ?_⟩
  have U := up1 (o := .lst [V.ref t4, V.ref t5]) nl6
  replace S := S.trans U
  replace hg := hg.mono U
  replace hA := hA.mono U
  replace gs := gs.mono U
  replace hf := U _ _ hf
  replace k1 := k1.mono U
  replace k2 := k2.mono U
  have LL := (show upd W19 l6 (.lst [V.ref t4, V.ref t5]) l6 = some (.lst [V.ref t4, V.ref t5]) from upd_same)
  clear U nl6
  generalize upd W19 l6 (.lst [V.ref t4, V.ref t5]) = W20 at *
  refine ⟨_, _, _, _, rfl, rfl, hf, LL, by rw [sizeLine_eq]; simp; omega, fun m6 nm6 => ?_⟩
  replace hA := DvAll.app hA (.cons k1 (.cons k2 .nil))
  clear hf LL
  have U := up1 (o := .lst (ys3 ++ [V.ref t4, V.ref t5])) nm6
  replace S := S.trans U
  replace hg := hg.mono U
  replace hA := hA.mono U
  replace gs := gs.mono U
  replace k1 := k1.mono U
  replace k2 := k2.mono U
  have hf := (show upd W20 m6 (.lst (ys3 ++ [V.ref t4, V.ref t5])) m6 = some (.lst (ys3 ++ [V.ref t4, V.ref t5])) from upd_same)
  clear U nm6
  generalize upd W20 m6 (.lst (ys3 ++ [V.ref t4, V.ref t5])) = W21 at *
  replace hl : (ys3 ++ [V.ref t4, V.ref t5]).length ≤ 1004 := by simp; omega
  generalize ys3 ++ [V.ref t4, V.ref t5] = ys6 at *
  clear k1 k2
  refine ⟨len_small (by simp), fun m0 nm0 => ?_⟩
  have U := up1 (o := .lst [V.str "call", V.str "kill", V.str "both", V.str "forward", V.str "given", V.str "join", V.str "last", V.str "tail", V.str "gen", V.str "pass"]) nm0
  replace S := S.trans U
  replace hg := hg.mono U
  replace hA := hA.mono U
  replace gs := gs.mono U
  replace hf := U _ _ hf
  have M0 := (show upd W21 m0 (.lst [V.str "call", V.str "kill", V.str "both", V.str "forward", V.str "given", V.str "join", V.str "last", V.str "tail", V.str "gen", V.str "pass"]) m0 = some (.lst [V.str "call", V.str "kill", V.str "both", V.str "forward", V.str "given", V.str "join", V.str "last", V.str "tail", V.str "gen", V.str "pass"]) from upd_same)
  clear U nm0
  generalize upd W21 m0 (.lst [V.str "call", V.str "kill", V.str "both", V.str "forward", V.str "given", V.str "join", V.str "last", V.str "tail", V.str "gen", V.str "pass"]) = W22 at *
  refine ⟨_, rfl, len_small (by simp), fun m9 nm9 => ?_⟩
  have U := up1 (o := .lst [V.str "seq", V.str "word", V.str "names"]) nm9
  replace S := S.trans U
  replace hg := hg.mono U
  replace hA := hA.mono U
  replace gs := gs.mono U
  replace hf := U _ _ hf
  replace M0 := U _ _ M0
  have M9 := (show upd W22 m9 (.lst [V.str "seq", V.str "word", V.str "names"]) m9 = some (.lst [V.str "seq", V.str "word", V.str "names"]) from upd_same)
  clear U nm9
  generalize upd W22 m9 (.lst [V.str "seq", V.str "word", V.str "names"]) = W23 at *
  refine ⟨_, _, _, _, rfl, rfl, M0, M9, len_small (by simp), fun ml nml => ?_⟩
  have U := up1 (o := .lst ([V.str "call", V.str "kill", V.str "both", V.str "forward", V.str "given", V.str "join", V.str "last", V.str "tail", V.str "gen", V.str "pass"] ++ [V.str "seq", V.str "word", V.str "names"])) nml
  replace S := S.trans U
  replace hg := hg.mono U
  replace hA := hA.mono U
  replace gs := gs.mono U
  replace hf := U _ _ hf
  replace M0 := U _ _ M0
  replace M9 := U _ _ M9
  have LM := (show upd W23 ml (.lst ([V.str "call", V.str "kill", V.str "both", V.str "forward", V.str "given", V.str "join", V.str "last", V.str "tail", V.str "gen", V.str "pass"] ++ [V.str "seq", V.str "word", V.str "names"])) ml = some (.lst (moreW.map V.str)) from upd_same)
  clear U nml
  generalize upd W23 ml (.lst ([V.str "call", V.str "kill", V.str "both", V.str "forward", V.str "given", V.str "join", V.str "last", V.str "tail", V.str "gen", V.str "pass"] ++ [V.str "seq", V.str "word", V.str "names"])) = W24 at *
  clear M0 M9
  refine ⟨_, rfl, ?_⟩
  refine ⟨_, rfl, ml, rfl, ⟨_, .inl (.inl LM)⟩, fun D nD => ?_⟩
  refine lc_list (K := K) (a := ml) (xs := moreW.map V.str) (fun i Hd => Same W24 Hd ∧ ∃ ts : List Addr, Hd D = some (.lst (ts.map V.ref)) ∧ ts.length ≤ i ∧ Paired (fun t x => Hd t = some (.tup [V.str "do", x])) ts ((moreW.map V.str).take i)) ⟨up1 nD, [], upd_same, Nat.le_refl _, .nil⟩ (fun i Hd _ ⟨q, _⟩ => q.seq (.inl (.inl LM))) ?_ ?_
  · rintro i x Hd hi ⟨Sd, ts, Ld, htl, Pd⟩
    refine ⟨rfl, ?_⟩
    have hil : i < 13 := (List.getElem?_eq_some_iff.mp hi).1
    refine ⟨_, rfl, len_small (by simp), fun tq ntq => ?_⟩
    have U := up1 (o := .tup [V.str "do", x]) ntq
    have LU := U _ _ Ld
    refine ⟨_, LU, small1000 (by rw [List.length_map]; omega), same_at (Sd.trans U) nD, ts ++ [tq], by rw [upd_same, List.map_append]; rfl, by rw [List.length_append]; simp; omega, ?_⟩
    rw [List.take_add_one, hi]
    exact pairSnoc (R := fun (t : Addr) (y : V) => (upd (upd Hd tq (.tup [V.str "do", x])) D (.lst (ts.map V.ref ++ [V.ref tq]))) t = some (.tup [V.str "do", y])) (a := tq) (b := x) (tupU LU upd_same) (L2.Paired.mapP (F := fun (t : Addr) (y : V) => Hd t = some (.tup [V.str "do", y])) (G := fun (t : Addr) (y : V) => (upd (upd Hd tq (.tup [V.str "do", x])) D (.lst (ts.map V.ref ++ [V.ref tq]))) t = some (.tup [V.str "do", y])) Pd fun t y q => tupU LU (U _ _ q))
  · rintro Hd ⟨Sd, ts, Ld, htl, Pd⟩
    have htl2 : ts.length ≤ 13 := htl
    rw [List.take_length] at Pd
    have A4 : DvAll K Hd (ts.map V.ref) ((moreW.map PyData.str).map fun d => .tuple [.str "do", d]) := pairDv Pd (dvStrs moreW)
    refine ⟨_, _, _, _, rfl, rfl, Sd _ _ hf, Ld, by rw [sizeLine_eq, List.length_map]; omega, fun r nr => ?_⟩
    have U := up1 (o := .lst (ys6 ++ ts.map V.ref)) nr
    have A5 := ((hA.mono Sd).app A4).mono U
    have LR : (upd Hd r (.lst (ys6 ++ ts.map V.ref))) r = some (.lst (ys6 ++ ts.map V.ref)) := upd_same
    have S6 := S.trans (Sd.trans U)
    have l5 : (ys6 ++ ts.map V.ref).length ≤ 1017 := by rw [List.length_append, List.length_map]; omega
    clear A4 hA hf LM Ld Pd nD nr U S htl htl2 Sd
    generalize upd Hd r (.lst (ys6 ++ ts.map V.ref)) = H6 at *
    generalize ys6 ++ ts.map V.ref = y3 at *
    have eD : ds ++ [.tuple ([.str "seq"] ++ List.replicate 59 skipD), .tuple ([.str "seq"] ++ List.replicate 60 skipD)] ++ [.tuple ([.str "or", goodD] ++ List.replicate 58 skipD), .tuple ([.str "or", goodD] ++ List.replicate 59 skipD)] ++ (moreW.map PyData.str).map (fun d => PyData.tuple [.str "do", d]) = ds ++ edgesT ++ (moreW.map fun z => PyData.tuple [.str "do", .str z]) := by
      rw [List.map_map, List.append_assoc ds]
      rfl
    rw [eD] at A5
    generalize ds ++ edgesT ++ (moreW.map fun z => PyData.tuple [.str "do", .str z]) = D0 at *
    refine ⟨edgeSigns, rfl, for_it (walk_str (z := edgeSigns)) (fun i σ Hc => ∃ (fq : Addr) (zs : List V) (lt : Option V), σ = [some g, o1, some (.ref fq), o3, o4, o5, some (.ref sk), some (.ref ml), none, lt] ∧ Same H6 Hc ∧ Hc fq = some (.lst zs) ∧ DvAll K Hc zs (D0 ++ (edgeSigns.cps.toList.take i).flatMap edgesL) ∧ zs.length ≤ 1017 + 3 * i) ⟨r, y3, none, rfl, Same.refl _, LR, (by rw [List.take_zero, List.flatMap_nil, List.append_nil]; exact A5), by omega⟩ (fun _ _ _ _ _ => True.intro) ?_ ?_⟩
    · rintro i x σ Hc H0 hi ⟨fq, zs, lt, rfl, Sc, LO, AO, hzl⟩ ⟨rfl, c, hc, rfl⟩
      have hi41 : i < 100 := Nat.lt_of_lt_of_le hi (by decide +kernel)
      have hc2 : edgeSigns.cps.toList[i]? = some c := by simpa using hc
      have ea : ("a" : Str) ++ (⟨#[c]⟩ : Str) = ⟨#[97, c]⟩ := by
        rw [show ("a" : Str) = ⟨#[97]⟩ by decide +kernel]
        rfl
      have eb : ("b" : Str) ++ (⟨#[c]⟩ : Str) = ⟨#[98, c]⟩ := by
        rw [show ("b" : Str) = ⟨#[98]⟩ by decide +kernel]
        rfl
      have la : ("a" : Str).length + (⟨#[c]⟩ : Str).length ≤ sizeLine := by (rw [show ("a" : Str).length = 1 by decide +kernel, sizeLine_eq]); show 1 + 1 ≤ _; omega
      have lb : ("b" : Str).length + (⟨#[c]⟩ : Str).length ≤ sizeLine := by (rw [show ("b" : Str).length = 1 by decide +kernel, sizeLine_eq]); show 1 + 1 ≤ _; omega
      refine ⟨_, rfl, ?_⟩
      refine ⟨_, rfl, ?_⟩
      refine ⟨len_small (by simp), fun e1 ne1 => ?_⟩
      have U := up1 (o := .tup [V.str "do", V.str ⟨#[c]⟩]) ne1
      replace Sc := Sc.trans U
      replace LO := U _ _ LO
      replace AO := AO.mono U
      have k1 := (show Dv K (upd H0 e1 (.tup [V.str "do", V.str ⟨#[c]⟩])) (.ref e1) (.tuple [.str "do", .str ⟨#[c]⟩]) from .tup (.inl (.inl upd_same)) (.cons (.str _) (.cons (.str _) .nil)))
      clear U ne1
      generalize upd H0 e1 (.tup [V.str "do", V.str ⟨#[c]⟩]) = W25 at *
      refine ⟨_, rfl, _, _, rfl, rfl, la, ?_⟩
      rw [ea]
      refine ⟨len_small (by simp), fun e2 ne2 => ?_⟩
      have U := up1 (o := .tup [V.str "do", V.str ⟨#[97, c]⟩]) ne2
      replace Sc := Sc.trans U
      replace LO := U _ _ LO
      replace AO := AO.mono U
      replace k1 := k1.mono U
      have k2 := (show Dv K (upd W25 e2 (.tup [V.str "do", V.str ⟨#[97, c]⟩])) (.ref e2) (.tuple [.str "do", .str ⟨#[97, c]⟩]) from .tup (.inl (.inl upd_same)) (.cons (.str _) (.cons (.str _) .nil)))
      clear U ne2
      generalize upd W25 e2 (.tup [V.str "do", V.str ⟨#[97, c]⟩]) = W26 at *
      refine ⟨_, rfl, _, _, rfl, rfl, lb, ?_⟩
      rw [eb]
      refine ⟨len_small (by simp), fun e3 ne3 => ?_⟩
      have U := up1 (o := .tup [V.str "do", V.str ⟨#[98, c]⟩]) ne3
      replace Sc := Sc.trans U
      replace LO := U _ _ LO
      replace AO := AO.mono U
      replace k1 := k1.mono U
      replace k2 := k2.mono U
      have k3 := (show Dv K (upd W26 e3 (.tup [V.str "do", V.str ⟨#[98, c]⟩])) (.ref e3) (.tuple [.str "do", .str ⟨#[98, c]⟩]) from .tup (.inl (.inl upd_same)) (.cons (.str _) (.cons (.str _) .nil)))
      clear U ne3
      generalize upd W26 e3 (.tup [V.str "do", V.str ⟨#[98, c]⟩]) = W27 at *
      refine ⟨len_small (by simp), fun e4 ne4 => ?_⟩
      have U := up1 (o := .tup [V.str "skip"]) ne4
      replace Sc := Sc.trans U
      replace LO := U _ _ LO
      replace AO := AO.mono U
      replace k1 := k1.mono U
      replace k2 := k2.mono U
      replace k3 := k3.mono U
      have k4 := (show Dv K (upd W27 e4 (.tup [V.str "skip"])) (.ref e4) (.tuple [.str "skip"]) from .tup (.inl (.inl upd_same)) (.cons (.str _) .nil))
      clear U ne4
      generalize upd W27 e4 (.tup [V.str "skip"]) = W28 at *
      refine ⟨len_small (by simp), fun e5 ne5 => ?_⟩
      have U := up1 (o := .tup [V.str "seq", V.ref e3, V.ref e4]) ne5
      replace Sc := Sc.trans U
      replace LO := U _ _ LO
      replace AO := AO.mono U
      replace k1 := k1.mono U
      replace k2 := k2.mono U
      replace k3 := k3.mono U
      replace k4 := k4.mono U
      have k5 := (show Dv K (upd W28 e5 (.tup [V.str "seq", V.ref e3, V.ref e4])) (.ref e5) (.tuple [.str "seq", .tuple [.str "do", .str ⟨#[98, c]⟩], .tuple [.str "skip"]]) from .tup (.inl (.inl upd_same)) (.cons (.str _) (.cons (k3) (.cons (k4) .nil))))
      clear U ne5
      generalize upd W28 e5 (.tup [V.str "seq", V.ref e3, V.ref e4]) = W29 at *
      refine ⟨len_small (by simp), fun e6 ne6 => ?_⟩
      have U := up1 (o := .lst [V.ref e1, V.ref e2, V.ref e5]) ne6
      replace Sc := Sc.trans U
      replace LO := U _ _ LO
      replace AO := AO.mono U
      replace k1 := k1.mono U
      replace k2 := k2.mono U
      replace k3 := k3.mono U
      replace k4 := k4.mono U
      replace k5 := k5.mono U
      have LL := (show upd W29 e6 (.lst [V.ref e1, V.ref e2, V.ref e5]) e6 = some (.lst [V.ref e1, V.ref e2, V.ref e5]) from upd_same)
      clear U ne6
      generalize upd W29 e6 (.lst [V.ref e1, V.ref e2, V.ref e5]) = W30 at *
      refine ⟨_, _, _, _, rfl, rfl, LO, LL, by rw [sizeLine_eq]; simp; omega, fun e7 ne7 => ?_⟩
      have U := up1 (o := .lst (zs ++ [V.ref e1, V.ref e2, V.ref e5])) ne7
      replace Sc := Sc.trans U
      replace LO := U _ _ LO
      replace AO := AO.mono U
      replace k1 := k1.mono U
      replace k2 := k2.mono U
      replace k3 := k3.mono U
      replace k4 := k4.mono U
      replace k5 := k5.mono U
      replace LL := U _ _ LL
      have LN := (show upd W30 e7 (.lst (zs ++ [V.ref e1, V.ref e2, V.ref e5])) e7 = some (.lst (zs ++ [V.ref e1, V.ref e2, V.ref e5])) from upd_same)
      clear U ne7
      generalize upd W30 e7 (.lst (zs ++ [V.ref e1, V.ref e2, V.ref e5])) = W31 at *
      refine ⟨e7, _, _, rfl, Sc, LN, ?_, by rw [List.length_append]; simp; omega⟩
      rw [List.take_add_one, hc2]
      show DvAll K _ _ (D0 ++ (edgeSigns.cps.toList.take i ++ [c]).flatMap edgesL)
      rw [flatSnoc, ← List.append_assoc]
      exact AO.app (.cons k1 (.cons k2 (.cons k5 .nil)))
    · rintro σ Hc ⟨fq, zs, lt, rfl, Sc, LO, AO, hzl⟩
      have et : edgeSigns.cps.toList.take edgeSigns.cps.size = edgeSigns.cps.toList := List.take_of_length_le (by simp)
      rw [et] at AO
      exact ⟨_, rfl, h fq Hc zs (S6.trans Sc) LO AO⟩
end
end L50
namespace L50
open PySem PySem.Spec PyProof.Rows L2 L54
section
variable {P : Program} {w : World} {K : PySem.W.Frag} {mg : Str → Option Value} {base : Heap}
def spEd (K : PySem.W.Frag) : Sp := fun vs H Q _ => vs = [] ∧ ∀ (p : Addr) (H' : Hp) (ys : List V), Same H H' → H' p = some (.lst ys) → DvAll K H' ys edges → Q (.ref p) H'
theorem ok_edges {f : Addr} {fd : FuncData} (F : Fun K "_law_edges" "_law_edges" sEdges f fd) (T : Bl mg) : FnOk P w K mg base CX0 2 f fd [] (spEd K) := by
  refine F.ok scEd (fun vs H Q E h => ?_) (fun cdv A outer s H vs Q E hr h => ?_)
  · obtain ⟨rfl, _⟩ := h
    rfl
  · obtain ⟨rfl, h⟩ := h
    obtain ⟨tE, hE, qTail⟩ := ed2 (P := P) (w := w) (K := K) (mg := mg) (base := base) (f := f) (cdv := cdv) (A := A) (outer := outer) (s := s) (H := H) (E := E) T
    refine ⟨_, pss_cons (ps_set (i := 0) scEd.nd rfl (.inl rfl) (pe_tup (pa_cons pe_str (pa_cons pe_str pa_nil))))
      (pss_cons (ps_set (i := 1) scEd.nd rfl (.inl rfl) (pe_callTy call_tuple_of rfl T.tup b_tup (pa_cons
        (pe_lc (own := [("k", 5)]) (g := gName 5) (tt := tYes) rfl scEd.nd (pi_range1 rfl T.range (pa_cons pe_int pa_nil)) (blkOk_by (N := nEd) (sc := defScope sEdges) (by decide +kernel)) (fun _ _ _ _ _ => pg_name (i := 5) scEd.nd rfl (Or.inl rfl)) (fun _ _ _ _ _ => pts_nil)
          (fun _ _ _ _ _ => pe_tup (pa_cons pe_str (pa_cons (pe_op op_repN pe_str (pe_op op_add (pv 5) pe_int)) pa_nil)))) pa_nil)))
      (pss_cons (ps_set (i := 2) scEd.nd rfl (.inl rfl) (pe_lst (pa_cons (pe_op op_catT (pe_tup (pa_cons pe_str pa_nil)) (pe_op op_repT (pe_tup (pa_cons (pv 0) pa_nil)) pe_int)) (pa_cons (pe_op op_catT (pe_tup (pa_cons pe_str pa_nil)) (pe_op op_repT (pe_tup (pa_cons (pv 0) pa_nil)) pe_int)) (pa_cons (pe_op op_catT (pe_tup (pa_cons pe_str pa_nil)) (pv 1)) (pa_cons (pe_op op_catT (pe_op op_catT (pe_tup (pa_cons pe_str pa_nil)) (pv 1)) (pe_tup (pa_cons (pe_tup (pa_cons pe_str (pa_cons pe_str pa_nil))) pa_nil))) pa_nil))))))
      (pss_cons (ps_par (i := 3) (j := 4) (by rfl) scEd.nd rfl rfl (by decide) rfl rfl (pa_cons (pv 0) (pa_cons (pe_tup (pa_cons pe_str pa_nil)) pa_nil)) (by rfl))
      (pss_cons (ps_for PassesOwn.never rfl (pi_range1 rfl T.range (pa_cons pe_int pa_nil)) (pg_name (i := 5) scEd.nd rfl (Or.inl rfl))
        (pss_cons (ps_set (i := 2) scEd.nd rfl (.inl rfl) (pe_op op_cat (pv 2) (pe_lst (pa_cons (pv 3) (pa_cons (pv 4) pa_nil)))))
        (pss_cons (ps_set (i := 3) scEd.nd rfl (.inl rfl) (pe_ifExp (PW.pt (pw_or (pt_cmpR op_gt (pv 5) pe_int (nomark _)) (pw_or1 (pt_cmpR op_eq (pe_op op_mod (pe_callTy call_int1 rfl T.int b_int (pa_cons (pv 5) pa_nil)) pe_int) pe_int (nomark _))))) (pe_tup (pa_cons pe_str (pa_cons (pv 3) pa_nil))) (pe_tup (pa_cons pe_str (pa_cons (pv 3) (pa_cons (pv 0) pa_nil))))))
        (pss_one (ps_set (i := 4) scEd.nd rfl (.inl rfl) (pe_ifExp (pt_cmpR op_lt (pv 5) pe_int (nomark _)) (pe_tup (pa_cons pe_str (pa_cons (pv 4) (pa_cons (pv 0) pa_nil)))) (pe_tup (pa_cons pe_str (pa_cons (pv 4) pa_nil)))))))))
      (pss_cons (ps_set (i := 2) scEd.nd rfl (.inl rfl) (pe_op op_cat (pv 2) (pe_lst (pa_cons (pv 3) (pa_cons (pv 4) (pa_cons (pe_tup (pa_cons pe_str (pa_cons (pe_op op_catT (pe_tup (pa_cons pe_str pa_nil)) (pe_op op_repT (pe_tup (pa_cons (pv 0) pa_nil)) pe_int)) (pa_cons (pe_op op_catT (pe_tup (pa_cons pe_str pa_nil)) (pe_op op_repT (pe_tup (pa_cons (pv 0) pa_nil)) pe_int)) pa_nil)))) pa_nil))))))
      (pss_cons (ps_set (i := 2) scEd.nd rfl (.inl rfl) (pe_op op_cat (pv 2) (pe_lst (pa_cons (pe_tup (pa_cons pe_str (pa_cons (pe_op op_catT (pe_tup (pa_cons pe_str pa_nil)) (pe_op op_repT (pe_tup (pa_cons (pv 0) pa_nil)) pe_int)) pa_nil))) pa_nil))))
      (pss_cons (ps_set (i := 2) scEd.nd rfl (.inl rfl) (pe_op op_cat (pv 2) (pe_lst (pa_cons (pe_tup (pa_cons pe_str (pa_cons (pe_op op_catT (pe_tup (pa_cons pe_str pa_nil)) (pe_op op_repT (pe_tup (pa_cons (pv 0) pa_nil)) pe_int)) (pa_cons (pe_op op_catT (pe_tup (pa_cons pe_str pa_nil)) (pe_op op_repT (pe_tup (pa_cons (pv 0) pa_nil)) pe_int)) pa_nil)))) (pa_cons (pe_tup (pa_cons pe_str (pa_cons (pe_op op_catT (pe_tup (pa_cons pe_str pa_nil)) (pe_op op_repT (pe_tup (pa_cons (pv 0) pa_nil)) pe_int)) pa_nil))) pa_nil))))) hE))))))), ?_⟩
    have S : Same H H := Same.refl H
    refine ⟨len_small (by simp), fun at0 nat0 => ?_⟩
    have U := up1 (o := .tup [V.str "do", V.str "a"]) nat0
    replace S := S.trans U
    have gg := (show Dv K (upd H at0 (.tup [V.str "do", V.str "a"])) (.ref at0) goodD from .tup (.inl (.inl upd_same)) (.cons (.str _) (.cons (.str _) .nil)))
    clear U nat0
    generalize upd H at0 (.tup [V.str "do", V.str "a"]) = W1 at *
    refine ⟨6, rfl, by decide, by decide, fun D nD => ?_⟩
    refine lc_range (n := 6) (fun i Hd => Same W1 Hd ∧ ∃ vs, Hd D = some (.lst vs) ∧ vs.length = i ∧ DvAll K Hd vs (xs6.take i)) ⟨up1 nD, [], upd_same, rfl, .nil⟩ ?_ ?_
    · rintro i Hd hi ⟨Sd, vs, Ld, hvl, Ad⟩
      refine ⟨rfl, ?_⟩
      have hg6 : xs6[i]? = some (.tuple [.str "do", .str ⟨(List.replicate (i + 1) 120).toArray⟩]) := by
        unfold xs6
        rw [List.getElem?_map, List.getElem?_range hi]
        rfl
      refine ⟨_, rfl, _, _, rfl, rfl, _, _, rfl, rfl, by omega, by omega, by decide +kernel, fun r hr hc => ?_⟩
      have ex : ("x" : Str).length = 1 := by decide +kernel
      have er : r = ⟨(List.replicate (i + 1) 120).toArray⟩ := one_sign (by rw [hr, ex]; omega) fun d hd => by
        have q := hc d hd
        have e : ("x" : Str).cps.toList = [120] := by decide +kernel
        rw [e] at q
        exact List.mem_singleton.mp q
      subst er
      refine ⟨len_small (by simp), fun t nt => ?_⟩
      have U := up1 (o := .tup [V.str "do", V.str ⟨(List.replicate (i + 1) 120).toArray⟩]) nt
      have LU := U _ _ Ld
      have nn : ∀ x : V, ∀ d, Dv K (upd Hd t (.tup [V.str "do", V.str ⟨(List.replicate (i + 1) 120).toArray⟩])) x d → noList d = true → d.hasDict = false → Dv K (upd (upd Hd t (.tup [V.str "do", V.str ⟨(List.replicate (i + 1) 120).toArray⟩])) D (.lst (vs ++ [V.ref t]))) x d := fun x d q n1 n2 => dvB (p := D) SameB.at LU d x n1 n2 q
      have nl6 : noListAll (xs6.take i) = true ∧ PyData.hasDictAll (xs6.take i) = false := by
        have q : ∀ j : Nat, j < 6 → noListAll (xs6.take j) = true ∧ PyData.hasDictAll (xs6.take j) = false := by decide +kernel
        exact q i hi
      refine ⟨vs, LU, small1000 (by omega), same_at (Sd.trans U) nD, vs ++ [V.ref t], upd_same, by rw [List.length_append, hvl]; rfl, ?_⟩
      rw [List.take_add_one, hg6]
      exact (dvBAll (p := D) SameB.at LU _ _ nl6.1 nl6.2 (Ad.mono U)).app (.cons (nn _ _ (.tup (.inl (.inl upd_same)) (.cons (.str _) (.cons (.str _) .nil))) (by simp [noList, noListAll]) (by simp [PyData.hasDict, PyData.hasDictAll])) .nil)
    · rintro Hd ⟨Sd, vs, Ld, hvl, Ad⟩
      have SS := S.trans Sd
      have g1 := gg.mono Sd
      have A6 : DvAll K Hd vs xs6 := Ad
      have hne : vs ≠ [] := fun e => by rw [e] at hvl; cases hvl
      refine ⟨D, vs, rfl, .inl ⟨.inl (.inl Ld), fun mt nmt => ?_⟩⟩
      clear Ld nD S gg Sd Ad
      have U := up1 (o := .tup vs) nmt
      replace SS := SS.trans U
      replace g1 := g1.mono U
      replace A6 := A6.mono U
      have TM := (show upd Hd mt (.tup vs) mt = some (.tup vs) from upd_same)
      clear U nmt
      generalize upd Hd mt (.tup vs) = W2 at *
      refine ⟨len_small (by simp), fun p1 np1 => ?_⟩
      have U := up1 (o := .tup [V.str "seq"]) np1
      replace SS := SS.trans U
      replace g1 := g1.mono U
      replace A6 := A6.mono U
      replace TM := U _ _ TM
      have Q1 := (show upd W2 p1 (.tup [V.str "seq"]) p1 = some (.tup [V.str "seq"]) from upd_same)
      clear U np1
      generalize upd W2 p1 (.tup [V.str "seq"]) = W3 at *
      refine ⟨_, rfl, len_small (by simp), fun q1 nq1 => ?_⟩
      have U := up1 (o := .tup [V.ref at0]) nq1
      replace SS := SS.trans U
      replace g1 := g1.mono U
      replace A6 := A6.mono U
      replace TM := U _ _ TM
      replace Q1 := U _ _ Q1
      have Q2 := (show upd W3 q1 (.tup [V.ref at0]) q1 = some (.tup [V.ref at0]) from upd_same)
      clear U nq1
      generalize upd W3 q1 (.tup [V.ref at0]) = W4 at *
      refine ⟨q1, 59, [V.ref at0], rfl, rfl, .inl (.inl Q2), by simp, by decide, by decide, by simp, fun r1 nr1 => ?_⟩
      have U := up1 (o := .tup (List.replicate (59 : Int).toNat [V.ref at0]).flatten) nr1
      replace SS := SS.trans U
      replace g1 := g1.mono U
      replace A6 := A6.mono U
      replace TM := U _ _ TM
      replace Q1 := U _ _ Q1
      replace Q2 := U _ _ Q2
      have Q3 := (show upd W4 r1 (.tup (List.replicate (59 : Int).toNat [V.ref at0]).flatten) r1 = some (.tup (List.replicate 59 (V.ref at0))) from by rw [upd_same, flat1]; rfl)
      clear U nr1
      generalize upd W4 r1 (.tup (List.replicate (59 : Int).toNat [V.ref at0]).flatten) = W5 at *
      refine ⟨p1, r1, _, _, rfl, rfl, .inl (.inl Q1), .inl (.inl Q3), by simp, len_small (by simp), fun e => (by simp at e), fun _ t1 nt1 => ?_⟩
      have U := up1 (o := .tup ([V.str "seq"] ++ List.replicate 59 (V.ref at0))) nt1
      replace SS := SS.trans U
      replace g1 := g1.mono U
      replace A6 := A6.mono U
      replace TM := U _ _ TM
      replace Q1 := U _ _ Q1
      replace Q2 := U _ _ Q2
      replace Q3 := U _ _ Q3
      have k1 := (show Dv K (upd W5 t1 (.tup ([V.str "seq"] ++ List.replicate 59 (V.ref at0)))) (.ref t1) (.tuple ([.str "seq"] ++ List.replicate 59 goodD)) from .tup (.inl (.inl upd_same)) (DvAll.app (.cons (.str _) .nil) (dvRep g1 59)))
      clear U nt1
      generalize upd W5 t1 (.tup ([V.str "seq"] ++ List.replicate 59 (V.ref at0))) = W6 at *
      clear Q1 Q2 Q3
      refine ⟨len_small (by simp), fun p2 np2 => ?_⟩
      have U := up1 (o := .tup [V.str "or"]) np2
      replace SS := SS.trans U
      replace g1 := g1.mono U
      replace A6 := A6.mono U
      replace TM := U _ _ TM
      replace k1 := k1.mono U
      have Q1 := (show upd W6 p2 (.tup [V.str "or"]) p2 = some (.tup [V.str "or"]) from upd_same)
      clear U np2
      generalize upd W6 p2 (.tup [V.str "or"]) = W7 at *
      refine ⟨_, rfl, len_small (by simp), fun q2 nq2 => ?_⟩
      have U := up1 (o := .tup [V.ref at0]) nq2
      replace SS := SS.trans U
      replace g1 := g1.mono U
      replace A6 := A6.mono U
      replace TM := U _ _ TM
      replace k1 := k1.mono U
      replace Q1 := U _ _ Q1
      have Q2 := (show upd W7 q2 (.tup [V.ref at0]) q2 = some (.tup [V.ref at0]) from upd_same)
      clear U nq2
      generalize upd W7 q2 (.tup [V.ref at0]) = W8 at *
      refine ⟨q2, 60, [V.ref at0], rfl, rfl, .inl (.inl Q2), by simp, by decide, by decide, by simp, fun r2 nr2 => ?_⟩
      have U := up1 (o := .tup (List.replicate (60 : Int).toNat [V.ref at0]).flatten) nr2
      replace SS := SS.trans U
      replace g1 := g1.mono U
      replace A6 := A6.mono U
      replace TM := U _ _ TM
      replace k1 := k1.mono U
      replace Q1 := U _ _ Q1
      replace Q2 := U _ _ Q2
      have Q3 := (show upd W8 r2 (.tup (List.replicate (60 : Int).toNat [V.ref at0]).flatten) r2 = some (.tup (List.replicate 60 (V.ref at0))) from by rw [upd_same, flat1]; rfl)
      clear U nr2
      generalize upd W8 r2 (.tup (List.replicate (60 : Int).toNat [V.ref at0]).flatten) = W9 at *
      refine ⟨p2, r2, _, _, rfl, rfl, .inl (.inl Q1), .inl (.inl Q3), by simp, len_small (by simp), fun e => (by simp at e), fun _ t2 nt2 => ?_⟩
      have U := up1 (o := .tup ([V.str "or"] ++ List.replicate 60 (V.ref at0))) nt2
      replace SS := SS.trans U
      replace g1 := g1.mono U
      replace A6 := A6.mono U
      replace TM := U _ _ TM
      replace k1 := k1.mono U
      replace Q1 := U _ _ Q1
      replace Q2 := U _ _ Q2
      replace Q3 := U _ _ Q3
      have k2 := (show Dv K (upd W9 t2 (.tup ([V.str "or"] ++ List.replicate 60 (V.ref at0)))) (.ref t2) (.tuple ([.str "or"] ++ List.replicate 60 goodD)) from .tup (.inl (.inl upd_same)) (DvAll.app (.cons (.str _) .nil) (dvRep g1 60)))
      clear U nt2
      generalize upd W9 t2 (.tup ([V.str "or"] ++ List.replicate 60 (V.ref at0))) = W10 at *
      clear Q1 Q2 Q3
      refine ⟨len_small (by simp), fun p3 np3 => ?_⟩
      have U := up1 (o := .tup [V.str "or"]) np3
      replace SS := SS.trans U
      replace g1 := g1.mono U
      replace A6 := A6.mono U
      replace TM := U _ _ TM
      replace k1 := k1.mono U
      replace k2 := k2.mono U
      have Q1 := (show upd W10 p3 (.tup [V.str "or"]) p3 = some (.tup [V.str "or"]) from upd_same)
      clear U np3
      generalize upd W10 p3 (.tup [V.str "or"]) = W11 at *
      refine ⟨_, rfl, ?_⟩
      refine ⟨p3, mt, _, _, rfl, rfl, .inl (.inl Q1), .inl (.inl TM), by simp, len_small (by simp; omega), fun e => absurd e hne, fun _ t3 nt3 => ?_⟩
      have U := up1 (o := .tup ([V.str "or"] ++ vs)) nt3
      replace SS := SS.trans U
      replace g1 := g1.mono U
      replace A6 := A6.mono U
      replace TM := U _ _ TM
      replace k1 := k1.mono U
      replace k2 := k2.mono U
      replace Q1 := U _ _ Q1
      have k3 := (show Dv K (upd W11 t3 (.tup ([V.str "or"] ++ vs))) (.ref t3) (.tuple (.str "or" :: xs6)) from .tup (.inl (.inl upd_same)) (.cons (.str _) A6))
      clear U nt3
      generalize upd W11 t3 (.tup ([V.str "or"] ++ vs)) = W12 at *
      clear Q1
      refine ⟨len_small (by simp), fun p4 np4 => ?_⟩
      have U := up1 (o := .tup [V.str "or"]) np4
      replace SS := SS.trans U
      replace g1 := g1.mono U
      replace A6 := A6.mono U
      replace TM := U _ _ TM
      replace k1 := k1.mono U
      replace k2 := k2.mono U
      replace k3 := k3.mono U
      have Q1 := (show upd W12 p4 (.tup [V.str "or"]) p4 = some (.tup [V.str "or"]) from upd_same)
      clear U np4
      generalize upd W12 p4 (.tup [V.str "or"]) = W13 at *
      refine ⟨_, rfl, ?_⟩
      refine ⟨p4, mt, _, _, rfl, rfl, .inl (.inl Q1), .inl (.inl TM), by simp, len_small (by simp; omega), fun e => absurd e hne, fun _ t4 nt4 => ?_⟩
      have U := up1 (o := .tup ([V.str "or"] ++ vs)) nt4
      replace SS := SS.trans U
      replace g1 := g1.mono U
      replace A6 := A6.mono U
      replace TM := U _ _ TM
      replace k1 := k1.mono U
      replace k2 := k2.mono U
      replace k3 := k3.mono U
      replace Q1 := U _ _ Q1
      have QM := (show upd W13 t4 (.tup ([V.str "or"] ++ vs)) t4 = some (.tup ([V.str "or"] ++ vs)) from upd_same)
      clear U nt4
      generalize upd W13 t4 (.tup ([V.str "or"] ++ vs)) = W14 at *
      clear Q1
      refine ⟨len_small (by simp), fun y1 ny1 => ?_⟩
      have U := up1 (o := .tup [V.str "do", V.str "y"]) ny1
      replace SS := SS.trans U
      replace g1 := g1.mono U
      replace A6 := A6.mono U
      replace TM := U _ _ TM
      replace k1 := k1.mono U
      replace k2 := k2.mono U
      replace k3 := k3.mono U
      replace QM := U _ _ QM
      have ky := (show Dv K (upd W14 y1 (.tup [V.str "do", V.str "y"])) (.ref y1) (.tuple [.str "do", .str "y"]) from .tup (.inl (.inl upd_same)) (.cons (.str _) (.cons (.str _) .nil)))
      clear U ny1
      generalize upd W14 y1 (.tup [V.str "do", V.str "y"]) = W15 at *
      refine ⟨len_small (by simp), fun y2 ny2 => ?_⟩
      have U := up1 (o := .tup [V.ref y1]) ny2
      replace SS := SS.trans U
      replace g1 := g1.mono U
      replace A6 := A6.mono U
      replace TM := U _ _ TM
      replace k1 := k1.mono U
      replace k2 := k2.mono U
      replace k3 := k3.mono U
      replace QM := U _ _ QM
      replace ky := ky.mono U
      have QY := (show upd W15 y2 (.tup [V.ref y1]) y2 = some (.tup [V.ref y1]) from upd_same)
      clear U ny2
      generalize upd W15 y2 (.tup [V.ref y1]) = W16 at *
      refine ⟨t4, y2, _, _, rfl, rfl, .inl (.inl QM), .inl (.inl QY), by simp, len_small (by simp; omega), fun e => (by simp at e), fun _ y3 ny3 => ?_⟩
      have U := up1 (o := .tup ([V.str "or"] ++ vs ++ [V.ref y1])) ny3
      replace SS := SS.trans U
      replace g1 := g1.mono U
      replace A6 := A6.mono U
      replace TM := U _ _ TM
      replace k1 := k1.mono U
      replace k2 := k2.mono U
      replace k3 := k3.mono U
      replace QM := U _ _ QM
      replace ky := ky.mono U
      replace QY := U _ _ QY
      have k4 := (show Dv K (upd W16 y3 (.tup ([V.str "or"] ++ vs ++ [V.ref y1]))) (.ref y3) (.tuple (.str "or" :: xs6 ++ [.tuple [.str "do", .str "y"]])) from .tup (.inl (.inl upd_same)) (DvAll.app (.cons (.str _) A6) (.cons ky .nil)))
      clear U ny3
      generalize upd W16 y3 (.tup ([V.str "or"] ++ vs ++ [V.ref y1])) = W17 at *
      clear QM QY ky TM A6
      refine ⟨len_small (by simp), fun fl nfl => ?_⟩
      have U := up1 (o := .lst [V.ref t1, V.ref t2, V.ref t3, V.ref y3]) nfl
      replace SS := SS.trans U
      replace g1 := g1.mono U
      replace k1 := k1.mono U
      replace k2 := k2.mono U
      replace k3 := k3.mono U
      replace k4 := k4.mono U
      have LO := (show upd W17 fl (.lst [V.ref t1, V.ref t2, V.ref t3, V.ref y3]) fl = some (.lst [V.ref t1, V.ref t2, V.ref t3, V.ref y3]) from upd_same)
      clear U nfl
      generalize upd W17 fl (.lst [V.ref t1, V.ref t2, V.ref t3, V.ref y3]) = W18 at *
      have AO : DvAll K W18 [V.ref t1, V.ref t2, V.ref t3, V.ref y3] edges0 := .cons k1 (.cons k2 (.cons k3 (.cons k4 .nil)))
      clear k1 k2 k3 k4
      have lO : [V.ref t1, V.ref t2, V.ref t3, V.ref y3].length = 4 := by simp
      generalize [V.ref t1, V.ref t2, V.ref t3, V.ref y3] = f0 at *
      refine ⟨_, rfl, len_small (by simp), fun sk nsk => ?_⟩
      have U := up1 (o := .tup [V.str "skip"]) nsk
      replace SS := SS.trans U
      replace g1 := g1.mono U
      replace LO := U _ _ LO
      replace AO := AO.mono U
      have gs := (show Dv K (upd W18 sk (.tup [V.str "skip"])) (.ref sk) skipD from .tup (.inl (.inl upd_same)) (.cons (.str _) .nil))
      clear U nsk
      generalize upd W18 sk (.tup [V.str "skip"]) = W19 at *
      refine ⟨_, _, rfl, ?_⟩
      refine ⟨41, rfl, by decide, by decide, for_range (n := 41) (fun i σ Hc => ∃ (fq : Addr) (zs : List V) (dv ov : V) (kk : Option V), σ = [some (.ref at0), some (.ref mt), some (.ref fq), some dv, some ov, kk, none, none, none, none] ∧ Same W19 Hc ∧ Hc fq = some (.lst zs) ∧ DvAll K Hc zs (edges0 ++ edgesC i) ∧ zs.length = 4 + 2 * i ∧ Dv K Hc dv (chain i).1 ∧ Dv K Hc ov (chain i).2) ⟨fl, f0, V.ref at0, V.ref sk, none, rfl, Same.refl _, LO, (by rw [show edgesC 0 = [] from rfl, List.append_nil]; exact AO), by omega, g1, gs⟩ ?_ ?_⟩
      · rintro i σ Hc hi ⟨fq, zs, dv, ov, kk, rfl, Sc, LO, AO, zl, gd, go⟩
        have gg := g1.mono Sc
        refine ⟨_, rfl, _, rfl, _, rfl, len_small (by simp), fun b1 nb1 => ?_⟩
        have U := up1 (o := .lst [dv, ov]) nb1
        replace Sc := Sc.trans U
        replace gg := gg.mono U
        replace LO := U _ _ LO
        replace AO := AO.mono U
        replace gd := gd.mono U
        replace go := go.mono U
        have LL := (show upd Hc b1 (.lst [dv, ov]) b1 = some (.lst [dv, ov]) from upd_same)
        clear U nb1
        generalize upd Hc b1 (.lst [dv, ov]) = W20 at *
        refine ⟨_, _, _, _, rfl, rfl, LO, LL, by rw [sizeLine_eq]; simp; omega, fun b2 nb2 => ?_⟩
        have U := up1 (o := .lst (zs ++ [dv, ov])) nb2
        replace Sc := Sc.trans U
        replace gg := gg.mono U
        replace LO := U _ _ LO
        replace AO := AO.mono U
        replace gd := gd.mono U
        replace go := go.mono U
        replace LL := U _ _ LL
        have LN := (show upd W20 b2 (.lst (zs ++ [dv, ov])) b2 = some (.lst (zs ++ [dv, ov])) from upd_same)
        clear U nb2
        generalize upd W20 b2 (.lst (zs ++ [dv, ov])) = W21 at *
        have A2 : DvAll K W21 (zs ++ [dv, ov]) (edges0 ++ edgesC (i + 1)) := by
          have e : edgesC (i + 1) = edgesC i ++ [(chain i).1, (chain i).2] := by unfold edgesC; rw [List.range_succ, flatSnoc]
          rw [e, ← List.append_assoc]
          exact AO.app (.cons gd (.cons go .nil))
        have zl2 : (zs ++ [dv, ov]).length = 4 + 2 * (i + 1) := by rw [List.length_append, zl]; simp; omega
        clear AO LO LL zl
        generalize zs ++ [dv, ov] = z2 at *
        have e8 : decide ((8 : Int) < (0 : Int) + (i : Int)) = decide (8 < i) := by
          by_cases q : 8 < i
          · rw [decide_eq_true q, decide_eq_true (by omega)]
          · rw [decide_eq_false q, decide_eq_false (by omega)]
        have e9 : decide ((0 : Int) + (i : Int) < (9 : Int)) = decide (i < 9) := by
          by_cases q : i < 9
          · rw [decide_eq_true q, decide_eq_true (by omega)]
          · rw [decide_eq_false q, decide_eq_false (by omega)]
        have e2 : decide (V.int (((0 : Int) + (i : Int)) % 2) = V.int 0) = decide (i % 2 = 0) := by
          by_cases q : i % 2 = 0
          · rw [decide_eq_true q, decide_eq_true (by rw [show ((0 : Int) + (i : Int)) % 2 = 0 by omega])]
          · rw [decide_eq_false q, decide_eq_false (fun z => q (by have := V.int.inj z; omega))]
        refine ⟨_, rfl, _, _, rfl, rfl, _, rfl, ?_⟩
        rw [e8]
        cases hc : (decide (8 < i) || decide (i % 2 = 0)) with
        | true =>
          have ed : (chain (i + 1)).1 = .tuple [.str "rep", (chain i).1] := by show (if (decide (8 < i) || decide (i % 2 = 0)) = true then _ else _) = _; rw [hc]; rfl
          refine nS3 ?_ (fun c1 hA => ⟨_, rfl, .inl ⟨_, rfl, _, _, rfl, rfl, (by show (0 : Int) < 2; decide), rfl, _, rfl, ?_⟩⟩)
          rotate_left
          · refine iT ?_ hA
            rw [c1, Bool.false_or] at hc
            rw [e2]
            exact hc
          refine ⟨_, rfl, len_small (by simp), fun b3 nb3 => ?_⟩
          have U := up1 (o := .tup [V.str "rep", dv]) nb3
          replace Sc := Sc.trans U
          replace gg := gg.mono U
          replace gd := gd.mono U
          replace go := go.mono U
          replace LN := U _ _ LN
          replace A2 := A2.mono U
          have kd := (show Dv K (upd W21 b3 (.tup [V.str "rep", dv])) (.ref b3) (.tuple [.str "rep", (chain i).1]) from .tup (.inl (.inl upd_same)) (.cons (.str _) (.cons gd .nil)))
          clear U nb3
          generalize upd W21 b3 (.tup [V.str "rep", dv]) = W22 at *
          refine ⟨_, rfl, _, _, rfl, rfl, _, rfl, ?_⟩
          rw [e9]
          refine nS (fun c9 => ?_) (fun c9 => ?_)
          · refine ⟨_, rfl, _, rfl, len_small (by simp), fun b4 nb4 => ?_⟩
            have U := up1 (o := .tup [V.str "seq", ov, V.ref at0]) nb4
            replace Sc := Sc.trans U
            replace gg := gg.mono U
            replace gd := gd.mono U
            replace go := go.mono U
            replace LN := U _ _ LN
            replace A2 := A2.mono U
            replace kd := kd.mono U
            have ko := (show Dv K (upd W22 b4 (.tup [V.str "seq", ov, V.ref at0])) (.ref b4) (.tuple [.str "seq", (chain i).2, goodD]) from .tup (.inl (.inl upd_same)) (.cons (.str _) (.cons go (.cons gg .nil))))
            clear U nb4
            generalize upd W22 b4 (.tup [V.str "seq", ov, V.ref at0]) = W23 at *
            have eo : (chain (i + 1)).2 = .tuple [.str "seq", (chain i).2, goodD] := by show (if i < 9 then _ else _) = _; rw [if_pos (of_decide_eq_true c9)]
            exact ⟨b2, z2, V.ref b3, V.ref b4, _, rfl, Sc, LN, A2, zl2, (by rw [ed]; exact kd), (by rw [eo]; exact ko)⟩
          · refine ⟨_, rfl, len_small (by simp), fun b4 nb4 => ?_⟩
            have U := up1 (o := .tup [V.str "rep", ov]) nb4
            replace Sc := Sc.trans U
            replace gg := gg.mono U
            replace gd := gd.mono U
            replace go := go.mono U
            replace LN := U _ _ LN
            replace A2 := A2.mono U
            replace kd := kd.mono U
            have ko := (show Dv K (upd W22 b4 (.tup [V.str "rep", ov])) (.ref b4) (.tuple [.str "rep", (chain i).2]) from .tup (.inl (.inl upd_same)) (.cons (.str _) (.cons go .nil)))
            clear U nb4
            generalize upd W22 b4 (.tup [V.str "rep", ov]) = W24 at *
            have eo : (chain (i + 1)).2 = .tuple [.str "rep", (chain i).2] := by show (if i < 9 then _ else _) = _; rw [if_neg (of_decide_eq_false c9)]
            exact ⟨b2, z2, V.ref b3, V.ref b4, _, rfl, Sc, LN, A2, zl2, (by rw [ed]; exact kd), (by rw [eo]; exact ko)⟩
        | false =>
          have ed : (chain (i + 1)).1 = .tuple [.str "or", (chain i).1, goodD] := by show (if (decide (8 < i) || decide (i % 2 = 0)) = true then _ else _) = _; rw [hc]; rfl
          obtain ⟨c1, c2⟩ := Bool.or_eq_false_iff.mp hc
          refine iF (by rw [c1]; exact Bool.false_ne_true) ⟨_, rfl, .inl ⟨_, rfl, _, _, rfl, rfl, (by show (0 : Int) < 2; decide), rfl, _, rfl, ?_⟩⟩
          refine iF (by rw [e2, c2]; exact Bool.false_ne_true) ?_
          refine ⟨_, rfl, _, rfl, len_small (by simp), fun b3 nb3 => ?_⟩
          have U := up1 (o := .tup [V.str "or", dv, V.ref at0]) nb3
          replace Sc := Sc.trans U
          replace gg := gg.mono U
          replace gd := gd.mono U
          replace go := go.mono U
          replace LN := U _ _ LN
          replace A2 := A2.mono U
          have kd := (show Dv K (upd W21 b3 (.tup [V.str "or", dv, V.ref at0])) (.ref b3) (.tuple [.str "or", (chain i).1, goodD]) from .tup (.inl (.inl upd_same)) (.cons (.str _) (.cons gd (.cons gg .nil))))
          clear U nb3
          generalize upd W21 b3 (.tup [V.str "or", dv, V.ref at0]) = W25 at *
          refine ⟨_, rfl, _, _, rfl, rfl, _, rfl, ?_⟩
          rw [e9]
          refine nS (fun c9 => ?_) (fun c9 => ?_)
          · refine ⟨_, rfl, _, rfl, len_small (by simp), fun b4 nb4 => ?_⟩
            have U := up1 (o := .tup [V.str "seq", ov, V.ref at0]) nb4
            replace Sc := Sc.trans U
            replace gg := gg.mono U
            replace gd := gd.mono U
            replace go := go.mono U
            replace LN := U _ _ LN
            replace A2 := A2.mono U
            replace kd := kd.mono U
            have ko := (show Dv K (upd W25 b4 (.tup [V.str "seq", ov, V.ref at0])) (.ref b4) (.tuple [.str "seq", (chain i).2, goodD]) from .tup (.inl (.inl upd_same)) (.cons (.str _) (.cons go (.cons gg .nil))))
            clear U nb4
            generalize upd W25 b4 (.tup [V.str "seq", ov, V.ref at0]) = W26 at *
            have eo : (chain (i + 1)).2 = .tuple [.str "seq", (chain i).2, goodD] := by show (if i < 9 then _ else _) = _; rw [if_pos (of_decide_eq_true c9)]
            exact ⟨b2, z2, V.ref b3, V.ref b4, _, rfl, Sc, LN, A2, zl2, (by rw [ed]; exact kd), (by rw [eo]; exact ko)⟩
          · refine ⟨_, rfl, len_small (by simp), fun b4 nb4 => ?_⟩
            have U := up1 (o := .tup [V.str "rep", ov]) nb4
            replace Sc := Sc.trans U
            replace gg := gg.mono U
            replace gd := gd.mono U
            replace go := go.mono U
            replace LN := U _ _ LN
            replace A2 := A2.mono U
            replace kd := kd.mono U
            have ko := (show Dv K (upd W25 b4 (.tup [V.str "rep", ov])) (.ref b4) (.tuple [.str "rep", (chain i).2]) from .tup (.inl (.inl upd_same)) (.cons (.str _) (.cons go .nil)))
            clear U nb4
            generalize upd W25 b4 (.tup [V.str "rep", ov]) = W27 at *
            have eo : (chain (i + 1)).2 = .tuple [.str "rep", (chain i).2] := by show (if i < 9 then _ else _) = _; rw [if_neg (of_decide_eq_false c9)]
            exact ⟨b2, z2, V.ref b3, V.ref b4, _, rfl, Sc, LN, A2, zl2, (by rw [ed]; exact kd), (by rw [eo]; exact ko)⟩
      · rintro σ Hc ⟨fq, zs, dv, ov, kk, rfl, Sc, LO, AO, zl, gd, go⟩
        have gg := g1.mono Sc
        have S9 := SS.trans Sc
        clear g1 Sc SS
        refine ⟨_, rfl, _, rfl, _, rfl, ?_⟩
        refine ⟨len_small (by simp), fun p5 np5 => ?_⟩
        have U := up1 (o := .tup [V.str "seq"]) np5
        replace S9 := S9.trans U
        replace gg := gg.mono U
        replace LO := U _ _ LO
        replace AO := AO.mono U
        replace gd := gd.mono U
        replace go := go.mono U
        have Q1 := (show upd Hc p5 (.tup [V.str "seq"]) p5 = some (.tup [V.str "seq"]) from upd_same)
        clear U np5
        generalize upd Hc p5 (.tup [V.str "seq"]) = W28 at *
        refine ⟨_, rfl, len_small (by simp), fun q5 nq5 => ?_⟩
        have U := up1 (o := .tup [V.ref at0]) nq5
        replace S9 := S9.trans U
        replace gg := gg.mono U
        replace LO := U _ _ LO
        replace AO := AO.mono U
        replace gd := gd.mono U
        replace go := go.mono U
        replace Q1 := U _ _ Q1
        have Q2 := (show upd W28 q5 (.tup [V.ref at0]) q5 = some (.tup [V.ref at0]) from upd_same)
        clear U nq5
        generalize upd W28 q5 (.tup [V.ref at0]) = W29 at *
        refine ⟨q5, 28, [V.ref at0], rfl, rfl, .inl (.inl Q2), by simp, by decide, by decide, by simp, fun r5 nr5 => ?_⟩
        have U := up1 (o := .tup (List.replicate (28 : Int).toNat [V.ref at0]).flatten) nr5
        replace S9 := S9.trans U
        replace gg := gg.mono U
        replace LO := U _ _ LO
        replace AO := AO.mono U
        replace gd := gd.mono U
        replace go := go.mono U
        replace Q1 := U _ _ Q1
        replace Q2 := U _ _ Q2
        have Q3 := (show upd W29 r5 (.tup (List.replicate (28 : Int).toNat [V.ref at0]).flatten) r5 = some (.tup (List.replicate 28 (V.ref at0))) from by rw [upd_same, flat1]; rfl)
        clear U nr5
        generalize upd W29 r5 (.tup (List.replicate (28 : Int).toNat [V.ref at0]).flatten) = W30 at *
        refine ⟨p5, r5, _, _, rfl, rfl, .inl (.inl Q1), .inl (.inl Q3), by simp, len_small (by simp), fun e => (by simp at e), fun _ t5 nt5 => ?_⟩
        have U := up1 (o := .tup ([V.str "seq"] ++ List.replicate 28 (V.ref at0))) nt5
        replace S9 := S9.trans U
        replace gg := gg.mono U
        replace LO := U _ _ LO
        replace AO := AO.mono U
        replace gd := gd.mono U
        replace go := go.mono U
        replace Q1 := U _ _ Q1
        replace Q2 := U _ _ Q2
        replace Q3 := U _ _ Q3
        have k1 := (show Dv K (upd W30 t5 (.tup ([V.str "seq"] ++ List.replicate 28 (V.ref at0)))) (.ref t5) (.tuple ([.str "seq"] ++ List.replicate 28 goodD)) from .tup (.inl (.inl upd_same)) (DvAll.app (.cons (.str _) .nil) (dvRep gg 28)))
        clear U nt5
        generalize upd W30 t5 (.tup ([V.str "seq"] ++ List.replicate 28 (V.ref at0))) = W31 at *
        clear Q1 Q2 Q3
        refine ⟨len_small (by simp), fun p6 np6 => ?_⟩
        have U := up1 (o := .tup [V.str "seq"]) np6
        replace S9 := S9.trans U
        replace gg := gg.mono U
        replace LO := U _ _ LO
        replace AO := AO.mono U
        replace gd := gd.mono U
        replace go := go.mono U
        replace k1 := k1.mono U
        have Q1 := (show upd W31 p6 (.tup [V.str "seq"]) p6 = some (.tup [V.str "seq"]) from upd_same)
        clear U np6
        generalize upd W31 p6 (.tup [V.str "seq"]) = W32 at *
        refine ⟨_, rfl, len_small (by simp), fun q6 nq6 => ?_⟩
        have U := up1 (o := .tup [V.ref at0]) nq6
        replace S9 := S9.trans U
        replace gg := gg.mono U
        replace LO := U _ _ LO
        replace AO := AO.mono U
        replace gd := gd.mono U
        replace go := go.mono U
        replace k1 := k1.mono U
        replace Q1 := U _ _ Q1
        have Q2 := (show upd W32 q6 (.tup [V.ref at0]) q6 = some (.tup [V.ref at0]) from upd_same)
        clear U nq6
        generalize upd W32 q6 (.tup [V.ref at0]) = W33 at *
        refine ⟨q6, 29, [V.ref at0], rfl, rfl, .inl (.inl Q2), by simp, by decide, by decide, by simp, fun r6 nr6 => ?_⟩
        have U := up1 (o := .tup (List.replicate (29 : Int).toNat [V.ref at0]).flatten) nr6
        replace S9 := S9.trans U
        replace gg := gg.mono U
        replace LO := U _ _ LO
        replace AO := AO.mono U
        replace gd := gd.mono U
        replace go := go.mono U
        replace k1 := k1.mono U
        replace Q1 := U _ _ Q1
        replace Q2 := U _ _ Q2
        have Q3 := (show upd W33 r6 (.tup (List.replicate (29 : Int).toNat [V.ref at0]).flatten) r6 = some (.tup (List.replicate 29 (V.ref at0))) from by rw [upd_same, flat1]; rfl)
        clear U nr6
        generalize upd W33 r6 (.tup (List.replicate (29 : Int).toNat [V.ref at0]).flatten) = W34 at *
        refine ⟨p6, r6, _, _, rfl, rfl, .inl (.inl Q1), .inl (.inl Q3), by simp, len_small (by simp), fun e => (by simp at e), fun _ t6 nt6 => ?_⟩
        have U := up1 (o := .tup ([V.str "seq"] ++ List.replicate 29 (V.ref at0))) nt6
        replace S9 := S9.trans U
        replace gg := gg.mono U
        replace LO := U _ _ LO
        replace AO := AO.mono U
        replace gd := gd.mono U
        replace go := go.mono U
        replace k1 := k1.mono U
        replace Q1 := U _ _ Q1
        replace Q2 := U _ _ Q2
        replace Q3 := U _ _ Q3
        have k2 := (show Dv K (upd W34 t6 (.tup ([V.str "seq"] ++ List.replicate 29 (V.ref at0)))) (.ref t6) (.tuple ([.str "seq"] ++ List.replicate 29 goodD)) from .tup (.inl (.inl upd_same)) (DvAll.app (.cons (.str _) .nil) (dvRep gg 29)))
        clear U nt6
        generalize upd W34 t6 (.tup ([V.str "seq"] ++ List.replicate 29 (V.ref at0))) = W35 at *
        clear Q1 Q2 Q3
        refine ⟨len_small (by simp), fun o1 no1 => ?_⟩
        have U := up1 (o := .tup [V.str "or", V.ref t5, V.ref t6]) no1
        replace S9 := S9.trans U
        replace gg := gg.mono U
        replace LO := U _ _ LO
        replace AO := AO.mono U
        replace gd := gd.mono U
        replace go := go.mono U
        replace k1 := k1.mono U
        replace k2 := k2.mono U
        have k3 := (show Dv K (upd W35 o1 (.tup [V.str "or", V.ref t5, V.ref t6])) (.ref o1) (.tuple [.str "or", seqA 28, seqA 29]) from .tup (.inl (.inl upd_same)) (.cons (.str _) (.cons k1 (.cons k2 .nil))))
        clear U no1
        generalize upd W35 o1 (.tup [V.str "or", V.ref t5, V.ref t6]) = W36 at *
        refine ⟨len_small (by simp), fun l7 nl7 => ?_⟩
        have U := up1 (o := .lst [dv, ov, V.ref o1]) nl7
        replace S9 := S9.trans U
        replace gg := gg.mono U
        replace LO := U _ _ LO
        replace AO := AO.mono U
        replace gd := gd.mono U
        replace go := go.mono U
        replace k1 := k1.mono U
        replace k2 := k2.mono U
        replace k3 := k3.mono U
        have LL := (show upd W36 l7 (.lst [dv, ov, V.ref o1]) l7 = some (.lst [dv, ov, V.ref o1]) from upd_same)
        clear U nl7
        generalize upd W36 l7 (.lst [dv, ov, V.ref o1]) = W37 at *
        refine ⟨_, _, _, _, rfl, rfl, LO, LL, by rw [sizeLine_eq]; simp; omega, fun m7 nm7 => ?_⟩
        replace AO := DvAll.app AO (.cons gd (.cons go (.cons k3 .nil)))
        clear LO LL
        have U := up1 (o := .lst (zs ++ [dv, ov, V.ref o1])) nm7
        replace S9 := S9.trans U
        replace gg := gg.mono U
        replace AO := AO.mono U
        replace gd := gd.mono U
        replace go := go.mono U
        replace k1 := k1.mono U
        replace k2 := k2.mono U
        replace k3 := k3.mono U
        have LO := (show upd W37 m7 (.lst (zs ++ [dv, ov, V.ref o1])) m7 = some (.lst (zs ++ [dv, ov, V.ref o1])) from upd_same)
        clear U nm7
        generalize upd W37 m7 (.lst (zs ++ [dv, ov, V.ref o1])) = W38 at *
        replace zl : (zs ++ [dv, ov, V.ref o1]).length = 89 := by rw [List.length_append, zl]; rfl
        generalize zs ++ [dv, ov, V.ref o1] = w1 at *
        clear k1 k2 k3 gd go
        refine ⟨_, rfl, ?_⟩
        refine ⟨len_small (by simp), fun p8 np8 => ?_⟩
        have U := up1 (o := .tup [V.str "seq"]) np8
        replace S9 := S9.trans U
        replace gg := gg.mono U
        replace AO := AO.mono U
        replace LO := U _ _ LO
        have Q1 := (show upd W38 p8 (.tup [V.str "seq"]) p8 = some (.tup [V.str "seq"]) from upd_same)
        clear U np8
        generalize upd W38 p8 (.tup [V.str "seq"]) = W39 at *
        refine ⟨_, rfl, len_small (by simp), fun q8 nq8 => ?_⟩
        have U := up1 (o := .tup [V.ref at0]) nq8
        replace S9 := S9.trans U
        replace gg := gg.mono U
        replace AO := AO.mono U
        replace LO := U _ _ LO
        replace Q1 := U _ _ Q1
        have Q2 := (show upd W39 q8 (.tup [V.ref at0]) q8 = some (.tup [V.ref at0]) from upd_same)
        clear U nq8
        generalize upd W39 q8 (.tup [V.ref at0]) = W40 at *
        refine ⟨q8, 59, [V.ref at0], rfl, rfl, .inl (.inl Q2), by simp, by decide, by decide, by simp, fun r8 nr8 => ?_⟩
        have U := up1 (o := .tup (List.replicate (59 : Int).toNat [V.ref at0]).flatten) nr8
        replace S9 := S9.trans U
        replace gg := gg.mono U
        replace AO := AO.mono U
        replace LO := U _ _ LO
        replace Q1 := U _ _ Q1
        replace Q2 := U _ _ Q2
        have Q3 := (show upd W40 r8 (.tup (List.replicate (59 : Int).toNat [V.ref at0]).flatten) r8 = some (.tup (List.replicate 59 (V.ref at0))) from by rw [upd_same, flat1]; rfl)
        clear U nr8
        generalize upd W40 r8 (.tup (List.replicate (59 : Int).toNat [V.ref at0]).flatten) = W41 at *
        refine ⟨p8, r8, _, _, rfl, rfl, .inl (.inl Q1), .inl (.inl Q3), by simp, len_small (by simp), fun e => (by simp at e), fun _ t8 nt8 => ?_⟩
        have U := up1 (o := .tup ([V.str "seq"] ++ List.replicate 59 (V.ref at0))) nt8
        replace S9 := S9.trans U
        replace gg := gg.mono U
        replace AO := AO.mono U
        replace LO := U _ _ LO
        replace Q1 := U _ _ Q1
        replace Q2 := U _ _ Q2
        replace Q3 := U _ _ Q3
        have k1 := (show Dv K (upd W41 t8 (.tup ([V.str "seq"] ++ List.replicate 59 (V.ref at0)))) (.ref t8) (.tuple ([.str "seq"] ++ List.replicate 59 goodD)) from .tup (.inl (.inl upd_same)) (DvAll.app (.cons (.str _) .nil) (dvRep gg 59)))
        clear U nt8
        generalize upd W41 t8 (.tup ([V.str "seq"] ++ List.replicate 59 (V.ref at0))) = W42 at *
        clear Q1 Q2 Q3
        refine ⟨len_small (by simp), fun o2 no2 => ?_⟩
        have U := up1 (o := .tup [V.str "rep", V.ref t8]) no2
        replace S9 := S9.trans U
        replace gg := gg.mono U
        replace AO := AO.mono U
        replace LO := U _ _ LO
        replace k1 := k1.mono U
        have k3 := (show Dv K (upd W42 o2 (.tup [V.str "rep", V.ref t8])) (.ref o2) (.tuple [.str "rep", seqA 59]) from .tup (.inl (.inl upd_same)) (.cons (.str _) (.cons k1 .nil)))
        clear U no2
        generalize upd W42 o2 (.tup [V.str "rep", V.ref t8]) = W43 at *
        refine ⟨len_small (by simp), fun l9 nl9 => ?_⟩
        have U := up1 (o := .lst [V.ref o2]) nl9
        replace S9 := S9.trans U
        replace gg := gg.mono U
        replace AO := AO.mono U
        replace LO := U _ _ LO
        replace k1 := k1.mono U
        replace k3 := k3.mono U
        have LL := (show upd W43 l9 (.lst [V.ref o2]) l9 = some (.lst [V.ref o2]) from upd_same)
        clear U nl9
        generalize upd W43 l9 (.lst [V.ref o2]) = W44 at *
        refine ⟨_, _, _, _, rfl, rfl, LO, LL, by rw [sizeLine_eq]; simp; omega, fun m9 nm9 => ?_⟩
        replace AO := DvAll.app AO (.cons k3 .nil)
        clear LO LL
        have U := up1 (o := .lst (w1 ++ [V.ref o2])) nm9
        replace S9 := S9.trans U
        replace gg := gg.mono U
        replace AO := AO.mono U
        replace k1 := k1.mono U
        replace k3 := k3.mono U
        have LO := (show upd W44 m9 (.lst (w1 ++ [V.ref o2])) m9 = some (.lst (w1 ++ [V.ref o2])) from upd_same)
        clear U nm9
        generalize upd W44 m9 (.lst (w1 ++ [V.ref o2])) = W45 at *
        replace zl : (w1 ++ [V.ref o2]).length = 90 := by rw [List.length_append, zl]; rfl
        generalize w1 ++ [V.ref o2] = w2 at *
        clear k1 k3
        refine ⟨_, rfl, ?_⟩
        refine ⟨len_small (by simp), fun p10 np10 => ?_⟩
        have U := up1 (o := .tup [V.str "seq"]) np10
        replace S9 := S9.trans U
        replace gg := gg.mono U
        replace AO := AO.mono U
        replace LO := U _ _ LO
        have Q1 := (show upd W45 p10 (.tup [V.str "seq"]) p10 = some (.tup [V.str "seq"]) from upd_same)
        clear U np10
        generalize upd W45 p10 (.tup [V.str "seq"]) = W46 at *
        refine ⟨_, rfl, len_small (by simp), fun q10 nq10 => ?_⟩
        have U := up1 (o := .tup [V.ref at0]) nq10
        replace S9 := S9.trans U
        replace gg := gg.mono U
        replace AO := AO.mono U
        replace LO := U _ _ LO
        replace Q1 := U _ _ Q1
        have Q2 := (show upd W46 q10 (.tup [V.ref at0]) q10 = some (.tup [V.ref at0]) from upd_same)
        clear U nq10
        generalize upd W46 q10 (.tup [V.ref at0]) = W47 at *
        refine ⟨q10, 29, [V.ref at0], rfl, rfl, .inl (.inl Q2), by simp, by decide, by decide, by simp, fun r10 nr10 => ?_⟩
        have U := up1 (o := .tup (List.replicate (29 : Int).toNat [V.ref at0]).flatten) nr10
        replace S9 := S9.trans U
        replace gg := gg.mono U
        replace AO := AO.mono U
        replace LO := U _ _ LO
        replace Q1 := U _ _ Q1
        replace Q2 := U _ _ Q2
        have Q3 := (show upd W47 r10 (.tup (List.replicate (29 : Int).toNat [V.ref at0]).flatten) r10 = some (.tup (List.replicate 29 (V.ref at0))) from by rw [upd_same, flat1]; rfl)
        clear U nr10
        generalize upd W47 r10 (.tup (List.replicate (29 : Int).toNat [V.ref at0]).flatten) = W48 at *
        refine ⟨p10, r10, _, _, rfl, rfl, .inl (.inl Q1), .inl (.inl Q3), by simp, len_small (by simp), fun e => (by simp at e), fun _ t10 nt10 => ?_⟩
        have U := up1 (o := .tup ([V.str "seq"] ++ List.replicate 29 (V.ref at0))) nt10
        replace S9 := S9.trans U
        replace gg := gg.mono U
        replace AO := AO.mono U
        replace LO := U _ _ LO
        replace Q1 := U _ _ Q1
        replace Q2 := U _ _ Q2
        replace Q3 := U _ _ Q3
        have k1 := (show Dv K (upd W48 t10 (.tup ([V.str "seq"] ++ List.replicate 29 (V.ref at0)))) (.ref t10) (.tuple ([.str "seq"] ++ List.replicate 29 goodD)) from .tup (.inl (.inl upd_same)) (DvAll.app (.cons (.str _) .nil) (dvRep gg 29)))
        clear U nt10
        generalize upd W48 t10 (.tup ([V.str "seq"] ++ List.replicate 29 (V.ref at0))) = W49 at *
        clear Q1 Q2 Q3
        refine ⟨len_small (by simp), fun p11 np11 => ?_⟩
        have U := up1 (o := .tup [V.str "seq"]) np11
        replace S9 := S9.trans U
        replace gg := gg.mono U
        replace AO := AO.mono U
        replace LO := U _ _ LO
        replace k1 := k1.mono U
        have Q1 := (show upd W49 p11 (.tup [V.str "seq"]) p11 = some (.tup [V.str "seq"]) from upd_same)
        clear U np11
        generalize upd W49 p11 (.tup [V.str "seq"]) = W50 at *
        refine ⟨_, rfl, len_small (by simp), fun q11 nq11 => ?_⟩
        have U := up1 (o := .tup [V.ref at0]) nq11
        replace S9 := S9.trans U
        replace gg := gg.mono U
        replace AO := AO.mono U
        replace LO := U _ _ LO
        replace k1 := k1.mono U
        replace Q1 := U _ _ Q1
        have Q2 := (show upd W50 q11 (.tup [V.ref at0]) q11 = some (.tup [V.ref at0]) from upd_same)
        clear U nq11
        generalize upd W50 q11 (.tup [V.ref at0]) = W51 at *
        refine ⟨q11, 29, [V.ref at0], rfl, rfl, .inl (.inl Q2), by simp, by decide, by decide, by simp, fun r11 nr11 => ?_⟩
        have U := up1 (o := .tup (List.replicate (29 : Int).toNat [V.ref at0]).flatten) nr11
        replace S9 := S9.trans U
        replace gg := gg.mono U
        replace AO := AO.mono U
        replace LO := U _ _ LO
        replace k1 := k1.mono U
        replace Q1 := U _ _ Q1
        replace Q2 := U _ _ Q2
        have Q3 := (show upd W51 r11 (.tup (List.replicate (29 : Int).toNat [V.ref at0]).flatten) r11 = some (.tup (List.replicate 29 (V.ref at0))) from by rw [upd_same, flat1]; rfl)
        clear U nr11
        generalize upd W51 r11 (.tup (List.replicate (29 : Int).toNat [V.ref at0]).flatten) = W52 at *
        refine ⟨p11, r11, _, _, rfl, rfl, .inl (.inl Q1), .inl (.inl Q3), by simp, len_small (by simp), fun e => (by simp at e), fun _ t11 nt11 => ?_⟩
        have U := up1 (o := .tup ([V.str "seq"] ++ List.replicate 29 (V.ref at0))) nt11
        replace S9 := S9.trans U
        replace gg := gg.mono U
        replace AO := AO.mono U
        replace LO := U _ _ LO
        replace k1 := k1.mono U
        replace Q1 := U _ _ Q1
        replace Q2 := U _ _ Q2
        replace Q3 := U _ _ Q3
        have k2 := (show Dv K (upd W52 t11 (.tup ([V.str "seq"] ++ List.replicate 29 (V.ref at0)))) (.ref t11) (.tuple ([.str "seq"] ++ List.replicate 29 goodD)) from .tup (.inl (.inl upd_same)) (DvAll.app (.cons (.str _) .nil) (dvRep gg 29)))
        clear U nt11
        generalize upd W52 t11 (.tup ([V.str "seq"] ++ List.replicate 29 (V.ref at0))) = W53 at *
        clear Q1 Q2 Q3
        refine ⟨len_small (by simp), fun o3 no3 => ?_⟩
        have U := up1 (o := .tup [V.str "or", V.ref t10, V.ref t11]) no3
        replace S9 := S9.trans U
        replace gg := gg.mono U
        replace AO := AO.mono U
        replace LO := U _ _ LO
        replace k1 := k1.mono U
        replace k2 := k2.mono U
        have k3 := (show Dv K (upd W53 o3 (.tup [V.str "or", V.ref t10, V.ref t11])) (.ref o3) (.tuple [.str "or", seqA 29, seqA 29]) from .tup (.inl (.inl upd_same)) (.cons (.str _) (.cons k1 (.cons k2 .nil))))
        clear U no3
        generalize upd W53 o3 (.tup [V.str "or", V.ref t10, V.ref t11]) = W54 at *
        refine ⟨len_small (by simp), fun p12 np12 => ?_⟩
        have U := up1 (o := .tup [V.str "seq"]) np12
        replace S9 := S9.trans U
        replace gg := gg.mono U
        replace AO := AO.mono U
        replace LO := U _ _ LO
        replace k1 := k1.mono U
        replace k2 := k2.mono U
        replace k3 := k3.mono U
        have Q1 := (show upd W54 p12 (.tup [V.str "seq"]) p12 = some (.tup [V.str "seq"]) from upd_same)
        clear U np12
        generalize upd W54 p12 (.tup [V.str "seq"]) = W55 at *
        refine ⟨_, rfl, len_small (by simp), fun q12 nq12 => ?_⟩
        have U := up1 (o := .tup [V.ref at0]) nq12
        replace S9 := S9.trans U
        replace gg := gg.mono U
        replace AO := AO.mono U
        replace LO := U _ _ LO
        replace k1 := k1.mono U
        replace k2 := k2.mono U
        replace k3 := k3.mono U
        replace Q1 := U _ _ Q1
        have Q2 := (show upd W55 q12 (.tup [V.ref at0]) q12 = some (.tup [V.ref at0]) from upd_same)
        clear U nq12
        generalize upd W55 q12 (.tup [V.ref at0]) = W56 at *
        refine ⟨q12, 58, [V.ref at0], rfl, rfl, .inl (.inl Q2), by simp, by decide, by decide, by simp, fun r12 nr12 => ?_⟩
        have U := up1 (o := .tup (List.replicate (58 : Int).toNat [V.ref at0]).flatten) nr12
        replace S9 := S9.trans U
        replace gg := gg.mono U
        replace AO := AO.mono U
        replace LO := U _ _ LO
        replace k1 := k1.mono U
        replace k2 := k2.mono U
        replace k3 := k3.mono U
        replace Q1 := U _ _ Q1
        replace Q2 := U _ _ Q2
        have Q3 := (show upd W56 r12 (.tup (List.replicate (58 : Int).toNat [V.ref at0]).flatten) r12 = some (.tup (List.replicate 58 (V.ref at0))) from by rw [upd_same, flat1]; rfl)
        clear U nr12
        generalize upd W56 r12 (.tup (List.replicate (58 : Int).toNat [V.ref at0]).flatten) = W57 at *
        refine ⟨p12, r12, _, _, rfl, rfl, .inl (.inl Q1), .inl (.inl Q3), by simp, len_small (by simp), fun e => (by simp at e), fun _ t12 nt12 => ?_⟩
        have U := up1 (o := .tup ([V.str "seq"] ++ List.replicate 58 (V.ref at0))) nt12
        replace S9 := S9.trans U
        replace gg := gg.mono U
        replace AO := AO.mono U
        replace LO := U _ _ LO
        replace k1 := k1.mono U
        replace k2 := k2.mono U
        replace k3 := k3.mono U
        replace Q1 := U _ _ Q1
        replace Q2 := U _ _ Q2
        replace Q3 := U _ _ Q3
        have k4 := (show Dv K (upd W57 t12 (.tup ([V.str "seq"] ++ List.replicate 58 (V.ref at0)))) (.ref t12) (.tuple ([.str "seq"] ++ List.replicate 58 goodD)) from .tup (.inl (.inl upd_same)) (DvAll.app (.cons (.str _) .nil) (dvRep gg 58)))
        clear U nt12
        generalize upd W57 t12 (.tup ([V.str "seq"] ++ List.replicate 58 (V.ref at0))) = W58 at *
        clear Q1 Q2 Q3
        refine ⟨len_small (by simp), fun o4 no4 => ?_⟩
        have U := up1 (o := .tup [V.str "rep", V.ref t12]) no4
        replace S9 := S9.trans U
        replace gg := gg.mono U
        replace AO := AO.mono U
        replace LO := U _ _ LO
        replace k1 := k1.mono U
        replace k2 := k2.mono U
        replace k3 := k3.mono U
        replace k4 := k4.mono U
        have k5 := (show Dv K (upd W58 o4 (.tup [V.str "rep", V.ref t12])) (.ref o4) (.tuple [.str "rep", seqA 58]) from .tup (.inl (.inl upd_same)) (.cons (.str _) (.cons k4 .nil)))
        clear U no4
        generalize upd W58 o4 (.tup [V.str "rep", V.ref t12]) = W59 at *
        refine ⟨len_small (by simp), fun l13 nl13 => ?_⟩
        have U := up1 (o := .lst [V.ref o3, V.ref o4]) nl13
        replace S9 := S9.trans U
        replace gg := gg.mono U
        replace AO := AO.mono U
        replace LO := U _ _ LO
        replace k1 := k1.mono U
        replace k2 := k2.mono U
        replace k3 := k3.mono U
        replace k4 := k4.mono U
        replace k5 := k5.mono U
        have LL := (show upd W59 l13 (.lst [V.ref o3, V.ref o4]) l13 = some (.lst [V.ref o3, V.ref o4]) from upd_same)
        clear U nl13
        generalize upd W59 l13 (.lst [V.ref o3, V.ref o4]) = W60 at *
        refine ⟨_, _, _, _, rfl, rfl, LO, LL, by rw [sizeLine_eq]; simp; omega, fun m13 nm13 => ?_⟩
        replace AO := DvAll.app AO (.cons k3 (.cons k5 .nil))
        clear LO LL
        have U := up1 (o := .lst (w2 ++ [V.ref o3, V.ref o4])) nm13
        replace S9 := S9.trans U
        replace gg := gg.mono U
        replace AO := AO.mono U
        replace k1 := k1.mono U
        replace k2 := k2.mono U
        replace k3 := k3.mono U
        replace k4 := k4.mono U
        replace k5 := k5.mono U
        have LO := (show upd W60 m13 (.lst (w2 ++ [V.ref o3, V.ref o4])) m13 = some (.lst (w2 ++ [V.ref o3, V.ref o4])) from upd_same)
        clear U nm13
        generalize upd W60 m13 (.lst (w2 ++ [V.ref o3, V.ref o4])) = W61 at *
        replace zl : (w2 ++ [V.ref o3, V.ref o4]).length = 92 := by rw [List.length_append, zl]; rfl
        generalize w2 ++ [V.ref o3, V.ref o4] = w3 at *
        refine qTail Q (V.ref at0) _ _ _ _ m13 w3 _ _ gg LO AO (by omega) (fun p Hp ys Sq hp hA => h p Hp ys (S9.trans Sq) hp ?_)
        have eE : edges0 ++ edgesC 41 ++ [(chain 41).1, (chain 41).2, PyData.tuple [.str "or", seqA 28, seqA 29]] ++ [PyData.tuple [.str "rep", seqA 59]] ++ [PyData.tuple [.str "or", seqA 29, seqA 29], PyData.tuple [.str "rep", seqA 58]] ++ edgesT ++ (moreW.map fun z => PyData.tuple [.str "do", .str z]) ++ edgeSigns.cps.toList.flatMap edgesL = edges := by
          unfold edges edges1 edgesT
          simp only [List.append_assoc, List.cons_append, List.nil_append]
        rw [← eE]
        exact hA
end
end L50
/-! sets of texts: what stands in the heap, how one is put in, how sorted() takes them out -/
namespace L50
open PySem PySem.Spec PyProof.Rows L2 L54
def txOf : Value → Str
  | .str x _ => x
  | _ => ""
def TxE (w : World) (e : Int × Value) : Prop := ∃ x tk, e = (hashStr w x, Value.str x tk)
/-- at a stands the set of the texts l -/
def TSet (w : World) (h : Heap) (a : Addr) (l : List Str) : Prop :=
  ∃ (o : Obj) (es : Array (Int × Value)) (ep : Nat) (t : SetTable), (h.get? a = some o ∧ o.ExactSet ∧ o.data = .set es ep t) ∧ ((∀ e ∈ es.toList, TxE w e) ∧ (es.toList.map fun e => txOf e.2).Perm l ∧ l.Nodup) ∧
    (es.size < scanBound ∧ t.fits es.size = true) ∧ Ris t.place.toList ∧ (w.params.followText "set-order" = true ∨ t.led = true)
theorem txIs (P : Program) (w : World) (x : Str) (tk : Tok) : (PySem.strKind P w).is x (.str x tk) = true := by
  show (x == x) = true
  exact beq_self_eq_true x
theorem txEls {P : Program} {w : World} {l : List (Int × Value)} (g : ∀ e ∈ l, TxE w e) : ElemsOf (PySem.strKind P w) l := fun e he => by
  obtain ⟨x, tk, rfl⟩ := g e he
  exact ⟨⟨x, txIs P w x tk, rfl⟩, rfl⟩
theorem txHit {P : Program} {w : World} {l : List (Int × Value)} (g : ∀ e ∈ l, TxE w e) {x : Str} : (∃ e ∈ l, (PySem.strKind P w).is x e.2 = true) ↔ x ∈ l.map fun e => txOf e.2 := by
  rw [List.mem_map]
  constructor
  · rintro ⟨e, he, q⟩
    obtain ⟨y, tk, rfl⟩ := g e he
    exact ⟨_, he, eq_of_beq (show (y == x) = true from q)⟩
  · rintro ⟨e, he, q⟩
    obtain ⟨y, tk, rfl⟩ := g e he
    have q' : y = x := q
    subst q'
    exact ⟨_, he, txIs P w y tk⟩
theorem TSet.stay {w : World} {h h' : Heap} {a : Addr} {l : List Str} (R : TSet w h a l) (k : ∀ o, h.get? a = some o → h'.get? a = some o) : TSet w h' a l := by
  obtain ⟨o, es, ep, t, ⟨g1, g2⟩, r⟩ := R
  exact ⟨o, es, ep, t, ⟨k o g1, g2⟩, r⟩
theorem TSet.new (w : World) (h : Heap) : TSet w (h.push { cls := .type "set", dict := none, data := .set #[] 0 (.fresh 0 0 (!w.params.followText "set-order")) }) h.objs.size [] := by
  refine ⟨_, #[], 0, _, ⟨Heap.get?_push_size _ rfl, ⟨rfl, rfl, rfl⟩, rfl⟩, ⟨fun e he => by simp at he, by simp, .nil⟩, ⟨by decide, rfl⟩, List.Pairwise.nil, ?_⟩
  show _ ∨ (!w.params.followText "set-order") = true
  cases w.params.followText "set-order" <;> simp
section
variable {P : Program} {w : World} {A : Around} {E : Value → Shared → Prop} {s : Shared} {a : Addr} {l : List Str}
/-- the table is written: the entries es1 lie at a -/
theorem tset_write {o : Obj} {es es1 : Array (Int × Value)} {ep : Nat} {t t1 : SetTable} {l1 : List Str} {h : Heap} (g : h.get? a = some o ∧ o.ExactSet ∧ o.data = .set es ep t)
    (c : (∀ e ∈ es1.toList, TxE w e) ∧ (es1.toList.map fun e => txOf e.2).Perm l1 ∧ l1.Nodup) (b : es1.size < scanBound ∧ t1.fits es1.size = true) (r : Ris t1.place.toList) (d : w.params.followText "set-order" = true ∨ t1.led = true) :
    TSet w (h.update a (Obj.putSet es1 t1)) a l1 ∧ ∃ o1, (h.update a (Obj.putSet es1 t1)).get? a = some o1 ∧ o1.ExactSet ∧ o1.data = .set es1 (ep + 1) t1 := by
  have q := PpSet.storeB_at (es' := es1) (t' := t1) g.1 g.2.2
  exact ⟨⟨_, es1, ep + 1, t1, ⟨q, g.2.1, rfl⟩, c, b, r, d⟩, _, q, g.2.1, rfl⟩
theorem tset_hashed {x : Str} {tk : Tok} {Q : Bool → Shared → Prop} (R : TSet w s.heap a l) (room : l.length + 1 < scanBound) (q : ∀ b h', Heap.SameBut a s.heap h' → TSet w h' a (addN l x) → Q b { s with heap := h' }) :
    wpAny (model P w) A (setAddHashed a (.str x tk) (hashStr w x)) Q E s := by
  have R0 := R
  obtain ⟨o, es, ep, t, g, ⟨c1, c2, c3⟩, ⟨b1, b2⟩, r, d⟩ := R
  have len : es.size = l.length := by
    have z := c2.length_eq
    rw [List.length_map, Array.length_toList] at z
    exact z
  unfold setAddHashed setAddHashedIn
  refine wpAny_holding (wpAny_bind (wpAny_setState_of g.1 g.2.2 b2 ?_))
  dsimp only
  rw [byScan_of (x := Value.str x tk) rfl b1 (txEls (P := P) c1)]
  simp only [↓reduceIte]
  unfold setAddByScan
  refine wpAny_bind (wpAny_bind (wpAny_rule (wpAny_bind (wpAny_setScan_of (txIs P w x tk) g.1 g.2.2 b2 (txEls c1) ?_))))
  cases fi : List.findIdx? (fun e => (PySem.strKind P w).is x e.2) es.toList with
  | some j =>
    dsimp only
    obtain ⟨hj, pj, _⟩ := List.findIdx?_eq_some_iff_getElem.mp fi
    have hin : x ∈ l := c2.mem_iff.mp ((txHit (P := P) c1).mp ⟨_, List.getElem_mem hj, pj⟩)
    refine wpAny_pure (wpAny_pure (q _ s.heap (Heap.SameBut.refl a s.heap) ?_))
    unfold addN
    rw [if_pos hin]
    exact R0
  | none =>
    dsimp only
    have hout : x ∉ l := fun z => by
      obtain ⟨e, he, q1⟩ := (txHit (P := P) c1).mpr (c2.mem_iff.mpr z)
      have q2 := List.findIdx?_eq_none_iff.mp fi e he
      rw [q1] at q2
      cases q2
    have eN : addN l x = l ++ [x] := by
      unfold addN
      rw [if_neg hout]
    have gave : ∀ (b : Bool) {s₁ : Shared} {Q' : Unit → Shared → Prop}, Q' () s₁ → wpAny (model P w) A (match b with | true => rule "set.scan.the-table-gave-way" | false => pure ()) Q' E s₁ := by
      intro b s₁ Q' q1
      cases b
      · exact wpAny_pure q1
      · exact wpAny_rule q1
    have p1 := layNew_perm t es (hashStr w x) (.str x tk)
    have p2 := layNew_fits t es (hashStr w x) (.str x tk)
    have p3 := layNew_ris t es (hashStr w x) (.str x tk) r
    have p4 := layNew_led t es (hashStr w x) (.str x tk)
    show wpAny _ _ (match layNew t es (hashStr w x) (.str x tk) with | (_, _, _, _) => _) _ _ _
    generalize layNew t es (hashStr w x) (.str x tk) = Z at p1 p2 p3 p4 ⊢
    obtain ⟨es1, t1, dummy, way⟩ := Z
    dsimp only at p1 p2 p3 p4 ⊢
    rw [Array.toList_push] at p1
    have k1 : ∀ e ∈ es1.toList, TxE w e := fun e he => by
      rcases List.mem_append.mp (p1.mem_iff.mp he) with z | z
      · exact c1 e z
      · exact ⟨x, tk, List.mem_singleton.mp z⟩
    have k2 : (es1.toList.map fun e => txOf e.2).Perm (addN l x) := by
      refine (p1.map _).trans ?_
      rw [List.map_append, eN]
      exact c2.append_right _
    have k3 : (addN l x).Nodup := by
      rw [eN]
      exact List.nodup_append.mpr ⟨c3, by simp, fun y hy z hz e => hout (by rw [← List.mem_singleton.mp hz, ← e]; exact hy)⟩
    have k4 : es1.size = l.length + 1 := by
      have z := k2.length_eq
      rw [List.length_map, Array.length_toList, eN, List.length_append] at z
      exact z
    have k5 : w.params.followText "set-order" = true ∨ t1.led = true := by rw [p4]; exact d
    -- the tail: written, and laid anew where it is too full
    have tail : ∀ (t2 : SetTable), t2.fits es1.size = true → Ris t2.place.toList → (w.params.followText "set-order" = true ∨ t2.led = true) → ∀ gv : Bool → Sem Unit, (∀ (b : Bool) (s₁ : Shared) (Q' : Unit → Shared → Prop), Q' () s₁ → wpAny (model P w) A (gv b) Q' E s₁) →
        ∀ R' : Option Bool → Shared → Prop, (∀ h', Heap.SameBut a s.heap h' → TSet w h' a (addN l x) → R' (some true) { s with heap := h' }) →
        wpAny (model P w) A (storeSet a es1 t2 >>= fun _ => if (!dummy && t2.tooFull) = true then (gv (relayAll t2 es1 (SetTable.grown es1.size)).2.2 >>= fun _ => storeSet a (relayAll t2 es1 (SetTable.grown es1.size)).1 (relayAll t2 es1 (SetTable.grown es1.size)).2.1 >>= fun _ => pure (some true)) else pure (some true)) R' E s := by
      intro t2 f2 r2 d2 gv hg R' hR
      have b3 : es1.size < scanBound := by rw [k4]; exact room
      refine wpAny_bind (wpAny_storeSet_of g.1 g.2.2 ?_ (fits_of_scanBound b3))
      obtain ⟨T1, o1, w1⟩ := tset_write (w := w) (l1 := addN l x) g ⟨k1, k2, k3⟩ ⟨b3, f2⟩ r2 d2
      have u1 := Heap.SameBut.update s.heap a (Obj.putSet es1 t2)
      split
      · have y1 := relayAll_perm t2 es1 (SetTable.grown es1.size)
        have y2 := relayAll_fits t2 es1 (SetTable.grown es1.size)
        have y3 := relayAll_ris t2 es1 (SetTable.grown es1.size)
        have y4 := relayAll_led t2 es1 (SetTable.grown es1.size)
        generalize relayAll t2 es1 (SetTable.grown es1.size) = Z at y1 y2 y3 y4 ⊢
        obtain ⟨es2, t3, way2⟩ := Z
        dsimp only at y1 y2 y3 y4 ⊢
        have l2 : es2.size = es1.size := by
          have z := y1.length_eq
          rw [Array.length_toList, Array.length_toList] at z
          exact z
        have b4 : es2.size < scanBound := by rw [l2]; exact b3
        refine wpAny_bind (hg _ _ _ (wpAny_bind (wpAny_storeSet_of w1.1 w1.2.2 (wpAny_pure ?_) (fits_of_scanBound b4))))
        obtain ⟨T2, _⟩ := tset_write (w := w) (l1 := addN l x) w1 (es1 := es2) (t1 := t3) ⟨fun e he => k1 e (y1.mem_iff.mp he), (y1.map _).trans k2, k3⟩ ⟨b4, y2⟩ y3 (by rw [y4]; exact d2)
        exact hR _ (u1.trans (Heap.SameBut.update _ a _)) T2
      · exact wpAny_pure (hR _ u1 T1)
    refine wpAny_bind (gave _ ?_)
    have off : ∀ t2 : SetTable, t2.fits es1.size = true → ({ t2 with plain := false } : SetTable).fits es1.size = true := fun _ z => SetTable.fits_plain_off z
    split
    · refine wpAny_bind ?_
      rw [hashByValue_scannable 8 (x := Value.str x tk) rfl]
      refine wpAny_pure (tail _ ?_ ?_ ?_ _ ?_ _ fun h' u1 T1 => wpAny_pure (q _ h' u1 T1))
      · first | (split <;> first | exact p2 | exact off _ p2) | exact p2
      · first | (split <;> exact p3) | exact p3
      · first | (split <;> exact k5) | exact k5
      · intro b s₁ Q' q1
        cases b
        · exact wpAny_pure q1
        · exact wpAny_rule q1
    · refine wpAny_bind (wpAny_pure ?_)
      simp only [↓reduceIte]
      refine tail _ p2 p3 k5 _ ?_ _ fun h' u1 T1 => wpAny_pure (q _ h' u1 T1)
      intro b s₁ Q' q1
      cases b
      · exact wpAny_pure q1
      · exact wpAny_rule q1
end
end L50
namespace L50
open PySem PySem.Spec PyProof.Rows L2 L54
section
variable {P : Program} {w : World} {A : Around} {E : Value → Shared → Prop} {s : Shared} {a : Addr} {l : List Str}
theorem TSet.of (P : Program) (R : TSet w s.heap a l) : ∃ (S : Str → Bool) (n : Nat), s.heap.SetOf (PySem.strKind P w) a S n := by
  obtain ⟨o, es, ep, t, g, c, b, _⟩ := R
  refine ⟨fun x => decide (x ∈ es.toList.map fun e => txOf e.2), _, o, es, ep, t, g.1, g.2.1, g.2.2, txEls c.1, fun x => ?_, b.1, b.2, rfl⟩
  rw [decide_eq_true_eq]
  exact (txHit c.1).symm
theorem tset_add {x : Str} {tk : Tok} {Q : Value → Shared → Prop} (R : TSet w s.heap a l) (room : l.length + 1 < scanBound) (q : ∀ h', Heap.SameBut a s.heap h' → TSet w h' a (addN l x) → ∀ k, Q .none { s with heap := h', toks := k }) :
    wpAny (model P w) A (call (.builtin "set.add") [.ref a, .str x tk]) Q E s := by
  obtain ⟨S, n, hS⟩ := TSet.of P R
  refine wpAny_call_entry F.slot_set_add hS.typeIs F.entry_set_add ?_ (F.args_set_add_2 _ _)
  unfold Builtin.«set.add» Builtin.Frozenset.oneOther
  simp only [List.isEmpty_nil, bind_assoc]
  unfold Builtin.Frozenset.addrOf setAdd
  refine wpAny_bind (wpAny_pure ?_)
  try dsimp only
  refine wpAny_bind (wpAny_pure ?_)
  try dsimp only
  refine wpAny_bind (wpAny_holding (wpAny_bind ((PySem.strKind P w).pyHash (txIs P w x tk) (tset_hashed R room fun b h' u T => ?_))))
  exact wpAny_pure ⟨_, rfl, q h' u T _⟩
theorem strs_of_set : ∀ {l : List Value}, (∀ v ∈ l, ∃ x tk, v = Value.str x tk) → StrsAre l (l.map txOf)
  | [], _ => .nil
  | v :: l, h => by
    obtain ⟨x, tk, rfl⟩ := h v List.mem_cons_self
    exact .cons x tk (strs_of_set fun u hu => h u (List.mem_cons_of_mem _ hu))
/-- sorted(s), fewer than 64 texts -/
theorem tset_sorted {Q : Value → Shared → Prop} (R : TSet w s.heap a l) (calm : A.handled = none) (few : l.length < 64)
    (q : ∀ (s' : Shared) (p : Addr) (out : List Value) (c : Nat) (ys : List Str), (∀ b o, s.heap.get? b = some o → s'.heap.get? b = some o) → s'.gens = s.gens ∧ s'.os = s.os → s.heap.objs.size ≤ p → s'.heap.get? p = some (seqObj "list" out.toArray c) →
      StrsAre out ys → ys.Perm l → sortedS ys = true → Q (.ref p) s') : wpAny (model P w) A (call (.builtin "sorted") [.ref a]) Q E s := by
  obtain ⟨o, es, ep, t, g, c, b, r, d⟩ := R
  refine Calls.call_function_entry kind_sorted plain_sorted entry_sorted (args_sorted1 _) ?_
  unfold Builtin.«sorted»
  refine wpAny_bind (m := checkCount "sorted" 1 1 _) (wpAny_pure (wpAny_bind (collect_set (A := A.in1) calm ⟨o, g.1, g.2.1.1, g.2.2⟩ b.2 b.1 r d fun s1 vs k1 z1 e1 e2 pm => ?_)))
  have hS : StrsAre vs (vs.map txOf) := strs_of_set fun v hv => by
    obtain ⟨e, he, q1⟩ := List.mem_map.mp (pm.mem_iff.mp hv)
    obtain ⟨x, tk, rfl⟩ := c.1 e he
    exact ⟨x, tk, q1.symm⟩
  have pl : (vs.map txOf).Perm l := by
    refine (pm.map txOf).trans ?_
    rw [List.map_map]
    exact c.2.1
  have vl : vs.length = l.length := by
    rw [← pl.length_eq, List.length_map]
  refine wpAny_bind (wpAny_newList ?_ (by rw [vl]; exact small64 few))
  have at0 : (s1.heap.push (seqObj "list" vs.toArray 0)).get? s1.heap.objs.size = some (seqObj "list" vs.toArray 0) := Heap.get?_push_size _ rfl
  refine wpAny_bind (wpAny_holding (wpAny_call_entry slot_list_sort ⟨_, at0, rfl⟩ entry_list_sort
    (list_sort_treeK strKind_oneLt at0 hS.keysOf (fun v₁ v₂ rest e => keyKind_strs (by rw [← e]; exact hS)) (by rw [vl]; exact few) fun st' hp hs => ⟨_, rfl, ?_⟩) (args_list_sort _)))
  obtain ⟨ys, g1, g2, g3⟩ := sorted_out_str hS hp hs
  obtain ⟨k, hk⟩ := sortedHeap_at (vs := vs) (out := (arrOf st').map (·.2)) at0
  refine wpAny_pure ⟨_, rfl, q _ s1.heap.objs.size ((arrOf st').map (·.2)).toList k ys (fun b1 u e => ?_) ⟨e1, e2⟩ z1 (by rw [Array.toArray_toList]; exact hk) g1 (g2.trans pl) g3⟩
  have e3 := k1 b1 u e
  have lt := Heap.lt_size e3
  refine (sortedHeap_old (Nat.ne_of_lt lt) ?_).trans (Heap.get?_push_of_some _ e3)
  rw [size_push']
  exact Nat.lt_succ_of_lt lt
end
/-! ### as things of the layer -/
def TSetO (w : World) (a : Addr) (l : List Str) : HO := .ext fun h => TSet w h a l
theorem tset_ok {w : World} {P : Program} {H : Hp} {h : Heap} {a : Addr} {l : List Str} (R : TSet w h a l) : ObjOk P w H h a (TSetO w a l) := by
  obtain ⟨o, _, _, _, g, _⟩ := id R
  exact ⟨R, ⟨o, g.1⟩, fun _ _ p k => TSet.stay p k⟩
section
variable {X : Cx}
theorem tset_get {pins : List (Addr × Obj)} {σ : L2.St} {H : Hp} {s : Shared} {a : Addr} {l : List Str} (I : Inv X pins σ H s) (e : H a = some (TSetO X.w a l)) : TSet X.w s.heap a l := (I.hok a _ e).1
/-- s.add(text) -/
def rTAdd (w : World) : V → List V → Hp → VK → Prop := fun x xs H Q => ∃ (a : Addr) (l : List Str) (z : Str), x = V.ref a ∧ xs = [V.str z] ∧ H a = some (TSetO w a l) ∧ l.length + 1 < scanBound ∧ Q .non (upd H a (TSetO w a (addN l z)))
theorem mt_tadd : MtR X "set.add" (rTAdd X.w) := by
  intro pins s σ H x xs v us Q I rx rxs h
  obtain ⟨a, l, z, rfl, rfl, ea, room, q⟩ := h
  cases rx
  cases rxs with
  | cons ry rt =>
    cases rt
    obtain ⟨tk, rfl⟩ := ry
    refine tset_add (tset_get I ea) room fun h' u T k => ?_
    have some' : ∃ o, h'.get? a = some o := by
      obtain ⟨o, _, _, _, g, _⟩ := T
      exact ⟨o, g.1⟩
    exact ⟨.non, _, I.write (e := a) (t' := k) (by rw [ea]; trivial) (.inl rfl) (fun b o hb hu => (u.2 b hb).trans hu) some' (tset_ok T), rfl, q⟩
/-- sorted(s) of a set of texts -/
def rTSorted (w : World) : List V → Hp → VK → Prop := fun vs H Q => ∃ (a : Addr) (l : List Str), vs = [V.ref a] ∧ H a = some (TSetO w a l) ∧ l.length < 64 ∧ ∀ (ys : List Str) (p : Addr), ys.Perm l → sortedS ys = true → H p = none → Q (.ref p) (upd H p (.lst (ys.map V.str)))
theorem cr_tsorted (hc : X.calm = true) : CallR X (.builtin "sorted") (rTSorted X.w) := by
  intro pins s σ H vs us Q I r h
  obtain ⟨a, l, rfl, ea, few, q⟩ := h
  rw [Vals.ref1 r]
  refine tset_sorted (tset_get I ea) (I.ok.hd hc) few fun s' p out c ys k go hp hg hs pm srt => ?_
  have hlen : (ys.map V.str).length ≤ sizeLine := by
    rw [List.length_map, pm.length_eq]
    exact small64 few
  have free : H p = none := I.hok.fresh hp
  have J : Inv X pins σ (upd H p (.lst (ys.map V.str))) { s with heap := s'.heap, gens := s'.gens, drawn := s'.drawn, toks := s'.toks } :=
    I.call (ch := []) (Un.laid k hp free) (I.hok.laid k hp ⟨hlen, out, c, vals_of_strs hs, hg⟩) (by rw [go.1]; exact I.bare) (fun _ z => nomatch z)
  have same : s' = { s with heap := s'.heap, gens := s'.gens, drawn := s'.drawn, toks := s'.toks } := by
    obtain ⟨_, o⟩ := go
    cases s'
    cases s
    cases o
    rfl
  rw [same]
  exact ⟨.ref p, _, J, rfl, q ys p pm srt free⟩
end
end L50
/-! a set comprehension over any kind of set that the layer keeps: ob is the new set, r what set.add does with it -/
namespace L50
open PySem PySem.Spec PyProof.Rows L2 L54
section
variable {X : Cx}
def tScA (ob : Addr → HO) (r : V → List V → Hp → VK → Prop) (wi : TI) (g : TG) (tt : TT) (te : TE) (vs : List Nat) : TE := fun σ H Q => wi σ H fun J H1 => ∀ D, H1 D = none → ∃ W : Nat → Nat → Hp → Prop, (∃ m, W 0 m (upd H1 D (ob D))) ∧
  ∀ i m H, W i m H → (J.stop i H ∧ Q (.ref D) H) ∨ (J.go i H ∧ ∃ Nx : Hp → Prop, (∀ H', Nx H' → ∃ m', m' < m ∧ W (i + 1) m' H') ∧
    ∀ x H', J.yld i H x H' → g x (wipe σ vs) H' fun σ2 H2 => wipe σ2 vs = wipe σ vs ∧ tt σ2 H2 fun b H3 => if b = true then te σ2 H3 fun y H4 => r (.ref D) [y] H4 fun _ H5 => Nx H5 else Nx H3)
theorem pe_scA {ob : Addr → HO} {r : V → List V → Hp → VK → Prop} {elt tg iter : Expr} {ifs : List Expr} {scope : Scope} {own : List (PySem.Str × Nat)} {pos : Pos} {wi : TI} {g : TG} {tt : TT} {te : TE} (hc : X.calm = true) (hN : X.N.Nodup)
    (hob : ∀ (P : Program) (H : Hp) (h : Heap), ObjOk P X.w H (h.push { cls := .type "set", dict := none, data := .set #[] 0 (.fresh 0 0 (!X.w.params.followText "set-order")) }) h.objs.size (ob h.objs.size))
    (hr : ∀ (s : Shared) (H : Hp) (C : Addr) (cl : List (PySem.Str × Addr)) (fp : List Addr), MtR (X.blk s H scope (compEnvC scope cl C X.env) fp) "set.add" r) (hi : PI X tg iter wi) (ok : BlkOk X.N X.env.scope scope own)
    (hg : ∀ (s : Shared) (H : Hp) (C : Addr) (cl : List (PySem.Str × Addr)) (fp : List Addr), PG (X.blk s H scope (compEnvC scope cl C X.env) fp) tg g)
    (ht : ∀ (s : Shared) (H : Hp) (C : Addr) (cl : List (PySem.Str × Addr)) (fp : List Addr), PTs (X.blk s H scope (compEnvC scope cl C X.env) fp) ifs tt)
    (he : ∀ (s : Shared) (H : Hp) (C : Addr) (cl : List (PySem.Str × Addr)) (fp : List Addr), PE (X.blk s H scope (compEnvC scope cl C X.env) fp) elt te) (hs : ∀ x, foldedSetIterable iter X.env x = pure x := by intro _; rfl) :
    PE X (.SetComp elt [⟨tg, iter, ifs, 0⟩] scope pos) (tScA ob r wi g tt te (own.map (·.2))) := by
  refine ⟨fun pins s σ H Q I h => ?_⟩
  rw [PpSet.eval_SetComp]
  have free : ∀ y ∈ scope.names, y.2 = .free → ∃ c, X.env.cells.lookup y.1 = some c := fun y hy e => (ok.free y hy e).elim (fun k => I.ok.has _ (.inl k)) fun k => I.ok.has _ (.inr k)
  refine wpAny_comprehension_free (use := none) rfl hs (closure_ok free) ok.kind (fun y hy e => by rw [ok.uniq y hy, e]) (thn (hi.run pins s σ H _ I h) fun xv s1 hx => thn hx fun itv s2 ⟨it, fp, tn, J, H2, ei, I2, T, st2, f2, q⟩ => ?_)
  subst ei
  refine PpSet.newSet_ok (newEnv_comp ?_)
  generalize eD : s2.heap.objs.size = D
  have nD : H2 D = none := I2.hok.fresh (Nat.le_of_eq eD)
  obtain ⟨W, ⟨m0, w0⟩, turn⟩ := q D nD
  generalize es3 : ({ s2 with heap := s2.heap.push { cls := .type "set", dict := none, data := .set #[] 0 (.fresh 0 0 (!X.w.params.followText "set-order")) } } : Shared) = s3
  generalize eG : upd H2 D (ob D) = G at w0
  have grown : ∀ (b : Addr) (o : Obj), s2.heap.get? b = some o → s3.heap.get? b = some o := fun b o e => by
    rw [← es3]
    exact Heap.get?_push_of_some _ e
  have I3 : Inv X pins σ G s3 := by
    rw [← es3, ← eG]
    refine I2.laid (t' := s2.toks) (fun b o e => Heap.get?_push_of_some _ e) (Nat.le_of_eq eD) ?_
    rw [← eD]
    exact hob _ _ _
  have size3 : s3.heap.objs.size = s2.heap.objs.size + 1 := by
    rw [← es3]
    exact Heap.size_push ..
  have fp3 : ∀ b ∈ fp, FpOk X pins G b ∧ b < s3.heap.objs.size := fun b hb => by
    obtain ⟨o, e, _⟩ := T.obj _ _ st2 b hb
    have lt := Heap.lt_size e
    refine ⟨⟨?_, (f2 b hb).2⟩, by rw [size3]; exact Nat.lt_succ_of_lt lt⟩
    rw [← eG, upd_ne (by rw [← eD]; exact Nat.ne_of_lt lt)]
    exact (f2 b hb).1
  have st3 : tn 0 s3.heap := T.keep _ _ _ st2 fun b _ o e => grown b o e
  have I4 := block_start I3 ok hN fp3
  have pg := hg s3 G s3.heap.objs.size (cellsFrom (s3.heap.objs.size + 1) scope.names (cloFrom X.env.cells scope.names [])) fp
  have pt := ht s3 G s3.heap.objs.size (cellsFrom (s3.heap.objs.size + 1) scope.names (cloFrom X.env.cells scope.names [])) fp
  have pe := he s3 G s3.heap.objs.size (cellsFrom (s3.heap.objs.size + 1) scope.names (cloFrom X.env.cells scope.names [])) fp
  have pa := hr s3 G s3.heap.objs.size (cellsFrom (s3.heap.objs.size + 1) scope.names (cloFrom X.env.cells scope.names [])) fp
  show codeAny _ _ (.compStart (.SetComp elt [⟨tg, iter, ifs, 0⟩] scope pos) 0 (.ref it) (.ref D) (compEnvC scope (cellsFrom (s3.heap.objs.size + 1) scope.names (cloFrom X.env.cells scope.names [])) s3.heap.objs.size X.env)) _ _
  have away : ∀ b ∈ fp, G b = none := fun b hb => (fp3 b hb).1.1
  generalize eC : compEnvC scope (cellsFrom (s3.heap.objs.size + 1) scope.names (cloFrom X.env.cells scope.names [])) s3.heap.objs.size X.env = ce at I4 pg pt pe pa ⊢
  have locals : ce.locals = s3.heap.objs.size := by rw [← eC]; rfl
  have frames : ∀ {σ' : L2.St} {H' : Hp} {s' : Shared}, Inv (X.blk s3 G scope ce fp) [] σ' H' s' → (∀ b ∈ fp, H' b = none) → ∀ b ∈ fp, FpOk (X.blk s3 G scope ce fp) [] H' b := fun J' n b hb =>
    ⟨n b hb, (J'.ok.exf b hb).1, J'.ok.exfs b hb, .inl hb, fun x c e => (J'.ok.exf b hb).2 x c e, fun p hp => absurd (show p ∈ ([] : List (Addr × Obj)) ++ [] from hp) (by simp)⟩
  generalize es4 : ({ s3 with heap := pushCells (s3.heap.push { cls := .type "dict", data := .dict #[] }) scope.names } : Shared) = s4 at I4 ⊢
  have st4 : tn 0 s4.heap := T.keep _ _ _ st3 fun b _ o e => by
    rw [← es4]
    exact pushCells_keeps _ _ _ _ (Heap.get?_push_of_some _ e)
  refine PpSet.codeAny_compStart_set ?_ (T.self X.A 0 _ _ _ st4 ?_) <;>
  · refine PpSet.compLoopS_any (fun n s' => ∃ i H', Inv (X.blk s3 G scope ce fp) [] (wipe σ (own.map (·.2))) H' s' ∧ tn i s'.heap ∧ (∀ b ∈ fp, H' b = none) ∧ W i n H') ?_ m0 ⟨0, G, I4, st4, away, w0⟩
    rintro n s5 ⟨i, H5, I5, st5, n5, w5⟩
    rcases turn i n H5 w5 with ⟨stop, qq⟩ | ⟨go, Nx, nxt, step⟩
    · refine thnF (T.done (X.blk s3 G scope ce fp) rfl rfl rfl hc i [] s5 _ H5 (fun _ _ => False) I5 (frames I5 n5) st5 stop) fun r s6 ⟨er, I6⟩ => ?_
      subst er
      have I7 : Inv X pins σ H5 s6 := I3.call' (ch := fp) I6.os I6.base I6.hok I6.bare fun b hb => ⟨(fp3 b hb).1.2.2.2.1, (fp3 b hb).1.2.1, (fp3 b hb).1.2.2.2.2.1, (fp3 b hb).1.2.2.2.2.2⟩
      have nC : H5 s3.heap.objs.size = none := by
        have z : H5 ce.locals = none := I6.free
        rwa [locals] at z
      obtain ⟨m, hm, _⟩ := I6.loc
      have hm : s6.heap.Ns ce.locals m := hm
      rw [locals] at hm
      obtain ⟨f0, f1, f2, f3, f4, f5⟩ := I3.fpOk (Nat.le_refl _) nC
      first
        | exact ⟨m, hm, fun h'' sb => ⟨.ref D, H5, I7.turned (t' := s6.toks) (fun b o hb e => (sb.2 b hb).trans e) f0 f1 f3 f4 f5, rfl, qq⟩⟩
        | (rw [← locals] at hm; exact ⟨m, hm, fun h'' sb => ⟨.ref D, H5, I7.turned (t' := s6.toks) (fun b o hb e => (sb.2 b hb).trans e) f0 f1 f3 f4 f5, rfl, qq⟩⟩)
    · refine thnF (T.item (X.blk s3 G scope ce fp) rfl rfl rfl hc i [] s5 _ H5 (fun _ _ => False) I5 (frames I5 n5) st5 go) fun r s6 ⟨u, er, h6⟩ => ?_
      subst er
      refine thnF h6 fun _ s7 ⟨x, H7, I7, r7, y7, st7, n7⟩ => ?_
      refine thnF (pg.run _ s7 _ H7 x u _ (I7.pinned (frames I7 n7) (T.obj _ _ st7)) r7 (step x H7 y7)) fun _ s8 ⟨σ8, H8, I8, w8, q8⟩ => thnF (pt.run _ s8 σ8 H8 _ I8 q8) fun b s9 ⟨H9, I9, q9⟩ => ?_
      have done : ∀ {s' : Shared} {H' : Hp}, Inv (X.blk s3 G scope ce fp) ([] ++ pinsAt fp s7.heap) σ8 H' s' → Nx H' → ∃ m, m < n ∧ ∃ i H', Inv (X.blk s3 G scope ce fp) [] (wipe σ (own.map (·.2))) H' s' ∧ tn i s'.heap ∧ (∀ b ∈ fp, H' b = none) ∧ W i m H' := by
        intro s' H' J' nx
        obtain ⟨m', lt, w'⟩ := nxt H' nx
        have pinned : ∀ b ∈ fp, ∀ o, s7.heap.get? b = some o → s'.heap.get? b = some o ∧ H' b = none := fun b hb o e => by
          have z := J'.pin (b, o) (List.mem_append_right _ (List.mem_append_right _ (mem_pinsAt hb e)))
          exact ⟨z.1, z.2.1⟩
        refine ⟨m', lt, i + 1, H', (J'.unpinned (pins := [])).weak (by rw [← w8, wipe_length]) (fun j v e => ?_), T.keep _ _ _ st7 fun b hb o e => (pinned b hb o e).1, fun b hb => ?_, w'⟩
        · rw [← w8] at e
          exact (wipe_some e).1
        · obtain ⟨o, e, _⟩ := T.obj _ _ st7 b hb
          exact (pinned b hb o e).2
      cases b with
      | false =>
        simp only [Bool.false_eq_true, if_false] at q9 ⊢
        exact done I9 q9
      | true =>
        simp only [if_true] at q9 ⊢
        refine thnF (pe.run _ s9 σ8 H9 _ I9 q9) fun z s10 ⟨yv, H10, I10, r10, q10⟩ => ?_
        refine thnF (pa _ s10 σ8 H10 (.ref D) [yv] (.ref D) [z] _ I10 rfl (.cons r10 .nil) q10) fun _ s11 ⟨_, H11, I11, _, nx⟩ => done I11 nx
end
end L50
/-! list.extend by a tuple; check_program -/
namespace L50
open PySem PySem.Spec PyProof.Rows L2 L54
set_option maxRecDepth 8000 in
theorem ext_tup (l : Addr) (xs : Array Value) (n : Nat) (b : Addr) (ys : Array Value) (m : Nat) (dd : Option Addr) (sl : Array (Option Value)) (big : ¬(!xs.isEmpty && Builtin.List.listTooLong (xs.size + ys.size)) = true) (z1 : xs.size ≤ sizeLine) (z2 : xs.size + ys.size ≤ sizeLine + 1) :
    Meets (Builtin.«list.extend» ⟨[.ref l, .ref b], []⟩) (fun _ R s => s.heap.get? l = some { cls := .type "list", dict := none, data := .seq xs n, slots := #[] } ∧ s.heap.get? b = some { cls := .type "tuple", dict := dd, data := .seq ys m, slots := sl } ∧
      R (.ok (.ret Value.none)) { s with heap := s.heap.update l (Obj.mapSeq fun x => x ++ ys), toks := s.toks }) :=
  .of_wp fun prog w A R s h => by
    obtain ⟨hp, g, d, tk, os⟩ := s
    obtain ⟨hl, hb, h⟩ := h
    have f1 := AutoSeq1.idx_int
    have f2 := AutoSeq1.sub_tuple_tuple
    have f3 := AutoSeq1.sub_list_list
    have f4 := AutoSeq1.sub_tuple_list
    have f5 := AutoSeq1.sub_list_tuple
    have z3 : (xs ++ ys).size ≤ sizeLine + 1 := by
      rw [Array.size_append]
      exact z2
    wp_walk using (wpAny_updateSeq hl rfl (hz := z1) (_hz' := z3)), AutoSeq1.wpAny_loadPart' hl, AutoSeq1.wpAny_loadPart' hb
    exact ⟨_, rfl, h⟩
section
variable {X : Cx}
def rExtT (K : PySem.W.Frag) : V → List V → Hp → VK → Prop := fun x vs H Q => ∃ (l b : Addr) (xs zs : List V), x = .ref l ∧ vs = [.ref b] ∧ H l = some (.lst xs) ∧ SqT K H b zs ∧ xs.length + zs.length ≤ sizeLine ∧ Q .non (upd H l (.lst (xs ++ zs)))
theorem mt_extT : MtM X "list.extend" (rExtT X.K) := by
  intro pins s σ H x vs v us Q I rx rv h
  obtain ⟨l, b, xs, zs, rfl, rfl, eL, eB, fits, q⟩ := h
  cases rx
  obtain ⟨u, rfl, ru⟩ := rv.one
  cases ru
  obtain ⟨z, its, n, r, hl, e⟩ := I.lstM eL
  obtain ⟨its2, r2, ⟨o, eo, oc, m, od⟩, _⟩ := I.tuple eB
  obtain ⟨cls, dd, data, sl⟩ := o
  dsimp only at oc od
  subst oc
  subst od
  have l1 := r.length
  have l2 := r2.length
  have both : its.toArray.size + its2.toArray.size ≤ sizeLine := by
    rw [List.size_toArray, List.size_toArray]
    omega
  have big : ¬ (!its.toArray.isEmpty && Builtin.List.listTooLong (its.toArray.size + its2.toArray.size)) = true := by
    rw [notLongL both, Bool.and_false]
    decide
  refine call_meets F.slot_list_extend ⟨_, e, rfl⟩ F.entry_list_extend (F.args_list_extend_2 _ _) (ext_tup l its.toArray n b its2.toArray m dd sl big (by rw [List.size_toArray]; omega) (by omega)) ⟨e, eo, ?_⟩
  refine ⟨.non, _, I.lset (its' := its ++ its2) eL e (by simp) (r.append r2) ?_, rfl, q⟩
  rw [List.length_append]
  exact fits
end
section
variable {P : Program} {w : World} {K : PySem.W.Frag} {mg : Str → Option Value} {base : Heap}
def spChk (K : PySem.W.Frag) : Sp := fun vs H Q _ => ∃ (v : V) (d : PyData), vs = [v] ∧ Dv K H v d ∧ d.weight ≤ 4000 ∧ isProg d = true ∧ ∀ H', Same H H' → Q .non H'
abbrev nCk : List Str := ["program"]
theorem scCk : FnScope nCk ["program"] (defScope sCheck) := ⟨rfl, rfl, rfl, by decide +kernel, rfl, by decide +kernel, by decide +kernel⟩
theorem ok_chk {f fP : Addr} {fd fdP : FuncData} (F : Fun K "check_program" "check_program" sCheck f fd) (kP : PySem.W.keepIn K (.ref fP) = true) (bP : Binds K fdP ["value"] []) (mP : mg "is_program" = some (.ref fP))
    (GP : FnOk P w K mg base CX0 3 fP fdP ["value"] (spProg K)) : FnOk P w K mg base CX0 4 f fd ["program"] (spChk K) := by
  refine F.ok scCk (fun vs H Q E h => ?_) (fun cdv A outer s H vs Q E hr h => ?_)
  · obtain ⟨v, d, rfl, _⟩ := h
    rfl
  · obtain ⟨v, d, rfl, hD, hw, hp, h⟩ := h
    refine ⟨_, pss_one (ps_if (pt_not (pt_val (pe_call GP hr rfl mP kP bP .nil pass0 (pa_cons (pv 0) pa_nil)))) (pss_one ps_never) pss_nil), ?_⟩
    refine ⟨_, rfl, v, d, rfl, hD, hw, fun H' S => ?_⟩
    rw [hp]
    exact ⟨_, rfl, h H' S⟩
end
end L50
/-! names -/
namespace L50
open PySem PySem.Spec PyProof.Rows L2 L54
def nms (ds : List PyData) : List Str := (ds.filter isDo).map own
theorem wApp : ∀ as bs : List PyData, PyData.weightAll (as ++ bs) = PyData.weightAll as + PyData.weightAll bs
  | [], bs => by
    have e : PyData.weightAll [] = 0 := by rw [PyData.weightAll]
    rw [List.nil_append, e, Nat.zero_add]
  | a :: as, bs => by
    have e : ∀ r, PyData.weightAll (a :: r) = a.weight + 1 + PyData.weightAll r := fun r => by rw [PyData.weightAll]
    rw [List.cons_append, e, e, wApp as bs]
    omega
theorem wCons (a : PyData) (r : List PyData) : PyData.weightAll (a :: r) = a.weight + 1 + PyData.weightAll r := by rw [PyData.weightAll]
theorem wKids (d : PyData) : PyData.weightAll (kids d) ≤ d.weight := by
  have z : PyData.weightAll [] = 0 := by rw [PyData.weightAll]
  cases d with
  | tuple ds =>
    cases ds with
    | nil => exact Nat.le_trans (Nat.le_of_eq z) (Nat.zero_le _)
    | cons k r =>
      rw [kids, w_tup, wCons]
      split
      · rw [z]; exact Nat.zero_le _
      · omega
  | none => exact Nat.le_trans (Nat.le_of_eq z) (Nat.zero_le _)
  | bool _ => exact Nat.le_trans (Nat.le_of_eq z) (Nat.zero_le _)
  | int _ => exact Nat.le_trans (Nat.le_of_eq z) (Nat.zero_le _)
  | str _ => exact Nat.le_trans (Nat.le_of_eq z) (Nat.zero_le _)
  | list _ => exact Nat.le_trans (Nat.le_of_eq z) (Nat.zero_le _)
  | dict _ => exact Nat.le_trans (Nat.le_of_eq z) (Nat.zero_le _)
theorem prog_wf {d : PyData} (h : isProg d = true) : wf 1 d = true ∧ few d := by
  have hsp := is_spec d
  rw [h] at hsp
  obtain ⟨s1, s2⟩ := Bool.and_eq_true_iff.mp hsp.symm
  obtain ⟨s3, s4⟩ := Bool.and_eq_true_iff.mp s2
  refine ⟨(look_wf 1 d [] s1).1, ?_⟩
  unfold few
  exact of_decide_eq_true s4
def leftN (σ : L2.St) : Nat := match σ[2]? with
  | some (some (V.int p)) => 4001 - p.toNat
  | _ => 0
theorem sc_listA {ob : Addr → HO} {r : V → List V → Hp → VK → Prop} {K : PySem.W.Frag} {a : Addr} {xs : List V} {g : TG} {tt : TT} {te : TE} {vs : List Nat} {σ : L2.St} {H1 : Hp} {D : Addr} {Qd : Hp → Prop} (Pv : Nat → Hp → Prop) (h0 : Pv 0 (upd H1 D (ob D)))
    (hl : ∀ i H, i ≤ xs.length → Pv i H → SqL K H a xs) (hs : ∀ i x H, xs[i]? = some x → Pv i H → g x (wipe σ vs) H fun σ2 H2 => wipe σ2 vs = wipe σ vs ∧ tt σ2 H2 fun b H3 =>
      if b = true then te σ2 H3 fun y H4 => r (.ref D) [y] H4 fun _ H5 => Pv (i + 1) H5 else Pv (i + 1) H3) (hd : ∀ H, Pv xs.length H → Qd H) :
    ∃ W : Nat → Nat → Hp → Prop, (∃ m, W 0 m (upd H1 D (ob D))) ∧ ∀ i m H, W i m H → ((Itl K a).stop i H ∧ Qd H) ∨ ((Itl K a).go i H ∧ ∃ Nx : Hp → Prop, (∀ H', Nx H' → ∃ m', m' < m ∧ W (i + 1) m' H') ∧
      ∀ x H', (Itl K a).yld i H x H' → g x (wipe σ vs) H' fun σ2 H2 => wipe σ2 vs = wipe σ vs ∧ tt σ2 H2 fun b H3 => if b = true then te σ2 H3 fun y H4 => r (.ref D) [y] H4 fun _ H5 => Nx H5 else Nx H3) := by
  refine ⟨fun i m H => i ≤ xs.length ∧ m + i = xs.length ∧ Pv i H, ⟨xs.length, Nat.zero_le _, rfl, h0⟩, fun i m H ⟨le, sum, p⟩ => ?_⟩
  have at_ := hl i H le p
  rcases Nat.lt_or_ge i xs.length with lt | ge
  · refine .inr ⟨⟨xs, xs[i], at_, List.getElem?_eq_getElem lt⟩, fun H' => Pv (i + 1) H', fun H' p' => ⟨m - 1, by omega, by omega, by omega, p'⟩, fun x H' y => ?_⟩
    obtain ⟨rfl, y⟩ := y
    exact hs i x _ (y xs at_) p
  · refine .inl ⟨⟨xs, at_, ge⟩, hd H ?_⟩
    rwa [show i = xs.length by omega] at p
theorem ix_tupK {X : Cx} {K : PySem.W.Frag} (e : X.K = K) : IxR X (rIxT K) := by
  subst e
  exact ix_tup
theorem op_eqSK {X : Cx} {K : PySem.W.Frag} (e : X.K = K) (hu : X.A.units < cLine) : OpR X (compareOp .Eq) (rEqS K) := by
  subst e
  exact op_eqS hu
section
variable {P : Program} {w : World} {K : PySem.W.Frag} {mg : Str → Option Value} {base : Heap}
abbrev nNs : List Str := ["program", "parts", "at", "part"]
theorem scNs : FnScope nNs ["program"] (defScope sNames) := ⟨rfl, rfl, rfl, by decide +kernel, rfl, by decide +kernel, by decide +kernel⟩
theorem ok_names {f fC fM : Addr} {fd fdC fdM : FuncData} (F : Fun K "names" "names" sNames f fd) (T : Bl mg) (kC : PySem.W.keepIn K (.ref fC) = true) (bC : Binds K fdC ["program"] []) (mC : mg "check_program" = some (.ref fC)) (GC : FnOk P w K mg base CX0 4 fC fdC ["program"] (spChk K))
    (kM : PySem.W.keepIn K (.ref fM) = true) (bM : Binds K fdM ["part"] []) (mM : mg "_members" = some (.ref fM)) (GM : FnOk P w K mg base CX0 1 fM fdM ["part"] (spMem K)) : FnOk P w K mg base CX0 5 f fd ["program"] (spNames K) := by
  refine F.ok scNs (fun vs H Q E h => ?_) (fun cdv A outer s H vs Q E hr h => ?_)
  · obtain ⟨v, d, rfl, _⟩ := h
    rfl
  · obtain ⟨v, d, rfl, hD, hp, hw, h⟩ := h
    have hu := hu_of hr
    have hu0 : (A.deeper (envOfC "names" (defScope sNames) s.heap.objs.size f cdv)).units < cLine := by omega
    obtain ⟨hwf, hfew⟩ := prog_wf hp
    refine ⟨_, pss_cons (ps_expr (pe_call GC hr rfl mC kC bC .nil pass0 (pa_cons (pv 0) pa_nil)))
      (pss_cons (ps_set (i := 1) scNs.nd rfl (.inl rfl) (pe_lst (pa_cons (pv 0) pa_nil)))
      (pss_cons (ps_set (i := 2) scNs.nd rfl (.inl rfl) pe_int)
      (pss_cons (ps_while PassesOwn.never (pt_cmpR op_lt (pv 2) (pe_callB call_len_seq rfl T.len b_len (pa_cons (pv 1) pa_nil)) (nomark _))
        (pss_cons (ps_expr (pe_bm PySem.F.plainAttrs_list PySem.F.slot_list_extend PySem.F.type_list_extend mt_extT (pv 1) (pa_cons (pe_call GM (hr.mono (by decide)) rfl mM kM bM .nil pass0 (pa_cons (pe_ix ix_list (pv 1) (pv 2) (fun _ _ => rfl)) pa_nil)) pa_nil)))
        (pss_one (ps_aug (i := 2) scNs.nd rfl (.inl rfl) pe_int ip_add))))
      (pss_one (ps_ret (pe_callTy call_tuple_of rfl T.tup b_tup (pa_cons (pe_callB (cr_tsorted rfl) rfl T.srt b_srt (pa_cons
        (pe_scA (ob := fun a => TSetO w a []) (r := rTAdd w) (own := [("part", 3)]) (g := gName 3) rfl scNs.nd (fun P H h => tset_ok (TSet.new w h)) (fun _ _ _ _ _ => mt_tadd) (pi_list (pv 1)) (blkOk_by (N := nNs) (sc := defScope sNames) (by decide +kernel)) (fun _ _ _ _ _ => pg_name (i := 3) scNs.nd rfl (Or.inl rfl))
          (fun _ _ _ _ _ => pts_one (pt_cmpR (op_eqSK (K := K) rfl hu0) (pe_ix (ix_tupK (K := K) rfl) (pv 3) pe_int (fun _ _ => rfl)) pe_str (nomark _)))
          (fun _ _ _ _ _ => pe_ix (ix_tupK (K := K) rfl) (pv 3) pe_int (fun _ _ => rfl))) pa_nil)) pa_nil))))))), ?_⟩
    refine ⟨_, rfl, v, d, rfl, hD, hw, hp, fun H1 S1 => ?_⟩
    refine ⟨_, rfl, len_small (by simp), fun l nl => ?_⟩
    have nlH : H l = none := by
      cases q : H l with
      | none => rfl
      | some o => rw [S1 _ _ q] at nl; cases nl
    show tWhile _ _ _ _ _
    refine while_by (fun σ Hc => ∃ (i : Nat) (xs : List V) (ds : List PyData), σ = [some v, some (.ref l), some (.int (i : Nat)), none] ∧ Same H Hc ∧ Hc l = some (.lst xs) ∧ DvAll K H xs ds ∧ i ≤ ds.length ∧ i + PyData.weightAll (ds.drop i) ≤ 4001 ∧
        (∀ e ∈ ds, ∃ k, wf k e = true) ∧ (∀ x, act d x ↔ (∃ e ∈ ds.take i, x = own e ∧ x ≠ "") ∨ ∃ e ∈ ds.drop i, act e x)) (fun σ _ => leftN σ) ?_ ?_ ?_
    · refine ⟨0, [v], [d], rfl, same_at (S1.trans (Same.refl _)) nlH, upd_same, .cons hD .nil, by simp, ?_, ?_, ?_⟩
      · rw [List.drop_zero, wCons]
        have z : PyData.weightAll [] = 0 := by rw [PyData.weightAll]
        omega
      · intro e he
        rw [List.mem_singleton.mp he]
        exact ⟨1, hwf⟩
      · intro x
        simp
    · rintro σ Hc ⟨i, xs, ds, rfl, S, hL, hA, hi, hsum, hwfs, hact⟩
      have hxl := hA.len
      have hdl := wAll_len (ds.drop i)
      rw [List.length_drop] at hdl
      refine ⟨_, rfl, _, rfl, l, _, rfl, .inl (.inl (.inl hL)), _, _, rfl, rfl, _, rfl, ?_⟩
      refine ite2 (fun hlt => ?_) (fun hge => ?_)
      · have hlt' : i < ds.length := by
          have z := of_decide_eq_true hlt
          omega
        obtain ⟨e, he⟩ : ∃ e, ds[i]? = some e := ⟨_, List.getElem?_eq_getElem hlt'⟩
        have hx1 : i < xs.length := by omega
        obtain ⟨e', he', hDe⟩ := hA.get (List.getElem?_eq_getElem hx1)
        rw [he] at he'
        obtain rfl := Option.some.inj he'
        have hem : e ∈ ds := List.mem_of_getElem? he
        obtain ⟨ke, hwe⟩ := hwfs e hem
        obtain ⟨hpe, _⟩ := wf_part hwe
        have hdrop : ds.drop i = e :: ds.drop (i + 1) := by
          rw [List.drop_eq_getElem_cons hlt']
          rw [List.getElem?_eq_getElem hlt'] at he
          rw [Option.some.inj he]
        rw [hdrop, wCons] at hsum
        have hwk := wKids e
        obtain ⟨x0, r, hes, _⟩ := isPart_shape hpe
        refine ⟨_, rfl, .inl ⟨rfl, _, .inl (.inl hL)⟩, _, rfl, _, rfl, l, _, _, _, rfl, rfl, .inl (.inl hL), atI_nat (List.getElem?_eq_getElem hx1), xs[i], x0, r, H, rfl, S, by rw [← hes]; exact hDe, fun p H2 ys S2 hys hAk => ?_⟩
        rw [← hes] at hAk
        have hkl := hAk.len
        have hkl2 := wAll_len (kids e)
        have hdl2 := wAll_len (ds.drop (i + 1))
        rw [List.length_drop] at hdl2
        have hL2 := S2 _ _ hL
        refine ⟨l, p, xs, ys, rfl, rfl, hL2, hys, by rw [sizeLine_eq]; omega, _, rfl, _, _, rfl, rfl, ?_⟩
        refine ⟨⟨i + 1, xs ++ ys, ds ++ kids e, rfl, same_at (S.trans S2) nlH, upd_same, hA.app hAk, by rw [List.length_append]; omega, ?_, ?_, ?_⟩, ?_⟩
        · rw [List.drop_append_of_le_length (by omega), wApp]
          omega
        · intro e2 he2
          rcases List.mem_append.mp he2 with a | a
          · exact hwfs e2 a
          · have q := wf_kids (k := ke) hpe
            rw [hwe] at q
            exact ⟨ke + 1, List.all_eq_true.mp (Bool.and_eq_true_iff.mp q.symm).2 e2 a⟩
        · intro x
          rw [hact x, hdrop, List.take_append_of_le_length (by omega), List.drop_append_of_le_length (by omega), List.take_add_one, he]
          have ak := act_kids hpe x
          constructor
          · rintro (⟨e2, h1, h2⟩ | ⟨e2, h1, h2⟩)
            · exact .inl ⟨e2, List.mem_append_left _ h1, h2⟩
            · rcases List.mem_cons.mp h1 with rfl | h1
              · rcases ak.mp h2 with a | ⟨e3, a1, a2⟩
                · exact .inl ⟨e2, List.mem_append_right _ (by simp), a⟩
                · exact .inr ⟨e3, List.mem_append_right _ a1, a2⟩
              · exact .inr ⟨e2, List.mem_append_left _ h1, h2⟩
          · rintro (⟨e2, h1, h2⟩ | ⟨e2, h1, h2⟩)
            · rcases List.mem_append.mp h1 with a | a
              · exact .inl ⟨e2, a, h2⟩
              · have ee : e2 = e := by simpa using a
                subst ee
                exact .inr ⟨e2, List.mem_cons_self, ak.mpr (.inl h2)⟩
            · rcases List.mem_append.mp h1 with a | a
              · exact .inr ⟨e2, List.mem_cons_of_mem _ a, h2⟩
              · exact .inr ⟨e, List.mem_cons_self, ak.mpr (.inr ⟨e2, a, h2⟩)⟩
        · show 4001 - (((i : Nat) : Int) + 1).toNat < 4001 - ((i : Nat) : Int).toNat
          omega
      · have hge' : ds.length ≤ i := by
          have z : ¬ ((i : Int) < (xs.length : Int)) := fun q => hge (decide_eq_true q)
          omega
        have hact' : ∀ x, act d x ↔ ∃ e ∈ ds, x = own e ∧ x ≠ "" := fun x => by
          rw [hact x, List.drop_of_length_le hge', List.take_of_length_le hge']
          simp
        -- what stands in the set
        have subs : ∀ i x, x ∈ (nms (ds.take i)).foldl addN [] → act d x := fun i x hx => by
          have q := ((addN_nodup (nms (ds.take i)) [] .nil).2 x).mp hx
          rcases q with q | q
          · cases q
          · obtain ⟨e, he, rfl⟩ := List.mem_map.mp q
            obtain ⟨h1, h2⟩ := List.mem_filter.mp he
            have hm := List.mem_of_mem_take h1
            obtain ⟨ke, hwe⟩ := hwfs e hm
            obtain ⟨o1, o2⟩ := own_do (wf_part hwe).1 h2
            exact (hact' _).mpr ⟨e, hm, rfl, by rw [o1]; exact o2⟩
        have short : ∀ i, ((nms (ds.take i)).foldl addN []).length ≤ 6 := fun i => by
          have a1 := dstn_mem d
          exact Nat.le_trans (nodup_le (addN_nodup (nms (ds.take i)) [] .nil).1 fun x hx => (a1.2 x).mpr (subs i x hx)) hfew
        refine ⟨_, rfl, l, rfl, ⟨_, .inl (.inl hL)⟩, fun D nD => ?_⟩
        refine sc_listA (ob := fun a => TSetO w a []) (r := rTAdd w) (K := K) (a := l) (xs := xs) (fun i Hd => Same Hc Hd ∧ Hd D = some (TSetO w D ((nms (ds.take i)).foldl addN []))) ⟨up1 nD, upd_same⟩ (fun i Hd _ ⟨q, _⟩ => .inl (.inl (q _ _ hL))) ?_ ?_
        · rintro i x Hd hix ⟨Sd, hS⟩
          refine ⟨rfl, ?_⟩
          obtain ⟨e, he, hDe⟩ := hA.get hix
          obtain ⟨ke, hwe⟩ := hwfs e (List.mem_of_getElem? he)
          obtain ⟨hpe, _⟩ := wf_part hwe
          have et : ds.take (i + 1) = ds.take i ++ [e] := by rw [List.take_add_one, he]; rfl
          have hDe2 := hDe.mono (S.trans Sd)
          obtain ⟨x0, r, rfl, hpo⟩ := isPart_shape hpe
          cases hDe2 with
          | @tup a zs _ hs0 ha =>
            cases ha with
            | @cons y ys _ _ hy hyt =>
              refine ⟨_, rfl, a, _, _, y, rfl, rfl, hs0, at0, x0, _, hy, rfl, _, rfl, ?_⟩
              refine nS (fun h1 => ?_) (fun h1 => ?_)
              · obtain ⟨z, rfl, hz⟩ := partDo hpo h1
                cases hyt with
                | @cons y2 ys2 _ _ hy2 hy3 =>
                  cases hy3
                  cases hy2
                  have hq : isDo (.tuple [x0, .str z]) = true := h1
                  have hown : own (.tuple [x0, .str z]) = z := by
                    unfold own
                    rw [hq]
                    rfl
                  have en : nms (ds.take (i + 1)) = nms (ds.take i) ++ [z] := by
                    unfold nms
                    rw [et, List.filter_append, List.map_append, List.filter_cons, hq]
                    simp [hown]
                  have := short i
                  refine ⟨_, rfl, a, _, _, V.str z, rfl, rfl, hs0, at1, D, _, z, rfl, rfl, hS, (by show _ < 4096; omega), same_at Sd nD, ?_⟩
                  rw [upd_same, en, List.foldl_append]
                  rfl
              · have hq : isDo (.tuple (x0 :: r)) = false := h1
                have en : nms (ds.take (i + 1)) = nms (ds.take i) := by
                  unfold nms
                  rw [et, List.filter_append, List.map_append, List.filter_cons, hq]
                  simp
                refine ⟨Sd, ?_⟩
                rw [en]
                exact hS
        · rintro Hd ⟨Sd, hS⟩
          rw [List.take_of_length_le (by omega)] at hS
          have dn := addN_nodup (nms ds) [] .nil
          have sh := short ds.length
          rw [List.take_length] at sh
          refine ⟨D, _, rfl, hS, by omega, fun ys p pm srt np => ?_⟩
          have U1 := up1 (o := .lst (ys.map V.str)) np
          refine ⟨p, _, rfl, .inl ⟨.inl (.inl upd_same), fun t nt => ?_⟩⟩
          have U2 := up1 (o := .tup (ys.map V.str)) nt
          refine h t _ ys (S.trans (Sd.trans (U1.trans U2))) (.inl (.inl upd_same)) (pm.symm.nodup dn.1) (fun x => ?_) srt
          rw [pm.mem_iff]
          constructor
          · intro hx
            have q := subs ds.length x
            rw [List.take_length] at q
            exact q hx
          · intro hx
            obtain ⟨e, he, rfl, hne⟩ := (hact' x).mp hx
            refine (dn.2 _).mpr (.inr (List.mem_map.mpr ⟨e, List.mem_filter.mpr ⟨he, ?_⟩, rfl⟩))
            cases q : isDo e with
            | true => rfl
            | false => exact absurd (own_no q) hne
    · rintro σ Hc Q1 Q2 hh ⟨x, e, y, e2, l', xs', e3, e4, i', j', e5, e6, k, e7, q⟩
      exact ⟨x, e, y, e2, l', xs', e3, e4, i', j', e5, e6, k, e7, hh _ _ q⟩
end
end L50
/-! tuples: t + u, t[lo:hi], t[::-1], told without the new thing's place -/
namespace L50
open PySem PySem.Spec PyProof.Rows L2 L54
section
variable {X : Cx}
def rCatU (K : PySem.W.Frag) : R2 := fun x y H Q => ∃ a b xs ys, x = .ref a ∧ y = .ref b ∧ SqT K H a xs ∧ SqT K H b ys ∧ xs.length + ys.length ≤ 1000 ∧ ∀ p H', Same H H' → SqT K H' p (xs ++ ys) → Q (.ref p) H'
theorem op_catU : OpR X (binaryOp .Add) (rCatU X.K) := by
  intro pins s σ H x y v u Q I rx ry h
  obtain ⟨a, b, xs, ys, rfl, rfl, ha, hb, hz, q⟩ := h
  refine op_catA pins s σ H _ _ v u Q I rx ry ⟨a, b, xs, ys, rfl, rfl, ha, hb, len_small hz, fun e => ?_, fun _ e => ?_, fun _ _ p np => q p _ (up1 np) (.inl (.inl upd_same))⟩
  · subst e
    exact q b H (Same.refl H) hb
  · subst e
    rw [List.append_nil] at q
    exact q a H (Same.refl H) ha
def rSlU (K : PySem.W.Frag) : V → Option Int → Option Int → Hp → VK → Prop := fun x lo hi H Q => ∃ a xs, x = .ref a ∧ SqT K H a xs ∧ ∀ p H', Same H H' → SqT K H' p (cutV xs lo hi) → Q (.ref p) H'
theorem sl_U : SlR X (rSlU X.K) := by
  intro pins s σ H x v vl vu lo hi sl Q I rx hs pl pu h
  obtain ⟨a, xs, rfl, ha, q⟩ := h
  refine sl_tupA pins s σ H _ v vl vu lo hi sl Q I rx hs pl pu ⟨a, xs, rfl, ha, fun e => ?_, fun _ p np => q p _ (up1 np) (.inl (.inl upd_same))⟩
  refine q a H (Same.refl H) ?_
  have e1 : cutV xs lo hi = xs := by
    unfold cutV
    rw [e.1, e.2]
    simp
  rw [e1]
  exact ha
end
theorem cut_lo (xs : List V) {i : Nat} (h : i ≤ xs.length) : cutV xs none (some (i : Int)) = xs.take i := by
  unfold cutV
  rw [HT.sIx_nat, HT.sIx_none, Nat.min_eq_left h]
  simp
theorem cut_hi (xs : List V) {i : Nat} (h : i ≤ xs.length) : cutV xs (some (i : Int)) none = xs.drop i := by
  unfold cutV
  rw [HT.sIx_nat, HT.sIx_none, Nat.min_eq_left h, List.take_of_length_le]
  rw [List.length_drop]
  exact Nat.le_refl _
/-! ### t[::-1] -/
theorem rev_adjust (n : Nat) : Builtin.Slice.sliceAdjust none none (-1) (n : Int) = ((n : Int) - 1, -1) := rfl
theorem rev_places (n : Nat) : Builtin.Slice.slicePlaces ((n : Int) - 1) (-1) (-1) = n := by
  unfold Builtin.Slice.slicePlaces
  rw [if_neg (by decide)]
  split
  · have e : -(-1 : Int) = 1 := rfl
    rw [e, Int.ediv_one]
    omega
  · show (0 : Int).toNat = n
    simp
    omega
theorem rev_pick (xs : List Value) : ((List.range xs.length).filterMap fun (k : Nat) => xs.toArray[(((xs.length : Int) - 1) + (k : Int) * (-1)).toNat]?) = xs.reverse := by
  have e : ∀ k ∈ List.range xs.length, (xs.toArray[(((xs.length : Int) - 1) + (k : Int) * (-1)).toNat]?) = some (xs.reverse.getD k .none) := by
    intro k hk
    have hk' := List.mem_range.mp hk
    have e1 : (((xs.length : Int) - 1) + (k : Int) * (-1)).toNat = xs.length - 1 - k := by omega
    rw [e1, List.getElem?_toArray, List.getD_eq_getElem?_getD, List.getElem?_reverse hk', List.getElem?_eq_getElem (by omega)]
    rfl
  have all : ∀ l : List Nat, (∀ k ∈ l, k ∈ List.range xs.length) → (l.filterMap fun (k : Nat) => xs.toArray[(((xs.length : Int) - 1) + (k : Int) * (-1)).toNat]?) = l.map fun k => xs.reverse.getD k .none := by
    intro l
    induction l with
    | nil => exact fun _ => rfl
    | cons k l ih =>
      intro h
      rw [List.filterMap_cons, ih fun j hj => h j (List.mem_cons_of_mem _ hj), List.map_cons, e k (h k List.mem_cons_self)]
  rw [all _ fun _ h => h]
  apply List.ext_getElem
  · simp
  · intro i h1 h2
    simp at h1
    simp [List.getD_eq_getElem?_getD, h1]
section
variable {prog : Program} {w : World} {A : Around} {E : Value → Shared → Prop} {s : Shared}
theorem get_rev {t sl : Addr} {its : List Value} {tk : Tok} {Q : Value → Shared → Prop} (ht : IsTup s.heap t its.toArray) (hs : s.heap.IsSliceOf sl .none .none (.int (-1) tk)) (z : its.length ≤ sizeLine)
    (q : Q (.ref s.heap.objs.size) { s with heap := s.heap.push { cls := .type "tuple", data := .seq its.reverse.toArray } }) : wpAny (model prog w) A (getItem (.ref t) (.ref sl)) Q E s := by
  obtain ⟨os, g1, g2, g3⟩ := id hs
  unfold getItem
  try with_reducible refine wpAny_holding ?_
  first | refine wpAny_bind (wpAny_pure ?_) | skip
  refine wpAny_bind (wpAny_sequenceKey ht.typeIs (by decide) (wpAny_bind (wpAny_callSpecial?_slot (name := Str.ofString "__getitem__") ht.typeIs slot_tuple_getitem (wpAny_call_entry slot_tuple_getitem ht.typeIs entry_tuple_getitem ?_ (args_tuple_getitem _ _)))))
  show wpAny _ _ (Builtin.Tuple.tupleItemsOf (.ref t) >>= _) _ _ s
  refine wpAny_bind (tupleItemsOf_ ht (wpAny_bind (wpAny_typeOf (⟨os, g1, g2⟩ : s.TypeIs (.ref sl) "slice") ?_)))
  rw [if_pos (by decide)]
  refine wpAny_bind ?_
  unfold Builtin.Slice.sliceApplied Builtin.Slice.sliceFields
  refine wpAny_bind (wpAny_bind (wpAny_field g1 g3 (x := .none) rfl (wpAny_bind (wpAny_field g1 g3 (x := .none) rfl (wpAny_bind (wpAny_field g1 g3 (x := .int (-1) tk) rfl (wpAny_pure ?_)))))))
  refine wpAny_bind (slicePart_int ?_)
  show wpAny _ _ (if ((-1 : Int) == 0) = true then _ else _) _ _ s
  rw [if_neg (by decide)]
  refine wpAny_bind (slicePart_none (wpAny_bind (slicePart_none (wpAny_bind (wpAny_pure ?_)))))
  rw [List.size_toArray]
  show wpAny _ _ (match Builtin.Slice.sliceAdjust none none (-1) (its.length : Int) with | (lo, hi) => pure (lo, (-1 : Int), Builtin.Slice.slicePlaces lo hi (-1))) _ _ s
  rw [rev_adjust]
  show wpAny _ _ (pure (((its.length : Int) - 1), (-1 : Int), Builtin.Slice.slicePlaces ((its.length : Int) - 1) (-1) (-1))) _ _ s
  rw [rev_places]
  refine wpAny_pure ?_
  show wpAny _ _ (if (((its.length : Int) - 1) == 0 && (-1 : Int) == 1 && its.length == its.length) = true then _ else _) _ _ s
  rw [if_neg (by rw [show ((-1 : Int) == 1) = false from rfl, Bool.and_false, Bool.false_and]; decide)]
  have sz : sizeOk (.seq its.reverse.toArray) := by
    show its.reverse.toArray.size ≤ sizeLine
    rw [List.size_toArray, List.length_reverse]
    exact z
  rw [rev_pick]
  first
    | exact wpAny_bind (m := Builtin.Tuple.tupleExact _) (wpAny_newObj_type (wpAny_pure ⟨_, rfl, wpAny_pure q⟩) sz)
    | exact wpAny_bind (m := Builtin.Tuple.tupleExact _) (wpAny_newObj_type (wpAny_bind (wpAny_pure (wpAny_pure ⟨_, rfl, wpAny_pure q⟩))) sz)
end
section
variable {X : Cx}
def tRevT (K : PySem.W.Frag) (te : TE) : TE := fun σ H Q => te σ H fun x H1 => ∃ a xs, x = .ref a ∧ SqT K H1 a xs ∧ ∀ p H', Same H1 H' → SqT K H' p xs.reverse → Q (.ref p) H'
theorem pe_revT {e : Expr} {te : TE} {k : Nat} {p1 p2 p3 pos : Pos} (he : PE X e te) : PE X (.Subscript e (.Slice none none (some (.UnaryOp .USub (.Constant (.int 1) k p1) p2)) p3) pos) (tRevT X.K te) := by
  refine ⟨fun pins s σ H Q I h => Subscript_ (thn (he.run pins s σ H _ I h) fun v s1 ⟨x, H1, I1, r1, a, xs, ex, hx, q⟩ => ?_)⟩
  subst ex
  cases r1
  have st : PO X (some (.UnaryOp .USub (.Constant (.int 1) k p1) p2)) (tPart (tUn (rU fun i => .int (-i)) (tC (.int 1)))) := po_some (pe_un un_neg pe_int)
  refine wpAny_Slice (thn (po_none.run pins s1 σ H1 (fun o G => o = none ∧ G = H1) I1 ⟨rfl, rfl⟩) fun vl s2 ⟨l, G2, I2, pl, el, e2⟩ => ?_)
  subst el e2
  refine thn (po_none.run pins s2 σ G2 (fun o G => o = none ∧ G = G2) I2 ⟨rfl, rfl⟩) fun vu s3 ⟨u, G3, I3, pu, eu, e3⟩ => ?_
  subst eu e3
  refine thn (st.run pins s3 σ G3 (fun o G => o = some (-1) ∧ G = G3) I3 ⟨1, rfl, -1, rfl, rfl, rfl⟩) fun vs s4 ⟨o, G4, I4, ps, eo, e4⟩ => ?_
  subst eo e4
  cases pl
  cases pu
  cases ps with
  | int i tk =>
    have I5 : Inv X pins σ G4 { s4 with heap := s4.heap.push { cls := .type "slice", data := .fields #[.none, .none, .int (-1) tk] } } := I4.kept (t' := s4.toks) fun b ob z => Heap.get?_push_of_some _ z
    obtain ⟨its, r, ht, hz⟩ := I5.tuple hx
    have hlen := r.length
    show wpAny (model X.prog X.w) X.A (subscriptTail e (.Slice none none (some (.UnaryOp .USub (.Constant (.int 1) k p1) p2)) p3) (.ref a) (.ref s4.heap.objs.size)) (EP X pins σ Q) X.xe _
    refine tail_any (ops := [.ref a, .ref s4.heap.objs.size]) ht.typeIs (slot_tuple_getitem.lookup) ?_ (by with_unfolding_all rfl)
    refine get_rev ht (Heap.IsSliceOf.new ..) (by omega) ?_
    exact ⟨.ref _, _, I5.laid (t' := s4.toks) (o := .tup xs.reverse) (fun b ob z => Heap.get?_push_of_some _ z) (Nat.le_refl _) ⟨by rw [List.length_reverse]; exact hz, _, r.reverse, IsTup.new _ _⟩, rfl, q _ _ (up1 (I5.hok.fresh (Nat.le_refl _))) (.inl (.inl upd_same))⟩
end
end L50
/-! _law_bent: what it gives is data of a bounded size -/
namespace L50
open PySem PySem.Spec PyProof.Rows L2 L54
/-- a member of bounded depth, that str() may show -/
structure El (m : Nat) (x : PyData) : Prop where
  sh : x.showable = true
  dp : x.depth ≤ m
  lv : x.leavesShort 2000 = true
  hd : x.hasDict = false
theorem El.up {m k : Nat} {x : PyData} (h : El m x) (l : m ≤ k) : El k x := ⟨h.sh, Nat.le_trans h.dp l, h.lv, h.hd⟩
theorem el_all : ∀ {es : List PyData} {m : Nat}, (∀ x ∈ es, El m x) → PyData.showableAll es = true ∧ PyData.depthAll es ≤ m ∧ PyData.leavesShortAll 2000 es = true ∧ PyData.hasDictAll es = false
  | [], m, _ => ⟨rfl, Nat.zero_le _, rfl, rfl⟩
  | e :: es, m, h => by
    obtain ⟨a1, a2, a3, a4⟩ := el_all fun x hx => h x (List.mem_cons_of_mem _ hx)
    have b := h e List.mem_cons_self
    have b2 := b.dp
    refine ⟨by simp [PyData.showableAll, b.sh, a1], ?_, by simp [PyData.leavesShortAll, b.lv, a3], by simp [PyData.hasDictAll, b.hd, a4]⟩
    rw [PyData.depthAll]
    omega
theorem el_of : ∀ {es : List PyData} {m : Nat}, PyData.showableAll es = true → PyData.depthAll es ≤ m → PyData.leavesShortAll 2000 es = true → PyData.hasDictAll es = false → ∀ x ∈ es, El m x
  | [], _, _, _, _, _, x, hx => by cases hx
  | e :: es, m, h1, h2, h3, h4, x, hx => by
    rw [PyData.depthAll] at h2
    simp only [PyData.showableAll, PyData.leavesShortAll, PyData.hasDictAll, Bool.and_eq_true, Bool.or_eq_false_iff] at h1 h3 h4
    rcases List.mem_cons.mp hx with q | q
    · rw [q]
      exact ⟨h1.1, by omega, h3.1, h4.1⟩
    · exact el_of h1.2 (by omega) h3.2 h4.2 x q
theorem el_tup {es : List PyData} {m : Nat} (h : ∀ x ∈ es, El m x) : El (m + 1) (.tuple es) := by
  obtain ⟨a1, a2, a3, a4⟩ := el_all h
  exact ⟨by simp [PyData.showable, a1], by rw [PyData.depth]; omega, by simp [PyData.leavesShort, a3], by simp [PyData.hasDict, a4]⟩
theorem el_lst {es : List PyData} {m : Nat} (h : ∀ x ∈ es, El m x) : El (m + 1) (.list es) := by
  obtain ⟨a1, a2, a3, a4⟩ := el_all h
  exact ⟨by simp [PyData.showable, a1], by rw [PyData.depth]; omega, by simp [PyData.leavesShort, a3], by simp [PyData.hasDict, a4]⟩
theorem el_mem {es : List PyData} {m : Nat} (h : El (m + 1) (.tuple es)) : ∀ x ∈ es, El m x := by
  obtain ⟨a1, a2, a3, a4⟩ := h
  rw [PyData.depth] at a2
  simp only [PyData.showable, PyData.leavesShort, PyData.hasDict] at a1 a3 a4
  exact el_of a1 (by omega) a3 a4
theorem w_lst (es : List PyData) : (PyData.list es).weight = PyData.weightAll es := by rw [PyData.weight]
theorem w_cut (es : List PyData) (i : Nat) : PyData.weightAll (es.take i) + PyData.weightAll (es.drop i) = PyData.weightAll es := by rw [← wApp, List.take_append_drop]
theorem w_nil : PyData.weightAll [] = 0 := by rw [PyData.weightAll]
theorem w_rev : ∀ es : List PyData, PyData.weightAll es.reverse = PyData.weightAll es
  | [] => rfl
  | e :: es => by
    rw [List.reverse_cons, wApp, w_rev es, wCons, wCons, w_nil]
    omega
theorem nl_mem : ∀ {es : List PyData}, noListAll es = true → ∀ x ∈ es, noList x = true
  | [], _, x, hx => by cases hx
  | e :: es, h, x, hx => by
    simp only [noListAll, Bool.and_eq_true] at h
    rcases List.mem_cons.mp hx with q | q
    · rw [q]
      exact h.1
    · exact nl_mem h.2 x q
/-- what _law_bent may be given, and what it may give -/
structure Bin (m : Nat) (ds : List PyData) : Prop where
  el : ∀ x ∈ ds, El m x
  nl : noListAll ds = true
  ne : 1 ≤ ds.length
  wt : PyData.weightAll ds ≤ 900
def Bout (m c : Nat) (e : PyData) : Prop := El (m + 3) e ∧ e.weight ≤ c + 20
theorem sqtB {K : PySem.W.Frag} {H H' : Hp} {p a : Addr} {ys xs : List V} (s : SameB p H H') (hp : H p = some (.lst ys)) (h : SqT K H a xs) : SqT K H' a xs := by
  rcases h with (h | ⟨o, h⟩) | h
  · exact .inl (.inl (s _ _ (fun e => by rw [e, hp] at h; cases h) h))
  · exact .inl (.inr ⟨o, s _ _ (fun e => by rw [e, hp] at h; cases h) h⟩)
  · exact .inr h
theorem unF {A B : Prop} (h : if (false = true) then A else B) : B := by
  rw [if_neg Bool.false_ne_true] at h
  exact h
theorem w_dropS (es : List PyData) (i : Nat) : PyData.weightAll (es.drop (i + 1)) ≤ PyData.weightAll (es.drop i) := by
  have q := w_cut (es.drop i) 1
  rw [List.drop_drop] at q
  omega
theorem bout_tup {m c : Nat} {ds fs : List PyData} (hb : ∀ x ∈ ds, El m x) (hf : ∀ x ∈ fs, x ∈ ds ∨ El (m + 2) x) (hw : PyData.weightAll fs ≤ c + 20) : Bout m c (.tuple fs) := by
  refine ⟨el_tup fun x hx => ?_, by rw [w_tup]; exact hw⟩
  rcases hf x hx with q | q
  · exact (hb x q).up (by omega)
  · exact q
section
variable {P : Program} {w : World} {K : PySem.W.Frag} {mg : Str → Option Value} {base : Heap}
/-- G keeps all of H' but what was a list in H -/
def KeepL (H H' G : Hp) : Prop := ∀ b u, (∀ xs, H b ≠ some (.lst xs)) → H' b = some u → G b = some u
/-- the value y is e, and stays it whatever becomes of the lists of H -/
def Dz (K : PySem.W.Frag) (H H' : Hp) (y : V) (e : PyData) : Prop := ∀ G, KeepL H H' G → Dv K G y e
theorem KeepL.back {p : Addr} {zs : List V} {H H1 H2 G : Hp} (k : KeepL H H2 G) (hp : H p = some (.lst zs)) (B : SameB p H1 H2) : KeepL H H1 G := fun b u n e => k b u n (B b u (fun q => n zs (by rw [q]; exact hp)) e)
theorem KeepL.inner {p : Addr} {zs : List V} {H H1 H2 H3 G : Hp} (k : KeepL H H3 G) (hp : H1 p = some (.lst zs)) (B : SameB p H H1) (S : Same H2 H3) : KeepL H1 H2 G := fun b u n e => by
  refine k b u (fun xs q => ?_) (S b u e)
  by_cases c : b = p
  · subst c
    exact n zs hp
  · exact n xs (B b _ c q)
theorem sqtL {K : PySem.W.Frag} {p a : Addr} {zs xs : List V} {H H' G : Hp} (B : SameB p H H') (hp : H' p = some (.lst zs)) (k : KeepL H H' G) (h : SqT K H' a xs) : SqT K G a xs := by
  have free : ∀ o, H' a = some o → (∀ ys, o ≠ .lst ys) → ∀ ys, H a ≠ some (.lst ys) := fun o e n ys q => by
    by_cases c : a = p
    · subst c
      rw [hp] at e
      exact n zs (Option.some.inj e).symm
    · have := B a _ c q
      rw [e] at this
      exact n ys (Option.some.inj this)
  rcases h with (h | ⟨o, h⟩) | h
  · exact .inl (.inl (k _ _ (free _ h nofun) h))
  · exact .inl (.inr ⟨o, k _ _ (free _ h nofun) h⟩)
  · exact .inr h
mutual
theorem dvL {K : PySem.W.Frag} {p : Addr} {zs : List V} {H H' G : Hp} (B : SameB p H H') (hp : H' p = some (.lst zs)) (k : KeepL H H' G) : ∀ (d : PyData) (v : V), noList d = true → d.hasDict = false → Dv K H' v d → Dv K G v d
  | .none, _, _, _, h => by cases h; exact .non
  | .bool _, _, _, _, h => by cases h; exact .bl _
  | .int _, _, _, _, h => by cases h; exact .int _
  | .str _, _, _, _, h => by cases h; exact .str _
  | .list ds, _, n, _, h => by simp [noList] at n
  | .tuple ds, _, n, m, h => by
    cases h with
    | @tup a xs _ h1 h2 => exact .tup (sqtL B hp k h1) (dvLAll B hp k ds _ (by simpa [noList] using n) (by simpa [PyData.hasDict] using m) h2)
  | .dict _, _, _, m, h => by simp [PyData.hasDict] at m
theorem dvLAll {K : PySem.W.Frag} {p : Addr} {zs : List V} {H H' G : Hp} (B : SameB p H H') (hp : H' p = some (.lst zs)) (k : KeepL H H' G) : ∀ (ds : List PyData) (vs : List V), noListAll ds = true → PyData.hasDictAll ds = false → DvAll K H' vs ds → DvAll K G vs ds
  | [], _, _, _, h => by cases h; exact .nil
  | d :: ds, _, n, m, h => by
    cases h with
    | cons h1 h2 =>
      simp only [noListAll, Bool.and_eq_true] at n
      simp only [PyData.hasDictAll, Bool.or_eq_false_iff] at m
      exact .cons (dvL B hp k d _ n.1 m.1 h1) (dvLAll B hp k ds _ n.2 m.2 h2)
end
def spBt (K : PySem.W.Frag) (m : Nat) : Sp := fun vs H Q _ => ∃ (p : Addr) (v : V) (ds : List PyData), vs = [.ref p, v] ∧ Dg H p ∧ Dv K H v (.tuple ds) ∧ Bin m ds ∧
  ∀ (y : V) (e : PyData) (H' : Hp), SameB p H H' → Dg H' p → Dz K H H' y e → Bout m (PyData.weightAll ds) e → Q y H'
abbrev nBt : List Str := ["own", "value", "odds", "odd", "at", "pick"]
theorem scBt : FnScope nBt ["own", "value"] (defScope sBent) := ⟨rfl, rfl, rfl, by decide +kernel, rfl, by decide +kernel, by decide +kernel⟩
abbrev XB (P : Program) (w : World) (K : PySem.W.Frag) (mg : Str → Option Value) (base : Heap) (f : Addr) (cdv : Value) (A : Around) (outer : List Env) (s : Shared) (H : Hp) (E : XK) : Cx := (cxOf CX0 P w K mg base nBt "_law_bent" (defScope sBent) f cdv A outer s H E).nox
variable {f : Addr} {cdv : Value} {A : Around} {outer : List Env} {s : Shared} {H : Hp} {E : XK}
theorem bt_tail (T : Bl mg) {fT : Addr} {fdT : FuncData} {fd : FuncData} {m j : Nat} {sp : Sp} (F : Fun K "_law_bent" "_law_bent" sBent f fd) (bF : Binds K fd ["own", "value"] []) (mF : mg "_law_bent" = some (.ref f))
    (FT : Fun K "_law_take" "_law_take" sTake fT fdT) (bT : Binds K fdT ["own", "options"] []) (mT : mg "_law_take" = some (.ref fT)) (hj : 1 ≤ j) (GL : FnOk P w K mg base CX0 j f fd ["own", "value"] sp)
    (hsp : ∀ vs H Q, (∃ m', m = m' + 1 ∧ spBt K m' vs H Q E0) → sp vs H Q E0) (hr : Room j (A.deeper (envOfC "_law_bent" (defScope sBent) s.heap.objs.size f cdv))) :
    ∃ t, PSs (XB P w K mg base f cdv A outer s H E) ((defBody sBent).drop 2) t ∧ ∀ (Q : VK) (p oA : Addr) (v : V) (ds : List PyData) (ys zs : List V) (H1 : Hp), H p = some (.lst zs) → SameB p H H1 → Dg H1 p → Dv K H1 v (.tuple ds) → Bin m ds → H1 oA = some (.lst ys) → oA ≠ p → ys.length = 12 →
      (∀ (i : Nat) (y : V), ys[i]? = some y → ∃ o, Dz K H H1 y o ∧ El 2 o ∧ o.weight ≤ 15) → (∀ (y : V) (e : PyData) (H' : Hp), SameB p H H' → Dg H' p → Dz K H H' y e → Bout m (PyData.weightAll ds) e → Q y H') →
      t { nx := fun _ H' => Q .non H', rt := Q } [some (.ref p), some v, some (.ref oA), none, none, none] H1 := by
  have GT : FnOk P w K mg base CX0 1 fT fdT ["own", "options"] spTake := ok_take FT T
  have hrT := hr.mono hj
  refine ⟨_, pss_cons (ps_set (i := 3) scBt.nd rfl (.inl rfl) (pe_ix ix_list (pv 2) (pe_call GT hrT rfl mT FT.kp bT .nil pass0 (pa_cons (pv 0) (pa_cons pe_int pa_nil))) (fun _ _ => rfl)))
    (pss_cons (ps_set (i := 4) scBt.nd rfl (.inl rfl) (pe_call GT hrT rfl mT FT.kp bT .nil pass0 (pa_cons (pv 0) (pa_cons (pe_callB call_len_seq rfl T.len b_len (pa_cons (pv 1) pa_nil)) pa_nil))))
    (pss_cons (ps_set (i := 5) scBt.nd rfl (.inl rfl) (pe_call GT hrT rfl mT FT.kp bT .nil pass0 (pa_cons (pv 0) (pa_cons pe_int pa_nil))))
    (pss_cons (ps_if (pt_cmpR op_eq (pv 5) pe_int (nomark _)) (pss_one (ps_ret (pe_op op_catU (pe_op op_catU (pe_slice sl_U (pv 1) po_none (po_some (pv 4))) (pe_tup (pa_cons (pv 3) pa_nil))) (pe_slice sl_U (pv 1) (po_some (pe_op op_add (pv 4) pe_int)) po_none)))) pss_nil)
    (pss_cons (ps_if (pt_cmpR op_eq (pv 5) pe_int (nomark _)) (pss_one (ps_ret (pe_op op_catU (pe_slice sl_U (pv 1) po_none (po_some (pv 4))) (pe_slice sl_U (pv 1) (po_some (pe_op op_add (pv 4) pe_int)) po_none)))) pss_nil)
    (pss_cons (ps_if (pt_cmpR op_eq (pv 5) pe_int (nomark _)) (pss_one (ps_ret (pe_op op_catU (pe_op op_catU (pe_slice sl_U (pv 1) po_none (po_some (pv 4))) (pe_tup (pa_cons (pv 3) pa_nil))) (pe_slice sl_U (pv 1) (po_some (pv 4)) po_none)))) pss_nil)
    (pss_cons (ps_if (pt_cmpR op_eq (pv 5) pe_int (nomark _)) (pss_one (ps_ret (pe_callTy call_list_of rfl T.lst b_lst (pa_cons (pv 1) pa_nil)))) pss_nil)
    (pss_cons (ps_if (PW.pt (pw_and (pt_cmpR op_gt (pv 4) pe_int (nomark _)) (pw_and (pt_val (pe_callB call_isD rfl T.isi b_isi (pa_cons (pe_ix ix_tup (pv 1) (pv 4) (fun _ _ => rfl)) (pa_cons (pe_bltn (v := .ty "tuple") rfl T.tup b_tup rfl) pa_nil))))
          (pw_and1 (pt_cmpR op_gt (pe_callB call_len_seq rfl T.len b_len (pa_cons (pe_ix ix_tup (pv 1) (pv 4) (fun _ _ => rfl)) pa_nil)) pe_int (nomark _))))))
        (pss_one (ps_ret (pe_op op_catU (pe_op op_catU (pe_slice sl_U (pv 1) po_none (po_some (pv 4))) (pe_tup (pa_cons (pe_call GL hr rfl mF F.kp bF .nil pass0 (pa_cons (pv 0) (pa_cons (pe_ix ix_tup (pv 1) (pv 4) (fun _ _ => rfl)) pa_nil))) pa_nil)))
          (pe_slice sl_U (pv 1) (po_some (pe_op op_add (pv 4) pe_int)) po_none)))) pss_nil)
    (pss_one (ps_ret (pe_revT (pv 1))))))))))), ?_⟩
  intro Q p oA v ds ys zs H1 hpH B0 D0 hD hb hO nOp hyl hys h
  obtain ⟨n0, hp0, n00, n01⟩ := D0
  have nd : PyData.hasDictAll ds = false := (el_all hb.el).2.2.2
  have stay : ∀ H', SameB p H1 H' → Dv K H' v (.tuple ds) := fun H' s => dvB s hp0 _ v (by rw [noList]; exact hb.nl) (by rw [PyData.hasDict]; exact nd) hD
  have wl := wAll_len ds
  have hne := hb.ne
  have hwt := hb.wt
  cases hD with
  | @tup a xs _ hs0 ha0 =>
  have hxl := ha0.len
  -- three digits
  refine ⟨_, rfl, _, rfl, p, n0, 12, rfl, hp0, n00, n01, by decide, by decide, fun c1 n1 c10 c11 n10 n11 => ?_⟩
  have B1 : SameB p H1 (upd H1 p (.lst [.int n1])) := SameB.at
  have hO1 := B1 _ _ nOp hO
  have hp1 : (upd H1 p (.lst [.int n1])) p = some (.lst [.int n1]) := upd_same
  generalize upd H1 p (.lst [.int n1]) = H2 at *
  obtain ⟨i1, rfl⟩ : ∃ i : Nat, c1 = (i : Int) := ⟨c1.toNat, by omega⟩
  have hi1 : i1 < ys.length := by omega
  have hy1 := List.getElem?_eq_getElem hi1
  refine ⟨oA, ys, _, ys[i1], rfl, rfl, .inl (.inl hO1), atI_nat hy1, ?_⟩
  refine ⟨_, rfl, _, rfl, a, xs, rfl, .inr (sqtB B1 hp0 hs0), p, n1, _, rfl, hp1, n10, n11, by omega, by omega, fun c2 n2 c20 c21 n20 n21 => ?_⟩
  have B2 : SameB p H1 (upd H2 p (.lst [.int n2])) := B1.trans SameB.at
  have hp2 : (upd H2 p (.lst [.int n2])) p = some (.lst [.int n2]) := upd_same
  generalize upd H2 p (.lst [.int n2]) = H3 at *
  obtain ⟨i2, rfl⟩ : ∃ i : Nat, c2 = (i : Int) := ⟨c2.toNat, by omega⟩
  have hi2 : i2 < ds.length := by omega
  refine ⟨_, rfl, p, n2, 5, rfl, hp2, n20, n21, by decide, by decide, fun c3 n3 c30 c31 n30 n31 => ?_⟩
  have B3 : SameB p H1 (upd H3 p (.lst [.int n3])) := B2.trans SameB.at
  have hp3 : (upd H3 p (.lst [.int n3])) p = some (.lst [.int n3]) := upd_same
  generalize upd H3 p (.lst [.int n3]) = H4 at *
  have sA : SqT K H4 a xs := sqtB B3 hp0 hs0
  have aA : DvAll K H4 xs ds := dvBAll B3 hp0 ds xs hb.nl nd ha0
  obtain ⟨o, od, oe, ow⟩ := hys i1 _ hy1
  have fin : ∀ (y : V) (e : PyData) (H' : Hp), Same H4 H' → Dz K H H' y e → Bout m (PyData.weightAll ds) e → Q y H' := fun y e H' S => h y e H' (B0.trans (B3.trans (SameB.of S))) ⟨n3, S _ _ hp3, n30, n31⟩
  obtain ⟨yv, hx2⟩ : ∃ y, xs[i2]? = some y := ⟨_, List.getElem?_eq_getElem (by omega)⟩
  have e1 : ((i2 : Int) + 1) = ((i2 + 1 : Nat) : Int) := by omega
  have wc := w_cut ds i2
  have wd := w_dropS ds i2
  have lo := cut_lo xs (i := i2) (by omega)
  have hi := cut_hi xs (i := i2 + 1) (by omega)
  have hi0 := cut_hi xs (i := i2) (by omega)
  have l1 : (xs.take i2).length ≤ 1000 := by rw [List.length_take]; omega
  have l2 : (xs.drop (i2 + 1)).length ≤ xs.length := by rw [List.length_drop]; omega
  have l3 : (xs.drop i2).length ≤ xs.length := by rw [List.length_drop]; omega
  have tk : (xs.take i2).length = i2 := by rw [List.length_take]; omega
  have dk : (xs.drop i2).length = xs.length - i2 := List.length_drop ..
  have dk1 : (xs.drop (i2 + 1)).length = xs.length - (i2 + 1) := List.length_drop ..
  refine ⟨_, rfl, rfl, _, rfl, ?_⟩
  refine nS (fun _ => ?_) (fun _ => ?_)
  · refine ⟨_, rfl, _, rfl, _, rfl, a, xs, rfl, sA, fun p1 G1 S1 h1 => ?_⟩
    rw [lo] at h1
    refine ⟨_, rfl, len_small (by simp), fun t nt => ?_⟩
    have U := up1 (o := .tup [ys[i1]]) nt
    refine ⟨p1, t, _, _, rfl, rfl, seqT U h1, .inl (.inl upd_same), (by rw [tk]; simp; omega), fun p2 G2 S2 h2 => ?_⟩
    have SS := S1.trans (U.trans S2)
    refine ⟨_, rfl, _, rfl, _, _, rfl, rfl, _, rfl, a, xs, rfl, seqT SS sA, fun p3 G3 S3 h3 => ?_⟩
    rw [e1, hi] at h3
    refine ⟨p2, p3, _, _, rfl, rfl, seqT S3 h2, h3, (by rw [List.length_append, tk, dk1]; simp; omega), fun p4 G4 S4 h4 => ?_⟩
    have SA := SS.trans (S3.trans S4)
    have BG : ∀ G, KeepL H G4 G → KeepL H H1 G := fun G sG => sG.back hpH (B3.trans (SameB.of SA))
    have aG : ∀ G, KeepL H G4 G → DvAll K G xs ds := fun G sG => dvLAll B0 hp0 (BG G sG) ds xs hb.nl nd ha0
    have B4 := B0.trans (B3.trans (SameB.of SA))
    refine fin _ _ G4 SA (fun G sG => .tup (sqtL B4 (SA _ _ hp3) sG h4) ((((aG G sG).take i2).app (.cons (od G (BG G sG)) .nil)).app ((aG G sG).drop (i2 + 1)))) (bout_tup hb.el (fun x hx => ?_) ?_)
    · rcases List.mem_append.mp hx with q | q
      · rcases List.mem_append.mp q with q | q
        · exact .inl (List.mem_of_mem_take q)
        · rw [List.mem_singleton.mp q]
          exact .inr (oe.up (by omega))
      · exact .inl (List.mem_of_mem_drop q)
    · rw [wApp, wApp, wCons, w_nil]
      omega
  refine ⟨_, rfl, rfl, _, rfl, ?_⟩
  refine nS (fun _ => ?_) (fun _ => ?_)
  · refine ⟨_, rfl, _, rfl, _, rfl, a, xs, rfl, sA, fun p1 G1 S1 h1 => ?_⟩
    rw [lo] at h1
    refine ⟨_, rfl, _, rfl, _, _, rfl, rfl, _, rfl, a, xs, rfl, seqT S1 sA, fun p3 G3 S3 h3 => ?_⟩
    rw [e1, hi] at h3
    refine ⟨p1, p3, _, _, rfl, rfl, seqT S3 h1, h3, (by rw [tk, dk1]; omega), fun p4 G4 S4 h4 => ?_⟩
    have SA := S1.trans (S3.trans S4)
    have BG : ∀ G, KeepL H G4 G → KeepL H H1 G := fun G sG => sG.back hpH (B3.trans (SameB.of SA))
    have aG : ∀ G, KeepL H G4 G → DvAll K G xs ds := fun G sG => dvLAll B0 hp0 (BG G sG) ds xs hb.nl nd ha0
    have B4 := B0.trans (B3.trans (SameB.of SA))
    refine fin _ _ G4 SA (fun G sG => .tup (sqtL B4 (SA _ _ hp3) sG h4) (((aG G sG).take i2).app ((aG G sG).drop (i2 + 1)))) (bout_tup hb.el (fun x hx => ?_) ?_)
    · rcases List.mem_append.mp hx with q | q
      · exact .inl (List.mem_of_mem_take q)
      · exact .inl (List.mem_of_mem_drop q)
    · rw [wApp]
      omega
  refine ⟨_, rfl, rfl, _, rfl, ?_⟩
  refine nS (fun _ => ?_) (fun _ => ?_)
  · refine ⟨_, rfl, _, rfl, _, rfl, a, xs, rfl, sA, fun p1 G1 S1 h1 => ?_⟩
    rw [lo] at h1
    refine ⟨_, rfl, len_small (by simp), fun t nt => ?_⟩
    have U := up1 (o := .tup [ys[i1]]) nt
    refine ⟨p1, t, _, _, rfl, rfl, seqT U h1, .inl (.inl upd_same), (by rw [tk]; simp; omega), fun p2 G2 S2 h2 => ?_⟩
    have SS := S1.trans (U.trans S2)
    refine ⟨_, rfl, _, rfl, _, rfl, a, xs, rfl, seqT SS sA, fun p3 G3 S3 h3 => ?_⟩
    rw [hi0] at h3
    refine ⟨p2, p3, _, _, rfl, rfl, seqT S3 h2, h3, (by rw [List.length_append, tk, dk]; show i2 + 1 + (xs.length - i2) ≤ 1000; omega), fun p4 G4 S4 h4 => ?_⟩
    have SA := SS.trans (S3.trans S4)
    have BG : ∀ G, KeepL H G4 G → KeepL H H1 G := fun G sG => sG.back hpH (B3.trans (SameB.of SA))
    have aG : ∀ G, KeepL H G4 G → DvAll K G xs ds := fun G sG => dvLAll B0 hp0 (BG G sG) ds xs hb.nl nd ha0
    have B4 := B0.trans (B3.trans (SameB.of SA))
    refine fin _ _ G4 SA (fun G sG => .tup (sqtL B4 (SA _ _ hp3) sG h4) ((((aG G sG).take i2).app (.cons (od G (BG G sG)) .nil)).app ((aG G sG).drop i2))) (bout_tup hb.el (fun x hx => ?_) ?_)
    · rcases List.mem_append.mp hx with q | q
      · rcases List.mem_append.mp q with q | q
        · exact .inl (List.mem_of_mem_take q)
        · rw [List.mem_singleton.mp q]
          exact .inr (oe.up (by omega))
      · exact .inl (List.mem_of_mem_drop q)
    · rw [wApp, wApp, wCons, w_nil]
      omega
  refine ⟨_, rfl, rfl, _, rfl, ?_⟩
  refine nS (fun _ => ?_) (fun _ => ?_)
  · refine ⟨_, rfl, a, xs, rfl, .inr sA, fun l nl => ?_⟩
    have U := up1 (o := .lst xs) nl
    have lp : ∀ ws, H l ≠ some (.lst ws) := fun ws e => by
      by_cases c : l = p
      · rw [c, hp3] at nl; cases nl
      · rw [B3 _ _ c (B0 _ _ c e)] at nl; cases nl
    refine fin _ (.list ds) _ U (fun G sG => .lst (.inl (.inl (sG _ _ lp upd_same))) (dvLAll B0 hp0 (sG.back hpH (B3.trans (SameB.of U))) ds xs hb.nl nd ha0)) ⟨el_lst fun x hx => (hb.el x hx).up (by omega), ?_⟩
    rw [w_lst]
    omega
  refine ⟨_, rfl, _, _, rfl, rfl, _, rfl, ?_⟩
  refine nS2 (iF Bool.false_ne_true ?_) (fun _ hB => ?_)
  · refine ⟨_, rfl, a, xs, rfl, sA, fun p1 G1 S1 h1 => ?_⟩
    refine fin _ _ G1 S1 (fun G sG => .tup (sqtL (B0.trans (B3.trans (SameB.of S1))) (S1 _ _ hp3) sG h1) (dvLAll B0 hp0 (sG.back hpH (B3.trans (SameB.of S1))) ds xs hb.nl nd ha0).rev) (bout_tup hb.el (fun x hx => .inl (List.mem_reverse.mp hx)) ?_)
    rw [w_rev]
    omega
  obtain ⟨e, he, hDe⟩ := aA.get hx2
  have hem : e ∈ ds := List.mem_of_getElem? he
  refine ⟨_, rfl, _, rfl, a, xs, _, yv, rfl, rfl, sA, atI_nat hx2, _, _, e, _, _, rfl, .ty _, hDe, k_tup _, _, rfl, ?_⟩
  refine nS (fun c2 => ?_) (fun _ => hB)
  cases e with
  | none => cases c2
  | bool _ => cases c2
  | int _ => cases c2
  | str _ => cases c2
  | list _ => cases c2
  | dict _ => cases c2
  | tuple es =>
  have hDe0 := hDe
  cases hDe with
  | @tup b zs _ hsb hab =>
  have hzl := hab.len
  refine ⟨_, rfl, _, rfl, a, xs, _, .ref b, rfl, rfl, sA, atI_nat hx2, b, zs, rfl, .inr hsb, _, _, rfl, rfl, _, rfl, ?_⟩
  refine nS (fun c4 => ?_) (fun _ => unF hB)
  have hz1 : 1 ≤ es.length := by
    have q := of_decide_eq_true c4
    omega
  have ee := hb.el _ hem
  have m0 : m ≠ 0 := fun q => by
    have := ee.dp
    rw [PyData.depth] at this
    omega
  obtain ⟨m', rfl⟩ : ∃ m', m = m' + 1 := ⟨m - 1, by omega⟩
  have we := wAll_mem hem
  rw [w_tup] at we
  have hb' : Bin m' es := ⟨el_mem ee, by have q := nl_mem hb.nl _ hem; rw [noList] at q; exact q, hz1, by omega⟩
  refine ⟨_, rfl, _, rfl, _, rfl, a, xs, rfl, sA, fun p1 G1 S1 h1 => ?_⟩
  rw [lo] at h1
  refine ⟨_, rfl, _, rfl, _, rfl, a, xs, _, .ref b, rfl, rfl, seqT S1 sA, atI_nat hx2, hsp _ _ _ ⟨m', rfl, p, .ref b, es, rfl, ⟨n3, S1 _ _ hp3, n30, n31⟩, hDe0.mono S1, hb', fun y r G2 B4 D4 hDy hr2 => ?_⟩⟩
  obtain ⟨n4, hp4, n40, n41⟩ := D4
  have hp1' := S1 _ _ hp3
  have h1' := sqtB B4 hp1' h1
  refine ⟨len_small (by simp), fun t nt => ?_⟩
  have U := up1 (o := .tup [y]) nt
  refine ⟨p1, t, _, _, rfl, rfl, seqT U h1', .inl (.inl upd_same), (by rw [tk]; simp; omega), fun p2 G3 S3 h2 => ?_⟩
  have sA2 := sqtB B4 hp1' (seqT S1 sA)
  have SS := U.trans S3
  refine ⟨_, rfl, _, rfl, _, _, rfl, rfl, _, rfl, a, xs, rfl, seqT SS sA2, fun p3 G4 S4 h3 => ?_⟩
  rw [e1, hi] at h3
  refine ⟨p2, p3, _, _, rfl, rfl, seqT S4 h2, h3, (by rw [List.length_append, tk, dk1]; simp; omega), fun p4 G5 S5 h4 => ?_⟩
  have SA := SS.trans (S4.trans S5)
  have BB := (SameB.of S1 (l := p)).trans (B4.trans (SameB.of SA))
  have aG : ∀ G, KeepL H G5 G → DvAll K G xs ds := fun G sG => dvLAll B0 hp0 (sG.back hpH (B3.trans BB)) ds xs hb.nl nd ha0
  refine h _ _ G5 (B0.trans (B3.trans ((SameB.of S1).trans (B4.trans (SameB.of SA))))) ⟨n4, SA _ _ hp4, n40, n41⟩ (fun G sG => .tup (sqtL (B0.trans (B3.trans BB)) (SA _ _ hp4) sG h4) ((((aG G sG).take i2).app (.cons (hDy G (sG.inner hp1' (B0.trans (B3.trans (SameB.of S1))) SA)) .nil)).app ((aG G sG).drop (i2 + 1)))) (bout_tup hb.el (fun x hx => ?_) ?_)
  · rcases List.mem_append.mp hx with q | q
    · rcases List.mem_append.mp q with q | q
      · exact .inl (List.mem_of_mem_take q)
      · rw [List.mem_singleton.mp q]
        exact .inr (hr2.1.up (by omega))
    · exact .inl (List.mem_of_mem_drop q)
  · have hdrop : ds.drop i2 = .tuple es :: ds.drop (i2 + 1) := by
      rw [List.drop_eq_getElem_cons hi2]
      rw [List.getElem?_eq_getElem hi2] at he
      rw [Option.some.inj he]
    rw [hdrop, wCons, w_tup] at wc
    have w3 := hr2.2
    rw [wApp, wApp, wCons, w_nil]
    omega
end
end L50
namespace L50
open PySem PySem.Spec PyProof.Rows L2 L54
def oddsB : List PyData := [.none, .str "or", .tuple [.str "do", .str "a"], .tuple [.str "do", .str "A"], .tuple [.str "seq"], .list [], .str "rep", .tuple [.str "rep", .tuple [.str "do", .str "b"]], .tuple [.str "or"], .int 0, .tuple [.str "skip"], .tuple [.str "do", .str "skip"]]
def oddFit (d : PyData) : Bool := d.showable && decide (d.depth ≤ 2) && d.leavesShort 2000 && !d.hasDict && decide (d.weight ≤ 15)
theorem oddsB_fit : (oddsB.all oddFit) = true := by decide +kernel
theorem oddsB_nl : ((List.range 12).all fun i => i == 5 || noList (oddsB.getD i .none)) = true := by decide +kernel
theorem oddsB_el {d : PyData} (h : d ∈ oddsB) : El 2 d ∧ d.weight ≤ 15 := by
  have q := List.all_eq_true.mp oddsB_fit d h
  unfold oddFit at q
  simp only [Bool.and_eq_true, decide_eq_true_eq, Bool.not_eq_true'] at q
  exact ⟨⟨q.1.1.1.1, q.1.1.1.2, q.1.1.2, q.1.2⟩, q.2⟩
theorem odds_at {K : PySem.W.Frag} {G H : Hp} {p aE : Addr} {zs ys : List V} (B : SameB p G H) (hA : DvAll K H ys oddsB) (h5 : ys[5]? = some (.ref aE)) (hE : H aE = some (.lst [])) (ne : G aE = none) (hp : H p = some (.lst zs)) :
    ∀ (i : Nat) (y : V), ys[i]? = some y → ∃ o, Dz K G H y o ∧ El 2 o ∧ o.weight ≤ 15 := by
  intro i y hy
  obtain ⟨d, hd, hv⟩ := hA.get hy
  obtain ⟨e1, e2⟩ := oddsB_el (List.mem_of_getElem? hd)
  refine ⟨d, fun H' s => ?_, e1, e2⟩
  have hi : i < 12 := (List.getElem?_eq_some_iff.mp hd).1
  have q := List.all_eq_true.mp oddsB_nl i (List.mem_range.mpr hi)
  rw [Bool.or_eq_true] at q
  rcases q with q | q
  · have e : i = 5 := eq_of_beq q
    subst e
    rw [h5] at hy
    rw [← Option.some.inj hy]
    have ed : d = .list [] := (Option.some.inj hd).symm
    rw [ed]
    exact .lst (.inl (.inl (s _ _ (fun xs e => by rw [ne] at e; cases e) hE))) .nil
  · have ed : oddsB.getD i .none = d := by rw [List.getD_eq_getElem?_getD, hd]; rfl
    rw [ed] at q
    exact dvL B hp s d y q e1.hd hv
section
variable {P : Program} {w : World} {K : PySem.W.Frag} {mg : Str → Option Value} {base : Heap}
theorem step_bt {f fT : Addr} {fd fdT : FuncData} {m j : Nat} {sp : Sp} (F : Fun K "_law_bent" "_law_bent" sBent f fd) (T : Bl mg) (bF : Binds K fd ["own", "value"] []) (mF : mg "_law_bent" = some (.ref f))
    (FT : Fun K "_law_take" "_law_take" sTake fT fdT) (bT : Binds K fdT ["own", "options"] []) (mT : mg "_law_take" = some (.ref fT)) (hj : 1 ≤ j) (GL : FnOk P w K mg base CX0 j f fd ["own", "value"] sp)
    (hsp : ∀ vs H Q, (∃ m', m = m' + 1 ∧ spBt K m' vs H Q E0) → sp vs H Q E0) : FnOk P w K mg base CX0 (j + 1) f fd ["own", "value"] (spBt K m) := by
  refine F.ok scBt (fun vs H Q E h => ?_) (fun cdv A outer s H vs Q E hr h => ?_)
  · obtain ⟨p, v, ds, rfl, _⟩ := h
    rfl
  · obtain ⟨p, v, ds, rfl, ⟨n, hp, n0, n1⟩, hD, hb, h⟩ := h
    obtain ⟨t, hT, qT⟩ := bt_tail (P := P) (w := w) (K := K) (mg := mg) (base := base) (f := f) (cdv := cdv) (A := A) (outer := outer) (s := s) (H := H) (E := E) T F bF mF FT bT mT hj GL hsp hr
    refine ⟨_, pss_cons (ps_set (i := 2) scBt.nd rfl (.inl rfl) (pe_lst (pa_cons pe_non (pa_cons pe_str (pa_cons (pe_tup (pa_cons pe_str (pa_cons pe_str pa_nil))) (pa_cons (pe_tup (pa_cons pe_str (pa_cons pe_str pa_nil))) (pa_cons (pe_tup (pa_cons pe_str pa_nil)) (pa_cons (pe_lst pa_nil) (pa_cons pe_str (pa_cons (pe_tup (pa_cons pe_str (pa_cons (pe_tup (pa_cons pe_str (pa_cons pe_str pa_nil))) pa_nil))) pa_nil))))))))))
      (pss_cons (ps_set (i := 2) scBt.nd rfl (.inl rfl) (pe_op op_cat (pv 2) (pe_lst (pa_cons (pe_tup (pa_cons pe_str pa_nil)) (pa_cons pe_int (pa_cons (pe_tup (pa_cons pe_str pa_nil)) (pa_cons (pe_tup (pa_cons pe_str (pa_cons pe_str pa_nil))) pa_nil))))))) hT), ?_⟩
    have hpH := hp
    have S : Same H H := Same.refl H
    refine ⟨len_small (by simp), fun a1 na1 => ?_⟩
    have U := up1 (o := .tup [V.str "do", V.str "a"]) na1
    replace S := S.trans U
    replace hp := U _ _ hp
    replace hD := hD.mono U
    have ga1 := (show Dv K (upd H a1 (.tup [V.str "do", V.str "a"])) (.ref a1) (PyData.tuple [PyData.str "do", PyData.str "a"]) from .tup (.inl (.inl upd_same)) (.cons (.str _) (.cons (.str _) .nil)))
    clear U na1
    generalize upd H a1 (.tup [V.str "do", V.str "a"]) = W2 at *
    refine ⟨len_small (by simp), fun a3 na3 => ?_⟩
    have U := up1 (o := .tup [V.str "do", V.str "A"]) na3
    replace S := S.trans U
    replace hp := U _ _ hp
    replace hD := hD.mono U
    replace ga1 := ga1.mono U
    have ga3 := (show Dv K (upd W2 a3 (.tup [V.str "do", V.str "A"])) (.ref a3) (PyData.tuple [PyData.str "do", PyData.str "A"]) from .tup (.inl (.inl upd_same)) (.cons (.str _) (.cons (.str _) .nil)))
    clear U na3
    generalize upd W2 a3 (.tup [V.str "do", V.str "A"]) = W4 at *
    refine ⟨len_small (by simp), fun a5 na5 => ?_⟩
    have U := up1 (o := .tup [V.str "seq"]) na5
    replace S := S.trans U
    replace hp := U _ _ hp
    replace hD := hD.mono U
    replace ga1 := ga1.mono U
    replace ga3 := ga3.mono U
    have ga5 := (show Dv K (upd W4 a5 (.tup [V.str "seq"])) (.ref a5) (PyData.tuple [PyData.str "seq"]) from .tup (.inl (.inl upd_same)) (.cons (.str _) .nil))
    clear U na5
    generalize upd W4 a5 (.tup [V.str "seq"]) = W6 at *
    refine ⟨len_small (by simp), fun a7 na7 => ?_⟩
    have neE : H a7 = none := by cases q : H a7 with | none => rfl | some o => rw [S _ _ q] at na7; cases na7
    have U := up1 (o := .lst []) na7
    replace S := S.trans U
    replace hp := U _ _ hp
    replace hD := hD.mono U
    replace ga1 := ga1.mono U
    replace ga3 := ga3.mono U
    replace ga5 := ga5.mono U
    have gE := (show upd W6 a7 (.lst []) a7 = some (.lst []) from upd_same)
    clear U na7
    generalize upd W6 a7 (.lst []) = W8 at *
    refine ⟨len_small (by simp), fun a9 na9 => ?_⟩
    have U := up1 (o := .tup [V.str "do", V.str "b"]) na9
    replace S := S.trans U
    replace hp := U _ _ hp
    replace hD := hD.mono U
    replace ga1 := ga1.mono U
    replace ga3 := ga3.mono U
    replace ga5 := ga5.mono U
    replace gE := U _ _ gE
    have ga9 := (show Dv K (upd W8 a9 (.tup [V.str "do", V.str "b"])) (.ref a9) (PyData.tuple [PyData.str "do", PyData.str "b"]) from .tup (.inl (.inl upd_same)) (.cons (.str _) (.cons (.str _) .nil)))
    clear U na9
    generalize upd W8 a9 (.tup [V.str "do", V.str "b"]) = W10 at *
    refine ⟨len_small (by simp), fun a11 na11 => ?_⟩
    have U := up1 (o := .tup [V.str "rep", V.ref a9]) na11
    replace S := S.trans U
    replace hp := U _ _ hp
    replace hD := hD.mono U
    replace ga1 := ga1.mono U
    replace ga3 := ga3.mono U
    replace ga5 := ga5.mono U
    replace gE := U _ _ gE
    replace ga9 := ga9.mono U
    have ga11 := (show Dv K (upd W10 a11 (.tup [V.str "rep", V.ref a9])) (.ref a11) (PyData.tuple [PyData.str "rep", PyData.tuple [PyData.str "do", PyData.str "b"]]) from .tup (.inl (.inl upd_same)) (.cons (.str _) (.cons (ga9) .nil)))
    clear U na11
    generalize upd W10 a11 (.tup [V.str "rep", V.ref a9]) = W12 at *
    clear ga9
    refine ⟨len_small (by simp), fun l1 nl1 => ?_⟩
    have nel1 : l1 ≠ p := fun e => by rw [e, hp] at nl1; cases nl1
    have U := up1 (o := .lst [V.non, V.str "or", V.ref a1, V.ref a3, V.ref a5, V.ref a7, V.str "rep", V.ref a11]) nl1
    replace S := S.trans U
    replace hp := U _ _ hp
    replace hD := hD.mono U
    replace ga1 := ga1.mono U
    replace ga3 := ga3.mono U
    replace ga5 := ga5.mono U
    replace gE := U _ _ gE
    replace ga11 := ga11.mono U
    have fl1 := (show upd W12 l1 (.lst [V.non, V.str "or", V.ref a1, V.ref a3, V.ref a5, V.ref a7, V.str "rep", V.ref a11]) l1 = some (.lst [V.non, V.str "or", V.ref a1, V.ref a3, V.ref a5, V.ref a7, V.str "rep", V.ref a11]) from upd_same)
    clear U nl1
    generalize upd W12 l1 (.lst [V.non, V.str "or", V.ref a1, V.ref a3, V.ref a5, V.ref a7, V.str "rep", V.ref a11]) = W13 at *
    refine ⟨_, rfl, ?_⟩
    refine ⟨len_small (by simp), fun a14 na14 => ?_⟩
    have U := up1 (o := .tup [V.str "or"]) na14
    replace S := S.trans U
    replace hp := U _ _ hp
    replace hD := hD.mono U
    replace ga1 := ga1.mono U
    replace ga3 := ga3.mono U
    replace ga5 := ga5.mono U
    replace gE := U _ _ gE
    replace ga11 := ga11.mono U
    replace fl1 := U _ _ fl1
    have ga14 := (show Dv K (upd W13 a14 (.tup [V.str "or"])) (.ref a14) (PyData.tuple [PyData.str "or"]) from .tup (.inl (.inl upd_same)) (.cons (.str _) .nil))
    clear U na14
    generalize upd W13 a14 (.tup [V.str "or"]) = W15 at *
    refine ⟨len_small (by simp), fun a16 na16 => ?_⟩
    have U := up1 (o := .tup [V.str "skip"]) na16
    replace S := S.trans U
    replace hp := U _ _ hp
    replace hD := hD.mono U
    replace ga1 := ga1.mono U
    replace ga3 := ga3.mono U
    replace ga5 := ga5.mono U
    replace gE := U _ _ gE
    replace ga11 := ga11.mono U
    replace fl1 := U _ _ fl1
    replace ga14 := ga14.mono U
    have ga16 := (show Dv K (upd W15 a16 (.tup [V.str "skip"])) (.ref a16) (PyData.tuple [PyData.str "skip"]) from .tup (.inl (.inl upd_same)) (.cons (.str _) .nil))
    clear U na16
    generalize upd W15 a16 (.tup [V.str "skip"]) = W17 at *
    refine ⟨len_small (by simp), fun a18 na18 => ?_⟩
    have U := up1 (o := .tup [V.str "do", V.str "skip"]) na18
    replace S := S.trans U
    replace hp := U _ _ hp
    replace hD := hD.mono U
    replace ga1 := ga1.mono U
    replace ga3 := ga3.mono U
    replace ga5 := ga5.mono U
    replace gE := U _ _ gE
    replace ga11 := ga11.mono U
    replace fl1 := U _ _ fl1
    replace ga14 := ga14.mono U
    replace ga16 := ga16.mono U
    have ga18 := (show Dv K (upd W17 a18 (.tup [V.str "do", V.str "skip"])) (.ref a18) (PyData.tuple [PyData.str "do", PyData.str "skip"]) from .tup (.inl (.inl upd_same)) (.cons (.str _) (.cons (.str _) .nil)))
    clear U na18
    generalize upd W17 a18 (.tup [V.str "do", V.str "skip"]) = W19 at *
    refine ⟨len_small (by simp), fun l2 nl2 => ?_⟩
    have nel2 : l2 ≠ p := fun e => by rw [e, hp] at nl2; cases nl2
    have U := up1 (o := .lst [V.ref a14, V.int 0, V.ref a16, V.ref a18]) nl2
    replace S := S.trans U
    replace hp := U _ _ hp
    replace hD := hD.mono U
    replace ga1 := ga1.mono U
    replace ga3 := ga3.mono U
    replace ga5 := ga5.mono U
    replace gE := U _ _ gE
    replace ga11 := ga11.mono U
    replace fl1 := U _ _ fl1
    replace ga14 := ga14.mono U
    replace ga16 := ga16.mono U
    replace ga18 := ga18.mono U
    have fl2 := (show upd W19 l2 (.lst [V.ref a14, V.int 0, V.ref a16, V.ref a18]) l2 = some (.lst [V.ref a14, V.int 0, V.ref a16, V.ref a18]) from upd_same)
    clear U nl2
    generalize upd W19 l2 (.lst [V.ref a14, V.int 0, V.ref a16, V.ref a18]) = W20 at *
    refine ⟨l1, l2, _, _, rfl, rfl, fl1, fl2, len_small (by simp), fun l3 nl3 => ?_⟩
    have ne3 : l3 ≠ p := fun e => by rw [e, hp] at nl3; cases nl3
    have U := up1 (o := .lst ([V.non, V.str "or", V.ref a1, V.ref a3, V.ref a5, V.ref a7, V.str "rep", V.ref a11] ++ [V.ref a14, V.int 0, V.ref a16, V.ref a18])) nl3
    replace S := S.trans U
    replace hp := U _ _ hp
    replace hD := hD.mono U
    replace ga1 := ga1.mono U
    replace ga3 := ga3.mono U
    replace ga5 := ga5.mono U
    replace gE := U _ _ gE
    replace ga11 := ga11.mono U
    replace fl1 := U _ _ fl1
    replace ga14 := ga14.mono U
    replace ga16 := ga16.mono U
    replace ga18 := ga18.mono U
    replace fl2 := U _ _ fl2
    have fl3 := (show upd W20 l3 (.lst ([V.non, V.str "or", V.ref a1, V.ref a3, V.ref a5, V.ref a7, V.str "rep", V.ref a11] ++ [V.ref a14, V.int 0, V.ref a16, V.ref a18])) l3 = some (.lst ([V.non, V.str "or", V.ref a1, V.ref a3, V.ref a5, V.ref a7, V.str "rep", V.ref a11] ++ [V.ref a14, V.int 0, V.ref a16, V.ref a18])) from upd_same)
    clear U nl3
    generalize upd W20 l3 (.lst ([V.non, V.str "or", V.ref a1, V.ref a3, V.ref a5, V.ref a7, V.str "rep", V.ref a11] ++ [V.ref a14, V.int 0, V.ref a16, V.ref a18])) = W21 at *
    have hA : DvAll K W21 ([V.non, V.str "or", V.ref a1, V.ref a3, V.ref a5, V.ref a7, V.str "rep", V.ref a11] ++ [V.ref a14, V.int 0, V.ref a16, V.ref a18]) oddsB := (.cons (.non) (.cons (.str _) (.cons (ga1) (.cons (ga3) (.cons (ga5) (.cons ((.lst (.inl (.inl gE)) .nil)) (.cons (.str _) (.cons (ga11) (.cons (ga14) (.cons (.int _) (.cons (ga16) (.cons (ga18) .nil))))))))))))
    exact qT Q p l3 v ds _ _ _ hpH (SameB.of S) ⟨n, hp, n0, n1⟩ hD hb fl3 ne3 rfl (odds_at (SameB.of S) hA rfl gE neE hp) h
theorem ok_bt {f fT : Addr} {fd fdT : FuncData} (F : Fun K "_law_bent" "_law_bent" sBent f fd) (T : Bl mg) (bF : Binds K fd ["own", "value"] []) (mF : mg "_law_bent" = some (.ref f))
    (FT : Fun K "_law_take" "_law_take" sTake fT fdT) (bT : Binds K fdT ["own", "options"] []) (mT : mg "_law_take" = some (.ref fT)) : ∀ m : Nat, FnOk P w K mg base CX0 (m + 2) f fd ["own", "value"] (spBt K m)
  | 0 => step_bt (j := 1) (sp := fun _ _ _ _ => False) F T bF mF FT bT mT (Nat.le_refl _) ⟨fun _ _ _ _ h => h.elim, fun _ _ _ _ _ _ _ _ _ _ _ _ _ h => h.elim⟩ fun _ _ _ ⟨_, e, _⟩ => by cases e
  | m + 1 => step_bt (j := m + 2) F T bF mF FT bT mT (by omega) (ok_bt F T bF mF FT bT mT m) fun _ _ _ ⟨m', e, q⟩ => by cases e; exact q
end
end L50
/-! the law: one program and what is bent of it -/
namespace L50
open PySem PySem.Spec PyProof.Rows L2 L54
structure Fn (K : PySem.W.Frag) (mg : Str → Option Value) (x : Str) (st : Stmt) (ps : List Str) where
  f : Addr
  fd : FuncData
  F : Fun K x x st f fd
  b : Binds K fd ps []
  m : mg x = some (.ref f)
structure Lw (K : PySem.W.Frag) (mg : Str → Option Value) where
  T : Bl mg
  G : Gb K mg
  nName : Fn K mg "is_name" sIsName ["value"]
  nProg : Fn K mg "is_program" sIsProgram ["value"]
  nChk : Fn K mg "check_program" sCheck ["program"]
  nNs : Fn K mg "names" sNames ["program"]
  nPart : Fn K mg "_is_part" sIsPart ["value"]
  nMem : Fn K mg "_members" sMembers ["part"]
  nMix : Fn K mg "_law_mixed" sMixed ["cell", "k"]
  nCell : Fn K mg "_law_cell" sCell ["script", "k"]
  nTake : Fn K mg "_law_take" sTake ["own", "options"]
  nWords : Fn K mg "_law_words" sWords ["own", "many"]
  nPg : Fn K mg "_law_program" sProgram ["own", "called", "deep"]
  nInner : Fn K mg "_law_inner" sInner ["one"]
  nNm : Fn K mg "_law_names" sLawNames ["one"]
  nNoN : Fn K mg "_law_no_names" sNoNames []
  nNoP : Fn K mg "_law_no_programs" sNoProgs []
  nWord : Fn K mg "_law_word" sWord ["value"]
  nLook : Fn K mg "_law_look" sLook ["value", "deep", "found"]
  nIs : Fn K mg "_law_is" sIs ["value"]
  nGood : Fn K mg "_law_good" sGood ["value"]
  nBt : Fn K mg "_law_bent" sBent ["own", "value"]
  nEd : Fn K mg "_law_edges" sEdges []
def tCG (sp : Sp) (t : TA) : TE := fun σ H Q => t σ H fun vs H1 => sp vs H1 Q E0
theorem pe_callG2 {X : Cx} {k : Nat} {f : Addr} {fd : FuncData} {ps : List Str} {sp : Sp} {x : Str} {p pos : Pos} {e : Expr} {es : List Expr} {t : TA} (F : FnG X.prog X.w X.K X.mg X.base k f fd ps sp) (hgd : X.A.guards = some []) (hr : Room k X.A) (hm : X.mg x = some (.ref f)) (hk : PySem.W.keepIn X.K (.ref f) = true) (hb : Binds X.K fd ps []) (ha : PA X (e :: es) t) (hg : Gl X x := by rfl)
    (hdb : (x == ("__debug__" : Str)) = false := by decide) (he : starEach (e :: es) X.env = (false, eval e X.env) :: starEach es X.env := by rfl) (hpl : (backTo pos (starEach es X.env)).any (·.1) = false := by rfl) :
    PE X (.Call (.Name x p) (e :: es) [] pos) (tCG sp t) := pe_callG F hgd hr hm hk hb ha hg hdb he hpl
/-! what is drawn is a program -/
theorem pgm_prog {zs : List Str} {d : PyData} (h : Pgm zs 3 d) (hz : zs.length ≤ 6) : isProg d = true := by
  rw [prog_spec]
  refine ⟨h.wf 1 (by omega), Nat.le_trans h.cn (by decide), fun F nF hF => ?_⟩
  exact Nat.le_trans (nodup_le nF fun x hx => h.ac x ((hF x).mp hx)) hz
theorem wM3 : wM 3 = 415 := by decide
theorem pgm_fit {zs : List Str} {d : PyData} (h : Pgm zs 3 d) : fit d := by
  have a := h.dp
  have b := h.wt
  rw [wM3] at b
  exact ⟨h.sh, by omega, h.lv, by omega, fun _ => h.nl⟩
theorem pgm_bin {zs : List Str} {d : PyData} (h : Pgm zs 3 d) : ∃ ds, d = .tuple ds ∧ Bin 3 ds ∧ PyData.weightAll ds ≤ 415 := by
  obtain ⟨x, r, rfl, _⟩ := isPart_shape (wf_part (h.wf 1 (by omega))).1
  have b := h.wt
  rw [wM3, w_tup] at b
  have n := h.nl
  rw [noList] at n
  exact ⟨_, rfl, ⟨el_mem ⟨h.sh, h.dp, h.lv, h.hd⟩, n, by simp, by omega⟩, b⟩
theorem bout_fit {c : Nat} {e : PyData} (h : Bout 3 c e) (hc : c ≤ 415) : fit e ∧ e.depth ≤ 44 := by
  obtain ⟨a, b⟩ := h
  have q := a.dp
  exact ⟨⟨a.sh, by omega, a.lv, by omega, fun z => by rw [a.hd] at z; cases z⟩, by omega⟩
section
variable {P : Program} {w : World} {K : PySem.W.Frag} {mg : Str → Option Value} {base : Heap}
abbrev nLw : List Str := ["script", "turn", "own", "chosen", "k", "one", "values", "odds", "j", "value", "odd"]
theorem scLw : FnScope nLw ["script"] (defScope sLaw) := ⟨rfl, rfl, rfl, by decide +kernel, rfl, by decide +kernel, by decide +kernel⟩
abbrev XL (P : Program) (w : World) (K : PySem.W.Frag) (mg : Str → Option Value) (base : Heap) (f : Addr) (cdv : Value) (A : Around) (outer : List Env) (s : Shared) (H : Hp) (E : XK) : Cx := (cxOf CX0 P w K mg base nLw "law" (defScope sLaw) f cdv A outer s H E).nox
variable {f : Addr} {cdv : Value} {A : Around} {outer : List Env} {s : Shared} {H : Hp} {E : XK}
def forB (s : Stmt) : List Stmt := match s with
  | .For _ _ b _ _ => b
  | _ => []
def body0 : List Stmt := forB ((defBody sLaw).getD 0 (.Pass ⟨0, 0, 0, 0⟩))
def body1 : List Stmt := forB (body0.getD 2 (.Pass ⟨0, 0, 0, 0⟩))
theorem Lw.prog (L : Lw K mg) : FnOk P w K mg base CX0 3 L.nProg.f L.nProg.fd ["value"] (spProg K) := ok_prog L.nProg.F L.T L.G L.nName.F L.nName.b L.nName.m L.nPart.F L.nPart.b L.nPart.m L.nMem.F L.nMem.b L.nMem.m
theorem Lw.good (L : Lw K mg) : FnG P w K mg base 48 L.nGood.f L.nGood.fd ["value"] (spGood K 44) := by
  have GP : FnOk P w K mg base CX0 3 L.nProg.f L.nProg.fd ["value"] (spProg K) := L.prog
  have GC : FnOk P w K mg base CX0 4 L.nChk.f L.nChk.fd ["program"] (spChk K) := ok_chk L.nChk.F L.nProg.F.kp L.nProg.b L.nProg.m GP
  have GM : FnOk P w K mg base CX0 1 L.nMem.f L.nMem.fd ["part"] (spMem K) := ok_mem L.nMem.F
  have GN : FnOk P w K mg base CX0 5 L.nNs.f L.nNs.fd ["program"] (spNames K) := ok_names L.nNs.F L.T L.nChk.F.kp L.nChk.b L.nChk.m GC L.nMem.F.kp L.nMem.b L.nMem.m GM
  have GI : FnOk P w K mg base CX0 (44 + 3) L.nIs.f L.nIs.fd ["value"] (spIs K 44) := ok_is L.nIs.F L.T L.nLook.F L.nLook.b L.nLook.m L.nWord.F L.nWord.b L.nWord.m
  have GL : FnOk P w K mg base CX0 (44 + 2) L.nNm.f L.nNm.fd ["one"] (spNm K 44) := ok_nm L.nNm.F L.T L.nNm.b L.nNm.m L.nInner.F L.nInner.b L.nInner.m 44
  exact ok_good L.nGood.F L.T L.nProg.F.kp L.nProg.b L.nProg.m GP L.nIs.F.kp L.nIs.b L.nIs.m GI L.nNs.F.kp L.nNs.b L.nNs.m (GN.mono (by decide)) L.nNm.F.kp L.nNm.b L.nNm.m GL
/-- G keeps all of H but p and D -/
def Kp2 (p D : Addr) (H G : Hp) : Prop := ∀ b u, b ≠ p → b ≠ D → H b = some u → G b = some u
theorem law1 (L : Lw K mg) (hg : (A.deeper (envOfC "law" (defScope sLaw) s.heap.objs.size f cdv)).guards = some []) (hr : Room 48 (A.deeper (envOfC "law" (defScope sLaw) s.heap.objs.size f cdv))) :
    ∃ t, PSs (XL P w K mg base f cdv A outer s H E) body1 t ∧ ∀ (D : Ends) (l tn k o vl : Option V) (p q : Addr) (zs : List Str) (H1 : Hp), Dg H1 p → H1 q = some (.lst (zs.map V.str)) → q ≠ p → 1 ≤ zs.length → zs.length ≤ 6 → (∀ z ∈ zs, z ∈ ten) →
      (∀ o' vl' H', SameB p H1 H' → Dg H' p → D.nx [l, tn, some (.ref p), some (.ref q), k, o', vl', none, none, none, none] H') → t D [l, tn, some (.ref p), some (.ref q), k, o, vl, none, none, none, none] H1 := by
  have GP : FnOk P w K mg base CX0 3 L.nProg.f L.nProg.fd ["value"] (spProg K) := L.prog
  have GG : FnG P w K mg base 48 L.nGood.f L.nGood.fd ["value"] (spGood K 44) := L.good
  have GQ : FnOk P w K mg base CX0 5 L.nPg.f L.nPg.fd ["own", "called", "deep"] (spPg K 3) := ok_pg L.nPg.F L.T L.nPg.b L.nPg.m L.nTake.F L.nTake.b L.nTake.m 3
  have GB : FnOk P w K mg base CX0 5 L.nBt.f L.nBt.fd ["own", "value"] (spBt K 3) := ok_bt L.nBt.F L.T L.nBt.b L.nBt.m L.nTake.F L.nTake.b L.nTake.m 3
  refine ⟨_, pss_cons (ps_set (i := 5) scLw.nd rfl (.inr rfl) (pe_call GQ (hr.mono (by decide)) rfl L.nPg.m L.nPg.F.kp L.nPg.b .nil pass0 (pa_cons (pv 2) (pa_cons (pv 3) (pa_cons pe_int pa_nil)))))
    (pss_cons (ps_set (i := 6) scLw.nd rfl (.inl rfl) (pe_op op_cat (pe_lst (pa_cons (pv 5) pa_nil))
      (pe_lc (own := [("j", 8)]) (g := gName 8) (tt := tYes) rfl scLw.nd (pi_range1 rfl L.T.range (pa_cons pe_int pa_nil)) (blkOk_by (N := nLw) (sc := defScope sLaw) (by decide +kernel)) (fun _ _ _ _ _ => pg_name (i := 8) scLw.nd rfl (Or.inl rfl)) (fun _ _ _ _ _ => pts_nil)
        (fun _ _ _ _ _ => pe_call GB (hr.mono (by decide)) rfl L.nBt.m L.nBt.F.kp L.nBt.b .nil pass0 (pa_cons (pv 2) (pa_cons (pv 5) pa_nil))))))
    (pss_one (ps_if (PW.pt (pw_or (pt_not (pt_val (pe_call GP (hr.mono (by decide)) rfl L.nProg.m L.nProg.F.kp L.nProg.b .nil pass0 (pa_cons (pv 5) pa_nil))))
      (pw_or1 (pt_not (pt_val (pe_callB (cr_all rfl) rfl L.T.all b_all (pa_cons
        (pe_lc (own := [("value", 9)]) (g := gName 9) (tt := tYes) rfl scLw.nd (pi_list (pv 6)) (blkOk_by (N := nLw) (sc := defScope sLaw) (by decide +kernel)) (fun _ _ _ _ _ => pg_name (i := 9) scLw.nd rfl (Or.inl rfl)) (fun _ _ _ _ _ => pts_nil)
          (fun _ _ _ _ _ => pe_callG2 GG hg hr L.nGood.m L.nGood.F.kp L.nGood.b (pa_cons (pv 9) pa_nil))) pa_nil))))))) (pss_one (ps_ret pe_bl)) pss_nil))), ?_⟩
  intro D l tn k o vl p q zs H1 hD hq nqp z1 z2 zt h
  refine ⟨_, rfl, _, rfl, p, q, zs, rfl, hD, hq, nqp, z1, by omega, zt, fun v d H2 B2 D2 hv pg => ?_⟩
  obtain ⟨ds, rfl, hb, hw⟩ := pgm_bin pg
  obtain ⟨n2, hp2, n20, n21⟩ := D2
  -- [one]
  refine ⟨_, rfl, len_small (by simp), fun a1 na1 => ?_⟩
  have U1 := up1 (o := .lst [v]) na1
  have hv1 := hv.mono U1
  have hp3 := U1 _ _ hp2
  have hA1 : upd H2 a1 (.lst [v]) a1 = some (.lst [v]) := upd_same
  have na1p : a1 ≠ p := fun e => by rw [e, hp2] at na1; cases na1
  have B3 := B2.trans (SameB.of U1)
  clear hv hp2 na1 U1 B2
  generalize upd H2 a1 (.lst [v]) = H3 at *
  refine ⟨6, rfl, by decide, by decide, fun DD nD => ?_⟩
  have nDp : DD ≠ p := fun e => by rw [e, hp3] at nD; cases nD
  have nDa : DD ≠ a1 := fun e => by rw [e, hA1] at nD; cases nD
  have nl := pg.nl
  have nh := pg.hd
  refine lc_range (n := 6) (fun i Hc => ∃ (vs : List V) (es : List PyData), SameB p H3 Hc ∧ Dg Hc p ∧ Hc DD = some (.lst vs) ∧ vs.length = i ∧ (∀ G, Kp2 p DD Hc G → DvAll K G vs es) ∧ ∀ e ∈ es, Bout 3 (PyData.weightAll ds) e) ?_ ?_ ?_
  · refine ⟨[], [], SameB.of (up1 nD), ⟨n2, by rw [upd_ne (Ne.symm nDp)]; exact hp3, n20, n21⟩, upd_same, rfl, fun _ _ => .nil, fun e he => by cases he⟩
  · rintro i Hc hi ⟨vs, es, Bc, Dc, Lc, hl, hvs, hes⟩
    refine ⟨rfl, ?_⟩
    have hDc := Dc
    obtain ⟨nc, hpc, _, _⟩ := Dc
    refine ⟨_, rfl, _, rfl, p, v, ds, rfl, hDc, dvB Bc hp3 _ v nl nh hv1, hb, fun y e H4 B4 D4 hz bo => ?_⟩
    obtain ⟨n4, hp4, n40, n41⟩ := D4
    have L4 := B4 _ _ nDp Lc
    refine ⟨vs, L4, small1000 (by omega), vs ++ [y], es ++ [e], (Bc.trans B4).new nD, ⟨n4, by rw [upd_ne (Ne.symm nDp)]; exact hp4, n40, n41⟩, upd_same, by rw [List.length_append, hl]; rfl, fun G kG => ?_, fun x hx => ?_⟩
    · refine (hvs G fun b u c1 c2 e1 => kG b u c1 c2 ?_).app (.cons (hz G fun b u n e1 => ?_) .nil)
      · rw [upd_ne c2]
        exact B4 b u c1 e1
      · have c1 : b ≠ p := fun q => n _ (by rw [q]; exact hpc)
        have c2 : b ≠ DD := fun q => n _ (by rw [q]; exact Lc)
        refine kG b u c1 c2 ?_
        rw [upd_ne c2]
        exact e1
    · rcases List.mem_append.mp hx with q | q
      · exact hes x q
      · rw [List.mem_singleton.mp q]
        exact bo
  · rintro Hc ⟨vs, es, Bc, Dc, Lc, hl, hvs, hes⟩
    obtain ⟨nc, hpc, nc0, nc1⟩ := Dc
    have hAc := Bc _ _ na1p hA1
    have hvc := dvB Bc hp3 _ v nl nh hv1
    have hvsc := hvs Hc fun b u _ _ e => e
    refine ⟨a1, DD, _, _, rfl, rfl, hAc, Lc, len_small (by simp; omega), fun a2 na2 => ?_⟩
    have U2 := up1 (o := .lst ([v] ++ vs)) na2
    have hL2 : upd Hc a2 (.lst ([v] ++ vs)) a2 = some (.lst ([v] ++ vs)) := upd_same
    have hA2 : DvAll K (upd Hc a2 (.lst ([v] ++ vs))) ([v] ++ vs) (.tuple ds :: es) := .cons (hvc.mono U2) (hvsc.mono U2)
    have hv2 := hvc.mono U2
    have hp5 := U2 _ _ hpc
    have B5 := B3.trans (Bc.trans (SameB.of U2))
    clear hvc hvsc hAc na2 U2
    generalize upd Hc a2 (.lst ([v] ++ vs)) = H5 at *
    refine ⟨_, rfl, v, _, rfl, hv2, (by rw [w_tup]; omega), fun H6 S6 => ?_⟩
    rw [pgm_prog pg z2]
    refine ⟨_, rfl, ?_⟩
    refine iF (by decide) ?_
    have hL6 := S6 _ _ hL2
    have hA6 := hA2.mono S6
    have fits : ∀ e ∈ (PyData.tuple ds :: es), fit e ∧ e.depth ≤ 44 := fun e he => by
      rcases List.mem_cons.mp he with q | q
      · rw [q]
        have := pg.dp
        exact ⟨pgm_fit pg, by omega⟩
      · exact bout_fit (hes e q) hw
    refine ⟨_, rfl, a2, rfl, ⟨_, .inl (.inl hL6)⟩, fun dd nd => ?_⟩
    refine lc_list (K := K) (a := a2) (xs := [v] ++ vs) (fun i Hd => Same H6 Hd ∧ Hd dd = some (.lst ((List.replicate i true).map V.bl))) ⟨up1 nd, upd_same⟩ (fun i Hd _ ⟨s, _⟩ => s.seq (.inl (.inl hL6))) ?_ ?_
    · rintro i y Hd hi ⟨Sd, Ld⟩
      obtain ⟨e, he, hy⟩ := hA6.get hi
      obtain ⟨f1, f2⟩ := fits e (List.mem_of_getElem? he)
      have hi' : i < ([v] ++ vs).length := (List.getElem?_eq_some_iff.mp hi).1
      rw [List.length_append, hl] at hi'
      refine ⟨rfl, ?_⟩
      refine ⟨_, rfl, y, e, rfl, hy.mono Sd, f1, f2, fun H' S' => ⟨_, S' _ _ Ld, small1000 (by simp at hi' ⊢; omega), same_at (Sd.trans S') nd, ?_⟩⟩
      rw [upd_same, List.replicate_succ', List.map_append]
      rfl
    · rintro Hd ⟨Sd, Ld⟩
      refine ⟨dd, List.replicate ([v] ++ vs).length true, rfl, .inl (.inl Ld), _, rfl, ?_⟩
      have e1 : (List.replicate ([v] ++ vs).length true).all id = true := by simp
      rw [e1]
      refine iF (by decide) ?_
      have S := S6.trans Sd
      exact h _ _ _ (B5.trans (SameB.of S)) ⟨nc, S _ _ hp5, nc0, nc1⟩
end
end L50
/-! the law: a turn, and the whole -/
namespace L50
open PySem PySem.Spec PyProof.Rows L2 L54
theorem sqlS {K : PySem.W.Frag} {H H' : Hp} {a : Addr} {xs : List V} (e : Same H H') (h : SqL K H a xs) : SqL K H' a xs := e.seq h
section
variable {P : Program} {w : World} {K : PySem.W.Frag} {mg : Str → Option Value} {base : Heap}
variable {f : Addr} {cdv : Value} {A : Around} {outer : List Env} {s : Shared} {H : Hp} {E : XK}
theorem law0 (L : Lw K mg) (hg : (A.deeper (envOfC "law" (defScope sLaw) s.heap.objs.size f cdv)).guards = some []) (hr : Room 48 (A.deeper (envOfC "law" (defScope sLaw) s.heap.objs.size f cdv))) :
    ∃ t, PSs (XL P w K mg base f cdv A outer s H E) body0 t ∧ ∀ (D : Ends) (l : Addr) (ns : List Int) (j : Nat) (ow ch k o vl : Option V) (H1 : Hp), SqL K H1 l (ns.map V.int) → j ≤ 1000 →
      (∀ ow' ch' k' o' vl' H', Same H1 H' → D.nx [some (.ref l), some (.int (0 + (j : Int))), ow', ch', k', o', vl', none, none, none, none] H') → t D [some (.ref l), some (.int (0 + (j : Int))), ow, ch, k, o, vl, none, none, none, none] H1 := by
  obtain ⟨t1, h1, q1⟩ := law1 (P := P) (w := w) (base := base) (f := f) (cdv := cdv) (A := A) (outer := outer) (s := s) (H := H) (E := E) L hg hr
  have GT : FnOk P w K mg base CX0 1 L.nTake.f L.nTake.fd ["own", "options"] spTake := ok_take L.nTake.F L.T
  have GC : FnOk P w K mg base CX0 2 L.nCell.f L.nCell.fd ["script", "k"] (spCell K) := ok_cell L.nCell.F L.T L.nMix.F L.nMix.b L.nMix.m
  have GW : FnOk P w K mg base CX0 2 L.nWords.f L.nWords.fd ["own", "many"] spWords := ok_words L.nWords.F L.T L.nTake.F L.nTake.b L.nTake.m
  refine ⟨_, pss_cons (ps_set (i := 2) scLw.nd rfl (.inr rfl) (pe_lst (pa_cons (pe_call GC (hr.mono (by decide)) rfl L.nCell.m L.nCell.F.kp L.nCell.b .nil pass0 (pa_cons (pv 0) (pa_cons (pv 1) pa_nil))) pa_nil)))
    (pss_cons (ps_set (i := 3) scLw.nd rfl (.inl rfl) (pe_call GW (hr.mono (by decide)) rfl L.nWords.m L.nWords.F.kp L.nWords.b .nil pass0 (pa_cons (pv 2) (pa_cons (pe_op op_add pe_int (pe_call GT (hr.mono (by decide)) rfl L.nTake.m L.nTake.F.kp L.nTake.b .nil pass0 (pa_cons (pv 2) (pa_cons pe_int pa_nil)))) pa_nil))))
    (pss_one (ps_for PassesOwn.never rfl (pi_range1 rfl L.T.range (pa_cons pe_int pa_nil)) (pg_name (i := 4) scLw.nd rfl (Or.inl rfl)) h1))), ?_⟩
  intro D l ns j ow ch k o vl H1 hl hj hD
  refine ⟨_, rfl, _, rfl, l, ns, j, (by rw [show (0 + (j : Int)) = (j : Int) by omega]; rfl), hl, hj, fun c c0 c1 => ?_⟩
  refine ⟨len_small (by simp), fun p np => ?_⟩
  have hp : (upd H1 p (.lst [.int c])) p = some (.lst [.int c]) := upd_same
  have U := up1 (o := .lst [.int c]) np
  have B1 : SameB p (upd H1 p (.lst [.int c])) (upd H1 p (.lst [.int c])) := SameB.refl
  generalize upd H1 p (.lst [.int c]) = H2 at *
  refine ⟨_, rfl, _, rfl, p, c, 6, rfl, hp, c0, c1, by decide, by decide, fun d n d0 d1 n0 n1 => ?_⟩
  have hp2 : (upd H2 p (.lst [.int n])) p = some (.lst [.int n]) := upd_same
  have B2 : SameB p H2 (upd H2 p (.lst [.int n])) := SameB.at
  generalize upd H2 p (.lst [.int n]) = H3 at *
  obtain ⟨i, rfl⟩ : ∃ i : Nat, d = (i : Int) := ⟨d.toNat, by omega⟩
  refine ⟨_, _, rfl, rfl, p, 1 + i, (by rw [show ((1 + i : Nat) : Int) = 1 + (i : Int) by omega]; rfl), ⟨n, hp2, n0, n1⟩, by omega, by omega, fun q H4 zs B4 D4 hq hz zt => ?_⟩
  have nqp : q ≠ p := fun e => by
    obtain ⟨m, hm, _⟩ := D4
    rw [e, hm] at hq
    have z1 := congrArg (fun (o : Option HO) => match o with | some (.lst (V.int _ :: _)) => true | _ => false) hq
    cases zs with
    | nil => simp at hz; omega
    | cons a b => simp at z1
  refine ⟨3, rfl, by decide, by decide, for_range (n := 3) (fun i σ Hc => ∃ k' o' vl' : Option V, σ = [some (.ref l), some (.int (0 + (j : Int))), some (.ref p), some (.ref q), k', o', vl', none, none, none, none] ∧ SameB p H4 Hc ∧ Dg Hc p) ⟨k, o, vl, rfl, SameB.refl, D4⟩ ?_ ?_⟩
  · rintro i2 σ Hc hi ⟨k', o', vl', rfl, Bc, Dc⟩
    refine q1 _ _ _ _ _ _ p q zs Hc Dc (Bc _ _ nqp hq) nqp (by omega) (by omega) zt fun o2 vl2 H5 B5 D5 => ?_
    exact ⟨_, o2, vl2, rfl, Bc.trans B5, D5⟩
  · rintro σ Hc ⟨k', o', vl', rfl, Bc, Dc⟩
    exact hD _ _ _ _ _ _ ((B2.trans (B4.trans Bc)).same U np)
def spLaw (K : PySem.W.Frag) : Sp := fun vs H Q _ => ∃ (l : Addr) (ns : List Int), vs = [.ref l] ∧ SqL K H l (ns.map V.int) ∧ ∀ H', Q (.bl true) H'
theorem prog_not {d : PyData} (h : d ∈ noProgs) : isProg d = false := by
  have q := List.all_eq_true.mp noProgs_not d h
  simpa using q
theorem both_fit {d : PyData} (h : d ∈ noProgs ++ edges) : fit d ∧ d.depth ≤ 44 := by
  rcases List.mem_append.mp h with q | q
  · exact ⟨fitB_ok (List.all_eq_true.mp noProgs_fit d q), of_decide_eq_true (List.all_eq_true.mp noProgs_deep d q)⟩
  · exact ⟨fitB_ok (List.all_eq_true.mp edges_fit d q), of_decide_eq_true (List.all_eq_true.mp edges_deep d q)⟩
theorem lens : noProgs.length + edges.length ≤ 1000 := by decide +kernel
theorem ok_law (L : Lw K mg) {fd : FuncData} (F : Fun K "law" "law" sLaw f fd) : FnG P w K mg base 49 f fd ["script"] (spLaw K) := by
  have GP : FnOk P w K mg base CX0 3 L.nProg.f L.nProg.fd ["value"] (spProg K) := L.prog
  have GG : FnG P w K mg base 48 L.nGood.f L.nGood.fd ["value"] (spGood K 44) := L.good
  have GN : FnOk P w K mg base CX0 2 L.nNoP.f L.nNoP.fd [] (spNoP K) := ok_noprogs L.nNoP.F L.T L.nNoN.F L.nNoN.b L.nNoN.m
  have GE : FnOk P w K mg base CX0 2 L.nEd.f L.nEd.fd [] (spEd K) := ok_edges L.nEd.F L.T
  refine Fun.okG F scLw (fun vs H Q E h => ?_) (fun cdv A outer s H vs Q E hg hr h => ?_)
  · obtain ⟨l, ns, rfl, _⟩ := h
    rfl
  · obtain ⟨l, ns, rfl, hl, h⟩ := h
    obtain ⟨t0, h0, q0⟩ := law0 (P := P) (w := w) (base := base) (f := f) (cdv := cdv) (A := A) (outer := outer) (s := s) (H := H) (E := E) L hg hr
    refine ⟨_, pss_cons (ps_for PassesOwn.never rfl (pi_range1 rfl L.T.range (pa_cons (pe_callB (call_max2 rfl) rfl L.T.max b_max (pa_cons (pe_callB (call_min2 rfl) rfl L.T.min b_min (pa_cons (pe_callB call_len_seq rfl L.T.len b_len (pa_cons (pv 0) pa_nil)) (pa_cons pe_int pa_nil))) (pa_cons pe_int pa_nil))) pa_nil)) (pg_name (i := 1) scLw.nd rfl (Or.inl rfl)) h0)
      (pss_cons (ps_set (i := 7) scLw.nd rfl (.inl rfl) (pe_call0 GN (hr.mono (by decide)) rfl L.nNoP.m L.nNoP.F.kp L.nNoP.b .nil pass0))
      (pss_one (ps_ret (pe_and (pe_callB (cr_all rfl) rfl L.T.all b_all (pa_cons
          (pe_lc (own := [("value", 9)]) (g := gName 9) (tt := tYes) rfl scLw.nd (pi_list (pe_op op_cat (pv 7) (pe_call0 GE (hr.mono (by decide)) rfl L.nEd.m L.nEd.F.kp L.nEd.b .nil pass0))) (blkOk_by (N := nLw) (sc := defScope sLaw) (by decide +kernel)) (fun _ _ _ _ _ => pg_name (i := 9) scLw.nd rfl (Or.inl rfl)) (fun _ _ _ _ _ => pts_nil)
            (fun _ _ _ _ _ => pe_callG2 GG hg hr L.nGood.m L.nGood.F.kp L.nGood.b (pa_cons (pv 9) pa_nil))) pa_nil))
        (pe_one (pe_not (pe_callB (cr_any rfl) rfl L.T.any b_any (pa_cons
          (pe_lc (own := [("odd", 10)]) (g := gName 10) (tt := tYes) rfl scLw.nd (pi_list (pv 7)) (blkOk_by (N := nLw) (sc := defScope sLaw) (by decide +kernel)) (fun _ _ _ _ _ => pg_name (i := 10) scLw.nd rfl (Or.inl rfl)) (fun _ _ _ _ _ => pts_nil)
            (fun _ _ _ _ _ => pe_call GP (hr.mono (by decide)) rfl L.nProg.m L.nProg.F.kp L.nProg.b .nil pass0 (pa_cons (pv 10) pa_nil))) pa_nil)))))))), ?_⟩
    refine ⟨_, rfl, l, _, rfl, .inl hl, _, _, rfl, _, _, rfl, ?_⟩
    generalize hm : (if (1 : Int) > (if (5 : Int) < (((ns.map V.int).length : Nat) : Int) then (5 : Int) else (((ns.map V.int).length : Nat) : Int)) then (1 : Int) else (if (5 : Int) < (((ns.map V.int).length : Nat) : Int) then (5 : Int) else (((ns.map V.int).length : Nat) : Int))) = m
    have hm1 : 1 ≤ m ∧ m ≤ 5 := by
      rw [← hm]
      split <;> split <;> omega
    refine ⟨m, rfl, by omega, by omega, ?_⟩
    refine for_range (n := m.toNat) (fun i σ Hc => ∃ tn ow ch k o vl : Option V, σ = [some (.ref l), tn, ow, ch, k, o, vl, none, none, none, none] ∧ Same H Hc) ⟨none, none, none, none, none, none, rfl, Same.refl H⟩ ?_ ?_
    · rintro i σ Hc hi ⟨tn, ow, ch, k, o, vl, rfl, S⟩
      exact q0 _ l ns i ow ch k o vl Hc (sqlS S hl) (by omega) fun ow' ch' k' o' vl' H' S' => ⟨_, ow', ch', k', o', vl', rfl, S.trans S'⟩
    · rintro σ Hc ⟨tn, ow, ch, k, o, vl, rfl, S⟩
      refine ⟨rfl, fun p1 H1 ys S1 hy hA => ?_⟩
      refine ⟨_, rfl, rfl, fun p2 H2 zs S2 hz hB => ?_⟩
      have hy2 := S2 _ _ hy
      have hA2 := hA.mono S2
      have la := hA2.len
      have lb := hB.len
      have ll := lens
      refine ⟨p1, p2, _, _, rfl, rfl, hy2, hz, len_small (by omega), fun a na => ?_⟩
      have U := up1 (o := .lst (ys ++ zs)) na
      have hL : upd H2 a (.lst (ys ++ zs)) a = some (.lst (ys ++ zs)) := upd_same
      have hAB : DvAll K (upd H2 a (.lst (ys ++ zs))) (ys ++ zs) (noProgs ++ edges) := (hA2.mono U).app (hB.mono U)
      have hy3 := U _ _ hy2
      have hA3 := hA2.mono U
      clear hA2 hB hy2 U na
      generalize upd H2 a (.lst (ys ++ zs)) = H3 at *
      refine ⟨a, rfl, ⟨_, .inl (.inl hL)⟩, fun dd nd => ?_⟩
      refine lc_list (K := K) (a := a) (xs := ys ++ zs) (fun i Hd => Same H3 Hd ∧ Hd dd = some (.lst ((List.replicate i true).map V.bl))) ⟨up1 nd, upd_same⟩ (fun i Hd _ ⟨s, _⟩ => s.seq (.inl (.inl hL))) ?_ ?_
      · rintro i y Hd hi ⟨Sd, Ld⟩
        obtain ⟨e, he, hv⟩ := hAB.get hi
        obtain ⟨f1, f2⟩ := both_fit (List.mem_of_getElem? he)
        have hi' : i < (ys ++ zs).length := (List.getElem?_eq_some_iff.mp hi).1
        rw [List.length_append] at hi'
        refine ⟨rfl, ?_⟩
        refine ⟨_, rfl, y, e, rfl, hv.mono Sd, f1, f2, fun H' S' => ⟨_, S' _ _ Ld, small1000 (by rw [List.length_map, List.length_replicate]; omega), same_at (Sd.trans S') nd, ?_⟩⟩
        rw [upd_same, List.replicate_succ', List.map_append]
        rfl
      · rintro Hd ⟨Sd, Ld⟩
        refine ⟨dd, List.replicate (ys ++ zs).length true, rfl, .inl (.inl Ld), ?_⟩
        have e1 : (List.replicate (ys ++ zs).length true).all id = true := by simp
        rw [e1]
        refine ⟨_, rfl, ?_⟩
        have hy4 := Sd _ _ hy3
        have hA4 := hA3.mono Sd
        refine ⟨_, rfl, p1, rfl, ⟨_, .inl (.inl hy4)⟩, fun dd2 nd2 => ?_⟩
        refine lc_list (K := K) (a := p1) (xs := ys) (fun i He => Same Hd He ∧ He dd2 = some (.lst ((List.replicate i false).map V.bl))) ⟨up1 nd2, upd_same⟩ (fun i He _ ⟨s, _⟩ => s.seq (.inl (.inl hy4))) ?_ ?_
        · rintro i y He hi ⟨Se, Le⟩
          obtain ⟨e, he, hv⟩ := hA4.get hi
          have hem := List.mem_of_getElem? he
          obtain ⟨f1, f2⟩ := both_fit (List.mem_append_left edges hem)
          have hi' : i < ys.length := (List.getElem?_eq_some_iff.mp hi).1
          refine ⟨rfl, ?_⟩
          refine ⟨_, rfl, y, e, rfl, hv.mono Se, f1.2.2.2.1, fun H' S' => ⟨_, S' _ _ Le, small1000 (by rw [List.length_map, List.length_replicate]; omega), same_at (Se.trans S') nd2, ?_⟩⟩
          rw [prog_not hem, upd_same, List.replicate_succ', List.map_append]
          rfl
        · rintro He ⟨Se, Le⟩
          refine ⟨dd2, List.replicate ys.length false, rfl, .inl (.inl Le), ?_⟩
          have e2 : (List.replicate ys.length false).any id = false := by simp
          rw [e2]
          exact ⟨_, rfl, h _⟩
end
end L50
/-! what the top has written -/
namespace L50
open PySem PySem.Spec PyProof.Rows L2 L54
def blL : List Str := ["int", "len", "range", "max", "min", "isinstance", "str", "all", "any", "tuple", "sorted", "list", "dict", "bool"]
def dfL : List (Str × Addr) := [("is_name", 45), ("is_program", 52), ("check_program", 59), ("names", 64), ("_is_part", 71), ("_members", 78), ("_law_mixed", 85), ("_law_cell", 92), ("_law_take", 99), ("_law_words", 106), ("_law_program", 111), ("_law_inner", 118), ("_law_names", 123), ("_law_no_names", 130), ("_law_no_programs", 135), ("_law_word", 140), ("_law_look", 145), ("_law_is", 150), ("_law_good", 157), ("_law_bent", 164), ("_law_edges", 169), ("law", 174)]
def factsB (K : PySem.W.Frag) : Bool := (dfL.all fun q => decide (PySem.W.nsIn K mainGlobals q.1 = some (some (.ref q.2))) && PySem.W.keepIn K (.ref q.2)) && blL.all fun x => decide (PySem.W.nsIn K mainGlobals x = some none)
section
variable {P : Program} {w : World} {K : PySem.W.Frag} {h : Heap} {mg : Str → Option Value}
theorem bl_of (X : K.In h) (G : h.Ns mainGlobals mg) (e : (blL.all fun x => decide (PySem.W.nsIn K mainGlobals x = some none)) = true) : Bl mg := by
  have z : ∀ x ∈ blL, mg x = none := fun x hx => PySem.W.mg_none_of X G (of_decide_eq_true (List.all_eq_true.mp e x hx))
  exact ⟨z _ (by decide +kernel), z _ (by decide +kernel), z _ (by decide +kernel), z _ (by decide +kernel), z _ (by decide +kernel), z _ (by decide +kernel), z _ (by decide +kernel), z _ (by decide +kernel), z _ (by decide +kernel), z _ (by decide +kernel), z _ (by decide +kernel), z _ (by decide +kernel), z _ (by decide +kernel), z _ (by decide +kernel)⟩
theorem fn1 {x : Str} {st : Stmt} {ps : List Str} {f : Addr} (X : K.In h) (G : h.Ns mainGlobals mg) (e : (dfL.all fun q => decide (PySem.W.nsIn K mainGlobals q.1 = some (some (.ref q.2))) && PySem.W.keepIn K (.ref q.2)) = true) (m : (x, f) ∈ dfL)
    {oc : Value} {od an : Option Addr} {osl : Array (Option Value)} {kV doc pm cdv ct : Value} (l : K.lookup f = some ⟨oc, od, .func (PySem.W.fnOf x x (defArgs st) (defBody st) (defScope st) .none kV doc pm an cdv ct), osl⟩) (k : PySem.W.codeIn K cdv x = true)
    (b : ∀ (kV doc pm : Value) (an : Option Addr) (cdv ct : Value) (us : List Value), us.length = ps.length → bindArgs (PySem.W.fnOf x x (defArgs st) (defBody st) (defScope st) .none kV doc pm an cdv ct) ⟨us, []⟩ = pure (ps.zip us)) :
    ∃ F : Fn K mg x st ps, F.f = f := by
  have z := List.all_eq_true.mp e _ m
  have F := fun_mk (st := st) l k (Bool.and_eq_true_iff.mp z).2
  exact ⟨⟨f, _, F, F.binds b, PySem.W.mg_of X G (of_decide_eq_true (Bool.and_eq_true_iff.mp z).1)⟩, rfl⟩
theorem all_mk (X : K.In h) (G : h.Ns mainGlobals mg) {fa : Addr} (hfa : mg "law" = some (.ref fa)) (B : factsB K = true)
    {oc0 : Value} {od0 an0 : Option Addr} {sl0 : Array (Option Value)} {kV0 dc0 pm0 cd0 ct0 : Value} (l0 : K.lookup 45 = some ⟨oc0, od0, .func (PySem.W.fnOf "is_name" "is_name" (defArgs sIsName) (defBody sIsName) (defScope sIsName) .none kV0 dc0 pm0 an0 cd0 ct0), sl0⟩) (c0 : PySem.W.codeIn K cd0 "is_name" = true)
    {oc1 : Value} {od1 an1 : Option Addr} {sl1 : Array (Option Value)} {kV1 dc1 pm1 cd1 ct1 : Value} (l1 : K.lookup 52 = some ⟨oc1, od1, .func (PySem.W.fnOf "is_program" "is_program" (defArgs sIsProgram) (defBody sIsProgram) (defScope sIsProgram) .none kV1 dc1 pm1 an1 cd1 ct1), sl1⟩) (c1 : PySem.W.codeIn K cd1 "is_program" = true)
    {oc2 : Value} {od2 an2 : Option Addr} {sl2 : Array (Option Value)} {kV2 dc2 pm2 cd2 ct2 : Value} (l2 : K.lookup 59 = some ⟨oc2, od2, .func (PySem.W.fnOf "check_program" "check_program" (defArgs sCheck) (defBody sCheck) (defScope sCheck) .none kV2 dc2 pm2 an2 cd2 ct2), sl2⟩) (c2 : PySem.W.codeIn K cd2 "check_program" = true)
    {oc3 : Value} {od3 an3 : Option Addr} {sl3 : Array (Option Value)} {kV3 dc3 pm3 cd3 ct3 : Value} (l3 : K.lookup 64 = some ⟨oc3, od3, .func (PySem.W.fnOf "names" "names" (defArgs sNames) (defBody sNames) (defScope sNames) .none kV3 dc3 pm3 an3 cd3 ct3), sl3⟩) (c3 : PySem.W.codeIn K cd3 "names" = true)
    {oc4 : Value} {od4 an4 : Option Addr} {sl4 : Array (Option Value)} {kV4 dc4 pm4 cd4 ct4 : Value} (l4 : K.lookup 71 = some ⟨oc4, od4, .func (PySem.W.fnOf "_is_part" "_is_part" (defArgs sIsPart) (defBody sIsPart) (defScope sIsPart) .none kV4 dc4 pm4 an4 cd4 ct4), sl4⟩) (c4 : PySem.W.codeIn K cd4 "_is_part" = true)
    {oc5 : Value} {od5 an5 : Option Addr} {sl5 : Array (Option Value)} {kV5 dc5 pm5 cd5 ct5 : Value} (l5 : K.lookup 78 = some ⟨oc5, od5, .func (PySem.W.fnOf "_members" "_members" (defArgs sMembers) (defBody sMembers) (defScope sMembers) .none kV5 dc5 pm5 an5 cd5 ct5), sl5⟩) (c5 : PySem.W.codeIn K cd5 "_members" = true)
    {oc6 : Value} {od6 an6 : Option Addr} {sl6 : Array (Option Value)} {kV6 dc6 pm6 cd6 ct6 : Value} (l6 : K.lookup 85 = some ⟨oc6, od6, .func (PySem.W.fnOf "_law_mixed" "_law_mixed" (defArgs sMixed) (defBody sMixed) (defScope sMixed) .none kV6 dc6 pm6 an6 cd6 ct6), sl6⟩) (c6 : PySem.W.codeIn K cd6 "_law_mixed" = true)
    {oc7 : Value} {od7 an7 : Option Addr} {sl7 : Array (Option Value)} {kV7 dc7 pm7 cd7 ct7 : Value} (l7 : K.lookup 92 = some ⟨oc7, od7, .func (PySem.W.fnOf "_law_cell" "_law_cell" (defArgs sCell) (defBody sCell) (defScope sCell) .none kV7 dc7 pm7 an7 cd7 ct7), sl7⟩) (c7 : PySem.W.codeIn K cd7 "_law_cell" = true)
    {oc8 : Value} {od8 an8 : Option Addr} {sl8 : Array (Option Value)} {kV8 dc8 pm8 cd8 ct8 : Value} (l8 : K.lookup 99 = some ⟨oc8, od8, .func (PySem.W.fnOf "_law_take" "_law_take" (defArgs sTake) (defBody sTake) (defScope sTake) .none kV8 dc8 pm8 an8 cd8 ct8), sl8⟩) (c8 : PySem.W.codeIn K cd8 "_law_take" = true)
    {oc9 : Value} {od9 an9 : Option Addr} {sl9 : Array (Option Value)} {kV9 dc9 pm9 cd9 ct9 : Value} (l9 : K.lookup 106 = some ⟨oc9, od9, .func (PySem.W.fnOf "_law_words" "_law_words" (defArgs sWords) (defBody sWords) (defScope sWords) .none kV9 dc9 pm9 an9 cd9 ct9), sl9⟩) (c9 : PySem.W.codeIn K cd9 "_law_words" = true)
    {oc10 : Value} {od10 an10 : Option Addr} {sl10 : Array (Option Value)} {kV10 dc10 pm10 cd10 ct10 : Value} (l10 : K.lookup 111 = some ⟨oc10, od10, .func (PySem.W.fnOf "_law_program" "_law_program" (defArgs sProgram) (defBody sProgram) (defScope sProgram) .none kV10 dc10 pm10 an10 cd10 ct10), sl10⟩) (c10 : PySem.W.codeIn K cd10 "_law_program" = true)
    {oc11 : Value} {od11 an11 : Option Addr} {sl11 : Array (Option Value)} {kV11 dc11 pm11 cd11 ct11 : Value} (l11 : K.lookup 118 = some ⟨oc11, od11, .func (PySem.W.fnOf "_law_inner" "_law_inner" (defArgs sInner) (defBody sInner) (defScope sInner) .none kV11 dc11 pm11 an11 cd11 ct11), sl11⟩) (c11 : PySem.W.codeIn K cd11 "_law_inner" = true)
    {oc12 : Value} {od12 an12 : Option Addr} {sl12 : Array (Option Value)} {kV12 dc12 pm12 cd12 ct12 : Value} (l12 : K.lookup 123 = some ⟨oc12, od12, .func (PySem.W.fnOf "_law_names" "_law_names" (defArgs sLawNames) (defBody sLawNames) (defScope sLawNames) .none kV12 dc12 pm12 an12 cd12 ct12), sl12⟩) (c12 : PySem.W.codeIn K cd12 "_law_names" = true)
    {oc13 : Value} {od13 an13 : Option Addr} {sl13 : Array (Option Value)} {kV13 dc13 pm13 cd13 ct13 : Value} (l13 : K.lookup 130 = some ⟨oc13, od13, .func (PySem.W.fnOf "_law_no_names" "_law_no_names" (defArgs sNoNames) (defBody sNoNames) (defScope sNoNames) .none kV13 dc13 pm13 an13 cd13 ct13), sl13⟩) (c13 : PySem.W.codeIn K cd13 "_law_no_names" = true)
    {oc14 : Value} {od14 an14 : Option Addr} {sl14 : Array (Option Value)} {kV14 dc14 pm14 cd14 ct14 : Value} (l14 : K.lookup 135 = some ⟨oc14, od14, .func (PySem.W.fnOf "_law_no_programs" "_law_no_programs" (defArgs sNoProgs) (defBody sNoProgs) (defScope sNoProgs) .none kV14 dc14 pm14 an14 cd14 ct14), sl14⟩) (c14 : PySem.W.codeIn K cd14 "_law_no_programs" = true)
    {oc15 : Value} {od15 an15 : Option Addr} {sl15 : Array (Option Value)} {kV15 dc15 pm15 cd15 ct15 : Value} (l15 : K.lookup 140 = some ⟨oc15, od15, .func (PySem.W.fnOf "_law_word" "_law_word" (defArgs sWord) (defBody sWord) (defScope sWord) .none kV15 dc15 pm15 an15 cd15 ct15), sl15⟩) (c15 : PySem.W.codeIn K cd15 "_law_word" = true)
    {oc16 : Value} {od16 an16 : Option Addr} {sl16 : Array (Option Value)} {kV16 dc16 pm16 cd16 ct16 : Value} (l16 : K.lookup 145 = some ⟨oc16, od16, .func (PySem.W.fnOf "_law_look" "_law_look" (defArgs sLook) (defBody sLook) (defScope sLook) .none kV16 dc16 pm16 an16 cd16 ct16), sl16⟩) (c16 : PySem.W.codeIn K cd16 "_law_look" = true)
    {oc17 : Value} {od17 an17 : Option Addr} {sl17 : Array (Option Value)} {kV17 dc17 pm17 cd17 ct17 : Value} (l17 : K.lookup 150 = some ⟨oc17, od17, .func (PySem.W.fnOf "_law_is" "_law_is" (defArgs sIs) (defBody sIs) (defScope sIs) .none kV17 dc17 pm17 an17 cd17 ct17), sl17⟩) (c17 : PySem.W.codeIn K cd17 "_law_is" = true)
    {oc18 : Value} {od18 an18 : Option Addr} {sl18 : Array (Option Value)} {kV18 dc18 pm18 cd18 ct18 : Value} (l18 : K.lookup 157 = some ⟨oc18, od18, .func (PySem.W.fnOf "_law_good" "_law_good" (defArgs sGood) (defBody sGood) (defScope sGood) .none kV18 dc18 pm18 an18 cd18 ct18), sl18⟩) (c18 : PySem.W.codeIn K cd18 "_law_good" = true)
    {oc19 : Value} {od19 an19 : Option Addr} {sl19 : Array (Option Value)} {kV19 dc19 pm19 cd19 ct19 : Value} (l19 : K.lookup 164 = some ⟨oc19, od19, .func (PySem.W.fnOf "_law_bent" "_law_bent" (defArgs sBent) (defBody sBent) (defScope sBent) .none kV19 dc19 pm19 an19 cd19 ct19), sl19⟩) (c19 : PySem.W.codeIn K cd19 "_law_bent" = true)
    {oc20 : Value} {od20 an20 : Option Addr} {sl20 : Array (Option Value)} {kV20 dc20 pm20 cd20 ct20 : Value} (l20 : K.lookup 169 = some ⟨oc20, od20, .func (PySem.W.fnOf "_law_edges" "_law_edges" (defArgs sEdges) (defBody sEdges) (defScope sEdges) .none kV20 dc20 pm20 an20 cd20 ct20), sl20⟩) (c20 : PySem.W.codeIn K cd20 "_law_edges" = true)
    {oc21 : Value} {od21 an21 : Option Addr} {sl21 : Array (Option Value)} {kV21 dc21 pm21 cd21 ct21 : Value} (l21 : K.lookup 174 = some ⟨oc21, od21, .func (PySem.W.fnOf "law" "law" (defArgs sLaw) (defBody sLaw) (defScope sLaw) .none kV21 dc21 pm21 an21 cd21 ct21), sl21⟩) (c21 : PySem.W.codeIn K cd21 "law" = true)
    {tL : Tok} (gL : PySem.W.nsIn K mainGlobals "LETTERS" = some (some (.str letters tL)))
    {ti0 : Tok} (gi0 : PySem.W.nsIn K mainGlobals "LONGEST_NAME" = some (some (.int 8 ti0)))
    {ti1 : Tok} (gi1 : PySem.W.nsIn K mainGlobals "MOST_PARTS" = some (some (.int 60 ti1)))
    {ti2 : Tok} (gi2 : PySem.W.nsIn K mainGlobals "MOST_NAMES" = some (some (.int 6 ti2)))
    {ti3 : Tok} (gi3 : PySem.W.nsIn K mainGlobals "DEEPEST" = some (some (.int 40 ti3)))
    {aN : Addr} (gN : PySem.W.nsIn K mainGlobals "NOT_NAMES" = some (some (.ref aN))) {dN : Option Addr} {nN : Nat} {slN : Array (Option Value)} {t1 t2 t3 : Tok} (lN : K.lookup aN = some ⟨.type "tuple", dN, .seq [Value.str "skip" t1, Value.str "start" t2, Value.str "end" t3].toArray nN, slN⟩)
    : ∃ fd : FuncData, (∀ (s : Shared) (u : Value), BindsTo s fd ⟨[u], []⟩ [("script", u)]) ∧ ∀ base : Heap, K.In base → base.Ns mainGlobals mg → FnG P w K mg base 49 fa fd ["script"] (spLaw K) := by
  obtain ⟨B0, B1⟩ := Bool.and_eq_true_iff.mp B
  have T := bl_of X G B1
  obtain ⟨F0, eF0⟩ := fn1 (x := "is_name") (st := sIsName) (ps := ["value"]) X G B0 (by decide +kernel) l0 c0 (fun _ _ _ _ _ _ us hl => match us, hl with | [_], _ => rfl)
  obtain ⟨F1, eF1⟩ := fn1 (x := "is_program") (st := sIsProgram) (ps := ["value"]) X G B0 (by decide +kernel) l1 c1 (fun _ _ _ _ _ _ us hl => match us, hl with | [_], _ => rfl)
  obtain ⟨F2, eF2⟩ := fn1 (x := "check_program") (st := sCheck) (ps := ["program"]) X G B0 (by decide +kernel) l2 c2 (fun _ _ _ _ _ _ us hl => match us, hl with | [_], _ => rfl)
  obtain ⟨F3, eF3⟩ := fn1 (x := "names") (st := sNames) (ps := ["program"]) X G B0 (by decide +kernel) l3 c3 (fun _ _ _ _ _ _ us hl => match us, hl with | [_], _ => rfl)
  obtain ⟨F4, eF4⟩ := fn1 (x := "_is_part") (st := sIsPart) (ps := ["value"]) X G B0 (by decide +kernel) l4 c4 (fun _ _ _ _ _ _ us hl => match us, hl with | [_], _ => rfl)
  obtain ⟨F5, eF5⟩ := fn1 (x := "_members") (st := sMembers) (ps := ["part"]) X G B0 (by decide +kernel) l5 c5 (fun _ _ _ _ _ _ us hl => match us, hl with | [_], _ => rfl)
  obtain ⟨F6, eF6⟩ := fn1 (x := "_law_mixed") (st := sMixed) (ps := ["cell", "k"]) X G B0 (by decide +kernel) l6 c6 (fun _ _ _ _ _ _ us hl => match us, hl with | [_, _], _ => rfl)
  obtain ⟨F7, eF7⟩ := fn1 (x := "_law_cell") (st := sCell) (ps := ["script", "k"]) X G B0 (by decide +kernel) l7 c7 (fun _ _ _ _ _ _ us hl => match us, hl with | [_, _], _ => rfl)
  obtain ⟨F8, eF8⟩ := fn1 (x := "_law_take") (st := sTake) (ps := ["own", "options"]) X G B0 (by decide +kernel) l8 c8 (fun _ _ _ _ _ _ us hl => match us, hl with | [_, _], _ => rfl)
  obtain ⟨F9, eF9⟩ := fn1 (x := "_law_words") (st := sWords) (ps := ["own", "many"]) X G B0 (by decide +kernel) l9 c9 (fun _ _ _ _ _ _ us hl => match us, hl with | [_, _], _ => rfl)
  obtain ⟨F10, eF10⟩ := fn1 (x := "_law_program") (st := sProgram) (ps := ["own", "called", "deep"]) X G B0 (by decide +kernel) l10 c10 (fun _ _ _ _ _ _ us hl => match us, hl with | [_, _, _], _ => rfl)
  obtain ⟨F11, eF11⟩ := fn1 (x := "_law_inner") (st := sInner) (ps := ["one"]) X G B0 (by decide +kernel) l11 c11 (fun _ _ _ _ _ _ us hl => match us, hl with | [_], _ => rfl)
  obtain ⟨F12, eF12⟩ := fn1 (x := "_law_names") (st := sLawNames) (ps := ["one"]) X G B0 (by decide +kernel) l12 c12 (fun _ _ _ _ _ _ us hl => match us, hl with | [_], _ => rfl)
  obtain ⟨F13, eF13⟩ := fn1 (x := "_law_no_names") (st := sNoNames) (ps := []) X G B0 (by decide +kernel) l13 c13 (fun _ _ _ _ _ _ us hl => match us, hl with | [], _ => rfl)
  obtain ⟨F14, eF14⟩ := fn1 (x := "_law_no_programs") (st := sNoProgs) (ps := []) X G B0 (by decide +kernel) l14 c14 (fun _ _ _ _ _ _ us hl => match us, hl with | [], _ => rfl)
  obtain ⟨F15, eF15⟩ := fn1 (x := "_law_word") (st := sWord) (ps := ["value"]) X G B0 (by decide +kernel) l15 c15 (fun _ _ _ _ _ _ us hl => match us, hl with | [_], _ => rfl)
  obtain ⟨F16, eF16⟩ := fn1 (x := "_law_look") (st := sLook) (ps := ["value", "deep", "found"]) X G B0 (by decide +kernel) l16 c16 (fun _ _ _ _ _ _ us hl => match us, hl with | [_, _, _], _ => rfl)
  obtain ⟨F17, eF17⟩ := fn1 (x := "_law_is") (st := sIs) (ps := ["value"]) X G B0 (by decide +kernel) l17 c17 (fun _ _ _ _ _ _ us hl => match us, hl with | [_], _ => rfl)
  obtain ⟨F18, eF18⟩ := fn1 (x := "_law_good") (st := sGood) (ps := ["value"]) X G B0 (by decide +kernel) l18 c18 (fun _ _ _ _ _ _ us hl => match us, hl with | [_], _ => rfl)
  obtain ⟨F19, eF19⟩ := fn1 (x := "_law_bent") (st := sBent) (ps := ["own", "value"]) X G B0 (by decide +kernel) l19 c19 (fun _ _ _ _ _ _ us hl => match us, hl with | [_, _], _ => rfl)
  obtain ⟨F20, eF20⟩ := fn1 (x := "_law_edges") (st := sEdges) (ps := []) X G B0 (by decide +kernel) l20 c20 (fun _ _ _ _ _ _ us hl => match us, hl with | [], _ => rfl)
  obtain ⟨F21, eF21⟩ := fn1 (x := "law") (st := sLaw) (ps := ["script"]) X G B0 (by decide +kernel) l21 c21 (fun _ _ _ _ _ _ us hl => match us, hl with | [_], _ => rfl)
  have GB : Gb K mg := ⟨⟨_, PySem.W.mg_of X G gL, ⟨_, rfl⟩⟩, ⟨aN, PySem.W.mg_of X G gN, fun H => .inr ⟨_, _, _, lN, rfl, rfl, (show 3 ≤ sizeLine by decide), .cons ⟨_, rfl⟩ (.cons ⟨_, rfl⟩ (.cons ⟨_, rfl⟩ .nil))⟩⟩, ⟨_, PySem.W.mg_of X G gi0, ⟨_, rfl⟩⟩, ⟨_, PySem.W.mg_of X G gi1, ⟨_, rfl⟩⟩, ⟨_, PySem.W.mg_of X G gi2, ⟨_, rfl⟩⟩, ⟨_, PySem.W.mg_of X G gi3, ⟨_, rfl⟩⟩⟩
  have L : Lw K mg := ⟨T, GB, F0, F1, F2, F3, F4, F5, F6, F7, F8, F9, F10, F11, F12, F13, F14, F15, F16, F17, F18, F19, F20⟩
  have e := hfa.symm.trans F21.m
  cases e
  obtain ⟨f, fd, Ff, Fb, Fm⟩ := F21
  exact ⟨fd, fun s u => by
    obtain ⟨oc, od, kV, doc, pm, an, cdv, ct, osl, rfl, _⟩ := Ff.ex
    exact .of_eq rfl, fun base _ _ => ok_law L Ff⟩
end
end L50
open PySem PySem.W PyProof.Rows
set_option maxRecDepth 100000 in
set_option maxHeartbeats 0 in
theorem PySem.Challenge.cw_lasttouch_k50_programs_are_recognized_holds : PySem.Challenge.rw_lasttouch_k50_programs_are_recognized.Holds := by
  w_on; o_law; k_head; (case hw => w_witness2)
  k_fill
  refine L54.walk54 (l := PySem.Challenge.rw_lasttouch_k50_programs_are_recognized) (k := 49) (x := "script") (sp := L50.spLaw) rfl (by decide) rfl ⟨rfl, by decide, by decide⟩ (fun w h Y => PySem.W.kIn_of Y) ?F (fun K H a ns hl hO hS => ⟨a, ns, rfl, hS, fun _ => rfl⟩)
  case F =>
    intro w mg fa h KX G hmg
    refine' L50.all_mk KX G hmg ?B ?l0 ?c0 ?l1 ?c1 ?l2 ?c2 ?l3 ?c3 ?l4 ?c4 ?l5 ?c5 ?l6 ?c6 ?l7 ?c7 ?l8 ?c8 ?l9 ?c9 ?l10 ?c10 ?l11 ?c11 ?l12 ?c12 ?l13 ?c13 ?l14 ?c14 ?l15 ?c15 ?l16 ?c16 ?l17 ?c17 ?l18 ?c18 ?l19 ?c19 ?l20 ?c20 ?l21 ?c21 ?gL ?gi0 ?gi1 ?gi2 ?gi3 ?gN ?lN
    (case B => kernel_rfl)
    (case l0 => k_is)
    (case c0 => k_is)
    (case l1 => k_is)
    (case c1 => k_is)
    (case l2 => k_is)
    (case c2 => k_is)
    (case l3 => k_is)
    (case c3 => k_is)
    (case l4 => k_is)
    (case c4 => k_is)
    (case l5 => k_is)
    (case c5 => k_is)
    (case l6 => k_is)
    (case c6 => k_is)
    (case l7 => k_is)
    (case c7 => k_is)
    (case l8 => k_is)
    (case c8 => k_is)
    (case l9 => k_is)
    (case c9 => k_is)
    (case l10 => k_is)
    (case c10 => k_is)
    (case l11 => k_is)
    (case c11 => k_is)
    (case l12 => k_is)
    (case c12 => k_is)
    (case l13 => k_is)
    (case c13 => k_is)
    (case l14 => k_is)
    (case c14 => k_is)
    (case l15 => k_is)
    (case c15 => k_is)
    (case l16 => k_is)
    (case c16 => k_is)
    (case l17 => k_is)
    (case c17 => k_is)
    (case l18 => k_is)
    (case c18 => k_is)
    (case l19 => k_is)
    (case c19 => k_is)
    (case l20 => k_is)
    (case c20 => k_is)
    (case l21 => k_is)
    (case c21 => k_is)
    (case gL => k_is)
    (case gi0 => k_is)
    (case gi1 => k_is)
    (case gi2 => k_is)
    (case gi3 => k_is)
    (case gN => k_is)
    (case lN => k_is)
