import PyProof.Rows.All
import Wide.All
import OpenK.AllK
import Wide.FinOn
import HandS.ForMost
import HandS.ForExc
import HandS.ExcValue
import HandS.ExcInit
import HandS.ExcIs
import HandS.IsInst
import HandS.Wide
import HandS.DeepEq
import HandS.TupAny
import HandS.Defaults
import HandS.ExcField
import PyProof.ReprRoads
import HandS.Walk
import HandS.Style
import HandS.DictComp
import HandS.LawCells
import PyProof.TupleOfStr
import PyProof.EqKinds
import PySem.Challenge.RW_lasttouch_k52_texts_of_programs
import HandS.StrMore
import PyProof.StrLawsIn
import HandS.Star
import HandS.Text
import HandS.Exc
import HandS.ExcOwn
import HandS.WordsExc
import HandS.CallSlots
import HandS.Replace
import HandS.ReplaceLit
import PyProof.MeetsStr3
import HandS.ReplaceDef
import HandS.TupMul
import PyProof.CollectStr
import KE.KDictList
import HandS.Conv
import HandS.Dict
set_option Elab.async false
set_option linter.all false
set_option maxRecDepth 100000
set_option maxHeartbeats 8000000
namespace PySem
namespace KwX
open PySem.W PySem.Calls PyProof.Rows PySem.HandSPX
section
variable {M : Model} {A : Around} {E : Value → Shared → Prop} {h : Heap} {g : Array GenState} {d : Drawn} {t : Nat} {os : OsState}
variable {nm q : Str} {C N : Addr} {bs bm bmB : List Value} {hdct : Bool} {sn : List Str} {sub : List Value} {ab : Bool} {col : Option Bool} {dd : Option Addr} {k0 k1 k2 k3 k5 : Option Value} {B newId initId : String}
theorem chkNew (F : ExcBaseFacts B newId initId bmB) (hT : ∀ X : String, bm.contains (.type X) = bmB.contains (.type X)) {us : List Value} {kw : List (Str × Value)} {Q : Unit → Shared → Prop}
    (hC : h.get? C = some (excClassObj nm q C N bs bm hdct sn sub ab col dd k0 k1 k2 k3 k5 newId))
    (hq : Q () ⟨h, g, d, t, os⟩) : wpAny M A (checkBuiltinCall newId ⟨.ref C :: us, kw⟩) Q E ⟨h, g, d, t, os⟩ := by
  have c1 : (Value.ref C :: bm).contains (.type B) = true := by rw [List.contains_cons, hT, F.hasB, Bool.or_true]
  have c2 := F.noStar
  simp only [checkBuiltinCall, F.newKind, F.newSplit, F.newRow]
  repeat (first | refine wpAny_loadPart_at hC ?_ | (refine wpAny_isSubtype_exc hC ?_; rw [c1]) | refine wpAny_staticBase_exc hC ?_ | refine wpAny_madeBy_exc hC ?_ | simp only [bne_self_eq_false, Bool.false_eq_true, if_false] | wp_step)
  exact hq
end
section
variable {prog : Program} {w : World} {A : Around} {E : Value → Shared → Prop} {R : Result → Shared → Prop} {h : Heap} {g : Array GenState} {d : Drawn} {t : Nat} {os : OsState}
variable {nm q : Str} {C N : Addr} {bs bm bmB : List Value} {hdct : Bool} {sn : List Str} {sub : List Value} {ab : Bool} {col : Option Bool} {dd : Option Addr} {k0 k1 k2 k3 k5 : Option Value} {B newId initId : String}
theorem newKw (F : ExcBaseFacts B newId initId bmB) (hT : ∀ X : String, bm.contains (.type X) = bmB.contains (.type X)) {us : List Value} {kw : List (Str × Value)}
    (hC : h.get? C = some (excClassObj nm q C N bs bm hdct sn sub ab col dd k0 k1 k2 k3 k5 newId))
    (hq : R (.ok (.ret (.ref (h.objs.size + 1)))) ⟨(h.push { cls := .type "tuple", data := .seq us.toArray }).push
      { cls := .ref C, data := .fields #[.ref h.objs.size, .none, .none, .none, .bool false, .none] }, g, d, t, os⟩) (hrest : us.length ≤ sizeLine) :
    codeAny (model prog w) A (.builtin newId ⟨.ref C :: us, kw⟩) R ⟨h, g, d, t, os⟩ := by
  have c0 := F.ends
  have c1 : (Value.ref C :: bm).contains (.type B) = true := by rw [List.contains_cons, hT, F.hasB, Bool.or_true]
  have c2 : (Value.ref C :: bm).contains (.type "AttributeError") = false := by rw [List.contains_cons, hT, F.noAttr]; rfl
  have c3 : (Value.ref C :: bm).contains (.type "NameError") = false := by rw [List.contains_cons, hT, F.noName]; rfl
  refine codeAny_builtinAt F.entry ?_
  unfold Builtin.«BaseException.__new__»
  refine wpAt_bind ?_
  show wpAt _ _ _ (stack >>= _) _ _ _
  refine wpAt_bind (wpAt_stack fun p below => wpAt_of_wpAny ?_)
  wp_walk
  refine wpAt_of_wpAny ?_
  rw [F.owner]
  repeat (first | with_reducible refine wpAny_madeHere_exc F.canon hC ?_ | with_reducible refine wpAny_loadPart_at hC ?_ | (with_reducible refine wpAny_isSubtype_exc hC ?_; first | rw [c1] | rw [c2] | rw [c3]) | wp_step)
  show R _ _
  rw [Heap.size_push]
  exact hq
theorem tcallKw (F : ExcBaseFacts B newId initId bmB) (hT : ∀ X : String, bm.contains (.type X) = bmB.contains (.type X)) {us : List Value} {kw : List (Str × Value)} {fI : Addr} {Q : Fin → Shared → Prop}
    (hC : h.get? C = some (excClassObj nm q C N bs bm hdct sn sub ab col dd k0 k1 k2 k3 k5 newId))
    (hi : W.Looks (model prog w) h (typeLookup (.ref C) "__init__") (some (.ref fI))) (hb : ∀ self, W.Looks (model prog w) h (bindSpecial (.ref fI) self) (.ref fI, [self])) (hrest : us.length ≤ sizeLine)
    (hq : codeAny (model prog w) A (.call (.ref fI) ⟨.ref (h.objs.size + 1) :: us, kw⟩)
      (fun r s' => match r with | .ok (.ret v) => v = .none ∧ Q (.done (.ret (.ref (h.objs.size + 1)))) s' | .ok _ => False | .error e => E e s')
      ⟨(h.push (W.kdv_tup us)).push (excO C h.objs.size), g, d, t, os⟩) :
    wpAny (model prog w) A (Builtin.«type.__call__» ⟨.ref C :: us, kw⟩) Q E ⟨h, g, d, t, os⟩ := by
  repeat (first | with_reducible refine wpAny_loadPart_at hC ?_ | with_reducible refine wpAny_madeBy_exc hC ?_ | wp_step)
  refine codeAny_call_builtin_code (Code.quiet_builtin _ F.quiet) (chkNew F hT hC ?_)
  refine newKw F hT hC ?_ hrest
  show wpAny _ _ _ _ _ _
  have k : ∀ b o, h.get? b = some o → ((h.push (W.kdv_tup us)).push (excO C h.objs.size)).get? b = some o := fun b o e => Heap.get?_push_of_some _ (Heap.get?_push_of_some _ e)
  have hC' := k _ _ hC
  have hgt : ((h.push (W.kdv_tup us)).push (excO C h.objs.size)).get? (h.objs.size + 1) = some (excO C h.objs.size) := by heap_get
  have c4 : (Value.ref C :: bm).contains (.ref C) = true := by simp
  have i1 := hi.keeps k
  have b1 := (hb (.ref (h.objs.size + 1))).keeps k
  unfold isInstance
  repeat (first | with_reducible refine wpAny_loadPart_at hgt ?_ | (with_reducible refine wpAny_isSubtype_exc hC' ?_; rw [c4]) | wp_step)
  show wpAny _ _ (typeLookup (.ref C) _) _ _ _
  refine i1.at ?_
  refine wpAny_holding (wpAny_bind (b1.at ?_))
  refine wpAny_bind (wpAny_call (codeAny_mono hq fun r s' z => ?_))
  rcases r with e | (v | _ | _ | _) <;> first | exact z | exact z.elim | skip
  obtain ⟨rfl, z⟩ := z
  first
    | exact wpAny_pure (wpAny_pure z)
    | (wp_walk; exact z)
theorem ownKw (F : ExcBaseFacts B newId initId bmB) (hT : ∀ X : String, bm.contains (.type X) = bmB.contains (.type X)) {us : List Value} {kw : List (Str × Value)} {fI : Addr}
    (hC : h.get? C = some (excClassObj nm q C N bs bm hdct sn sub ab col dd k0 k1 k2 k3 k5 newId))
    (hi : W.Looks (model prog w) h (typeLookup (.ref C) "__init__") (some (.ref fI))) (hb : ∀ self, W.Looks (model prog w) h (bindSpecial (.ref fI) self) (.ref fI, [self])) (hrest : us.length ≤ sizeLine)
    (hq : codeAny (model prog w) (A.under (.builtin "type.__call__" ⟨.ref C :: us, kw⟩)) (.call (.ref fI) ⟨.ref (h.objs.size + 1) :: us, kw⟩) (W.InitBack (h.objs.size + 1) R)
      ⟨(h.push (W.kdv_tup us)).push (excO C h.objs.size), g, d, t, os⟩) :
    codeAny (model prog w) A (.call (.ref C) ⟨us, kw⟩) R ⟨h, g, d, t, os⟩ := by
  have f1 := tc_lookup
  have f2 := tc_bind (.ref C)
  have f3 : (⟨h, g, d, t, os⟩ : Shared).TypeIs (.ref C) "type" := ⟨_, hC, rfl⟩
  refine codeAny_of_tree ?_
  show wpAny _ _ (callAny (.ref C) _) _ _ _
  repeat (any_goals (first | assumption | with_reducible refine wpAny_loadPart_at hC ?_ | wp_step))
  refine ⟨rfl, ?_⟩
  refine codeAny_call_builtin_at (Code.quiet_builtin _ (by decide +kernel)) entry_typeCall (wpAny_check_type_call_sub hC (tcallKw F hT hC hi hb hrest ?_))
  refine codeAny_mono hq fun r s' z => ?_
  rcases r with e | (v | _ | _ | _) <;> exact z
end
end KwX
end PySem
namespace PySem.W
open PySem PySem.Spec PySem.Calls PyProof.Rows
section
variable {prog : Program} {w : World} {A : Around} {E : Value → Shared → Prop} {s : Shared} {K : Frag} {x D : Addr} {ox : Obj} {od : Option Obj}
theorem clsE54 {Q : Option Value → Shared → Prop} (h1 : findIn K (.ref D) "__getattribute__" = some (some (.builtin "BaseException.__getattribute__"))) (h2 : findIn K (.ref D) "__getattr__" = some none)
    (h3 : subIn K (.ref D) (.type "BaseException") = some true)
    (hf : findObj K D od "__class__" = some (.bind (.builtin "getset_descriptor.__get__") (.builtin "object.__class__"))) (h4 : mroIn K D (.type "object") = some true)
    (X : K.In s.heap) (I : InstAt s.heap x ox D od) (h : Q (some (.ref D)) { s with toks := s.toks + 1 }) : wpAny (model prog w) A (getAttr? (.ref x) "__class__") Q E s := by
  obtain ⟨hp, g, d, t, os⟩ := s
  have g0 := I.type (M := model prog w)
  have g1 := looks_findIn (M := model prog w) X h1
  have g2 := looks_findIn (M := model prog w) X h2
  have g3 := looks_find (M := model prog w) X I hf
  have sub : Looks (model prog w) hp (isInstance (.ref x) (.type "BaseException")) true := g0.andThen (looks_subIn X h3)
  have e0 : (false && onTheHeap (Value.builtin "BaseException.__getattribute__")) = false := rfl
  have e2 : (Value.builtin "BaseException.__getattribute__" == Value.builtin "object.__getattribute__") = false := by decide +kernel
  have e1 : (onTheHeap (Value.ref D) && Value.builtin "BaseException.__getattribute__" == Value.builtin "object.__getattribute__") = false := by rw [e2]; rfl
  unfold getAttr? getAttrBy? getAttrBy
  refine wpAny_bind (wpAny_mkText (wpAny_bind (wpAny_attempt (wpAny_holding (wpAny_bind (g0.at (wpAny_bind (g1.at ?_))))))))
  show wpAny _ _ (if (onTheHeap (Value.ref D) && Value.builtin "BaseException.__getattribute__" == Value.builtin "object.__getattribute__") = true then _ else _) _ _ _
  rw [e1, if_neg Bool.false_ne_true]
  unfold getAttrByItsOwn hookBefore
  refine wpAny_bind ?_
  rw [if_pos (show onTheHeap (Value.ref D) = true from rfl)]
  refine g2.at ?_
  refine wpAny_bind (wpAny_attempt (wpAny_holding ?_))
  unfold callGetattribute
  rw [e0, if_neg Bool.false_ne_true]
  unfold boundAndCalled
  rw [PySem.F.excAttr_ValueError.ga.bind (.ref x)]
  refine wpAny_bind (wpAny_pure ?_)
  show wpAny _ _ (call (.builtin "BaseException.__getattribute__") [.ref x, .str "__class__" t]) _ _ _
  refine wpAny_call (codeAny_call_builtin PySem.F.excAttr_ValueError.ga.plain PySem.F.entry_bexc_ga ?_)
  refine @check_slot (model prog w) _ _ ⟨hp, g, d, t + 1, os⟩ "BaseException.__getattribute__" "BaseException" "__getattribute__" (.ref x) [.str "__class__" t] [] _ (by decide +kernel) (by decide +kernel) sub (PySem.F.args_bexc_ga (.ref x) (.str "__class__" t)) ?_
  unfold Builtin.«object.__getattribute__»
  refine wpAny_bind (wpAny_of_eq (a := ((Value.ref x : Value), [Value.str "__class__" t])) (by first | rfl | (simp only [slotArgs]; rfl)) ?_)
  refine wpAny_bind (wpAny_pure (wpAny_bind (g0.at (wpAny_bind (g3.at ?_)))))
  show wpAny _ _ (holding [Value.builtin "object.__class__"] (call (.builtin "getset_descriptor.__get__") [.builtin "object.__class__", .ref x, .ref D]) >>= ret) _ _ _
  refine wpAny_bind (wpAny_holding (wpAny_call (class_get (s := ⟨hp, g, d, t + 1, os⟩) (ox := ox) (od := od) X I h4 ?_)))
  refine wpAny_pure ?_
  show wpAny _ _ (handedOut (.ref D)) _ _ _
  rw [handedOut_of (v := .ref D) rfl]
  first
    | exact wpAny_pure (wpAny_pure h)
    | exact wpAny_pure h
    | exact wpAny_pure (wpAny_bind (wpAny_pure (wpAny_pure h)))
end
end PySem.W
namespace L54
open PySem PySem.Spec PyProof.Rows L2
theorem kitx54 {K : PySem.W.Frag} {D x : Addr} {ox : Obj} {od : Option Obj} (c : ExcC K D) : PySem.W.KitX K (.ref x) (.ref D) (fun h => PySem.W.InstAt h x ox D od) where
  ty := fun _ _ _ I => I.type
  it := fun _ _ X _ => by
    obtain ⟨cdD, hcD, _⟩ := PySem.W.any_some c.hd
    unfold PySem.W.clsIn at hcD
    split at hcD
    · rename_i c' d' cd' sl' ho
      intro A' Q' E' s' k q
      unfold isType loadHead
      exact wpAny_bind (wpAny_loadPart (k _ _ (X _ _ ho)) (wpAny_pure q))
    · cases hcD
  ne := fun h tp dd its n sl X htp => by
    obtain ⟨cdD, hcD, _⟩ := PySem.W.any_some c.hd
    refine Bool.eq_false_iff.mpr fun q => ?_
    have e : D = tp := Value.ref.inj (beq_iff_eq.mp q)
    subst e
    unfold PySem.W.clsIn at hcD
    split at hcD
    · rename_i c' d' cd' sl' ho
      have z := (X _ _ ho).symm.trans htp
      cases z
    · cases hcD
  ca := fun X I k => by
    have hc : (PySem.W.clsIn K D).isSome = true := by
      obtain ⟨cd, hc, _⟩ := PySem.W.any_some c.hd
      rw [hc]
      rfl
    refine PySem.W.clsE54 c.hg c.hk c.hs ?_ c.hm X I k
    cases od with
    | none => exact PySem.W.findObj_dataN hc c.ha c.hn c.ht
    | some o => exact PySem.W.findObj_data hc c.ha c.hn c.ht
/-- what is said of a value's class where it is asked by isinstance: a plain thing, or an exception of ours -/
inductive TyE (K : PySem.W.Frag) (H : Hp) : V → Value → Prop where
  | of {x : V} {t : Value} (h : TyX K H x t) : TyE K H x t
  | ex {a C : Addr} {d : Option Addr} (c : ExcC K C) (e : H a = some (exo a C d)) (ed : ∀ dx, d = some dx → ∃ fs, H dx = some (exd dx fs)) : TyE K H (.ref a) (.ref C)
section
variable {X : Cx} {pins : List (Addr × Obj)} {σ : L2.St} {H : Hp} {s : Shared}
theorem inst54 (I : Inv X pins σ H s) {a C : Addr} {d : Option Addr} (e : H a = some (exo a C d)) (ed : ∀ dx, d = some dx → ∃ fs, H dx = some (exd dx fs)) :
    ∃ (ox : Obj) (od : Option Obj), PySem.W.InstAt s.heap a ox C od := by
  obtain ⟨t1, ho⟩ := exo_at I.hok e
  cases d with
  | none => exact ⟨_, none, ho, rfl, rfl, trivial⟩
  | some dx =>
    obtain ⟨fs, q⟩ := ed dx rfl
    obtain ⟨mA, ⟨o, es, ep, hod, _⟩, _⟩ := exd_at I.hok q
    exact ⟨_, some o, ho, rfl, rfl, hod⟩
theorem kitE {x : V} {u t : Value} (I : Inv X pins σ H s) (rx : RelV x u) (ty : TyE X.K H x t) : ∃ P : Heap → Prop, PySem.W.KitX X.K u t P ∧ P s.heap ∧ u ≠ .builtin "__main__.__loader__#opaque" := by
  cases ty with
  | of h => exact kit_of I rx h
  | ex c e ed =>
    cases rx
    obtain ⟨ox, od, J⟩ := inst54 I e ed
    exact ⟨_, kitx54 c, J, fun z => nomatch z⟩
def rIsE1 (K : PySem.W.Frag) : List V → Hp → VK → Prop := fun xs H Q => ∃ (x c : V) (t u : Value) (b : Bool), xs = [x, c] ∧ ClsV c u ∧ TyE K H x t ∧ PySem.W.kitOne K t u = some b ∧ Q (.bl b) H
def rIsET (K : PySem.W.Frag) : List V → Hp → VK → Prop := fun xs H Q => ∃ (x : V) (tp : Addr) (cs : List V) (t : Value) (us : List Value) (b : Bool), xs = [x, .ref tp] ∧ H tp = some (.tup cs) ∧ Paired ClsV cs us ∧ TyE K H x t ∧ PySem.W.kitAny K t us = some b ∧ Q (.bl b) H
theorem call_isE1 : CallR X (.builtin "isinstance") (rIsE1 X.K) := by
  intro pins s σ H xs us Q I r h
  obtain ⟨x, c, t, u, b, rfl, k, ty, e, q⟩ := h
  obtain ⟨u1, u2, rfl, r1, r2⟩ := vals2 r
  have e2 := k.eq r2
  subst e2
  obtain ⟨P, Z, p, hx⟩ := kitE I r1 ty
  exact PySem.W.kia_one Z I.kIn p e hx fun tk => ⟨.bl b, H, I.tok tk, rfl, q⟩
theorem call_isET : CallR X (.builtin "isinstance") (rIsET X.K) := by
  intro pins s σ H xs us Q I r h
  obtain ⟨x, tp, cs, t, ws, b, rfl, hT, k, ty, e, q⟩ := h
  obtain ⟨u1, u2, rfl, r1, r2⟩ := vals2 r
  cases (show u2 = Value.ref tp from r2)
  obtain ⟨P, Z, p, hx⟩ := kitE I r1 ty
  obtain ⟨_, its, rv, o, h1, h2, n, h3⟩ := (show ObjOk X.prog X.w H s.heap tp (.tup cs) from I.hok tp _ hT)
  have e3 := ClsV.all k rv
  subst e3
  obtain ⟨oc, od, dt, sl⟩ := o
  simp only at h2 h3
  subst h2 h3
  exact PySem.W.kia_tup Z I.kIn p h1 e hx fun tk => ⟨.bl b, H, I.tok tk, rfl, q⟩
end
/-! ### exceptions made as values -/
/-- an own class of errors without an `__init__`: the name stands in the module, the class is plain -/
structure ExN (K : PySem.W.Frag) (mg : Str → Option Value) (x : Str) (C : Addr) (bmB : List Value) : Prop where
  q : PySem.W.excIn K C bmB "ValueError.__new__" = true
  g : mg x = some (.ref C)
  k : PySem.W.keepIn K (.ref C) = true
section
variable {X : Cx} {B initId : String} {bmB : List Value} {C : Addr} {x : Str} {p pos : Pos}
theorem mkd {us : List Value} {pins : List (Addr × Obj)} {σ : L2.St} {H : Hp} {s : Shared} {Q : VK} (F : ExcBaseFacts B "ValueError.__new__" initId bmB) (n : ExN X.K X.mg x C bmB) (I : Inv X pins σ H s) (hz : us.length ≤ sizeLine)
    (q : ∀ a, H a = none → Q (.ref a) (upd H a (exo a C none))) : wpAny (model X.prog X.w) X.A (call (.ref C) us) (EP X pins σ Q) X.xe s := by
  obtain ⟨bm, N, nm, qn, bs, hdct, sn, sub, ab, col, dd, k0, k1, k2, k3, k5, mN, hC, hN, hni, T⟩ := exc_obj I.kIn n.q
  refine wpAny_call_exc_subT F T hC hN hni (fun h' a hm => ?_) hz
  have hn : H a = none := I.hok.gone hm.new
  obtain ⟨t, ht, _, _⟩ := hm.there
  exact ⟨.ref a, upd H a (exo a C none), I.laidN hm.keeps hm.new hn (exo_ok ht), rfl, q a hn⟩
theorem pe_ex0 (F : ExcBaseFacts B "ValueError.__new__" initId bmB) (n : ExN X.K X.mg x C bmB) (hg : Gl X x := by rfl) (hdb : (x == ("__debug__" : Str)) = false := by decide) :
    PE X (.Call (.Name x p) [] [] pos) (fun _ H Q => ∀ a, H a = none → Q (.ref a) (upd H a (exo a C none))) := by
  refine ⟨fun pins s σ H Q I h => ?_⟩
  refine wpAny_Call_Name_kw (ld_glob I hg n.g ?_ hdb)
  exact PySem.W.callWith_K0 I.kIn n.k (mkd (us := []) F n I (Nat.zero_le _) h)
theorem pe_ex1 {e : Expr} {ta : TE} (F : ExcBaseFacts B "ValueError.__new__" initId bmB) (n : ExN X.K X.mg x C bmB) (he : PE X e ta) (hg : Gl X x := by rfl) (hs : starEach [e] X.env = (false, eval e X.env) :: starEach [] X.env := by rfl) (hdb : (x == ("__debug__" : Str)) = false := by decide) :
    PE X (.Call (.Name x p) [e] [] pos) (fun σ H Q => ta σ H fun _ H1 => ∀ a, H1 a = none → Q (.ref a) (upd H1 a (exo a C none))) := by
  refine ⟨fun pins s σ H Q I h => ?_⟩
  refine wpAny_Call_Name_kw (ld_glob I hg n.g ?_ hdb)
  refine PySem.W.callWith_K (h₀ := X.base) I.ok.mod.kin n.k ?_ hs (by rfl)
  rw [hs]
  show wpAny _ _ (spliced ((false, eval e X.env) :: backTo pos (starEach [] X.env))) _ _ s
  refine Calls.spliced_cons (thn (he.run pins s σ H _ I h) fun u s1 ⟨v, H1, I1, r1, q1⟩ => ?_)
  exact Calls.spliced_nil ⟨I1.kIn, mkd (us := [u]) F n I1 (by show 1 ≤ sizeLine; rw [sizeLine_eq]; omega) q1⟩
end
/-- an own class of errors with `def __init__(self, name=None): self.name = name` -/
structure ExF (K : PySem.W.Frag) (mg : Str → Option Value) (x : Str) (C fI : Addr) : Prop where
  o : OexC K C
  g : mg x = some (.ref C)
  i : PySem.W.findIn K (.ref C) "__init__" = some (some (.ref fI))
  t : PySem.W.typeIn K (.ref fI) = some (.type "function")
  n : PySem.W.findIn K (.ref C) "name" = some none
  f : XfC K C
def spI (K : PySem.W.Frag) (C : Addr) : Sp := fun vs H Q _ => ∃ (a : Addr) (v : V), vs = [.ref a, v] ∧ H a = some (exo a C none) ∧ ∀ dx, H dx = none → dx ≠ a → Q .non (upd (upd H dx (exd dx [(("name" : Str), v)])) a (exo a C (some dx)))
section
variable {X : Cx} {C fI : Addr} {x : Str} {p pos : Pos} {fd : FuncData} {k : Nat}
theorem runI {us : List Value} {kw : List (Str × Value)} {v : V} {u : Value} {pins : List (Addr × Obj)} {σ : L2.St} {H : Hp} {s : Shared} {Q : VK} (n : ExF X.K X.mg x C fI)
    (G : FnOk X.prog X.w X.K X.mg X.base CX0 k fI fd ["self", "name"] (spI X.K C)) (hr : Room (k + 1) X.A) (I : Inv X pins σ H s) (ru : RelV v u) (hz : us.length ≤ sizeLine)
    (hb : ∀ (s' : Shared) (y : Value), X.K.In s'.heap → BindsTo s' fd ⟨y :: us, kw⟩ ((["self", "name"] : List Str).zip [y, u]))
    (q : ∀ a dx, H a = none → H dx = none → dx ≠ a → Q (.ref a) (upd (upd (upd H a (exo a C none)) dx (exd dx [(("name" : Str), v)])) a (exo a C (some dx)))) :
    wpAny (model X.prog X.w) X.A (call (.ref C) us kw) (EP X pins σ Q) X.xe s := by
  obtain ⟨nm, qn, N, bs, bm, sn, sub, ab, col, dd, k0, k1, k2, k3, k5, hC, hbm⟩ := n.o.cls
  obtain ⟨hp, g, dr, tk, os⟩ := s
  have z1 : hp.objs.size ≤ hp.objs.size + 1 := Nat.le_succ _
  have hn : H (hp.objs.size + 1) = none := I.hok.fresh z1
  have kk : ∀ b o, hp.get? b = some o → ((hp.push (PySem.W.kdv_tup us)).push (PySem.HandSPX.excO C hp.objs.size)).get? b = some o := fun b o e => Heap.get?_push_of_some _ (Heap.get?_push_of_some _ e)
  have hgt : ((hp.push (PySem.W.kdv_tup us)).push (PySem.HandSPX.excO C hp.objs.size)).get? (hp.objs.size + 1) = some (PySem.HandSPX.excO C hp.objs.size) := by heap_get
  have I2 : Inv X pins σ (upd H (hp.objs.size + 1) (exo (hp.objs.size + 1) C none)) ⟨(hp.push (PySem.W.kdv_tup us)).push (PySem.HandSPX.excO C hp.objs.size), g, dr, tk, os⟩ :=
    I.laid (t' := tk) (a := hp.objs.size + 1) (o := exo (hp.objs.size + 1) C none) (h' := (hp.push (PySem.W.kdv_tup us)).push (PySem.HandSPX.excO C hp.objs.size)) kk z1 (exo_ok hgt)
  have r2 : Vals [V.ref (hp.objs.size + 1), v] [Value.ref (hp.objs.size + 1), u] := .cons rfl (.cons ru .nil)
  have hq : spI X.K C [V.ref (hp.objs.size + 1), v] (upd H (hp.objs.size + 1) (exo (hp.objs.size + 1) C none)) (fun y H2 => y = .non ∧ Q (.ref (hp.objs.size + 1)) H2) (fun _ _ _ => False) :=
    ⟨_, v, rfl, upd_same, fun dx h1 h2 => ⟨rfl, q _ dx hn (by rw [upd_ne h2] at h1; exact h1) h2⟩⟩
  refine wpAny_call (PySem.KwX.ownKw F.excBase_ValueError (fun Y => PySem.HandSPX.refsVE_contains Y bm hbm) (I.kIn _ _ hC) (PySem.W.looks_findIn I.kIn n.i) (fun self => PySem.W.bind_fn I.kIn self n.t) hz
    (codeAny_mono (G.run _ X.stack _ _ ⟨Value.ref (hp.objs.size + 1) :: us, kw⟩ [Value.ref (hp.objs.size + 1), u] _ _ (fun _ _ _ => False) (hr.make C us kw) (I2.env0.make C us kw) (hb _ _ I2.kIn) r2 hq) fun r s' hq' => ?_))
  cases r with
  | error er => exact (hq' : False).elim
  | ok fl =>
    cases fl with
    | ret y =>
      obtain ⟨v', H2, I3, rv, ev, q2⟩ := I2.after hq'
      subst ev
      exact ⟨rv, V.ref (hp.objs.size + 1), H2, I3, rfl, q2⟩
    | next => exact False.elim hq'
    | brk => exact False.elim hq'
    | cont => exact False.elim hq'
/-- what a made one leaves -/
def made (C : Addr) (v : V) (H : Hp) (Q : VK) : Prop := ∀ a dx, H a = none → H dx = none → dx ≠ a → Q (.ref a) (upd (upd (upd H a (exo a C none)) dx (exd dx [(("name" : Str), v)])) a (exo a C (some dx)))
/-- how calls of the class bind -/
structure BindI (K : PySem.W.Frag) (fd : FuncData) : Prop where
  b0 : ∀ (s' : Shared) (y : Value), K.In s'.heap → BindsTo s' fd ⟨[y], []⟩ ((["self", "name"] : List Str).zip [y, Value.none])
  b1 : ∀ (s' : Shared) (y u : Value), K.In s'.heap → BindsTo s' fd ⟨[y, u], []⟩ ((["self", "name"] : List Str).zip [y, u])
  bk : ∀ (s' : Shared) (y u : Value), K.In s'.heap → BindsTo s' fd ⟨[y], [(("name" : Str), u)]⟩ ((["self", "name"] : List Str).zip [y, u])
theorem pe_mf0 (n : ExF X.K X.mg x C fI) (b : BindI X.K fd) (G : FnOk X.prog X.w X.K X.mg X.base CX0 k fI fd ["self", "name"] (spI X.K C)) (hr : Room (k + 1) X.A) (hg : Gl X x := by rfl) (hdb : (x == ("__debug__" : Str)) = false := by decide) :
    PE X (.Call (.Name x p) [] [] pos) (fun _ H Q => made C .non H Q) := by
  refine ⟨fun pins s σ H Q I h => ?_⟩
  refine wpAny_Call_Name_kw (ld_glob I hg n.g ?_ hdb)
  exact PySem.W.callWith_K0 I.kIn n.o.kC (runI (us := []) (v := .non) n G hr I rfl (Nat.zero_le _) b.b0 h)
theorem pe_mf1 {e : Expr} {ta : TE} (n : ExF X.K X.mg x C fI) (b : BindI X.K fd) (G : FnOk X.prog X.w X.K X.mg X.base CX0 k fI fd ["self", "name"] (spI X.K C)) (hr : Room (k + 1) X.A) (he : PE X e ta) (hg : Gl X x := by rfl)
    (hs : starEach [e] X.env = (false, eval e X.env) :: starEach [] X.env := by rfl) (hdb : (x == ("__debug__" : Str)) = false := by decide) :
    PE X (.Call (.Name x p) [e] [] pos) (fun σ H Q => ta σ H fun v H1 => made C v H1 Q) := by
  refine ⟨fun pins s σ H Q I h => ?_⟩
  refine wpAny_Call_Name_kw (ld_glob I hg n.g ?_ hdb)
  refine PySem.W.callWith_K (h₀ := X.base) I.ok.mod.kin n.o.kC ?_ hs (by rfl)
  rw [hs]
  show wpAny _ _ (spliced ((false, eval e X.env) :: backTo pos (starEach [] X.env))) _ _ s
  refine Calls.spliced_cons (thn (he.run pins s σ H _ I h) fun u s1 ⟨v, H1, I1, r1, q1⟩ => ?_)
  exact Calls.spliced_nil ⟨I1.kIn, runI (us := [u]) n G hr I1 r1 (by show 1 ≤ sizeLine; rw [sizeLine_eq]; omega) (fun s' y => b.b1 s' y u) q1⟩
end
end L54
namespace L54
open PySem PySem.Spec PyProof.Rows L2
section
variable {X : Cx} {C fI : Addr} {x : Str} {p pos : Pos} {fd : FuncData} {k : Nat}
theorem zip1 (a : Str) (u : Value) : ([a] : List Str).zip [u] = [(a, u)] := rfl
theorem pe_mfk {e : Expr} {ta : TE} {kp : Pos} (n : ExF X.K X.mg x C fI) (b : BindI X.K fd) (G : FnOk X.prog X.w X.K X.mg X.base CX0 k fI fd ["self", "name"] (spI X.K C)) (hr : Room (k + 1) X.A) (he : PE X e ta) (hg : Gl X x := by rfl)
    (hall : (backToKw pos (keywordEach [⟨some "name", e, kp⟩] X.env)).all (·.1.isSome) = true := by rfl) (hks : (backToKw pos (keywordEach [⟨some "name", e, kp⟩] X.env)).filterMap (·.1) = [("name" : Str)] := by rfl)
    (hpl : ((backTo pos (starEach [] X.env)).any (·.1) || (backToKw pos (keywordEach [⟨some "name", e, kp⟩] X.env)).any (·.1.isNone)) = false := by rfl) (hdb : (x == ("__debug__" : Str)) = false := by decide) :
    PE X (.Call (.Name x p) [] [⟨some "name", e, kp⟩] pos) (fun σ H Q => ta σ H fun v H1 => made C v H1 Q) := by
  refine ⟨fun pins s σ H Q I h => ?_⟩
  refine wpAny_Call_Name_kw (ld_glob I hg n.g ?_ hdb)
  refine PySem.W.callWith_KW0 (h₀ := X.base) I.ok.mod.kin n.o.kC hall ?_ hpl
  have hkw : PK X [⟨some "name", e, kp⟩] (tCons ta tNil) := pk_cons he pk_nil
  have h' : tCons ta tNil σ H (fun zs H1 => match zs with | [v] => made C v H1 Q | _ => False) := h
  have hh := hkw.run pos pins s σ H _ I h'
  rw [hks]
  refine thn hh fun ws s2 hq => ?_
  obtain ⟨zs, H2, I2, rz, q2⟩ := hq
  refine ⟨I2.kIn, ?_⟩
  cases rz with
  | nil => exact q2.elim
  | cons r1 r2 =>
    cases r2 with
    | cons r3 r4 => exact q2.elim
    | nil =>
      rw [zip1]
      rw [List.append_nil]
      exact runI (us := []) n G hr I2 r1 (Nat.zero_le _) (fun s' y => b.bk s' y _) q2
end
end L54
namespace L54
open PySem PySem.Spec PyProof.Rows L2
section
variable {X : Cx} {C fI : Addr} {x : Str} {p pos : Pos} {fd : FuncData} {k : Nat}
/-- e.name of an error of ours -/
def tNm (K : PySem.W.Frag) (te : TE) : TE := fun σ H Q => te σ H fun x H1 => ∃ (a C dx : Addr) (fs : List (Str × V)) (v : V), x = .ref a ∧ H1 a = some (exo a C (some dx)) ∧ H1 dx = some (exd dx fs) ∧ XfC K C ∧
  PySem.W.findIn K (.ref C) "name" = some none ∧ fs.lookup ("name" : Str) = some v ∧ Q v H1
theorem pe_nm {e : Expr} {te : TE} (he : PE X e te) (hb : attributeBase e "name" X.env (eval e X.env) = eval e X.env := by rfl) : PE X (.Attribute e "name" pos) (tNm X.K te) := by
  refine ⟨fun pins s σ H Q I h => ?_⟩
  refine attr_of hb (thn (he.run pins s σ H _ I h) fun u s1 hh => ?_)
  obtain ⟨x, H1, I1, rx, a, C, dx, fs, v, rfl, ea, ed, T, hno, l, q⟩ := hh
  cases rx
  obtain ⟨t1, ho⟩ := exo_at I1.hok ea
  obtain ⟨mA, hns, hr⟩ := exd_at I1.hok ed
  obtain ⟨od, hod, hl⟩ := lookIn_ns hns
  obtain ⟨u, hu, ru⟩ := RelO.some_of (v := v) (o := mA ("name" : Str)) (by rw [← l]; exact hr ("name" : Str))
  have J : PySem.W.InstAt s1.heap a _ C (some od) := ⟨ho, rfl, rfl, hod⟩
  exact HandSPX.exc_get I1.kIn J T.ga T.gg T.exC (PySem.W.findObj_own T.hdC hno rfl (by rw [hl, hu])) (handed_of ru) ⟨v, H1, I1.tok _, ru, q⟩
/-! ### data: what str() and != of it say -/
inductive Dt (K : PySem.W.Frag) (H : Hp) : V → PyData → Prop
  | of {v : V} {d : PyData} (h : Dp K H v d) (hd : d.hasDict = false) (hs : SeqAt.shaped d = true) : Dt K H v d
  | d0 {a : Addr} (h : H a = some (.dK [])) : Dt K H (.ref a) (.dict [])
  | d1 {a t : Addr} {x : Str} {n : Int} (h : H a = some (.dK [(Sum.inr x, .ref t)])) (ht : H t = some (.tup [.int n])) : Dt K H (.ref a) (.dict [(.str x, .tuple [.int n])])
def small (d : PyData) : Prop := d.showable = true ∧ d.depth ≤ 40 ∧ d.leavesShort 2000 = true ∧ d.weight ≤ 2000
theorem small_fits {d : PyData} (h : small d) : d.shown.length ≤ sizeLine := by
  have h1 := PyData.shown_le 2000 (by decide) d h.2.2.1
  have h2 := h.2.2.2
  rw [sizeLine_eq]
  have h3 : (2000 + 2) * d.weight ≤ (2000 + 2) * 2000 := Nat.mul_le_mul_left _ h2
  omega
section
variable {pins : List (Addr × Obj)} {σ : L2.St} {H : Hp} {s : Shared}
theorem dt_reads (I : Inv X pins σ H s) {v : V} {u : Value} {d : PyData} (h : Dt X.K H v d) (r : RelV v u) : ∃ as, Reads s.heap u d as ∧ (d.hasDict = true → sysModules ∉ as) := by
  cases h with
  | of h hd hs =>
    obtain ⟨as, q⟩ := Dp.reads I d v u h r
    exact ⟨as, q, fun z => by rw [hd] at z; cases z⟩
  | @d0 a h =>
    cases r
    obtain ⟨_, ya, va, ra, o, es, ep, ho, hx, hd, _, hp, _⟩ := (show ObjOk X.prog X.w H s.heap a (.dK []) from I.hok a _ h)
    cases ra
    generalize hes : es.toList = l at hp
    cases hp
    refine ⟨_, Reads.dict ho hx.1 hd (kvs := []) (by rw [hes]; exact .nil) (by rw [hes]; exact .nil), fun _ hm => ?_⟩
    rcases List.mem_append.mp hm with hm | hm
    · rcases List.mem_cons.mp hm with hm | hm
      · rw [hm] at ya; simp at ya
      · cases hm
    · cases hm
  | @d1 a t x n h ht =>
    cases r
    obtain ⟨_, ya, va, ra, o, es, ep, ho, hx, hd, _, hp, _⟩ := (show ObjOk X.prog X.w H s.heap a (.dK [(Sum.inr x, .ref t)]) from I.hok a _ h)
    cases ra with
    | @cons pa q ps qs hh tl =>
      cases tl
      obtain ⟨key, val⟩ := q
      obtain ⟨e1, e2⟩ := hh
      simp only at e1 e2
      subst e1
      cases e2
      obtain ⟨_, its, rv, ot, t1, t2, n3, t4⟩ := (show ObjOk X.prog X.w H s.heap t (.tup [.int n]) from I.hok t _ ht)
      cases rv with
      | @cons _ u0 _ ur r0 rr =>
        cases rr
        obtain ⟨tk, rfl⟩ := r0
        generalize hes : es.toList = l at hp
        cases hp with
        | cons k1 k2 k3 =>
          rename_i ent ents
          cases k3
          have k1' : keyIs (Sum.inr x) ent.key = true := k1
          obtain ⟨t9, e9⟩ : ∃ t, ent.key = Value.str x t := by
            rcases keyIs_shape k1' with ⟨i, t, e, _⟩ | ⟨y, t, e, e'⟩
            · cases e
            · cases e
              exact ⟨t, e'⟩
          have k2' : ent.val = Value.ref t := k2
          refine ⟨_, Reads.dict ho hx.1 hd (kvs := [(.str x, .tuple [.int n])]) (as := [] ++ []) (bs := [] ++ []) ?_ ?_, fun _ hm => ?_⟩
          · rw [hes]
            show ReadsAll s.heap [ent.key] [PyData.str x] _
            rw [e9]
            exact .cons (Reads.str x t9) .nil
          · rw [hes]
            show ReadsAll s.heap [ent.val] [PyData.tuple [.int n]] _
            rw [k2']
            exact .cons (Reads.tuple (as := [] ++ []) t1 t2 t4 (.cons (Reads.int n tk) .nil)) .nil
          · rcases List.mem_append.mp hm with hm | hm
            · rcases List.mem_cons.mp hm with hm | hm
              · rw [hm] at ya; simp at ya
              · cases hm
            · cases hm
end
def strOfD : PyData → Str
  | .str x => x
  | d => d.shown
theorem natLog0 : (0 : Int).natAbs.log2 < 1920 := by decide
def rStrD (K : PySem.W.Frag) : List V → Hp → VK → Prop := fun xs H Q => ∃ (v : V) (d : PyData), xs = [v] ∧ Dt K H v d ∧ small d ∧ Q (.str (strOfD d)) H
theorem call_strD (hg : X.A.guards = some []) (hu : X.A.units + 100 < cLine) : CallR X (.type "str") (rStrD X.K) := by
  intro pins s σ H xs us Q I r h
  obtain ⟨v, d, rfl, hD, hs, q⟩ := h
  cases r with
  | @cons _ u _ ur r0 rr =>
    cases rr
    have key : ∀ a, v = .ref a → strOfD d = d.shown → wpAny (model X.prog X.w) X.A (call (.type "str") [u]) (EP X pins σ Q) X.xe s := by
      intro a e e2
      subst e
      cases r0
      obtain ⟨as, hr, hm⟩ := dt_reads I hD rfl
      rw [e2] at q
      refine str_of_reads hr hs.1 hm hg (by have := hs.2.1; omega) (fun _ _ z => z) (fun h' u tk k => ?_) (small_fits hs)
      exact ⟨.str d.shown, H, I.kept k, ⟨u, rfl⟩, q⟩
    cases hD with
    | of hp hd hsh =>
      cases hp with
      | non => cases r0; exact PySem.P.str_of_none ⟨.str _, H, I.tok _, ⟨_, rfl⟩, q⟩
      | bl b => cases r0; exact PySem.P.str_of_bool ⟨.str _, H, I.tok _, ⟨_, rfl⟩, q⟩
      | int i =>
        obtain ⟨t, rfl⟩ := r0
        exact PySem.P.str_of_int (of_decide_eq_true hs.1) ⟨.str _, H, I.tok _, ⟨_, rfl⟩, q⟩
      | str x =>
        obtain ⟨t, rfl⟩ := r0
        exact PySem.P.str_of_str ⟨.str x, H, I, ⟨t, rfl⟩, q⟩
      | lst _ _ => exact key _ rfl rfl
      | tup _ _ => exact key _ rfl rfl
    | d0 _ => exact key _ rfl rfl
    | d1 _ _ => exact key _ rfl rfl
/-- v != v -/
def rNeS (K : PySem.W.Frag) : R2 := fun x y H Q => y = x ∧ (∃ d, Dt K H x d) ∧ Q (.bl false) H
theorem op_neS (hu : X.A.units + 100 < cLine) : OpR X (compareOp .NotEq) (rNeS X.K) := by
  intro pins s σ H x y v u Q I rx ry h
  obtain ⟨rfl, ⟨d, hD⟩, q⟩ := h
  have dct : ∀ (a : Addr) (ks : List (Key × V)), y = .ref a → H a = some (.dK ks) → (∀ va : List (Key × Value), KV ks va → PySem.W.KeqHits X.A.in1 s va va true) →
      wpAny (model X.prog X.w) X.A (compareOp .NotEq v u) (EP X pins σ Q) X.xe s := by
    intro a ks e ha hks
    subst e
    cases rx
    cases ry
    obtain ⟨_, ya, va, ra, da⟩ := (show ObjOk X.prog X.w H s.heap a (.dK ks) from I.hok a _ ha)
    exact PySem.W.keq_ne (knd := mixKind X.prog X.w) (r := true) ya ya da da (by omega) (fun _ => hks va ra) (fin_bl I q (by simp))
  cases hD with
  | of hp hd hsh =>
    obtain ⟨as, h1⟩ := Dp.reads I d y v hp rx
    obtain ⟨bs, h2⟩ := Dp.reads I d y u hp ry
    refine SeqAt.compareNe_shaped h1 h2 hsh hsh (by omega) ?_
    rw [SeqAt.eqv_refl d (SeqAt.canLay_of_shaped hsh)]
    exact ⟨.bl _, H, I, rfl, q⟩
  | d0 h =>
    refine dct _ _ rfl h fun va r => ?_
    cases r
    exact .nil
  | d1 h ht =>
    refine dct _ _ rfl h fun va r => ?_
    cases r with
    | @cons pa q ps qs hh tl =>
      cases tl
      obtain ⟨key, val⟩ := q
      exact PySem.W.KeqHits.hit (e := true) (b := true) (by simp [valueAt]) (SeqAt.EqAt.same _) .nil
end
end L54
namespace L54
open PySem PySem.Spec PyProof.Rows L2
/-! ### defs that are called where no repr is under way -/
structure FnG (P : Program) (w : World) (K : PySem.W.Frag) (mg : Str → Option Value) (base : Heap) (k : Nat) (f : Addr) (fd : FuncData) (ps : List Str) (sp : Sp) : Prop where
  len : ∀ vs H Q E, sp vs H Q E → vs.length = ps.length
  run : ∀ (A : Around) (outer : List Env) (s : Shared) (H : Hp) (args : Args) (us : List Value) (vs : List V) (Q : VK) (E : XK), A.guards = some [] → Room k A → Env0 P w K mg base A outer s H → BindsTo s fd args (ps.zip us) → Vals vs us → sp vs H Q E →
    codeAny (model P w) A (.call (.ref f) args) (CR CX0 outer P w H s Q E) s
theorem FnG.of {P : Program} {w : World} {K : PySem.W.Frag} {mg : Str → Option Value} {base : Heap} {k : Nat} {f : Addr} {fd : FuncData} {ps : List Str} {sp : Sp} (F : FnOk P w K mg base CX0 k f fd ps sp) : FnG P w K mg base k f fd ps sp :=
  ⟨F.len, fun A outer s H args us vs Q E _ hr => F.run A outer s H args us vs Q E hr⟩
section
variable {P : Program} {w : World} {K : PySem.W.Frag} {mg : Str → Option Value} {base : Heap}
theorem Fun.okG {x qual : Str} {st : Stmt} {f : Addr} {fd : FuncData} {N ps : List Str} {k : Nat} {sp : Sp} (F : Fun K x qual st f fd) (S : FnScope N ps (defScope st)) (len : ∀ vs H Q E, sp vs H Q E → vs.length = ps.length)
    (hbody : ∀ (cdv : Value) (A : Around) (outer : List Env) (s : Shared) (H : Hp) (vs : List V) (Q : VK) (E : XK), (A.deeper (envOfC qual (defScope st) s.heap.objs.size f cdv)).guards = some [] → Room k (A.deeper (envOfC qual (defScope st) s.heap.objs.size f cdv)) → sp vs H Q E →
      ∃ t, PSs (cxOf CX0 P w K mg base N qual (defScope st) f cdv A outer s H E).nox (defBody st) t ∧ t { nx := fun _ H' => Q .non H', rt := Q } (start N vs) H) : FnG P w K mg base (k + 1) f fd ps sp := by
  obtain ⟨oc, od, kV, doc, pm, an, cdv, ct, osl, rfl, lk, hcd⟩ := F.ex
  refine ⟨len, fun A outer s H args us vs Q E hg hr e0 hb r hsp => ?_⟩
  have hl := len _ _ _ _ hsp
  have KX : K.In s.heap := e0.mod.kin.keeps fun b o e => (e0.bs b o e).1
  have lim : s.heap.NoLimit := e0.mod.nolimit.keeps fun b o e => (e0.bs b o e).1
  have hk : ∀ y ∈ ps.zip us, (defScope st).names.lookup y.1 = some .local ∨ ((defScope st).names.lookup y.1 = some .cell ∧ ((cellsFrom (s.heap.objs.size + 1) (defScope st).names []).lookup y.1).isSome = true) := fun ⟨n, v⟩ hy => by
    rcases S.par n (List.of_mem_zip hy).1 with q | q
    · exact .inl q
    · exact .inr ⟨q, PySem.W.cellsFrom_some _ _ _ (.inl q)⟩
  refine codeAny_call_function hr.depth (KX _ _ lk) rfl S.co S.gen rfl (PySem.W.codeRec_of KX hcd) (hb _ _ _ _ ?_)
  refine wpAny_newFunctionEnv_cells S.kind hk fun env he s1 xx => ?_
  subst he
  refine ⟨lim.keeps xx.toInCall.keep, codeAny_func ?_⟩
  obtain ⟨t, ht0, hq⟩ := hbody cdv A outer s H vs Q E hg (hr.deeper _) hsp
  have ht := ht0.nox
  have I : Inv (cxOf CX0 P w K mg base N qual (defScope st) f cdv A outer s H E) [] (start N vs) H s1 := inv_start S hr.hd e0 hl r xx
  refine wpAny_mono (ht.run [] s1 (start N vs) H _ I hq) (fun fl s' hs => ?_) fun e s' hs => hs
  cases fl with
  | ret u =>
    obtain ⟨v, σ', H', J, rv, q⟩ := hs
    exact ⟨v, H', J.os, J.bare, J.base, J.hok, rv, q⟩
  | next =>
    obtain ⟨σ', H', J, q⟩ := hs
    exact ⟨V.non, H', J.os, J.bare, J.base, J.hok, rfl, q⟩
  | brk =>
    obtain ⟨_, _, _, q⟩ := hs
    exact False.elim q
  | cont =>
    obtain ⟨_, _, _, q⟩ := hs
    exact False.elim q
end
section
variable {X : Cx} {k : Nat} {f : Addr} {fd : FuncData} {ps : List Str} {sp : Sp} {x : Str} {p pos : Pos} {e : Expr} {es : List Expr} {t : TA}
theorem pe_callG (F : FnG X.prog X.w X.K X.mg X.base k f fd ps sp) (hgd : X.A.guards = some []) (hr : Room k X.A) (hm : X.mg x = some (.ref f)) (hk : PySem.W.keepIn X.K (.ref f) = true) (hb : Binds X.K fd ps []) (ha : PA X (e :: es) t) (hg : Gl X x := by rfl)
    (hdb : (x == ("__debug__" : Str)) = false := by decide) (he : starEach (e :: es) X.env = (false, eval e X.env) :: starEach es X.env := by rfl) (hpl : (backTo pos (starEach es X.env)).any (·.1) = false := by rfl) :
    PE X (.Call (.Name x p) (e :: es) [] pos) (fun σ H Q => t σ H fun vs H1 => sp vs H1 Q E0) := by
  refine ⟨fun pins s σ H Q I h => ?_⟩
  refine wpAny_Call_Name_kw (ld_glob I hg hm ?_ hdb)
  refine PySem.W.callWith_K (h₀ := X.base) I.ok.mod.kin hk (thn (ha.run pos pins s σ H _ I h) fun us s1 ⟨vs, H1, I1, r, q⟩ => ⟨I1.kIn, ?_⟩) he hpl
  have hl : (us ++ []).length = ps.length := by rw [List.append_nil, ← r.length]; exact F.len _ _ _ _ q
  have hb' := hb s1 us I1.kIn hl
  rw [List.append_nil] at hb'
  refine wpAny_call (codeAny_mono (F.run X.A X.stack s1 H1 ⟨us, []⟩ us vs Q E0 hgd hr I1.env0 hb' r q) fun r' s' hq => ?_)
  cases r' with
  | error e => exact (hq : False).elim
  | ok fl =>
    cases fl with
    | ret u => exact I1.after hq
    | next => exact False.elim hq
    | brk => exact False.elim hq
    | cont => exact False.elim hq
end
/-! ### the end of the row, for a law's def of this kind -/
theorem entry54 {P : Program} {w : World} {K : PySem.W.Frag} {mg mb : Str → Option Value} {k : Nat} {fa a : Addr} {fd : FuncData} {x : Str} {sp : Sp} {s₁ : Shared} {vs : List Value} {ns : List Int}
    (KX : K.In s₁.heap) (hns : s₁.heap.Ns mainGlobals mg) (hb : s₁.heap.Ns builtinsNs mb) (hbb : ∀ x : Str, x ≠ "__name__" → mb x = bootBuiltins x) (hlim : s₁.heap.NoLimit) (hg : s₁.gens = #[])
    (ha : s₁.heap.get? a = some { cls := .type "list", data := .seq vs.toArray }) (hi : IntsAre vs ns) (hl : ns.length ≤ sizeLine) (hr : Room k callerA)
    (F : ∀ base : Heap, K.In base → base.Ns mainGlobals mg → FnG P w K mg base k fa fd [x] sp) (hbind : ∀ (s : Shared) (u : Value), BindsTo s fd ⟨[u], []⟩ [(x, u)])
    (hsp : ∀ H : Hp, Only H → SqL K H a (ns.map V.int) → sp [.ref a] H (fun v _ => v = .bl true) fun _ _ _ => False) :
    codeAny (model P w) callerA (.call (.ref fa) ⟨[.ref a], []⟩) (fun r s' => r = .ok (.ret (.bool true)) ∧ OldK s₁.heap s'.heap ∧ s'.os = s₁.os ∧ AllBare s'.gens) s₁ := by
  have rv := vals_ints hi
  have lenV := hi.length
  have core : ∀ H : Hp, Only H → SqL K H a (ns.map V.int) → HOk P w H s₁.heap → (∀ b, H b ≠ none → b = a) → (H a ≠ none → K.lookup a = none) →
      codeAny (model P w) callerA (.call (.ref fa) ⟨[.ref a], []⟩) (fun r s' => r = .ok (.ret (.bool true)) ∧ OldK s₁.heap s'.heap ∧ s'.os = s₁.os ∧ AllBare s'.gens) s₁ := by
    intro H hO hS hok hA hK
    have base_of : ∀ {b : Addr} {o : Obj}, s₁.heap.get? b = some o → H b = none → (hidT s₁.heap H).get? b = some o := fun e n => hidT_get e n
    have at_a : ∀ {b : Addr}, H b ≠ none → b = a := fun {b} n => hA b n
    have noA : ∀ {b : Addr} {o : Obj} {es : Array DictEntry} {ep : Nat}, s₁.heap.get? b = some o → o.data = .dict es ep → H b = none := fun {b o es ep} e d => by
      cases q : H b with
      | none => rfl
      | some u =>
        obtain rfl := at_a (b := b) (by rw [q]; simp)
        rw [ha] at e; cases e; cases d
    have nsK : ∀ {b : Addr} {m : Str → Option Value}, s₁.heap.Ns b m → (hidT s₁.heap H).Ns b m := fun {b m} ⟨o, es, ep, e, d, r⟩ => ⟨o, es, ep, base_of e (noA e d), d, r⟩
    have hKb : K.In (hidT s₁.heap H) := fun b o e => base_of (KX b o e) (by
      cases q : H b with
      | none => rfl
      | some u =>
        obtain rfl := at_a (b := b) (by rw [q]; simp)
        rw [hK (by rw [q]; simp)] at e; cases e)
    have hM : Mod K mg (hidT s₁.heap H) := ⟨hKb, nsK hns, ⟨mb, nsK hb, hbb⟩, let ⟨mc, h1, h2⟩ := hlim; ⟨mc, nsK h1, h2⟩⟩
    have e0 : Env0 P w K mg (hidT s₁.heap H) callerA [] s₁ H := ⟨rfl, hM, fun b o e => of_hidT e, Nat.le_of_eq (hidT_size _ _), trivial, fun b hb => absurd (show b ∈ ([] : List Addr) from hb) (by simp), hok, .of_eq hg⟩
    refine codeAny_mono ((F _ hKb (nsK hns)).run callerA [] s₁ H ⟨[.ref a], []⟩ [.ref a] [.ref a] _ _ rfl hr e0 (hbind s₁ (.ref a)) (.cons rfl .nil) (hsp H hO hS)) fun r s' h => ?_
    cases r with
    | error e => exact (h : False).elim
    | ok fl =>
      cases fl with
      | next => exact False.elim h
      | brk => exact False.elim h
      | cont => exact False.elim h
      | ret u =>
        obtain ⟨v, H', os, bare, un, hok', r', q⟩ := h
        obtain rfl : v = .bl true := q
        obtain rfl : u = Value.bool true := r'
        refine ⟨rfl, OldK.of_keep fun b o e => ?_, os, bare⟩
        cases q : H b with
        | none => exact un.keep b o e q (by intro z; exact absurd (show b ∈ ([] : List Addr) from z) (by simp)) (by simp)
        | some u =>
          rcases hO b with z | ⟨ob, xs, z⟩
          · rw [q] at z; cases z
          · obtain ⟨e1, _⟩ := hok b _ z
            obtain ⟨e2, _⟩ := hok' b _ (un.frzs b ob _ z)
            rw [e] at e1; cases e1
            exact e2
  cases hk : K.lookup a with
  | some o =>
    have e := KX a o hk
    rw [ha] at e
    cases e
    refine core (fun _ => none) (fun _ => .inl rfl) (.inr ⟨_, vs.toArray, _, hk, rfl, rfl, rfl, by rw [List.size_toArray, lenV]; exact hl, by simpa using rv⟩) (fun b u z => by have z' : (none : Option HO) = some u := z; cases z') (fun b z => absurd rfl z) fun z => absurd rfl z
  | none =>
    refine core (fun b => if b = a then some (.frz { cls := .type "list", data := .seq vs.toArray } (.lst (ns.map V.int))) else none) (fun b => ?_) (.inl (.inr ⟨{ cls := .type "list", data := .seq vs.toArray }, if_pos rfl⟩)) (fun b u z => ?_) (fun b z => ?_) fun _ => hk
    · by_cases hb : b = a
      · exact .inr ⟨_, _, if_pos hb⟩
      · exact .inl (if_neg hb)
    · by_cases hb : b = a
      · have z' := (if_pos hb).symm.trans z
        cases z'
        subst hb
        exact ⟨ha, by rw [List.length_map]; exact hl, vs, _, rv, ha⟩
      · have z' := (if_neg hb).symm.trans z
        cases z'
    · by_cases hb : b = a
      · exact hb
      · exact absurd (if_neg hb) z
theorem walk54 {l : PySem.W.OpenLaw} {n k : Nat} {q : Program} {loose : List Str} {XP : (Str → Option Value) → Heap → Prop} {YP : World → Heap → Prop} {d : DefRec} {K : Params → PySem.W.Frag} {sp : PySem.W.Frag → Sp} {x : Str}
    (hn : l.most = some n) (hn2 : n ≤ sizeLine) (hdf : d.params.defaults = []) (hr : Room k callerA)
    (hY : ∀ (w : World) (h : Heap), YP w h → (K w.params).In h)
    (F : ∀ (w : World) (mg : Str → Option Value) (fa : Addr) (h : Heap), (K w.params).In h → h.Ns mainGlobals mg → mg d.name = some (.ref fa) →
      ∃ fd : FuncData, (∀ (s : Shared) (u : Value), BindsTo s fd ⟨[u], []⟩ [(x, u)]) ∧
        ∀ base : Heap, (K w.params).In base → base.Ns mainGlobals mg → FnG l.prog w (K w.params) mg base k fa fd [x] (sp (K w.params)))
    (hsp : ∀ (K : PySem.W.Frag) (H : Hp) (a : Addr) (ns : List Int), ns.length ≤ n → Only H → SqL K H a (ns.map V.int) → sp K [.ref a] H (fun v _ => v = .bl true) fun _ _ _ => False) :
    PySem.W.WalkO q loose XP YP l.row.toRowW d [] (fun f vs => PySem.call f vs) := by
  refine Att.attach_call hn hdf fun w s₀ s₁ mg mb fa o pm cd doc a vs ns G Y ho hd hcd hmg hobj hints hlen hg => ?_
  have KX := hY w _ Y
  obtain ⟨fd, hb, hF⟩ := F w mg fa _ KX G.T.g hmg
  exact entry54 KX G.T.g G.T.b G.T.builtins G.T.nolimit hg hobj hints (Nat.le_trans hlen hn2) hr hF hb (fun H hO hS => hsp _ H a ns hlen hO hS)
end L54
namespace L50
open PySem PySem.Spec PyProof.Rows L2 L54
theorem iF {c A B : Prop} [Decidable c] (h : ¬ c) (b : B) : if c then A else B := by rw [if_neg h]; exact b
theorem iT {c A B : Prop} [Decidable c] (h : c) (a : A) : if c then A else B := by rw [if_pos h]; exact a
theorem len_small {n : Nat} (h : n ≤ 1000) : n ≤ sizeLine := Nat.le_of_lt (small1000 h)
theorem same_upd {H H' : Hp} {p : Addr} {o : HO} (s : Same H H') (n : H' p = none) : Same H (upd H' p o) := fun b u e => by
  rw [upd_ne (ne_of_none (s b u e) n)]
  exact s b u e
theorem same_at {H H' : Hp} {p : Addr} {o : HO} (s : Same H H') (n : H p = none) : Same H (upd H' p o) := fun b u e => by
  rw [upd_ne (ne_of_none e n)]
  exact s b u e
theorem up1 {H : Hp} {p : Addr} {o : HO} (n : H p = none) : Same H (upd H p o) := same_upd (Same.refl H) n
theorem seqT {K : PySem.W.Frag} {H H' : Hp} {a : Addr} {xs : List V} (e : Same H H') (h : SqT K H a xs) : SqT K H' a xs := by
  rcases h with (h | ⟨o, h⟩) | h
  · exact .inl (.inl (e _ _ h))
  · exact .inl (.inr ⟨o, e _ _ h⟩)
  · exact .inr h
/-! ### values: data with empty dicts in it -/
mutual
inductive Dv (K : PySem.W.Frag) (H : Hp) : V → PyData → Prop
  | non : Dv K H .non .none
  | bl (b : Bool) : Dv K H (.bl b) (.bool b)
  | int (i : Int) : Dv K H (.int i) (.int i)
  | str (x : Str) : Dv K H (.str x) (.str x)
  | lst {a : Addr} {xs : List V} {ds : List PyData} : SqL K H a xs → DvAll K H xs ds → Dv K H (.ref a) (.list ds)
  | tup {a : Addr} {xs : List V} {ds : List PyData} : SqT K H a xs → DvAll K H xs ds → Dv K H (.ref a) (.tuple ds)
  | emp {a : Addr} : H a = some (.dK []) → Dv K H (.ref a) (.dict [])
inductive DvAll (K : PySem.W.Frag) (H : Hp) : List V → List PyData → Prop
  | nil : DvAll K H [] []
  | cons {v : V} {vs : List V} {d : PyData} {ds : List PyData} : Dv K H v d → DvAll K H vs ds → DvAll K H (v :: vs) (d :: ds)
end
mutual
theorem dvMono {K : PySem.W.Frag} {H H' : Hp} (s : Same H H') : ∀ (d : PyData) (v : V), Dv K H v d → Dv K H' v d
  | .none, _, h => by cases h; exact .non
  | .bool _, _, h => by cases h; exact .bl _
  | .int _, _, h => by cases h; exact .int _
  | .str _, _, h => by cases h; exact .str _
  | .list ds, _, h => by
    cases h with
    | lst h1 h2 => exact .lst (s.seq h1) (dvMonoAll s ds _ h2)
  | .tuple ds, _, h => by
    cases h with
    | tup h1 h2 => exact .tup (seqT s h1) (dvMonoAll s ds _ h2)
  | .dict _, _, h => by
    cases h with
    | emp h => exact .emp (s _ _ h)
theorem dvMonoAll {K : PySem.W.Frag} {H H' : Hp} (s : Same H H') : ∀ (ds : List PyData) (vs : List V), DvAll K H vs ds → DvAll K H' vs ds
  | [], _, h => by cases h; exact .nil
  | d :: ds, _, h => by
    cases h with
    | cons h1 h2 => exact .cons (dvMono s d _ h1) (dvMonoAll s ds _ h2)
end
theorem Dv.mono {K : PySem.W.Frag} {H H' : Hp} {v : V} {d : PyData} (h : Dv K H v d) (s : Same H H') : Dv K H' v d := dvMono s d v h
theorem DvAll.mono {K : PySem.W.Frag} {H H' : Hp} {vs : List V} {ds : List PyData} (h : DvAll K H vs ds) (s : Same H H') : DvAll K H' vs ds := dvMonoAll s ds vs h
theorem DvAll.len {K : PySem.W.Frag} {H : Hp} : ∀ {vs : List V} {ds : List PyData}, DvAll K H vs ds → vs.length = ds.length
  | _, _, .nil => rfl
  | _, _, .cons _ t => by rw [List.length_cons, List.length_cons, t.len]
theorem DvAll.app {K : PySem.W.Frag} {H : Hp} : ∀ {vs ws : List V} {ds es : List PyData}, DvAll K H vs ds → DvAll K H ws es → DvAll K H (vs ++ ws) (ds ++ es)
  | _, _, _, _, .nil, h => h
  | _, _, _, _, .cons a t, h => .cons a (t.app h)
theorem DvAll.get {K : PySem.W.Frag} {H : Hp} : ∀ {vs : List V} {ds : List PyData} {i : Nat} {v : V}, DvAll K H vs ds → vs[i]? = some v → ∃ d, ds[i]? = some d ∧ Dv K H v d
  | _, _, _, _, .nil, e => by simp at e
  | _, _, 0, _, .cons (d := d) a _, e => by
    obtain rfl := Option.some.inj (by simpa using e)
    exact ⟨d, rfl, a⟩
  | _, _, i + 1, _, .cons _ t, e => by
    obtain ⟨d, e1, e2⟩ := t.get (i := i) (by simpa using e)
    exact ⟨d, by simpa using e1, e2⟩
theorem DvAll.drop {K : PySem.W.Frag} {H : Hp} : ∀ {vs : List V} {ds : List PyData} (n : Nat), DvAll K H vs ds → DvAll K H (vs.drop n) (ds.drop n)
  | _, _, 0, h => h
  | _, _, _ + 1, .nil => .nil
  | _, _, n + 1, .cons _ t => t.drop n
theorem DvAll.take {K : PySem.W.Frag} {H : Hp} : ∀ {vs : List V} {ds : List PyData} (n : Nat), DvAll K H vs ds → DvAll K H (vs.take n) (ds.take n)
  | _, _, 0, _ => .nil
  | _, _, _ + 1, .nil => .nil
  | _, _, n + 1, .cons a t => .cons a (t.take n)
theorem DvAll.rev {K : PySem.W.Frag} {H : Hp} : ∀ {vs : List V} {ds : List PyData}, DvAll K H vs ds → DvAll K H vs.reverse ds.reverse
  | _, _, .nil => .nil
  | _, _, .cons a t => by
    rw [List.reverse_cons, List.reverse_cons]
    exact t.rev.app (.cons a .nil)
mutual
/-- no list stands in it -/
def noList : PyData → Bool
  | .list _ => false
  | .tuple ds => noListAll ds
  | _ => true
def noListAll : List PyData → Bool
  | [] => true
  | d :: ds => noList d && noListAll ds
end
section
variable {X : Cx} {pins : List (Addr × Obj)} {σ : L2.St} {H : Hp} {s : Shared}
mutual
theorem dvReads (I : Inv X pins σ H s) : ∀ (d : PyData) (v : V) (u : Value), Dv X.K H v d → RelV v u → ∃ as, Reads s.heap u d as ∧ (noList d = true → sysModules ∉ as)
  | .none, _, _, h, r => by
    cases h
    cases r
    exact ⟨_, Reads.none, fun _ => by simp⟩
  | .bool b, _, _, h, r => by
    cases h
    cases r
    exact ⟨_, Reads.bool b, fun _ => by simp⟩
  | .int i, _, _, h, r => by
    cases h
    obtain ⟨t, rfl⟩ := r
    exact ⟨_, Reads.int i t, fun _ => by simp⟩
  | .str x, _, _, h, r => by
    cases h
    obtain ⟨t, rfl⟩ := r
    exact ⟨_, Reads.str x t, fun _ => by simp⟩
  | .list ds, _, _, h, r => by
    cases h with
    | lst hs ha =>
      cases r
      obtain ⟨its, rv, ⟨o, n, ho, hc, _, hd⟩, _⟩ := I.list hs
      obtain ⟨as, hr, hm⟩ := dvReadsAll I ds _ its ha rv
      exact ⟨_, Reads.list ho hc hd hr, fun z => by simp [noList] at z⟩
  | .tuple ds, _, _, h, r => by
    cases h with
    | tup hs ha =>
      cases r
      obtain ⟨its, rv, ⟨o, ho, hc, n, hd⟩, _⟩ := I.tuple hs
      obtain ⟨as, hr, hm⟩ := dvReadsAll I ds _ its ha rv
      exact ⟨_, Reads.tuple ho hc hd hr, fun z => hm (by simpa [noList] using z)⟩
  | .dict _, _, _, h, r => by
    cases h with
    | @emp a h =>
      cases r
      obtain ⟨_, ya, va, ra, o, es, ep, ho, hx, hd, _, hp, _⟩ := (show ObjOk X.prog X.w H s.heap a (.dK []) from I.hok a _ h)
      cases ra
      generalize hes : es.toList = l at hp
      cases hp
      refine ⟨_, Reads.dict ho hx.1 hd (kvs := []) (by rw [hes]; exact .nil) (by rw [hes]; exact .nil), fun _ hm => ?_⟩
      rcases List.mem_append.mp hm with hm | hm
      · rcases List.mem_cons.mp hm with hm | hm
        · rw [hm] at ya; simp at ya
        · cases hm
      · cases hm
theorem dvReadsAll (I : Inv X pins σ H s) : ∀ (ds : List PyData) (vs : List V) (us : List Value), DvAll X.K H vs ds → Vals vs us → ∃ as, ReadsAll s.heap us ds as ∧ (noListAll ds = true → sysModules ∉ as)
  | [], _, _, h, r => by
    cases h
    cases r
    exact ⟨_, ReadsAll.nil, fun _ => by simp⟩
  | d :: ds, _, _, h, r => by
    cases h with
    | cons h1 h2 =>
      cases r with
      | cons r1 r2 =>
        obtain ⟨as, q1, m1⟩ := dvReads I d _ _ h1 r1
        obtain ⟨bs, q2, m2⟩ := dvReadsAll I ds _ _ h2 r2
        refine ⟨_, ReadsAll.cons q1 q2, fun n z => ?_⟩
        simp only [noListAll, Bool.and_eq_true] at n
        rcases List.mem_append.mp z with z | z
        · exact m1 n.1 z
        · exact m2 n.2 z
end
end
/-! ### str of a value -/
def fit (d : PyData) : Prop := d.showable = true ∧ d.depth ≤ 60 ∧ d.leavesShort 2000 = true ∧ d.weight ≤ 4000 ∧ (d.hasDict = true → noList d = true)
theorem fit_fits {d : PyData} (h : fit d) : d.shown.length ≤ sizeLine := by
  have h1 := PyData.shown_le 2000 (by decide) d h.2.2.1
  have h2 := h.2.2.2.1
  rw [sizeLine_eq]
  have h3 : (2000 + 2) * d.weight ≤ (2000 + 2) * 4000 := Nat.mul_le_mul_left _ h2
  omega
def rStrV (K : PySem.W.Frag) : List V → Hp → VK → Prop := fun xs H Q => ∃ (v : V) (d : PyData), xs = [v] ∧ Dv K H v d ∧ fit d ∧ Q (.str (L54.strOfD d)) H
theorem call_strV {X : Cx} (hg : X.A.guards = some []) (hu : X.A.units + 100 < cLine) : CallR X (.type "str") (rStrV X.K) := by
  intro pins s σ H xs us Q I r h
  obtain ⟨v, d, rfl, hD, hs, q⟩ := h
  cases r with
  | @cons _ u _ ur r0 rr =>
    cases rr
    have key : ∀ a, v = .ref a → L54.strOfD d = d.shown → wpAny (model X.prog X.w) X.A (call (.type "str") [u]) (EP X pins σ Q) X.xe s := by
      intro a e e2
      subst e
      cases r0
      obtain ⟨as, hr, hm⟩ := dvReads I d _ _ hD rfl
      rw [e2] at q
      refine str_of_reads hr hs.1 (fun z => hm (hs.2.2.2.2 z)) hg (by have := hs.2.1; omega) (fun _ _ z => z) (fun h' u tk k => ?_) (fit_fits hs)
      exact ⟨.str d.shown, H, I.kept k, ⟨u, rfl⟩, q⟩
    cases hD with
    | non => cases r0; exact PySem.P.str_of_none ⟨.str _, H, I.tok _, ⟨_, rfl⟩, q⟩
    | bl b => cases r0; exact PySem.P.str_of_bool ⟨.str _, H, I.tok _, ⟨_, rfl⟩, q⟩
    | int i =>
      obtain ⟨t, rfl⟩ := r0
      exact PySem.P.str_of_int (of_decide_eq_true hs.1) ⟨.str _, H, I.tok _, ⟨_, rfl⟩, q⟩
    | str x =>
      obtain ⟨t, rfl⟩ := r0
      exact PySem.P.str_of_str ⟨.str x, H, I, ⟨t, rfl⟩, q⟩
    | lst _ _ => exact key _ rfl rfl
    | tup _ _ => exact key _ rfl rfl
    | emp _ => exact key _ rfl rfl
end L50
namespace PySem.SeqAt
open AutoSeq1 (wpAny_loadPart')
open MeetsSeq MeetsSeq2 MeetsSeq3 SeqRoads2
theorem dict_no_str50 (l : Addr) (es : Array DictEntry) (n : Nat) (dd : Option Addr) (sl : Array (Option Value)) (b : Str) (u : Tok) :
    Meets (Builtin.«dict.__eq__» ⟨[.ref l, .str b u], []⟩) (fun _ R s => s.heap.get? l = some { cls := .type "dict", dict := dd, data := .dict es n, slots := sl } ∧ R (.ok (.ret .notImplemented)) s) :=
  .of_wp fun prog w A R s h => by obtain ⟨hp, g, d, tk, os⟩ := s; obtain ⟨hl, h⟩ := h; have f1 := F.sub_str_dict; wp_walk using wpAny_loadPart' hl; exact ⟨_, rfl, h⟩
theorem str_no_dict50 (b : Str) (u : Tok) (l : Addr) (c : Value) (es : Array DictEntry) (n : Nat) (dd : Option Addr) (sl : Array (Option Value)) :
    Meets (Builtin.«str.__eq__» ⟨[.str b u, .ref l], []⟩) (fun _ R s => s.heap.get? l = some { cls := c, dict := dd, data := .dict es n, slots := sl } ∧ R (.ok (.ret .notImplemented)) s) :=
  .of_wp fun prog w A R s h => by obtain ⟨hp, g, d, tk, os⟩ := s; obtain ⟨hl, h⟩ := h; wp_walk using wpAny_loadPart' hl, wpAny_load hl; exact ⟨_, rfl, h⟩
section
variable {A : Around} {s : Shared}
theorem rc_dict_str50 {l : Addr} {es : Array DictEntry} {n : Nat} {dd : Option Addr} {sl : Array (Option Value)} (b : Str) (u : Tok) (ho : s.heap.get? l = some { cls := .type "dict", dict := dd, data := .dict es n, slots := sl }) (hu : A.units < cLine) : RcAt A s (.ref l) (.str b u) false := fun prog w E Q h =>
  rc_eq_decline_or (k := false) ⟨_, ho, rfl⟩ (typeIs_str s b u) (by decide) F.sub_str_dict F.slot_dict_eq F.slot_str_eq_refl
    (fun _ hq => call_meets F.slot_dict_eq ⟨_, ho, rfl⟩ F.entry_dict_eq (F.args_dict_eq_2 _ _) (dict_no_str50 l es n dd sl b u) ⟨ho, hq⟩)
    (fun _ hq => call_meets F.slot_str_eq_refl (typeIs_str s b u) F.entry_str_eq (F.args_str_eq_2 _ _) (str_no_dict50 b u l (.type "dict") es n dd sl) ⟨ho, hq⟩)
    (fun _ hq => wpAny_of_eq (rfl : isSame (.ref l) (.str b u) = pure false) hq) (.inr hu) h
theorem eq_str_dict50 {l : Addr} {es : Array DictEntry} {n : Nat} {dd : Option Addr} {sl : Array (Option Value)} (b : Str) (u : Tok) (ho : s.heap.get? l = some { cls := .type "dict", dict := dd, data := .dict es n, slots := sl }) (hu : A.units < cLine) : EqAt A s (.str b u) (.ref l) false := fun prog w E Q h => by
  unfold eqBool
  refine wpAny_holding ?_
  refine wpAny_ite_split (fun hab => absurd (eq_of_beq hab) nofun) (fun _ => ?_)
  refine wpAny_bind (rc_eq_decline_or (k := false) (typeIs_str s b u) ⟨_, ho, rfl⟩ (by decide) F.sub_dict_str F.slot_str_eq F.slot_dict_eq_refl
    (fun _ hq => call_meets F.slot_str_eq (typeIs_str s b u) F.entry_str_eq (F.args_str_eq_2 _ _) (str_no_dict50 b u l (.type "dict") es n dd sl) ⟨ho, hq⟩)
    (fun _ hq => call_meets F.slot_dict_eq_refl ⟨_, ho, rfl⟩ F.entry_dict_eq (F.args_dict_eq_2 _ _) (dict_no_str50 l es n dd sl b u) ⟨ho, hq⟩)
    (fun _ hq => wpAny_of_eq (rfl : isSame (.str b u) (.ref l) = pure false) hq) (.inr hu) (wpAny_truthy_bool h))
end
end PySem.SeqAt
namespace L50
open PySem PySem.Spec PyProof.Rows L2 L54
def isStr : PyData → Str → Bool
  | .str a, z => a == z
  | _, _ => false
section
variable {X : Cx} {pins : List (Addr × Obj)} {σ : L2.St} {H : Hp} {s : Shared}
theorem rcS (I : Inv X pins σ H s) {A : Around} (hu : A.units < cLine) {d : PyData} {v : V} {u : Value} (h : Dv X.K H v d) (r : RelV v u) (z : Str) (t : Tok) : SeqAt.RcAt A s u (.str z t) (isStr d z) := by
  cases h with
  | non => cases r; exact .none_str z t
  | bl b => cases r; exact .bool_str b z t
  | int i => obtain ⟨t', rfl⟩ := r; exact .int_str i t' z t
  | str x => obtain ⟨t', rfl⟩ := r; exact .str_str x t' z t
  | lst hs ha =>
    cases r
    obtain ⟨its, rv, pl, _⟩ := I.list hs
    exact .list_str z t pl.isList hu
  | tup hs ha =>
    cases r
    obtain ⟨its, rv, pl, _⟩ := I.tuple hs
    exact .tuple_str z t pl hu
  | @emp a h =>
    cases r
    obtain ⟨_, ya, va, ra, ⟨cls, dd, dat, sl⟩, es, ep, ho, hx, hd, _⟩ := (show ObjOk X.prog X.w H s.heap a (.dK []) from I.hok a _ h)
    have e1 := hx.1
    simp only at e1 hd
    subst e1 hd
    exact SeqAt.rc_dict_str50 z t ho hu
theorem eqS' (I : Inv X pins σ H s) {A : Around} (hu : A.units < cLine) {d : PyData} {v : V} {u : Value} (h : Dv X.K H v d) (r : RelV v u) (z : Str) (t : Tok) : SeqAt.EqAt A s (.str z t) u (isStr d z) := by
  cases h with
  | non => cases r; exact .str_none z t
  | bl b => cases r; exact .str_bool z t b
  | int i => obtain ⟨t', rfl⟩ := r; exact .str_int z t i t'
  | str x =>
    obtain ⟨t', rfl⟩ := r
    have e : isStr (.str x) z = (z == x) := by
      show (x == z) = (z == x)
      rw [Bool.eq_iff_iff, beq_iff_eq, beq_iff_eq]
      exact ⟨Eq.symm, Eq.symm⟩
    rw [e]
    exact .str_str z t x t'
  | lst hs ha =>
    cases r
    obtain ⟨its, rv, pl, _⟩ := I.list hs
    exact .str_list z t pl.isList hu
  | tup hs ha =>
    cases r
    obtain ⟨its, rv, pl, _⟩ := I.tuple hs
    exact .str_tuple z t pl hu
  | @emp a h =>
    cases r
    obtain ⟨_, ya, va, ra, ⟨cls, dd, dat, sl⟩, es, ep, ho, hx, hd, _⟩ := (show ObjOk X.prog X.w H s.heap a (.dK []) from I.hok a _ h)
    have e1 := hx.1
    simp only at e1 hd
    subst e1 hd
    exact SeqAt.eq_str_dict50 z t ho hu
end
/-- v == 'text' -/
def rEqS (K : PySem.W.Frag) : R2 := fun x y H Q => ∃ d z, Dv K H x d ∧ y = .str z ∧ Q (.bl (isStr d z)) H
theorem op_eqS {X : Cx} (hu : X.A.units < cLine) : OpR X (compareOp .Eq) (rEqS X.K) := by
  intro pins s σ H x y v u Q I rx ry h
  obtain ⟨d, z, hd, rfl, q⟩ := h
  obtain ⟨t, rfl⟩ := ry
  exact rcS I hu hd rx z t X.prog X.w _ _ ⟨.bl _, H, I, rfl, q⟩
/-- v in ('a', 'b') or a list of texts -/
def rInZ (K : PySem.W.Frag) : R2 := fun x y H Q => ∃ d p, ∃ zs : List Str, Dv K H x d ∧ y = .ref p ∧ (SqL K H p (zs.map V.str) ∨ SqT K H p (zs.map V.str)) ∧ Q (.bl (zs.any (isStr d))) H
def rNotInZ (K : PySem.W.Frag) : R2 := fun x y H Q => ∃ d p, ∃ zs : List Str, Dv K H x d ∧ y = .ref p ∧ (SqL K H p (zs.map V.str) ∨ SqT K H p (zs.map V.str)) ∧ Q (.bl (!zs.any (isStr d))) H
def isV (d : PyData) : Value → Bool
  | .str z _ => isStr d z
  | _ => false
theorem isV_any (d : PyData) : ∀ {zs : List Str} {us : List Value}, Vals (zs.map V.str) us → us.any (isV d) = zs.any (isStr d)
  | [], _, h => by cases h; rfl
  | z :: zs, _, h => by
    cases h with
    | cons r t =>
      obtain ⟨tk, rfl⟩ := r
      rw [List.any_cons, List.any_cons, isV_any d t]
      rfl
section
variable {X : Cx} {pins : List (Addr × Obj)} {σ : L2.St} {H : Hp} {s : Shared}
theorem isV_all (I : Inv X pins σ H s) {A : Around} (hu : A.units < cLine) {d : PyData} {v : V} {u : Value} (h : Dv X.K H v d) (r : RelV v u) : ∀ {zs : List Str} {us : List Value}, Vals (zs.map V.str) us → ∀ y ∈ us, SeqAt.EqAt A s y u (isV d y)
  | [], _, hv => fun y hy => by cases hv; cases hy
  | z :: zs, _, hv => fun y hy => by
    cases hv with
    | cons r1 t =>
      obtain ⟨tk, rfl⟩ := r1
      rcases List.mem_cons.mp hy with rfl | hy
      · exact eqS' I hu h r z tk
      · exact isV_all I hu h r t y hy
end
theorem op_inZ {X : Cx} (hu : X.A.units + 1 < cLine) : OpR X (compareOp .In) (rInZ X.K) := by
  intro pins s σ H x y v u Q I rx ry h
  obtain ⟨d, p, zs, hd, rfl, hq, q⟩ := h
  cases ry
  rcases hq with hq | hq
  · obtain ⟨its, r, pl, hz⟩ := I.list hq
    refine SeqAt.in_listAt (isV d) pl.isList (fun w hw => isV_all I (A := X.A.in1) hu hd rx r w (by simpa using hw)) ⟨.bl _, H, I, rfl, ?_⟩
    rw [show its.toArray.any (isV d) = its.any (isV d) by simp, isV_any d r]
    exact q
  · obtain ⟨its, r, pl, hz⟩ := I.tuple hq
    refine SeqAt.in_tupleAt (isV d) pl (fun w hw => isV_all I (A := X.A.in1) hu hd rx r w (by simpa using hw)) ⟨.bl _, H, I, rfl, ?_⟩
    rw [show its.toArray.any (isV d) = its.any (isV d) by simp, isV_any d r]
    exact q
theorem op_notInZ {X : Cx} (hu : X.A.units + 1 < cLine) : OpR X (compareOp .NotIn) (rNotInZ X.K) := by
  intro pins s σ H x y v u Q I rx ry h
  obtain ⟨d, p, zs, hd, rfl, hq, q⟩ := h
  cases ry
  rcases hq with hq | hq
  · obtain ⟨its, r, pl, hz⟩ := I.list hq
    refine SeqAt.notIn_listAt (isV d) pl.isList (fun w hw => isV_all I (A := X.A.in1) hu hd rx r w (by simpa using hw)) ⟨.bl _, H, I, rfl, ?_⟩
    rw [show its.toArray.any (isV d) = its.any (isV d) by simp, isV_any d r]
    exact q
  · obtain ⟨its, r, pl, hz⟩ := I.tuple hq
    refine SeqAt.notIn_tupleAt (isV d) pl (fun w hw => isV_all I (A := X.A.in1) hu hd rx r w (by simpa using hw)) ⟨.bl _, H, I, rfl, ?_⟩
    rw [show its.toArray.any (isV d) = its.any (isV d) by simp, isV_any d r]
    exact q
/-- what kind of thing it is -/
def tyD : PyData → Value
  | .none => .type "NoneType"
  | .bool _ => .type "bool"
  | .int _ => .type "int"
  | .str _ => .type "str"
  | .list _ => .type "list"
  | .tuple _ => .type "tuple"
  | .dict _ => .type "dict"
def rIsD (K : PySem.W.Frag) : List V → Hp → VK → Prop := fun xs H Q => ∃ (x c : V) (d : PyData) (u : Value) (b : Bool), xs = [x, c] ∧ ClsV c u ∧ Dv K H x d ∧ PySem.W.kitOne K (tyD d) u = some b ∧ Q (.bl b) H
theorem call_isD {X : Cx} : CallR X (.builtin "isinstance") (rIsD X.K) := by
  intro pins s σ H xs us Q I r h
  obtain ⟨x, c, d, u, b, rfl, k, hd, e, q⟩ := h
  obtain ⟨u1, u2, rfl, r1, r2⟩ := vals2 r
  have e2 := k.eq r2
  subst e2
  have fin : ∀ {P : Heap → Prop}, PySem.W.KitX X.K u1 (tyD d) P → P s.heap → u1 ≠ .builtin "__main__.__loader__#opaque" → wpAny (model X.prog X.w) X.A (call (.builtin "isinstance") [u1, u2]) (EP X pins σ Q) X.xe s :=
    fun Z p hx => PySem.W.kia_one Z I.kIn p e hx fun tk => ⟨.bl b, H, I.tok tk, rfl, q⟩
  cases hd with
  | non => cases r1; exact fin PySem.W.kitx_none True.intro fun z => nomatch z
  | bl b => cases r1; exact fin PySem.W.kitx_bool True.intro fun z => nomatch z
  | int i => obtain ⟨t', rfl⟩ := r1; exact fin PySem.W.kitx_int True.intro fun z => nomatch z
  | str x => obtain ⟨t', rfl⟩ := r1; exact fin PySem.W.kitx_str True.intro fun z => nomatch z
  | lst hs ha =>
    cases r1
    obtain ⟨its, rv, ⟨o, n, ho, hc, _, hd⟩, _⟩ := I.list hs
    exact fin PySem.W.kitx_list ⟨o, ho, hc⟩ fun z => nomatch z
  | tup hs ha =>
    cases r1
    obtain ⟨its, rv, ⟨o, ho, hc, n, hd⟩, _⟩ := I.tuple hs
    exact fin PySem.W.kitx_tuple ⟨o, ho, hc⟩ fun z => nomatch z
  | @emp a h =>
    cases r1
    obtain ⟨_, ya, va, ra, o, es, ep, ho, hx, hd, _⟩ := (show ObjOk X.prog X.w H s.heap a (.dK []) from I.hok a _ h)
    exact fin PySem.W.kitx_dict ⟨o, ho, hx.1⟩ fun z => nomatch z
end L50
namespace L50
open PySem PySem.Spec PyProof.Rows L2 L54
def top (i : Nat) : Stmt := PySem.Challenge.pw_lasttouch_k52_texts_of_programs.main.body.getD i (.Pass ⟨0, 0, 0, 0⟩)
abbrev sIsName : Stmt := top 11
abbrev sIsProgram : Stmt := top 12
abbrev sCheck : Stmt := top 13
abbrev sIsPart : Stmt := top 14
abbrev sMembers : Stmt := top 15
abbrev sWrite : Stmt := top 17
abbrev sRead : Stmt := top 18
abbrev sText : Stmt := top 19
abbrev sWithin : Stmt := top 20
abbrev sReadOr : Stmt := top 21
abbrev sReadSeq : Stmt := top 22
abbrev sJoined : Stmt := top 23
abbrev sReadRep : Stmt := top 24
abbrev sReadWord : Stmt := top 25
abbrev sMixed : Stmt := top 27
abbrev sCell : Stmt := top 28
abbrev sTake : Stmt := top 29
abbrev sWords : Stmt := top 30
abbrev sProgram : Stmt := top 31
abbrev sLawIn : Stmt := top 32
abbrev sLawText : Stmt := top 33
abbrev sLawRead : Stmt := top 34
abbrev sRefused : Stmt := top 35
abbrev sBent : Stmt := top 36
abbrev sGood : Stmt := top 37
abbrev sSizes : Stmt := top 38
abbrev sMore : Stmt := top 39
abbrev sLaw : Stmt := top 40
/-- the built-ins are still the built-ins -/
structure Bl (mg : Str → Option Value) : Prop where
  int : mg "int" = none
  len : mg "len" = none
  range : mg "range" = none
  max : mg "max" = none
  min : mg "min" = none
  isi : mg "isinstance" = none
  str : mg "str" = none
  all : mg "all" = none
  any : mg "any" = none
  tup : mg "tuple" = none
  srt : mg "sorted" = none
  lst : mg "list" = none
  dct : mg "dict" = none
  bool : mg "bool" = none
theorem b_int : bootBuiltins "int" = some (.type "int") := by decide +kernel
theorem b_str : bootBuiltins "str" = some (.type "str") := by decide +kernel
theorem b_tup : bootBuiltins "tuple" = some (.type "tuple") := by decide +kernel
theorem b_len : bootBuiltins "len" = some (.builtin "len") := by decide +kernel
theorem b_max : bootBuiltins "max" = some (.builtin "max") := by decide +kernel
theorem b_min : bootBuiltins "min" = some (.builtin "min") := by decide +kernel
theorem b_isi : bootBuiltins "isinstance" = some (.builtin "isinstance") := by decide +kernel
theorem b_all : bootBuiltins "all" = some (.builtin "all") := by decide +kernel
theorem b_any : bootBuiltins "any" = some (.builtin "any") := by decide +kernel
section
variable {P : Program} {w : World} {K : PySem.W.Frag} {mg : Str → Option Value} {base : Heap}
/-! ### _law_mixed -/
def spMixed : Sp := fun vs H Q _ => ∃ c k : Int, vs = [.int c, .int k] ∧ ∀ r : Int, 0 ≤ r → r < 2147483579 → Q (.int r) H
theorem scM : FnScope ["cell", "k", "mix"] ["cell", "k"] (defScope sMixed) := ⟨rfl, rfl, rfl, by decide +kernel, rfl, by decide +kernel, by decide +kernel⟩
theorem ok_mixed {f : Addr} {fd : FuncData} (F : Fun K "_law_mixed" "_law_mixed" sMixed f fd) (T : Bl mg) : FnOk P w K mg base CX0 1 f fd ["cell", "k"] spMixed := by
  refine F.ok scM (fun vs H Q E h => ?_) (fun cdv A outer s H vs Q E hr h => ?_)
  · obtain ⟨c, k, rfl, _⟩ := h
    rfl
  · obtain ⟨c, k, rfl, h⟩ := h
    refine ⟨_, pss_cons (ps_set (i := 2) scM.nd rfl (.inl rfl) (pe_op op_mod (pe_callTy call_int1 rfl T.int b_int (pa_cons (pe_op op_add (pe_op op_add (pe_op op_mul (pe_op op_mod (pe_callTy call_int1 rfl T.int b_int (pa_cons (pv 0) pa_nil)) pe_int) pe_int) (pe_op op_mul (pv 1) pe_int)) pe_int) pa_nil)) pe_int))
      (pss_cons (ps_set (i := 2) scM.nd rfl (.inl rfl) (pe_op op_mod (pe_callTy call_int1 rfl T.int b_int (pa_cons (pe_op op_mul (pv 2) (pv 2)) pa_nil)) pe_int))
      (pss_one (ps_ret (pe_op op_mod (pe_callTy call_int1 rfl T.int b_int (pa_cons (pe_op op_mul (pv 2) (pe_op op_add (pv 2) pe_int)) pa_nil)) pe_int)))), ?_⟩
    refine ⟨_, rfl, .inl ⟨_, rfl, _, _, rfl, rfl, (by show (0 : Int) < 2147483647; decide), _, _, rfl, rfl, .inr ⟨by decide, by decide⟩, _, rfl, _, _, rfl, rfl, .inr ⟨by decide, by decide⟩, _, _, rfl, rfl, _, _, rfl, rfl, .inl ⟨_, rfl, _, _, rfl, rfl, (by show (0 : Int) < 2147483629; decide), ?_⟩⟩⟩
    generalize hm : (c % 2147483647 * 48271 + k * 69621 + 1048583) % 2147483629 = m
    have m0 : 0 ≤ m := by rw [← hm]; exact Int.emod_nonneg _ (by decide)
    have m1 : m < 2147483629 := by rw [← hm]; exact Int.emod_lt_of_pos _ (by decide)
    refine ⟨_, rfl, _, rfl, _, _, rfl, rfl, .inl ⟨by omega, by omega⟩, .inl ⟨_, rfl, _, _, rfl, rfl, (by show (0 : Int) < 2147483587; decide), ?_⟩⟩
    generalize hn : (m * m) % 2147483587 = n
    have n0 : 0 ≤ n := by rw [← hn]; exact Int.emod_nonneg _ (by decide)
    have n1 : n < 2147483587 := by rw [← hn]; exact Int.emod_lt_of_pos _ (by decide)
    refine ⟨_, rfl, _, rfl, _, _, rfl, rfl, _, _, rfl, rfl, .inl ⟨by omega, by omega⟩, .inl ⟨_, rfl, _, _, rfl, rfl, (by show (0 : Int) < 2147483579; decide), ?_⟩⟩
    exact h _ (Int.emod_nonneg _ (by decide)) (Int.emod_lt_of_pos _ (by decide))
/-! ### _law_take -/
def big : Int := 2 ^ 1000
def spTake : Sp := fun vs H Q _ => ∃ (p : Addr) (n o : Int), vs = [.ref p, .int o] ∧ H p = some (.lst [.int n]) ∧ 0 ≤ n ∧ n < big ∧ 1 ≤ o ∧ o ≤ 10000 ∧
  ∀ d n' : Int, 0 ≤ d → d < o → 0 ≤ n' → n' < big → Q (.int d) (upd H p (.lst [.int n']))
theorem scT : FnScope ["own", "options", "digit"] ["own", "options"] (defScope sTake) := ⟨rfl, rfl, rfl, by decide +kernel, rfl, by decide +kernel, by decide +kernel⟩
theorem ok_take {f : Addr} {fd : FuncData} (F : Fun K "_law_take" "_law_take" sTake f fd) (T : Bl mg) : FnOk P w K mg base CX0 1 f fd ["own", "options"] spTake := by
  refine F.ok scT (fun vs H Q E h => ?_) (fun cdv A outer s H vs Q E hr h => ?_)
  · obtain ⟨p, n, o, rfl, _⟩ := h
    rfl
  · obtain ⟨p, n, o, rfl, hp, n0, n1, o1, o2, h⟩ := h
    refine ⟨_, pss_cons (ps_set (i := 2) scT.nd rfl (.inl rfl) (pe_op op_mod (pe_callTy call_int1 rfl T.int b_int (pa_cons (pe_ix ix_list (pv 0) pe_int (fun _ _ => rfl)) pa_nil)) (pv 1)))
      (pss_cons (ps_asg (pe_op op_fdivW (pe_ix ix_list (pv 0) pe_int (fun _ _ => rfl)) (pv 1)) (pg_sub (pv 0) pe_int set_list))
      (pss_one (ps_ret (pv 2)))), ?_⟩
    have hs : SqL K H p [V.int n] := .inl (.inl hp)
    refine ⟨_, rfl, p, _, _, _, rfl, rfl, hs, rfl, .inl ⟨_, rfl, _, rfl, _, _, rfl, rfl, (by omega), ?_⟩⟩
    refine ⟨_, rfl, p, _, _, _, rfl, rfl, hs, rfl, _, rfl, _, _, rfl, rfl, wide_div (b := 64) (by omega) (by omega) (by decide) (by decide), _, rfl, p, _, _, 0, rfl, rfl, hp, rfl, _, rfl, ?_⟩
    refine h _ _ (Int.emod_nonneg _ (by omega)) (Int.emod_lt_of_pos _ (by omega)) (Int.ediv_nonneg n0 (by omega)) ?_
    exact Int.lt_of_le_of_lt (Int.ediv_le_self _ n0) n1
end
end L50
namespace L50
open PySem PySem.Spec PyProof.Rows L2 L54
section
variable {P : Program} {w : World} {K : PySem.W.Frag} {mg : Str → Option Value} {base : Heap}
/-! ### _law_cell -/
def spCell (K : PySem.W.Frag) : Sp := fun vs H Q _ => ∃ (l : Addr) (ns : List Int) (j : Nat), vs = [.ref l, .int (j : Int)] ∧ SqL K H l (ns.map V.int) ∧ j ≤ 1000 ∧ ∀ c : Int, 0 ≤ c → c < big → Q (.int c) H
theorem scC : FnScope ["script", "k", "cell", "found", "j"] ["script", "k"] (defScope sCell) := ⟨rfl, rfl, rfl, by decide +kernel, rfl, by decide +kernel, by decide +kernel⟩
theorem mod0 : (0 : Int) < 10 ^ (60 : Int).toNat * 10 ^ (60 : Int).toNat * 10 ^ (60 : Int).toNat * 10 ^ (60 : Int).toNat := by decide +kernel
theorem mod1 : (10 : Int) ^ (60 : Int).toNat * 10 ^ (60 : Int).toNat * 10 ^ (60 : Int).toNat * 10 ^ (60 : Int).toNat < big := by decide +kernel
theorem pow24 : (2147483579 : Int) ^ 24 < big := by decide +kernel
theorem ok_cell {f fM : Addr} {fd fdM : FuncData} (F : Fun K "_law_cell" "_law_cell" sCell f fd) (T : Bl mg) (FM : Fun K "_law_mixed" "_law_mixed" sMixed fM fdM) (bM : Binds K fdM ["cell", "k"] []) (mM : mg "_law_mixed" = some (.ref fM)) :
    FnOk P w K mg base CX0 2 f fd ["script", "k"] (spCell K) := by
  have GM : FnOk P w K mg base CX0 1 fM fdM ["cell", "k"] spMixed := ok_mixed FM T
  refine F.ok scC (fun vs H Q E h => ?_) (fun cdv A outer s H vs Q E hr h => ?_)
  · obtain ⟨l, ns, j, rfl, _⟩ := h
    rfl
  · obtain ⟨l, ns, j, rfl, hs, hj, h⟩ := h
    obtain ⟨t2, h2, q2⟩ : ∃ t2, PSs (cxOf CX0 P w K mg base ["script", "k", "cell", "found", "j"] "_law_cell" (defScope sCell) f cdv A outer s H E).nox ((defBody sCell).drop 2) t2 ∧
        ∀ c : Int, t2 { nx := fun _ H' => Q .non H', rt := Q } [some (.ref l), some (.int (j : Int)), some (.int c), none, none] H := by
      refine ⟨_, pss_cons (ps_if (pt_cmpR op_ge (pv 2) (pe_op op_pow pe_int pe_int) (nomark _))
          (pss_one (ps_ret (pe_op op_mod (pe_callTy call_int1 rfl T.int b_int (pa_cons (pe_op op_sub (pv 2) (pe_op op_pow pe_int pe_int)) pa_nil))
            (pe_op op_mulW (pe_op op_mulW (pe_op op_mulW (pe_op op_pow pe_int pe_int) (pe_op op_pow pe_int pe_int)) (pe_op op_pow pe_int pe_int)) (pe_op op_pow pe_int pe_int))))) pss_nil)
        (pss_cons (ps_set (i := 3) scC.nd rfl (.inl rfl) pe_int)
        (pss_cons (ps_for PassesOwn.never rfl (pi_range1 rfl T.range (pa_cons pe_int pa_nil)) (pg_name (i := 4) scC.nd rfl (Or.inl rfl))
          (pss_one (ps_set (i := 3) scC.nd rfl (.inl rfl) (pe_op op_add (pe_op op_mul (pv 3) pe_int)
            (pe_call GM hr rfl mM FM.kp bM .nil pass0 (pa_cons (pv 2) (pa_cons (pe_op op_add (pe_op op_add (pe_op op_mul pe_int (pv 1)) (pe_op op_mul pe_int (pv 4))) (pe_op op_mul (pv 4) (pv 4))) pa_nil)))))))
        (pss_one (ps_ret (pv 3))))), fun c => ?_⟩
      have pw : ∀ i j : Int, 0 ≤ j → j ≤ 1000 → i.natAbs < 1000 → CPow i j := fun i j a b c => ⟨a, by omega, Nat.lt_trans c (by decide)⟩
      refine ⟨_, rfl, _, _, rfl, rfl, pw _ _ (by decide) (by decide) (by decide), _, _, rfl, rfl, _, rfl, ?_⟩
      refine ite2 (fun _ => ?_) (fun _ => ?_)
      · refine ⟨_, rfl, _, _, rfl, rfl, pw _ _ (by decide) (by decide) (by decide), _, _, rfl, rfl, .inl ⟨_, rfl, _, _, rfl, rfl, pw _ _ (by decide) (by decide) (by decide), _, _, rfl, rfl, pw _ _ (by decide) (by decide) (by decide), _, _, rfl, rfl, (by unfold CMulW; decide +kernel), _, _, rfl, rfl, pw _ _ (by decide) (by decide) (by decide), _, _, rfl, rfl, (by unfold CMulW; decide +kernel), _, _, rfl, rfl, pw _ _ (by decide) (by decide) (by decide), _, _, rfl, rfl, (by unfold CMulW; decide +kernel), _, _, rfl, rfl, mod0, ?_⟩⟩
        refine h _ (Int.emod_nonneg _ (Int.ne_of_gt mod0)) (Int.lt_trans (Int.emod_lt_of_pos _ mod0) mod1)
      · refine ⟨24, rfl, by decide, by decide, for_range (n := 24) (fun i σ H' => ∃ (fv : Int) (jv : Option V), σ = [some (.ref l), some (.int (j : Int)), some (.int c), some (.int fv), jv] ∧ H' = H ∧ 0 ≤ fv ∧ fv < 2147483579 ^ i) ⟨0, none, rfl, rfl, by decide, by decide⟩ ?_ ?_⟩
        · rintro i σ H' hi ⟨fv, jv, rfl, rfl, f0, f1⟩
          refine ⟨_, rfl, _, _, rfl, rfl, .inr ⟨by decide, by decide⟩, _, rfl, _, rfl, _, _, rfl, rfl, .inl ⟨by decide, by decide⟩, _, rfl, _, _, rfl, rfl, .inl ⟨by decide, by decide⟩, _, _, rfl, rfl, _, rfl, _, rfl, _, _, rfl, rfl, .inl ⟨by omega, by omega⟩, _, _, rfl, rfl, c, _, rfl, fun r r0 r1 => ?_⟩
          refine ⟨_, _, rfl, rfl, _, _, rfl, rfl, by omega, ?_⟩
          rw [Int.pow_succ]
          generalize (2147483579 : Int) ^ i = pp at *
          omega
        · rintro σ H' ⟨fv, jv, rfl, rfl, f0, f1⟩
          exact ⟨_, rfl, h _ f0 (Int.lt_trans f1 pow24)⟩
    refine ⟨_, pss_cons (ps_set (i := 2) scC.nd rfl (.inl rfl) pe_int)
      (pss_cons (ps_if (pt_cmpR op_lt (pv 1) (pe_callB call_len_seq rfl T.len b_len (pa_cons (pv 0) pa_nil)) (nomark _)) (pss_one (ps_set (i := 2) scC.nd rfl (.inl rfl) (pe_ix ix_list (pv 0) (pv 1) (fun _ _ => rfl)))) pss_nil) h2), ?_⟩
    refine ⟨_, rfl, _, rfl, l, _, rfl, .inl hs, _, _, rfl, rfl, _, rfl, ?_⟩
    refine ite2 (fun hlt => ?_) (fun _ => q2 0)
    have hlt' : j < ns.length := by
      have z := of_decide_eq_true hlt
      rw [List.length_map] at z
      omega
    refine ⟨_, rfl, _, rfl, l, _, _, .int (ns[j]), rfl, rfl, hs, atI_nat (by simp [hlt']), q2 _⟩
end
end L50
namespace L50
open PySem PySem.Spec PyProof.Rows L2 L54
/-! ### the module's constants -/
def letters : Str := "abcdefghijklmnopqrstuvwxyz"
def noNames : List Str := ["skip", "start", "end"]
structure Gb (K : PySem.W.Frag) (mg : Str → Option Value) : Prop where
  let_ : ∃ u, mg "LETTERS" = some u ∧ RelV (.str letters) u
  no : ∃ a, mg "NOT_NAMES" = some (.ref a) ∧ ∀ H, SqT K H a (noNames.map V.str)
  ln : ∃ u, mg "LONGEST_NAME" = some u ∧ RelV (.int 8) u
  mp : ∃ u, mg "MOST_PARTS" = some u ∧ RelV (.int 60) u
  mn : ∃ u, mg "MOST_NAMES" = some u ∧ RelV (.int 6) u
  dp : ∃ u, mg "DEEPEST" = some u ∧ RelV (.int 40) u
def isS : PyData → Bool
  | .str _ => true
  | _ => false
def isT : PyData → Bool
  | .tuple _ => true
  | _ => false
theorem nS {c : Bool} {A B : Prop} (a : c = true → A) (b : c = false → B) : if (c = true) then A else B := by cases c with
  | true => exact iT rfl (a rfl)
  | false => exact iF Bool.false_ne_true (b rfl)
theorem k_str {K : PySem.W.Frag} (d : PyData) : PySem.W.kitOne K (tyD d) (.type "str") = some (isS d) := by
  cases d <;> first | exact kit_ty (r := true) (by decide +kernel) | exact kit_ty (r := false) (by decide +kernel)
theorem k_tup {K : PySem.W.Frag} (d : PyData) : PySem.W.kitOne K (tyD d) (.type "tuple") = some (isT d) := by
  cases d <;> first | exact kit_ty (r := true) (by decide +kernel) | exact kit_ty (r := false) (by decide +kernel)
def isName : PyData → Bool
  | .str z => decide (1 ≤ z.length) && decide (z.length ≤ 8) && !noNames.any (isStr (.str z)) && z.cps.toList.all fun c => decide (c ∈ letters.cps.toList)
  | _ => false
section
variable {P : Program} {w : World} {K : PySem.W.Frag} {mg : Str → Option Value} {base : Heap}
def spName (K : PySem.W.Frag) : Sp := fun vs H Q _ => ∃ (v : V) (d : PyData), vs = [v] ∧ Dv K H v d ∧ d.weight ≤ 60000 ∧ ∀ H', Same H H' → Q (.bl (isName d)) H'
abbrev nIN : List Str := ["value", "sign"]
theorem scIN : FnScope nIN ["value"] (defScope sIsName) := ⟨rfl, rfl, rfl, by decide +kernel, rfl, by decide +kernel, by decide +kernel⟩
theorem ok_name {f : Addr} {fd : FuncData} (F : Fun K "is_name" "is_name" sIsName f fd) (T : Bl mg) (G : Gb K mg) : FnOk P w K mg base CX0 1 f fd ["value"] (spName K) := by
  obtain ⟨uL, mL, rL⟩ := G.let_
  obtain ⟨aN, mN, tN⟩ := G.no
  obtain ⟨u8, m8, r8⟩ := G.ln
  refine F.ok scIN (fun vs H Q E h => ?_) (fun cdv A outer s H vs Q E hr h => ?_)
  · obtain ⟨v, d, rfl, _⟩ := h
    rfl
  · obtain ⟨v, d, rfl, hD, hw, h⟩ := h
    have hu := hu_of hr
    refine ⟨_, pss_cons (ps_if (PW.pt (pw_or (pt_not (pt_val (pe_callB call_isD rfl T.isi b_isi (pa_cons (pv 0) (pa_cons (pe_bltn (v := .ty "str") rfl T.str b_str rfl) pa_nil)))))
        (pw_or (pt_not (pt_chain op_le op_le pe_int (pe_callB call_len_str rfl T.len b_len (pa_cons (pv 0) pa_nil)) (pe_glob rfl m8 r8)))
        (pw_or1 (pt_cmpR (op_inZ hu) (pv 0) (pe_glob (v := .ref aN) rfl mN rfl) rfl))))) (pss_one (ps_ret pe_bl)) pss_nil)
      (pss_one (ps_ret (pe_callB (cr_all rfl) rfl T.all b_all (pa_cons (pe_lc (own := [("sign", 1)]) (g := gName 1) (tt := tYes) rfl scIN.nd (pi_str (pv 0)) (blkOk_by (N := nIN) (sc := defScope sIsName) (by decide +kernel)) (fun _ _ _ _ _ => pg_name (i := 1) scIN.nd rfl (Or.inl rfl)) (fun _ _ _ _ _ => pts_nil)
        (fun _ _ _ _ _ => pe_cmpR op_in_sign (pv 1) (pe_glob rfl mL rL) rfl)) pa_nil)))), ?_⟩
    refine ⟨_, rfl, _, _, d, _, _, rfl, .ty _, hD, k_str d, _, rfl, ?_⟩
    cases d with
    | str z =>
      cases hD
      refine iF Bool.false_ne_true ?_
      have hz : z.length ≤ 60000 := hw
      refine ⟨_, rfl, z, rfl, by rw [sizeLine_eq]; omega, _, _, rfl, rfl, _, rfl, nS (fun h1 => ⟨_, _, rfl, rfl, _, rfl, ?_⟩) (fun h1 => ⟨_, rfl, ?_⟩)⟩
      · refine nS (fun h2 => ?_) (fun h2 => ?_)
        · have e : isName (.str z) = false := by simp [isName] at h2 ⊢; intros; omega
          have q := h H (Same.refl H)
          rw [e] at q
          exact q
        · refine ⟨_, rfl, .str z, aN, noNames, .str z, rfl, .inr (tN H), _, rfl, ?_⟩
          refine nS (fun h3 => ?_) (fun h3 => ?_)
          · have e : isName (.str z) = false := by simp [isName, h3]
            have q := h H (Same.refl H)
            rw [e] at q
            exact q
          · refine ⟨_, rfl, z, rfl, fun D nD => ?_⟩
            refine lc_it (walk_str (z := z)) (fun i Hc => Same H Hc ∧ Hc D = some (.lst (((z.cps.toList.take i).map fun c => decide (c ∈ letters.cps.toList)).map V.bl))) ⟨up1 nD, by rw [upd_same]; rfl⟩ (fun _ _ _ _ => True.intro) ?_ ?_
            · rintro i x Hc H' hi ⟨Sc, Lc⟩ ⟨rfl, c, hc, rfl⟩
              refine ⟨rfl, ?_⟩
              refine ⟨_, rfl, c, letters, rfl, rfl, _, Lc, small1000 (by
                have h9 : z.length ≤ 8 := by simp at h2; omega
                have h8 : z.cps.size = z.length := rfl
                rw [List.length_map, List.length_map, List.length_take]
                omega), same_at Sc nD, ?_⟩
              have hc' : z.cps.toList[i]? = some c := by simpa using hc
              rw [upd_same, List.take_add_one, hc']
              simp
            · rintro Hc ⟨Sc, Lc⟩
              have e : (((z.cps.toList.take z.cps.size).map fun c => decide (c ∈ letters.cps.toList)).all id) = isName (.str z) := by
                have f : z.cps.toList.take z.cps.size = z.cps.toList := List.take_of_length_le (by simp)
                rw [f]
                have h8 : 1 ≤ z.length := by simp at h1; omega
                have h9 : z.length ≤ 8 := by simp at h2; omega
                simp [isName, h3, h8, h9, List.all_map]
              refine ⟨D, _, rfl, .inl (.inl Lc), ?_⟩
              rw [e]
              exact h _ Sc
      · refine iT rfl ?_
        have e : isName (.str z) = false := by
          have h1' : ¬ (1 ≤ z.length) := fun z1 => by simp at h1; omega
          simp [isName, h1']
        have q := h H (Same.refl H)
        rw [e] at q
        exact q
    | none => exact iT rfl (h H (Same.refl H))
    | bool b => exact iT rfl (h H (Same.refl H))
    | int i => exact iT rfl (h H (Same.refl H))
    | list ds => exact iT rfl (h H (Same.refl H))
    | tuple ds => exact iT rfl (h H (Same.refl H))
    | dict ds => exact iT rfl (h H (Same.refl H))
end
end L50
namespace L50
open PySem PySem.Spec PyProof.Rows L2 L54
/-! ### a part by its form, its members -/
def one1 : List PyData → Bool
  | [n] => isName n
  | _ => false
def partOf (k : PyData) (r : List PyData) : Bool :=
  if isStr k "do" then one1 r else if isStr k "skip" then r.isEmpty else if isStr k "rep" then decide (r.length = 1) else (isStr k "seq" || isStr k "or") && decide (2 ≤ r.length)
def isPart : PyData → Bool
  | .tuple (k :: r) => partOf k r
  | _ => false
theorem DvAll.at {K : PySem.W.Frag} {H : Hp} {vs : List V} {ds : List PyData} (h : DvAll K H vs ds) {i : Nat} {d : PyData} (e : ds[i]? = some d) : ∃ v, vs[i]? = some v ∧ Dv K H v d := by
  have hl := h.len
  have hi : i < vs.length := by rw [hl]; exact (List.getElem?_eq_some_iff.mp e).1
  obtain ⟨d', e1, e2⟩ := h.get (List.getElem?_eq_getElem hi)
  rw [e] at e1
  cases e1
  exact ⟨_, List.getElem?_eq_getElem hi, e2⟩
theorem wAll_mem : ∀ {ds : List PyData} {d : PyData}, d ∈ ds → d.weight ≤ PyData.weightAll ds
  | x :: xs, d, h => by
    have e : PyData.weightAll (x :: xs) = x.weight + 1 + PyData.weightAll xs := by rw [PyData.weightAll]
    rw [e]
    rcases List.mem_cons.mp h with rfl | h
    · omega
    · have := wAll_mem h
      omega
theorem wAll_len : ∀ ds : List PyData, ds.length ≤ PyData.weightAll ds
  | [] => Nat.zero_le _
  | x :: xs => by
    have e : PyData.weightAll (x :: xs) = x.weight + 1 + PyData.weightAll xs := by rw [PyData.weightAll]
    have := wAll_len xs
    rw [e, List.length_cons]
    omega
theorem w_tup (ds : List PyData) : (PyData.tuple ds).weight = PyData.weightAll ds := by rw [PyData.weight]
theorem at0 {α : Type} {x : α} {xs : List α} : atI (x :: xs) 0 = some x := atI_nat (j := 0) (by simp)
theorem at1 {α : Type} {x y : α} {xs : List α} : atI (x :: y :: xs) 1 = some y := atI_nat (j := 1) (by simp)
theorem dlen {n m : Nat} : decide (V.int (n : Int) = V.int (m : Int)) = decide (n = m) := by
  by_cases h : n = m
  · subst h; simp
  · have : ¬ (V.int (n : Int) = V.int (m : Int)) := fun z => h (by have := V.int.inj z; omega)
    rw [decide_eq_false this, decide_eq_false h]
section
variable {P : Program} {w : World} {K : PySem.W.Frag} {mg : Str → Option Value} {base : Heap}
def spPart (K : PySem.W.Frag) : Sp := fun vs H Q _ => ∃ (v : V) (d : PyData), vs = [v] ∧ Dv K H v d ∧ d.weight ≤ 60000 ∧ ∀ H', Same H H' → Q (.bl (isPart d)) H'
abbrev nIP : List Str := ["value", "kind"]
theorem scIP : FnScope nIP ["value"] (defScope sIsPart) := ⟨rfl, rfl, rfl, by decide +kernel, rfl, by decide +kernel, by decide +kernel⟩
theorem ok_part {f fN : Addr} {fd fdN : FuncData} (F : Fun K "_is_part" "_is_part" sIsPart f fd) (T : Bl mg) (G : Gb K mg) (FN : Fun K "is_name" "is_name" sIsName fN fdN) (bN : Binds K fdN ["value"] []) (mN : mg "is_name" = some (.ref fN)) : FnOk P w K mg base CX0 2 f fd ["value"] (spPart K) := by
  have GN : FnOk P w K mg base CX0 1 fN fdN ["value"] (spName K) := ok_name FN T G
  refine F.ok scIP (fun vs H Q E h => ?_) (fun cdv A outer s H vs Q E hr h => ?_)
  · obtain ⟨v, d, rfl, _⟩ := h
    rfl
  · obtain ⟨v, d, rfl, hD, hw, h⟩ := h
    have hu := hu_of hr
    have hu0 : (A.deeper (envOfC "_is_part" (defScope sIsPart) s.heap.objs.size f cdv)).units < cLine := by omega
    refine ⟨_, pss_cons (ps_if (PW.pt (pw_or (pt_not (pt_val (pe_callB call_isD rfl T.isi b_isi (pa_cons (pv 0) (pa_cons (pe_bltn (v := .ty "tuple") rfl T.tup b_tup rfl) pa_nil)))))
        (pw_or1 (pt_cmpR op_eq (pe_callB call_len_seq rfl T.len b_len (pa_cons (pv 0) pa_nil)) pe_int (nomark _))))) (pss_one (ps_ret pe_bl)) pss_nil)
      (pss_cons (ps_set (i := 1) scIP.nd rfl (.inl rfl) (pe_ix ix_tup (pv 0) pe_int (fun _ _ => rfl)))
      (pss_cons (ps_if (pt_cmpR (op_eqS hu0) (pv 1) pe_str (nomark _)) (pss_one (ps_ret (pe_and (pe_cmpR op_eq (pe_callB call_len_seq rfl T.len b_len (pa_cons (pv 0) pa_nil)) pe_int (nomark _)) (pe_one (pe_call GN hr rfl mN FN.kp bN .nil pass0 (pa_cons (pe_ix ix_tup (pv 0) pe_int (fun _ _ => rfl)) pa_nil)))))) pss_nil)
      (pss_cons (ps_if (pt_cmpR (op_eqS hu0) (pv 1) pe_str (nomark _)) (pss_one (ps_ret (pe_cmpR op_eq (pe_callB call_len_seq rfl T.len b_len (pa_cons (pv 0) pa_nil)) pe_int (nomark _)))) pss_nil)
      (pss_cons (ps_if (pt_cmpR (op_eqS hu0) (pv 1) pe_str (nomark _)) (pss_one (ps_ret (pe_cmpR op_eq (pe_callB call_len_seq rfl T.len b_len (pa_cons (pv 0) pa_nil)) pe_int (nomark _)))) pss_nil)
      (pss_one (ps_ret (pe_and (pe_cmpR (op_inZ hu) (pv 1) (pe_tup (pa_cons pe_str (pa_cons pe_str pa_nil))) rfl) (pe_one (pe_cmpR op_gt (pe_callB call_len_seq rfl T.len b_len (pa_cons (pv 0) pa_nil)) pe_int (nomark _)))))))))), ?_⟩
    refine ⟨_, rfl, _, _, d, _, _, rfl, .ty _, hD, k_tup d, _, rfl, ?_⟩
    cases d with
    | tuple ds =>
      cases hD with
      | @tup a xs _ hs ha =>
        have hl := ha.len
        have hwd : PyData.weightAll ds ≤ 60000 := by rw [← w_tup]; exact hw
        refine iF Bool.false_ne_true ?_
        refine ⟨_, rfl, a, xs, rfl, .inr hs, rfl, _, rfl, ?_⟩
        cases ha with
        | nil => exact iT rfl (h H (Same.refl H))
        | @cons x xs k ds hx ht =>
          have hlt := ht.len
          refine iF (by simp; omega) ?_
          refine ⟨_, rfl, a, _, _, x, rfl, rfl, hs, at0, ?_⟩
          refine ⟨_, rfl, k, _, hx, rfl, _, rfl, ?_⟩
          have hlen : (((x :: xs).length : Nat) : Int) = (ds.length : Int) + 1 := by rw [List.length_cons, hlt]; omega
          refine nS (fun h1 => ?_) (fun h1 => ?_)
          · refine ⟨_, rfl, a, _, rfl, .inr hs, rfl, _, rfl, ?_⟩
            have hp : isPart (.tuple (k :: ds)) = one1 ds := by
              show partOf k ds = _
              unfold partOf
              rw [h1]
              rfl
            cases ht with
            | nil => rw [hp] at h; exact h H (Same.refl H)
            | @cons y ys n es hy ht2 =>
              cases ht2 with
              | nil =>
                rw [hp] at h
                refine ⟨_, rfl, a, _, _, y, rfl, rfl, hs, at1, y, n, rfl, hy, ?_, h⟩
                have := wAll_mem (ds := [k, n]) (d := n) (by simp)
                omega
              | @cons z zs m fs hz ht3 =>
                have e : decide (V.int (((x :: y :: z :: zs).length : Nat) : Int) = V.int 2) = false := decide_eq_false (fun q => by
                  have := V.int.inj q
                  simp only [List.length_cons] at this
                  omega)
                rw [e]
                rw [hp] at h
                exact h H (Same.refl H)
          · refine ⟨_, rfl, k, _, hx, rfl, _, rfl, ?_⟩
            refine nS (fun h2 => ?_) (fun h2 => ?_)
            · refine ⟨_, rfl, a, _, rfl, .inr hs, rfl, ?_⟩
              have hp : isPart (.tuple (k :: ds)) = decide (V.int (((x :: xs).length : Nat) : Int) = V.int 1) := by
                rw [show (V.int 1) = V.int ((1 : Nat) : Int) from rfl, dlen, List.length_cons, hlt]
                show partOf k ds = _
                unfold partOf
                rw [h1, h2]
                cases ds <;> simp
              rw [← hp]
              exact h H (Same.refl H)
            · refine ⟨_, rfl, k, _, hx, rfl, _, rfl, ?_⟩
              refine nS (fun h3 => ?_) (fun h3 => ?_)
              · refine ⟨_, rfl, a, _, rfl, .inr hs, rfl, ?_⟩
                have hp : isPart (.tuple (k :: ds)) = decide (V.int (((x :: xs).length : Nat) : Int) = V.int 2) := by
                  rw [show (V.int 2) = V.int ((2 : Nat) : Int) from rfl, dlen, List.length_cons, hlt]
                  show partOf k ds = _
                  unfold partOf
                  rw [h1, h2, h3]
                  simp
                rw [← hp]
                exact h H (Same.refl H)
              · refine ⟨_, rfl, len_small (by simp), fun p np => ?_⟩
                have S := up1 (o := .tup [V.str "seq", V.str "or"]) np
                refine ⟨k, p, ["seq", "or"], hx.mono S, rfl, .inr (.inl (.inl upd_same)), _, rfl, ?_⟩
                have ha : (["seq", "or"] : List Str).any (isStr k) = (isStr k "seq" || isStr k "or") := by simp
                have hp : isPart (.tuple (k :: ds)) = ((isStr k "seq" || isStr k "or") && decide (2 ≤ ds.length)) := by
                  show partOf k ds = _
                  unfold partOf
                  rw [h1, h2, h3]
                  simp
                rw [ha]
                cases hc : (isStr k "seq" || isStr k "or") with
                | false =>
                  rw [hc] at hp
                  rw [hp] at h
                  exact h _ S
                | true =>
                  rw [hc, Bool.true_and] at hp
                  refine ⟨_, rfl, a, _, rfl, .inr (seqT S hs), _, _, rfl, rfl, ?_⟩
                  have e : decide ((2 : Int) < (((x :: xs).length : Nat) : Int)) = decide (2 ≤ ds.length) := by
                    rw [List.length_cons, hlt]
                    by_cases q : 2 ≤ ds.length
                    · rw [decide_eq_true q, decide_eq_true (by omega)]
                    · rw [decide_eq_false q, decide_eq_false (by omega)]
                  show Q (V.bl (decide ((2 : Int) < (((x :: xs).length : Nat) : Int)))) _
                  rw [e, ← hp]
                  exact h _ S
    | none => exact iT rfl (h H (Same.refl H))
    | bool b => exact iT rfl (h H (Same.refl H))
    | int i => exact iT rfl (h H (Same.refl H))
    | list ds => exact iT rfl (h H (Same.refl H))
    | str ds => exact iT rfl (h H (Same.refl H))
    | dict ds => exact iT rfl (h H (Same.refl H))
end
end L50
namespace L50
open PySem PySem.Spec PyProof.Rows L2 L54
def kids : PyData → List PyData
  | .tuple (k :: r) => if isStr k "do" then [] else r
  | _ => []
section
variable {P : Program} {w : World} {K : PySem.W.Frag} {mg : Str → Option Value} {base : Heap}
def spMem (K : PySem.W.Frag) : Sp := fun vs H Q _ => ∃ (v : V) (k : PyData) (r : List PyData) (G : Hp), vs = [v] ∧ Same G H ∧ Dv K G v (.tuple (k :: r)) ∧ ∀ p H' xs, Same H H' → SqT K H' p xs → DvAll K G xs (kids (.tuple (k :: r))) → Q (.ref p) H'
abbrev nM : List Str := ["part"]
theorem scMe : FnScope nM ["part"] (defScope sMembers) := ⟨rfl, rfl, rfl, by decide +kernel, rfl, by decide +kernel, by decide +kernel⟩
theorem cut1 (x : V) (xs : List V) : cutV (x :: xs) (some 1) none = xs := by
  have e1 : HT.sIx (x :: xs).length 0 (some 1) = 1 := by
    show (if (1 : Int) < 0 then ((1 : Int) + ((x :: xs).length : Int)).toNat else min (1 : Int).toNat (x :: xs).length) = 1
    rw [if_neg (by decide)]
    simp
  have e2 : HT.sIx (x :: xs).length (x :: xs).length none = (x :: xs).length := rfl
  unfold cutV
  rw [e1, e2]
  simp
theorem ok_mem {f : Addr} {fd : FuncData} (F : Fun K "_members" "_members" sMembers f fd) : FnOk P w K mg base CX0 1 f fd ["part"] (spMem K) := by
  refine F.ok scMe (fun vs H Q E h => ?_) (fun cdv A outer s H vs Q E hr h => ?_)
  · obtain ⟨v, k, r, G, rfl, _⟩ := h
    rfl
  · obtain ⟨v, k, r, G, rfl, sG, hD, h⟩ := h
    have hu := hu_of hr
    have hu0 : (A.deeper (envOfC "_members" (defScope sMembers) s.heap.objs.size f cdv)).units < cLine := by omega
    refine ⟨_, pss_cons (ps_if (pt_cmpR (op_eqS hu0) (pe_ix ix_tup (pv 0) pe_int (fun _ _ => rfl)) pe_str (nomark _)) (pss_one (ps_ret (pe_tup pa_nil))) pss_nil)
      (pss_one (ps_ret (pe_slice sl_tup (pv 0) (po_some pe_int) po_none))), ?_⟩
    cases hD with
    | @tup a xs _ hs0 ha =>
      have hs := seqT sG hs0
      cases ha with
      | @cons x xs _ _ hx ht =>
        refine ⟨_, rfl, a, _, _, x, rfl, rfl, hs, at0, k, _, hx.mono sG, rfl, _, rfl, ?_⟩
        refine nS (fun h1 => ?_) (fun h1 => ?_)
        · refine ⟨len_small (by simp), fun p np => h p _ [] (up1 np) (.inl (.inl upd_same)) ?_⟩
          have e : kids (.tuple (k :: r)) = [] := by simp [kids, h1]
          rw [e]
          exact .nil
        · refine ⟨_, rfl, 1, rfl, a, _, rfl, hs, fun z => ?_, fun p np => ?_⟩
          · have e1 : HT.sIx (x :: xs).length 0 (some 1) = 1 := by
              show (if (1 : Int) < 0 then ((1 : Int) + ((x :: xs).length : Int)).toNat else min (1 : Int).toNat (x :: xs).length) = 1
              rw [if_neg (by decide)]
              simp
            rw [e1] at z
            exact absurd z.1 (by decide)
          · rw [cut1]
            have e : kids (.tuple (k :: r)) = r := by simp [kids, h1]
            refine h p _ xs (up1 np) (.inl (.inl upd_same)) ?_
            rw [e]
            exact ht
/-! ### is_program: the walk over the parts -/
def isDo : PyData → Bool
  | .tuple (k :: _) => isStr k "do"
  | _ => false
def nameOf : PyData → Str
  | .tuple [_, .str z] => z
  | _ => ""
def put (d : PyData) (found : List Str) : List Str := if isDo d && !found.any (isStr (.str (nameOf d))) then found ++ [nameOf d] else found
/-- st: the top first -/
def go : Nat → List (PyData × Nat) → List Str → Nat → Bool
  | 0, _, _, _ => false
  | _ + 1, [], found, _ => decide (found.length ≤ 6)
  | n + 1, (d, k) :: st, found, parts => if decide (60 < parts + 1) || decide (40 < k) || !isPart d then false else go n (((kids d).map fun e => (e, k + 1)).reverse ++ st) (put d found) (parts + 1)
def isProg (d : PyData) : Bool := go 62 [(d, 1)] [] 0
/-- the pairs of the walk's list, the top first -/
def Ents (K : PySem.W.Frag) (H Hc : Hp) : List Addr → List (PyData × Nat) → Prop
  | [], [] => True
  | t :: ws, (d, k) :: st => (∃ v, Hc t = some (.tup [v, .int (k : Nat)]) ∧ Dv K H v d ∧ d.weight ≤ 60000) ∧ Ents K H Hc ws st
  | _, _ => False
theorem Ents.to {K : PySem.W.Frag} {H Hc Hd : Hp} (f : ∀ t xs, Hc t = some (.tup xs) → Hd t = some (.tup xs)) : ∀ {ws : List Addr} {st : List (PyData × Nat)}, Ents K H Hc ws st → Ents K H Hd ws st
  | [], [], _ => True.intro
  | t :: ws, (d, k) :: st, ⟨⟨v, a, b⟩, r⟩ => ⟨⟨v, f _ _ a, b⟩, r.to f⟩
  | [], _ :: _, h => h.elim
  | _ :: _, [], h => h.elim
theorem Ents.len {K : PySem.W.Frag} {H Hc : Hp} : ∀ {ws : List Addr} {st : List (PyData × Nat)}, Ents K H Hc ws st → ws.length = st.length
  | [], [], _ => rfl
  | t :: ws, (d, k) :: st, ⟨_, r⟩ => by rw [List.length_cons, List.length_cons, r.len]
  | [], _ :: _, h => h.elim
  | _ :: _, [], h => h.elim
theorem tupU {H : Hp} {l t : Addr} {ys xs : List V} {o : HO} (hl : H l = some (.lst ys)) (h : H t = some (.tup xs)) : upd H l o t = some (.tup xs) := by
  rw [upd_ne (fun e => by rw [e, hl] at h; cases h)]
  exact h
theorem seqU {K : PySem.W.Frag} {H : Hp} {l p : Addr} {ys xs : List V} {o : HO} (hl : H l = some (.lst ys)) (h : SqT K H p xs) : SqT K (upd H l o) p xs := by
  rcases h with (h | ⟨u, h⟩) | h
  · exact .inl (.inl (tupU hl h))
  · refine .inl (.inr ⟨u, ?_⟩)
    rw [upd_ne (fun e => by rw [e, hl] at h; cases h)]
    exact h
  · exact .inr h
def left (σ : L2.St) : Nat := match σ[3]? with
  | some (some (V.int p)) => 61 - p.toNat
  | _ => 0
theorem isPart_shape {d : PyData} (h : isPart d = true) : ∃ k r, d = .tuple (k :: r) ∧ partOf k r = true := by
  cases d with
  | tuple ds =>
    cases ds with
    | nil => cases h
    | cons k r => exact ⟨k, r, rfl, h⟩
  | none => cases h
  | bool _ => cases h
  | int _ => cases h
  | str _ => cases h
  | list _ => cases h
  | dict _ => cases h
theorem partDo {k : PyData} {r : List PyData} (h : partOf k r = true) (e : isStr k "do" = true) : ∃ z, r = [.str z] ∧ isName (.str z) = true := by
  unfold partOf at h
  rw [e] at h
  have h' : one1 r = true := h
  cases r with
  | nil => cases h'
  | cons n t =>
    cases t with
    | cons _ _ => cases h'
    | nil =>
      have h2 : isName n = true := h'
      cases n with
      | str z => exact ⟨z, rfl, h2⟩
      | none => cases h2
      | bool _ => cases h2
      | int _ => cases h2
      | tuple _ => cases h2
      | list _ => cases h2
      | dict _ => cases h2
def whileB (s : Stmt) : List Stmt := match s with
  | .While _ b _ _ => b
  | _ => []
def spProg (K : PySem.W.Frag) : Sp := fun vs H Q _ => ∃ (v : V) (d : PyData), vs = [v] ∧ Dv K H v d ∧ d.weight ≤ 60000 ∧ ∀ H', Same H H' → Q (.bl (isProg d)) H'
abbrev nPr : List Str := ["value", "waiting", "found", "parts", "part", "depth", "member"]
theorem scPr : FnScope nPr ["value"] (defScope sIsProgram) := ⟨rfl, rfl, rfl, by decide +kernel, rfl, by decide +kernel, by decide +kernel⟩
theorem ok_prog {f fP fM fN : Addr} {fd fdP fdM fdN : FuncData} (F : Fun K "is_program" "is_program" sIsProgram f fd) (T : Bl mg) (G : Gb K mg)
    (FN : Fun K "is_name" "is_name" sIsName fN fdN) (bN : Binds K fdN ["value"] []) (mN : mg "is_name" = some (.ref fN))
    (FP : Fun K "_is_part" "_is_part" sIsPart fP fdP) (bP : Binds K fdP ["value"] []) (mP : mg "_is_part" = some (.ref fP))
    (FM : Fun K "_members" "_members" sMembers fM fdM) (bM : Binds K fdM ["part"] []) (mM : mg "_members" = some (.ref fM)) : FnOk P w K mg base CX0 3 f fd ["value"] (spProg K) := by
  have GP : FnOk P w K mg base CX0 2 fP fdP ["value"] (spPart K) := ok_part FP T G FN bN mN
  have GM : FnOk P w K mg base CX0 1 fM fdM ["part"] (spMem K) := ok_mem FM
  obtain ⟨uP, mgP, rP⟩ := G.mp
  obtain ⟨uN, mgN, rN⟩ := G.mn
  obtain ⟨uD, mgD, rD⟩ := G.dp
  refine F.ok scPr (fun vs H Q E h => ?_) (fun cdv A outer s H vs Q E hr h => ?_)
  · obtain ⟨v, d, rfl, _⟩ := h
    rfl
  · obtain ⟨v, d, rfl, hD, hw, h⟩ := h
    have hu := hu_of hr
    have hu0 : (A.deeper (envOfC "is_program" (defScope sIsProgram) s.heap.objs.size f cdv)).units < cLine := by omega
    obtain ⟨tF, hF, qF⟩ : ∃ t, PSs (cxOf CX0 P w K mg base nPr "is_program" (defScope sIsProgram) f cdv A outer s H E).nox ((whileB ((defBody sIsProgram).getD 3 (.Pass ⟨0, 0, 0, 0⟩))).drop 4) t ∧
        ∀ (D : Ends) (l fl : Addr) (pp : V) (k1 : Nat) (v1 : V) (k : PyData) (r : List PyData) (m : Option V) (Hs : Hp) (ws : List Addr) (st : List (PyData × Nat)) (fo : List V), l ≠ fl → H l = none → Dv K H v1 (.tuple (k :: r)) → (PyData.tuple (k :: r)).weight ≤ 60000 → Same H Hs →
          Hs l = some (.lst (ws.reverse.map V.ref)) → Hs fl = some (.lst fo) → Ents K H Hs ws st → st.length ≤ 4000000 →
          (∀ (m' : Option V) (Hd : Hp) (ws' : List Addr), Same H Hd → Hd l = some (.lst (ws'.reverse.map V.ref)) → Hd fl = some (.lst fo) → Ents K H Hd ws' (((kids (.tuple (k :: r))).map fun e => (e, k1 + 1)).reverse ++ st) → D.nx [some v, some (.ref l), some (.ref fl), some pp, some v1, some (.int (k1 : Nat)), m'] Hd) →
          t D [some v, some (.ref l), some (.ref fl), some pp, some v1, some (.int (k1 : Nat)), m] Hs := by
      refine ⟨_, pss_one (ps_for PassesOwn.never rfl (pi_tup (pe_call GM (hr.mono (by decide)) rfl mM FM.kp bM .nil pass0 (pa_cons (pv 4) pa_nil))) (pg_name (i := 6) scPr.nd rfl (Or.inl rfl))
          (pss_one (ps_expr (pe_bm PySem.F.plainAttrs_list PySem.F.slot_list_append PySem.F.type_list_append mt_append (pv 1) (pa_cons (pe_tup (pa_cons (pv 6) (pa_cons (pe_op op_add (pv 5) pe_int) pa_nil))) pa_nil))))), ?_⟩
      intro D l fl pp k1 v1 k r m Hs ws st fo lf nlH hD1 hw1 S hL hFo hE hst hfin
      refine ⟨_, rfl, v1, k, r, H, rfl, S, hD1, fun p H' xs S' hs' ha' => ⟨p, rfl, ⟨xs, hs'⟩, ?_⟩⟩
      have hlen := ha'.len
      have wk : ∀ e ∈ kids (.tuple (k :: r)), e.weight ≤ 60000 := fun e he => by
        have h1 : e ∈ r := by
          simp only [kids] at he
          split at he
          · cases he
          · exact he
        have h2 := wAll_mem (ds := k :: r) (d := e) (List.mem_cons_of_mem _ h1)
        rw [w_tup] at hw1
        omega
      have lk : (kids (.tuple (k :: r))).length ≤ 60000 := by
        have h1 : (kids (.tuple (k :: r))).length ≤ r.length := by
          simp only [kids]
          split
          · exact Nat.zero_le _
          · exact Nat.le_refl _
        have h2 := wAll_len (k :: r)
        rw [w_tup] at hw1
        rw [List.length_cons] at h2
        omega
      generalize hkd : kids (.tuple (k :: r)) = kd at *
      refine for_tup (K := K) (a := p) (xs := xs) (fun i σ Hc => ∃ (m : Option V) (ws2 : List Addr), σ = [some v, some (.ref l), some (.ref fl), some pp, some v1, some (.int (k1 : Nat)), m] ∧ Same H Hc ∧ SqT K Hc p xs ∧ Hc l = some (.lst (ws2.reverse.map V.ref)) ∧ Hc fl = some (.lst fo) ∧
          Ents K H Hc ws2 (((kd.take i).map fun e => (e, k1 + 1)).reverse ++ st)) ?_ (fun i σ Hc _ ⟨_, _, _, _, q, _⟩ => q) ?_ ?_
      · exact ⟨m, ws, rfl, S.trans S', hs', S' _ _ hL, S' _ _ hFo, hE.to (fun t xs h => S' _ _ h)⟩
      · rintro i x σ Hc hi ⟨m, ws2, rfl, S2, hs2, hL2, hF2, hE2⟩
        obtain ⟨e, he, hx⟩ := ha'.get hi
        have hwl := hE2.len
        have hi' : i < kd.length := (List.getElem?_eq_some_iff.mp he).1
        rw [List.length_append, List.length_reverse, List.length_map, List.length_take] at hwl
        refine ⟨_, rfl, .inl ⟨rfl, _, .inl (.inl hL2)⟩, _, rfl, _, rfl, _, _, rfl, rfl, len_small (by simp), fun t nt => ?_⟩
        have U : Same Hc (upd Hc t (.tup [x, .int ((k1 : Int) + 1)])) := up1 nt
        refine ⟨l, _, _, rfl, rfl, U _ _ hL2, ?_, ?_⟩
        · rw [List.length_map, List.length_reverse, sizeLine_eq]
          omega
        · have hL3 := U _ _ hL2
          have ht3 : (upd Hc t (.tup [x, .int ((k1 : Int) + 1)])) t = some (.tup [x, .int (((k1 + 1 : Nat)) : Int)]) := upd_same
          refine ⟨_, t :: ws2, rfl, same_at (S2.trans U) nlH, seqU hL3 (seqT U hs2), ?_, ?_, ?_⟩
          · rw [upd_same]
            simp
          · rw [upd_ne (Ne.symm lf)]
            exact U _ _ hF2
          · have e1 : kd.take (i + 1) = kd.take i ++ [e] := by rw [List.take_add_one, he]; rfl
            rw [e1, List.map_append, List.reverse_append]
            exact ⟨⟨x, tupU hL3 ht3, hx, wk e (List.mem_of_getElem? he)⟩, hE2.to (fun t xs h => tupU hL3 (U _ _ h))⟩
      · rintro σ Hc ⟨m, ws2, rfl, S2, hs2, hL2, hF2, hE2⟩
        have e1 : kd.take xs.length = kd := List.take_of_length_le (by omega)
        rw [e1] at hE2
        exact hfin m Hc ws2 S2 hL2 hF2 hE2
    obtain ⟨tW, hW, qW⟩ : ∃ t, PSs (cxOf CX0 P w K mg base nPr "is_program" (defScope sIsProgram) f cdv A outer s H E).nox ((defBody sIsProgram).drop 3) t ∧ ∀ (l fl t0 : Addr) (Hs : Hp), l ≠ fl → H l = none → H fl = none → Same H Hs → Hs l = some (.lst [.ref t0]) → Hs fl = some (.lst []) → Hs t0 = some (.tup [v, .int 1]) →
        t { nx := fun _ H' => Q .non H', rt := Q } [some v, some (.ref l), some (.ref fl), some (.int 0), none, none, none] Hs := by
      refine ⟨_, pss_cons (ps_while PassesOwn.never (pt_truth (pv 1) (by intro _; rfl))
        (pss_cons (ps_asg (pe_bm0 PySem.F.plainAttrs_list PySem.F.slot_list_pop PySem.F.type_list_pop mt_pop (pv 1)) (pg_tup (by rfl) (pgs_cons (pg_name (i := 4) scPr.nd rfl (Or.inl rfl)) (pgs_cons (pg_name (i := 5) scPr.nd rfl (Or.inl rfl)) pgs_nil))))
        (pss_cons (ps_aug (i := 3) scPr.nd rfl (.inl rfl) pe_int ip_add)
        (pss_cons (ps_if (PW.pt (pw_or (pt_cmpR op_gt (pv 3) (pe_glob rfl mgP rP) (nomark _)) (pw_or (pt_cmpR op_gt (pv 5) (pe_glob rfl mgD rD) (nomark _)) (pw_or1 (pt_not (pt_val (pe_call GP hr rfl mP FP.kp bP .nil pass0 (pa_cons (pv 4) pa_nil)))))))) (pss_one (ps_ret pe_bl)) pss_nil)
        (pss_cons (ps_if (PW.pt (pw_and (pt_cmpR (op_eqS hu0) (pe_ix ix_tup (pv 4) pe_int (fun _ _ => rfl)) pe_str (nomark _)) (pw_and1 (pt_cmpR (op_notInZ hu) (pe_ix ix_tup (pv 4) pe_int (fun _ _ => rfl)) (pv 2) rfl))))
            (pss_one (ps_expr (pe_bm PySem.F.plainAttrs_list PySem.F.slot_list_append PySem.F.type_list_append mt_append (pv 2) (pa_cons (pe_ix ix_tup (pv 4) pe_int (fun _ _ => rfl)) pa_nil)))) pss_nil)
        hF)))))
      (pss_one (ps_ret (pe_cmpR op_le (pe_callB call_len_seq rfl T.len b_len (pa_cons (pv 2) pa_nil)) (pe_glob rfl mgN rN) (nomark _)))), ?_⟩
      intro l fl t0 Hs lf nlH nfH sS hSl hSf hSt
      have good : ∀ Hc, Same H Hc → ∀ b, isProg d = b → Q (.bl b) Hc := fun Hc S b e => by rw [← e]; exact h Hc S
      show tWhile _ _ _ _ _
      refine while_by (fun σ Hc => ∃ ws st found parts, ∃ p dp m : Option V, σ = [some v, some (.ref l), some (.ref fl), some (.int ((parts : Nat) : Int)), p, dp, m] ∧ Same H Hc ∧ Hc l = some (.lst (ws.reverse.map V.ref)) ∧ Hc fl = some (.lst (found.map V.str)) ∧
          Ents K H Hc ws st ∧ parts ≤ 60 ∧ st.length ≤ 1 + 60000 * parts ∧ found.length ≤ parts ∧ go (62 - parts) st found parts = isProg d) (fun σ _ => left σ) ?_ ?_ ?_
      · exact ⟨[t0], [(d, 1)], [], 0, none, none, none, rfl, sS, hSl, hSf, ⟨⟨v, hSt, hD, hw⟩, True.intro⟩, by omega, by simp, by simp, rfl⟩
      · rintro σ Hc ⟨ws, st, found, parts, p, dp, m, rfl, S, hL, hF, hE, hp, hst, hfo, hgo⟩
        refine ⟨_, rfl, _, .inl ⟨_, .inl (.inl hL), rfl⟩, ?_⟩
        have hn : 62 - parts = (61 - parts) + 1 := by omega
        rw [hn] at hgo
        cases st with
        | nil =>
         cases ws with
         | cons _ _ => exact hE.elim
         | nil =>
          refine iF (by simp) ?_
          refine ⟨_, rfl, fl, _, rfl, .inl (.inl (.inl hF)), _, _, rfl, rfl, ?_⟩
          refine good Hc S _ ?_
          rw [← hgo]
          show decide (found.length ≤ 6) = _
          rw [List.length_map]
          by_cases q : found.length ≤ 6
          · rw [decide_eq_true q, decide_eq_true (by omega)]
          · rw [decide_eq_false q, decide_eq_false (by omega)]
        | cons dk st =>
         obtain ⟨d1, k1⟩ := dk
         cases ws with
         | nil => exact hE.elim
         | cons t ws =>
          obtain ⟨⟨v1, ht, hD1, hw1⟩, hE⟩ := hE
          refine iT (by simp) ?_
          have hL' : Hc l = some (.lst (ws.reverse.map V.ref ++ [V.ref t])) := by rw [hL]; simp
          have hg : (if decide (60 < parts + 1) || decide (40 < k1) || !isPart d1 then false else go (61 - parts) (((kids d1).map fun e => (e, k1 + 1)).reverse ++ st) (put d1 found) (parts + 1)) = isProg d := hgo
          refine ⟨_, rfl, .inl ⟨rfl, _, .inl (.inl hL')⟩, l, _, V.ref t, rfl, rfl, hL', by simp, ?_⟩
          have S1 : Same H (upd Hc l (.lst (ws.reverse.map V.ref ++ [V.ref t]).dropLast)) := same_at S nlH
          have hL1 : (upd Hc l (.lst (ws.reverse.map V.ref ++ [V.ref t]).dropLast)) l = some (.lst (ws.reverse.map V.ref)) := by rw [upd_same, List.dropLast_concat]
          have hF1 : (upd Hc l (.lst (ws.reverse.map V.ref ++ [V.ref t]).dropLast)) fl = some (.lst (found.map V.str)) := by rw [upd_ne (Ne.symm lf)]; exact hF
          have hE1 : Ents K H (upd Hc l (.lst (ws.reverse.map V.ref ++ [V.ref t]).dropLast)) ws st := hE.to (fun t xs h => tupU hL h)
          have ht1 : (upd Hc l (.lst (ws.reverse.map V.ref ++ [V.ref t]).dropLast)) t = some (.tup [v1, .int (k1 : Nat)]) := tupU hL ht
          clear hL hL' hF hE ht S
          generalize upd Hc l (.lst (ws.reverse.map V.ref ++ [V.ref t]).dropLast) = H1 at *
          refine ⟨t, _, rfl, .inl (.inl ht1), rfl, _, _, rfl, _, _, rfl, rfl, ?_⟩
          refine ⟨_, rfl, _, _, rfl, rfl, ?_⟩
          refine ⟨_, rfl, _, _, rfl, rfl, _, rfl, ?_⟩
          refine nS (fun c1 => good H1 S1 false ?_) (fun c1 => ?_)
          · have c : decide (60 < parts + 1) = true := decide_eq_true (by have z : (60 : Int) < (parts : Int) + 1 := of_decide_eq_true c1; omega)
            rw [← hg, c]
            rfl
          have c1' : decide (60 < parts + 1) = false := decide_eq_false (by have z : ¬ (60 : Int) < (parts : Int) + 1 := of_decide_eq_false c1; omega)
          refine ⟨_, rfl, _, _, rfl, rfl, _, rfl, ?_⟩
          refine nS (fun c2 => good H1 S1 false ?_) (fun c2 => ?_)
          · have c : decide (40 < k1) = true := decide_eq_true (by have := of_decide_eq_true c2; omega)
            rw [← hg, c1', c]
            rfl
          have c2' : decide (40 < k1) = false := decide_eq_false (by have := of_decide_eq_false c2; omega)
          refine ⟨_, rfl, v1, d1, rfl, hD1.mono S1, hw1, fun H2 S12 => ⟨_, rfl, ?_⟩⟩
          refine nS (fun c3 => good H2 (S1.trans S12) false ?_) (fun c3 => ?_)
          · rw [← hg, c1', c2', c3]
            rfl
          rw [c1', c2', c3] at hg
          have hg' : go (61 - parts) (((kids d1).map fun e => (e, k1 + 1)).reverse ++ st) (put d1 found) (parts + 1) = isProg d := hg
          have c3' : isPart d1 = true := by simpa using c3
          obtain ⟨k, r, rfl, hpo⟩ := isPart_shape c3'
          have S2 := S1.trans S12
          have hL2 := S12 _ _ hL1
          have hF2 := S12 _ _ hF1
          have hE2 : Ents K H H2 ws st := hE1.to (fun t xs h => S12 _ _ h)
          have pp1 : parts + 1 ≤ 60 := by have z := c1'; rw [decide_eq_false_iff_not] at z; omega
          have lk : (kids (.tuple (k :: r))).length ≤ 60000 := by
            have h1 : (kids (.tuple (k :: r))).length ≤ r.length := by
              simp only [kids]
              split
              · exact Nat.zero_le _
              · exact Nat.le_refl _
            have h2 := wAll_len (k :: r)
            rw [w_tup] at hw1
            rw [List.length_cons] at h2
            omega
          obtain ⟨a, x, xs, rfl, hs, hx, hts⟩ : ∃ a x xs, v1 = .ref a ∧ SqT K H a (x :: xs) ∧ Dv K H x k ∧ DvAll K H xs r := by
            cases hD1 with
            | @tup a ys _ hs ha =>
              cases ha with
              | @cons x xs _ _ hx hts => exact ⟨a, x, xs, rfl, hs, hx, hts⟩
          have hsN := seqT S2 hs
          have lst' : (((kids (.tuple (k :: r))).map fun e => (e, k1 + 1)).reverse ++ st).length ≤ 1 + 60000 * (parts + 1) := by
            rw [List.length_append, List.length_reverse, List.length_map]
            rw [List.length_cons] at hst
            omega
          have ms : ∀ (p1 dp1 m1 : Option V), left [some v, some (.ref l), some (.ref fl), some (.int (((parts + 1 : Nat)) : Int)), p1, dp1, m1] < left [some v, some (.ref l), some (.ref fl), some (.int ((parts : Nat) : Int)), p, dp, m] := fun _ _ _ => by
            show 61 - (((parts + 1 : Nat)) : Int).toNat < 61 - ((parts : Nat) : Int).toNat
            omega
          have st1 : st.length ≤ 4000000 := by
            rw [List.length_cons] at hst
            omega
          refine ⟨_, rfl, a, _, _, x, rfl, rfl, hsN, at0, k, _, hx.mono S2, rfl, _, rfl, ?_⟩
          refine nS (fun hk => ?_) (fun hk => ?_)
          · obtain ⟨z, rfl, hz⟩ := partDo hpo hk
            cases hts with
            | @cons y ys _ _ hy hy2 =>
              cases hy2
              cases hy
              have hput : put (.tuple [k, .str z]) found = if !found.any (isStr (.str z)) then found ++ [z] else found := by
                show (if (isStr k "do" && !found.any (isStr (.str z))) then _ else _) = _
                rw [hk, Bool.true_and]
                rfl
              refine ⟨_, rfl, a, _, _, V.str z, rfl, rfl, hsN, at1, _, rfl, .str z, fl, found, .str z, rfl, .inl (.inl (.inl hF2)), _, rfl, ?_⟩
              refine nS (fun hin => ?_) (fun hin => ?_)
              · refine ⟨_, rfl, .inl ⟨rfl, _, .inl (.inl hF2)⟩, _, rfl, a, _, _, V.str z, rfl, rfl, hsN, at1, fl, _, _, rfl, rfl, hF2, small1000 (by rw [List.length_map]; omega), ?_⟩
                rw [hput, hin] at hg'
                refine qF _ l fl _ k1 _ k _ m _ ws st ((found ++ [z]).map V.str) lf nlH hD1 hw1 (same_at S2 nfH) ?_ ?_ (hE2.to (fun t xs h => tupU hF2 h)) st1 ?_
                · rw [upd_ne lf]; exact hL2
                · rw [upd_same, List.map_append]; rfl
                · intro m' Hd ws' Sd hLd hFd hEd
                  exact ⟨⟨ws', _, found ++ [z], parts + 1, _, _, m', rfl, Sd, hLd, hFd, hEd, pp1, lst', by rw [List.length_append]; simp; omega, by rw [show 62 - (parts + 1) = 61 - parts by omega]; exact hg'⟩, ms _ _ _⟩
              · rw [hput, hin] at hg'
                refine qF _ l fl _ k1 _ k _ m _ ws st _ lf nlH hD1 hw1 S2 hL2 hF2 hE2 st1 ?_
                intro m' Hd ws' Sd hLd hFd hEd
                exact ⟨⟨ws', _, found, parts + 1, _, _, m', rfl, Sd, hLd, hFd, hEd, pp1, lst', by omega, by rw [show 62 - (parts + 1) = 61 - parts by omega]; exact hg'⟩, ms _ _ _⟩
          · have hput : put (.tuple (k :: r)) found = found := by
              show (if (isStr k "do" && !found.any (isStr (.str (nameOf (.tuple (k :: r)))))) then _ else _) = _
              rw [hk, Bool.false_and]
              rfl
            rw [hput] at hg'
            refine qF _ l fl _ k1 _ k _ m _ ws st _ lf nlH hD1 hw1 S2 hL2 hF2 hE2 st1 ?_
            intro m' Hd ws' Sd hLd hFd hEd
            exact ⟨⟨ws', _, found, parts + 1, _, _, m', rfl, Sd, hLd, hFd, hEd, pp1, lst', by omega, by rw [show 62 - (parts + 1) = 61 - parts by omega]; exact hg'⟩, ms _ _ _⟩
      · rintro σ Hc Q1 Q2 hh ⟨x, e, k, tr, q⟩
        exact ⟨x, e, k, tr, hh _ _ q⟩
    refine ⟨_, pss_cons (ps_set (i := 1) scPr.nd rfl (.inl rfl) (pe_lst (pa_cons (pe_tup (pa_cons (pv 0) (pa_cons pe_int pa_nil))) pa_nil)))
      (pss_cons (ps_set (i := 2) scPr.nd rfl (.inl rfl) (pe_lst pa_nil))
      (pss_cons (ps_set (i := 3) scPr.nd rfl (.inl rfl) pe_int) hW)), ?_⟩
    refine ⟨_, rfl, len_small (by simp), fun t0 nt0 => ⟨len_small (by simp), fun l nl => ⟨len_small (by simp), fun fl nfl => ?_⟩⟩⟩
    have l0 : l ≠ t0 := fun e => by rw [e, upd_same] at nl; cases nl
    have nlH : H l = none := by rw [upd_ne l0] at nl; exact nl
    have lf : l ≠ fl := fun e => by rw [← e, upd_same] at nfl; cases nfl
    have f0 : fl ≠ t0 := fun e => by rw [e, upd_ne (Ne.symm l0), upd_same] at nfl; cases nfl
    have nfH : H fl = none := by rw [upd_ne (Ne.symm lf), upd_ne f0] at nfl; exact nfl
    refine qW l fl t0 _ lf nlH nfH (same_at (same_at (same_at (Same.refl H) nt0) nlH) nfH) ?_ upd_same ?_
    · rw [upd_ne lf, upd_same]
    · rw [upd_ne (Ne.symm f0), upd_ne (Ne.symm l0), upd_same]
end
end L50
namespace L50
open PySem PySem.Spec PyProof.Rows L2 L54
def nm1 : List PyData → Str
  | [.str z] => z
  | _ => ""
mutual
def look : Nat → PyData → List V → Bool × List V
  | k, .tuple ds, fo => look2 k ds fo
  | _, _, fo => (false, fo)
def look2 : Nat → List PyData → List V → Bool × List V
  | k, h :: r, fo =>
    if decide (40 < k) || decide (60 < fo.length) then (false, fo) else if !isS h then (false, fo) else
    if isStr h "do" then (one1 r, fo ++ [if one1 r then V.str (nm1 r) else V.int 0])
    else if isStr h "skip" then (r.isEmpty, fo ++ [V.str ""])
    else if !(isStr h "seq" || isStr h "or" || isStr h "rep") || (decide (r.length < 2) && !isStr h "rep") then (false, fo ++ [V.str ""])
    else if isStr h "rep" && !decide (r.length = 1) then (false, fo ++ [V.str ""])
    else ((lookAll (k + 1) r (fo ++ [V.str ""])).1.all id, (lookAll (k + 1) r (fo ++ [V.str ""])).2)
  | _, [], fo => (false, fo)
def lookAll : Nat → List PyData → List V → List Bool × List V
  | _, [], fo => ([], fo)
  | k, d :: ds, fo => ((look k d fo).1 :: (lookAll k ds (look k d fo).2).1, (lookAll k ds (look k d fo).2).2)
end
theorem add_len {fo : List V} {x : V} (h : ¬ 60 < fo.length) : (fo ++ [x]).length ≤ 61 := by rw [List.length_append]; simp; omega
mutual
theorem look_len : ∀ (k : Nat) (d : PyData) (fo : List V), fo.length ≤ 61 → (look k d fo).2.length ≤ 61
  | k, .tuple ds, fo, h => by
    rw [look]
    exact look2_len k ds fo h
  | _, .none, fo, h => by rw [look] <;> first | exact h | nofun
  | _, .bool _, fo, h => by rw [look] <;> first | exact h | nofun
  | _, .int _, fo, h => by rw [look] <;> first | exact h | nofun
  | _, .str _, fo, h => by rw [look] <;> first | exact h | nofun
  | _, .list _, fo, h => by rw [look] <;> first | exact h | nofun
  | _, .dict _, fo, h => by rw [look] <;> first | exact h | nofun
theorem look2_len : ∀ (k : Nat) (ds : List PyData) (fo : List V), fo.length ≤ 61 → (look2 k ds fo).2.length ≤ 61
  | k, [], fo, h => by rw [look2]; exact h
  | k, x :: r, fo, h => by
    rw [look2]
    by_cases q : 60 < fo.length
    · simp [q]
      exact h
    · have a : ∀ y : V, (fo ++ [y]).length ≤ 61 := fun y => add_len q
      have b := lookAll_len (k + 1) r (fo ++ [V.str ""]) (a _)
      split
      · exact h
      split
      · exact h
      split
      · exact a _
      split
      · exact a _
      split
      · exact a _
      split
      · exact a _
      · exact b
theorem lookAll_len : ∀ (k : Nat) (ds : List PyData) (fo : List V), fo.length ≤ 61 → (lookAll k ds fo).2.length ≤ 61
  | k, [], fo, h => by rw [lookAll]; exact h
  | k, d :: ds, fo, h => by
    rw [lookAll]
    exact lookAll_len k ds _ (look_len k d fo h)
end
/-- all objects but the one at l stay -/
def SameB (l : Addr) (H H' : Hp) : Prop := ∀ b u, b ≠ l → H b = some u → H' b = some u
theorem SameB.refl {l : Addr} {H : Hp} : SameB l H H := fun _ _ _ e => e
theorem SameB.trans {l : Addr} {H H1 H2 : Hp} (a : SameB l H H1) (b : SameB l H1 H2) : SameB l H H2 := fun x u n e => b x u n (a x u n e)
theorem SameB.of {l : Addr} {H H' : Hp} (s : Same H H') : SameB l H H' := fun b u _ e => s b u e
theorem SameB.at {l : Addr} {H : Hp} {o : HO} : SameB l H (upd H l o) := fun b u n e => by rw [upd_ne n]; exact e
theorem SameB.new {l D : Addr} {H H' : Hp} {o : HO} (b : SameB l H H') (n : H D = none) : SameB l H (upd H' D o) := fun x u ne e => by
  rw [upd_ne (ne_of_none e n)]
  exact b x u ne e
theorem SameB.same {l : Addr} {G H H' : Hp} (b : SameB l H H') (s : Same G H) (n : G l = none) : Same G H' := fun x u e => b x u (fun q => by rw [q, n] at e; cases e) (s x u e)
theorem look_stop {k : Nat} {d : PyData} {fo : List V} (h : decide (40 < k) = true ∨ decide (60 < fo.length) = true ∨ isT d = false) : look k d fo = (false, fo) := by
  cases d with
  | tuple ds =>
    rw [look]
    cases ds with
    | nil => rw [look2]
    | cons x r =>
      rw [look2]
      have e : (decide (40 < k) || decide (60 < fo.length)) = true := by
        rcases h with h | h | h
        · rw [h]; rfl
        · rw [h, Bool.or_true]
        · cases h
      rw [e]
      rfl
  | none => rw [look]; nofun
  | bool _ => rw [look]; nofun
  | int _ => rw [look]; nofun
  | str _ => rw [look]; nofun
  | list _ => rw [look]; nofun
  | dict _ => rw [look]; nofun
theorem dgt {n m : Nat} : decide ((m : Int) < (n : Int)) = decide (m < n) := by
  by_cases h : m < n
  · rw [decide_eq_true h, decide_eq_true (by omega)]
  · rw [decide_eq_false h, decide_eq_false (by omega)]
theorem nS2 {c : Bool} {A B : Prop} (b : B) (a : c = true → B → A) : if (c = true) then A else B := by cases c with
  | true => exact iT rfl (a rfl b)
  | false => exact iF Bool.false_ne_true b
theorem lookAll_snoc (k : Nat) (d : PyData) : ∀ (ds : List PyData) (fo : List V), lookAll k (ds ++ [d]) fo = ((lookAll k ds fo).1 ++ [(look k d (lookAll k ds fo).2).1], (look k d (lookAll k ds fo).2).2)
  | [], fo => by
    rw [List.nil_append, lookAll, lookAll, lookAll]
    rfl
  | e :: ds, fo => by
    rw [List.cons_append, lookAll, lookAll_snoc k d ds, lookAll]
    rfl
theorem lookAll_num : ∀ (k : Nat) (ds : List PyData) (fo : List V), (lookAll k ds fo).1.length = ds.length
  | _, [], _ => by rw [lookAll]; rfl
  | k, d :: ds, fo => by rw [lookAll, List.length_cons, List.length_cons, lookAll_num k ds]
theorem neStr (z t : Str) : (!decide (V.str z = V.str t)) = !isStr (.str z) t := by
  by_cases h : z = t
  · subst h; simp [isStr]
  · have h' : ¬ (V.str z = V.str t) := fun e => h (V.str.inj e)
    have h2 : isStr (.str z) t = false := by
      show (z == t) = false
      exact beq_false_of_ne h
    rw [decide_eq_false h', h2]
theorem lt3 {n : Nat} : decide (((n + 1 : Nat) : Int) < 3) = decide (n < 2) := by
  by_cases h : n < 2
  · rw [decide_eq_true h, decide_eq_true (by omega)]
  · rw [decide_eq_false h, decide_eq_false (by omega)]
theorem ne2 {n : Nat} : (!decide (V.int (((n + 1 : Nat)) : Int) = V.int 2)) = !decide (n = 1) := by
  rw [show (V.int 2) = V.int ((2 : Nat) : Int) from rfl, dlen]
  by_cases h : n = 1
  · subst h; rfl
  · rw [decide_eq_false h, decide_eq_false (by omega)]
theorem eq1' {r : List PyData} : decide (V.int (((r.length + 1 : Nat)) : Int) = V.int 1) = r.isEmpty := by
  rw [show (V.int 1) = V.int ((1 : Nat) : Int) from rfl, dlen]
  cases r <;> simp
theorem depthAll_mem : ∀ {ds : List PyData} {d : PyData}, d ∈ ds → d.depth ≤ PyData.depthAll ds
  | x :: xs, d, h => by
    have e : PyData.depthAll (x :: xs) = max x.depth (PyData.depthAll xs) := by rw [PyData.depthAll]
    rw [e]
    rcases List.mem_cons.mp h with rfl | h
    · omega
    · have := depthAll_mem h
      omega
theorem ixLast {α : Type} {xs : List α} {y : α} : ixN (xs ++ [y]).length (-1) = some xs.length := by
  have hl : (xs ++ [y]).length = xs.length + 1 := by simp
  rw [hl]
  unfold ixN
  rw [if_neg (by decide), if_pos (by omega)]
  congr 1
  omega
theorem setLast {α : Type} {xs : List α} {y v : α} : (xs ++ [y]).set xs.length v = xs ++ [v] := by simp
end L50
namespace L50
open PySem PySem.Spec PyProof.Rows L2 L54
/-! ### what a program is, said once: every part of its form, no deeper than 40 -/
mutual
def wf : Nat → PyData → Bool
  | k, .tuple ds => wf2 k ds
  | _, _ => false
def wf2 : Nat → List PyData → Bool
  | k, h :: r => decide (k ≤ 40) && partOf h r && (isStr h "do" || wfAll (k + 1) r)
  | _, [] => false
def wfAll : Nat → List PyData → Bool
  | _, [] => true
  | k, d :: ds => wf k d && wfAll k ds
end
mutual
/-- the names as they come, "" for a part that isn't an action -/
def pre : PyData → List Str
  | .tuple ds => pre2 ds
  | _ => []
def pre2 : List PyData → List Str
  | h :: r => if isStr h "do" then [nm1 r] else "" :: preAll r
  | [] => []
def preAll : List PyData → List Str
  | [] => []
  | d :: ds => pre d ++ preAll ds
end
theorem partOf_cases {h : PyData} {r : List PyData} : partOf h r = (if isStr h "do" then one1 r else if isStr h "skip" then r.isEmpty else if isStr h "rep" then decide (r.length = 1) else (isStr h "seq" || isStr h "or") && decide (2 ≤ r.length)) := rfl
theorem isStr_eq {h : PyData} {z : Str} (e : isStr h z = true) : h = .str z := by
  cases h with
  | str a => rw [show a = z from eq_of_beq e]
  | none => cases e
  | bool _ => cases e
  | int _ => cases e
  | tuple _ => cases e
  | list _ => cases e
  | dict _ => cases e
theorem part_isS {h : PyData} {r : List PyData} (e : partOf h r = true) : isS h = true := by
  rw [partOf_cases] at e
  cases q1 : isStr h "do" with
  | true => rw [isStr_eq q1]; rfl
  | false =>
  cases q2 : isStr h "skip" with
  | true => rw [isStr_eq q2]; rfl
  | false =>
  cases q3 : isStr h "rep" with
  | true => rw [isStr_eq q3]; rfl
  | false =>
  cases q4 : isStr h "seq" with
  | true => rw [isStr_eq q4]; rfl
  | false =>
  cases q5 : isStr h "or" with
  | true => rw [isStr_eq q5]; rfl
  | false => rw [q1, q2, q3, q4, q5] at e; simp at e
theorem rep_ne {h : PyData} (e : isStr h "rep" = true) : isStr h "seq" = false ∧ isStr h "or" = false := by
  rw [isStr_eq e]
  exact ⟨by decide +kernel, by decide +kernel⟩
/-- one step of the look, by the form -/
theorem look2_step {k : Nat} {h : PyData} {r : List PyData} {fo : List V} : look2 k (h :: r) fo =
    if decide (40 < k) || decide (60 < fo.length) then (false, fo) else if !isS h then (false, fo) else
    if isStr h "do" then (one1 r, fo ++ [if one1 r then V.str (nm1 r) else V.int 0]) else
    if partOf h r then ((lookAll (k + 1) r (fo ++ [V.str ""])).1.all id, (lookAll (k + 1) r (fo ++ [V.str ""])).2) else (false, fo ++ [V.str ""]) := by
  rw [look2, partOf_cases]
  cases q1 : isStr h "do" with
  | true => simp
  | false =>
  cases q2 : isStr h "skip" with
  | true =>
    cases r with
    | nil => rw [lookAll]; simp
    | cons x r => simp
  | false =>
  cases q3 : isStr h "rep" with
  | true =>
    by_cases q : r.length = 1
    · simp [q]
    · simp [q]
  | false =>
  cases q4 : (isStr h "seq" || isStr h "or") with
  | false => simp
  | true =>
    by_cases q : 2 ≤ r.length
    · have q' : ¬ r.length < 2 := by omega
      simp [q, q']
    · have q' : r.length < 2 := by omega
      simp [q, q']
mutual
theorem look_wf : ∀ (k : Nat) (d : PyData) (fo : List V), (look k d fo).1 = true → wf k d = true ∧ (look k d fo).2 = fo ++ (pre d).map V.str
  | k, .tuple ds, fo, h => by
    rw [look] at h ⊢
    rw [wf, pre]
    exact look2_wf k ds fo h
  | _, .none, fo, h => by rw [look] at h <;> first | cases h | nofun
  | _, .bool _, fo, h => by rw [look] at h <;> first | cases h | nofun
  | _, .int _, fo, h => by rw [look] at h <;> first | cases h | nofun
  | _, .str _, fo, h => by rw [look] at h <;> first | cases h | nofun
  | _, .list _, fo, h => by rw [look] at h <;> first | cases h | nofun
  | _, .dict _, fo, h => by rw [look] at h <;> first | cases h | nofun
theorem look2_wf : ∀ (k : Nat) (ds : List PyData) (fo : List V), (look2 k ds fo).1 = true → wf2 k ds = true ∧ (look2 k ds fo).2 = fo ++ (pre2 ds).map V.str
  | k, [], fo, h => by rw [look2] at h; cases h
  | k, x :: r, fo, h => by
    have ih := lookAll_wf (k + 1) r (fo ++ [V.str ""])
    rw [look2_step] at h ⊢
    rw [wf2, pre2]
    cases c1 : (decide (40 < k) || decide (60 < fo.length)) with
    | true => rw [c1] at h; cases h
    | false =>
    rw [c1] at h
    have hk : decide (k ≤ 40) = true := by
      have q := (Bool.or_eq_false_iff.mp c1).1
      exact decide_eq_true (by have := of_decide_eq_false q; omega)
    cases c2 : isS x with
    | false => rw [c2] at h; cases h
    | true =>
    rw [c2] at h
    cases c3 : isStr x "do" with
    | true =>
      rw [c3] at h
      have ho : one1 r = true := h
      rw [hk, partOf_cases, c3, ho]
      simp
    | false =>
    rw [c3] at h
    cases c4 : partOf x r with
    | false => rw [c4] at h; cases h
    | true =>
      rw [c4] at h
      obtain ⟨w1, w2⟩ := ih h
      rw [hk, w1]
      refine ⟨by simp, ?_⟩
      show (lookAll (k + 1) r (fo ++ [V.str ""])).2 = _
      rw [w2]
      simp
theorem lookAll_wf : ∀ (k : Nat) (ds : List PyData) (fo : List V), (lookAll k ds fo).1.all id = true → wfAll k ds = true ∧ (lookAll k ds fo).2 = fo ++ (preAll ds).map V.str
  | k, [], fo, h => by rw [lookAll, wfAll, preAll]; simp
  | k, d :: ds, fo, h => by
    rw [lookAll] at h ⊢
    rw [wfAll, preAll]
    rw [List.all_cons, Bool.and_eq_true] at h
    obtain ⟨a1, a2⟩ := look_wf k d fo h.1
    obtain ⟨b1, b2⟩ := lookAll_wf k ds _ h.2
    rw [a1, b1]
    refine ⟨rfl, ?_⟩
    show (lookAll k ds (look k d fo).2).2 = _
    rw [b2, a2]
    simp
end
mutual
theorem wf_look : ∀ (k : Nat) (d : PyData) (fo : List V), wf k d = true → fo.length + (pre d).length ≤ 61 → (look k d fo).1 = true
  | k, .tuple ds, fo, h, hl => by
    rw [wf] at h
    rw [pre] at hl
    rw [look]
    exact wf2_look k ds fo h hl
  | _, .none, fo, h, _ => by rw [wf] at h <;> first | cases h | nofun
  | _, .bool _, fo, h, _ => by rw [wf] at h <;> first | cases h | nofun
  | _, .int _, fo, h, _ => by rw [wf] at h <;> first | cases h | nofun
  | _, .str _, fo, h, _ => by rw [wf] at h <;> first | cases h | nofun
  | _, .list _, fo, h, _ => by rw [wf] at h <;> first | cases h | nofun
  | _, .dict _, fo, h, _ => by rw [wf] at h <;> first | cases h | nofun
theorem wf2_look : ∀ (k : Nat) (ds : List PyData) (fo : List V), wf2 k ds = true → fo.length + (pre2 ds).length ≤ 61 → (look2 k ds fo).1 = true
  | k, [], fo, h, _ => by rw [wf2] at h; cases h
  | k, x :: r, fo, h, hl => by
    have ih := wfAll_look (k + 1) r (fo ++ [V.str ""])
    rw [wf2, Bool.and_eq_true, Bool.and_eq_true] at h
    obtain ⟨⟨h1, h2⟩, h3⟩ := h
    rw [pre2] at hl
    have hk := of_decide_eq_true h1
    have h4 : fo.length + 1 ≤ 61 := by
      split at hl
      · simpa using hl
      · rw [List.length_cons] at hl; omega
    rw [look2_step]
    have c1 : (decide (40 < k) || decide (60 < fo.length)) = false := by
      rw [decide_eq_false (by omega), decide_eq_false (by omega)]
      rfl
    rw [c1, part_isS h2]
    cases c3 : isStr x "do" with
    | true =>
      rw [partOf_cases, c3] at h2
      exact h2
    | false =>
      rw [c3] at hl h3
      rw [h2]
      rw [Bool.false_or] at h3
      have hl' : fo.length + (("" : Str) :: preAll r).length ≤ 61 := hl
      refine ih h3 ?_
      rw [List.length_append]
      rw [List.length_cons] at hl'
      simp
      omega
theorem wfAll_look : ∀ (k : Nat) (ds : List PyData) (fo : List V), wfAll k ds = true → fo.length + (preAll ds).length ≤ 61 → (lookAll k ds fo).1.all id = true
  | k, [], fo, _, _ => by rw [lookAll]; rfl
  | k, d :: ds, fo, h, hl => by
    rw [wfAll, Bool.and_eq_true] at h
    rw [preAll, List.length_append] at hl
    have a := wf_look k d fo h.1 (by omega)
    have b := (look_wf k d fo a).2
    rw [lookAll, List.all_cons, a, Bool.and_eq_true]
    refine ⟨rfl, wfAll_look k ds _ h.2 ?_⟩
    rw [b, List.length_append, List.length_map]
    omega
end
end L50
namespace L50
open PySem PySem.Spec PyProof.Rows L2 L54
theorem wfAll_eq (k : Nat) : ∀ ds : List PyData, wfAll k ds = ds.all (wf k)
  | [] => by rw [wfAll]; rfl
  | d :: ds => by rw [wfAll, wfAll_eq k ds]; rfl
theorem preAll_eq : ∀ ds : List PyData, preAll ds = ds.flatMap pre
  | [] => by rw [preAll]; rfl
  | d :: ds => by rw [preAll, preAll_eq ds]; rfl
def own (d : PyData) : Str := if isDo d then nameOf d else ""
theorem wf_kids {k : Nat} {d : PyData} (h : isPart d = true) : wf k d = (decide (k ≤ 40) && (kids d).all (wf (k + 1))) := by
  obtain ⟨x, r, rfl, hp⟩ := isPart_shape h
  rw [wf, wf2, hp, wfAll_eq, kids]
  cases q : isStr x "do" with
  | true => simp
  | false => simp
theorem wf_part {k : Nat} {d : PyData} (h : wf k d = true) : isPart d = true ∧ k ≤ 40 := by
  cases d with
  | tuple ds =>
    rw [wf] at h
    cases ds with
    | nil => rw [wf2] at h; cases h
    | cons x r =>
      rw [wf2, Bool.and_eq_true, Bool.and_eq_true] at h
      exact ⟨h.1.2, of_decide_eq_true h.1.1⟩
  | none => rw [wf] at h <;> first | cases h | nofun
  | bool _ => rw [wf] at h <;> first | cases h | nofun
  | int _ => rw [wf] at h <;> first | cases h | nofun
  | str _ => rw [wf] at h <;> first | cases h | nofun
  | list _ => rw [wf] at h <;> first | cases h | nofun
  | dict _ => rw [wf] at h <;> first | cases h | nofun
theorem pre_kids {d : PyData} (h : isPart d = true) : pre d = own d :: (kids d).flatMap pre := by
  obtain ⟨x, r, rfl, hp⟩ := isPart_shape h
  rw [pre, pre2, preAll_eq, kids]
  cases q : isStr x "do" with
  | true =>
    obtain ⟨z, rfl, hz⟩ := partDo hp q
    have e : own (.tuple [x, .str z]) = z := by
      show (if isStr x "do" = true then z else "") = z
      rw [q]
      rfl
    rw [e]
    rfl
  | false =>
    have e : own (.tuple (x :: r)) = "" := by
      have q2 : isDo (.tuple (x :: r)) = false := q
      unfold own
      rw [q2]
      rfl
    rw [e]
    rfl
/-- the names done in it -/
def act (d : PyData) (x : Str) : Prop := x ∈ pre d ∧ x ≠ ""
theorem name_ne {z : Str} (h : isName (.str z) = true) : z ≠ "" := fun e => by
  subst e
  revert h
  decide +kernel
theorem own_do {d : PyData} (h : isPart d = true) (q : isDo d = true) : own d = nameOf d ∧ nameOf d ≠ "" := by
  obtain ⟨x, r, rfl, hp⟩ := isPart_shape h
  have q' : isStr x "do" = true := q
  obtain ⟨z, rfl, hz⟩ := partDo hp q'
  refine ⟨?_, name_ne hz⟩
  unfold own
  rw [q]
  rfl
theorem own_no {d : PyData} (q : isDo d = false) : own d = "" := by
  unfold own
  rw [q]
  rfl
theorem any_mem {z : Str} {found : List Str} : found.any (isStr (.str z)) = decide (z ∈ found) := by
  rw [Bool.eq_iff_iff, List.any_eq_true, decide_eq_true_iff]
  constructor
  · rintro ⟨y, hy, e⟩
    have : z = y := eq_of_beq e
    rw [this]; exact hy
  · intro h
    exact ⟨z, h, beq_self_eq_true z⟩
theorem put_mem {d : PyData} {found : List Str} (h : isPart d = true) (x : Str) : x ∈ put d found ↔ x ∈ found ∨ (x = own d ∧ x ≠ "") := by
  unfold put
  rw [any_mem]
  cases q : isDo d with
  | false =>
    rw [own_no q]
    simp
  | true =>
    obtain ⟨e1, e2⟩ := own_do h q
    rw [e1]
    by_cases m : nameOf d ∈ found
    · simp only [Bool.true_and, m, decide_true, Bool.not_true, Bool.false_eq_true, if_false]
      constructor
      · exact .inl
      · rintro (a | ⟨rfl, _⟩)
        · exact a
        · exact m
    · simp only [Bool.true_and, m, decide_false, Bool.not_false, if_true, List.mem_append, List.mem_singleton]
      constructor
      · rintro (a | rfl)
        · exact .inl a
        · exact .inr ⟨rfl, e2⟩
      · rintro (a | ⟨rfl, _⟩)
        · exact .inl a
        · exact .inr rfl
theorem put_nodup {d : PyData} {found : List Str} (h : found.Nodup) : (put d found).Nodup := by
  unfold put
  rw [any_mem]
  split
  · rename_i q
    rw [Bool.and_eq_true] at q
    have m : nameOf d ∉ found := by simpa using q.2
    rw [List.nodup_append]
    refine ⟨h, by simp, ?_⟩
    intro a ha b hb e
    rw [List.mem_singleton] at hb
    rw [e, hb] at ha
    exact m ha
  · exact h
theorem nodup_le {α : Type} [DecidableEq α] : ∀ {A B : List α}, A.Nodup → (∀ x ∈ A, x ∈ B) → A.length ≤ B.length
  | [], _, _, _ => Nat.zero_le _
  | a :: A, B, hA, h => by
    rw [List.nodup_cons] at hA
    have hB : a ∈ B := h a List.mem_cons_self
    have q := nodup_le (B := B.erase a) hA.2 fun x hx => by
      have hne : x ≠ a := fun e => hA.1 (by rw [← e]; exact hx)
      exact (List.mem_erase_of_ne hne).mpr (h x (List.mem_cons_of_mem _ hx))
    rw [List.length_erase_of_mem hB] at q
    have := List.length_pos_of_mem hB
    rw [List.length_cons]
    omega
theorem nodup_len {α : Type} [DecidableEq α] {A B : List α} (hA : A.Nodup) (hB : B.Nodup) (h : ∀ x, x ∈ A ↔ x ∈ B) : A.length = B.length :=
  Nat.le_antisymm (nodup_le hA fun x hx => (h x).mp hx) (nodup_le hB fun x hx => (h x).mpr hx)
def cnt (d : PyData) : Nat := (pre d).length
def cnts : List (PyData × Nat) → Nat
  | [] => 0
  | p :: st => cnt p.1 + cnts st
theorem cnts_app : ∀ (a b : List (PyData × Nat)), cnts (a ++ b) = cnts a + cnts b
  | [], b => by simp [cnts]
  | p :: a, b => by rw [List.cons_append, cnts, cnts, cnts_app a b]; omega
theorem cnts_rev : ∀ (a : List (PyData × Nat)), cnts a.reverse = cnts a
  | [] => rfl
  | p :: a => by rw [List.reverse_cons, cnts_app, cnts_rev a, cnts, cnts, cnts]; omega
theorem cnts_kids (k : Nat) : ∀ ds : List PyData, cnts (ds.map fun e => (e, k)) = (ds.flatMap pre).length
  | [] => rfl
  | d :: ds => by
    rw [List.map_cons, cnts, cnts_kids k ds, List.flatMap_cons, List.length_append]
    rfl
theorem go_spec : ∀ (n : Nat) (st : List (PyData × Nat)) (found : List Str) (parts : Nat), n + parts = 62 → parts ≤ 60 → found.Nodup →
    (go n st found parts = true ↔ (∀ p ∈ st, wf p.2 p.1 = true) ∧ parts + cnts st ≤ 60 ∧ ∀ F : List Str, F.Nodup → (∀ x, x ∈ F ↔ x ∈ found ∨ ∃ p ∈ st, act p.1 x) → F.length ≤ 6)
  | 0, _, _, _, h, h2, _ => by omega
  | n + 1, [], found, parts, h, h2, hn => by
    show decide (found.length ≤ 6) = true ↔ _
    rw [decide_eq_true_iff]
    constructor
    · intro q
      refine ⟨fun p hp => (by cases hp), by simpa [cnts] using h2, fun F hF hm => ?_⟩
      rw [nodup_len hF hn fun x => by rw [hm x]; simp]
      exact q
    · rintro ⟨_, _, q⟩
      exact q found hn fun x => by simp
  | n + 1, (d, k) :: st, found, parts, h, h2, hn => by
    have ih := go_spec n (((kids d).map fun e => (e, k + 1)).reverse ++ st) (put d found) (parts + 1) (by omega)
    show (if decide (60 < parts + 1) || decide (40 < k) || !isPart d then false else go n (((kids d).map fun e => (e, k + 1)).reverse ++ st) (put d found) (parts + 1)) = true ↔ _
    by_cases hc : (decide (60 < parts + 1) || decide (40 < k) || !isPart d) = true
    · rw [if_pos hc]
      constructor
      · intro q; cases q
      · rintro ⟨q1, q2, _⟩
        have w := q1 (d, k) List.mem_cons_self
        obtain ⟨w1, w2⟩ := wf_part w
        have c1 : 1 ≤ cnt d := by
          unfold cnt
          rw [pre_kids w1]
          simp
        rw [cnts] at q2
        rw [Bool.or_eq_true, Bool.or_eq_true, decide_eq_true_iff, decide_eq_true_iff, w1] at hc
        rcases hc with (a | a) | a
        · have c2 : parts + (cnt d + cnts st) ≤ 60 := q2
          omega
        · have w2' : k ≤ 40 := w2
          omega
        · cases a
    · rw [if_neg hc]
      rw [Bool.or_eq_true, Bool.or_eq_true, decide_eq_true_iff, decide_eq_true_iff, not_or, not_or] at hc
      obtain ⟨⟨c1, c2⟩, c3⟩ := hc
      have w1 : isPart d = true := by simpa using c3
      rw [ih (by omega) (put_nodup hn)]
      have e1 : cnts (((kids d).map fun e => (e, k + 1)).reverse ++ st) + 1 = cnts ((d, k) :: st) := by
        have e2 : cnt d = ((kids d).flatMap pre).length + 1 := by
          unfold cnt
          rw [pre_kids w1, List.length_cons]
        rw [cnts_app, cnts_rev, cnts_kids, cnts]
        show _ = cnt d + cnts st
        omega
      have e3 : (∀ p ∈ ((kids d).map fun e => (e, k + 1)).reverse ++ st, wf p.2 p.1 = true) ↔ ∀ p ∈ (d, k) :: st, wf p.2 p.1 = true := by
        have ew := wf_kids (k := k) w1
        rw [decide_eq_true (by omega), Bool.true_and] at ew
        constructor
        · intro q p hp
          rcases List.mem_cons.mp hp with rfl | hp
          · show wf k d = true
            rw [ew, List.all_eq_true]
            intro e he
            exact q (e, k + 1) (List.mem_append_left _ (List.mem_reverse.mpr (List.mem_map.mpr ⟨e, he, rfl⟩)))
          · exact q p (List.mem_append_right _ hp)
        · intro q p hp
          rcases List.mem_append.mp hp with hp | hp
          · obtain ⟨e, he, rfl⟩ := List.mem_map.mp (List.mem_reverse.mp hp)
            have z : wf k d = true := q (d, k) List.mem_cons_self
            rw [ew, List.all_eq_true] at z
            exact z e he
          · exact q p (List.mem_cons_of_mem _ hp)
      have e4 : ∀ x, (x ∈ put d found ∨ ∃ p ∈ ((kids d).map fun e => (e, k + 1)).reverse ++ st, act p.1 x) ↔ (x ∈ found ∨ ∃ p ∈ (d, k) :: st, act p.1 x) := by
        intro x
        rw [put_mem w1]
        have ha : act d x ↔ (x = own d ∧ x ≠ "") ∨ ∃ e ∈ kids d, act e x := by
          unfold act
          rw [pre_kids w1, List.mem_cons, List.mem_flatMap]
          constructor
          · rintro ⟨a | ⟨e, he, hx⟩, hne⟩
            · exact .inl ⟨a, hne⟩
            · exact .inr ⟨e, he, hx, hne⟩
          · rintro (⟨a, hne⟩ | ⟨e, he, hx, hne⟩)
            · exact ⟨.inl a, hne⟩
            · exact ⟨.inr ⟨e, he, hx⟩, hne⟩
        constructor
        · rintro ((a | a) | ⟨p, hp, hx⟩)
          · exact .inl a
          · exact .inr ⟨(d, k), List.mem_cons_self, ha.mpr (.inl a)⟩
          · rcases List.mem_append.mp hp with hp | hp
            · obtain ⟨e, he, rfl⟩ := List.mem_map.mp (List.mem_reverse.mp hp)
              exact .inr ⟨(d, k), List.mem_cons_self, ha.mpr (.inr ⟨e, he, hx⟩)⟩
            · exact .inr ⟨p, List.mem_cons_of_mem _ hp, hx⟩
        · rintro (a | ⟨p, hp, hx⟩)
          · exact .inl (.inl a)
          · rcases List.mem_cons.mp hp with rfl | hp
            · rcases ha.mp hx with a | ⟨e, he, hx⟩
              · exact .inl (.inr a)
              · exact .inr ⟨(e, k + 1), List.mem_append_left _ (List.mem_reverse.mpr (List.mem_map.mpr ⟨e, he, rfl⟩)), hx⟩
            · exact .inr ⟨p, List.mem_append_right _ hp, hx⟩
      rw [e3, ← e1]
      constructor
      · rintro ⟨a, b, c⟩
        exact ⟨a, by omega, fun F hF hm => c F hF fun x => by rw [hm x, e4 x]⟩
      · rintro ⟨a, b, c⟩
        exact ⟨a, by omega, fun F hF hm => c F hF fun x => by rw [hm x, e4 x]⟩
/-- is_program, said by its words -/
theorem prog_spec (d : PyData) : isProg d = true ↔ wf 1 d = true ∧ (pre d).length ≤ 60 ∧ ∀ F : List Str, F.Nodup → (∀ x, x ∈ F ↔ act d x) → F.length ≤ 6 := by
  unfold isProg
  rw [go_spec 62 [(d, 1)] [] 0 (by omega) (by omega) .nil]
  have e : cnts [(d, 1)] = (pre d).length := by simp [cnts, cnt]
  rw [e]
  constructor
  · rintro ⟨a, b, c⟩
    exact ⟨a (d, 1) List.mem_cons_self, by omega, fun F hF hm => c F hF fun x => by rw [hm x]; simp⟩
  · rintro ⟨a, b, c⟩
    refine ⟨fun p hp => ?_, by omega, fun F hF hm => c F hF fun x => by rw [hm x]; simp⟩
    rw [List.mem_singleton] at hp
    rw [hp]
    exact a
end L50
namespace L50
open PySem PySem.Spec PyProof.Rows L2 L54
theorem b_dct : bootBuiltins "dict" = some (.type "dict") := by decide +kernel
def addN (acc : List Str) (z : Str) : List Str := if z ∈ acc then acc else acc ++ [z]
def nkv (z : Str) : Key × V := (Sum.inr z, V.bl true)
theorem put_nkv (acc : List Str) (z : Str) : putK (acc.map nkv) (nkv z).1 (nkv z).2 = (addN acc z).map nkv := by
  unfold putK addN
  have e : ((acc.map nkv).any fun kv => decide (kv.1 = (nkv z).1)) = decide (z ∈ acc) := by
    rw [Bool.eq_iff_iff, List.any_eq_true, decide_eq_true_iff]
    constructor
    · rintro ⟨kv, h1, h2⟩
      obtain ⟨y, hy, rfl⟩ := List.mem_map.mp h1
      have q : (Sum.inr y : Key) = Sum.inr z := of_decide_eq_true h2
      cases q
      exact hy
    · intro h
      exact ⟨nkv z, List.mem_map.mpr ⟨z, h, rfl⟩, decide_eq_true rfl⟩
  rw [e]
  by_cases h : z ∈ acc
  · rw [if_pos (decide_eq_true h), if_pos h]
    have q : ∀ kv ∈ acc.map nkv, (if kv.1 = (nkv z).1 then (kv.1, (nkv z).2) else kv) = kv := by
      intro kv hk
      obtain ⟨y, _, rfl⟩ := List.mem_map.mp hk
      split
      · rfl
      · rfl
    exact (List.map_congr_left q).trans (List.map_id' _)
  · rw [if_neg (by simpa using h), if_neg h, List.map_append]
    rfl
theorem merge_nkv : ∀ (zs acc : List Str), mergeK (acc.map nkv) (zs.map nkv) = (zs.foldl addN acc).map nkv
  | [], _ => rfl
  | z :: zs, acc => by
    show mergeK (putK (acc.map nkv) (nkv z).1 (nkv z).2) (zs.map nkv) = _
    rw [put_nkv, merge_nkv zs]
    rfl
theorem addN_nodup : ∀ (zs acc : List Str), acc.Nodup → (zs.foldl addN acc).Nodup ∧ ∀ x, x ∈ zs.foldl addN acc ↔ x ∈ acc ∨ x ∈ zs
  | [], acc, h => ⟨h, fun x => by simp⟩
  | z :: zs, acc, h => by
    have h1 : (addN acc z).Nodup := by
      unfold addN
      split
      · exact h
      · rename_i m
        rw [List.nodup_append]
        refine ⟨h, by simp, ?_⟩
        intro a ha b hb e
        rw [List.mem_singleton] at hb
        rw [e, hb] at ha
        exact m ha
    have h2 : ∀ x, x ∈ addN acc z ↔ x ∈ acc ∨ x = z := by
      intro x
      unfold addN
      split
      · rename_i m
        constructor
        · exact .inl
        · rintro (a | rfl)
          · exact a
          · exact m
      · simp
    obtain ⟨a, b⟩ := addN_nodup zs _ h1
    refine ⟨a, fun x => ?_⟩
    show x ∈ zs.foldl addN (addN acc z) ↔ _
    rw [b x, h2 x, List.mem_cons]
    constructor
    · rintro ((a | a) | a)
      · exact .inl a
      · exact .inr (.inl a)
      · exact .inr (.inr a)
    · rintro (a | a | a)
      · exact .inl (.inl a)
      · exact .inl (.inr a)
      · exact .inr a
def noE (z : Str) : Bool := !decide (V.str z = V.str "")
theorem noE_iff (z : Str) : noE z = true ↔ z ≠ "" := by
  unfold noE
  rw [Bool.not_eq_true', decide_eq_false_iff_not]
  constructor
  · intro h e
    exact h (by rw [e])
  · intro h e
    exact h (V.str.inj e)
def dstn (d : PyData) : List Str := ((pre d).filter noE).foldl addN []
theorem dstn_mem (d : PyData) : (dstn d).Nodup ∧ ∀ x, x ∈ dstn d ↔ act d x := by
  obtain ⟨a, b⟩ := addN_nodup ((pre d).filter noE) [] .nil
  refine ⟨a, fun x => ?_⟩
  show x ∈ ((pre d).filter noE).foldl addN [] ↔ _
  rw [b x, List.mem_filter, noE_iff]
  simp [act]
theorem is_spec (d : PyData) : isProg d = ((look 1 d []).1 && (decide ((pre d).length ≤ 60) && decide ((dstn d).length ≤ 6))) := by
  rw [Bool.eq_iff_iff, prog_spec, Bool.and_eq_true, Bool.and_eq_true, decide_eq_true_iff, decide_eq_true_iff]
  obtain ⟨n1, n2⟩ := dstn_mem d
  constructor
  · rintro ⟨a, b, c⟩
    exact ⟨wf_look 1 d [] a (by simp; omega), b, c _ n1 n2⟩
  · rintro ⟨a, b, c⟩
    refine ⟨(look_wf 1 d [] a).1, b, fun F hF hm => ?_⟩
    rw [nodup_len hF n1 fun x => by rw [hm x, n2 x]]
    exact c
theorem pairSnoc {α β : Type} {R : α → β → Prop} {a : α} {b : β} (h : R a b) : ∀ {as : List α} {bs : List β}, Paired R as bs → Paired R (as ++ [a]) (bs ++ [b])
  | _, _, .nil => .cons h .nil
  | _, _, .cons r t => .cons r (pairSnoc h t)
end L50
/-! texts of programs, as lists of signs: what they are, what reading gives, that reading a program's text gives it -/
namespace L50
open PySem PySem.Spec PyProof.Rows L2 L54
def isL (c : Nat) : Bool := decide (c ∈ letters.cps.toList)
def toS (l : List Nat) : Str := ⟨l.toArray⟩
def cpl (z : Str) : List Nat := z.cps.toList
theorem toS_cpl (z : Str) : toS (cpl z) = z := by cases z; simp [toS, cpl]
theorem cpl_toS (l : List Nat) : cpl (toS l) = l := by simp [toS, cpl]
theorem cpl_inj {x y : Str} (h : cpl x = cpl y) : x = y := by rw [← toS_cpl x, ← toS_cpl y, h]
def wordD (l : List Nat) : PyData := if l = cpl "skip" then .tuple [.str "skip"] else .tuple [.str "do", .str (toS l)]
def wordF (s : List Nat) : PyData × List Nat := (wordD (s.takeWhile isL), s.dropWhile isL)
def starF : PyData → List Nat → PyData × List Nat
  | d, c :: r => if c = 42 then starF (.tuple [.str "rep", d]) r else (d, c :: r)
  | d, [] => (d, [])
def baseF (f : List Nat → PyData × List Nat) (s : List Nat) : PyData × List Nat := match s with
  | c :: r => if c = 40 then ((f r).1, (f r).2.drop 1) else wordF (c :: r)
  | [] => wordF []
def repF (f : List Nat → PyData × List Nat) (s : List Nat) : PyData × List Nat := starF (baseF f s).1 (baseF f s).2
def moreF (sep : List Nat) (g : List Nat → PyData × List Nat) : Nat → List PyData → List Nat → List PyData × List Nat
  | 0, acc, s => (acc, s)
  | k + 1, acc, s => if sep.isPrefixOf s then moreF sep g k (acc ++ [(g (s.drop sep.length)).1]) (g (s.drop sep.length)).2 else (acc, s)
def joinD (h : Str) : List PyData → PyData
  | [d] => d
  | ds => .tuple (.str h :: ds)
def listF (h : Str) (sep : List Nat) (g : List Nat → PyData × List Nat) (s : List Nat) : PyData × List Nat :=
  (joinD h (moreF sep g (g s).2.length [(g s).1] (g s).2).1, (moreF sep g (g s).2.length [(g s).1] (g s).2).2)
def sepS : List Nat := [59, 32]
def sepO : List Nat := [32, 124, 32]
def seqF (f : List Nat → PyData × List Nat) : List Nat → PyData × List Nat := listF "seq" sepS (repF f)
def orF (f : List Nat → PyData × List Nat) : List Nat → PyData × List Nat := listF "or" sepO (seqF f)
def PP : Nat → List Nat → PyData × List Nat
  | 0 => fun s => (.none, s)
  | n + 1 => orF (PP n)
/-! the text -/
def kindOf (d : PyData) (z : Str) : Bool := match d with
  | .tuple (h :: _) => isStr h z
  | _ => false
def wrapped (b : Bool) (d : PyData) : Bool := kindOf d "or" || (b && kindOf d "seq")
def inP (w : Bool) (l : List Nat) : List Nat := if w then 40 :: (l ++ [41]) else l
def joinL (sep : List Nat) : List (List Nat) → List Nat
  | [] => []
  | x :: xs => x ++ xs.flatMap (sep ++ ·)
def strOfD1 : List PyData → List Nat
  | .str z :: _ => cpl z
  | _ => []
mutual
def tx : PyData → List Nat
  | .tuple ds => tx2 ds
  | _ => []
def tx2 : List PyData → List Nat
  | [] => []
  | h :: r => if isStr h "do" then strOfD1 r else if isStr h "skip" then cpl "skip" else if isStr h "rep" then (txW true r).flatten ++ [42] else if isStr h "seq" then joinL sepS (txW true r) else joinL sepO (txW false r)
def txW (b : Bool) : List PyData → List (List Nat)
  | [] => []
  | d :: ds => inP (wrapped b d) (tx d) :: txW b ds
end
theorem txW_map (b : Bool) : ∀ ds : List PyData, txW b ds = ds.map fun d => inP (wrapped b d) (tx d)
  | [] => by rw [txW]; rfl
  | d :: ds => by rw [txW, txW_map b ds]; rfl
/-! what may stand behind -/
def noLet (l : List Nat) : Prop := ∀ c r, l = c :: r → isL c = false
def noStar (l : List Nat) : Prop := ∀ c r, l = c :: r → c ≠ 42
theorem isL_sep : isL 59 = false ∧ isL 32 = false ∧ isL 42 = false ∧ isL 41 = false ∧ isL 40 = false := by decide +kernel
theorem noLet_nil : noLet [] := fun c r e => by cases e
theorem noStar_nil : noStar [] := fun c r e => by cases e
theorem noLet_cons {c : Nat} {r : List Nat} (h : isL c = false) : noLet (c :: r) := fun c' r' e => by cases e; exact h
theorem noStar_cons {c : Nat} {r : List Nat} (h : c ≠ 42) : noStar (c :: r) := fun c' r' e => by cases e; exact h
theorem star_stop {d : PyData} {l : List Nat} (h : noStar l) : starF d l = (d, l) := by
  cases l with
  | nil => rfl
  | cons c r => rw [starF, if_neg (h c r rfl)]
theorem take_word {l rest : List Nat} (h : l.all isL = true) (n : noLet rest) : (l ++ rest).takeWhile isL = l ∧ (l ++ rest).dropWhile isL = rest := by
  induction l with
  | nil =>
    cases rest with
    | nil => exact ⟨rfl, rfl⟩
    | cons c r =>
      have q := n c r rfl
      constructor
      · rw [List.nil_append, List.takeWhile_cons, q]; rfl
      · rw [List.nil_append, List.dropWhile_cons, q]; rfl
  | cons c l ih =>
    rw [List.all_cons, Bool.and_eq_true] at h
    obtain ⟨i1, i2⟩ := ih h.2
    constructor
    · rw [List.cons_append, List.takeWhile_cons, h.1, i1]; rfl
    · rw [List.cons_append, List.dropWhile_cons, h.1, i2]; rfl
theorem base_word {f : List Nat → PyData × List Nat} {l rest : List Nat} (h : l.all isL = true) (ne : l ≠ []) (n : noLet rest) : baseF f (l ++ rest) = (wordD l, rest) := by
  obtain ⟨t1, t2⟩ := take_word h n
  cases l with
  | nil => exact absurd rfl ne
  | cons c l =>
    have hc : c ≠ 40 := fun e => by
      rw [List.all_cons, Bool.and_eq_true] at h
      rw [e] at h
      have := isL_sep.2.2.2.2
      rw [this] at h
      cases h.1
    show (if c = 40 then _ else wordF (c :: (l ++ rest))) = _
    rw [if_neg hc]
    show (wordD ((c :: (l ++ rest)).takeWhile isL), (c :: (l ++ rest)).dropWhile isL) = _
    rw [show c :: (l ++ rest) = (c :: l) ++ rest from rfl, t1, t2]
/-! one kind after another -/
theorem name_facts {z : Str} (h : isName (.str z) = true) : (cpl z).all isL = true ∧ cpl z ≠ [] ∧ cpl z ≠ cpl "skip" := by
  unfold isName at h
  simp only [Bool.and_eq_true, decide_eq_true_eq, Bool.not_eq_true'] at h
  obtain ⟨⟨⟨h1, h2⟩, h3⟩, h4⟩ := h
  refine ⟨h4, fun e => ?_, fun e => ?_⟩
  · have : z.length = 0 := by
      show z.cps.size = 0
      rw [← Array.length_toList]
      show (cpl z).length = 0
      rw [e]
      rfl
    omega
  · have e2 := cpl_inj e
    subst e2
    revert h3
    decide +kernel
theorem kinds_of {h : PyData} {r : List PyData} (p : partOf h r = true) : (isStr h "do" = true ∧ ∃ z, r = [.str z] ∧ isName (.str z) = true) ∨ (h = .str "skip" ∧ r = []) ∨ (h = .str "rep" ∧ ∃ d, r = [d]) ∨ ((h = .str "seq" ∨ h = .str "or") ∧ 2 ≤ r.length) := by
  rw [partOf_cases] at p
  by_cases c1 : isStr h "do" = true
  · exact .inl ⟨c1, partDo (by rw [partOf_cases]; exact p) c1⟩
  · rw [if_neg c1] at p
    by_cases c2 : isStr h "skip" = true
    · rw [if_pos c2] at p
      exact .inr (.inl ⟨isStr_eq c2, List.isEmpty_iff.mp p⟩)
    · rw [if_neg c2] at p
      by_cases c3 : isStr h "rep" = true
      · rw [if_pos c3] at p
        refine .inr (.inr (.inl ⟨isStr_eq c3, ?_⟩))
        have q := of_decide_eq_true p
        match r, q with
        | [d], _ => exact ⟨d, rfl⟩
      · rw [if_neg c3] at p
        simp only [Bool.and_eq_true, Bool.or_eq_true, decide_eq_true_eq] at p
        exact .inr (.inr (.inr ⟨p.1.imp isStr_eq isStr_eq, p.2⟩))
end L50
namespace L50
open PySem PySem.Spec PyProof.Rows L2 L54
theorem more_spec {sep : List Nat} {g : List Nat → PyData × List Nat} {okS : List Nat → Prop} {m : PyData → List Nat} (hsep : ∀ l, okS (sep ++ l)) : ∀ (ms : List PyData) (k : Nat) (acc : List PyData) (rest : List Nat),
    (∀ d ∈ ms, ∀ r, okS r → g (m d ++ r) = (d, r)) → okS rest → sep.isPrefixOf rest = false → ms.length ≤ k → moreF sep g k acc ((ms.map m).flatMap (sep ++ ·) ++ rest) = (acc ++ ms, rest)
  | [], k, acc, rest, _, _, np, _ => by
    show moreF sep g k acc rest = _
    rw [List.append_nil]
    cases k with
    | zero => rfl
    | succ k => rw [moreF, np]; rfl
  | d :: ms, 0, _, _, _, _, _, hk => by simp at hk
  | d :: ms, k + 1, acc, rest, hg, ok, np, hk => by
    have e : ((d :: ms).map m).flatMap (sep ++ ·) ++ rest = sep ++ (m d ++ ((ms.map m).flatMap (sep ++ ·) ++ rest)) := by simp [List.flatMap_cons, List.append_assoc]
    have okT : okS ((ms.map m).flatMap (sep ++ ·) ++ rest) := by
      cases ms with
      | nil => exact ok
      | cons d2 ms =>
        have e2 : ((d2 :: ms).map m).flatMap (sep ++ ·) ++ rest = sep ++ (m d2 ++ ((ms.map m).flatMap (sep ++ ·) ++ rest)) := by simp [List.flatMap_cons, List.append_assoc]
        rw [e2]
        exact hsep _
    rw [e, moreF, if_pos (List.isPrefixOf_iff_prefix.mpr (List.prefix_append _ _)), List.drop_left, hg d List.mem_cons_self _ okT, more_spec hsep ms k _ rest (fun x hx => hg x (List.mem_cons_of_mem _ hx)) ok np (by simp at hk; omega)]
    simp
theorem flat_long {sep : List Nat} (ne : sep ≠ []) (m : PyData → List Nat) : ∀ ms : List PyData, ms.length ≤ ((ms.map m).flatMap (sep ++ ·)).length
  | [] => Nat.zero_le _
  | d :: ms => by
    have ih := flat_long ne m ms
    have : 1 ≤ sep.length := List.length_pos_iff.mpr ne
    simp only [List.map_cons, List.flatMap_cons, List.length_cons, List.length_append]
    omega
theorem list_spec {h : Str} {sep : List Nat} {g : List Nat → PyData × List Nat} {okS : List Nat → Prop} {m : PyData → List Nat} (hsep : ∀ l, okS (sep ++ l)) (ne : sep ≠ []) (d : PyData) (ms : List PyData) (rest : List Nat)
    (hg : ∀ e ∈ d :: ms, ∀ r, okS r → g (m e ++ r) = (e, r)) (ok : okS rest) (np : sep.isPrefixOf rest = false) : listF h sep g (m d ++ ((ms.map m).flatMap (sep ++ ·) ++ rest)) = (joinD h (d :: ms), rest) := by
  have okT : okS ((ms.map m).flatMap (sep ++ ·) ++ rest) := by
    cases ms with
    | nil => exact ok
    | cons d2 ms =>
      have e2 : ((d2 :: ms).map m).flatMap (sep ++ ·) ++ rest = sep ++ (m d2 ++ ((ms.map m).flatMap (sep ++ ·) ++ rest)) := by simp [List.flatMap_cons, List.append_assoc]
      rw [e2]
      exact hsep _
  have e1 := hg d List.mem_cons_self _ okT
  have l1 := flat_long ne m ms
  unfold listF
  rw [e1]
  dsimp only
  rw [more_spec hsep ms _ [d] rest (fun x hx => hg x (List.mem_cons_of_mem _ hx)) ok np (by rw [List.length_append]; omega)]
  rfl
/-- f reads what stands in parentheses, of programs so deep at most -/
def GoodF (f : List Nat → PyData × List Nat) (m : Nat) : Prop := ∀ d k, wf k d = true → d.depth ≤ m → ∀ r, f (tx d ++ 41 :: r) = (d, 41 :: r)
theorem wf_kid {k : Nat} {h : PyData} {r : List PyData} (w : wf k (.tuple (h :: r)) = true) (n : isStr h "do" = false) : ∀ e ∈ r, wf (k + 1) e = true ∧ e.depth + 1 ≤ (PyData.tuple (h :: r)).depth := by
  obtain ⟨p, _⟩ := wf_part w
  have q := wf_kids (k := k) p
  rw [w] at q
  have ek : kids (.tuple (h :: r)) = r := by
    rw [kids, n]
    rfl
  rw [ek] at q
  intro e he
  refine ⟨List.all_eq_true.mp (Bool.and_eq_true_iff.mp q.symm).2 e he, ?_⟩
  have := depthAll_mem (ds := h :: r) (d := e) (List.mem_cons_of_mem _ he)
  rw [PyData.depth]
  omega
theorem tx_do {h : PyData} {z : Str} (c : isStr h "do" = true) : tx (.tuple [h, .str z]) = cpl z := by rw [tx, tx2, c]; rfl
theorem tx_skip : tx (.tuple [.str "skip"]) = cpl "skip" := by
  rw [tx, tx2, show isStr (.str "skip") "do" = false by decide +kernel, show isStr (.str "skip") "skip" = true by decide +kernel]
  rfl
theorem tx_rep (d : PyData) : tx (.tuple [.str "rep", d]) = inP (wrapped true d) (tx d) ++ [42] := by
  rw [tx, tx2, show isStr (.str "rep") "do" = false by decide +kernel, show isStr (.str "rep") "skip" = false by decide +kernel, show isStr (.str "rep") "rep" = true by decide +kernel, txW_map]
  simp
theorem tx_seq (r : List PyData) : tx (.tuple (.str "seq" :: r)) = joinL sepS (r.map fun d => inP (wrapped true d) (tx d)) := by
  rw [tx, tx2, show isStr (.str "seq") "do" = false by decide +kernel, show isStr (.str "seq") "skip" = false by decide +kernel, show isStr (.str "seq") "rep" = false by decide +kernel, show isStr (.str "seq") "seq" = true by decide +kernel, txW_map true]
  rfl
theorem tx_or (r : List PyData) : tx (.tuple (.str "or" :: r)) = joinL sepO (r.map fun d => inP (wrapped false d) (tx d)) := by
  rw [tx, tx2, show isStr (.str "or") "do" = false by decide +kernel, show isStr (.str "or") "skip" = false by decide +kernel, show isStr (.str "or") "rep" = false by decide +kernel, show isStr (.str "or") "seq" = false by decide +kernel, txW_map false]
  rfl
theorem wr_no {b : Bool} {h : PyData} {r : List PyData} (c1 : isStr h "or" = false) (c2 : isStr h "seq" = false) : wrapped b (.tuple (h :: r)) = false := by
  show (isStr h "or" || (b && isStr h "seq")) = false
  rw [c1, c2, Bool.and_false]
  rfl
theorem wr_do {b : Bool} {h : PyData} {r : List PyData} (c : isStr h "do" = true) : wrapped b (.tuple (h :: r)) = false := by
  rw [isStr_eq c]
  exact wr_no (by decide +kernel) (by decide +kernel)
theorem wordD_do {h : PyData} {z : Str} (c : isStr h "do" = true) (n : isName (.str z) = true) : wordD (cpl z) = .tuple [h, .str z] := by
  unfold wordD
  rw [if_neg (name_facts n).2.2, toS_cpl, isStr_eq c]
theorem skip_let : (cpl "skip").all isL = true ∧ cpl "skip" ≠ [] := by decide +kernel
/-- what stands at a place where only a word, what ends in stars, or parentheses may stand -/
theorem rep_spec {f : List Nat → PyData × List Nat} {m : Nat} (G : GoodF f m) : ∀ (j : Nat) (d : PyData) (k : Nat), d.depth ≤ j → wf k d = true → (wrapped true d = true → d.depth ≤ m) → d.depth ≤ m + 1 → ∀ rest, noLet rest → repF f (inP (wrapped true d) (tx d) ++ rest) = starF d rest
  | 0, d, k, hj, w, _, _, rest, _ => by
    obtain ⟨x, r, rfl, _⟩ := isPart_shape (wf_part w).1
    rw [PyData.depth] at hj
    omega
  | j + 1, d, k, hj, w, hm, hm2, rest, nl => by
    obtain ⟨x, r, rfl, p⟩ := isPart_shape (wf_part w).1
    rcases kinds_of p with ⟨c, z, rfl, hz⟩ | ⟨rfl, rfl⟩ | ⟨rfl, e, rfl⟩ | ⟨hso, hl⟩
    · obtain ⟨n1, n2, _⟩ := name_facts hz
      rw [wr_do c, tx_do c]
      show starF (baseF f (cpl z ++ rest)).1 (baseF f (cpl z ++ rest)).2 = _
      rw [base_word n1 n2 nl, wordD_do c hz]
    · rw [show wrapped true (.tuple [.str "skip"]) = false by decide +kernel, tx_skip]
      show starF (baseF f (cpl "skip" ++ rest)).1 (baseF f (cpl "skip" ++ rest)).2 = _
      rw [base_word skip_let.1 skip_let.2 nl]
      rfl
    · obtain ⟨w1, w2⟩ := wf_kid w (by decide +kernel) e (by simp)
      rw [wr_no (by decide +kernel) (by decide +kernel), tx_rep]
      show repF f (inP (wrapped true e) (tx e) ++ [42] ++ rest) = _
      rw [List.append_assoc, List.singleton_append, rep_spec G j e (k + 1) (by omega) w1 (fun _ => by omega) (by omega) _ (noLet_cons isL_sep.2.2.1)]
      show starF e (42 :: rest) = _
      rw [starF, if_pos rfl]
    · have hw : wrapped true (.tuple (x :: r)) = true := by
        rcases hso with rfl | rfl
        · have : isStr (.str "seq") "seq" = true := by decide +kernel
          simp [wrapped, kindOf, this]
        · have : isStr (.str "or") "or" = true := by decide +kernel
          simp [wrapped, kindOf, this]
      rw [hw]
      have g := G _ k w (hm hw) rest
      show starF (baseF f (40 :: (tx (.tuple (x :: r)) ++ [41]) ++ rest)).1 (baseF f (40 :: (tx (.tuple (x :: r)) ++ [41]) ++ rest)).2 = _
      have e1 : baseF f (40 :: (tx (.tuple (x :: r)) ++ [41]) ++ rest) = (.tuple (x :: r), rest) := by
        have e2 : f (tx (.tuple (x :: r)) ++ [41] ++ rest) = (.tuple (x :: r), 41 :: rest) := by
          rw [List.append_assoc, List.singleton_append, g]
        show ((f (tx (.tuple (x :: r)) ++ [41] ++ rest)).1, (f (tx (.tuple (x :: r)) ++ [41] ++ rest)).2.drop 1) = _
        rw [e2]
        rfl
      rw [e1]
def okR (l : List Nat) : Prop := noLet l ∧ noStar l
theorem okR_s (l : List Nat) : okR (sepS ++ l) := ⟨noLet_cons isL_sep.1, noStar_cons (by decide)⟩
theorem okR_o (l : List Nat) : okR (sepO ++ l) := ⟨noLet_cons isL_sep.2.1, noStar_cons (by decide)⟩
theorem rep_mem {f : List Nat → PyData × List Nat} {m : Nat} (G : GoodF f m) {d : PyData} {k : Nat} (w : wf k d = true) (hm : wrapped true d = true → d.depth ≤ m) (hm2 : d.depth ≤ m + 1) (r : List Nat) (ok : okR r) : repF f (inP (wrapped true d) (tx d) ++ r) = (d, r) := by
  rw [rep_spec G d.depth d k (Nat.le_refl _) w hm hm2 r ok.1, star_stop ok.2]
theorem one_list {h : Str} {sep : List Nat} {g : List Nat → PyData × List Nat} {s rest : List Nat} {d : PyData} (e : g s = (d, rest)) (np : sep.isPrefixOf rest = false) : listF h sep g s = (d, rest) := by
  unfold listF
  rw [e]
  dsimp only
  cases rest with
  | nil => rfl
  | cons c r => rw [List.length_cons, moreF, np]; rfl
theorem joinD_two {h : Str} {ds : List PyData} (hl : 2 ≤ ds.length) : joinD h ds = .tuple (.str h :: ds) := by
  match ds, hl with
  | a :: b :: r, _ => rfl
/-- at a place where no bare or may stand -/
theorem seq_spec {f : List Nat → PyData × List Nat} {m : Nat} (G : GoodF f m) {d : PyData} {k : Nat} (w : wf k d = true) (hm : kindOf d "or" = true → d.depth ≤ m) (hm2 : d.depth ≤ m + 1) (rest : List Nat) (ok : okR rest) (np : sepS.isPrefixOf rest = false) :
    seqF f (inP (wrapped false d) (tx d) ++ rest) = (d, rest) := by
  obtain ⟨x, r, rfl, p⟩ := isPart_shape (wf_part w).1
  by_cases c : isStr x "seq" = true
  · have ex := isStr_eq c
    subst ex
    have hw : wrapped false (.tuple (.str "seq" :: r)) = false := by
      have : isStr (.str "seq") "or" = false := by decide +kernel
      simp [wrapped, kindOf, this]
    rw [hw, tx_seq]
    show seqF f (joinL sepS (r.map fun d => inP (wrapped true d) (tx d)) ++ rest) = _
    have kd := wf_kid w (by decide +kernel)
    have hl : 2 ≤ r.length := by
      rcases kinds_of p with ⟨c, _⟩ | ⟨e, _⟩ | ⟨e, _⟩ | ⟨_, hl⟩
      · exact absurd c (by decide +kernel)
      · exact absurd (PyData.str.inj e) (by decide +kernel)
      · exact absurd (PyData.str.inj e) (by decide +kernel)
      · exact hl
    cases r with
    | nil => simp at hl
    | cons d1 ms =>
      show listF "seq" sepS (repF f) ((inP (wrapped true d1) (tx d1) ++ (ms.map fun d => inP (wrapped true d) (tx d)).flatMap (sepS ++ ·)) ++ rest) = _
      rw [List.append_assoc, list_spec (m := fun d => inP (wrapped true d) (tx d)) okR_s (by decide) d1 ms rest (fun e he r' ok' => rep_mem G (kd e he).1 (fun _ => by have := (kd e he).2; omega) (by have := (kd e he).2; omega) r' ok') ok np, joinD_two hl]
  · have c' : isStr x "seq" = false := by simpa using c
    have hw : wrapped false (.tuple (x :: r)) = wrapped true (.tuple (x :: r)) := by simp [wrapped, kindOf, c']
    rw [hw]
    refine one_list (rep_mem G w (fun q => hm ?_) hm2 rest ok) np
    simpa [wrapped, kindOf, c'] using q
theorem or_spec {f : List Nat → PyData × List Nat} {m : Nat} (G : GoodF f m) {d : PyData} {k : Nat} (w : wf k d = true) (hm2 : d.depth ≤ m + 1) (rest : List Nat) (ok : okR rest) (np : sepS.isPrefixOf rest = false) (np2 : sepO.isPrefixOf rest = false) : orF f (tx d ++ rest) = (d, rest) := by
  obtain ⟨x, r, rfl, p⟩ := isPart_shape (wf_part w).1
  by_cases c : isStr x "or" = true
  · have ex := isStr_eq c
    subst ex
    rw [tx_or]
    have kd := wf_kid w (by decide +kernel)
    have hl : 2 ≤ r.length := by
      rcases kinds_of p with ⟨c, _⟩ | ⟨e, _⟩ | ⟨e, _⟩ | ⟨_, hl⟩
      · exact absurd c (by decide +kernel)
      · exact absurd (PyData.str.inj e) (by decide +kernel)
      · exact absurd (PyData.str.inj e) (by decide +kernel)
      · exact hl
    cases r with
    | nil => simp at hl
    | cons d1 ms =>
      show listF "or" sepO (seqF f) ((inP (wrapped false d1) (tx d1) ++ (ms.map fun d => inP (wrapped false d) (tx d)).flatMap (sepO ++ ·)) ++ rest) = _
      rw [List.append_assoc, list_spec (okS := fun l => okR l ∧ sepS.isPrefixOf l = false) (m := fun d => inP (wrapped false d) (tx d)) (fun l => ⟨okR_o l, rfl⟩) (by decide) d1 ms rest
        (fun e he r' ok' => seq_spec G (kd e he).1 (fun _ => by have := (kd e he).2; omega) (by have := (kd e he).2; omega) r' ok'.1 ok'.2) ⟨ok, np⟩ np2, joinD_two hl]
  · have c' : isStr x "or" = false := by simpa using c
    have hw : wrapped false (.tuple (x :: r)) = false := by simp [wrapped, kindOf, c']
    have q := seq_spec G w (fun q => absurd q (by simp [kindOf, c'])) hm2 rest ok np
    rw [hw] at q
    exact one_list q np2
theorem good_PP : ∀ n : Nat, GoodF (PP n) n
  | 0 => fun d k w hd r => by
    obtain ⟨x, r, rfl, _⟩ := isPart_shape (wf_part w).1
    rw [PyData.depth] at hd
    omega
  | n + 1 => fun d k w hd r => or_spec (good_PP n) w hd (41 :: r) ⟨noLet_cons isL_sep.2.2.2.1, noStar_cons (by decide)⟩ rfl rfl
/-- reading the text of a program gives the program -/
theorem read_back {d : PyData} {k n : Nat} (w : wf k d = true) (h : d.depth ≤ n + 1) : PP (n + 1) (tx d) = (d, []) := by
  have q := or_spec (good_PP n) w h [] ⟨noLet_nil, noStar_nil⟩ rfl rfl
  rw [List.append_nil] at q
  exact q
end L50
namespace L50
open PySem PySem.Spec PyProof.Rows L2 L54
open PySem.StrLaws PySem.Builtin PySem.Builtin.Str
/-! signs counted, beginnings, cuts -/
theorem sub_one (x : Str) (c a : Nat) : subAt x ⟨#[c]⟩ a = decide ((cpl x)[a]? = some c) := by
  rw [subAt_eq]
  have e1 : (⟨#[c]⟩ : Str).length = 1 := rfl
  have e2 : (⟨#[c]⟩ : Str).cps.toList = [c] := rfl
  rw [e1, e2, Bool.eq_iff_iff, beq_iff_eq, decide_eq_true_iff]
  show ((cpl x).drop a).take 1 = [c] ↔ _
  cases h : (cpl x).drop a with
  | nil =>
    have q : (cpl x)[a]? = none := by
      rw [← List.head?_drop, h]
      rfl
    rw [q]
    simp
  | cons d r =>
    have q : (cpl x)[a]? = some d := by
      rw [← List.head?_drop, h]
      rfl
    rw [q]
    simp
theorem occ_count (x : Str) (c lim : Nat) (hl : x.length < lim) : ∀ (n a : Nat) (st : Array Nat × Nat), a + n = x.length + 1 → st.2 ≤ a → st.1.size ≤ a → ((forIn (List.range' a n) st (occBody x ⟨#[c]⟩ x.length lim)).run.fst).size = st.1.size + ((cpl x).drop a).count c
  | 0, a, st, h, _, _ => by
    have e : (cpl x).drop a = [] := List.drop_of_length_le (by show x.cps.toList.length ≤ a; rw [Array.length_toList]; show x.length ≤ a; omega)
    rw [e]
    rfl
  | n + 1, a, st, h, hf, hs => by
    rw [List.range'_succ, List.forIn_cons]
    unfold occBody
    have e1 : (⟨#[c]⟩ : Str).length = 1 := rfl
    rw [e1, sub_one]
    have xl : (cpl x).length = x.length := by show x.cps.toList.length = _; rw [Array.length_toList]; rfl
    by_cases hc : (cpl x)[a]? = some c
    · have ha : a < x.length := by
        have := (List.getElem?_eq_some_iff.mp hc).1
        omega
      rw [if_pos ⟨⟨⟨by omega, hf⟩, by omega⟩, decide_eq_true hc⟩]
      have ih := occ_count x c lim hl n (a + 1) (st.1.push a, a + 1) (by omega) (Nat.le_refl _) (by simp; omega)
      refine Eq.trans ih ?_
      have ed : (cpl x).drop a = c :: (cpl x).drop (a + 1) := by
        rw [List.drop_eq_getElem_cons (by omega)]
        rw [List.getElem?_eq_getElem (by omega)] at hc
        rw [Option.some.inj hc]
      rw [ed, List.count_cons_self, Array.size_push]
      omega
    · rw [if_neg (fun q => hc (of_decide_eq_true q.2))]
      have ih := occ_count x c lim hl n (a + 1) (st.1, st.2) (by omega) (by show st.2 ≤ a + 1; omega) (by show st.1.size ≤ a + 1; omega)
      refine Eq.trans ih ?_
      by_cases ha : a < x.length
      · rw [List.drop_eq_getElem_cons (by omega : a < (cpl x).length), List.count_cons_of_ne]
        rw [List.getElem?_eq_getElem (by omega)] at hc
        exact fun q => hc (by rw [q])
      · rw [List.drop_of_length_le (by omega : (cpl x).length ≤ a), List.drop_of_length_le (by omega : (cpl x).length ≤ a + 1)]
theorem count_sign (x : Str) (c : Nat) : Txt.count x ⟨#[c]⟩ = ((cpl x).count c : Nat) := by
  show (((occurrences x ⟨#[c]⟩ 0 x.length (x.length + 1)).length : Nat) : Int) = _
  rw [occ_eq, Array.length_toList, occ_count x c (x.length + 1) (Nat.lt_succ_self _) _ 0 _ (by omega) (Nat.le_refl _) (Nat.le_refl _)]
  simp
theorem starts_at (x y : Str) (a : Nat) (ne : cpl y ≠ []) : Txt.startswith3 x y (a : Int) = (cpl y).isPrefixOf ((cpl x).drop a) := by
  have e0 : fromIndex x.length (a : Int) = a := by
    unfold fromIndex
    rw [if_neg (by omega)]
    omega
  have xl : (cpl x).length = x.length := by show x.cps.toList.length = _; rw [Array.length_toList]; rfl
  have yl : (cpl y).length = y.length := by show y.cps.toList.length = _; rw [Array.length_toList]; rfl
  unfold Txt.startswith3
  rw [e0, subAt_eq, Bool.eq_iff_iff, Bool.and_eq_true, decide_eq_true_iff, beq_iff_eq, List.isPrefixOf_iff_prefix]
  show a + y.length ≤ x.length ∧ ((cpl x).drop a).take y.length = cpl y ↔ _
  rw [← yl]
  constructor
  · rintro ⟨_, h⟩
    rw [← h]
    exact List.take_prefix _ _
  · intro h
    refine ⟨?_, (List.prefix_iff_eq_take.mp h).symm⟩
    have l1 := h.length_le
    rw [List.length_drop] at l1
    have : 0 < (cpl y).length := List.length_pos_iff.mpr ne
    omega
theorem cut_from_to (z : Str) {a b : Nat} (h1 : a ≤ b) (h2 : b ≤ z.length) : cpl (cutS z (some (a : Int)) (some (b : Int))) = ((cpl z).drop a).take (b - a) := by
  unfold cutS
  rw [HT.sIx_nat, HT.sIx_nat, Nat.min_eq_left h2, Nat.min_eq_left (Nat.le_trans h1 h2)]
  rfl
/-! reading goes on, and what it gives is no larger than what was read -/
structure Sf (g : List Nat → PyData × List Nat) : Prop where
  suf : ∀ s, (g s).2 <:+ s
  wt : ∀ s, (g s).1.weight + 10 * (g s).2.length ≤ 10 * s.length + 10
theorem w_str (z : Str) : (PyData.str z).weight = z.length := by
  rw [PyData.weight]
  rfl
theorem wordF_sf : Sf wordF := by
  refine ⟨fun s => List.dropWhile_suffix _, fun s => ?_⟩
  show (wordD (s.takeWhile isL)).weight + 10 * (s.dropWhile isL).length ≤ _
  have l : (s.takeWhile isL).length + (s.dropWhile isL).length = s.length := by rw [← List.length_append, List.takeWhile_append_dropWhile]
  unfold wordD
  split
  · rename_i e
    have : (s.takeWhile isL).length = 4 := by rw [e]; decide +kernel
    have e2 : (PyData.tuple [.str "skip"]).weight = 5 := by decide +kernel
    rw [e2]
    omega
  · rw [w_tup, PyData.weightAll, PyData.weightAll, PyData.weightAll, w_str, w_str]
    have e3 : (toS (s.takeWhile isL)).length = (s.takeWhile isL).length := by show (s.takeWhile isL).toArray.size = _; simp
    have e4 : ("do" : Str).length = 2 := by decide +kernel
    rw [e3, e4]
    omega
theorem star_sf : ∀ (s : List Nat) (d : PyData), (starF d s).2 <:+ s ∧ (starF d s).1.weight + 10 * (starF d s).2.length ≤ d.weight + 10 * s.length
  | [], d => ⟨List.suffix_refl _, Nat.le_refl _⟩
  | c :: r, d => by
    rw [starF]
    split
    · obtain ⟨a, b⟩ := star_sf r (.tuple [.str "rep", d])
      refine ⟨a.trans (List.suffix_cons _ _), ?_⟩
      rw [w_tup, PyData.weightAll, PyData.weightAll, PyData.weightAll, w_str] at b
      have e4 : ("rep" : Str).length = 3 := by decide +kernel
      rw [e4] at b
      rw [List.length_cons]
      omega
    · exact ⟨List.suffix_refl _, Nat.le_refl _⟩
theorem base_sf {f : List Nat → PyData × List Nat} (h : Sf f) : Sf (baseF f) := by
  refine ⟨fun s => ?_, fun s => ?_⟩
  · cases s with
    | nil => exact wordF_sf.suf []
    | cons c r =>
      rw [baseF]
      split
      · exact ((List.drop_suffix _ _).trans (h.suf r)).trans (List.suffix_cons _ _)
      · exact wordF_sf.suf _
  · cases s with
    | nil => exact wordF_sf.wt []
    | cons c r =>
      rw [baseF]
      split
      · have a := h.wt r
        show _ + 10 * ((f r).2.drop 1).length ≤ _
        rw [List.length_drop, List.length_cons]
        show (f r).1.weight + _ ≤ _
        omega
      · exact wordF_sf.wt _
theorem rep_sf {f : List Nat → PyData × List Nat} (h : Sf f) : Sf (repF f) := by
  refine ⟨fun s => ?_, fun s => ?_⟩
  · exact (star_sf _ _).1.trans ((base_sf h).suf s)
  · have a := (star_sf (baseF f s).2 (baseF f s).1).2
    have b := (base_sf h).wt s
    show (starF (baseF f s).1 (baseF f s).2).1.weight + 10 * (starF (baseF f s).1 (baseF f s).2).2.length ≤ _
    omega
theorem more_sf {sep : List Nat} {g : List Nat → PyData × List Nat} (h : Sf g) (hs : 2 ≤ sep.length) : ∀ (k : Nat) (acc : List PyData) (s : List Nat), (moreF sep g k acc s).2 <:+ s ∧
    (moreF sep g k acc s = (acc, s) ∨ (acc.length < (moreF sep g k acc s).1.length ∧ PyData.weightAll (moreF sep g k acc s).1 + 10 * (moreF sep g k acc s).2.length + 9 ≤ PyData.weightAll acc + 10 * s.length))
  | 0, acc, s => ⟨List.suffix_refl _, .inl rfl⟩
  | k + 1, acc, s => by
    rw [moreF]
    split
    · rename_i hp
      have pl := (List.isPrefixOf_iff_prefix.mp hp).length_le
      have a := h.suf (s.drop sep.length)
      have b := h.wt (s.drop sep.length)
      rw [List.length_drop] at b
      have wa : PyData.weightAll (acc ++ [(g (s.drop sep.length)).1]) = PyData.weightAll acc + ((g (s.drop sep.length)).1.weight + 1) := by
        have wApp' : ∀ as bs : List PyData, PyData.weightAll (as ++ bs) = PyData.weightAll as + PyData.weightAll bs := by
          intro as bs
          induction as with
          | nil => rw [List.nil_append, show PyData.weightAll [] = 0 by rw [PyData.weightAll], Nat.zero_add]
          | cons x xs ih => rw [List.cons_append, PyData.weightAll, PyData.weightAll, ih]; omega
        rw [wApp', PyData.weightAll, show PyData.weightAll [] = 0 by rw [PyData.weightAll]]
      obtain ⟨c1, c2⟩ := more_sf h hs k (acc ++ [(g (s.drop sep.length)).1]) (g (s.drop sep.length)).2
      refine ⟨c1.trans (a.trans (List.drop_suffix _ _)), .inr ?_⟩
      rcases c2 with e | ⟨c2, c3⟩
      · rw [e]
        refine ⟨by simp, ?_⟩
        dsimp only
        rw [wa]
        omega
      · rw [List.length_append] at c2
        rw [wa] at c3
        exact ⟨by simp at c2; omega, by omega⟩
    · exact ⟨List.suffix_refl _, .inl rfl⟩
theorem list_sf {h : Str} {sep : List Nat} {g : List Nat → PyData × List Nat} (hg : Sf g) (hs : 2 ≤ sep.length) (hh : h.length ≤ 3) : Sf (listF h sep g) := by
  refine ⟨fun s => (more_sf hg hs _ _ _).1.trans (hg.suf s), fun s => ?_⟩
  have a := hg.wt s
  rcases (more_sf hg hs (g s).2.length [(g s).1] (g s).2).2 with e | ⟨c2, c3⟩
  · unfold listF
    rw [e]
    exact a
  · unfold listF
    dsimp only
    generalize moreF sep g (g s).2.length [(g s).1] (g s).2 = M at *
    rw [joinD_two (by simp at c2; omega), w_tup, PyData.weightAll, w_str]
    rw [PyData.weightAll, show PyData.weightAll [] = 0 by rw [PyData.weightAll]] at c3
    omega
theorem PP_sf : ∀ n : Nat, Sf (PP n)
  | 0 => ⟨fun s => List.suffix_refl _, fun s => by
      show PyData.none.weight + 10 * s.length ≤ _
      have : PyData.none.weight ≤ 10 := by decide +kernel
      omega⟩
  | n + 1 => list_sf (list_sf (rep_sf (PP_sf n)) (by decide) (by decide +kernel)) (by decide) (by decide +kernel)
end L50
namespace L50
open PySem PySem.Spec PyProof.Rows L2 L54
/-! parentheses and stars of a program's text -/
def cc (l : List Nat) : Nat := l.count 40 + l.count 42
theorem cc_app (a b : List Nat) : cc (a ++ b) = cc a + cc b := by
  unfold cc
  rw [List.count_append, List.count_append]
  omega
theorem cc_let : ∀ l : List Nat, l.all isL = true → cc l = 0
  | [], _ => rfl
  | c :: l, h => by
    rw [List.all_cons, Bool.and_eq_true] at h
    have ih := cc_let l h.2
    have c1 : c ≠ 40 := fun e => by
      have := isL_sep.2.2.2.2
      rw [e, this] at h
      cases h.1
    have c2 : c ≠ 42 := fun e => by
      have := isL_sep.2.2.1
      rw [e, this] at h
      cases h.1
    unfold cc at ih ⊢
    rw [List.count_cons_of_ne c1, List.count_cons_of_ne c2]
    exact ih
theorem cc_wrap (b : Bool) (l : List Nat) : cc (inP b l) = (if b then 1 else 0) + cc l := by
  unfold inP
  cases b with
  | false => simp
  | true =>
    show cc (40 :: (l ++ [41])) = 1 + cc l
    rw [show 40 :: (l ++ [41]) = [40] ++ (l ++ [41]) from rfl, cc_app, cc_app, show cc [40] = 1 by decide, show cc [41] = 0 by decide]
    omega
theorem cc_join {sep : List Nat} (hs : cc sep = 0) (m : PyData → List Nat) : ∀ ds : List PyData, cc (joinL sep (ds.map m)) = (ds.map fun d => cc (m d)).sum
  | [] => rfl
  | d :: ds => by
    show cc (m d ++ (ds.map m).flatMap (sep ++ ·)) = _
    rw [cc_app, List.map_cons, List.sum_cons]
    congr 1
    induction ds with
    | nil => rfl
    | cons e es ih => rw [List.map_cons, List.flatMap_cons, cc_app, cc_app, hs, ih, List.map_cons, List.sum_cons, Nat.zero_add]
theorem sum_le {f g : PyData → Nat} : ∀ {ds : List PyData}, (∀ d ∈ ds, f d ≤ g d) → (ds.map f).sum ≤ (ds.map g).sum
  | [], _ => Nat.le_refl _
  | d :: ds, h => by
    rw [List.map_cons, List.sum_cons, List.map_cons, List.sum_cons]
    exact Nat.add_le_add (h d List.mem_cons_self) (sum_le fun x hx => h x (List.mem_cons_of_mem _ hx))
theorem flat_sum (ds : List PyData) : (ds.flatMap pre).length = (ds.map fun d => (pre d).length).sum := by
  induction ds with
  | nil => rfl
  | cons d ds ih => rw [List.flatMap_cons, List.length_append, ih, List.map_cons, List.sum_cons]
theorem cc_tx : ∀ (j : Nat) (d : PyData) (k : Nat), d.depth ≤ j → wf k d = true → cc (tx d) + (if wrapped true d then 1 else 0) ≤ (pre d).length
  | 0, d, k, hj, w => by
    obtain ⟨x, r, rfl, _⟩ := isPart_shape (wf_part w).1
    rw [PyData.depth] at hj
    omega
  | j + 1, d, k, hj, w => by
    obtain ⟨hp, _⟩ := wf_part w
    obtain ⟨x, r, rfl, p⟩ := isPart_shape hp
    have ep := pre_kids hp
    rw [ep, List.length_cons, flat_sum]
    have mem : ∀ (b : Bool) (e : PyData), e ∈ r → isStr x "do" = false → cc (inP (wrapped b e) (tx e)) ≤ (pre e).length := fun b e he c => by
      obtain ⟨w1, w2⟩ := wf_kid w c e he
      have ih := cc_tx j e (k + 1) (by omega) w1
      rw [cc_wrap]
      have : (if wrapped b e then 1 else 0) ≤ (if wrapped true e then 1 else 0) := by
        unfold wrapped
        cases kindOf e "or" <;> cases kindOf e "seq" <;> cases b <;> decide
      omega
    have kd : isStr x "do" = false → kids (.tuple (x :: r)) = r := fun c => by rw [kids, c]; rfl
    rcases kinds_of p with ⟨c, z, rfl, hz⟩ | ⟨rfl, rfl⟩ | ⟨rfl, e, rfl⟩ | ⟨rfl | rfl, hl⟩
    · rw [wr_do c, tx_do c, cc_let _ (name_facts hz).1]
      simp
    · rw [tx_skip, cc_let _ skip_let.1, show wrapped true (.tuple [.str "skip"]) = false by decide +kernel]
      simp
    · rw [tx_rep, cc_app, show cc [42] = 1 by decide, wr_no (by decide +kernel) (by decide +kernel), kd (by decide +kernel)]
      have := mem true e (by simp) (by decide +kernel)
      simp
      omega
    · rw [tx_seq, cc_join (by decide), kd (by decide +kernel)]
      have := sum_le (f := fun d => cc (inP (wrapped true d) (tx d))) (g := fun d => (pre d).length) fun e he => mem true e he (by decide +kernel)
      have : (if wrapped true (.tuple (.str "seq" :: r)) then 1 else 0) ≤ 1 := by split <;> omega
      omega
    · rw [tx_or, cc_join (by decide), kd (by decide +kernel)]
      have := sum_le (f := fun d => cc (inP (wrapped false d) (tx d))) (g := fun d => (pre d).length) fun e he => mem false e he (by decide +kernel)
      have : (if wrapped true (.tuple (.str "or" :: r)) then 1 else 0) ≤ 1 := by split <;> omega
      omega
/-! what reading gives holds neither lists nor dicts -/
def Nn (d : PyData) : Prop := noList d = true ∧ d.hasDict = false
theorem nn_tup {ds : List PyData} (h : ∀ d ∈ ds, Nn d) : Nn (.tuple ds) := by
  have : noListAll ds = true ∧ PyData.hasDictAll ds = false := by
    induction ds with
    | nil => exact ⟨rfl, rfl⟩
    | cons d ds ih =>
      obtain ⟨a, b⟩ := ih fun x hx => h x (List.mem_cons_of_mem _ hx)
      obtain ⟨c, e⟩ := h d List.mem_cons_self
      exact ⟨by simp [noListAll, a, c], by simp [PyData.hasDictAll, b, e]⟩
  exact ⟨by rw [noList]; exact this.1, by rw [PyData.hasDict]; exact this.2⟩
theorem nn_str (z : Str) : Nn (.str z) := ⟨rfl, rfl⟩
theorem nn_word (s : List Nat) : Nn (wordF s).1 := by
  show Nn (wordD _)
  unfold wordD
  split
  · exact nn_tup fun d hd => by rw [List.mem_singleton.mp hd]; exact nn_str _
  · refine nn_tup fun d hd => ?_
    rcases List.mem_cons.mp hd with e | e
    · rw [e]; exact nn_str _
    · rw [List.mem_singleton.mp e]; exact nn_str _
theorem nn_rep {d : PyData} (h : Nn d) : Nn (.tuple [.str "rep", d]) := nn_tup fun e he => by
  rcases List.mem_cons.mp he with q | q
  · rw [q]; exact nn_str _
  · rw [List.mem_singleton.mp q]; exact h
theorem nn_star : ∀ (s : List Nat) (d : PyData), Nn d → Nn (starF d s).1
  | [], d, h => h
  | c :: r, d, h => by
    rw [starF]
    split
    · exact nn_star r _ (nn_rep h)
    · exact h
theorem nn_base {f : List Nat → PyData × List Nat} (h : ∀ s, Nn (f s).1) (s : List Nat) : Nn (baseF f s).1 := by
  cases s with
  | nil => exact nn_word []
  | cons c r =>
    rw [baseF]
    split
    · exact h r
    · exact nn_word _
theorem nn_repF {f : List Nat → PyData × List Nat} (h : ∀ s, Nn (f s).1) (s : List Nat) : Nn (repF f s).1 := nn_star _ _ (nn_base h s)
theorem nn_join {h : Str} {ds : List PyData} (hd : ∀ d ∈ ds, Nn d) : Nn (joinD h ds) := by
  match ds, hd with
  | [], hd => exact nn_tup fun e he => by rw [List.mem_singleton.mp he]; exact nn_str _
  | [d], hd => exact hd d (by simp)
  | d :: e :: r, hd => exact nn_tup fun x hx => (List.mem_cons.mp hx).elim (fun q => by rw [q]; exact nn_str _) fun q => hd x q
theorem nn_more {sep : List Nat} {g : List Nat → PyData × List Nat} (h : ∀ s, Nn (g s).1) : ∀ (k : Nat) (acc : List PyData) (s : List Nat), (∀ d ∈ acc, Nn d) → ∀ d ∈ (moreF sep g k acc s).1, Nn d
  | 0, acc, s, ha => ha
  | k + 1, acc, s, ha => by
    rw [moreF]
    split
    · refine nn_more h k _ _ fun d hd => ?_
      rcases List.mem_append.mp hd with q | q
      · exact ha d q
      · rw [List.mem_singleton.mp q]; exact h _
    · exact ha
theorem nn_list {h : Str} {sep : List Nat} {g : List Nat → PyData × List Nat} (hg : ∀ s, Nn (g s).1) (s : List Nat) : Nn (listF h sep g s).1 :=
  nn_join (nn_more hg _ _ _ fun d hd => by rw [List.mem_singleton.mp hd]; exact hg s)
theorem nn_PP : ∀ (n : Nat) (s : List Nat), Nn (PP n s).1
  | 0, _ => ⟨rfl, rfl⟩
  | n + 1, s => nn_list (fun s => nn_list (fun s => nn_repF (nn_PP n) s) s) s
end L50
namespace L50
open PySem PySem.Spec PyProof.Rows L2 L54
/-! _read_word, _joined -/
theorem len_small' {n : Nat} (h : n ≤ 300000) : n ≤ sizeLine := by
  rw [sizeLine_eq]
  omega
theorem cpl_len (z : Str) : (cpl z).length = z.length := by
  show z.cps.toList.length = _
  rw [Array.length_toList]
  rfl
theorem suf_drop {l r : List Nat} (h : r <:+ l) : ∃ b, b ≤ l.length ∧ l.drop b = r := by
  obtain ⟨p, rfl⟩ := h
  exact ⟨p.length, by simp, by simp⟩
section
variable {P : Program} {w : World} {K : PySem.W.Frag} {mg : Str → Option Value} {base : Heap}
/-- what a reader at a place promises: the program and the place behind it -/
def spRd (K : PySem.W.Frag) (ok : List Nat → Prop) (g : List Nat → PyData × List Nat) : Sp := fun vs H Q _ => ∃ (z : Str) (a : Nat), vs = [.str z, .int (a : Nat)] ∧ a ≤ z.length ∧ z.length ≤ 100000 ∧ ok ((cpl z).drop a) ∧
  ∀ (q : Addr) (H' : Hp) (v : V) (b : Nat), Same H H' → SqT K H' q [v, .int (b : Nat)] → Dv K H' v (g ((cpl z).drop a)).1 → (cpl z).drop b = (g ((cpl z).drop a)).2 → Q (.ref q) H'
abbrev nRw : List Str := ["text", "at", "behind"]
theorem scRw : FnScope nRw ["text", "at"] (defScope sReadWord) := ⟨rfl, rfl, rfl, by decide +kernel, rfl, by decide +kernel, by decide +kernel⟩
def leftW (n : Nat) (i : Nat) (σ : L2.St) : Nat := match σ[i]? with
  | some (some (V.int p)) => n - p.toNat
  | _ => 0
theorem ok_readword {f : Addr} {fd : FuncData} (F : Fun K "_read_word" "_read_word" sReadWord f fd) (T : Bl mg) (G : Gb K mg) : FnOk P w K mg base CX0 1 f fd ["text", "at"] (spRd K (fun _ => True) wordF) := by
  obtain ⟨uL, mL, rL⟩ := G.let_
  refine F.ok scRw (fun vs H Q E h => ?_) (fun cdv A outer s H vs Q E hr h => ?_)
  · obtain ⟨z, a, rfl, _⟩ := h
    rfl
  · obtain ⟨z, a, rfl, ha, hz, _, h⟩ := h
    have zl := cpl_len z
    obtain ⟨tR, hR, qR⟩ : ∃ t, PSs (cxOf CX0 P w K mg base nRw "_read_word" (defScope sReadWord) f cdv A outer s H E).nox ((defBody sReadWord).drop 2) t ∧ ∀ b : Nat, a ≤ b → b ≤ z.length → (((cpl z).drop a).take (b - a)).all isL = true → noLet ((cpl z).drop b) →
        t { nx := fun _ H' => Q .non H', rt := Q } [some (.str z), some (.int (a : Nat)), some (.int (b : Nat))] H := by
      refine ⟨_, pss_cons (ps_if (pt_cmpR op_eq (pe_slice sl_str (pv 0) (po_some (pv 1)) (po_some (pv 2))) pe_str (nomark _)) (pss_one (ps_ret (pe_tup (pa_cons (pe_tup (pa_cons pe_str pa_nil)) (pa_cons (pv 2) pa_nil))))) pss_nil)
        (pss_one (ps_ret (pe_tup (pa_cons (pe_tup (pa_cons pe_str (pa_cons (pe_slice sl_str (pv 0) (po_some (pv 1)) (po_some (pv 2))) pa_nil))) (pa_cons (pv 2) pa_nil))))), fun b hab hb hall nl => ?_⟩
      have ew : ((cpl z).drop a) = ((cpl z).drop a).take (b - a) ++ (cpl z).drop b := by
        have e1 : (cpl z).drop b = ((cpl z).drop a).drop (b - a) := by rw [List.drop_drop]; congr 1; omega
        rw [e1, List.take_append_drop]
      have e : (wordF ((cpl z).drop a)) = (wordD (((cpl z).drop a).take (b - a)), (cpl z).drop b) := by
        obtain ⟨t1, t2⟩ := take_word hall nl
        rw [← ew] at t1 t2
        unfold wordF
        rw [t1, t2]
      have ecut := cut_from_to z hab hb
      refine ⟨_, rfl, _, rfl, _, rfl, _, rfl, _, rfl, z, rfl, by rw [sizeLine_eq]; omega, rfl, _, rfl, ?_⟩
      refine nS (fun c => ?_) (fun c => ?_)
      · have q1 := V.str.inj (of_decide_eq_true c)
        have ed : wordD (((cpl z).drop a).take (b - a)) = .tuple [.str "skip"] := by
          unfold wordD
          rw [if_pos (by rw [← ecut, q1])]
        refine ⟨len_small (by simp), fun t nt => ⟨_, rfl, len_small (by simp), fun q nq => ?_⟩⟩
        have U1 := up1 (o := .tup [V.str "skip"]) nt
        have U2 := up1 (o := .tup [V.ref t, V.int (b : Nat)]) nq
        refine h q _ (.ref t) b (U1.trans U2) (.inl (.inl upd_same)) ?_ (by rw [e])
        rw [e, ed]
        exact .tup (.inl (.inl (U2 _ _ upd_same))) (.cons (.str _) .nil)
      · have ed : wordD (((cpl z).drop a).take (b - a)) = .tuple [.str "do", .str (cutS z (some (a : Int)) (some (b : Int)))] := by
          unfold wordD
          rw [← ecut, toS_cpl, if_neg (fun q => of_decide_eq_false c (congrArg V.str (cpl_inj q)))]
        refine ⟨_, rfl, _, rfl, _, rfl, _, rfl, _, rfl, z, rfl, by rw [sizeLine_eq]; omega, len_small (by simp), fun t nt => ⟨_, rfl, len_small (by simp), fun q nq => ?_⟩⟩
        have U1 := up1 (o := .tup [V.str "do", V.str (cutS z (some (a : Int)) (some (b : Int)))]) nt
        have U2 := up1 (o := .tup [V.ref t, V.int (b : Nat)]) nq
        refine h q _ (.ref t) b (U1.trans U2) (.inl (.inl upd_same)) ?_ (by rw [e])
        rw [e, ed]
        exact .tup (.inl (.inl (U2 _ _ upd_same))) (.cons (.str _) (.cons (.str _) .nil))
    refine ⟨_, pss_cons (ps_set (i := 2) scRw.nd rfl (.inl rfl) (pv 1))
      (pss_cons (ps_while PassesOwn.never (PW.pt (pw_and (pt_cmpR op_lt (pv 2) (pe_callB call_len_str rfl T.len b_len (pa_cons (pv 0) pa_nil)) (nomark _)) (pw_and1 (pt_cmpR op_in_sign (pe_ix ix_str (pv 0) (pv 2) (fun _ _ => rfl)) (pe_glob rfl mL rL) rfl))))
        (pss_one (ps_aug (i := 2) scRw.nd rfl (.inl rfl) pe_int ip_add))) hR), ?_⟩
    refine ⟨_, rfl, ?_⟩
    show tWhile _ _ _ _ _
    refine while_by (fun σ Hc => ∃ b : Nat, σ = [some (.str z), some (.int (a : Nat)), some (.int (b : Nat))] ∧ Hc = H ∧ a ≤ b ∧ b ≤ z.length ∧ (((cpl z).drop a).take (b - a)).all isL = true) (fun σ _ => leftW z.length 2 σ) ?_ ?_ ?_
    · exact ⟨a, rfl, rfl, Nat.le_refl _, ha, by simp⟩
    · rintro σ Hc ⟨b, rfl, rfl, hab, hb, hall⟩
      refine ⟨_, rfl, _, rfl, z, rfl, by rw [sizeLine_eq]; omega, _, _, rfl, rfl, _, rfl, ?_⟩
      refine nS (fun c1 => ?_) (fun c1 => iF Bool.false_ne_true (qR b hab hb hall ?_))
      · have hb2 : b < (cpl z).length := by
          have := of_decide_eq_true c1
          omega
        refine ⟨_, rfl, _, rfl, z, _, (cpl z)[b], rfl, rfl, by rw [sizeLine_eq]; omega, atI_nat (List.getElem?_eq_getElem hb2), _, _, rfl, rfl, _, rfl, ?_⟩
        refine nS (fun c2 => ?_) (fun c2 => ?_)
        · refine ⟨_, rfl, _, _, rfl, rfl, ?_⟩
          refine ⟨⟨b + 1, rfl, rfl, by omega, by omega, ?_⟩, ?_⟩
          · have e1 : b + 1 - a = (b - a) + 1 := by omega
            have e2 : ((cpl z).drop a)[b - a]? = some (cpl z)[b] := by
              rw [List.getElem?_drop, show a + (b - a) = b by omega, List.getElem?_eq_getElem hb2]
            rw [e1, List.take_add_one, e2, List.all_append, hall]
            show (true && ([(cpl z)[b]].all isL)) = true
            simp only [Bool.true_and, List.all_cons, List.all_nil, Bool.and_true]
            exact c2
          · show z.length - (((b : Nat) : Int) + 1).toNat < z.length - ((b : Nat) : Int).toNat
            omega
        · refine qR b hab hb hall ?_
          rw [List.drop_eq_getElem_cons hb2]
          exact noLet_cons c2
      · have := of_decide_eq_false c1
        rw [List.drop_of_length_le (by omega)]
        exact noLet_nil
    · rintro σ Hc Q1 Q2 hh ⟨x, e1, y, e2, z1, e3, e4, i, j, e5, e6, k, e7, q⟩
      refine ⟨x, e1, y, e2, z1, e3, e4, i, j, e5, e6, k, e7, ?_⟩
      cases k with
      | true =>
        rw [if_pos rfl] at q ⊢
        obtain ⟨x2, f1, y2, f2, z2, i2, c2, f3, f4, f5, f6, c3, z3, f7, f8, k2, f9, q⟩ := q
        exact ⟨x2, f1, y2, f2, z2, i2, c2, f3, f4, f5, f6, c3, z3, f7, f8, k2, f9, hh _ _ q⟩
      | false =>
        rw [if_neg Bool.false_ne_true] at q ⊢
        exact hh _ _ q
/-! _joined -/
def spJn (K : PySem.W.Frag) : Sp := fun vs H Q _ => ∃ (h : Str) (l : Addr) (xs : List V) (ds : List PyData), vs = [.str h, .ref l] ∧ H l = some (.lst xs) ∧ DvAll K H xs ds ∧ 1 ≤ ds.length ∧ ds.length ≤ 200000 ∧ ∀ (v : V) (H' : Hp), Same H H' → Dv K H' v (joinD h ds) → Q v H'
abbrev nJn : List Str := ["kind", "members"]
theorem scJn : FnScope nJn ["kind", "members"] (defScope sJoined) := ⟨rfl, rfl, rfl, by decide +kernel, rfl, by decide +kernel, by decide +kernel⟩
theorem ok_joined {f : Addr} {fd : FuncData} (F : Fun K "_joined" "_joined" sJoined f fd) (T : Bl mg) : FnOk P w K mg base CX0 1 f fd ["kind", "members"] (spJn K) := by
  refine F.ok scJn (fun vs H Q E h => ?_) (fun cdv A outer s H vs Q E hr h => ?_)
  · obtain ⟨h1, l, xs, ds, rfl, _⟩ := h
    rfl
  · obtain ⟨h1, l, xs, ds, rfl, hl, hA, n1, n2, h⟩ := h
    refine ⟨_, pss_cons (ps_if (pt_cmpR op_eq (pe_callB call_len_seq rfl T.len b_len (pa_cons (pv 1) pa_nil)) pe_int (nomark _)) (pss_one (ps_ret (pe_ix ix_list (pv 1) pe_int (fun _ _ => rfl)))) pss_nil)
      (pss_one (ps_ret (pe_tup (pa_cons (pv 0) (StX.pa_star (pv 1) pa_nil))))), ?_⟩
    have xl := hA.len
    refine ⟨_, rfl, l, xs, rfl, .inl (.inl (.inl hl)), rfl, _, rfl, ?_⟩
    refine nS (fun c => ?_) (fun c => ?_)
    · have e1 : xs.length = 1 := by
        have := V.int.inj (of_decide_eq_true c)
        omega
      match xs, ds, hA, e1 with
      | [x], [d], hA, _ =>
        cases hA with
        | cons hx _ => exact ⟨_, rfl, l, _, _, x, rfl, rfl, .inl (.inl hl), at0, h x H (Same.refl H) hx⟩
    · have e1 : xs.length ≠ 1 := fun q => of_decide_eq_false c (by rw [q]; rfl)
      refine ⟨_, rfl, _, rfl, l, xs, rfl, .inr (.inl (.inl hl)), len_small' ?_, fun t nt => ?_⟩
      · simp
        omega
      · have U := up1 (o := .tup (V.str h1 :: (xs ++ []))) nt
        refine h _ _ U ?_
        have ej : joinD h1 ds = .tuple (.str h1 :: ds) := joinD_two (by omega)
        rw [ej]
        refine .tup (xs := V.str h1 :: xs) ?_ (.cons (.str _) (hA.mono U))
        have q := upd_same (H := H) (a := t) (o := .tup (V.str h1 :: (xs ++ [])))
        rw [List.append_nil] at q
        rw [List.append_nil]
        exact .inl (.inl q)
end
end L50
namespace L50
open PySem PySem.Spec PyProof.Rows L2 L54
/-! _read_rep -/
theorem pre_one {l : List Nat} {c : Nat} : ([c] : List Nat).isPrefixOf l = true ↔ ∃ r, l = c :: r := by
  rw [List.isPrefixOf_iff_prefix]
  constructor
  · rintro ⟨r, rfl⟩
    exact ⟨r, rfl⟩
  · rintro ⟨r, rfl⟩
    exact ⟨r, rfl⟩
theorem drop_cons {l r : List Nat} {a c : Nat} (h : l.drop a = c :: r) : a < l.length ∧ l.drop (a + 1) = r := by
  have l1 : a < l.length := by
    rcases Nat.lt_or_ge a l.length with q | q
    · exact q
    · rw [List.drop_of_length_le q] at h
      cases h
  refine ⟨l1, ?_⟩
  have := List.drop_drop (i := 1) (j := a) (l := l)
  rw [h] at this
  rw [← this]
  rfl
theorem cpl_par : cpl "(" = [40] ∧ cpl "*" = [42] ∧ cpl "; " = sepS ∧ cpl " | " = sepO := by decide +kernel
section
variable {P : Program} {w : World} {K : PySem.W.Frag} {mg : Str → Option Value} {base : Heap}
abbrev nRr : List Str := ["text", "at", "program"]
theorem scRr : FnScope nRr ["text", "at"] (defScope sReadRep) := ⟨rfl, rfl, rfl, by decide +kernel, rfl, by decide +kernel, by decide +kernel⟩
/-- the fewer parentheses, the fewer calls one within another -/
def few4 (n : Nat) (l : List Nat) : Prop := l.count 40 < n
def le4 (n : Nat) (l : List Nat) : Prop := l.count 40 ≤ n
theorem step_rep {n j : Nat} {f fO fW : Addr} {fd fdO fdW : FuncData} (F : Fun K "_read_rep" "_read_rep" sReadRep f fd) (T : Bl mg) (kO : PySem.W.keepIn K (.ref fO) = true) (bO : Binds K fdO ["text", "at"] []) (mO : mg "_read_or" = some (.ref fO))
    (kW : PySem.W.keepIn K (.ref fW) = true) (bW : Binds K fdW ["text", "at"] []) (mW : mg "_read_word" = some (.ref fW)) (GW : FnOk P w K mg base CX0 1 fW fdW ["text", "at"] (spRd K (fun _ => True) wordF)) (hj : 1 ≤ j)
    (GO : FnOk P w K mg base CX0 j fO fdO ["text", "at"] (spRd K (few4 n) (PP n))) : FnOk P w K mg base CX0 (j + 1) f fd ["text", "at"] (spRd K (le4 n) (repF (PP n))) := by
  refine F.ok scRr (fun vs H Q E h => ?_) (fun cdv A outer s H vs Q E hr h => ?_)
  · obtain ⟨z, a, rfl, _⟩ := h
    rfl
  · obtain ⟨z, a, rfl, ha, hz, hok, h⟩ := h
    have zl := cpl_len z
    have key : ∀ b : Nat, Txt.startswith3 z "(" (b : Int) = ([40] : List Nat).isPrefixOf ((cpl z).drop b) := fun b => by
      rw [starts_at z "(" b (by rw [cpl_par.1]; decide), cpl_par.1]
    have keyS : ∀ b : Nat, Txt.startswith3 z "*" (b : Int) = ([42] : List Nat).isPrefixOf ((cpl z).drop b) := fun b => by
      rw [starts_at z "*" b (by rw [cpl_par.2.1]; decide), cpl_par.2.1]
    obtain ⟨tR, hR, qR⟩ : ∃ t, PSs (cxOf CX0 P w K mg base nRr "_read_rep" (defScope sReadRep) f cdv A outer s H E).nox ((defBody sReadRep).drop 1) t ∧ ∀ (v : V) (d : PyData) (b : Nat) (H1 : Hp), Same H H1 → Dv K H1 v d → starF d ((cpl z).drop b) = repF (PP n) ((cpl z).drop a) →
        t { nx := fun _ H' => Q .non H', rt := Q } [some (.str z), some (.int (b : Nat)), some v] H1 := by
      refine ⟨_, pss_cons (ps_while PassesOwn.never (pt_val (pe_bm PySem.F.plainAttrs_str PySem.F.slot_str_startswith PySem.F.type_str_startswith mt_startswith3 (pv 0) (pa_cons pe_str (pa_cons (pv 1) pa_nil))))
          (pss_cons (ps_set (i := 2) scRr.nd rfl (.inl rfl) (pe_tup (pa_cons pe_str (pa_cons (pv 2) pa_nil)))) (pss_one (ps_set (i := 1) scRr.nd rfl (.inl rfl) (pe_op op_add (pv 1) pe_int)))))
        (pss_one (ps_ret (pe_tup (pa_cons (pv 2) (pa_cons (pv 1) pa_nil))))), fun v d b H1 S1 hD hM => ?_⟩
      show tWhile _ _ _ _ _
      refine while_by (fun σ Hc => ∃ (v : V) (d : PyData) (b : Nat), σ = [some (.str z), some (.int (b : Nat)), some v] ∧ Same H Hc ∧ Dv K Hc v d ∧ starF d ((cpl z).drop b) = repF (PP n) ((cpl z).drop a)) (fun σ _ => leftW z.length 1 σ) ⟨v, d, b, rfl, S1, hD, hM⟩ ?_ ?_
      · rintro σ Hc ⟨v, d, b, rfl, S, hD, hM⟩
        refine ⟨_, rfl, rfl, _, rfl, z, "*", (b : Nat), rfl, rfl, _, rfl, ?_⟩
        rw [keyS b]
        refine nS (fun c => ?_) (fun c => ?_)
        · obtain ⟨r, er⟩ := pre_one.mp c
          obtain ⟨l1, l2⟩ := drop_cons er
          refine ⟨_, rfl, len_small (by simp), fun t nt => ?_⟩
          have U := up1 (o := .tup [V.str "rep", v]) nt
          refine ⟨_, rfl, _, _, rfl, rfl, ⟨.ref t, .tuple [.str "rep", d], b + 1, rfl, S.trans U, .tup (.inl (.inl upd_same)) (.cons (.str _) (.cons (hD.mono U) .nil)), ?_⟩, ?_⟩
          · rw [← hM, er, l2, starF, if_pos rfl]
          · show z.length - (((b : Nat) : Int) + 1).toNat < z.length - ((b : Nat) : Int).toNat
            omega
        · have st : starF d ((cpl z).drop b) = (d, (cpl z).drop b) := star_stop fun c' r' e q => by
            rw [q] at e
            rw [pre_one.mpr ⟨r', e⟩] at c
            cases c
          rw [st] at hM
          refine ⟨_, rfl, _, rfl, len_small (by simp), fun q nq => ?_⟩
          have U := up1 (o := .tup [v, V.int (b : Nat)]) nq
          refine h q _ v b (S.trans U) (.inl (.inl upd_same)) ?_ ?_
          · rw [← hM]
            exact hD.mono U
          · rw [← hM]
      · rintro σ Hc Q1 Q2 hh ⟨x, e1, e2, q⟩
        obtain ⟨z1, e3, a1, b1, i1, e4, e5, k, e6, q⟩ := q
        exact ⟨x, e1, e2, z1, e3, a1, b1, i1, e4, e5, k, e6, hh _ _ q⟩
    refine ⟨_, pss_cons (ps_if (pt_val (pe_bm PySem.F.plainAttrs_str PySem.F.slot_str_startswith PySem.F.type_str_startswith mt_startswith3 (pv 0) (pa_cons pe_str (pa_cons (pv 1) pa_nil))))
        (pss_cons (ps_asg (pe_call GO hr rfl mO kO bO .nil pass0 (pa_cons (pv 0) (pa_cons (pe_op op_add (pv 1) pe_int) pa_nil))) (pg_tup (by rfl) (pgs_cons (pg_name (i := 2) scRr.nd rfl (Or.inl rfl)) (pgs_cons (pg_name (i := 1) scRr.nd rfl (Or.inl rfl)) pgs_nil))))
          (pss_one (ps_set (i := 1) scRr.nd rfl (.inl rfl) (pe_op op_add (pv 1) pe_int))))
        (pss_one (ps_asg (pe_call GW (hr.mono hj) rfl mW kW bW .nil pass0 (pa_cons (pv 0) (pa_cons (pv 1) pa_nil))) (pg_tup (by rfl) (pgs_cons (pg_name (i := 2) scRr.nd rfl (Or.inl rfl)) (pgs_cons (pg_name (i := 1) scRr.nd rfl (Or.inl rfl)) pgs_nil)))))) hR, ?_⟩
    refine ⟨_, rfl, rfl, _, rfl, z, "(", (a : Nat), rfl, rfl, _, rfl, ?_⟩
    rw [key a]
    refine nS (fun c => ?_) (fun c => ?_)
    · obtain ⟨r, er⟩ := pre_one.mp c
      obtain ⟨l1, l2⟩ := drop_cons er
      have cnt : ((cpl z).drop (a + 1)).count 40 < n := by
        have q : ((cpl z).drop a).count 40 ≤ n := hok
        rw [er, List.count_cons_self] at q
        rw [l2]
        omega
      refine ⟨_, rfl, _, rfl, _, _, rfl, rfl, z, a + 1, rfl, by omega, hz, cnt, fun q H1 v b S1 hq hv hb => ?_⟩
      refine ⟨q, _, rfl, hq, rfl, _, _, rfl, _, _, rfl, rfl, _, rfl, _, _, rfl, rfl, qR v _ (b + 1) H1 S1 hv ?_⟩
      rw [er]
      show _ = starF (if (40 : Nat) = 40 then (((PP n) r).1, ((PP n) r).2.drop 1) else wordF (40 :: r)).1 (if (40 : Nat) = 40 then (((PP n) r).1, ((PP n) r).2.drop 1) else wordF (40 :: r)).2
      rw [if_pos rfl, l2]
      rw [l2] at hb
      rw [← hb, List.drop_drop]
    · refine ⟨_, rfl, _, rfl, z, a, rfl, ha, hz, True.intro, fun q H1 v b S1 hq hv hb => ?_⟩
      refine ⟨q, _, rfl, hq, rfl, _, _, rfl, _, _, rfl, rfl, qR v _ b H1 S1 hv ?_⟩
      have eb : baseF (PP n) ((cpl z).drop a) = wordF ((cpl z).drop a) := by
        cases hs : (cpl z).drop a with
        | nil => rfl
        | cons c' r' =>
          rw [baseF, if_neg]
          intro q
          rw [q] at hs
          rw [pre_one.mpr ⟨r', hs⟩] at c
          cases c
      show _ = starF (baseF (PP n) ((cpl z).drop a)).1 (baseF (PP n) ((cpl z).drop a)).2
      rw [eb, hb]
end
end L50
namespace L50
open PySem PySem.Spec PyProof.Rows L2 L54
def ten : List Str := ["a", "ends", "skipb", "do", "seq", "or", "rep", "gen", "starts", "longname"]
def cutS' (zs : List Str) (lo hi : Option Int) : List Str := (zs.drop (HT.sIx zs.length 0 lo)).take (HT.sIx zs.length zs.length hi - HT.sIx zs.length 0 lo)
theorem cut_map (zs : List Str) (lo hi : Option Int) : cutV (zs.map V.str) lo hi = (cutS' zs lo hi).map V.str := by
  unfold cutV cutS'
  rw [List.length_map, List.map_take, List.map_drop]
theorem cut_mem {zs : List Str} {lo hi : Option Int} {x : Str} (h : x ∈ cutS' zs lo hi) : x ∈ zs := List.mem_of_mem_drop (List.mem_of_mem_take h)
theorem cut_from {zs : List Str} {n : Nat} (h : n ≤ zs.length) : (cutS' zs (some (n : Int)) none).length = zs.length - n := by
  unfold cutS'
  rw [HT.sIx_nat, HT.sIx_none, List.length_take, List.length_drop]
  omega
theorem cut_to {zs : List Str} {n : Nat} (h : n ≤ zs.length) : (cutS' zs none (some (n : Int))).length = n := by
  unfold cutS'
  rw [HT.sIx_nat, HT.sIx_none, List.length_take, List.length_drop]
  omega
section
variable {P : Program} {w : World} {K : PySem.W.Frag} {mg : Str → Option Value} {base : Heap}
/-- the digits that are left: at p, one number of the right size -/
def Dg (H : Hp) (p : Addr) : Prop := ∃ n : Int, H p = some (.lst [.int n]) ∧ 0 ≤ n ∧ n < big
def spWords : Sp := fun vs H Q _ => ∃ (p : Addr) (m : Nat), vs = [.ref p, .int (m : Nat)] ∧ Dg H p ∧ 1 ≤ m ∧ m ≤ 10 ∧
  ∀ (q : Addr) (H' : Hp) (zs : List Str), SameB p H H' → Dg H' p → H' q = some (.lst (zs.map V.str)) → zs.length = m → (∀ z ∈ zs, z ∈ ten) → Q (.ref q) H'
abbrev nWs : List Str := ["own", "many", "some", "at"]
theorem scWs : FnScope nWs ["own", "many"] (defScope sWords) := ⟨rfl, rfl, rfl, by decide +kernel, rfl, by decide +kernel, by decide +kernel⟩
theorem ok_words {f fT : Addr} {fd fdT : FuncData} (F : Fun K "_law_words" "_law_words" sWords f fd) (T : Bl mg) (FT : Fun K "_law_take" "_law_take" sTake fT fdT) (bT : Binds K fdT ["own", "options"] []) (mT : mg "_law_take" = some (.ref fT)) :
    FnOk P w K mg base CX0 2 f fd ["own", "many"] spWords := by
  have GT : FnOk P w K mg base CX0 1 fT fdT ["own", "options"] spTake := ok_take FT T
  refine F.ok scWs (fun vs H Q E h => ?_) (fun cdv A outer s H vs Q E hr h => ?_)
  · obtain ⟨p, m, rfl, _⟩ := h
    rfl
  · obtain ⟨p, m, rfl, ⟨n, hp, n0, n1⟩, m1, m2, h⟩ := h
    refine ⟨_, pss_cons (ps_set (i := 2) scWs.nd rfl (.inl rfl) (pe_lst (pa_cons pe_str (pa_cons pe_str (pa_cons pe_str (pa_cons pe_str (pa_cons pe_str (pa_cons pe_str (pa_cons pe_str (pa_cons pe_str (pa_cons pe_str (pa_cons pe_str pa_nil))))))))))))
      (pss_cons (ps_set (i := 3) scWs.nd rfl (.inl rfl) (pe_call GT hr rfl mT FT.kp bT .nil pass0 (pa_cons (pv 0) (pa_cons pe_int pa_nil))))
      (pss_one (ps_ret (pe_slice sl_list (pe_op op_cat (pe_slice sl_list (pv 2) (po_some (pv 3)) po_none) (pe_slice sl_list (pv 2) po_none (po_some (pv 3)))) po_none (po_some (pv 1)))))), ?_⟩
    refine ⟨len_small (by simp), fun l nl => ?_⟩
    have nlp : l ≠ p := fun e => by rw [e, hp] at nl; cases nl
    refine ⟨_, rfl, p, n, 10, rfl, (by rw [upd_ne (Ne.symm nlp)]; exact hp), n0, n1, by decide, by decide, fun d n' d0 d1 n0' n1' => ?_⟩
    have hL : (upd (upd H l (.lst [V.str "a", V.str "ends", V.str "skipb", V.str "do", V.str "seq", V.str "or", V.str "rep", V.str "gen", V.str "starts", V.str "longname"])) p (.lst [.int n'])) l = some (.lst (ten.map V.str)) := by rw [upd_ne nlp, upd_same]; rfl
    have hP : (upd (upd H l (.lst [V.str "a", V.str "ends", V.str "skipb", V.str "do", V.str "seq", V.str "or", V.str "rep", V.str "gen", V.str "starts", V.str "longname"])) p (.lst [.int n'])) p = some (.lst [.int n']) := upd_same
    have hB : SameB p H (upd (upd H l (.lst [V.str "a", V.str "ends", V.str "skipb", V.str "do", V.str "seq", V.str "or", V.str "rep", V.str "gen", V.str "starts", V.str "longname"])) p (.lst [.int n'])) := (SameB.of (up1 nl)).trans SameB.at
    generalize upd (upd H l (.lst [V.str "a", V.str "ends", V.str "skipb", V.str "do", V.str "seq", V.str "or", V.str "rep", V.str "gen", V.str "starts", V.str "longname"])) p (.lst [.int n']) = H1 at *
    obtain ⟨j, rfl⟩ : ∃ j : Nat, d = (j : Int) := ⟨d.toNat, by omega⟩
    refine ⟨_, rfl, _, rfl, _, rfl, l, _, rfl, .inl (.inl hL), fun q1 nq1 => ?_⟩
    rw [cut_map]
    have U1 := up1 (o := .lst ((cutS' ten (some (j : Int)) none).map V.str)) nq1
    refine ⟨_, rfl, _, rfl, _, rfl, l, _, rfl, .inl (.inl (U1 _ _ hL)), fun q2 nq2 => ?_⟩
    rw [cut_map]
    have U2 := up1 (o := .lst ((cutS' ten none (some (j : Int))).map V.str)) nq2
    have A1 := U2 _ _ (upd_same (H := H1) (a := q1) (o := .lst ((cutS' ten (some (j : Int)) none).map V.str)))
    have l1 : (cutS' ten (some (j : Int)) none).length = 10 - j := cut_from (zs := ten) (show j ≤ 10 by omega)
    have l2 : (cutS' ten none (some (j : Int))).length = j := cut_to (zs := ten) (show j ≤ 10 by omega)
    refine ⟨_, _, _, _, rfl, rfl, A1, upd_same, len_small (by rw [List.length_map, List.length_map, l1, l2]; omega), fun r nr => ?_⟩
    have U3 := up1 (o := .lst ((cutS' ten (some (j : Int)) none).map V.str ++ (cutS' ten none (some (j : Int))).map V.str)) nr
    refine ⟨_, rfl, _, rfl, r, _, rfl, .inl (.inl upd_same), fun q3 nq3 => ?_⟩
    rw [← List.map_append, cut_map]
    rw [← List.map_append] at U3
    have U4 := up1 (o := .lst ((cutS' (cutS' ten (some (j : Int)) none ++ cutS' ten none (some (j : Int))) none (some (m : Int))).map V.str)) nq3
    rw [← List.map_append] at U4
    have U := U1.trans (U2.trans (U3.trans U4))
    refine h q3 _ _ (hB.trans (SameB.of U)) ⟨n', U _ _ hP, n0', n1'⟩ upd_same (cut_to (by rw [List.length_append, l1, l2]; omega)) fun z hz => ?_
    rcases List.mem_append.mp (cut_mem hz) with a | a
    · exact cut_mem a
    · exact cut_mem a
end
end L50
namespace L50
open PySem PySem.Spec PyProof.Rows L2 L54
mutual
theorem dvB {K : PySem.W.Frag} {H H' : Hp} {p : Addr} {ys : List V} (s : SameB p H H') (hp : H p = some (.lst ys)) : ∀ (d : PyData) (v : V), noList d = true → d.hasDict = false → Dv K H v d → Dv K H' v d
  | .none, _, _, _, h => by cases h; exact .non
  | .bool _, _, _, _, h => by cases h; exact .bl _
  | .int _, _, _, _, h => by cases h; exact .int _
  | .str _, _, _, _, h => by cases h; exact .str _
  | .list ds, _, n, _, h => by simp [noList] at n
  | .tuple ds, _, n, m, h => by
    cases h with
    | @tup a xs _ h1 h2 =>
      refine .tup ?_ (dvBAll s hp ds _ (by simpa [noList] using n) (by simpa [PyData.hasDict] using m) h2)
      rcases h1 with (h1 | ⟨o, h1⟩) | h1
      · exact .inl (.inl (s _ _ (fun e => by rw [e, hp] at h1; cases h1) h1))
      · exact .inl (.inr ⟨o, s _ _ (fun e => by rw [e, hp] at h1; cases h1) h1⟩)
      · exact .inr h1
  | .dict _, _, _, m, h => by simp [PyData.hasDict] at m
theorem dvBAll {K : PySem.W.Frag} {H H' : Hp} {p : Addr} {ys : List V} (s : SameB p H H') (hp : H p = some (.lst ys)) : ∀ (ds : List PyData) (vs : List V), noListAll ds = true → PyData.hasDictAll ds = false → DvAll K H vs ds → DvAll K H' vs ds
  | [], _, _, _, h => by cases h; exact .nil
  | d :: ds, _, n, m, h => by
    cases h with
    | cons h1 h2 =>
      simp only [noListAll, Bool.and_eq_true] at n
      simp only [PyData.hasDictAll, Bool.or_eq_false_iff] at m
      exact .cons (dvB s hp d _ n.1 m.1 h1) (dvBAll s hp ds _ n.2 m.2 h2)
end
def cM : Nat → Nat
  | 0 => 1
  | m + 1 => 1 + 3 * cM m
def wM : Nat → Nat
  | 0 => 12
  | m + 1 => 4 + 3 * (wM m + 1)
/-- a program as the law builds it, so deep at most, over the names zs -/
structure Pgm (zs : List Str) (m : Nat) (d : PyData) : Prop where
  wf : ∀ k, k + m ≤ 40 → wf k d = true
  cn : (pre d).length ≤ cM m
  ac : ∀ x, act d x → x ∈ zs
  wt : d.weight ≤ wM m
  dp : d.depth ≤ m + 1
  sh : d.showable = true
  lv : d.leavesShort 2000 = true
  nl : noList d = true
  hd : d.hasDict = false
theorem cM_up : ∀ m, cM m ≤ cM (m + 1) := fun m => by show cM m ≤ 1 + 3 * cM m; omega
theorem wM_up : ∀ m, wM m ≤ wM (m + 1) := fun m => by show wM m ≤ 4 + 3 * (wM m + 1); omega
theorem wM_pos : ∀ m, 12 ≤ wM m
  | 0 => Nat.le_refl _
  | m + 1 => Nat.le_trans (wM_pos m) (wM_up m)
theorem cM_pos : ∀ m, 1 ≤ cM m
  | 0 => Nat.le_refl _
  | m + 1 => Nat.le_trans (cM_pos m) (cM_up m)
theorem pgm_skip (zs : List Str) (m : Nat) : Pgm zs m (.tuple [.str "skip"]) := by
  refine ⟨fun k hk => ?_, ?_, fun x hx => ?_, ?_, ?_, by decide +kernel, by decide +kernel, by decide +kernel, by decide +kernel⟩
  · rw [L50.wf, wf2, wfAll, decide_eq_true (show k ≤ 40 by omega)]
    decide +kernel
  · have e : (pre (.tuple [.str "skip"])).length = 1 := by decide +kernel
    rw [e]
    exact cM_pos m
  · have e : pre (.tuple [.str "skip"]) = [("" : Str)] := by decide +kernel
    unfold act at hx
    rw [e] at hx
    exact absurd (List.mem_singleton.mp hx.1) hx.2
  · have e : (PyData.tuple [.str "skip"]).weight = 5 := by decide +kernel
    rw [e]
    have := wM_pos m
    omega
  · have e : (PyData.tuple [.str "skip"]).depth = 1 := by decide +kernel
    rw [e]
    omega
theorem ten_ok : ∀ z ∈ ten, isName (.str z) = true ∧ z.length ≤ 8 ∧ (PyData.tuple [.str "do", .str z]).leavesShort 2000 = true := by decide +kernel
theorem pgm_do {zs : List Str} {m : Nat} {z : Str} (hz : z ∈ zs) (ht : z ∈ ten) : Pgm zs m (.tuple [.str "do", .str z]) := by
  obtain ⟨n1, n2, n3⟩ := ten_ok z ht
  have hd : isStr (.str "do") "do" = true := by decide +kernel
  have ep : pre (.tuple [.str "do", .str z]) = [z] := by rw [pre, pre2, hd]; rfl
  refine ⟨fun k hk => ?_, ?_, fun x hx => ?_, ?_, ?_, ?_, n3, ?_, ?_⟩
  · rw [L50.wf, wf2, decide_eq_true (show k ≤ 40 by omega), partOf_cases, hd]
    show (true && isName (.str z) && _) = true
    rw [n1]
    rfl
  · rw [ep]
    exact cM_pos m
  · unfold act at hx
    rw [ep] at hx
    rw [List.mem_singleton.mp hx.1]
    exact hz
  · have e : (PyData.tuple [.str "do", .str z]).weight = 2 + 1 + (z.length + 1 + 0) := by
      rw [PyData.weight, PyData.weightAll, PyData.weightAll, PyData.weightAll, PyData.weight, PyData.weight]
      rfl
    rw [e]
    have := wM_pos m
    omega
  · rw [PyData.depth, PyData.depthAll, PyData.depthAll, PyData.depthAll, PyData.depth, PyData.depth]
    omega
  · simp [PyData.showable, PyData.showableAll]
  · simp [noList, noListAll]
  · simp [PyData.hasDict, PyData.hasDictAll]
/-- a program over programs -/
theorem pgm_over {zs : List Str} {m : Nat} {h : Str} {r : List PyData} (hh : h = "rep" ∨ h = "seq" ∨ h = "or") (hp : partOf (.str h) r = true) (hl : r.length ≤ 3) (hr : ∀ d ∈ r, Pgm zs m d) : Pgm zs (m + 1) (.tuple (.str h :: r)) := by
  have hnd : isStr (.str h) "do" = false := by rcases hh with rfl | rfl | rfl <;> decide +kernel
  have hlen : h.length ≤ 3 ∧ (PyData.str h).leavesShort 2000 = true := by rcases hh with rfl | rfl | rfl <;> exact ⟨by decide +kernel, by decide +kernel⟩
  have ep : pre (.tuple (.str h :: r)) = ("" : Str) :: r.flatMap pre := by rw [pre, pre2, hnd, preAll_eq]; rfl
  have ind : ∀ l : List PyData, (∀ d ∈ l, Pgm zs m d) → (l.flatMap pre).length ≤ l.length * cM m ∧ PyData.weightAll l ≤ l.length * (wM m + 1) ∧ PyData.depthAll l ≤ m + 1 ∧ PyData.showableAll l = true ∧ PyData.leavesShortAll 2000 l = true ∧ noListAll l = true ∧ PyData.hasDictAll l = false := by
    intro l
    induction l with
    | nil => exact fun _ => ⟨Nat.zero_le _, Nat.zero_le _, Nat.zero_le _, rfl, rfl, rfl, rfl⟩
    | cons d l ih =>
      intro q
      obtain ⟨a1, a2, a3, a4, a5, a6, a7⟩ := ih fun e he => q e (List.mem_cons_of_mem _ he)
      have b := q d List.mem_cons_self
      have b1 := b.cn
      have b2 := b.wt
      have b3 := b.dp
      refine ⟨?_, ?_, ?_, ?_, ?_, ?_, ?_⟩
      · rw [List.flatMap_cons, List.length_append, List.length_cons, Nat.succ_mul]
        omega
      · rw [PyData.weightAll, List.length_cons, Nat.succ_mul]
        omega
      · rw [PyData.depthAll]
        omega
      · simp [PyData.showableAll, b.sh, a4]
      · simp [PyData.leavesShortAll, b.lv, a5]
      · simp [noListAll, b.nl, a6]
      · simp [PyData.hasDictAll, b.hd, a7]
  obtain ⟨a1, a2, a3, a4, a5, a6, a7⟩ := ind r hr
  have l1 : r.length * cM m ≤ 3 * cM m := Nat.mul_le_mul_right _ hl
  have l2 : r.length * (wM m + 1) ≤ 3 * (wM m + 1) := Nat.mul_le_mul_right _ hl
  refine ⟨fun k hk => ?_, ?_, fun x hx => ?_, ?_, ?_, ?_, ?_, ?_, ?_⟩
  · rw [L50.wf, wf2, decide_eq_true (show k ≤ 40 by omega), hp, wfAll_eq, hnd]
    show (r.all (L50.wf (k + 1))) = true
    rw [List.all_eq_true]
    exact fun d hd => (hr d hd).wf (k + 1) (by omega)
  · rw [ep, List.length_cons]
    show _ ≤ 1 + 3 * cM m
    omega
  · unfold act at hx
    rw [ep] at hx
    rcases List.mem_cons.mp hx.1 with e | e
    · exact absurd e hx.2
    · obtain ⟨d, hd, hxd⟩ := List.mem_flatMap.mp e
      exact (hr d hd).ac x ⟨hxd, hx.2⟩
  · rw [w_tup, PyData.weightAll, PyData.weight]
    have : h.cps.size = h.length := rfl
    show _ ≤ 4 + 3 * (wM m + 1)
    omega
  · rw [PyData.depth, PyData.depthAll, PyData.depth]
    omega
  · simp [PyData.showable, PyData.showableAll, a4]
  · have q := hlen.2
    simp only [PyData.leavesShort, PyData.leavesShortAll, Bool.and_eq_true] at q ⊢
    exact ⟨q, a5⟩
  · simp [noList, noListAll, a6]
  · simp [PyData.hasDict, PyData.hasDictAll, a7]
end L50
namespace L50
open PySem PySem.Spec PyProof.Rows L2 L54
theorem nS3 {c : Bool} {A B : Prop} (a : A) (b : c = false → A → B) : if (c = true) then A else B := by cases c with
  | true => exact iT rfl a
  | false => exact iF Bool.false_ne_true (b rfl a)
theorem part_seq {ds : List PyData} (h : 2 ≤ ds.length) : partOf (.str "seq") ds = true := by
  rw [partOf_cases, show isStr (.str "seq") "do" = false by decide +kernel, show isStr (.str "seq") "skip" = false by decide +kernel, show isStr (.str "seq") "rep" = false by decide +kernel, show isStr (.str "seq") "seq" = true by decide +kernel]
  simp [h]
theorem part_or {ds : List PyData} (h : 2 ≤ ds.length) : partOf (.str "or") ds = true := by
  rw [partOf_cases, show isStr (.str "or") "do" = false by decide +kernel, show isStr (.str "or") "skip" = false by decide +kernel, show isStr (.str "or") "rep" = false by decide +kernel, show isStr (.str "or") "or" = true by decide +kernel]
  simp [h]
theorem part_rep {d : PyData} : partOf (.str "rep") [d] = true := by
  rw [partOf_cases, show isStr (.str "rep") "do" = false by decide +kernel, show isStr (.str "rep") "skip" = false by decide +kernel, show isStr (.str "rep") "rep" = true by decide +kernel]
  rfl
section
variable {P : Program} {w : World} {K : PySem.W.Frag} {mg : Str → Option Value} {base : Heap}
def spPg (K : PySem.W.Frag) (m : Nat) : Sp := fun vs H Q _ => ∃ (p q : Addr) (zs : List Str), vs = [.ref p, .ref q, .int (m : Nat)] ∧ Dg H p ∧ H q = some (.lst (zs.map V.str)) ∧ q ≠ p ∧ 1 ≤ zs.length ∧ zs.length ≤ 10 ∧ (∀ z ∈ zs, z ∈ ten) ∧
  ∀ (v : V) (d : PyData) (H' : Hp), SameB p H H' → Dg H' p → Dv K H' v d → Pgm zs m d → Q v H'
abbrev nPg : List Str := ["own", "called", "deep", "pick", "pieces", "k"]
theorem scPg : FnScope nPg ["own", "called", "deep"] (defScope sProgram) := ⟨rfl, rfl, rfl, by decide +kernel, rfl, by decide +kernel, by decide +kernel⟩
theorem step_pg {f fT : Addr} {fd fdT : FuncData} {m j : Nat} {sp : Sp} (F : Fun K "_law_program" "_law_program" sProgram f fd) (T : Bl mg) (bF : Binds K fd ["own", "called", "deep"] []) (mF : mg "_law_program" = some (.ref f))
    (FT : Fun K "_law_take" "_law_take" sTake fT fdT) (bT : Binds K fdT ["own", "options"] []) (mT : mg "_law_take" = some (.ref fT)) (hj : 1 ≤ j) (GL : FnOk P w K mg base CX0 j f fd ["own", "called", "deep"] sp)
    (hsp : ∀ vs H Q, (∃ m', m = m' + 1 ∧ spPg K m' vs H Q E0) → sp vs H Q E0) : FnOk P w K mg base CX0 (j + 1) f fd ["own", "called", "deep"] (spPg K m) := by
  have GT : FnOk P w K mg base CX0 1 fT fdT ["own", "options"] spTake := ok_take FT T
  refine F.ok scPg (fun vs H Q E h => ?_) (fun cdv A outer s H vs Q E hr h => ?_)
  · obtain ⟨p, q, zs, rfl, _⟩ := h
    rfl
  · obtain ⟨p, q, zs, rfl, ⟨n, hp, n0, n1⟩, hq, nqp, z1, z2, zt, h⟩ := h
    have hrT := hr.mono hj
    refine ⟨_, pss_cons (ps_set (i := 3) scPg.nd rfl (.inl rfl) (pe_call GT hrT rfl mT FT.kp bT .nil pass0 (pa_cons (pv 0) (pa_cons pe_int pa_nil))))
      (pss_cons (ps_if (PW.pt (pw_or (pt_cmpR op_eq (pv 2) pe_int (nomark _)) (pw_or1 (pt_cmpR op_lt (pv 3) pe_int (nomark _))))) (pss_one (ps_ret (pe_ifExp (pt_cmpR op_eq (pe_call GT hrT rfl mT FT.kp bT .nil pass0 (pa_cons (pv 0) (pa_cons pe_int pa_nil))) pe_int (nomark _)) (pe_tup (pa_cons pe_str pa_nil))
          (pe_tup (pa_cons pe_str (pa_cons (pe_ix ix_list (pv 1) (pe_call GT hrT rfl mT FT.kp bT .nil pass0 (pa_cons (pv 0) (pa_cons (pe_callB call_len_seq rfl T.len b_len (pa_cons (pv 1) pa_nil)) pa_nil))) (fun _ _ => rfl)) pa_nil)))))) pss_nil)
      (pss_cons (ps_if (pt_cmpR op_eq (pv 3) pe_int (nomark _)) (pss_one (ps_ret (pe_tup (pa_cons pe_str (pa_cons (pe_call GL hr rfl mF F.kp bF .nil pass0 (pa_cons (pv 0) (pa_cons (pv 1) (pa_cons (pe_op op_sub (pv 2) pe_int) pa_nil)))) pa_nil))))) pss_nil)
      (pss_cons (ps_setLc (i := 4) (own := [("k", 5)]) (g := gName 5) (tt := tYes) rfl scPg.nd rfl rfl (sw_true rfl rfl rfl (by decide +kernel)) (pi_range1 rfl T.range (pa_cons (pe_op op_add pe_int (pe_op op_fdiv (pe_call GT hrT rfl mT FT.kp bT .nil pass0 (pa_cons (pv 0) (pa_cons pe_int pa_nil))) pe_int)) pa_nil))
          (blkOk_by (N := nPg) (sc := defScope sProgram) (by decide +kernel)) (fun _ _ _ _ _ => pg_name (i := 5) scPg.nd rfl (Or.inl rfl)) (fun _ _ _ _ _ => pts_nil)
          (fun _ _ _ _ _ => pe_call GL hr rfl mF F.kp bF .nil pass0 (pa_cons (pv 0) (pa_cons (pv 1) (pa_cons (pe_op op_sub (pv 2) pe_int) pa_nil)))))
      (pss_one (ps_ret (pe_op op_catT (pe_tup (pa_cons (pe_ifExp (pt_cmpR op_lt (pv 3) pe_int (nomark _)) pe_str pe_str) pa_nil)) (pe_callTy call_tuple_of rfl T.tup b_tup (pa_cons (pv 4) pa_nil)))))))), ?_⟩
    refine ⟨_, rfl, p, n, 10, rfl, hp, n0, n1, by decide, by decide, fun pk n' d0 d1 n0' n1' => ?_⟩
    have hp1 : (upd H p (.lst [.int n'])) p = some (.lst [.int n']) := upd_same
    have hq1 : (upd H p (.lst [.int n'])) q = some (.lst (zs.map V.str)) := by rw [upd_ne nqp]; exact hq
    have B1 : SameB p H (upd H p (.lst [.int n'])) := SameB.at
    clear hp hq n0 n1 n
    generalize upd H p (.lst [.int n']) = H1 at *
    refine ⟨_, rfl, rfl, _, rfl, ?_⟩
    refine nS3 ?_ (fun c1 hA => ?_)
    · refine ⟨_, rfl, p, n', 6, rfl, hp1, n0', n1', by decide, by decide, fun d2 n2 e0 e1 n20 n21 => ⟨rfl, _, rfl, ?_⟩⟩
      have hp2 : (upd H1 p (.lst [.int n2])) p = some (.lst [.int n2]) := upd_same
      have hq2 : (upd H1 p (.lst [.int n2])) q = some (.lst (zs.map V.str)) := by rw [upd_ne nqp]; exact hq1
      have B2 : SameB p H (upd H1 p (.lst [.int n2])) := B1.trans SameB.at
      generalize upd H1 p (.lst [.int n2]) = H2 at *
      refine nS (fun c => ?_) (fun c => ?_)
      · refine ⟨len_small (by simp), fun t nt => ?_⟩
        have U := up1 (o := .tup [V.str "skip"]) nt
        exact h _ _ _ (B2.trans (SameB.of U)) ⟨n2, U _ _ hp2, n20, n21⟩ (.tup (.inl (.inl upd_same)) (.cons (.str _) .nil)) (pgm_skip zs m)
      · refine ⟨_, rfl, _, rfl, _, rfl, q, _, rfl, .inl (.inl (.inl hq2)), p, n2, _, rfl, hp2, n20, n21, by rw [List.length_map]; omega, by rw [List.length_map]; omega, fun d3 n3 f0 f1 n30 n31 => ?_⟩
        have hp3 : (upd H2 p (.lst [.int n3])) p = some (.lst [.int n3]) := upd_same
        have hq3 : (upd H2 p (.lst [.int n3])) q = some (.lst (zs.map V.str)) := by rw [upd_ne nqp]; exact hq2
        have B3 : SameB p H (upd H2 p (.lst [.int n3])) := B2.trans SameB.at
        generalize upd H2 p (.lst [.int n3]) = H3 at *
        rw [List.length_map] at f1
        obtain ⟨i, rfl⟩ : ∃ i : Nat, d3 = (i : Int) := ⟨d3.toNat, by omega⟩
        have hi : i < zs.length := by omega
        refine ⟨q, _, _, V.str zs[i], rfl, rfl, .inl (.inl hq3), atI_nat (by simp [hi]), ?_⟩
        refine ⟨len_small (by simp), fun t nt => ?_⟩
        have U := up1 (o := .tup [V.str "do", V.str zs[i]]) nt
        have hz : zs[i] ∈ zs := List.getElem_mem hi
        exact h _ _ _ (B3.trans (SameB.of U)) ⟨n3, U _ _ hp3, n30, n31⟩ (.tup (.inl (.inl upd_same)) (.cons (.str _) (.cons (.str _) .nil))) (pgm_do hz (zt _ hz))
    refine ⟨_, rfl, _, _, rfl, rfl, _, rfl, nS (fun _ => hA) (fun c2 => ?_)⟩
    clear hA
    have m0 : m ≠ 0 := fun e => by subst e; revert c1; decide
    obtain ⟨m', rfl⟩ : ∃ m', m = m' + 1 := ⟨m - 1, by omega⟩
    have args : [V.ref p, V.ref q, V.int (((m' + 1 : Nat) : Int) - 1)] = [V.ref p, V.ref q, V.int ((m' : Nat) : Int)] := by
      rw [show (((m' + 1 : Nat) : Int) - 1) = ((m' : Nat) : Int) by omega]
    refine ⟨_, rfl, rfl, _, rfl, ?_⟩
    refine nS (fun c3 => ?_) (fun c3 => ?_)
    · refine ⟨_, rfl, _, rfl, _, rfl, _, _, rfl, rfl, hsp _ _ _ ⟨m', rfl, p, q, zs, args, ⟨n', hp1, n0', n1'⟩, hq1, nqp, z1, z2, zt, fun v d H2 B2 D2 hd2 pg => ?_⟩⟩
      refine ⟨len_small (by simp), fun t nt => ?_⟩
      have U := up1 (o := .tup [V.str "rep", v]) nt
      obtain ⟨n2, hp2, a2, b2⟩ := D2
      exact h _ _ _ (B1.trans (B2.trans (SameB.of U))) ⟨n2, U _ _ hp2, a2, b2⟩ (.tup (.inl (.inl upd_same)) (.cons (.str _) (.cons (hd2.mono U) .nil))) (pgm_over (.inl rfl) part_rep (by simp) fun e he => by rw [List.mem_singleton.mp he]; exact pg)
    · refine ⟨_, rfl, p, n', 3, rfl, hp1, n0', n1', by decide, by decide, fun d3 n3 f0 f1 n30 n31 => ?_⟩
      have hp3 : (upd H1 p (.lst [.int n3])) p = some (.lst [.int n3]) := upd_same
      have hq3 : (upd H1 p (.lst [.int n3])) q = some (.lst (zs.map V.str)) := by rw [upd_ne nqp]; exact hq1
      have B3 : SameB p H (upd H1 p (.lst [.int n3])) := B1.trans SameB.at
      generalize upd H1 p (.lst [.int n3]) = H3 at *
      have hc : 2 ≤ (2 + d3 / 2).toNat ∧ (2 + d3 / 2).toNat ≤ 3 := by omega
      refine ⟨_, _, rfl, rfl, ⟨by decide, by decide⟩, _, _, rfl, rfl, _, rfl, by omega, by omega, fun D nD => ?_⟩
      generalize (2 + d3 / 2).toNat = cn at *
      have nDp : D ≠ p := fun e => by rw [e, hp3] at nD; cases nD
      have nDq : D ≠ q := fun e => by rw [e, hq3] at nD; cases nD
      refine lc_range (n := cn) (fun i Hc => ∃ (vs : List V) (ds : List PyData), SameB p H3 Hc ∧ Dg Hc p ∧ Hc D = some (.lst vs) ∧ DvAll K Hc vs ds ∧ vs.length = i ∧ ∀ d ∈ ds, Pgm zs m' d) ?_ ?_ ?_
      · exact ⟨[], [], SameB.of (up1 nD), ⟨n3, by rw [upd_ne (Ne.symm nDp)]; exact hp3, n30, n31⟩, upd_same, .nil, rfl, fun d hd => by cases hd⟩
      · rintro i Hc hi ⟨vs, ds, Bc, Dc, Lc, Ac, hl, hds⟩
        refine ⟨rfl, ?_⟩
        have hqc := Bc _ _ nqp hq3
        refine ⟨_, rfl, _, rfl, _, rfl, _, _, rfl, rfl, hsp _ _ _ ⟨m', rfl, p, q, zs, args, Dc, hqc, nqp, z1, z2, zt, fun v d H' B' D' hd' pg => ?_⟩⟩
        obtain ⟨nc, hpc, _, _⟩ := Dc
        have nl : noListAll ds = true ∧ PyData.hasDictAll ds = false := by
          clear Ac
          induction ds with
          | nil => exact ⟨rfl, rfl⟩
          | cons e es ih =>
            obtain ⟨i1, i2⟩ := ih fun x hx => hds x (List.mem_cons_of_mem _ hx)
            have pe := hds e List.mem_cons_self
            exact ⟨by simp [noListAll, pe.nl, i1], by simp [PyData.hasDictAll, pe.hd, i2]⟩
        have A' := dvBAll B' hpc ds vs nl.1 nl.2 Ac
        have L' := B' _ _ nDp Lc
        obtain ⟨nd, hpd, a2, b2⟩ := D'
        have gone : ∀ (x : V) (e : PyData), noList e = true → e.hasDict = false → Dv K H' x e → Dv K (upd H' D (.lst (vs ++ [v]))) x e := fun x e n1 n2 hx => dvB (p := D) SameB.at L' e x n1 n2 hx
        refine ⟨vs, L', small1000 (by omega), vs ++ [v], ds ++ [d], (Bc.trans B').new nD, ⟨nd, by rw [upd_ne (Ne.symm nDp)]; exact hpd, a2, b2⟩, upd_same, ?_, by rw [List.length_append, hl]; rfl, fun e he => ?_⟩
        · exact (dvBAll (p := D) SameB.at L' ds vs nl.1 nl.2 A').app (.cons (gone v d pg.nl pg.hd hd') .nil)
        · rcases List.mem_append.mp he with he | he
          · exact hds e he
          · rw [List.mem_singleton.mp he]
            exact pg
      · rintro Hc ⟨vs, ds, Bc, Dc, Lc, Ac, hl, hds⟩
        have hld := Ac.len
        have hvs : vs ≠ [] := fun e => by rw [e] at hl; simp at hl; omega
        obtain ⟨nc, hpc, a2, b2⟩ := Dc
        refine ⟨_, rfl, _, _, rfl, rfl, _, rfl, ?_⟩
        refine nS (fun c => ?_) (fun c => ?_)
        · refine ⟨len_small (by simp), fun t1 nt1 => ?_⟩
          have U1 := up1 (o := .tup [V.str "seq"]) nt1
          refine ⟨_, rfl, D, vs, rfl, .inl ⟨.inl (.inl (U1 _ _ Lc)), fun t2 nt2 => ?_⟩⟩
          have U2 := up1 (o := .tup vs) nt2
          have T1 := U2 _ _ (upd_same (H := Hc) (a := t1) (o := .tup [V.str "seq"]))
          refine ⟨t1, t2, _, _, rfl, rfl, .inl (.inl T1), .inl (.inl upd_same), by simp, len_small (by simp; omega), fun e => absurd e hvs, fun _ t3 nt3 => ?_⟩
          have U3 := up1 (o := .tup ([V.str "seq"] ++ vs)) nt3
          have U := U1.trans (U2.trans U3)
          exact h _ _ _ (B3.trans (Bc.trans (SameB.of U))) ⟨nc, U _ _ hpc, a2, b2⟩ (.tup (ds := .str "seq" :: ds) (.inl (.inl upd_same)) (.cons (.str _) (Ac.mono U))) (pgm_over (.inr (.inl rfl)) (part_seq (by omega)) (by omega) hds)
        · refine ⟨len_small (by simp), fun t1 nt1 => ?_⟩
          have U1 := up1 (o := .tup [V.str "or"]) nt1
          refine ⟨_, rfl, D, vs, rfl, .inl ⟨.inl (.inl (U1 _ _ Lc)), fun t2 nt2 => ?_⟩⟩
          have U2 := up1 (o := .tup vs) nt2
          have T1 := U2 _ _ (upd_same (H := Hc) (a := t1) (o := .tup [V.str "or"]))
          refine ⟨t1, t2, _, _, rfl, rfl, .inl (.inl T1), .inl (.inl upd_same), by simp, len_small (by simp; omega), fun e => absurd e hvs, fun _ t3 nt3 => ?_⟩
          have U3 := up1 (o := .tup ([V.str "or"] ++ vs)) nt3
          have U := U1.trans (U2.trans U3)
          exact h _ _ _ (B3.trans (Bc.trans (SameB.of U))) ⟨nc, U _ _ hpc, a2, b2⟩ (.tup (ds := .str "or" :: ds) (.inl (.inl upd_same)) (.cons (.str _) (Ac.mono U))) (pgm_over (.inr (.inr rfl)) (part_or (by omega)) (by omega) hds)
theorem ok_pg {f fT : Addr} {fd fdT : FuncData} (F : Fun K "_law_program" "_law_program" sProgram f fd) (T : Bl mg) (bF : Binds K fd ["own", "called", "deep"] []) (mF : mg "_law_program" = some (.ref f))
    (FT : Fun K "_law_take" "_law_take" sTake fT fdT) (bT : Binds K fdT ["own", "options"] []) (mT : mg "_law_take" = some (.ref fT)) : ∀ m : Nat, FnOk P w K mg base CX0 (m + 2) f fd ["own", "called", "deep"] (spPg K m)
  | 0 => step_pg (j := 1) (sp := fun _ _ _ _ => False) F T bF mF FT bT mT (Nat.le_refl _) ⟨fun _ _ _ _ h => h.elim, fun _ _ _ _ _ _ _ _ _ _ _ _ _ h => h.elim⟩ fun _ _ _ ⟨_, e, _⟩ => by cases e
  | m + 1 => step_pg (j := m + 2) F T bF mF FT bT mT (by omega) (ok_pg F T bF mF FT bT mT m) fun _ _ _ ⟨m', e, q⟩ => by cases e; exact q
end
end L50
namespace L50
open PySem PySem.Spec PyProof.Rows L2 L54
/-! _read_seq, _read_or -/
section
variable {P : Program} {w : World} {K : PySem.W.Frag} {mg : Str → Option Value} {base : Heap}
abbrev nLs : List Str := ["text", "at", "member", "members"]
theorem scseq : FnScope nLs ["text", "at"] (defScope sReadSeq) := ⟨rfl, rfl, rfl, by decide +kernel, rfl, by decide +kernel, by decide +kernel⟩
theorem scor : FnScope nLs ["text", "at"] (defScope sReadOr) := ⟨rfl, rfl, rfl, by decide +kernel, rfl, by decide +kernel, by decide +kernel⟩
theorem step_seq {n j : Nat} {f fI fJ : Addr} {fd fdI fdJ : FuncData} (F : Fun K "_read_seq" "_read_seq" sReadSeq f fd) (T : Bl mg) (kI : PySem.W.keepIn K (.ref fI) = true) (bI : Binds K fdI ["text", "at"] []) (mI : mg "_read_rep" = some (.ref fI))
    (kJ : PySem.W.keepIn K (.ref fJ) = true) (bJ : Binds K fdJ ["kind", "members"] []) (mJ : mg "_joined" = some (.ref fJ)) (GJ : FnOk P w K mg base CX0 1 fJ fdJ ["kind", "members"] (spJn K)) (hj : 1 ≤ j)
    (GI : FnOk P w K mg base CX0 j fI fdI ["text", "at"] (spRd K (le4 n) (repF (PP n)))) : FnOk P w K mg base CX0 (j + 1) f fd ["text", "at"] (spRd K (le4 n) (seqF (PP n))) := by
  have SF : Sf (repF (PP n)) := rep_sf (PP_sf n)
  have NN : ∀ s, Nn (repF (PP n) s).1 := fun s => nn_repF (nn_PP n) s
  refine F.ok scseq (fun vs H Q E h => ?_) (fun cdv A outer s H vs Q E hr h => ?_)
  · obtain ⟨z, a, rfl, _⟩ := h
    rfl
  · obtain ⟨z, a, rfl, ha, hz, hok, h⟩ := h
    have zl := cpl_len z
    have key : ∀ b : Nat, Txt.startswith3 z "; " (b : Int) = (sepS).isPrefixOf ((cpl z).drop b) := fun b => by
      rw [starts_at z "; " b (by rw [cpl_par.2.2.1]; decide), cpl_par.2.2.1]
    have sepl : ("; " : Str).length = 2 := by decide +kernel
    obtain ⟨tR, hR, qR⟩ : ∃ t, PSs (cxOf CX0 P w K mg base nLs "_read_seq" (defScope sReadSeq) f cdv A outer s H E).nox ((defBody sReadSeq).drop 2) t ∧ ∀ (v : V) (b : Nat) (l : Addr) (H1 : Hp), H l = none → Same H H1 → H1 l = some (.lst [v]) → Dv K H1 v (repF (PP n) ((cpl z).drop a)).1 →
        (cpl z).drop b = (repF (PP n) ((cpl z).drop a)).2 → t { nx := fun _ H' => Q .non H', rt := Q } [some (.str z), some (.int (b : Nat)), some v, some (.ref l)] H1 := by
      refine ⟨_, pss_cons (ps_while PassesOwn.never (pt_val (pe_bm PySem.F.plainAttrs_str PySem.F.slot_str_startswith PySem.F.type_str_startswith mt_startswith3 (pv 0) (pa_cons pe_str (pa_cons (pv 1) pa_nil))))
          (pss_cons (ps_asg (pe_call GI hr rfl mI kI bI .nil pass0 (pa_cons (pv 0) (pa_cons (pe_op op_add (pv 1) (pe_callB call_len_str rfl T.len b_len (pa_cons pe_str pa_nil))) pa_nil))) (pg_tup (by rfl) (pgs_cons (pg_name (i := 2) scseq.nd rfl (Or.inl rfl)) (pgs_cons (pg_name (i := 1) scseq.nd rfl (Or.inl rfl)) pgs_nil))))
            (pss_one (ps_expr (pe_bm PySem.F.plainAttrs_list PySem.F.slot_list_append PySem.F.type_list_append mt_append (pv 3) (pa_cons (pv 2) pa_nil))))))
        (pss_one (ps_ret (pe_tup (pa_cons (pe_call GJ (hr.mono hj) rfl mJ kJ bJ .nil pass0 (pa_cons pe_str (pa_cons (pv 3) pa_nil))) (pa_cons (pv 1) pa_nil))))), fun v b l H1 nlH S1 hL hD hb => ?_⟩
      show tWhile _ _ _ _ _
      have s0 := SF.suf ((cpl z).drop a)
      refine while_by (fun σ Hc => ∃ (v : V) (b k : Nat) (xs : List V) (acc : List PyData) (r : List Nat), σ = [some (.str z), some (.int (b : Nat)), some v, some (.ref l)] ∧ Same H Hc ∧ Hc l = some (.lst xs) ∧ DvAll K Hc xs acc ∧ (cpl z).drop b = r ∧ r <:+ (cpl z).drop a ∧
          moreF sepS (repF (PP n)) k acc r = moreF sepS (repF (PP n)) (repF (PP n) ((cpl z).drop a)).2.length [(repF (PP n) ((cpl z).drop a)).1] (repF (PP n) ((cpl z).drop a)).2 ∧ r.length ≤ k ∧ (∀ d ∈ acc, Nn d) ∧ 1 ≤ acc.length ∧ acc.length + r.length ≤ z.length + 1) (fun σ _ => leftW z.length 1 σ) ?_ ?_ ?_
      · refine ⟨v, b, _, [v], _, _, rfl, S1, hL, .cons hD .nil, hb, s0, rfl, Nat.le_refl _, fun d hd => by rw [List.mem_singleton.mp hd]; exact NN _, Nat.le_refl _, ?_⟩
        have := s0.length_le
        rw [List.length_drop] at this
        simp
        omega
      · rintro σ Hc ⟨v, b, k, xs, acc, r, rfl, S, hL, hA, hb, hs, hM, hk, hn, h1, h2⟩
        have xl := hA.len
        refine ⟨_, rfl, rfl, _, rfl, z, "; ", (b : Nat), rfl, rfl, _, rfl, ?_⟩
        rw [key b, hb]
        refine nS (fun c => ?_) (fun c => ?_)
        · have pf := List.isPrefixOf_iff_prefix.mp c
          have pl := pf.length_le
          have el : (sepS).length = 2 := rfl
          rw [el] at pl
          have bl : b + 2 ≤ z.length := by
            have q := congrArg List.length hb
            rw [List.length_drop] at q
            omega
          have edr : (cpl z).drop (b + 2) = r.drop 2 := by rw [← hb, List.drop_drop]
          have cnt : ((cpl z).drop (b + 2)).count 40 ≤ n := by
            rw [edr]
            have q1 := ((List.drop_suffix 2 r).trans hs).sublist.count_le 40
            exact Nat.le_trans q1 hok
          have suf2 := SF.suf (r.drop 2)
          obtain ⟨k', rfl⟩ : ∃ k', k = k' + 1 := ⟨k - 1, by omega⟩
          rw [moreF, if_pos c, el] at hM
          refine ⟨_, rfl, _, rfl, "; ", rfl, by rw [sepl]; decide, _, _, rfl, rfl, z, b + 2, (by rw [sepl]; rfl), by omega, hz, cnt, fun q H2 v2 b2 S2 hq hv hb2 => ?_⟩
          rw [edr] at hv hb2
          refine ⟨q, _, rfl, hq, rfl, _, _, rfl, _, _, rfl, rfl, ?_⟩
          have hL2 := S2 _ _ hL
          have hA2 := hA.mono S2
          have sl := suf2.length_le
          rw [List.length_drop] at sl
          refine ⟨_, rfl, .inl ⟨rfl, _, .inl (.inl hL2)⟩, _, rfl, l, _, v2, rfl, rfl, hL2, by rw [sizeLine_eq]; omega, ?_⟩
          have nnv := NN (r.drop 2)
          have nna : noListAll acc = true ∧ PyData.hasDictAll acc = false := by
            have q := nn_tup hn
            exact ⟨by have := q.1; rw [noList] at this; exact this, by have := q.2; rw [PyData.hasDict] at this; exact this⟩
          refine ⟨⟨v2, b2, k', xs ++ [v2], acc ++ [(repF (PP n) (r.drop 2)).1], _, rfl, same_at (S.trans S2) nlH, upd_same, ?_, hb2, suf2.trans ((List.drop_suffix _ _).trans hs), hM, by omega, fun d hd => ?_, by simp, by rw [List.length_append]; simp; omega⟩, ?_⟩
          · exact (dvBAll (p := l) SameB.at hL2 acc xs nna.1 nna.2 hA2).app (.cons (dvB (p := l) SameB.at hL2 _ v2 nnv.1 nnv.2 hv) .nil)
          · rcases List.mem_append.mp hd with q | q
            · exact hn d q
            · rw [List.mem_singleton.mp q]; exact nnv
          · show z.length - ((b2 : Nat) : Int).toNat < z.length - ((b : Nat) : Int).toNat
            have q1 := congrArg List.length hb2
            rw [List.length_drop] at q1
            have q2 := congrArg List.length hb
            rw [List.length_drop] at q2
            omega
        · have em : moreF sepS (repF (PP n)) k acc r = (acc, r) := by
            cases k with
            | zero => rfl
            | succ k => rw [moreF, c]; rfl
          rw [em] at hM
          refine ⟨_, rfl, "seq", l, xs, acc, rfl, hL, hA, h1, by omega, fun v2 H2 S2 hv => ?_⟩
          refine ⟨_, rfl, len_small (by simp), fun q nq => ?_⟩
          have U := up1 (o := .tup [v2, V.int (b : Nat)]) nq
          have e1 : seqF (PP n) ((cpl z).drop a) = (joinD "seq" acc, r) := by
            show listF "seq" sepS (repF (PP n)) ((cpl z).drop a) = _
            unfold listF
            rw [← hM]
          refine h q _ v2 b (S.trans (S2.trans U)) (.inl (.inl upd_same)) ?_ ?_
          · rw [e1]
            exact hv.mono U
          · rw [e1, hb]
      · rintro σ Hc Q1 Q2 hh ⟨x, e1, e2, q⟩
        obtain ⟨z1, e3, a1, b1, i1, e4, e5, k, e6, q⟩ := q
        exact ⟨x, e1, e2, z1, e3, a1, b1, i1, e4, e5, k, e6, hh _ _ q⟩
    refine ⟨_, pss_cons (ps_asg (pe_call GI hr rfl mI kI bI .nil pass0 (pa_cons (pv 0) (pa_cons (pv 1) pa_nil))) (pg_tup (by rfl) (pgs_cons (pg_name (i := 2) scseq.nd rfl (Or.inl rfl)) (pgs_cons (pg_name (i := 1) scseq.nd rfl (Or.inl rfl)) pgs_nil))))
      (pss_cons (ps_set (i := 3) scseq.nd rfl (.inl rfl) (pe_lst (pa_cons (pv 2) pa_nil))) hR), ?_⟩
    refine ⟨_, rfl, _, rfl, z, a, rfl, ha, hz, hok, fun q H1 v b S1 hq hv hb => ?_⟩
    refine ⟨q, _, rfl, hq, rfl, _, _, rfl, _, _, rfl, rfl, ?_⟩
    refine ⟨_, rfl, len_small (by simp), fun l nl => ?_⟩
    have nlH : H l = none := by
      cases q : H l with
      | none => rfl
      | some o => rw [S1 _ _ q] at nl; cases nl
    have U := up1 (o := .lst [v]) nl
    exact qR v b l _ nlH (S1.trans U) upd_same (hv.mono U) hb
theorem step_or {n j : Nat} {f fI fJ : Addr} {fd fdI fdJ : FuncData} (F : Fun K "_read_or" "_read_or" sReadOr f fd) (T : Bl mg) (kI : PySem.W.keepIn K (.ref fI) = true) (bI : Binds K fdI ["text", "at"] []) (mI : mg "_read_seq" = some (.ref fI))
    (kJ : PySem.W.keepIn K (.ref fJ) = true) (bJ : Binds K fdJ ["kind", "members"] []) (mJ : mg "_joined" = some (.ref fJ)) (GJ : FnOk P w K mg base CX0 1 fJ fdJ ["kind", "members"] (spJn K)) (hj : 1 ≤ j)
    (GI : FnOk P w K mg base CX0 j fI fdI ["text", "at"] (spRd K (le4 n) (seqF (PP n)))) : FnOk P w K mg base CX0 (j + 1) f fd ["text", "at"] (spRd K (le4 n) (orF (PP n))) := by
  have SF : Sf (seqF (PP n)) := list_sf (rep_sf (PP_sf n)) (by decide) (by decide +kernel)
  have NN : ∀ s, Nn (seqF (PP n) s).1 := fun s => nn_list (fun s => nn_repF (nn_PP n) s) s
  refine F.ok scor (fun vs H Q E h => ?_) (fun cdv A outer s H vs Q E hr h => ?_)
  · obtain ⟨z, a, rfl, _⟩ := h
    rfl
  · obtain ⟨z, a, rfl, ha, hz, hok, h⟩ := h
    have zl := cpl_len z
    have key : ∀ b : Nat, Txt.startswith3 z " | " (b : Int) = (sepO).isPrefixOf ((cpl z).drop b) := fun b => by
      rw [starts_at z " | " b (by rw [cpl_par.2.2.2]; decide), cpl_par.2.2.2]
    have sepl : (" | " : Str).length = 3 := by decide +kernel
    obtain ⟨tR, hR, qR⟩ : ∃ t, PSs (cxOf CX0 P w K mg base nLs "_read_or" (defScope sReadOr) f cdv A outer s H E).nox ((defBody sReadOr).drop 2) t ∧ ∀ (v : V) (b : Nat) (l : Addr) (H1 : Hp), H l = none → Same H H1 → H1 l = some (.lst [v]) → Dv K H1 v (seqF (PP n) ((cpl z).drop a)).1 →
        (cpl z).drop b = (seqF (PP n) ((cpl z).drop a)).2 → t { nx := fun _ H' => Q .non H', rt := Q } [some (.str z), some (.int (b : Nat)), some v, some (.ref l)] H1 := by
      refine ⟨_, pss_cons (ps_while PassesOwn.never (pt_val (pe_bm PySem.F.plainAttrs_str PySem.F.slot_str_startswith PySem.F.type_str_startswith mt_startswith3 (pv 0) (pa_cons pe_str (pa_cons (pv 1) pa_nil))))
          (pss_cons (ps_asg (pe_call GI hr rfl mI kI bI .nil pass0 (pa_cons (pv 0) (pa_cons (pe_op op_add (pv 1) (pe_callB call_len_str rfl T.len b_len (pa_cons pe_str pa_nil))) pa_nil))) (pg_tup (by rfl) (pgs_cons (pg_name (i := 2) scor.nd rfl (Or.inl rfl)) (pgs_cons (pg_name (i := 1) scor.nd rfl (Or.inl rfl)) pgs_nil))))
            (pss_one (ps_expr (pe_bm PySem.F.plainAttrs_list PySem.F.slot_list_append PySem.F.type_list_append mt_append (pv 3) (pa_cons (pv 2) pa_nil))))))
        (pss_one (ps_ret (pe_tup (pa_cons (pe_call GJ (hr.mono hj) rfl mJ kJ bJ .nil pass0 (pa_cons pe_str (pa_cons (pv 3) pa_nil))) (pa_cons (pv 1) pa_nil))))), fun v b l H1 nlH S1 hL hD hb => ?_⟩
      show tWhile _ _ _ _ _
      have s0 := SF.suf ((cpl z).drop a)
      refine while_by (fun σ Hc => ∃ (v : V) (b k : Nat) (xs : List V) (acc : List PyData) (r : List Nat), σ = [some (.str z), some (.int (b : Nat)), some v, some (.ref l)] ∧ Same H Hc ∧ Hc l = some (.lst xs) ∧ DvAll K Hc xs acc ∧ (cpl z).drop b = r ∧ r <:+ (cpl z).drop a ∧
          moreF sepO (seqF (PP n)) k acc r = moreF sepO (seqF (PP n)) (seqF (PP n) ((cpl z).drop a)).2.length [(seqF (PP n) ((cpl z).drop a)).1] (seqF (PP n) ((cpl z).drop a)).2 ∧ r.length ≤ k ∧ (∀ d ∈ acc, Nn d) ∧ 1 ≤ acc.length ∧ acc.length + r.length ≤ z.length + 1) (fun σ _ => leftW z.length 1 σ) ?_ ?_ ?_
      · refine ⟨v, b, _, [v], _, _, rfl, S1, hL, .cons hD .nil, hb, s0, rfl, Nat.le_refl _, fun d hd => by rw [List.mem_singleton.mp hd]; exact NN _, Nat.le_refl _, ?_⟩
        have := s0.length_le
        rw [List.length_drop] at this
        simp
        omega
      · rintro σ Hc ⟨v, b, k, xs, acc, r, rfl, S, hL, hA, hb, hs, hM, hk, hn, h1, h2⟩
        have xl := hA.len
        refine ⟨_, rfl, rfl, _, rfl, z, " | ", (b : Nat), rfl, rfl, _, rfl, ?_⟩
        rw [key b, hb]
        refine nS (fun c => ?_) (fun c => ?_)
        · have pf := List.isPrefixOf_iff_prefix.mp c
          have pl := pf.length_le
          have el : (sepO).length = 3 := rfl
          rw [el] at pl
          have bl : b + 3 ≤ z.length := by
            have q := congrArg List.length hb
            rw [List.length_drop] at q
            omega
          have edr : (cpl z).drop (b + 3) = r.drop 3 := by rw [← hb, List.drop_drop]
          have cnt : ((cpl z).drop (b + 3)).count 40 ≤ n := by
            rw [edr]
            have q1 := ((List.drop_suffix 3 r).trans hs).sublist.count_le 40
            exact Nat.le_trans q1 hok
          have suf2 := SF.suf (r.drop 3)
          obtain ⟨k', rfl⟩ : ∃ k', k = k' + 1 := ⟨k - 1, by omega⟩
          rw [moreF, if_pos c, el] at hM
          refine ⟨_, rfl, _, rfl, " | ", rfl, by rw [sepl]; decide, _, _, rfl, rfl, z, b + 3, (by rw [sepl]; rfl), by omega, hz, cnt, fun q H2 v2 b2 S2 hq hv hb2 => ?_⟩
          rw [edr] at hv hb2
          refine ⟨q, _, rfl, hq, rfl, _, _, rfl, _, _, rfl, rfl, ?_⟩
          have hL2 := S2 _ _ hL
          have hA2 := hA.mono S2
          have sl := suf2.length_le
          rw [List.length_drop] at sl
          refine ⟨_, rfl, .inl ⟨rfl, _, .inl (.inl hL2)⟩, _, rfl, l, _, v2, rfl, rfl, hL2, by rw [sizeLine_eq]; omega, ?_⟩
          have nnv := NN (r.drop 3)
          have nna : noListAll acc = true ∧ PyData.hasDictAll acc = false := by
            have q := nn_tup hn
            exact ⟨by have := q.1; rw [noList] at this; exact this, by have := q.2; rw [PyData.hasDict] at this; exact this⟩
          refine ⟨⟨v2, b2, k', xs ++ [v2], acc ++ [(seqF (PP n) (r.drop 3)).1], _, rfl, same_at (S.trans S2) nlH, upd_same, ?_, hb2, suf2.trans ((List.drop_suffix _ _).trans hs), hM, by omega, fun d hd => ?_, by simp, by rw [List.length_append]; simp; omega⟩, ?_⟩
          · exact (dvBAll (p := l) SameB.at hL2 acc xs nna.1 nna.2 hA2).app (.cons (dvB (p := l) SameB.at hL2 _ v2 nnv.1 nnv.2 hv) .nil)
          · rcases List.mem_append.mp hd with q | q
            · exact hn d q
            · rw [List.mem_singleton.mp q]; exact nnv
          · show z.length - ((b2 : Nat) : Int).toNat < z.length - ((b : Nat) : Int).toNat
            have q1 := congrArg List.length hb2
            rw [List.length_drop] at q1
            have q2 := congrArg List.length hb
            rw [List.length_drop] at q2
            omega
        · have em : moreF sepO (seqF (PP n)) k acc r = (acc, r) := by
            cases k with
            | zero => rfl
            | succ k => rw [moreF, c]; rfl
          rw [em] at hM
          refine ⟨_, rfl, "or", l, xs, acc, rfl, hL, hA, h1, by omega, fun v2 H2 S2 hv => ?_⟩
          refine ⟨_, rfl, len_small (by simp), fun q nq => ?_⟩
          have U := up1 (o := .tup [v2, V.int (b : Nat)]) nq
          have e1 : orF (PP n) ((cpl z).drop a) = (joinD "or" acc, r) := by
            show listF "or" sepO (seqF (PP n)) ((cpl z).drop a) = _
            unfold listF
            rw [← hM]
          refine h q _ v2 b (S.trans (S2.trans U)) (.inl (.inl upd_same)) ?_ ?_
          · rw [e1]
            exact hv.mono U
          · rw [e1, hb]
      · rintro σ Hc Q1 Q2 hh ⟨x, e1, e2, q⟩
        obtain ⟨z1, e3, a1, b1, i1, e4, e5, k, e6, q⟩ := q
        exact ⟨x, e1, e2, z1, e3, a1, b1, i1, e4, e5, k, e6, hh _ _ q⟩
    refine ⟨_, pss_cons (ps_asg (pe_call GI hr rfl mI kI bI .nil pass0 (pa_cons (pv 0) (pa_cons (pv 1) pa_nil))) (pg_tup (by rfl) (pgs_cons (pg_name (i := 2) scor.nd rfl (Or.inl rfl)) (pgs_cons (pg_name (i := 1) scor.nd rfl (Or.inl rfl)) pgs_nil))))
      (pss_cons (ps_set (i := 3) scor.nd rfl (.inl rfl) (pe_lst (pa_cons (pv 2) pa_nil))) hR), ?_⟩
    refine ⟨_, rfl, _, rfl, z, a, rfl, ha, hz, hok, fun q H1 v b S1 hq hv hb => ?_⟩
    refine ⟨q, _, rfl, hq, rfl, _, _, rfl, _, _, rfl, rfl, ?_⟩
    refine ⟨_, rfl, len_small (by simp), fun l nl => ?_⟩
    have nlH : H l = none := by
      cases q : H l with
      | none => rfl
      | some o => rw [S1 _ _ q] at nl; cases nl
    have U := up1 (o := .lst [v]) nl
    exact qR v b l _ nlH (S1.trans U) upd_same (hv.mono U) hb
/-- the readers, one within another -/
structure Rd (K : PySem.W.Frag) (mg : Str → Option Value) where
  T : Bl mg
  G : Gb K mg
  fO : Addr
  fS : Addr
  fR : Addr
  fW : Addr
  fJ : Addr
  dO : FuncData
  dS : FuncData
  dR : FuncData
  dW : FuncData
  dJ : FuncData
  FO : Fun K "_read_or" "_read_or" sReadOr fO dO
  FS : Fun K "_read_seq" "_read_seq" sReadSeq fS dS
  FR : Fun K "_read_rep" "_read_rep" sReadRep fR dR
  FW : Fun K "_read_word" "_read_word" sReadWord fW dW
  FJ : Fun K "_joined" "_joined" sJoined fJ dJ
  bO : Binds K dO ["text", "at"] []
  bS : Binds K dS ["text", "at"] []
  bR : Binds K dR ["text", "at"] []
  bW : Binds K dW ["text", "at"] []
  bJ : Binds K dJ ["kind", "members"] []
  mO : mg "_read_or" = some (.ref fO)
  mS : mg "_read_seq" = some (.ref fS)
  mR : mg "_read_rep" = some (.ref fR)
  mW : mg "_read_word" = some (.ref fW)
  mJ : mg "_joined" = some (.ref fJ)
theorem ok_or (R : Rd K mg) : ∀ n : Nat, FnOk P w K mg base CX0 (3 * n + 1) R.fO R.dO ["text", "at"] (spRd K (few4 n) (PP n))
  | 0 => ⟨fun vs H Q E ⟨z, a, e, _⟩ => by rw [e]; rfl, fun _ _ _ _ _ _ _ _ _ _ _ _ _ ⟨_, _, _, _, _, h, _⟩ => absurd h (Nat.not_lt_zero _)⟩
  | n + 1 => by
    have GR := step_rep R.FR R.T R.FO.kp R.bO R.mO R.FW.kp R.bW R.mW (ok_readword R.FW R.T R.G) (by omega) (ok_or R n)
    have GS := step_seq R.FS R.T R.FR.kp R.bR R.mR R.FJ.kp R.bJ R.mJ (ok_joined R.FJ R.T) (by omega) GR
    have GO := step_or R.FO R.T R.FS.kp R.bS R.mS R.FJ.kp R.bJ R.mJ (ok_joined R.FJ R.T) (by omega) GS
    exact GO.imp fun vs H Q E ⟨z, a, e, h1, h2, h3, h4⟩ => ⟨z, a, e, h1, h2, Nat.le_of_lt_succ h3, h4⟩
end
end L50
/-! tuples: t + u, t[lo:hi], t[::-1], told without the new thing's place -/
namespace L50
open PySem PySem.Spec PyProof.Rows L2 L54
section
variable {X : Cx}
def rCatU (K : PySem.W.Frag) : R2 := fun x y H Q => ∃ a b xs ys, x = .ref a ∧ y = .ref b ∧ SqT K H a xs ∧ SqT K H b ys ∧ xs.length + ys.length ≤ 1000 ∧ ∀ p H', Same H H' → SqT K H' p (xs ++ ys) → Q (.ref p) H'
theorem op_catU : OpR X (binaryOp .Add) (rCatU X.K) := by
  intro pins s σ H x y v u Q I rx ry h
  obtain ⟨a, b, xs, ys, rfl, rfl, ha, hb, hz, q⟩ := h
  refine op_catA pins s σ H _ _ v u Q I rx ry ⟨a, b, xs, ys, rfl, rfl, ha, hb, len_small hz, fun e => ?_, fun _ e => ?_, fun _ _ p np => q p _ (up1 np) (.inl (.inl upd_same))⟩
  · subst e
    exact q b H (Same.refl H) hb
  · subst e
    rw [List.append_nil] at q
    exact q a H (Same.refl H) ha
def rSlU (K : PySem.W.Frag) : V → Option Int → Option Int → Hp → VK → Prop := fun x lo hi H Q => ∃ a xs, x = .ref a ∧ SqT K H a xs ∧ ∀ p H', Same H H' → SqT K H' p (cutV xs lo hi) → Q (.ref p) H'
theorem sl_U : SlR X (rSlU X.K) := by
  intro pins s σ H x v vl vu lo hi sl Q I rx hs pl pu h
  obtain ⟨a, xs, rfl, ha, q⟩ := h
  refine sl_tupA pins s σ H _ v vl vu lo hi sl Q I rx hs pl pu ⟨a, xs, rfl, ha, fun e => ?_, fun _ p np => q p _ (up1 np) (.inl (.inl upd_same))⟩
  refine q a H (Same.refl H) ?_
  have e1 : cutV xs lo hi = xs := by
    unfold cutV
    rw [e.1, e.2]
    simp
  rw [e1]
  exact ha
end
theorem cut_lo (xs : List V) {i : Nat} (h : i ≤ xs.length) : cutV xs none (some (i : Int)) = xs.take i := by
  unfold cutV
  rw [HT.sIx_nat, HT.sIx_none, Nat.min_eq_left h]
  simp
theorem cut_hi (xs : List V) {i : Nat} (h : i ≤ xs.length) : cutV xs (some (i : Int)) none = xs.drop i := by
  unfold cutV
  rw [HT.sIx_nat, HT.sIx_none, Nat.min_eq_left h, List.take_of_length_le]
  rw [List.length_drop]
  exact Nat.le_refl _
/-! ### t[::-1] -/
theorem rev_adjust (n : Nat) : Builtin.Slice.sliceAdjust none none (-1) (n : Int) = ((n : Int) - 1, -1) := rfl
theorem rev_places (n : Nat) : Builtin.Slice.slicePlaces ((n : Int) - 1) (-1) (-1) = n := by
  unfold Builtin.Slice.slicePlaces
  rw [if_neg (by decide)]
  split
  · have e : -(-1 : Int) = 1 := rfl
    rw [e, Int.ediv_one]
    omega
  · show (0 : Int).toNat = n
    simp
    omega
theorem rev_pick (xs : List Value) : ((List.range xs.length).filterMap fun (k : Nat) => xs.toArray[(((xs.length : Int) - 1) + (k : Int) * (-1)).toNat]?) = xs.reverse := by
  have e : ∀ k ∈ List.range xs.length, (xs.toArray[(((xs.length : Int) - 1) + (k : Int) * (-1)).toNat]?) = some (xs.reverse.getD k .none) := by
    intro k hk
    have hk' := List.mem_range.mp hk
    have e1 : (((xs.length : Int) - 1) + (k : Int) * (-1)).toNat = xs.length - 1 - k := by omega
    rw [e1, List.getElem?_toArray, List.getD_eq_getElem?_getD, List.getElem?_reverse hk', List.getElem?_eq_getElem (by omega)]
    rfl
  have all : ∀ l : List Nat, (∀ k ∈ l, k ∈ List.range xs.length) → (l.filterMap fun (k : Nat) => xs.toArray[(((xs.length : Int) - 1) + (k : Int) * (-1)).toNat]?) = l.map fun k => xs.reverse.getD k .none := by
    intro l
    induction l with
    | nil => exact fun _ => rfl
    | cons k l ih =>
      intro h
      rw [List.filterMap_cons, ih fun j hj => h j (List.mem_cons_of_mem _ hj), List.map_cons, e k (h k List.mem_cons_self)]
  rw [all _ fun _ h => h]
  apply List.ext_getElem
  · simp
  · intro i h1 h2
    simp at h1
    simp [List.getD_eq_getElem?_getD, h1]
section
variable {prog : Program} {w : World} {A : Around} {E : Value → Shared → Prop} {s : Shared}
theorem get_rev {t sl : Addr} {its : List Value} {tk : Tok} {Q : Value → Shared → Prop} (ht : IsTup s.heap t its.toArray) (hs : s.heap.IsSliceOf sl .none .none (.int (-1) tk)) (z : its.length ≤ sizeLine)
    (q : Q (.ref s.heap.objs.size) { s with heap := s.heap.push { cls := .type "tuple", data := .seq its.reverse.toArray } }) : wpAny (model prog w) A (getItem (.ref t) (.ref sl)) Q E s := by
  obtain ⟨os, g1, g2, g3⟩ := id hs
  unfold getItem
  try with_reducible refine wpAny_holding ?_
  first | refine wpAny_bind (wpAny_pure ?_) | skip
  refine wpAny_bind (wpAny_sequenceKey ht.typeIs (by decide) (wpAny_bind (wpAny_callSpecial?_slot (name := Str.ofString "__getitem__") ht.typeIs slot_tuple_getitem (wpAny_call_entry slot_tuple_getitem ht.typeIs entry_tuple_getitem ?_ (args_tuple_getitem _ _)))))
  show wpAny _ _ (Builtin.Tuple.tupleItemsOf (.ref t) >>= _) _ _ s
  refine wpAny_bind (tupleItemsOf_ ht (wpAny_bind (wpAny_typeOf (⟨os, g1, g2⟩ : s.TypeIs (.ref sl) "slice") ?_)))
  rw [if_pos (by decide)]
  refine wpAny_bind ?_
  unfold Builtin.Slice.sliceApplied Builtin.Slice.sliceFields
  refine wpAny_bind (wpAny_bind (wpAny_field g1 g3 (x := .none) rfl (wpAny_bind (wpAny_field g1 g3 (x := .none) rfl (wpAny_bind (wpAny_field g1 g3 (x := .int (-1) tk) rfl (wpAny_pure ?_)))))))
  refine wpAny_bind (slicePart_int ?_)
  show wpAny _ _ (if ((-1 : Int) == 0) = true then _ else _) _ _ s
  rw [if_neg (by decide)]
  refine wpAny_bind (slicePart_none (wpAny_bind (slicePart_none (wpAny_bind (wpAny_pure ?_)))))
  rw [List.size_toArray]
  show wpAny _ _ (match Builtin.Slice.sliceAdjust none none (-1) (its.length : Int) with | (lo, hi) => pure (lo, (-1 : Int), Builtin.Slice.slicePlaces lo hi (-1))) _ _ s
  rw [rev_adjust]
  show wpAny _ _ (pure (((its.length : Int) - 1), (-1 : Int), Builtin.Slice.slicePlaces ((its.length : Int) - 1) (-1) (-1))) _ _ s
  rw [rev_places]
  refine wpAny_pure ?_
  show wpAny _ _ (if (((its.length : Int) - 1) == 0 && (-1 : Int) == 1 && its.length == its.length) = true then _ else _) _ _ s
  rw [if_neg (by rw [show ((-1 : Int) == 1) = false from rfl, Bool.and_false, Bool.false_and]; decide)]
  have sz : sizeOk (.seq its.reverse.toArray) := by
    show its.reverse.toArray.size ≤ sizeLine
    rw [List.size_toArray, List.length_reverse]
    exact z
  rw [rev_pick]
  first
    | exact wpAny_bind (m := Builtin.Tuple.tupleExact _) (wpAny_newObj_type (wpAny_pure ⟨_, rfl, wpAny_pure q⟩) sz)
    | exact wpAny_bind (m := Builtin.Tuple.tupleExact _) (wpAny_newObj_type (wpAny_bind (wpAny_pure (wpAny_pure ⟨_, rfl, wpAny_pure q⟩))) sz)
end
section
variable {X : Cx}
def tRevT (K : PySem.W.Frag) (te : TE) : TE := fun σ H Q => te σ H fun x H1 => ∃ a xs, x = .ref a ∧ SqT K H1 a xs ∧ ∀ p H', Same H1 H' → SqT K H' p xs.reverse → Q (.ref p) H'
theorem pe_revT {e : Expr} {te : TE} {k : Nat} {p1 p2 p3 pos : Pos} (he : PE X e te) : PE X (.Subscript e (.Slice none none (some (.UnaryOp .USub (.Constant (.int 1) k p1) p2)) p3) pos) (tRevT X.K te) := by
  refine ⟨fun pins s σ H Q I h => Subscript_ (thn (he.run pins s σ H _ I h) fun v s1 ⟨x, H1, I1, r1, a, xs, ex, hx, q⟩ => ?_)⟩
  subst ex
  cases r1
  have st : PO X (some (.UnaryOp .USub (.Constant (.int 1) k p1) p2)) (tPart (tUn (rU fun i => .int (-i)) (tC (.int 1)))) := po_some (pe_un un_neg pe_int)
  refine wpAny_Slice (thn (po_none.run pins s1 σ H1 (fun o G => o = none ∧ G = H1) I1 ⟨rfl, rfl⟩) fun vl s2 ⟨l, G2, I2, pl, el, e2⟩ => ?_)
  subst el e2
  refine thn (po_none.run pins s2 σ G2 (fun o G => o = none ∧ G = G2) I2 ⟨rfl, rfl⟩) fun vu s3 ⟨u, G3, I3, pu, eu, e3⟩ => ?_
  subst eu e3
  refine thn (st.run pins s3 σ G3 (fun o G => o = some (-1) ∧ G = G3) I3 ⟨1, rfl, -1, rfl, rfl, rfl⟩) fun vs s4 ⟨o, G4, I4, ps, eo, e4⟩ => ?_
  subst eo e4
  cases pl
  cases pu
  cases ps with
  | int i tk =>
    have I5 : Inv X pins σ G4 { s4 with heap := s4.heap.push { cls := .type "slice", data := .fields #[.none, .none, .int (-1) tk] } } := I4.kept (t' := s4.toks) fun b ob z => Heap.get?_push_of_some _ z
    obtain ⟨its, r, ht, hz⟩ := I5.tuple hx
    have hlen := r.length
    show wpAny (model X.prog X.w) X.A (subscriptTail e (.Slice none none (some (.UnaryOp .USub (.Constant (.int 1) k p1) p2)) p3) (.ref a) (.ref s4.heap.objs.size)) (EP X pins σ Q) X.xe _
    refine tail_any (ops := [.ref a, .ref s4.heap.objs.size]) ht.typeIs (slot_tuple_getitem.lookup) ?_ (by with_unfolding_all rfl)
    refine get_rev ht (Heap.IsSliceOf.new ..) (by omega) ?_
    exact ⟨.ref _, _, I5.laid (t' := s4.toks) (o := .tup xs.reverse) (fun b ob z => Heap.get?_push_of_some _ z) (Nat.le_refl _) ⟨by rw [List.length_reverse]; exact hz, _, r.reverse, IsTup.new _ _⟩, rfl, q _ _ (up1 (I5.hok.fresh (Nat.le_refl _))) (.inl (.inl upd_same))⟩
end
end L50
namespace L50
open PySem PySem.Spec PyProof.Rows L2 L54
/-! texts put together -/
theorem cpl_app (x y : Str) : cpl (x ++ y) = cpl x ++ cpl y := by
  show (x.cps ++ y.cps).toList = _
  rw [Array.toList_append]
  rfl
theorem cpl_join (y : Str) : ∀ ps : List Str, cpl (Txt.join y ps) = joinL (cpl y) (ps.map cpl) := by
  intro ps
  show cpl (PySem.Builtin.Str.glued y ps) = _
  rw [PySem.StrLaws.glued_eq_join]
  induction ps with
  | nil => rfl
  | cons p ps ih =>
    cases ps with
    | nil =>
      show cpl p = cpl p ++ _
      simp
    | cons q r =>
      show cpl (p ++ y ++ Str.join y (q :: r)) = _
      rw [cpl_app, cpl_app, ih]
      simp [joinL]
theorem toS_app (a b : List Nat) : toS a ++ toS b = toS (a ++ b) := cpl_inj (by rw [cpl_app, cpl_toS, cpl_toS, cpl_toS])
theorem toS_join (y : Str) (ls : List (List Nat)) : Txt.join y (ls.map toS) = toS (joinL (cpl y) ls) := cpl_inj (by
  rw [cpl_join, cpl_toS, List.map_map]
  congr 1
  have : ∀ l : List (List Nat), l.map (cpl ∘ toS) = l := by
    intro l
    induction l with
    | nil => rfl
    | cons x xs ih => rw [List.map_cons, ih]; show cpl (toS x) :: xs = _; rw [cpl_toS]
  exact this ls)
theorem toS_len (l : List Nat) : (toS l).length = l.length := by
  show l.toArray.size = _
  simp
theorem inP_len (b : Bool) (l : List Nat) : (inP b l).length ≤ l.length + 2 := by
  unfold inP
  split <;> simp
theorem joinL_len (sep : List Nat) (m : PyData → List Nat) : ∀ ds : List PyData, (joinL sep (ds.map m)).length ≤ (ds.map fun d => (m d).length + sep.length).sum
  | [] => Nat.le_refl _
  | d :: ds => by
    have key : ∀ es : List PyData, ((es.map m).flatMap (sep ++ ·)).length = (es.map fun d => (m d).length + sep.length).sum := by
      intro es
      induction es with
      | nil => rfl
      | cons e es ih => rw [List.map_cons, List.flatMap_cons, List.length_append, List.length_append, ih, List.map_cons, List.sum_cons]; omega
    show (m d ++ (ds.map m).flatMap (sep ++ ·)).length ≤ _
    rw [List.length_append, key, List.map_cons, List.sum_cons]
    omega
theorem w_sum : ∀ ds : List PyData, (ds.map fun d => 5 * (d.weight + 1)).sum = 5 * PyData.weightAll ds
  | [] => by rw [PyData.weightAll]; rfl
  | d :: ds => by
    rw [List.map_cons, List.sum_cons, w_sum ds, PyData.weightAll]
    omega
theorem tx_len : ∀ (j : Nat) (d : PyData) (k : Nat), d.depth ≤ j → wf k d = true → (tx d).length + 5 ≤ 5 * (d.weight + 1)
  | 0, d, k, hj, w => by
    obtain ⟨x, r, rfl, _⟩ := isPart_shape (wf_part w).1
    rw [PyData.depth] at hj
    omega
  | j + 1, d, k, hj, w => by
    obtain ⟨x, r, rfl, p⟩ := isPart_shape (wf_part w).1
    have mem : ∀ (b : Bool) (e : PyData), e ∈ r → isStr x "do" = false → (inP (wrapped b e) (tx e)).length + 3 ≤ 5 * (e.weight + 1) := fun b e he c => by
      obtain ⟨w1, w2⟩ := wf_kid w c e he
      have ih := tx_len j e (k + 1) (by omega) w1
      have := inP_len (wrapped b e) (tx e)
      omega
    rcases kinds_of p with ⟨c, z, rfl, hz⟩ | ⟨rfl, rfl⟩ | ⟨rfl, e, rfl⟩ | ⟨rfl | rfl, hl⟩
    · rw [tx_do c, w_tup, isStr_eq c, PyData.weightAll, PyData.weightAll, w_str, w_str, cpl_len]
      omega
    · rw [tx_skip]
      decide +kernel
    · have := mem true e (by simp) (by decide +kernel)
      rw [tx_rep, List.length_append, w_tup, PyData.weightAll, PyData.weightAll]
      simp
      omega
    · have q := sum_le (f := fun d => (inP (wrapped true d) (tx d)).length + sepS.length) (g := fun d => 5 * (d.weight + 1)) fun e he => by have := mem true e he (by decide +kernel); show _ + 2 ≤ _; omega
      have q2 := joinL_len sepS (fun d => inP (wrapped true d) (tx d)) r
      rw [tx_seq, w_tup, PyData.weightAll]
      rw [w_sum] at q
      omega
    · have q := sum_le (f := fun d => (inP (wrapped false d) (tx d)).length + sepO.length) (g := fun d => 5 * (d.weight + 1)) fun e he => mem false e he (by decide +kernel)
      have q2 := joinL_len sepO (fun d => inP (wrapped false d) (tx d)) r
      rw [tx_or, w_tup, PyData.weightAll]
      rw [w_sum] at q
      omega
theorem sum_len (m : PyData → List Nat) (ds : List PyData) : (((ds.map m).map toS).map (·.length)).sum = (ds.map fun d => (m d).length).sum := by
  rw [List.map_map, List.map_map]
  congr 1
/-- what may have a text here -/
structure Pr (m : Nat) (d : PyData) : Prop where
  wf : ∃ k, wf k d = true
  dp : d.depth ≤ m
  wt : d.weight ≤ 60000
theorem Pr.kid {m : Nat} {x : PyData} {r : List PyData} (h : Pr (m + 1) (.tuple (x :: r))) (c : isStr x "do" = false) : ∀ e ∈ r, Pr m e := fun e he => by
  obtain ⟨k, w⟩ := h.wf
  obtain ⟨w1, w2⟩ := wf_kid w c e he
  have q := h.dp
  have q2 := h.wt
  rw [w_tup] at q2
  have q3 := wAll_mem (ds := x :: r) (d := e) (List.mem_cons_of_mem _ he)
  exact ⟨⟨k + 1, w1⟩, by omega, by omega⟩
theorem Pr.len {m : Nat} {d : PyData} (h : Pr m d) : (tx d).length ≤ 300000 := by
  obtain ⟨k, w⟩ := h.wf
  have := tx_len d.depth d k (Nat.le_refl _) w
  have := h.wt
  omega
theorem Pr.pos {m : Nat} {d : PyData} (h : Pr m d) : ∃ m', m = m' + 1 := by
  obtain ⟨k, w⟩ := h.wf
  obtain ⟨x, r, rfl, _⟩ := isPart_shape (wf_part w).1
  have := h.dp
  rw [PyData.depth] at this
  exact ⟨m - 1, by omega⟩
theorem mem_sum {m : Nat} {x : PyData} {r : List PyData} (h : Pr (m + 1) (.tuple (x :: r))) (c : isStr x "do" = false) (b : Bool) : (r.map fun e => (inP (wrapped b e) (tx e)).length + 3).sum ≤ 300000 := by
  have q := sum_le (f := fun e => (inP (wrapped b e) (tx e)).length + 3) (g := fun e => 5 * (e.weight + 1)) (ds := r) fun e he => by
    obtain ⟨k, w⟩ := (h.kid c e he).wf
    have q1 := tx_len e.depth e k (Nat.le_refl _) w
    have q2 := inP_len (wrapped b e) (tx e)
    omega
  rw [w_sum] at q
  have q2 := h.wt
  rw [w_tup, PyData.weightAll] at q2
  omega
theorem sum3 (f : PyData → Nat) : ∀ ds : List PyData, (ds.map f).sum + 3 * ds.length = (ds.map fun d => f d + 3).sum
  | [] => rfl
  | d :: ds => by
    rw [List.map_cons, List.sum_cons, List.map_cons, List.sum_cons, List.length_cons, ← sum3 f ds]
    omega
def wsOf (b : Bool) : List Str := if b then ["seq", "or"] else ["or"]
theorem ws_any {b : Bool} {x : PyData} {r : List PyData} : (wsOf b).any (isStr x) = wrapped b (.tuple (x :: r)) := by
  cases b with
  | true =>
    show (isStr x "seq" || (isStr x "or" || false)) = (isStr x "or" || (true && isStr x "seq"))
    cases isStr x "seq" <;> cases isStr x "or" <;> rfl
  | false =>
    show (isStr x "or" || false) = (isStr x "or" || (false && isStr x "seq"))
    simp
section
variable {P : Program} {w : World} {K : PySem.W.Frag} {mg : Str → Option Value} {base : Heap}
def spTx (K : PySem.W.Frag) (m : Nat) : Sp := fun vs H Q _ => ∃ (v : V) (d : PyData), vs = [v] ∧ Dv K H v d ∧ Pr m d ∧ ∀ H', Same H H' → Q (.str (toS (tx d))) H'
def spTw (K : PySem.W.Frag) (m : Nat) : Sp := fun vs H Q _ => ∃ (v : V) (d : PyData) (t : Addr) (b : Bool), vs = [v, .ref t] ∧ Dv K H v d ∧ SqT K H t ((wsOf b).map V.str) ∧ Pr m d ∧ ∀ H', Same H H' → Q (.str (toS (inP (wrapped b d) (tx d)))) H'
abbrev nTx : List Str := ["program", "kind", "member"]
abbrev nTw : List Str := ["member", "wrapped"]
theorem scTx : FnScope nTx ["program"] (defScope sText) := ⟨rfl, rfl, rfl, by decide +kernel, rfl, by decide +kernel, by decide +kernel⟩
theorem scTw : FnScope nTw ["member", "wrapped"] (defScope sWithin) := ⟨rfl, rfl, rfl, by decide +kernel, rfl, by decide +kernel, by decide +kernel⟩
theorem step_within {m j : Nat} {f fT : Addr} {fd fdT : FuncData} (F : Fun K "_text_within" "_text_within" sWithin f fd) (kT : PySem.W.keepIn K (.ref fT) = true) (bT : Binds K fdT ["program"] []) (mT : mg "_text" = some (.ref fT))
    (GT : FnOk P w K mg base CX0 j fT fdT ["program"] (spTx K m)) : FnOk P w K mg base CX0 (j + 1) f fd ["member", "wrapped"] (spTw K m) := by
  refine F.ok scTw (fun vs H Q E h => ?_) (fun cdv A outer s H vs Q E hr h => ?_)
  · obtain ⟨v, d, t, b, rfl, _⟩ := h
    rfl
  · obtain ⟨v, d, t, b, rfl, hD, ht, hp, h⟩ := h
    have hu : (A.deeper (envOfC "_text_within" (defScope sWithin) s.heap.objs.size f cdv)).units + 1 < cLine := by have := hr.un; omega
    refine ⟨_, pss_cons (ps_if (pt_cmpR (op_inZ hu) (pe_ix ix_tup (pv 0) pe_int (fun _ _ => rfl)) (pv 1) rfl) (pss_one (ps_ret (pe_op op_add_str (pe_op op_add_str pe_str (pe_call GT hr rfl mT kT bT .nil pass0 (pa_cons (pv 0) pa_nil))) pe_str))) pss_nil)
      (pss_one (ps_ret (pe_call GT hr rfl mT kT bT .nil pass0 (pa_cons (pv 0) pa_nil)))), ?_⟩
    obtain ⟨k, wfd⟩ := hp.wf
    have ln := hp.len
    obtain ⟨x, r, rfl, p⟩ := isPart_shape (wf_part wfd).1
    have hD0 := hD
    cases hD with
    | @tup a xs _ hs ha =>
    cases ha with
    | @cons y ys _ _ hy ht2 =>
    refine ⟨_, rfl, a, _, _, y, rfl, rfl, hs, at0, _, rfl, x, t, wsOf b, hy, rfl, .inr ht, _, rfl, ?_⟩
    rw [ws_any (b := b) (x := x) (r := r)]
    refine nS (fun c => ?_) (fun c => ?_)
    · refine ⟨_, rfl, .ref a, _, rfl, hD0, hp, fun H' S' => ?_⟩
      refine ⟨"(", toS (tx (.tuple (x :: r))), rfl, rfl, ?_, _, _, rfl, rfl, ?_, ?_⟩
      · rw [toS_len, show ("(" : Str).length = 1 by decide +kernel, sizeLine_eq]
        omega
      · rw [show ("(" : Str) = toS [40] by decide +kernel, show (")" : Str).length = 1 by decide +kernel, toS_app, toS_len, sizeLine_eq]
        simp
        omega
      · have e : ("(" : Str) ++ toS (tx (.tuple (x :: r))) ++ (")" : Str) = toS (inP (wrapped b (.tuple (x :: r))) (tx (.tuple (x :: r)))) := by
          rw [show ("(" : Str) = toS [40] by decide +kernel, show (")" : Str) = toS [41] by decide +kernel, toS_app, toS_app, c]
          rfl
        rw [e]
        exact h H' S'
    · refine ⟨_, rfl, .ref a, _, rfl, hD0, hp, fun H' S' => ?_⟩
      have e : toS (tx (.tuple (x :: r))) = toS (inP (wrapped b (.tuple (x :: r))) (tx (.tuple (x :: r)))) := by rw [c]; rfl
      rw [e]
      exact h H' S'
theorem step_text {m j : Nat} {f fW : Addr} {fd fdW : FuncData} (F : Fun K "_text" "_text" sText f fd) (kW : PySem.W.keepIn K (.ref fW) = true) (bW : Binds K fdW ["member", "wrapped"] []) (mW : mg "_text_within" = some (.ref fW))
    (GW : FnOk P w K mg base CX0 j fW fdW ["member", "wrapped"] (spTw K m)) : FnOk P w K mg base CX0 (j + 1) f fd ["program"] (spTx K (m + 1)) := by
  refine F.ok scTx (fun vs H Q E h => ?_) (fun cdv A outer s H vs Q E hr h => ?_)
  · obtain ⟨v, d, rfl, _⟩ := h
    rfl
  · obtain ⟨v, d, rfl, hD, hp, h⟩ := h
    have hu0 : (A.deeper (envOfC "_text" (defScope sText) s.heap.objs.size f cdv)).units < cLine := by have := hr.un; omega
    refine ⟨_, pss_cons (ps_set (i := 1) scTx.nd rfl (.inl rfl) (pe_ix ix_tup (pv 0) pe_int (fun _ _ => rfl)))
      (pss_cons (ps_if (pt_cmpR (op_eqS hu0) (pv 1) pe_str (nomark _)) (pss_one (ps_ret (pe_ix ix_tup (pv 0) pe_int (fun _ _ => rfl)))) pss_nil)
      (pss_cons (ps_if (pt_cmpR (op_eqS hu0) (pv 1) pe_str (nomark _)) (pss_one (ps_ret pe_str)) pss_nil)
      (pss_cons (ps_if (pt_cmpR (op_eqS hu0) (pv 1) pe_str (nomark _)) (pss_one (ps_ret (pe_op op_add_str (pe_call GW hr rfl mW kW bW .nil pass0 (pa_cons (pe_ix ix_tup (pv 0) pe_int (fun _ _ => rfl)) (pa_cons (pe_tup (pa_cons pe_str (pa_cons pe_str pa_nil))) pa_nil))) pe_str))) pss_nil)
      (pss_cons (ps_if (pt_cmpR (op_eqS hu0) (pv 1) pe_str (nomark _)) (pss_one (ps_ret (pe_join pe_str (pe_lc (own := [("member", 2)]) (g := gName 2) (tt := tYes) rfl scTx.nd (pi_tup (pe_slice sl_U (pv 0) (po_some pe_int) po_none)) (blkOk_by (N := nTx) (sc := defScope sText) (by decide +kernel)) (fun _ _ _ _ _ => pg_name (i := 2) scTx.nd rfl (Or.inl rfl)) (fun _ _ _ _ _ => pts_nil)
        (fun _ _ _ _ _ => pe_call GW hr rfl mW kW bW .nil pass0 (pa_cons (pv 2) (pa_cons (pe_tup (pa_cons pe_str (pa_cons pe_str pa_nil))) pa_nil))))))) pss_nil)
      (pss_one (ps_ret (pe_join pe_str (pe_lc (own := [("member", 2)]) (g := gName 2) (tt := tYes) rfl scTx.nd (pi_tup (pe_slice sl_U (pv 0) (po_some pe_int) po_none)) (blkOk_by (N := nTx) (sc := defScope sText) (by decide +kernel)) (fun _ _ _ _ _ => pg_name (i := 2) scTx.nd rfl (Or.inl rfl)) (fun _ _ _ _ _ => pts_nil)
        (fun _ _ _ _ _ => pe_call GW hr rfl mW kW bW .nil pass0 (pa_cons (pv 2) (pa_cons (pe_tup (pa_cons pe_str pa_nil)) pa_nil))))))))))), ?_⟩
    obtain ⟨k, wfd⟩ := hp.wf
    have ln := hp.len
    obtain ⟨x, r, rfl, p⟩ := isPart_shape (wf_part wfd).1
    cases hD with
    | @tup a xs _ hs ha =>
    cases ha with
    | @cons y ys _ _ hy ht2 =>
    refine ⟨_, rfl, a, _, _, y, rfl, rfl, hs, at0, _, rfl, x, _, hy, rfl, _, rfl, ?_⟩
    rcases kinds_of p with ⟨c, z, rfl, hz⟩ | ⟨rfl, rfl⟩ | ⟨rfl, e, rfl⟩ | ⟨rfl | rfl, hl⟩
    · refine iT c ?_
      cases ht2 with
      | @cons y1 ys1 _ _ hy1 hy2 =>
      cases hy2
      cases hy1
      refine ⟨_, rfl, a, _, _, V.str z, rfl, rfl, hs, at1, ?_⟩
      have e := h H (Same.refl H)
      rw [tx_do c, toS_cpl] at e
      exact e
    · refine iF (by decide +kernel) ⟨_, rfl, .str "skip", _, hy, rfl, _, rfl, ?_⟩
      refine iT (by decide +kernel) ?_
      have e := h H (Same.refl H)
      rw [tx_skip, toS_cpl] at e
      exact e
    · refine iF (by decide +kernel) ⟨_, rfl, .str "rep", _, hy, rfl, _, rfl, ?_⟩
      refine iF (by decide +kernel) ⟨_, rfl, .str "rep", _, hy, rfl, _, rfl, ?_⟩
      refine iT (by decide +kernel) ?_
      cases ht2 with
      | @cons y1 ys1 _ _ hy1 hy2 =>
      cases hy2
      have pe := hp.kid (by decide +kernel) e (by simp)
      refine ⟨_, rfl, a, _, _, y1, rfl, rfl, hs, at1, len_small (by simp), fun t nt => ?_⟩
      have U := up1 (o := .tup [V.str "seq", V.str "or"]) nt
      refine ⟨y1, e, t, true, rfl, hy1.mono U, .inl (.inl upd_same), pe, fun H2 S2 => ?_⟩
      refine ⟨_, "*", rfl, rfl, ?_, ?_⟩
      · rw [toS_len, show ("*" : Str).length = 1 by decide +kernel, sizeLine_eq]
        have := inP_len (wrapped true e) (tx e)
        have := pe.len
        omega
      · have e2 : toS (inP (wrapped true e) (tx e)) ++ ("*" : Str) = toS (tx (.tuple [.str "rep", e])) := by rw [show ("*" : Str) = toS [42] by decide +kernel, toS_app, tx_rep]
        rw [e2]
        exact h H2 (U.trans S2)
    · refine iF (by decide +kernel) ⟨_, rfl, .str "seq", _, hy, rfl, _, rfl, ?_⟩
      refine iF (by decide +kernel) ⟨_, rfl, .str "seq", _, hy, rfl, _, rfl, ?_⟩
      refine iF (by decide +kernel) ⟨_, rfl, .str "seq", _, hy, rfl, _, rfl, ?_⟩
      refine iT (by decide +kernel) ?_
      have kd := hp.kid (by decide +kernel)
      have ms := mem_sum hp (by decide +kernel) true
      refine ⟨⟨_, rfl⟩, _, rfl, 1, rfl, a, _, rfl, hs, fun p H1 S1 h1 => ?_⟩
      rw [show (1 : Int) = ((1 : Nat) : Int) from rfl, cut_hi _ (by simp)] at h1
      have h1' : SqT K H1 p ys := h1
      refine ⟨p, rfl, ⟨ys, h1'⟩, fun D nD => ?_⟩
      refine lc_tup (K := K) (a := p) (xs := ys) (fun i Hc => Same H1 Hc ∧ Hc D = some (.lst (((r.take i).map fun e => toS (inP (wrapped true e) (tx e))).map V.str))) ⟨up1 nD, upd_same⟩ (fun i Hc _ ⟨q, _⟩ => seqT q h1') ?_ ?_
      · rintro i y2 Hc hi ⟨Sc, hL⟩
        obtain ⟨e, he, hDe⟩ := (ht2.mono (S1.trans Sc)).get hi
        have hem : e ∈ r := List.mem_of_getElem? he
        have hil := (List.getElem?_eq_some_iff.mp he).1
        refine ⟨rfl, ?_⟩
        refine ⟨_, rfl, len_small (by simp), fun t nt => ?_⟩
        have U := up1 (o := .tup [V.str "seq", V.str "or"]) nt
        refine ⟨y2, e, t, true, rfl, hDe.mono U, .inl (.inl upd_same), kd e hem, fun H2 S2 => ⟨_, S2 _ _ (U _ _ hL), ?_, same_at (Sc.trans (U.trans S2)) nD, ?_⟩⟩
        · rw [List.length_map, List.length_map, List.length_take, sizeLine_eq]
          have := sum3 (fun e => (inP (wrapped true e) (tx e)).length) r
          omega
        · rw [upd_same, List.take_add_one, he, List.map_append, List.map_append]
          rfl
      · rintro Hc ⟨Sc, hL⟩
        rw [List.take_of_length_le (by have := ht2.len; omega)] at hL
        refine ⟨"; ", D, (r.map fun e => inP (wrapped true e) (tx e)).map toS, rfl, rfl, .inl ?_, ?_, ?_⟩
        · have e9 : (r.map fun e => toS (inP (wrapped true e) (tx e))) = (r.map fun e => inP (wrapped true e) (tx e)).map toS := by rw [List.map_map]; rfl
          rw [← e9]
          exact .inl (.inl hL)
        · rw [sum_len, List.length_map, List.length_map, show ("; " : Str).length = 2 by decide +kernel]
          have := sum3 (fun e => (inP (wrapped true e) (tx e)).length) r
          omega
        · have e : Txt.join "; " ((r.map fun e => inP (wrapped true e) (tx e)).map toS) = toS (tx (.tuple (.str "seq" :: r))) := by
            rw [toS_join, tx_seq, cpl_par.2.2.1]
          rw [e]
          exact h Hc (S1.trans Sc)
    · refine iF (by decide +kernel) ⟨_, rfl, .str "or", _, hy, rfl, _, rfl, ?_⟩
      refine iF (by decide +kernel) ⟨_, rfl, .str "or", _, hy, rfl, _, rfl, ?_⟩
      refine iF (by decide +kernel) ⟨_, rfl, .str "or", _, hy, rfl, _, rfl, ?_⟩
      refine iF (by decide +kernel) ?_
      have kd := hp.kid (by decide +kernel)
      have ms := mem_sum hp (by decide +kernel) false
      refine ⟨⟨_, rfl⟩, _, rfl, 1, rfl, a, _, rfl, hs, fun p H1 S1 h1 => ?_⟩
      rw [show (1 : Int) = ((1 : Nat) : Int) from rfl, cut_hi _ (by simp)] at h1
      have h1' : SqT K H1 p ys := h1
      refine ⟨p, rfl, ⟨ys, h1'⟩, fun D nD => ?_⟩
      refine lc_tup (K := K) (a := p) (xs := ys) (fun i Hc => Same H1 Hc ∧ Hc D = some (.lst (((r.take i).map fun e => toS (inP (wrapped false e) (tx e))).map V.str))) ⟨up1 nD, upd_same⟩ (fun i Hc _ ⟨q, _⟩ => seqT q h1') ?_ ?_
      · rintro i y2 Hc hi ⟨Sc, hL⟩
        obtain ⟨e, he, hDe⟩ := (ht2.mono (S1.trans Sc)).get hi
        have hem : e ∈ r := List.mem_of_getElem? he
        have hil := (List.getElem?_eq_some_iff.mp he).1
        refine ⟨rfl, ?_⟩
        refine ⟨_, rfl, len_small (by simp), fun t nt => ?_⟩
        have U := up1 (o := .tup [V.str "or"]) nt
        refine ⟨y2, e, t, false, rfl, hDe.mono U, .inl (.inl upd_same), kd e hem, fun H2 S2 => ⟨_, S2 _ _ (U _ _ hL), ?_, same_at (Sc.trans (U.trans S2)) nD, ?_⟩⟩
        · rw [List.length_map, List.length_map, List.length_take, sizeLine_eq]
          have := sum3 (fun e => (inP (wrapped false e) (tx e)).length) r
          omega
        · rw [upd_same, List.take_add_one, he, List.map_append, List.map_append]
          rfl
      · rintro Hc ⟨Sc, hL⟩
        rw [List.take_of_length_le (by have := ht2.len; omega)] at hL
        refine ⟨" | ", D, (r.map fun e => inP (wrapped false e) (tx e)).map toS, rfl, rfl, .inl ?_, ?_, ?_⟩
        · have e9 : (r.map fun e => toS (inP (wrapped false e) (tx e))) = (r.map fun e => inP (wrapped false e) (tx e)).map toS := by rw [List.map_map]; rfl
          rw [← e9]
          exact .inl (.inl hL)
        · rw [sum_len, List.length_map, List.length_map, show (" | " : Str).length = 3 by decide +kernel]
          have := sum3 (fun e => (inP (wrapped false e) (tx e)).length) r
          omega
        · have e : Txt.join " | " ((r.map fun e => inP (wrapped false e) (tx e)).map toS) = toS (tx (.tuple (.str "or" :: r))) := by
            rw [toS_join, tx_or, cpl_par.2.2.2]
          rw [e]
          exact h Hc (S1.trans Sc)
theorem ok_text {f fW : Addr} {fd fdW : FuncData} (F : Fun K "_text" "_text" sText f fd) (bF : Binds K fd ["program"] []) (mF : mg "_text" = some (.ref f)) (FW : Fun K "_text_within" "_text_within" sWithin fW fdW) (bW : Binds K fdW ["member", "wrapped"] []) (mW : mg "_text_within" = some (.ref fW)) :
    ∀ m : Nat, FnOk P w K mg base CX0 (2 * m + 1) f fd ["program"] (spTx K m)
  | 0 => ⟨fun vs H Q E ⟨v, d, e, _⟩ => by rw [e]; rfl, fun _ _ _ _ _ _ _ _ _ _ _ _ _ ⟨_, _, _, _, h, _⟩ => by obtain ⟨_, q⟩ := h.pos; cases q⟩
  | m + 1 => step_text F FW.kp bW mW (step_within FW F.kp bF mF (ok_text F bF mF FW bW mW m))
end
end L50
namespace L50
open PySem PySem.Spec PyProof.Rows L2 L54
/-! the law's own texts; check_program, write -/
def kzOf (b : Bool) : List Str := if b then ["do", "skip", "rep"] else ["do", "skip", "rep", "seq"]
theorem kz_any {b : Bool} {x : PyData} {r : List PyData} (p : partOf x r = true) : (kzOf b).any (isStr x) = !wrapped b (.tuple (x :: r)) := by
  rcases kinds_of p with ⟨c, z, rfl, hz⟩ | ⟨rfl, rfl⟩ | ⟨rfl, e, rfl⟩ | ⟨rfl | rfl, hl⟩
  · rw [isStr_eq c]
    cases b <;> simp [kzOf, wrapped, kindOf] <;> decide +kernel
  · cases b <;> simp [kzOf, wrapped, kindOf] <;> decide +kernel
  · cases b <;> simp [kzOf, wrapped, kindOf] <;> decide +kernel
  · cases b <;> simp [kzOf, wrapped, kindOf] <;> decide +kernel
  · cases b <;> simp [kzOf, wrapped, kindOf] <;> decide +kernel
theorem lastTwo {x y : V} : atI [x, y] (-1) = some y := by rfl
theorem lastOne {x : V} : atI [x] (-1) = some x := by rfl
theorem wf_depth : ∀ (j : Nat) (d : PyData) (k : Nat), d.depth ≤ j → wf k d = true → d.depth + k ≤ 41
  | 0, d, k, hj, w => by
    obtain ⟨x, r, rfl, _⟩ := isPart_shape (wf_part w).1
    rw [PyData.depth] at hj
    omega
  | j + 1, d, k, hj, w => by
    obtain ⟨hp, hk⟩ := wf_part w
    obtain ⟨x, r, rfl, p⟩ := isPart_shape hp
    by_cases c : isStr x "do" = true
    · obtain ⟨z, rfl, _⟩ := partDo p c
      rw [isStr_eq c]
      simp [PyData.depth, PyData.depthAll]
      omega
    · have c' : isStr x "do" = false := by simpa using c
      have q : PyData.depthAll r + k ≤ 40 := by
        have key : ∀ l : List PyData, (∀ e ∈ l, e ∈ r) → PyData.depthAll l + k ≤ 40 := by
          intro l
          induction l with
          | nil => intro _; rw [PyData.depthAll]; omega
          | cons e l ih =>
            intro h
            have i1 := ih fun y hy => h y (List.mem_cons_of_mem _ hy)
            obtain ⟨w1, w2⟩ := wf_kid w c' e (h e List.mem_cons_self)
            have i2 := wf_depth j e (k + 1) (by omega) w1
            rw [PyData.depthAll]
            omega
        exact key r fun _ h => h
      have dx : x.depth = 0 := by
        rcases kinds_of p with ⟨c2, _⟩ | ⟨rfl, _⟩ | ⟨rfl, _⟩ | ⟨rfl | rfl, _⟩
        · exact absurd c2 c
        all_goals rw [PyData.depth]
      rw [PyData.depth, PyData.depthAll, dx]
      omega
theorem prog_pr {d : PyData} (h : isProg d = true) (hw : d.weight ≤ 60000) : Pr 40 d := by
  obtain ⟨w, _⟩ := (prog_spec d).mp h
  exact ⟨⟨1, w⟩, by have := wf_depth d.depth d 1 (Nat.le_refl _) w; omega, hw⟩
section
variable {P : Program} {w : World} {K : PySem.W.Frag} {mg : Str → Option Value} {base : Heap}
def spLi (K : PySem.W.Frag) (m : Nat) : Sp := fun vs H Q _ => ∃ (v : V) (d : PyData) (t : Addr) (b : Bool), vs = [v, .ref t] ∧ Dv K H v d ∧ SqL K H t ((kzOf b).map V.str) ∧ Pr m d ∧ ∀ H', Same H H' → Q (.str (toS (inP (wrapped b d) (tx d)))) H'
abbrev nLi : List Str := ["one", "kinds"]
abbrev nLt : List Str := ["one", "kinds", "piece"]
theorem scLi : FnScope nLi ["one", "kinds"] (defScope sLawIn) := ⟨rfl, rfl, rfl, by decide +kernel, rfl, by decide +kernel, by decide +kernel⟩
theorem scLt : FnScope nLt ["one"] (defScope sLawText) := ⟨rfl, rfl, rfl, by decide +kernel, rfl, by decide +kernel, by decide +kernel⟩
theorem step_in {m j : Nat} {f fT : Addr} {fd fdT : FuncData} (F : Fun K "_law_in" "_law_in" sLawIn f fd) (kT : PySem.W.keepIn K (.ref fT) = true) (bT : Binds K fdT ["one"] []) (mT : mg "_law_text" = some (.ref fT))
    (GT : FnOk P w K mg base CX0 j fT fdT ["one"] (spTx K m)) : FnOk P w K mg base CX0 (j + 1) f fd ["one", "kinds"] (spLi K m) := by
  refine F.ok scLi (fun vs H Q E h => ?_) (fun cdv A outer s H vs Q E hr h => ?_)
  · obtain ⟨v, d, t, b, rfl, _⟩ := h
    rfl
  · obtain ⟨v, d, t, b, rfl, hD, ht, hp, h⟩ := h
    have hu : (A.deeper (envOfC "_law_in" (defScope sLawIn) s.heap.objs.size f cdv)).units + 1 < cLine := by have := hr.un; omega
    refine ⟨_, pss_one (ps_ret (pe_ifExp (pt_cmpR (op_inZ hu) (pe_ix ix_tup (pv 0) pe_int (fun _ _ => rfl)) (pv 1) rfl) (pe_call GT hr rfl mT kT bT .nil pass0 (pa_cons (pv 0) pa_nil))
      (pe_op op_add_str (pe_op op_add_str pe_str (pe_call GT hr rfl mT kT bT .nil pass0 (pa_cons (pv 0) pa_nil))) pe_str))), ?_⟩
    obtain ⟨k, wfd⟩ := hp.wf
    have ln := hp.len
    obtain ⟨x, r, rfl, p⟩ := isPart_shape (wf_part wfd).1
    have hD0 := hD
    cases hD with
    | @tup a xs _ hs ha =>
    cases ha with
    | @cons y ys _ _ hy ht2 =>
    refine ⟨_, rfl, a, _, _, y, rfl, rfl, hs, at0, _, rfl, x, t, kzOf b, hy, rfl, .inl ht, _, rfl, ?_⟩
    rw [kz_any (b := b) p]
    refine nS (fun c => ?_) (fun c => ?_)
    · refine ⟨_, rfl, .ref a, _, rfl, hD0, hp, fun H' S' => ?_⟩
      have c' : wrapped b (.tuple (x :: r)) = false := by simpa using c
      have e : toS (tx (.tuple (x :: r))) = toS (inP (wrapped b (.tuple (x :: r))) (tx (.tuple (x :: r)))) := by rw [c']; rfl
      rw [e]
      exact h H' S'
    · refine ⟨_, rfl, .ref a, _, rfl, hD0, hp, fun H' S' => ?_⟩
      have c' : wrapped b (.tuple (x :: r)) = true := by simpa using c
      refine ⟨"(", toS (tx (.tuple (x :: r))), rfl, rfl, ?_, _, _, rfl, rfl, ?_, ?_⟩
      · rw [toS_len, show ("(" : Str).length = 1 by decide +kernel, sizeLine_eq]
        omega
      · rw [show ("(" : Str) = toS [40] by decide +kernel, show (")" : Str).length = 1 by decide +kernel, toS_app, toS_len, sizeLine_eq]
        simp
        omega
      · have e : ("(" : Str) ++ toS (tx (.tuple (x :: r))) ++ (")" : Str) = toS (inP (wrapped b (.tuple (x :: r))) (tx (.tuple (x :: r)))) := by
          rw [show ("(" : Str) = toS [40] by decide +kernel, show (")" : Str) = toS [41] by decide +kernel, toS_app, toS_app, c']
          rfl
        rw [e]
        exact h H' S'
theorem step_ltext {m j : Nat} {f fW : Addr} {fd fdW : FuncData} (F : Fun K "_law_text" "_law_text" sLawText f fd) (kW : PySem.W.keepIn K (.ref fW) = true) (bW : Binds K fdW ["one", "kinds"] []) (mW : mg "_law_in" = some (.ref fW))
    (GW : FnOk P w K mg base CX0 j fW fdW ["one", "kinds"] (spLi K m)) : FnOk P w K mg base CX0 (j + 1) f fd ["one"] (spTx K (m + 1)) := by
  refine F.ok scLt (fun vs H Q E h => ?_) (fun cdv A outer s H vs Q E hr h => ?_)
  · obtain ⟨v, d, rfl, _⟩ := h
    rfl
  · obtain ⟨v, d, rfl, hD, hp, h⟩ := h
    have hu0 : (A.deeper (envOfC "_law_text" (defScope sLawText) s.heap.objs.size f cdv)).units < cLine := by have := hr.un; omega
    have hu : (A.deeper (envOfC "_law_text" (defScope sLawText) s.heap.objs.size f cdv)).units + 1 < cLine := by have := hr.un; omega
    refine ⟨_, pss_cons (ps_if (pt_cmpR (op_inZ hu) (pe_ix ix_tup (pv 0) pe_int (fun _ _ => rfl)) (pe_lst (pa_cons pe_str (pa_cons pe_str pa_nil))) rfl) (pss_one (ps_ret (pe_ix ix_tup (pv 0) (pe_un un_neg pe_int) (fun _ _ => rfl)))) pss_nil)
      (pss_cons (ps_if (pt_cmpR (op_eqS hu0) (pe_ix ix_tup (pv 0) pe_int (fun _ _ => rfl)) pe_str (nomark _)) (pss_one (ps_ret (pe_op op_add_str (pe_call GW hr rfl mW kW bW .nil pass0 (pa_cons (pe_ix ix_tup (pv 0) pe_int (fun _ _ => rfl)) (pa_cons (pe_lst (pa_cons pe_str (pa_cons pe_str (pa_cons pe_str pa_nil)))) pa_nil))) pe_str))) pss_nil)
      (pss_cons (ps_set (i := 1) scLt.nd rfl (.inr rfl) (pe_ifExp (pt_cmpR (op_eqS hu0) (pe_ix ix_tup (pv 0) pe_int (fun _ _ => rfl)) pe_str (nomark _)) (pe_lst (pa_cons pe_str (pa_cons pe_str (pa_cons pe_str pa_nil)))) (pe_lst (pa_cons pe_str (pa_cons pe_str (pa_cons pe_str (pa_cons pe_str pa_nil)))))))
      (pss_one (ps_ret (pe_join (pe_ifExp (pt_cmpR (op_eqS hu0) (pe_ix ix_tup (pv 0) pe_int (fun _ _ => rfl)) pe_str (nomark _)) pe_str pe_str)
        (pe_lc (own := [("piece", 2)]) (g := gName 2) (tt := tYes) rfl scLt.nd (pi_tup (pe_slice sl_U (pv 0) (po_some pe_int) po_none)) (blkOk_by (N := nLt) (sc := defScope sLawText) (by decide +kernel)) (fun _ _ _ _ _ => pg_name (i := 2) scLt.nd rfl (Or.inl rfl)) (fun _ _ _ _ _ => pts_nil)
          (fun _ _ _ _ _ => pe_call GW hr rfl mW kW bW .nil pass0 (pa_cons (pv 2) (pa_cons (pv 1) pa_nil))))))))), ?_⟩
    obtain ⟨k, wfd⟩ := hp.wf
    have ln := hp.len
    obtain ⟨x, r, rfl, p⟩ := isPart_shape (wf_part wfd).1
    cases hD with
    | @tup a xs _ hs ha =>
    cases ha with
    | @cons y ys _ _ hy ht2 =>
    rcases kinds_of p with ⟨c, z, rfl, hz⟩ | ⟨rfl, rfl⟩ | ⟨rfl, e, rfl⟩ | ⟨rfl | rfl, hl⟩
    · have ex := isStr_eq c
      subst ex
      refine ⟨_, rfl, a, _, _, y, rfl, rfl, hs, at0, len_small (by simp), fun t0 nt0 => ?_⟩
      have U0 := up1 (o := .lst [V.str "do", V.str "skip"]) nt0
      refine ⟨.str "do", t0, ["do", "skip"], hy.mono U0, rfl, .inl (.inl (.inl upd_same)), _, rfl, ?_⟩
      refine iT (by decide +kernel) ?_
      cases ht2 with
      | @cons y1 ys1 _ _ hy1 hy2 =>
      cases hy2
      cases hy1
      refine ⟨_, rfl, _, rfl, a, _, _, V.str z, rfl, rfl, seqT U0 hs, lastTwo, ?_⟩
      have e := h _ U0
      rw [tx_do c, toS_cpl] at e
      exact e
    · refine ⟨_, rfl, a, _, _, y, rfl, rfl, hs, at0, len_small (by simp), fun t0 nt0 => ?_⟩
      have U0 := up1 (o := .lst [V.str "do", V.str "skip"]) nt0
      refine ⟨.str "skip", t0, ["do", "skip"], hy.mono U0, rfl, .inl (.inl (.inl upd_same)), _, rfl, ?_⟩
      refine iT (by decide +kernel) ?_
      cases ht2
      cases hy
      refine ⟨_, rfl, _, rfl, a, _, _, V.str "skip", rfl, rfl, seqT U0 hs, lastOne, ?_⟩
      have e := h _ U0
      rw [tx_skip, toS_cpl] at e
      exact e
    · refine ⟨_, rfl, a, _, _, y, rfl, rfl, hs, at0, len_small (by simp), fun t0 nt0 => ?_⟩
      have U0 := up1 (o := .lst [V.str "do", V.str "skip"]) nt0
      refine ⟨.str "rep", t0, ["do", "skip"], hy.mono U0, rfl, .inl (.inl (.inl upd_same)), _, rfl, ?_⟩
      refine iF (by decide +kernel) ?_
      refine ⟨_, rfl, a, _, _, y, rfl, rfl, seqT U0 hs, at0, .str "rep", _, hy.mono U0, rfl, _, rfl, ?_⟩
      refine iT (by decide +kernel) ?_
      cases ht2 with
      | @cons y1 ys1 _ _ hy1 hy2 =>
      cases hy2
      have pe := hp.kid (by decide +kernel) e (by simp)
      refine ⟨_, rfl, a, _, _, y1, rfl, rfl, seqT U0 hs, at1, len_small (by simp), fun t nt => ?_⟩
      have U := up1 (o := .lst [V.str "do", V.str "skip", V.str "rep"]) nt
      refine ⟨y1, e, t, true, rfl, hy1.mono (U0.trans U), .inl (.inl upd_same), pe, fun H2 S2 => ?_⟩
      refine ⟨_, "*", rfl, rfl, ?_, ?_⟩
      · rw [toS_len, show ("*" : Str).length = 1 by decide +kernel, sizeLine_eq]
        have := inP_len (wrapped true e) (tx e)
        have := pe.len
        omega
      · have e2 : toS (inP (wrapped true e) (tx e)) ++ ("*" : Str) = toS (tx (.tuple [.str "rep", e])) := by rw [show ("*" : Str) = toS [42] by decide +kernel, toS_app, tx_rep]
        rw [e2]
        exact h H2 (U0.trans (U.trans S2))
    · have c0 : ∀ H' : Hp, True := fun _ => True.intro
      refine ⟨_, rfl, a, _, _, y, rfl, rfl, hs, at0, len_small (by simp), fun t0 nt0 => ?_⟩
      have U0 := up1 (o := .lst [V.str "do", V.str "skip"]) nt0
      refine ⟨.str "seq", t0, ["do", "skip"], hy.mono U0, rfl, .inl (.inl (.inl upd_same)), _, rfl, ?_⟩
      refine iF (by decide +kernel) ?_
      have hs1 := seqT U0 hs
      have ht3 := ht2.mono U0
      have hy1 := hy.mono U0
      clear nt0
      generalize upd H t0 (.lst [V.str "do", V.str "skip"]) = G0 at *
      refine ⟨_, rfl, a, _, _, y, rfl, rfl, hs1, at0, .str "seq", _, hy1, rfl, _, rfl, ?_⟩
      refine iF (by decide +kernel) ?_
      refine ⟨_, rfl, a, _, _, y, rfl, rfl, hs1, at0, .str "seq", _, hy1, rfl, _, rfl, ?_⟩
      refine iT (by decide +kernel) ?_
      refine ⟨len_small (by simp), fun kl nkl => ?_⟩
      have U1 := up1 (o := .lst [V.str "do", V.str "skip", V.str "rep"]) nkl
      have hk : upd G0 kl (.lst [V.str "do", V.str "skip", V.str "rep"]) kl = some (.lst ((kzOf true).map V.str)) := upd_same
      have hs2 := seqT U1 hs1
      have ht4 := ht3.mono U1
      have hy2 := hy1.mono U1
      have U01 := U0.trans U1
      clear nkl U0 U1 hs1 ht3 hy1
      generalize upd G0 kl (.lst [V.str "do", V.str "skip", V.str "rep"]) = G1 at *
      refine ⟨_, rfl, a, _, _, y, rfl, rfl, hs2, at0, .str "seq", _, hy2, rfl, _, rfl, ?_⟩
      refine iT (by decide +kernel) ?_
      have kd := hp.kid (by decide +kernel)
      have ms := mem_sum hp (by decide +kernel) true
      refine ⟨⟨_, rfl⟩, _, rfl, 1, rfl, a, _, rfl, hs2, fun p H1 S1 h1 => ?_⟩
      rw [show (1 : Int) = ((1 : Nat) : Int) from rfl, cut_hi _ (by simp)] at h1
      have h1' : SqT K H1 p ys := h1
      have hk1 := S1 _ _ hk
      refine ⟨p, rfl, ⟨ys, h1'⟩, fun D nD => ?_⟩
      refine lc_tup (K := K) (a := p) (xs := ys) (fun i Hc => Same H1 Hc ∧ Hc D = some (.lst (((r.take i).map fun e => toS (inP (wrapped true e) (tx e))).map V.str))) ⟨up1 nD, upd_same⟩ (fun i Hc _ ⟨q, _⟩ => seqT q h1') ?_ ?_
      · rintro i y3 Hc hi ⟨Sc, hL⟩
        obtain ⟨e, he, hDe⟩ := (ht4.mono (S1.trans Sc)).get hi
        have hem : e ∈ r := List.mem_of_getElem? he
        have hil := (List.getElem?_eq_some_iff.mp he).1
        refine ⟨rfl, ?_⟩
        refine ⟨_, rfl, _, rfl, y3, e, kl, true, rfl, hDe, .inl (.inl (Sc _ _ hk1)), kd e hem, fun H2 S2 => ⟨_, S2 _ _ hL, ?_, same_at (Sc.trans S2) nD, ?_⟩⟩
        · rw [List.length_map, List.length_map, List.length_take, sizeLine_eq]
          have := sum3 (fun e => (inP (wrapped true e) (tx e)).length) r
          omega
        · rw [upd_same, List.take_add_one, he, List.map_append, List.map_append]
          rfl
      · rintro Hc ⟨Sc, hL⟩
        rw [List.take_of_length_le (by have := ht2.len; omega)] at hL
        refine ⟨"; ", D, (r.map fun e => inP (wrapped true e) (tx e)).map toS, rfl, rfl, .inl ?_, ?_, ?_⟩
        · have e9 : (r.map fun e => toS (inP (wrapped true e) (tx e))) = (r.map fun e => inP (wrapped true e) (tx e)).map toS := by rw [List.map_map]; rfl
          rw [← e9]
          exact .inl (.inl hL)
        · rw [sum_len, List.length_map, List.length_map, show ("; " : Str).length = 2 by decide +kernel]
          have := sum3 (fun e => (inP (wrapped true e) (tx e)).length) r
          omega
        · have e : Txt.join "; " ((r.map fun e => inP (wrapped true e) (tx e)).map toS) = toS (tx (.tuple (.str "seq" :: r))) := by
            rw [toS_join, tx_seq, cpl_par.2.2.1]
          rw [e]
          exact h Hc (U01.trans (S1.trans Sc))
    · have c0 : ∀ H' : Hp, True := fun _ => True.intro
      refine ⟨_, rfl, a, _, _, y, rfl, rfl, hs, at0, len_small (by simp), fun t0 nt0 => ?_⟩
      have U0 := up1 (o := .lst [V.str "do", V.str "skip"]) nt0
      refine ⟨.str "or", t0, ["do", "skip"], hy.mono U0, rfl, .inl (.inl (.inl upd_same)), _, rfl, ?_⟩
      refine iF (by decide +kernel) ?_
      have hs1 := seqT U0 hs
      have ht3 := ht2.mono U0
      have hy1 := hy.mono U0
      clear nt0
      generalize upd H t0 (.lst [V.str "do", V.str "skip"]) = G0 at *
      refine ⟨_, rfl, a, _, _, y, rfl, rfl, hs1, at0, .str "or", _, hy1, rfl, _, rfl, ?_⟩
      refine iF (by decide +kernel) ?_
      refine ⟨_, rfl, a, _, _, y, rfl, rfl, hs1, at0, .str "or", _, hy1, rfl, _, rfl, ?_⟩
      refine iF (by decide +kernel) ?_
      refine ⟨len_small (by simp), fun kl nkl => ?_⟩
      have U1 := up1 (o := .lst [V.str "do", V.str "skip", V.str "rep", V.str "seq"]) nkl
      have hk : upd G0 kl (.lst [V.str "do", V.str "skip", V.str "rep", V.str "seq"]) kl = some (.lst ((kzOf false).map V.str)) := upd_same
      have hs2 := seqT U1 hs1
      have ht4 := ht3.mono U1
      have hy2 := hy1.mono U1
      have U01 := U0.trans U1
      clear nkl U0 U1 hs1 ht3 hy1
      generalize upd G0 kl (.lst [V.str "do", V.str "skip", V.str "rep", V.str "seq"]) = G1 at *
      refine ⟨_, rfl, a, _, _, y, rfl, rfl, hs2, at0, .str "or", _, hy2, rfl, _, rfl, ?_⟩
      refine iF (by decide +kernel) ?_
      have kd := hp.kid (by decide +kernel)
      have ms := mem_sum hp (by decide +kernel) false
      refine ⟨⟨_, rfl⟩, _, rfl, 1, rfl, a, _, rfl, hs2, fun p H1 S1 h1 => ?_⟩
      rw [show (1 : Int) = ((1 : Nat) : Int) from rfl, cut_hi _ (by simp)] at h1
      have h1' : SqT K H1 p ys := h1
      have hk1 := S1 _ _ hk
      refine ⟨p, rfl, ⟨ys, h1'⟩, fun D nD => ?_⟩
      refine lc_tup (K := K) (a := p) (xs := ys) (fun i Hc => Same H1 Hc ∧ Hc D = some (.lst (((r.take i).map fun e => toS (inP (wrapped false e) (tx e))).map V.str))) ⟨up1 nD, upd_same⟩ (fun i Hc _ ⟨q, _⟩ => seqT q h1') ?_ ?_
      · rintro i y3 Hc hi ⟨Sc, hL⟩
        obtain ⟨e, he, hDe⟩ := (ht4.mono (S1.trans Sc)).get hi
        have hem : e ∈ r := List.mem_of_getElem? he
        have hil := (List.getElem?_eq_some_iff.mp he).1
        refine ⟨rfl, ?_⟩
        refine ⟨_, rfl, _, rfl, y3, e, kl, false, rfl, hDe, .inl (.inl (Sc _ _ hk1)), kd e hem, fun H2 S2 => ⟨_, S2 _ _ hL, ?_, same_at (Sc.trans S2) nD, ?_⟩⟩
        · rw [List.length_map, List.length_map, List.length_take, sizeLine_eq]
          have := sum3 (fun e => (inP (wrapped false e) (tx e)).length) r
          omega
        · rw [upd_same, List.take_add_one, he, List.map_append, List.map_append]
          rfl
      · rintro Hc ⟨Sc, hL⟩
        rw [List.take_of_length_le (by have := ht2.len; omega)] at hL
        refine ⟨" | ", D, (r.map fun e => inP (wrapped false e) (tx e)).map toS, rfl, rfl, .inl ?_, ?_, ?_⟩
        · have e9 : (r.map fun e => toS (inP (wrapped false e) (tx e))) = (r.map fun e => inP (wrapped false e) (tx e)).map toS := by rw [List.map_map]; rfl
          rw [← e9]
          exact .inl (.inl hL)
        · rw [sum_len, List.length_map, List.length_map, show (" | " : Str).length = 3 by decide +kernel]
          have := sum3 (fun e => (inP (wrapped false e) (tx e)).length) r
          omega
        · have e : Txt.join " | " ((r.map fun e => inP (wrapped false e) (tx e)).map toS) = toS (tx (.tuple (.str "or" :: r))) := by
            rw [toS_join, tx_or, cpl_par.2.2.2]
          rw [e]
          exact h Hc (U01.trans (S1.trans Sc))
theorem ok_ltext {f fW : Addr} {fd fdW : FuncData} (F : Fun K "_law_text" "_law_text" sLawText f fd) (bF : Binds K fd ["one"] []) (mF : mg "_law_text" = some (.ref f)) (FW : Fun K "_law_in" "_law_in" sLawIn fW fdW) (bW : Binds K fdW ["one", "kinds"] []) (mW : mg "_law_in" = some (.ref fW)) :
    ∀ m : Nat, FnOk P w K mg base CX0 (2 * m + 1) f fd ["one"] (spTx K m)
  | 0 => ⟨fun vs H Q E ⟨v, d, e, _⟩ => by rw [e]; rfl, fun _ _ _ _ _ _ _ _ _ _ _ _ _ ⟨_, _, _, _, h, _⟩ => by obtain ⟨_, q⟩ := h.pos; cases q⟩
  | m + 1 => step_ltext F FW.kp bW mW (step_in FW F.kp bF mF (ok_ltext F bF mF FW bW mW m))
/-! check_program, write -/
def spChk (K : PySem.W.Frag) : Sp := fun vs H Q _ => ∃ (v : V) (d : PyData), vs = [v] ∧ Dv K H v d ∧ d.weight ≤ 60000 ∧ isProg d = true ∧ ∀ H', Same H H' → Q .non H'
abbrev nCk : List Str := ["program"]
theorem scCk : FnScope nCk ["program"] (defScope sCheck) := ⟨rfl, rfl, rfl, by decide +kernel, rfl, by decide +kernel, by decide +kernel⟩
theorem ok_chk {f fP : Addr} {fd fdP : FuncData} (F : Fun K "check_program" "check_program" sCheck f fd) (kP : PySem.W.keepIn K (.ref fP) = true) (bP : Binds K fdP ["value"] []) (mP : mg "is_program" = some (.ref fP))
    (GP : FnOk P w K mg base CX0 3 fP fdP ["value"] (spProg K)) : FnOk P w K mg base CX0 4 f fd ["program"] (spChk K) := by
  refine F.ok scCk (fun vs H Q E h => ?_) (fun cdv A outer s H vs Q E hr h => ?_)
  · obtain ⟨v, d, rfl, _⟩ := h
    rfl
  · obtain ⟨v, d, rfl, hD, hw, hp, h⟩ := h
    refine ⟨_, pss_one (ps_if (pt_not (pt_val (pe_call GP hr rfl mP kP bP .nil pass0 (pa_cons (pv 0) pa_nil)))) (pss_one ps_never) pss_nil), ?_⟩
    refine ⟨_, rfl, v, d, rfl, hD, hw, fun H' S => ?_⟩
    rw [hp]
    exact ⟨_, rfl, h H' S⟩
def spWr (K : PySem.W.Frag) : Sp := fun vs H Q _ => ∃ (v : V) (d : PyData), vs = [v] ∧ Dv K H v d ∧ d.weight ≤ 60000 ∧ isProg d = true ∧ ∀ H', Same H H' → Q (.str (toS (tx d))) H'
abbrev nWr : List Str := ["program"]
theorem scWr : FnScope nWr ["program"] (defScope sWrite) := ⟨rfl, rfl, rfl, by decide +kernel, rfl, by decide +kernel, by decide +kernel⟩
theorem ok_write {f fC fT : Addr} {fd fdC fdT : FuncData} (F : Fun K "write" "write" sWrite f fd) (kC : PySem.W.keepIn K (.ref fC) = true) (bC : Binds K fdC ["program"] []) (mC : mg "check_program" = some (.ref fC)) (GC : FnOk P w K mg base CX0 4 fC fdC ["program"] (spChk K))
    (kT : PySem.W.keepIn K (.ref fT) = true) (bT : Binds K fdT ["program"] []) (mT : mg "_text" = some (.ref fT)) (GT : FnOk P w K mg base CX0 81 fT fdT ["program"] (spTx K 40)) : FnOk P w K mg base CX0 82 f fd ["program"] (spWr K) := by
  refine F.ok scWr (fun vs H Q E h => ?_) (fun cdv A outer s H vs Q E hr h => ?_)
  · obtain ⟨v, d, rfl, _⟩ := h
    rfl
  · obtain ⟨v, d, rfl, hD, hw, hp, h⟩ := h
    refine ⟨_, pss_cons (ps_expr (pe_call GC (hr.mono (by decide)) rfl mC kC bC .nil pass0 (pa_cons (pv 0) pa_nil))) (pss_one (ps_ret (pe_call GT hr rfl mT kT bT .nil pass0 (pa_cons (pv 0) pa_nil)))), ?_⟩
    refine ⟨_, rfl, v, d, rfl, hD, hw, hp, fun H1 S1 => ?_⟩
    exact ⟨_, rfl, v, d, rfl, hD.mono S1, prog_pr hp hw, fun H2 S2 => h H2 (S1.trans S2)⟩
end
end L50
/-! a caught error that is kept behind its except clause -/
namespace L50
open PySem PySem.Spec PyProof.Rows L2 L54
/-- at a: an error of the class at C, without a dict -/
def exq (a C : Addr) : HO := .ext fun h => ∃ (o : Obj) (vs : Array Value), h.get? a = some o ∧ o.cls = .ref C ∧ o.dict = none ∧ o.data = .fields vs
theorem exq_ok {P : Program} {w : World} {H : Hp} {h : Heap} {a C : Addr} {o : Obj} {vs : Array Value} (e : h.get? a = some o) (c : o.cls = .ref C) (d : o.dict = none) (f : o.data = .fields vs) : ObjOk P w H h a (exq a C) :=
  ⟨⟨o, vs, e, c, d, f⟩, ⟨o, e⟩, fun _ _ p k => by
    obtain ⟨o', vs', e', r⟩ := p
    exact ⟨o', vs', k _ e', r⟩⟩
theorem exq_at {P : Program} {w : World} {H : Hp} {h : Heap} {a C : Addr} (hok : HOk P w H h) (e : H a = some (exq a C)) : ∃ (o : Obj) (vs : Array Value), h.get? a = some o ∧ o.cls = .ref C ∧ o.dict = none ∧ o.data = .fields vs := (hok a _ e).1
section
variable {X : Cx} {pins : List (Addr × Obj)} {σ : L2.St} {H : Hp} {s : Shared}
theorem unsuite_pin {a : Addr} {q : Addr × Obj} {pn' : List (Addr × Obj)} (I : Inv (X.suite a (q :: (X.pn ++ pins))) pn' σ H s) (ok : X.Ok) : Inv X (q :: pins) σ H s :=
  ⟨ok, I.os, I.bare, I.base, I.loc, I.cell, I.free, I.freeC, fun p hp => I.pin p (List.mem_append_left _ (by
    rcases List.mem_append.mp hp with z | z
    · exact List.mem_cons_of_mem _ (List.mem_append_left _ z)
    · rcases List.mem_cons.mp z with z | z
      · rw [z]; exact List.mem_cons_self
      · exact List.mem_cons_of_mem _ (List.mem_append_right _ z))), I.hok, I.len⟩
/-- a pinned object is tracked from now on -/
theorem track {a : Addr} {oe : Obj} {o : HO} (I : Inv X ((a, oe) :: pins) σ H s) (new : ∀ G, ObjOk X.prog X.w G s.heap a o) (n0 : X.s_0.heap.get? a = none) (np : ∀ p ∈ X.pn ++ pins, p.1 ≠ a) : Inv X pins σ (upd H a o) s := by
  obtain ⟨ea, na, nL, nF, nc⟩ := I.pin (a, oe) (List.mem_append_right _ List.mem_cons_self)
  have far : ∀ b u, X.s_0.heap.get? b = some u → b ≠ a := fun b u e q => by rw [q, n0] at e; cases e
  have keepH : ∀ b u, H b = some u → upd H a o b = some u := fun b u e => by
    rw [upd_ne (ne_of_none e na)]
    exact e
  refine ⟨I.ok, I.os, I.bare, ⟨I.base.keep, I.base.slot, fun b u e h1 h2 => ?_, I.base.there, fun b xs e => keepH _ _ (I.base.tups b xs e), fun b u x e => keepH _ _ (I.base.frzs b u x e), fun b ps e => ?_⟩, I.loc, I.cell, ?_, fun x c e => ?_, fun p hp => ?_, fun b u e => ?_, I.len⟩
  · rw [upd_ne (far b u e)]
    exact I.base.free b u e h1 h2
  · obtain ⟨m, q⟩ := I.base.tbls b ps e
    exact ⟨m, keepH _ _ q⟩
  · rw [upd_ne (Ne.symm nL)]
    exact I.free
  · have q : c ≠ a := fun q => by
      obtain ⟨v, oc, ec, hc⟩ := I.cell x c e
      rw [q] at ec
      have ec' : s.heap.get? a = some oe := ea
      rw [ec'] at ec
      cases ec
      exact nc v (by first | exact hc.2 | exact hc.1 | exact hc)
    rw [upd_ne q]
    exact I.freeC x c e
  · obtain ⟨e1, e2, e3, e4, e5⟩ := I.pin p (by
      rcases List.mem_append.mp hp with z | z
      · exact List.mem_append_left _ z
      · exact List.mem_append_right _ (List.mem_cons_of_mem _ z))
    refine ⟨e1, ?_, e3, e4, e5⟩
    rw [upd_ne (np p hp)]
    exact e2
  · by_cases hb : b = a
    · subst hb
      rw [upd_same] at e
      cases e
      exact new _
    · rw [upd_ne hb] at e
      exact (I.hok b u e).stay (fun _ _ _ q => q) (fun c q => keepH _ _ q) fun c xs q => keepH _ _ q
/-- what the clause wishes of an error of the body: behind it the error is an object that is known -/
def wTr (K : PySem.W.Frag) (c : Value) (i : Nat) (ts : Addr → Value → Option Addr → TS) (D : Ends) : WX := fun cls d σ H => PySem.W.exmOne K cls c = some true ∧
  ∃ C, cls = .ref C ∧ d = none ∧ ∀ a, H a = none → ts a cls d { nx := fun σ' H' => D.nx (σ'.set i none) (upd H' a (exq a C)), rt := fun _ _ => False, bk := fun _ _ => False, ct := fun _ _ => False } (σ.set i (some (.ref a))) H
variable {i : Nat} {n x : Str} {c : Value} {body suite : List Stmt} {b₀ : Stmt} {np pos' pos : Pos} {tb : WX → TS} {ts : Addr → Value → Option Addr → TS}
theorem ps_try_tr (hs : X.stack = X.env :: X.outer) (hf : X.env.frame = some X.env.locals) (hN : X.N.Nodup) (hi : X.N[i]? = some n) (hln : X.env.kindOf n = some .local) (hc : Names X x c) (hex : X.ex = [])
    (hb : ∀ (W : WX) (pn : List (Addr × Obj)) (xe : Value → Shared → Prop), Takes (X.tr pn xe) W → PassesOwn (model X.prog X.w) X.A X.env xe → PSs (X.tr pn xe) body (tb W))
    (hsu : ∀ (a : Addr) (oe : Obj) (cls : Value) (d : Option Addr) (pn : List (Addr × Obj)), Zc cls d oe → (∃ vs, oe.data = .fields vs) → PSs (X.suite a ((a, oe) :: pn)) (b₀ :: suite) (ts a cls d)) :
    PS X (.Try body [.ExceptHandler (some (.Name x np)) (some n) (b₀ :: suite) pos'] [] [] pos) (fun D σ H => tb (wTr X.K c i ts D) D σ H) := by
  refine ⟨fun pins s σ H D I h => wpAny_Try_except ?_⟩
  have ok := I.ok
  have frames : X.A.frames = some (X.env :: X.outer) := by rw [ok.frames, hs]
  refine wpAny_mono ((hb (wTr X.K c i ts D) (X.pn ++ pins) (fun e s₁ => wpAny (model X.prog X.w) X.A (noteFrame e X.env) (fun _ s₂ => wpAny (model X.prog X.w) X.A (setFlight e none) (fun _ s₃ =>
    wpAny (model X.prog X.w) X.A (handleBy e X.env [.ExceptHandler (some (.Name x np)) (some n) (b₀ :: suite) pos']) (SP X pins D) X.xe s₃) X.xe s₂) X.xe s₁) (fun u s' xx => ?_) PassesOwn.looking).run [] s σ H D (I.toTry _) h) (fun f s1 hsp => ?_) (fun e s1 he => he)
  · obtain ⟨a, B, sI, pins', σ', H', cls, d, rfl, J', nb, up, sky, na, os, ag, hb1, hyes⟩ := xx
    have J : Inv X pins σ' H' sI := J'.ofTry ok
    have sky1 : Sky B (X.env :: X.outer) a (Zc cls d) X.env.locals s'.heap := by rw [← hs]; exact sky
    show wpAny (model X.prog X.w) X.A (noteFrame (.ref a) X.env) _ _ _
    refine Sky.land Zc.steady frames hf sky1 fun h3 fl3 up3 => ?_
    have J3 : Inv X pins σ' H' { s' with heap := h3 } := J.landed nb fl3.1 (up.trans up3) os ag
    obtain ⟨oe3, vs3, he3, hz3, hd3⟩ := fl3.there
    have noFr : a ∉ frs (X.env :: X.outer) := fun hm => by
      obtain ⟨_, o', e', hnf⟩ := fl3.2.2.1.mem hm
      rw [he3] at e'
      cases e'
      exact hnf _ hd3
    have gone : ∀ o, sI.heap.get? a ≠ some o := fun o e => by
      have q := nb a o e (by rw [hs]; exact noFr)
      rw [fl3.2.1] at q
      cases q
    have n0 : X.s_0.heap.get? a = none := by
      cases q : X.s_0.heap.get? a with
      | none => rfl
      | some o =>
        obtain ⟨o', e⟩ := J.base.there a o q (by rw [hex]; exact List.not_mem_nil)
        exact absurd e (gone o')
    have np' : ∀ p ∈ X.pn ++ pins, p.1 ≠ a := fun p hp q => by
      have e := (J.pin p hp).1
      rw [q] at e
      exact gone _ e
    have nL : a ≠ X.env.locals := fun z => noFr (List.mem_filterMap.mpr ⟨X.env, List.mem_cons_self, by rw [hf, z]⟩)
    have nF : a ∉ X.fs := fun hm => by
      obtain ⟨e, he, q⟩ := List.mem_filterMap.mp hm
      exact noFr (List.mem_filterMap.mpr ⟨e, List.mem_cons_of_mem _ he, q⟩)
    have S3 := J3.suite he3 hd3 na nL nF
    refine wpAny_handleBy_cons (codeAny_handlers_test ?_) (by intro q; cases q)
    have looks : PySem.W.Looks (model X.prog X.w) h3 (typeOf (.ref a)) cls := fun A Q E s k q => wpAny_typeOf_ref (k _ _ he3) (by rw [hz3.1]; exact q)
    have match1 := PySem.W.exm_one (M := model X.prog X.w) (J3.kIn) looks hb1
    have test : ∀ {Q : Value → Shared → Prop} {E : Value → Shared → Prop}, Q c { s' with heap := h3 } → wpAny (model X.prog X.w) (X.A.mark (some (.ref a))) (eval (.Name x np) X.env) Q E { s' with heap := h3 } := by
      intro Q E q
      obtain ⟨hg, hdbg, hm | ⟨hm, hv, hnn⟩⟩ := hc
      · exact ld_glob (X := X.suite a ((a, oe3) :: (X.pn ++ pins))) S3 hg hm q hdbg
      · exact ld_blt (X := X.suite a ((a, oe3) :: (X.pn ++ pins))) S3 hg hm hv q hnn hdbg
    refine test (match1.here ?_)
    obtain ⟨C, rfl, rfl, hy⟩ := hyes
    refine codeAny_handlers_suite_as (HandSPX.lands_againZ fl3 fun h4 fl4 up4 => ?_)
    have J4 : Inv X pins σ' H' { s' with heap := h4 } := J.landed nb fl4.1 ((up.trans up3).trans up4) os ag
    obtain ⟨oe4, vs4, he4, hz4, hd4⟩ := fl4.there
    refine store_ok (X := X.suite a ((a, oe4) :: (X.pn ++ pins))) (v := .ref a) (J4.suite he4 hd4 na nL nF) hN hi (.inl hln) rfl (fun s5 S5 => ?_) (.inr hln)
    refine wpAny_mono ((hsu a oe4 (.ref C) none (X.pn ++ pins) hz4 ⟨_, hd4⟩).run [] s5 _ H' _ S5 (hy a na)) (fun f s6 hsp => ?_) (fun _ _ z => False.elim z)
    cases f with
    | next =>
      obtain ⟨σ6, H6, S6, q6⟩ := hsp
      refine gone_ok (unsuite_pin S6 ok) hN hi hln fun s7 J7 => ⟨_, _, track J7 (fun G => ?_) n0 np', q6⟩
      obtain ⟨e7, _⟩ := J7.pin (a, oe4) (List.mem_append_right _ List.mem_cons_self)
      exact exq_ok e7 hz4.1 hz4.2 hd4
    | brk =>
      obtain ⟨σ6, H6, S6, q6⟩ := hsp
      exact q6.elim
    | cont =>
      obtain ⟨σ6, H6, S6, q6⟩ := hsp
      exact q6.elim
    | ret u =>
      obtain ⟨v6, σ6, H6, S6, r6, q6⟩ := hsp
      exact q6.elim
  · cases f with
    | ret u =>
      obtain ⟨v, σ', H', J', r, q⟩ := hsp
      exact ⟨v, σ', H', J'.ofTry ok, r, q⟩
    | next =>
      obtain ⟨σ', H', J', q⟩ := hsp
      exact wpAny_execs_nil ⟨σ', H', J'.ofTry ok, q⟩
    | brk => exact let ⟨σ', H', J', q⟩ := hsp; ⟨σ', H', J'.ofTry ok, q⟩
    | cont => exact let ⟨σ', H', J', q⟩ := hsp; ⟨σ', H', J'.ofTry ok, q⟩
end
end L50
/-! isinstance of a kept error; read -/
namespace L50
open PySem PySem.Spec PyProof.Rows L2 L54
section
variable {X : Cx} {pins : List (Addr × Obj)} {σ : L2.St} {H : Hp} {s : Shared}
def rIsQ (K : PySem.W.Frag) : List V → Hp → VK → Prop := fun xs H Q => ∃ (a C : Addr) (c : V) (u : Value) (b : Bool), xs = [.ref a, c] ∧ ClsV c u ∧ H a = some (exq a C) ∧ ExcC K C ∧ PySem.W.kitOne K (.ref C) u = some b ∧ Q (.bl b) H
theorem call_isQ : CallR X (.builtin "isinstance") (rIsQ X.K) := by
  intro pins s σ H xs us Q I r h
  obtain ⟨a, C, c, u, b, rfl, k, ea, xc, e, q⟩ := h
  obtain ⟨u1, u2, rfl, r1, r2⟩ := vals2 r
  have e2 := k.eq r2
  subst e2
  cases r1
  obtain ⟨o, vs, e1, e3, e4, e5⟩ := exq_at I.hok ea
  have J : PySem.W.InstAt s.heap a o C none := ⟨e1, e3, by unfold PySem.W.notCls; rw [e5], by rw [e4]; trivial⟩
  exact PySem.W.kia_one (kitx54 xc) I.kIn J e (fun z => nomatch z) fun tk => ⟨.bl b, H, I.tok tk, rfl, q⟩
end
def vB : List Value := [.type "ValueError", .type "Exception", .type "BaseException", .type "object"]
/-- what the written part says of InvalidText and LastTouchError -/
structure ErrT (K : PySem.W.Frag) (mg : Str → Option Value) (C L : Addr) : Prop where
  q : PySem.W.excIn K C vB "ValueError.__new__" = true
  g : mg "InvalidText" = some (.ref C)
  k : PySem.W.keepIn K (.ref C) = true
  sub : PySem.W.subIn K (.ref C) (.type "BaseException") = some true
  ty : PySem.W.typeIn K (.ref C) = some (.type "type")
  gL : mg "LastTouchError" = some (.ref L)
  ex : PySem.W.exmOne K (.ref C) (.ref L) = some true
  xc : ExcC K C
  kit : PySem.W.kitOne K (.ref C) (.ref C) = some true
section
variable {P : Program} {w : World} {K : PySem.W.Frag} {mg : Str → Option Value} {base : Heap}
/-- the text of no program -/
def noText (d : PyData) : Prop := ∀ p, isProg p = true → d ≠ .str (toS (tx p))
def okT (d : PyData) : Prop := ∀ z, d = .str z → z.length ≤ 5000
def spRead (K : PySem.W.Frag) (C : Addr) : Sp := fun vs H Q E => ∃ (v : V) (d : PyData), vs = [v] ∧ Dv K H v d ∧ okT d ∧
  (∀ p, isProg p = true → d = .str (toS (tx p)) → ∀ v' H', Same H H' → Dv K H' v' p → p.weight ≤ 60000 → Q v' H') ∧ (noText d → ∀ H', Same H H' → E (.ref C) none H')
abbrev nRd : List Str := ["text", "program", "_"]
theorem scRd : FnScope nRd ["text"] (defScope sRead) := ⟨rfl, rfl, rfl, by decide +kernel, rfl, by decide +kernel, by decide +kernel⟩
theorem prog_back {p : PyData} (h : isProg p = true) : PP 61 (tx p) = (p, []) := by
  obtain ⟨w, _⟩ := (prog_spec p).mp h
  exact read_back w (by have := wf_depth p.depth p 1 (Nat.le_refl _) w; omega)
theorem prog_cc {p : PyData} (h : isProg p = true) : cc (tx p) ≤ 60 := by
  obtain ⟨w, n, _⟩ := (prog_spec p).mp h
  have := cc_tx p.depth p 1 (Nat.le_refl _) w
  omega
theorem ok_read {C L : Addr} {f fP fT : Addr} {fd fdP fdT : FuncData} (F : Fun K "read" "read" sRead f fd) (R : Rd K mg) (X : ErrT K mg C L) (kP : PySem.W.keepIn K (.ref fP) = true) (bP : Binds K fdP ["value"] []) (mP : mg "is_program" = some (.ref fP)) (GP : FnOk P w K mg base CX0 3 fP fdP ["value"] (spProg K))
    (kT : PySem.W.keepIn K (.ref fT) = true) (bT : Binds K fdT ["program"] []) (mT : mg "_text" = some (.ref fT)) (GT : FnOk P w K mg base CX0 81 fT fdT ["program"] (spTx K 40)) : FnOk P w K mg base (L2.CX P w) 185 f fd ["text"] (spRead K C) := by
  obtain ⟨uP, mgP, rP⟩ := R.G.mp
  have GO : FnOk P w K mg base CX0 184 R.fO R.dO ["text", "at"] (spRd K (few4 61) (PP 61)) := ok_or R 61
  refine F.okX scRd (fun vs H Q E h => ?_) (fun cdv A outer s H vs Q E hr h => ?_)
  · obtain ⟨v, d, rfl, _⟩ := h
    rfl
  · obtain ⟨v, d, rfl, hD, hz, hgood, hbad⟩ := h
    refine ⟨_, pss_cons (ps_if (PW.pt (pw_or (pt_not (pt_val (pe_callB call_isD rfl R.T.isi b_isi (pa_cons (pv 0) (pa_cons (pe_bltn (v := .ty "str") rfl R.T.str b_str rfl) pa_nil)))))
          (pw_or1 (pt_cmpR op_gt (pe_op op_add (pe_bm PySem.F.plainAttrs_str PySem.F.slot_str_count PySem.F.type_str_count mt_count (pv 0) (pa_cons pe_str pa_nil)) (pe_bm PySem.F.plainAttrs_str PySem.F.slot_str_count PySem.F.type_str_count mt_count (pv 0) (pa_cons pe_str pa_nil))) (pe_glob rfl mgP rP) (nomark _)))))
        (pss_one (ps_raise rfl (takes_of rfl rfl rfl rfl) (pmk_own PySem.F.excBase_ValueError X.q X.g X.k (raises_own X.sub X.ty) rfl))) pss_nil)
      (pss_cons (ps_asg (pe_call GO hr rfl R.mO R.FO.kp R.bO .nil pass0 (pa_cons (pv 0) (pa_cons pe_int pa_nil))) (pg_tup (by rfl) (pgs_cons (pg_name (i := 1) scRd.nd rfl (Or.inl rfl)) (pgs_cons (pg_name (i := 2) scRd.nd rfl (Or.inl rfl)) pgs_nil))))
      (pss_cons (ps_if (PW.pt (pw_or (pt_not (pt_val (pe_call GP (hr.mono (by decide)) rfl mP kP bP .nil pass0 (pa_cons (pv 1) pa_nil)))) (pw_or1 (pt_cmpR op_ne (pe_call GT (hr.mono (by decide)) rfl mT kT bT .nil pass0 (pa_cons (pv 1) pa_nil)) (pv 0) (nomark _)))))
        (pss_one (ps_raise rfl (takes_of rfl rfl rfl rfl) (pmk_own PySem.F.excBase_ValueError X.q X.g X.k (raises_own X.sub X.ty) rfl))) pss_nil)
      (pss_one (ps_ret (pv 1))))), ?_⟩
    refine ⟨_, rfl, _, _, d, _, _, rfl, .ty _, hD, k_str _, _, rfl, ?_⟩
    cases hd : isS d with
    | false =>
      refine iT rfl ?_
      exact hbad (fun p _ e => by rw [e] at hd; cases hd) H (Same.refl H)
    | true =>
      refine iF (by decide) ?_
      cases d with
      | none => cases hd
      | bool _ => cases hd
      | int _ => cases hd
      | tuple _ => cases hd
      | list _ => cases hd
      | dict _ => cases hd
      | str z =>
      cases hD
      have zl := cpl_len z
      have hz5 := hz z rfl
      refine ⟨_, rfl, rfl, z, "(", rfl, rfl, _, rfl, rfl, z, "*", rfl, rfl, _, _, rfl, rfl, _, _, rfl, rfl, _, rfl, ?_⟩
      have e1 : Txt.count z "(" = ((cpl z).count 40 : Nat) := count_sign z 40
      have e2 : Txt.count z "*" = ((cpl z).count 42 : Nat) := count_sign z 42
      rw [e1, e2]
      refine nS (fun c => ?_) (fun c => ?_)
      · have c' := of_decide_eq_true c
        refine hbad (fun p hp e => ?_) H (Same.refl H)
        have q := prog_cc hp
        have ez := PyData.str.inj e
        rw [ez, cpl_toS] at c'
        unfold cc at q
        omega
      · have c' := of_decide_eq_false c
        refine ⟨_, rfl, z, 0, rfl, Nat.zero_le _, by omega, ?_, fun q H1 v1 b S1 hq hv hb => ?_⟩
        · show (((cpl z).drop 0).count 40) < 61
          rw [List.drop_zero]
          omega
        · rw [List.drop_zero] at hv hb
          have wt := (PP_sf 61).wt (cpl z)
          generalize hM : PP 61 (cpl z) = M at *
          refine ⟨q, _, rfl, hq, rfl, _, _, rfl, _, _, rfl, rfl, ?_⟩
          refine ⟨_, rfl, v1, M.1, rfl, hv, by omega, fun H2 S2 => ?_⟩
          refine ⟨_, rfl, ?_⟩
          have back : ∀ p, isProg p = true → PyData.str z = .str (toS (tx p)) → M.1 = p := fun p hp e => by
            have ez := PyData.str.inj e
            rw [← hM, ez, cpl_toS, prog_back hp]
          cases hp1 : isProg M.1 with
          | false =>
            refine iT rfl ?_
            refine hbad (fun p hp e => ?_) H2 (S1.trans S2)
            rw [back p hp e, hp] at hp1
            cases hp1
          | true =>
            refine iF (by decide) ?_
            refine ⟨_, rfl, v1, M.1, rfl, hv.mono S2, prog_pr hp1 (by omega), fun H3 S3 => ?_⟩
            refine ⟨_, rfl, rfl, _, rfl, ?_⟩
            have S := S1.trans (S2.trans S3)
            by_cases et : toS (tx M.1) = z
            · refine iF (by rw [et]; simp) ?_
              exact ⟨_, rfl, hgood M.1 hp1 (by rw [et]) v1 H3 S (hv.mono (S2.trans S3)) (by omega)⟩
            · refine iT (by simp [et]) ?_
              refine hbad (fun p hp e => ?_) H3 S
              have e3 := back p hp e
              rw [← e3] at e
              exact et (PyData.str.inj e).symm
end
end L50
/-! _law_read, _law_refused -/
namespace L50
open PySem PySem.Spec PyProof.Rows L2 L54
section
variable {P : Program} {w : World} {K : PySem.W.Frag} {mg : Str → Option Value} {base : Heap}
def spLr (K : PySem.W.Frag) (C : Addr) : Sp := fun vs H Q _ => ∃ (v : V) (d : PyData), vs = [v] ∧ Dv K H v d ∧ okT d ∧
  (∀ p, isProg p = true → d = .str (toS (tx p)) → ∀ q v' H', Same H H' → SqT K H' q [v', .non] → Dv K H' v' p → p.weight ≤ 60000 → Q (.ref q) H') ∧
  (noText d → ∀ q a H', Same H H' → SqT K H' q [.non, .ref a] → H' a = some (exq a C) → Q (.ref q) H')
abbrev nLr : List Str := ["text", "found", "error", "e"]
theorem scLr : FnScope nLr ["text"] (defScope sLawRead) := ⟨rfl, rfl, rfl, by decide +kernel, rfl, by decide +kernel, by decide +kernel⟩
theorem ok_lread {C L : Addr} {f fR : Addr} {fd fdR : FuncData} (F : Fun K "_law_read" "_law_read" sLawRead f fd) (X : ErrT K mg C L) (kR : PySem.W.keepIn K (.ref fR) = true) (bR : Binds K fdR ["text"] []) (mR : mg "read" = some (.ref fR))
    (GR : FnOk P w K mg base (L2.CX P w) 185 fR fdR ["text"] (spRead K C)) : FnOk P w K mg base CX0 186 f fd ["text"] (spLr K C) := by
  refine F.ok scLr (fun vs H Q E h => ?_) (fun cdv A outer s H vs Q E hr h => ?_)
  · obtain ⟨v, d, rfl, _⟩ := h
    rfl
  · obtain ⟨v, d, rfl, hD, hz, hgood, hbad⟩ := h
    refine ⟨_, pss_cons (ps_asg (pe_tup (pa_cons pe_non (pa_cons pe_non pa_nil))) (pg_tup (by rfl) (pgs_cons (pg_name (i := 1) scLr.nd rfl (Or.inl rfl)) (pgs_cons (pg_name (i := 2) scLr.nd rfl (Or.inl rfl)) pgs_nil))))
      (pss_cons (ps_try_tr (i := 3) (tb := fun W => tAsg (tCallS (spRead K C) (WE W) (tCons (tVar 0) tNil)) (gName 1)) (ts := fun _ _ _ => tAsg (tVar 3) (gName 2)) rfl rfl scLr.nd rfl rfl ⟨rfl, by decide, Or.inl X.gL⟩ rfl
          (fun W pn xe tk _ => pss_one (ps_set (i := 1) scLr.nd rfl (Or.inl rfl) (by exact (pe_callS GR hr rfl mR kR bR (fun σ => passAt tk σ) (by exact (pa_cons (pv 0) pa_nil))))))
          (fun a oe cls d pn hz hf => pss_one (ps_set (i := 2) scLr.nd rfl (Or.inl rfl) (by exact (pv 3)))))
      (pss_one (ps_ret (pe_tup (pa_cons (pv 1) (pa_cons (pv 2) pa_nil)))))), ?_⟩
    refine ⟨len_small (by simp), fun t0 nt0 => ?_⟩
    have U0 := up1 (o := .tup [V.non, V.non]) nt0
    refine ⟨t0, _, rfl, .inl (.inl upd_same), rfl, _, _, rfl, _, _, rfl, rfl, ?_⟩
    refine ⟨_, rfl, v, d, rfl, hD.mono U0, hz, fun p hp e v' H' S' hv hw => ?_, fun hn H' S' => ?_⟩
    · refine ⟨_, rfl, _, rfl, len_small (by simp), fun q nq => ?_⟩
      have U := up1 (o := .tup [v', V.non]) nq
      exact hgood p hp e q v' _ (U0.trans (S'.trans U)) (.inl (.inl upd_same)) (hv.mono U) hw
    · refine ⟨X.ex, C, rfl, rfl, fun a na => ?_⟩
      refine ⟨_, rfl, ?_⟩
      refine ⟨_, rfl, _, rfl, len_small (by simp), fun q nq => ?_⟩
      have U1 := up1 (o := exq a C) na
      have U2 := up1 (o := .tup [V.non, V.ref a]) nq
      exact hbad hn q a _ (U0.trans (S'.trans (U1.trans U2))) (.inl (.inl upd_same)) (U2 _ _ upd_same)
def spRf (K : PySem.W.Frag) : Sp := fun vs H Q _ => ∃ (v : V) (d : PyData), vs = [v] ∧ Dv K H v d ∧ okT d ∧ noText d ∧ ∀ H', Same H H' → Q (.bl true) H'
abbrev nRf : List Str := ["text", "found", "error"]
theorem scRf : FnScope nRf ["text"] (defScope sRefused) := ⟨rfl, rfl, rfl, by decide +kernel, rfl, by decide +kernel, by decide +kernel⟩
theorem ok_refused {C L : Addr} {f fR : Addr} {fd fdR : FuncData} (F : Fun K "_law_refused" "_law_refused" sRefused f fd) (T : Bl mg) (X : ErrT K mg C L) (kR : PySem.W.keepIn K (.ref fR) = true) (bR : Binds K fdR ["text"] []) (mR : mg "_law_read" = some (.ref fR))
    (GR : FnOk P w K mg base CX0 186 fR fdR ["text"] (spLr K C)) : FnOk P w K mg base CX0 187 f fd ["text"] (spRf K) := by
  refine F.ok scRf (fun vs H Q E h => ?_) (fun cdv A outer s H vs Q E hr h => ?_)
  · obtain ⟨v, d, rfl, _⟩ := h
    rfl
  · obtain ⟨v, d, rfl, hD, hz, hn, h⟩ := h
    refine ⟨_, pss_cons (ps_asg (pe_call GR hr rfl mR kR bR .nil pass0 (pa_cons (pv 0) pa_nil)) (pg_tup (by rfl) (pgs_cons (pg_name (i := 1) scRf.nd rfl (Or.inl rfl)) (pgs_cons (pg_name (i := 2) scRf.nd rfl (Or.inl rfl)) pgs_nil))))
      (pss_one (ps_ret (pe_callB call_isQ rfl T.isi b_isi (pa_cons (pv 2) (pa_cons (pe_glob (v := .ref C) (u := .ref C) rfl X.g rfl) pa_nil))))), ?_⟩
    refine ⟨_, rfl, v, d, rfl, hD, hz, fun p hp e => absurd e (hn p hp), fun _ q a H' S' hq ha => ?_⟩
    refine ⟨q, _, rfl, hq, rfl, _, _, rfl, _, _, rfl, rfl, ?_⟩
    exact ⟨_, rfl, a, C, _, _, true, rfl, .own C, ha, X.xc, X.kit, h H' S'⟩
end
end L50
/-! text.replace(y, z, 1): some text, not much longer -/
namespace L50
open PySem PySem.Spec PyProof.Rows L2 L54
open PySem.Builtin PySem.Builtin.Str
def cut1L (x y : Str) : List Nat := occurrences x y 0 x.length 1
theorem gives_rep1 (x y z : Str) (t u v k : Tok) (h0 : (u == 0 || v == 0) = false) (huv : (u == v) = false) (hyz : (y == z) = false) (hl : tooLong (x.length + (cut1L x y).length * z.length) = false) :
    Gives («str.replace» ⟨[.str x t, .str y u, .str z v, .int 1 k], []⟩) (if ((cut1L x y).isEmpty || (y.length == 0 && z.length == 0)) = true then .val (.str x t) else .str (glued z (partsBetween x (cut1L x y) y.length))) := by
  show Gives (do
    let limit ← countLimit "str.replace" (some (.int 1 k)) (x.length + 1)
    if ((occurrences x y 0 x.length limit).isEmpty || (y.length == 0 && z.length == 0)) = true then (do rule "str.replace.nothing"; ret (.str x t)) else
      (do let same ← isSame (.str y u) (.str z v)
          if same = true then (do rule "str.replace.old-is-new"; ret (.str x t)) else
          if tooLong (x.length + (occurrences x y 0 x.length limit).length * z.length) = true then unsupported "str.replace:memory" else
          retStr (glued z (partsBetween x (occurrences x y 0 x.length limit) y.length)))) _
  rw [countLimit_int "str.replace" 1 k (x.length + 1) (by decide)]
  show Gives (if ((cut1L x y).isEmpty || (y.length == 0 && z.length == 0)) = true then (do rule "str.replace.nothing"; ret (.str x t)) else
      (do let same ← isSame (.str y u) (.str z v)
          if same = true then (do rule "str.replace.old-is-new"; ret (.str x t)) else
          if tooLong (x.length + (cut1L x y).length * z.length) = true then unsupported "str.replace:memory" else
          retStr (glued z (partsBetween x (cut1L x y) y.length)))) _
  cases hc : ((cut1L x y).isEmpty || (y.length == 0 && z.length == 0))
  · rw [isSame_str_other y z u v h0 huv hyz, hl]
    exact .of_eq rfl
  · exact .rule (.of_eq rfl)
theorem rep1_len (x y z : Str) : (glued z (partsBetween x (cut1L x y) y.length)).length ≤ x.length + z.length := by
  have h1 : (cut1L x y).length ≤ 1 := StrLaws.occ_length_le x y 0 x.length 1
  have hy : (glued y (partsBetween x (cut1L x y) y.length)).length = x.length := by
    unfold cut1L
    rw [StrLaws.glued_between_self]
  rw [size_glued, length_partsBetween, Nat.add_sub_cancel] at hy
  rw [size_glued, length_partsBetween, Nat.add_sub_cancel]
  have h2 : (cut1L x y).length * z.length ≤ 1 * z.length := Nat.mul_le_mul_right _ h1
  omega
section
variable {X : Cx} {o : Expr} {to : TE} {y z : Str} {j0 j1 j2 : Nat} {c0 c1 c2 apos pos : Pos}
def tRep1 (to : TE) (z : Str) : TE := fun σ H Q => to σ H fun v H1 => ∃ x, v = .str x ∧ x.length ≤ 100000 ∧ ∀ r : Str, r.length ≤ x.length + z.length → Q (.str r) H1
theorem pet_rep1 (ho : PE X o to) (hyz : (y == z) = false := by decide) (hz : z.length ≤ 100 := by decide)
    (hbase : attributeBase o "replace" X.env (eval o X.env) = eval o X.env := by rfl)
    (hfew : ((backTo pos (starEach [.Constant (.str y) j0 c0, .Constant (.str z) j1 c1, .Constant (.int 1) j2 c2] X.env)).all (fun x => !x.1) && (backToKw pos (keywordEach [] X.env)).all (fun x => x.1.isSome)
      && decide (([.Constant (.str y) j0 c0, .Constant (.str z) j1 c1, .Constant (.int 1) j2 c2] : List Expr).length + ([] : List Keyword).length + (if ([] : List Keyword).isEmpty then 0 else 1) < 30)) = true := by rfl)
    (hline : (apos.endLine == pos.line) = true := by rfl) :
    PET X (.Call (.Attribute o "replace" apos) [.Constant (.str y) j0 c0, .Constant (.str z) j1 c1, .Constant (.int 1) j2 c2] [] pos) (tRep1 to z) := by
  intro pins s σ H Q n0 I h
  refine wpAny_Call_method_late hbase hfew hline rfl (wpAny_mono (PySem.wpAny_toks_of n0 (ho.run pins s σ H _ I h)) (fun v s1 q => ?_) fun _ _ z => z.2)
  obtain ⟨n1, v', H1, I1, r1, x, rfl, hx, q⟩ := q
  obtain ⟨tx, rfl⟩ := r1
  refine ⟨"str", "str.replace", PySem.F.plainAttrs_str, PySem.F.slot_str_replace, PySem.F.type_str_replace, typeIs_str _ _ _, (fun _ e => nomatch e), ?_⟩
  have pa : PA X [.Constant (.int 1) j2 c2] (tCons (tC (.int 1)) tNil) := pa_cons pe_int pa_nil
  refine Calls.callWith_builtin (by rfl) (Calls.evalArgs_plain ?_)
  refine Calls.spliced_cons (Calls.Constant_str (k := j0) (pos := c0) (Calls.spliced_cons (Calls.Constant_str (k := j1) (pos := c1) ?_)))
  have I2 : Inv X pins σ H1 { s1 with toks := s1.toks + 1 + 1 } := I1.tok _
  refine thn (pa.run pos pins _ σ H1 (fun vs H2 => vs = [V.int 1] ∧ H2 = H1) I2 ⟨rfl, rfl⟩) fun us s2 ⟨vs, H2, I3, r3, ev, eH⟩ => ?_
  subst ev
  subst eH
  cases r3 with
  | cons r rt =>
  cases rt
  obtain ⟨k, rfl⟩ := r
  have hl : tooLong (x.length + (cut1L x y).length * z.length) = false := by
    have h1 : (cut1L x y).length ≤ 1 := StrLaws.occ_length_le x y 0 x.length 1
    have h2 : (cut1L x y).length * z.length ≤ 1 * z.length := Nat.mul_le_mul_right _ h1
    unfold tooLong
    rw [decide_eq_false_iff_not, sizeLine_eq]
    omega
  refine call_gives PySem.F.slot_str_replace (typeIs_str _ _ _) PySem.F.entry_str_replace (PySem.F.args_str_replace_4 _ _ _ _) (gives_rep1 x y z tx s1.toks (s1.toks + 1) k ?_ ?_ hyz hl) ?_
  · have : s1.toks ≠ 0 := by omega
    simp [this]
  · have : s1.toks ≠ s1.toks + 1 := by omega
    simpa using this
  · split
    · exact ⟨.str x, H2, I3, ⟨tx, rfl⟩, q x (Nat.le_add_right _ _)⟩
    · refine ⟨by have h9 := rep1_len x y z; rw [sizeLine_eq]; omega, .str _, H2, I3.tok _, ⟨_, rfl⟩, q _ (rep1_len x y z)⟩
end
end L50
/-! _law_bent: some text, not much longer -/
namespace L50
open PySem PySem.Spec PyProof.Rows L2 L54 CwR
theorem psstNox {X : Cx} {st : List Stmt} {t : TS} (h : PSsT X.nox st t) : PSsT X st t := fun pins s σ H D n0 I hw =>
  wpAny_mono (h pins s σ H D n0 (I.wish _) hw) (fun _ _ q => q.unwish) fun _ _ z => False.elim z
theorem pst_set {X : Cx} {i : Nat} {x : Str} {e : Expr} {te : TE} {pos pos' : Pos} (hN : X.N.Nodup) (hi : X.N[i]? = some x) (hx : Loc X.env.scope x) (he : PET X e te) (hs : swapsWith e (some (.Name x pos')) pos.line X.env = pure false := by rfl) (hf : X.fn x = true ∨ X.env.scope.names.lookup x = some .local := by first | exact .inl rfl | exact .inr rfl | assumption) :
    PST X (.Assign [.Name x pos'] e pos) (tAsg te (gName i)) := by
  intro pins s σ H D n0 I h
  refine wpAny_Assign_Name (thn (he pins s σ H _ n0 I h) fun v s1 ⟨y, H1, I1, r1, q1⟩ => ?_) hs
  exact store_ok I1 hN hi hx r1 (fun s2 I2 => ⟨_, H1, I2, q1⟩) hf
structure QT (X : Cx) (st : List Stmt) (t : TS) : Prop where
  run : PSsT X st t
theorem qt_nil {X : Cx} : QT X [] tNext := ⟨psst_nil⟩
theorem qt_cons {X : Cx} {st : Stmt} {rest : List Stmt} {t u : TS} (h1 : PS X st t) (h2 : QT X rest u) : QT X (st :: rest) (tSeq t u) := ⟨psst_cons (PST.of h1) h2.run⟩
theorem qt_consT {X : Cx} {i : Nat} {x : Str} {e : Expr} {te : TE} {rest : List Stmt} {u : TS} {pos pos' : Pos} (hN : X.N.Nodup) (hi : X.N[i]? = some x) (hx : Loc X.env.scope x) (he : PET X e te) (h2 : QT X rest u) (hs : swapsWith e (some (.Name x pos')) pos.line X.env = pure false := by rfl) (hf : X.fn x = true ∨ X.env.scope.names.lookup x = some .local := by first | exact .inl rfl | exact .inr rfl | assumption) :
    QT X (.Assign [.Name x pos'] e pos :: rest) (tSeq (tAsg te (gName i)) u) := ⟨psst_cons (pst_set hN hi hx he hs hf) h2.run⟩
theorem cut_a (z : Str) (i : Nat) : (cutS z none (some (i : Int))).length ≤ i := by
  have e : (cutS z none (some (i : Int))).length = ((z.cps.toList.drop (HT.sIx z.length 0 none)).take (HT.sIx z.length z.length (some (i : Int)) - HT.sIx z.length 0 none)).length := by
    unfold cutS Str.length
    simp
  rw [e, HT.sIx_nat, HT.sIx_none, List.length_take]
  omega
theorem cut_b (z : Str) (i : Nat) : (cutS z (some (i : Int)) none).length ≤ z.length - i := by
  have e : (cutS z (some (i : Int)) none).length = ((z.cps.toList.drop (HT.sIx z.length 0 (some (i : Int)))).take (HT.sIx z.length z.length none - HT.sIx z.length 0 (some (i : Int)))).length := by
    unfold cutS Str.length
    simp
  rw [e, HT.sIx_nat, HT.sIx_none, List.length_take]
  omega
theorem app_len (x y : Str) : (x ++ y).length = x.length + y.length := by
  show (x.cps ++ y.cps).size = _
  rw [Array.size_append]
  rfl
def sg : List Str := ["", " ", "(", ")", "a", "A", "\n", ";", "|", "*", "; b", " | b", "skip", "()", "1", "\t"]
theorem sg_len : ∀ x ∈ sg, x.length ≤ 4 := by decide +kernel
section
variable {P : Program} {w : World} {K : PySem.W.Frag} {mg : Str → Option Value} {base : Heap}
theorem Fun.okT {x qual : Str} {st : Stmt} {f : Addr} {fd : FuncData} {N ps : List Str} {k : Nat} {sp : Sp} (F : Fun K x qual st f fd) (S : FnScope N ps (defScope st)) (hnc : ∀ y ∈ (defScope st).names, y.2 ≠ .cell) (hps : 1 ≤ ps.length) (len : ∀ vs H Q E, sp vs H Q E → vs.length = ps.length)
    (hbody : ∀ (cdv : Value) (A : Around) (outer : List Env) (s : Shared) (H : Hp) (vs : List V) (Q : VK) (E : XK), Room k (A.deeper (envOfC qual (defScope st) s.heap.objs.size f cdv)) → sp vs H Q E →
      ∃ t, QT (cxOf CX0 P w K mg base N qual (defScope st) f cdv A outer s H E).nox (defBody st) t ∧ t { nx := fun _ H' => Q .non H', rt := Q } (start N vs) H) : FnOk P w K mg base CX0 (k + 1) f fd ps sp := by
  obtain ⟨oc, od, kV, doc, pm, an, cdv, ct, osl, rfl, lk, hcd⟩ := F.ex
  refine fn_ofT lk hcd S hnc hps len fun A outer s H vs Q E hr hsp => ?_
  obtain ⟨t, h, q⟩ := hbody cdv A outer s H vs Q E hr hsp
  exact ⟨t, psstNox h.run, q⟩
def spBn : Sp := fun vs H Q _ => ∃ (p : Addr) (z : Str), vs = [.ref p, .str z] ∧ Dg H p ∧ z.length ≤ 5000 ∧ ∀ (r : Str) H', SameB p H H' → Dg H' p → r.length ≤ z.length + 8 → Q (.str r) H'
abbrev nBn : List Str := ["own", "text", "at", "signs", "sign", "some"]
theorem scBn : FnScope nBn ["own", "text"] (defScope sBent) := ⟨rfl, rfl, rfl, by decide +kernel, rfl, by decide +kernel, by decide +kernel⟩
theorem ncBn : ∀ y ∈ (defScope sBent).names, y.2 ≠ .cell := by decide +kernel
abbrev XN (P : Program) (w : World) (K : PySem.W.Frag) (mg : Str → Option Value) (base : Heap) (f : Addr) (cdv : Value) (A : Around) (outer : List Env) (s : Shared) (H : Hp) (E : XK) : Cx := (cxOf CX0 P w K mg base nBn "_law_bent" (defScope sBent) f cdv A outer s H E).nox
variable {cdv : Value} {A : Around} {outer : List Env} {s : Shared} {H : Hp} {E : XK}
theorem ok_bent {f fT : Addr} {fd fdT : FuncData} (F : Fun K "_law_bent" "_law_bent" sBent f fd) (T : Bl mg)
    (FT : Fun K "_law_take" "_law_take" sTake fT fdT) (bT : Binds K fdT ["own", "options"] []) (mT : mg "_law_take" = some (.ref fT)) : FnOk P w K mg base CX0 2 f fd ["own", "text"] spBn := by
  have GT : FnOk P w K mg base CX0 1 fT fdT ["own", "options"] spTake := ok_take FT T
  refine Fun.okT F scBn ncBn (by decide) (fun vs H Q E h => ?_) (fun cdv A outer s H vs Q E hr h => ?_)
  · obtain ⟨p, z, rfl, _⟩ := h
    rfl
  · obtain ⟨p, z, rfl, ⟨n, hp, n0, n1⟩, hz, h⟩ := h
    refine ⟨_, (qt_cons ((ps_set (i := 2) scBn.nd rfl (.inl rfl) (pe_call GT hr rfl mT FT.kp bT .nil pass0 (pa_cons (pv 0) (pa_cons (pe_op op_add (pe_callB call_len_str rfl T.len b_len (pa_cons (pv 1) pa_nil)) pe_int) pa_nil)))))
      (qt_cons ((ps_set (i := 3) scBn.nd rfl (.inl rfl) (pe_lst (pa_cons pe_str (pa_cons pe_str (pa_cons pe_str (pa_cons pe_str (pa_cons pe_str (pa_cons pe_str (pa_cons pe_str (pa_cons pe_str (pa_cons pe_str (pa_cons pe_str (pa_cons pe_str (pa_cons pe_str (pa_cons pe_str (pa_cons pe_str (pa_cons pe_str (pa_cons pe_str pa_nil)))))))))))))))))))
      (qt_cons ((ps_set (i := 4) scBn.nd rfl (.inl rfl) (pe_ix ix_list (pv 3) (pe_call GT hr rfl mT FT.kp bT .nil pass0 (pa_cons (pv 0) (pa_cons pe_int pa_nil))) (fun _ _ => rfl))))
      (qt_cons ((ps_set (i := 5) scBn.nd rfl (.inl rfl) (pe_lst (pa_cons (pe_op op_add_str (pe_op op_add_str (pe_slice sl_str (pv 1) po_none (po_some (pv 2))) (pv 4)) (pe_slice sl_str (pv 1) (po_some (pv 2)) po_none)) (pa_cons (pe_op op_add_str (pe_op op_add_str (pe_slice sl_str (pv 1) po_none (po_some (pv 2))) (pv 4)) (pe_slice sl_str (pv 1) (po_some (pe_op op_add (pv 2) pe_int)) po_none)) pa_nil)))))
      (qt_cons ((ps_set (i := 5) scBn.nd rfl (.inl rfl) (pe_op op_cat (pv 5) (pe_lst (pa_cons (pe_op op_add_str (pe_slice sl_str (pv 1) (po_some (pv 2)) po_none) (pe_slice sl_str (pv 1) po_none (po_some (pv 2)))) (pa_cons (pe_op op_add_str (pe_op op_add_str pe_str (pv 1)) pe_str) pa_nil))))))
      (qt_consT (i := 5) scBn.nd rfl (.inl rfl) (pet_op op_cat (PET.of (pv 5)) (pet_lst (pat_cons (pet_rep1 (pv 1)) (pat_cons (pet_rep1 (pv 1)) (pat_cons (pet_rep1 (pv 1)) pat_nil)))))
      (qt_cons ((ps_set (i := 5) scBn.nd rfl (.inl rfl) (pe_op op_cat (pv 5) (pe_lst (pa_cons (pe_slice sl_str (pv 1) po_none (po_some (pv 2))) pa_nil)))))
      (qt_cons ((ps_ret (pe_ix ix_list (pv 5) (pe_call GT hr rfl mT FT.kp bT .nil pass0 (pa_cons (pv 0) (pa_cons pe_int pa_nil))) (fun _ _ => rfl))))
      qt_nil)))))))), ?_⟩
    refine ⟨_, rfl, _, rfl, z, rfl, len_small' (by omega), _, _, rfl, rfl, p, n, _, rfl, hp, n0, n1, by omega, by omega, fun d n' d0 d1 n0' n1' => ?_⟩
    have B1 : SameB p H (upd H p (.lst [.int n'])) := SameB.at
    have hp1 : (upd H p (.lst [.int n'])) p = some (.lst [.int n']) := upd_same
    generalize upd H p (.lst [.int n']) = H1 at *
    obtain ⟨i, rfl⟩ : ∃ j : Nat, d = (j : Int) := ⟨d.toNat, by omega⟩
    refine ⟨len_small (by simp), fun l nl => ?_⟩
    have nlp : l ≠ p := fun e => by rw [e, hp1] at nl; cases nl
    have U1 := up1 (o := .lst (sg.map V.str)) nl
    have hL : (upd H1 l (.lst (sg.map V.str))) l = some (.lst (sg.map V.str)) := upd_same
    have hp2 := U1 _ _ hp1
    have B2 := B1.trans (SameB.of U1)
    show tSeq _ _ _ _ (upd H1 l (.lst (sg.map V.str)))
    generalize upd H1 l (.lst (sg.map V.str)) = H2 at *
    refine ⟨_, rfl, _, rfl, p, n', _, rfl, hp2, n0', n1', by decide, by decide, fun d2 n2 d20 d21 n20 n21 => ?_⟩
    have B3 : SameB p H (upd H2 p (.lst [.int n2])) := B2.trans SameB.at
    have hp3 : (upd H2 p (.lst [.int n2])) p = some (.lst [.int n2]) := upd_same
    have hL3 : (upd H2 p (.lst [.int n2])) l = some (.lst (sg.map V.str)) := by rw [upd_ne nlp]; exact hL
    generalize upd H2 p (.lst [.int n2]) = H3 at *
    obtain ⟨i2, rfl⟩ : ∃ j : Nat, d2 = (j : Int) := ⟨d2.toNat, by omega⟩
    obtain ⟨y, hy⟩ : ∃ y, sg[i2]? = some y := ⟨_, List.getElem?_eq_getElem (show i2 < sg.length by show i2 < 16; omega)⟩
    have yl := sg_len y (List.mem_of_getElem? hy)
    refine ⟨l, sg.map V.str, _, .str y, rfl, rfl, .inl (.inl hL3), atI_nat (by rw [List.getElem?_map, hy]; rfl), ?_⟩
    have ca := cut_a z i
    have cb := cut_b z i
    have cc := cut_b z (i + 1)
    have zz : z.length ≤ sizeLine := len_small' (by omega)
    have e1 : ((i : Int) + 1) = ((i + 1 : Nat) : Int) := by omega
    refine ⟨_, rfl, _, rfl, _, rfl, z, rfl, zz, _, rfl, _, _, rfl, rfl, len_small' (by omega), _, rfl, _, rfl, _, rfl, z, rfl, zz, _, _, rfl, rfl, len_small' (by rw [app_len]; omega), ?_⟩
    refine ⟨_, rfl, _, rfl, _, rfl, z, rfl, zz, _, rfl, _, _, rfl, rfl, len_small' (by omega), _, rfl, _, rfl, _, _, rfl, rfl, _, rfl, z, rfl, zz, _, _, rfl, rfl, len_small' (by rw [app_len, e1]; omega), ?_⟩
    refine ⟨len_small (by simp), fun q1 nq1 => ?_⟩
    obtain ⟨w1, e1l, w1l, w1s⟩ : ∃ ws : List Str, [V.str (cutS z none (some (i : Int)) ++ y ++ cutS z (some (i : Int)) none), V.str (cutS z none (some (i : Int)) ++ y ++ cutS z (some ((i : Int) + 1)) none)] = ws.map V.str ∧ ws.length = 2 ∧ ∀ w ∈ ws, w.length ≤ z.length + 8 := by
      refine ⟨[_, _], rfl, rfl, fun w hw => ?_⟩
      rcases List.mem_cons.mp hw with e | e
      · rw [e, app_len, app_len]; omega
      · rw [List.mem_singleton.mp e, app_len, app_len, e1]; omega
    have U1 := up1 (o := .lst [V.str (cutS z none (some (i : Int)) ++ y ++ cutS z (some (i : Int)) none), V.str (cutS z none (some (i : Int)) ++ y ++ cutS z (some ((i : Int) + 1)) none)]) nq1
    have hQ1 : (upd H3 q1 (.lst [V.str (cutS z none (some (i : Int)) ++ y ++ cutS z (some (i : Int)) none), V.str (cutS z none (some (i : Int)) ++ y ++ cutS z (some ((i : Int) + 1)) none)])) q1 = some (.lst (w1.map V.str)) := by rw [upd_same, e1l]
    have hp4 := U1 _ _ hp3
    have B4 := B3.trans (SameB.of U1)
    generalize upd H3 q1 (.lst [V.str (cutS z none (some (i : Int)) ++ y ++ cutS z (some (i : Int)) none), V.str (cutS z none (some (i : Int)) ++ y ++ cutS z (some ((i : Int) + 1)) none)]) = H4 at *
    refine ⟨_, rfl, _, rfl, _, rfl, _, rfl, z, rfl, zz, _, rfl, _, rfl, _, rfl, z, rfl, zz, _, _, rfl, rfl, len_small' (by omega), _, rfl, _, _, rfl, rfl, len_small' (by show 1 + _ ≤ _; omega), _, _, rfl, rfl, len_small' (by rw [app_len]; show 1 + _ + 1 ≤ _; omega), ?_⟩
    refine ⟨len_small (by simp), fun q2 nq2 => ?_⟩
    have U2 := up1 (o := .lst [V.str (cutS z (some (i : Int)) none ++ cutS z none (some (i : Int))), V.str ("(" ++ z ++ ")")]) nq2
    refine ⟨_, _, _, _, rfl, rfl, U2 _ _ hQ1, upd_same, len_small (by rw [List.length_map, w1l]; simp), fun q3 nq3 => ?_⟩
    obtain ⟨w2, e2l, w2l, w2s⟩ : ∃ ws : List Str, w1.map V.str ++ [V.str (cutS z (some (i : Int)) none ++ cutS z none (some (i : Int))), V.str ("(" ++ z ++ ")")] = ws.map V.str ∧ ws.length = 4 ∧ ∀ w ∈ ws, w.length ≤ z.length + 8 := by
      refine ⟨w1 ++ [_, _], by rw [List.map_append]; rfl, by rw [List.length_append, w1l]; rfl, fun w hw => ?_⟩
      rcases List.mem_append.mp hw with e | e
      · exact w1s w e
      · rcases List.mem_cons.mp e with e | e
        · rw [e, app_len]; omega
        · rw [List.mem_singleton.mp e, app_len, app_len]; show 1 + _ + 1 ≤ _; omega
    rw [e2l]
    have U3 := up1 (o := .lst (w2.map V.str)) nq3
    have hQ3 := upd_same (H := upd H4 q2 (.lst [V.str (cutS z (some (i : Int)) none ++ cutS z none (some (i : Int))), V.str ("(" ++ z ++ ")")])) (a := q3) (o := .lst (w2.map V.str))
    have hp5 := U3 _ _ (U2 _ _ hp4)
    have B5 := B4.trans (SameB.of (U2.trans U3))
    generalize upd (upd H4 q2 (.lst [V.str (cutS z (some (i : Int)) none ++ cutS z none (some (i : Int))), V.str ("(" ++ z ++ ")")])) q3 (.lst (w2.map V.str)) = H5 at *
    refine ⟨_, rfl, _, rfl, z, rfl, by omega, fun r1 hr1 => ⟨_, rfl, z, rfl, by omega, fun r2 hr2 => ⟨_, rfl, z, rfl, by omega, fun r3 hr3 => ?_⟩⟩⟩
    refine ⟨len_small (by simp), fun q4 nq4 => ?_⟩
    have U4 := up1 (o := .lst [V.str r1, V.str r2, V.str r3]) nq4
    refine ⟨_, _, _, _, rfl, rfl, U4 _ _ hQ3, upd_same, len_small (by rw [List.length_map, w2l]; simp), fun q5 nq5 => ?_⟩
    obtain ⟨w3, e3l, w3l, w3s⟩ : ∃ ws : List Str, w2.map V.str ++ [V.str r1, V.str r2, V.str r3] = ws.map V.str ∧ ws.length = 7 ∧ ∀ w ∈ ws, w.length ≤ z.length + 8 := by
      refine ⟨w2 ++ [_, _, _], by rw [List.map_append]; rfl, by rw [List.length_append, w2l]; rfl, fun w hw => ?_⟩
      rcases List.mem_append.mp hw with e | e
      · exact w2s w e
      · have t1 : ("" : Str).length = 0 := rfl
        have t2 : ("  " : Str).length = 2 := rfl
        have t3 : (";" : Str).length = 1 := rfl
        rcases List.mem_cons.mp e with e | e
        · rw [e]; omega
        · rcases List.mem_cons.mp e with e | e
          · rw [e]; omega
          · rw [List.mem_singleton.mp e]; omega
    rw [e3l]
    have U5 := up1 (o := .lst (w3.map V.str)) nq5
    have hQ5 := upd_same (H := upd H5 q4 (.lst [V.str r1, V.str r2, V.str r3])) (a := q5) (o := .lst (w3.map V.str))
    have hp6 := U5 _ _ (U4 _ _ hp5)
    have B6 := B5.trans (SameB.of (U4.trans U5))
    generalize upd (upd H5 q4 (.lst [V.str r1, V.str r2, V.str r3])) q5 (.lst (w3.map V.str)) = H6 at *
    refine ⟨_, rfl, _, rfl, _, rfl, _, rfl, z, rfl, zz, len_small (by simp), fun q6 nq6 => ?_⟩
    have U6 := up1 (o := .lst [V.str (cutS z none (some (i : Int)))]) nq6
    refine ⟨_, _, _, _, rfl, rfl, U6 _ _ hQ5, upd_same, len_small (by rw [List.length_map, w3l]; simp), fun q7 nq7 => ?_⟩
    obtain ⟨w4, e4l, w4l, w4s⟩ : ∃ ws : List Str, w3.map V.str ++ [V.str (cutS z none (some (i : Int)))] = ws.map V.str ∧ ws.length = 8 ∧ ∀ w ∈ ws, w.length ≤ z.length + 8 := by
      refine ⟨w3 ++ [_], by rw [List.map_append]; rfl, by rw [List.length_append, w3l]; rfl, fun w hw => ?_⟩
      rcases List.mem_append.mp hw with e | e
      · exact w3s w e
      · rw [List.mem_singleton.mp e]; omega
    rw [e4l]
    have U7 := up1 (o := .lst (w4.map V.str)) nq7
    have hQ7 := upd_same (H := upd H6 q6 (.lst [V.str (cutS z none (some (i : Int)))])) (a := q7) (o := .lst (w4.map V.str))
    have hp7 := U7 _ _ (U6 _ _ hp6)
    have B7 := B6.trans (SameB.of (U6.trans U7))
    generalize upd (upd H6 q6 (.lst [V.str (cutS z none (some (i : Int)))])) q7 (.lst (w4.map V.str)) = H7 at *
    have nqp : q7 ≠ p := fun e => by rw [e, hp7] at hQ7; have := congrArg (fun o => o) hQ7; injection hQ7 with e2; injection e2 with e3; have := congrArg List.length e3; rw [List.length_map, w4l] at this; simp at this
    refine ⟨_, rfl, _, rfl, p, n2, _, rfl, hp7, n20, n21, by decide, by decide, fun d3 n3 d30 d31 n30 n31 => ?_⟩
    have B8 : SameB p H (upd H7 p (.lst [.int n3])) := B7.trans SameB.at
    obtain ⟨i3, rfl⟩ : ∃ j : Nat, d3 = (j : Int) := ⟨d3.toNat, by omega⟩
    obtain ⟨x, hx⟩ : ∃ x, w4[i3]? = some x := ⟨_, List.getElem?_eq_getElem (show i3 < w4.length by rw [w4l]; omega)⟩
    refine ⟨q7, w4.map V.str, _, .str x, rfl, rfl, .inl (.inl (by rw [upd_ne nqp]; exact hQ7)), atI_nat (by rw [List.getElem?_map, hx]; rfl), ?_⟩
    exact h x _ B8 ⟨n3, upd_same, n30, n31⟩ (w4s x (List.mem_of_getElem? hx))
end
end L50
/-! programs can be compared; reading back what is written -/
namespace L50
open PySem PySem.Spec PyProof.Rows L2 L54
mutual
theorem dvdp {K : PySem.W.Frag} {H : Hp} : ∀ (d : PyData) (v : V), d.hasDict = false → Dv K H v d → Dp K H v d
  | .none, _, _, h => by cases h; exact .non
  | .bool _, _, _, h => by cases h; exact .bl _
  | .int _, _, _, h => by cases h; exact .int _
  | .str _, _, _, h => by cases h; exact .str _
  | .list ds, _, n, h => by
    cases h with
    | lst h1 h2 => exact .lst h1 (dvdpAll ds _ (by simpa [PyData.hasDict] using n) h2)
  | .tuple ds, _, n, h => by
    cases h with
    | tup h1 h2 => exact .tup h1 (dvdpAll ds _ (by simpa [PyData.hasDict] using n) h2)
  | .dict _, _, n, h => by simp [PyData.hasDict] at n
theorem dvdpAll {K : PySem.W.Frag} {H : Hp} : ∀ (ds : List PyData) (vs : List V), PyData.hasDictAll ds = false → DvAll K H vs ds → DpAll K H vs ds
  | [], _, _, h => by cases h; exact .nil
  | d :: ds, _, n, h => by
    cases h with
    | cons h1 h2 =>
      simp only [PyData.hasDictAll, Bool.or_eq_false_iff] at n
      exact .cons (dvdp d _ n.1 h1) (dvdpAll ds _ n.2 h2)
end
theorem letters_small : ∀ c ∈ letters.cps.toList, c < 128 := by decide +kernel
theorem name_ok {x : Str} (h : isName (.str x) = true) : PyData.strOk x = true := by
  unfold isName at h
  rw [Bool.and_eq_true] at h
  have h2 := List.all_eq_true.mp h.2
  unfold PyData.strOk
  rw [Array.all_eq_true']
  intro c hc
  have h3 := of_decide_eq_true (h2 c (by simpa using hc))
  exact decide_eq_true (Nat.lt_trans (letters_small c h3) (by decide))
/-- flat: no list, no dict, plain signs -/
structure Flat (d : PyData) : Prop where
  cl : d.canLay0 = true
  nl : noList d = true
  hd : d.hasDict = false
theorem flat_tup {ds : List PyData} (h : ∀ d ∈ ds, Flat d) : Flat (.tuple ds) := by
  have key : PyData.canLayAll0 ds = true ∧ noListAll ds = true ∧ PyData.hasDictAll ds = false := by
    induction ds with
    | nil => exact ⟨rfl, rfl, rfl⟩
    | cons d ds ih =>
      obtain ⟨a, b, c⟩ := ih fun e he => h e (List.mem_cons_of_mem _ he)
      have q := h d List.mem_cons_self
      exact ⟨by simp [PyData.canLayAll0, q.cl, a], by simp [noListAll, q.nl, b], by simp [PyData.hasDictAll, q.hd, c]⟩
  exact ⟨by rw [PyData.canLay0]; exact key.1, by rw [noList]; exact key.2.1, by rw [PyData.hasDict]; exact key.2.2⟩
theorem flat_str {x : Str} (h : PyData.strOk x = true) : Flat (.str x) := ⟨h, rfl, rfl⟩
theorem wf_flat : ∀ (j : Nat) (d : PyData) (k : Nat), d.depth ≤ j → wf k d = true → Flat d
  | 0, d, k, hj, w => by
    obtain ⟨x, r, rfl, _⟩ := isPart_shape (wf_part w).1
    rw [PyData.depth] at hj
    omega
  | j + 1, d, k, hj, w => by
    obtain ⟨hp, hk⟩ := wf_part w
    obtain ⟨x, r, rfl, p⟩ := isPart_shape hp
    by_cases c : isStr x "do" = true
    · obtain ⟨z, rfl, hz⟩ := partDo p c
      rw [isStr_eq c]
      refine flat_tup fun e he => ?_
      rcases List.mem_cons.mp he with q | q
      · rw [q]; exact flat_str (by decide +kernel)
      · rw [List.mem_singleton.mp q]; exact flat_str (name_ok hz)
    · have c' : isStr x "do" = false := by simpa using c
      have fx : Flat x := by
        rcases kinds_of p with ⟨c2, _⟩ | ⟨rfl, _⟩ | ⟨rfl, _⟩ | ⟨rfl | rfl, _⟩
        · exact absurd c2 c
        all_goals exact flat_str (by decide +kernel)
      refine flat_tup fun e he => ?_
      rcases List.mem_cons.mp he with q | q
      · rw [q]; exact fx
      · obtain ⟨w1, w2⟩ := wf_kid w c' e q
        exact wf_flat j e (k + 1) (by omega) w1
theorem prog_flat {d : PyData} (h : isProg d = true) : Flat d := wf_flat d.depth d 1 (Nat.le_refl _) ((prog_spec d).mp h).1
theorem prog_shaped {d : PyData} (h : isProg d = true) : SeqAt.shaped d = true := by
  have := wf_depth d.depth d 1 (Nat.le_refl _) ((prog_spec d).mp h).1
  unfold SeqAt.shaped
  rw [(prog_flat h).cl, Bool.true_and]
  exact decide_eq_true (by omega)
theorem prog_one {p q : PyData} (hp : isProg p = true) (hq : isProg q = true) (e : toS (tx p) = toS (tx q)) : p = q := by
  have e2 : tx p = tx q := by rw [← cpl_toS (tx p), e, cpl_toS]
  have a := prog_back hp
  have b := prog_back hq
  rw [e2, b] at a
  injection a with a _
  exact a.symm
theorem pgm_prog {zs : List Str} {d : PyData} {m : Nat} (hm : m ≤ 3) (hz : zs.length ≤ 6) (h : Pgm zs m d) : isProg d = true := by
  have c : cM m ≤ 40 := by
    rcases m with _ | _ | _ | _ | m <;> first | decide | omega
  refine (prog_spec d).mpr ⟨h.wf 1 (by omega), by have := h.cn; omega, fun F nd mem => ?_⟩
  exact Nat.le_trans (nodup_le nd fun x hx => h.ac x ((mem x).mp hx)) hz
end L50
/-! _law_good -/
namespace L50
open PySem PySem.Spec PyProof.Rows L2 L54
structure Fn (K : PySem.W.Frag) (mg : Str → Option Value) (x : Str) (st : Stmt) (ps : List Str) where
  f : Addr
  fd : FuncData
  F : Fun K x x st f fd
  b : Binds K fd ps []
  m : mg x = some (.ref f)
structure Lw (K : PySem.W.Frag) (mg : Str → Option Value) where
  T : Bl mg
  G : Gb K mg
  C : Addr
  Le : Addr
  X : ErrT K mg C Le
  nName : Fn K mg "is_name" sIsName ["value"]
  nProg : Fn K mg "is_program" sIsProgram ["value"]
  nChk : Fn K mg "check_program" sCheck ["program"]
  nPart : Fn K mg "_is_part" sIsPart ["value"]
  nMem : Fn K mg "_members" sMembers ["part"]
  nWr : Fn K mg "write" sWrite ["program"]
  nRead : Fn K mg "read" sRead ["text"]
  nText : Fn K mg "_text" sText ["program"]
  nWithin : Fn K mg "_text_within" sWithin ["member", "wrapped"]
  nRO : Fn K mg "_read_or" sReadOr ["text", "at"]
  nRS : Fn K mg "_read_seq" sReadSeq ["text", "at"]
  nJoin : Fn K mg "_joined" sJoined ["kind", "members"]
  nRR : Fn K mg "_read_rep" sReadRep ["text", "at"]
  nRW : Fn K mg "_read_word" sReadWord ["text", "at"]
  nMix : Fn K mg "_law_mixed" sMixed ["cell", "k"]
  nCell : Fn K mg "_law_cell" sCell ["script", "k"]
  nTake : Fn K mg "_law_take" sTake ["own", "options"]
  nWords : Fn K mg "_law_words" sWords ["own", "many"]
  nPg : Fn K mg "_law_program" sProgram ["own", "called", "deep"]
  nIn : Fn K mg "_law_in" sLawIn ["one", "kinds"]
  nLt : Fn K mg "_law_text" sLawText ["one"]
  nLr : Fn K mg "_law_read" sLawRead ["text"]
  nRf : Fn K mg "_law_refused" sRefused ["text"]
  nBt : Fn K mg "_law_bent" sBent ["own", "text"]
  nGood : Fn K mg "_law_good" sGood ["own", "one"]
  nSz : Fn K mg "_law_sizes_good" sSizes []
  nMore : Fn K mg "_law_more_sizes" sMore ["a", "b"]
theorem passR {X : Cx} : Passes (L2.CX X.prog X.w) X E0 := fun _ _ _ _ _ _ _ ⟨_, _, _, _, _, _, _, _, _, _, _, _, h⟩ => h.elim
def forB (s : Stmt) : List Stmt := match s with
  | .For _ _ b _ _ => b
  | _ => []
section
variable {P : Program} {w : World} {K : PySem.W.Frag} {mg : Str → Option Value} {base : Heap}
theorem Lw.prog (L : Lw K mg) : FnOk P w K mg base CX0 3 L.nProg.f L.nProg.fd ["value"] (spProg K) := ok_prog L.nProg.F L.T L.G L.nName.F L.nName.b L.nName.m L.nPart.F L.nPart.b L.nPart.m L.nMem.F L.nMem.b L.nMem.m
theorem Lw.text (L : Lw K mg) : FnOk P w K mg base CX0 81 L.nText.f L.nText.fd ["program"] (spTx K 40) := ok_text L.nText.F L.nText.b L.nText.m L.nWithin.F L.nWithin.b L.nWithin.m 40
theorem Lw.ltext (L : Lw K mg) : FnOk P w K mg base CX0 81 L.nLt.f L.nLt.fd ["one"] (spTx K 40) := ok_ltext L.nLt.F L.nLt.b L.nLt.m L.nIn.F L.nIn.b L.nIn.m 40
theorem Lw.write (L : Lw K mg) : FnOk P w K mg base CX0 82 L.nWr.f L.nWr.fd ["program"] (spWr K) := ok_write L.nWr.F L.nChk.F.kp L.nChk.b L.nChk.m (ok_chk L.nChk.F L.nProg.F.kp L.nProg.b L.nProg.m L.prog) L.nText.F.kp L.nText.b L.nText.m L.text
def Lw.rd (L : Lw K mg) : Rd K mg := ⟨L.T, L.G, L.nRO.f, L.nRS.f, L.nRR.f, L.nRW.f, L.nJoin.f, L.nRO.fd, L.nRS.fd, L.nRR.fd, L.nRW.fd, L.nJoin.fd, L.nRO.F, L.nRS.F, L.nRR.F, L.nRW.F, L.nJoin.F, L.nRO.b, L.nRS.b, L.nRR.b, L.nRW.b, L.nJoin.b, L.nRO.m, L.nRS.m, L.nRR.m, L.nRW.m, L.nJoin.m⟩
theorem Lw.read (L : Lw K mg) : FnOk P w K mg base (L2.CX P w) 185 L.nRead.f L.nRead.fd ["text"] (spRead K L.C) := ok_read L.nRead.F L.rd L.X L.nProg.F.kp L.nProg.b L.nProg.m L.prog L.nText.F.kp L.nText.b L.nText.m L.text
theorem Lw.lread (L : Lw K mg) : FnOk P w K mg base CX0 186 L.nLr.f L.nLr.fd ["text"] (spLr K L.C) := ok_lread L.nLr.F L.X L.nRead.F.kp L.nRead.b L.nRead.m L.read
theorem Lw.refused (L : Lw K mg) : FnOk P w K mg base CX0 187 L.nRf.f L.nRf.fd ["text"] (spRf K) := ok_refused L.nRf.F L.T L.X L.nLr.F.kp L.nLr.b L.nLr.m L.lread
theorem Lw.bent (L : Lw K mg) : FnOk P w K mg base CX0 2 L.nBt.f L.nBt.fd ["own", "text"] spBn := ok_bent L.nBt.F L.T L.nTake.F L.nTake.b L.nTake.m
def spGd (K : PySem.W.Frag) : Sp := fun vs H Q _ => ∃ (p : Addr) (v : V) (d : PyData), vs = [.ref p, v] ∧ Dg H p ∧ Dv K H v d ∧ isProg d = true ∧ d.weight ≤ 500 ∧ ∀ H', SameB p H H' → Dg H' p → Q (.bl true) H'
abbrev nGd : List Str := ["own", "one", "text", "k", "bent", "found", "error"]
theorem scGd : FnScope nGd ["own", "one"] (defScope sGood) := ⟨rfl, rfl, rfl, by decide +kernel, rfl, by decide +kernel, by decide +kernel⟩
abbrev XG (P : Program) (w : World) (K : PySem.W.Frag) (mg : Str → Option Value) (base : Heap) (f : Addr) (cdv : Value) (A : Around) (outer : List Env) (s : Shared) (H : Hp) (E : XK) : Cx := (cxOf CX0 P w K mg base nGd "_law_good" (defScope sGood) f cdv A outer s H E).nox
def bodyG : List Stmt := forB ((defBody sGood).getD 2 (.Pass ⟨0, 0, 0, 0⟩))
variable {f : Addr} {cdv : Value} {A : Around} {outer : List Env} {s : Shared} {H : Hp} {E : XK}
theorem good2 (L : Lw K mg) (hr : Room 186 (A.deeper (envOfC "_law_good" (defScope sGood) s.heap.objs.size f cdv))) :
    ∃ t, PSs (XG P w K mg base f cdv A outer s H E) (bodyG.drop 2) t ∧ ∀ (D : Ends) (p o k fo er : Option V) (z y : Str) (H1 : Hp), y.length ≤ 5000 → ¬ noText (.str z) →
      (∀ fo' er' H', Same H1 H' → D.nx [p, o, some (.str z), k, some (.str y), fo', er'] H') → t D [p, o, some (.str z), k, some (.str y), fo, er] H1 := by
  have hu0 := hr.units
  refine ⟨_, pss_cons (ps_asg (pe_call L.lread hr rfl L.nLr.m L.nLr.F.kp L.nLr.b .nil pass0 (pa_cons (pv 4) pa_nil)) (pg_tup (by rfl) (pgs_cons (pg_name (i := 5) scGd.nd rfl (Or.inl rfl)) (pgs_cons (pg_name (i := 6) scGd.nd rfl (Or.inl rfl)) pgs_nil))))
    (pss_one (ps_if (pt_cmpR op_notN (pv 6) pe_non (nomark _))
      (pss_one (ps_if (PW.pt (pw_or (pt_cmpR op_eq (pv 4) (pv 2) (nomark _)) (pw_or1 (pt_not (pt_val (pe_callB call_isQ rfl L.T.isi b_isi (pa_cons (pv 6) (pa_cons (pe_glob (v := .ref L.C) (u := .ref L.C) rfl L.X.g rfl) pa_nil)))))))) (pss_one (ps_ret pe_bl)) pss_nil))
      (pss_one (ps_if (PW.pt (pw_or (pt_not (pt_val (pe_call L.prog (hr.mono (by decide)) rfl L.nProg.m L.nProg.F.kp L.nProg.b .nil pass0 (pa_cons (pv 5) pa_nil)))) (pw_or1 (pt_cmpR op_ne (pe_call L.ltext (hr.mono (by decide)) rfl L.nLt.m L.nLt.F.kp L.nLt.b .nil pass0 (pa_cons (pv 5) pa_nil)) (pv 4) (nomark _))))) (pss_one (ps_ret pe_bl)) pss_nil)))), ?_⟩
  intro D p o k fo er z y H1 hy hn h
  refine ⟨_, rfl, _, .str y, rfl, .str y, fun x e => by cases e; exact hy, fun d hd e q v' H2 S hq hv' hw => ?_, fun nt q a H2 S hq ha => ?_⟩
  · refine ⟨q, _, rfl, hq, rfl, _, _, rfl, _, _, rfl, rfl, ?_⟩
    refine ⟨_, rfl, rfl, _, rfl, ?_⟩
    refine iF (by simp) ?_
    refine ⟨_, rfl, v', d, rfl, hv', hw, fun H3 S3 => ?_⟩
    rw [hd]
    refine ⟨_, rfl, ?_⟩
    refine iF (by simp) ?_
    refine ⟨_, rfl, v', d, rfl, hv'.mono S3, prog_pr hd hw, fun H4 S4 => ?_⟩
    have e2 : y = toS (tx d) := by injection e
    subst e2
    refine ⟨_, rfl, ?_⟩
    refine ⟨rfl, _, rfl, ?_⟩
    refine iF (by simp) ?_
    exact h _ _ _ (S.trans (S3.trans S4))
  · refine ⟨q, _, rfl, hq, rfl, _, _, rfl, _, _, rfl, rfl, ?_⟩
    refine ⟨_, rfl, rfl, _, rfl, ?_⟩
    refine iT (by simp) ?_
    refine ⟨_, rfl, _, rfl, ?_⟩
    refine ⟨rfl, _, rfl, ?_⟩
    refine iF (fun c => hn ?_) ?_
    · have c2 := V.str.inj (of_decide_eq_true c)
      rw [← c2]
      exact nt
    refine ⟨_, rfl, a, L.C, _, _, true, rfl, .own L.C, ha, L.X.xc, L.X.kit, _, rfl, ?_⟩
    refine iF (by simp) ?_
    exact h _ _ _ S
theorem good1 (L : Lw K mg) (hr : Room 186 (A.deeper (envOfC "_law_good" (defScope sGood) s.heap.objs.size f cdv))) :
    ∃ t, PSs (XG P w K mg base f cdv A outer s H E) bodyG t ∧ ∀ (D : Ends) (p : Addr) (o b fo er : Option V) (z : Str) (j : Nat) (H1 : Hp), Dg H1 p → z.length ≤ 4000 → ¬ noText (.str z) →
      (∀ b' fo' er' H', SameB p H1 H' → Dg H' p → D.nx [some (.ref p), o, some (.str z), some (.int (0 + (j : Int))), b', fo', er'] H') → t D [some (.ref p), o, some (.str z), some (.int (0 + (j : Int))), b, fo, er] H1 := by
  obtain ⟨t2, h2, q2⟩ := good2 (P := P) (w := w) (base := base) (f := f) (cdv := cdv) (A := A) (outer := outer) (s := s) (H := H) (E := E) L hr
  refine ⟨_, pss_cons (ps_set (i := 4) scGd.nd rfl (.inl rfl) (pe_call L.bent (hr.mono (by decide)) rfl L.nBt.m L.nBt.F.kp L.nBt.b .nil pass0 (pa_cons (pv 0) (pa_cons (pv 2) pa_nil))))
    (pss_cons (ps_if (pt_cmpR op_gt (pv 3) pe_int (nomark _)) (pss_one (ps_set (i := 4) scGd.nd rfl (.inl rfl) (pe_call L.bent (hr.mono (by decide)) rfl L.nBt.m L.nBt.F.kp L.nBt.b .nil pass0 (pa_cons (pv 0) (pa_cons (pv 4) pa_nil))))) pss_nil) h2), ?_⟩
  intro D p o b fo er z j H1 hD hz hn h
  refine ⟨_, rfl, _, rfl, p, z, rfl, hD, by omega, fun y1 H2 B2 D2 ly1 => ?_⟩
  have fin : ∀ (y : Str) (fo er : Option V) (H3 : Hp), SameB p H1 H3 → Dg H3 p → y.length ≤ 5000 → t2 D [some (.ref p), o, some (.str z), some (.int (0 + (j : Int))), some (.str y), fo, er] H3 := fun y fo er H3 B3 D3 hy =>
    q2 D _ _ _ _ _ z y H3 hy hn fun fo' er' H4 S4 => h _ _ _ _ (B3.trans (SameB.of S4)) (by obtain ⟨n, a, b⟩ := D3; exact ⟨n, S4 _ _ a, b⟩)
  refine ⟨_, rfl, _, _, rfl, rfl, _, rfl, ?_⟩
  refine nS (fun c => ?_) (fun c => ?_)
  · refine ⟨_, rfl, _, rfl, p, y1, rfl, D2, by omega, fun y2 H3 B3 D3 ly2 => ?_⟩
    exact fin y2 _ _ H3 (B2.trans B3) D3 (by omega)
  · exact fin y1 _ _ H2 B2 D2 (by omega)
theorem ok_good (L : Lw K mg) : FnOk P w K mg base CX0 187 L.nGood.f L.nGood.fd ["own", "one"] (spGd K) := by
  refine L.nGood.F.ok scGd (fun vs H Q E h => ?_) (fun cdv A outer s H vs Q E hr h => ?_)
  · obtain ⟨p, v, d, rfl, _⟩ := h
    rfl
  · obtain ⟨p, v, d, rfl, D0, hD, hp, hw, h⟩ := h
    have hu0 := hr.units
    obtain ⟨t1, h1, q1⟩ := good1 (P := P) (w := w) (base := base) (f := L.nGood.f) (cdv := cdv) (A := A) (outer := outer) (s := s) (H := H) (E := E) L hr
    refine ⟨_, pss_cons (ps_set (i := 2) scGd.nd rfl (.inl rfl) (pe_call L.ltext (hr.mono (by decide)) rfl L.nLt.m L.nLt.F.kp L.nLt.b .nil pass0 (pa_cons (pv 1) pa_nil)))
      (pss_cons (ps_if (PW.pt (pw_or (pt_cmpR op_ne (pe_call L.write (hr.mono (by decide)) rfl L.nWr.m L.nWr.F.kp L.nWr.b .nil pass0 (pa_cons (pv 1) pa_nil)) (pv 2) (nomark _)) (pw_or1 (pt_cmpR (op_neD hu0) (pe_call L.read (hr.mono (by decide)) rfl L.nRead.m L.nRead.F.kp L.nRead.b .nil passR (pa_cons (pv 2) pa_nil)) (pv 1) (nomark _))))) (pss_one (ps_ret pe_bl)) pss_nil)
      (pss_cons (ps_for PassesOwn.never rfl (pi_range1 rfl L.T.range (pa_cons pe_int pa_nil)) (pg_name (i := 3) scGd.nd rfl (Or.inl rfl)) h1)
      (pss_one (ps_ret pe_bl)))), ?_⟩
    have pr := prog_pr hp (by omega)
    have hlen : (toS (tx d)).length ≤ 4000 := by
      obtain ⟨wf1, _⟩ := (prog_spec d).mp hp
      have q := tx_len d.depth d 1 (Nat.le_refl _) wf1
      rw [toS_len]
      omega
    refine ⟨_, rfl, v, d, rfl, hD, pr, fun H1 S1 => ?_⟩
    refine ⟨_, rfl, v, d, rfl, hD.mono S1, by omega, hp, fun H2 S2 => ?_⟩
    refine ⟨_, rfl, rfl, _, rfl, ?_⟩
    refine iF (by simp) ?_
    refine ⟨_, rfl, .str (toS (tx d)), .str (toS (tx d)), rfl, .str _, fun x e => by cases e; omega, fun q hq e v' H3 S3 hv' hw' => ?_, fun nt => absurd rfl (nt d hp)⟩
    have e2 : d = q := by
      injection e with e
      exact prog_one hp hq e
    subst e2
    have sh := prog_shaped hp
    refine ⟨_, rfl, d, d, dvdp d _ (prog_flat hp).hd hv', dvdp d _ (prog_flat hp).hd (hD.mono (S1.trans (S2.trans S3))), sh, sh, ?_⟩
    rw [SeqAt.eqv_refl _ (SeqAt.canLay_of_shaped sh)]
    refine ⟨_, rfl, ?_⟩
    refine iF (by simp) ?_
    have D3 : Dg H3 p := by obtain ⟨n, a, b⟩ := D0; exact ⟨n, (S1.trans (S2.trans S3)) _ _ a, b⟩
    refine ⟨8, rfl, by decide, by decide, for_range (n := 8) (fun i σ Hc => ∃ k' b' fo' er' : Option V, σ = [some (.ref p), some v, some (.str (toS (tx d))), k', b', fo', er'] ∧ SameB p H3 Hc ∧ Dg Hc p) ⟨none, none, none, none, rfl, SameB.refl, D3⟩ ?_ ?_⟩
    · rintro i σ Hc hi ⟨k', b', fo', er', rfl, Bc, Dc⟩
      refine q1 _ _ _ _ _ _ _ i Hc Dc hlen (fun nt => absurd rfl (nt d hp)) fun b2 fo2 er2 H4 B4 D4 => ?_
      exact ⟨_, b2, fo2, er2, rfl, Bc.trans B4, D4⟩
    · rintro σ Hc ⟨k', b', fo', er', rfl, Bc, Dc⟩
      exact h _ ((SameB.of (S1.trans (S2.trans S3))).trans Bc) Dc
end
end L50
/-! rows of statements that build data: slots and what they hold -/
namespace L50
open PySem PySem.Spec PyProof.Rows L2 L54
def isLst : PyData → Bool
  | .list _ => true
  | _ => false
/-- v is d; a list on the outside is a plain one -/
def Dt (K : PySem.W.Frag) (H : Hp) (v : V) (d : PyData) : Prop := (isLst d = false ∧ Dv K H v d) ∨ ∃ a xs ds, d = .list ds ∧ v = .ref a ∧ H a = some (.lst xs) ∧ DvAll K H xs ds
theorem Dt.mono {K : PySem.W.Frag} {H H' : Hp} {v : V} {d : PyData} (h : Dt K H v d) (s : Same H H') : Dt K H' v d := by
  rcases h with ⟨a, b⟩ | ⟨a, xs, ds, e1, e2, h1, h2⟩
  · exact .inl ⟨a, b.mono s⟩
  · exact .inr ⟨a, xs, ds, e1, e2, s _ _ h1, h2.mono s⟩
theorem Dt.of {K : PySem.W.Frag} {H : Hp} {v : V} {d : PyData} (n : isLst d = false) (h : Dv K H v d) : Dt K H v d := .inl ⟨n, h⟩
theorem Dt.dv {K : PySem.W.Frag} {H : Hp} {v : V} {d : PyData} (h : Dt K H v d) (n : isLst d = false) : Dv K H v d := by
  rcases h with ⟨a, b⟩ | ⟨a, xs, ds, rfl, _⟩
  · exact b
  · cases n
theorem Dt.lst {K : PySem.W.Frag} {H : Hp} {v : V} {ds : List PyData} (h : Dt K H v (.list ds)) : ∃ a xs, v = .ref a ∧ H a = some (.lst xs) ∧ DvAll K H xs ds := by
  rcases h with ⟨a, b⟩ | ⟨a, xs, ds, e, e2, h1, h2⟩
  · cases a
  · cases e
    exact ⟨a, xs, e2, h1, h2⟩
theorem Dt.dv' {K : PySem.W.Frag} {H : Hp} {v : V} {d : PyData} (h : Dt K H v d) : Dv K H v d := by
  rcases h with ⟨a, b⟩ | ⟨a, xs, ds, rfl, rfl, h1, h2⟩
  · exact b
  · exact .lst (.inl (.inl h1)) h2
theorem Dv.tupI {K : PySem.W.Frag} {H : Hp} {v : V} {ds : List PyData} (h : Dv K H v (.tuple ds)) : ∃ a xs, v = .ref a ∧ SqT K H a xs ∧ DvAll K H xs ds := by
  cases h with
  | tup h1 h2 => exact ⟨_, _, rfl, h1, h2⟩
abbrev Gm := List (Option PyData)
/-- what the slots hold, and where we are -/
structure Ev (K : PySem.W.Frag) (G : Hp → Prop) (Γ : Gm) (σ : L2.St) (H : Hp) : Prop where
  g : G H
  len : σ.length = Γ.length
  at' : ∀ (i : Nat) (d : PyData), Γ[i]? = some (some d) → ∃ v, σ[i]? = some (some v) ∧ Dt K H v d
/-- a wish that only grows -/
def Up (G : Hp → Prop) : Prop := ∀ H H', G H → Same H H' → G H'
section
variable {K : PySem.W.Frag} {G : Hp → Prop} {Γ : Gm} {σ : L2.St} {H H' : Hp}
theorem Ev.mono (u : Up G) (h : Ev K G Γ σ H) (s : Same H H') : Ev K G Γ σ H' := ⟨u _ _ h.g s, h.len, fun (i : Nat) (d : PyData) e => by
  obtain ⟨v, a, b⟩ := h.at' i d e
  exact ⟨v, a, b.mono s⟩⟩
theorem Ev.set (h : Ev K G Γ σ H) {i : Nat} {v : V} {d : PyData} (hd : Dt K H v d) : Ev K G (Γ.set i (some d)) (σ.set i (some v)) H := ⟨h.g, by rw [List.length_set, List.length_set, h.len], fun j d' e => by
  by_cases c : i = j
  · subst c
    by_cases hl : i < Γ.length
    · rw [List.getElem?_set_self hl] at e
      cases e
      exact ⟨v, List.getElem?_set_self (by rw [h.len]; exact hl), hd⟩
    · rw [List.getElem?_eq_none (by rw [List.length_set]; omega)] at e
      cases e
  · rw [List.getElem?_set_ne c] at e
    obtain ⟨w, a, b⟩ := h.at' j d' e
    exact ⟨w, by rw [List.getElem?_set_ne c]; exact a, b⟩⟩
theorem Ev.drop (h : Ev K G Γ σ H) (i : Nat) (v : Option V) : Ev K G (Γ.set i none) (σ.set i v) H := ⟨h.g, by rw [List.length_set, List.length_set, h.len], fun j d' e => by
  by_cases c : i = j
  · subst c
    by_cases hl : i < Γ.length
    · rw [List.getElem?_set_self hl] at e
      cases e
    · rw [List.getElem?_eq_none (by rw [List.length_set]; omega)] at e
      cases e
  · rw [List.getElem?_set_ne c] at e
    obtain ⟨w, a, b⟩ := h.at' j d' e
    exact ⟨w, by rw [List.getElem?_set_ne c]; exact a, b⟩⟩
end
def TEd (K : PySem.W.Frag) (G : Hp → Prop) (Γ : Gm) (d : PyData) : TE := fun σ H Q => Ev K G Γ σ H ∧ ∀ v H', Same H H' → Dt K H' v d → Q v H'
def TAd (K : PySem.W.Frag) (G : Hp → Prop) (Γ : Gm) (ds : List PyData) : TA := fun σ H Q => Ev K G Γ σ H ∧ ∀ vs H', Same H H' → DvAll K H' vs ds → Q vs H'
abbrev PD (X : Cx) (G : Hp → Prop) (Γ : Gm) (e : Expr) (d : PyData) : Prop := PE X e (TEd X.K G Γ d)
abbrev PDs (X : Cx) (G : Hp → Prop) (Γ : Gm) (es : List Expr) (ds : List PyData) : Prop := PA X es (TAd X.K G Γ ds)
theorem PE.weak {X : Cx} {e : Expr} {t t' : TE} (h : PE X e t) (k : ∀ σ H Q, t' σ H Q → t σ H Q) : PE X e t' := ⟨fun pins s σ H Q I q => h.run pins s σ H Q I (k _ _ _ q)⟩
theorem PA.weak {X : Cx} {e : List Expr} {t t' : TA} (h : PA X e t) (k : ∀ σ H Q, t' σ H Q → t σ H Q) : PA X e t' := ⟨fun pos pins s σ H Q I q => h.run pos pins s σ H Q I (k _ _ _ q)⟩
theorem PS.weak {X : Cx} {e : Stmt} {t t' : TS} (h : PS X e t) (k : ∀ D σ H, t' D σ H → t D σ H) : PS X e t' := ⟨fun pins s σ H D I q => h.run pins s σ H D I (k _ _ _ q)⟩
theorem PSs.weak {X : Cx} {e : List Stmt} {t t' : TS} (h : PSs X e t) (k : ∀ D σ H, t' D σ H → t D σ H) : PSs X e t' := ⟨fun pins s σ H D I q => h.run pins s σ H D I (k _ _ _ q)⟩
section
variable {X : Cx} {G : Hp → Prop} {Γ : Gm} {e f : Expr} {es : List Expr} {d : PyData} {ds xs ys : List PyData} {pos : Pos}
theorem pd_str {x : Str} {j : Nat} : PD X G Γ (.Constant (.str x) j pos) (.str x) := PE.weak pe_str fun σ H Q ⟨_, q⟩ => q _ H (Same.refl H) (.of rfl (.str x))
theorem pd_var (i : Nat) {x : Str} {d : PyData} (hd : Γ[i]? = some (some d) := by rfl) (hN : X.N[i]? = some x := by rfl) (hv : Vis X.env.scope x := by first | exact Or.inl rfl | exact Or.inr (Or.inl rfl) | exact Or.inr (Or.inr rfl)) (hd' : (x == ("__debug__" : Str)) = false := by decide)
    (hcd : (x == ("__classdict__" : Str)) = false := by decide) : PD X G Γ (.Name x pos) d := PE.weak (pv i hN hv hd' hcd) fun σ H Q ⟨E, q⟩ => by
  obtain ⟨v, a, b⟩ := E.at' i d hd
  exact ⟨v, a, q v H (Same.refl H) b⟩
theorem pds_nil : PDs X G Γ [] [] := PA.weak pa_nil fun σ H Q ⟨_, q⟩ => q [] H (Same.refl H) .nil
theorem pds_cons (u : Up G) (h : PD X G Γ e d) (hr : PDs X G Γ es ds) (hs : starEach (e :: es) X.env = (false, eval e X.env) :: starEach es X.env := by rfl) : PDs X G Γ (e :: es) (d :: ds) := PA.weak (pa_cons h hr hs) fun σ H Q ⟨E, q⟩ =>
  ⟨E, fun v H1 S1 hv => ⟨E.mono u S1, fun vs H2 S2 hvs => q _ H2 (S1.trans S2) (.cons ((hv.dv').mono S2) hvs)⟩⟩
theorem pd_tup {k : Nat} (h : PDs X G Γ es ds) (hl : ds.length ≤ 1000 := by first | decide | simp) : PD X G Γ (.Tuple es k pos) (.tuple ds) := PE.weak (pe_tup h) fun σ H Q ⟨E, q⟩ =>
  ⟨E, fun vs H1 S1 hvs => ⟨len_small (by rw [hvs.len]; exact hl), fun p np => q _ _ (S1.trans (up1 np)) (.of rfl (.tup (.inl (.inl upd_same)) (hvs.mono (up1 np))))⟩⟩
theorem pd_lst (h : PDs X G Γ es ds) (hl : ds.length ≤ 1000 := by first | decide | simp) : PD X G Γ (.List es pos) (.list ds) := PE.weak (pe_lst h) fun σ H Q ⟨E, q⟩ =>
  ⟨E, fun vs H1 S1 hvs => ⟨len_small (by rw [hvs.len]; exact hl), fun p np => q _ _ (S1.trans (up1 np)) (.inr ⟨p, vs, ds, rfl, rfl, upd_same, hvs.mono (up1 np)⟩)⟩⟩
theorem pd_cat (u : Up G) (h1 : PD X G Γ e (.tuple xs)) (h2 : PD X G Γ f (.tuple ys)) (hl : xs.length + ys.length ≤ 1000 := by decide) : PD X G Γ (.BinOp e .Add f pos) (.tuple (xs ++ ys)) := PE.weak (pe_op op_catU h1 h2) fun σ H Q ⟨E, q⟩ =>
  ⟨E, fun v H1 S1 hv => ⟨E.mono u S1, fun w H2 S2 hw => by
    obtain ⟨a, vs, rfl, sa, da⟩ := Dv.tupI ((hv.dv rfl).mono S2)
    obtain ⟨b, ws, rfl, sb, db⟩ := Dv.tupI (hw.dv rfl)
    exact ⟨a, b, vs, ws, rfl, rfl, sa, sb, by rw [da.len, db.len]; exact hl, fun p H3 S3 hp => q _ H3 (S1.trans (S2.trans S3)) (.of rfl (.tup hp ((da.mono S3).app (db.mono S3))))⟩⟩⟩
theorem pd_catL (u : Up G) (h1 : PD X G Γ e (.list xs)) (h2 : PD X G Γ f (.list ys)) (hl : xs.length + ys.length ≤ 1000 := by decide) : PD X G Γ (.BinOp e .Add f pos) (.list (xs ++ ys)) := PE.weak (pe_op op_cat h1 h2) fun σ H Q ⟨E, q⟩ =>
  ⟨E, fun v H1 S1 hv => ⟨E.mono u S1, fun w H2 S2 hw => by
    obtain ⟨a, vs, rfl, sa, da⟩ := (hv.mono S2).lst
    obtain ⟨b, ws, rfl, sb, db⟩ := hw.lst
    refine ⟨a, b, vs, ws, rfl, rfl, sa, sb, len_small (by rw [da.len, db.len]; exact hl), fun p np => q _ _ (S1.trans (S2.trans (up1 np))) (.inr ⟨p, _, _, rfl, rfl, upd_same, (da.mono (up1 np)).app (db.mono (up1 np))⟩)⟩⟩⟩
theorem dvRep {K : PySem.W.Frag} {H : Hp} {vs : List V} {ds : List PyData} (h : DvAll K H vs ds) : ∀ n : Nat, DvAll K H (List.replicate n vs).flatten (List.replicate n ds).flatten
  | 0 => .nil
  | n + 1 => by
    rw [List.replicate_succ, List.replicate_succ, List.flatten_cons, List.flatten_cons]
    exact h.app (dvRep h n)
theorem pd_mul {n : Nat} {j : Nat} {p2 : Pos} (h : PD X G Γ e (.tuple xs)) (hx : xs ≠ [] := by decide) (h2 : 2 ≤ n := by decide) (h3 : n ≤ 1000 := by decide) (hl : xs.length ≤ 1000 := by decide) : PD X G Γ (.BinOp e .Mult (.Constant (.int (n : Int)) j p2) pos) (.tuple (List.replicate n xs).flatten) := PE.weak (pe_op op_repT h pe_int) fun σ H Q ⟨E, q⟩ =>
  ⟨E, fun v H1 S1 hv => by
    obtain ⟨a, vs, rfl, sa, da⟩ := Dv.tupI (hv.dv rfl)
    refine ⟨a, _, vs, rfl, rfl, sa, fun e => hx ?_, by omega, by omega, by rw [da.len]; exact hl, fun p np => q _ _ (S1.trans (up1 np)) (.of rfl (.tup (.inl (.inl upd_same)) (dvRep (da.mono (up1 np)) _)))⟩
    subst e
    cases da
    rfl⟩
theorem pd_ix {i : Nat} {j : Nat} {p2 : Pos} {d : PyData} (h : PD X G Γ e (.tuple xs)) (hd : xs[i]? = some d := by rfl) (n : isLst d = false := by rfl) (hs : PlainIx (.Constant (.int (i : Int)) j p2) := by exact fun _ _ => rfl) : PD X G Γ (.Subscript e (.Constant (.int (i : Int)) j p2) pos) d := PE.weak (pe_ix ix_tup h pe_int hs) fun σ H Q ⟨E, q⟩ =>
  ⟨E, fun v H1 S1 hv => by
    obtain ⟨a, vs, rfl, sa, da⟩ := Dv.tupI (hv.dv rfl)
    obtain ⟨w, hw, hwd⟩ := da.at hd
    exact ⟨a, vs, _, w, rfl, rfl, sa, atI_nat hw, q _ H1 S1 (.of n hwd)⟩⟩
theorem pd_ixL {i : Nat} {j : Nat} {p2 : Pos} {d : PyData} (h : PD X G Γ e (.list xs)) (hd : xs[i]? = some d := by rfl) (n : isLst d = false := by rfl) (hs : PlainIx (.Constant (.int (i : Int)) j p2) := by exact fun _ _ => rfl) : PD X G Γ (.Subscript e (.Constant (.int (i : Int)) j p2) pos) d := PE.weak (pe_ix ix_list h pe_int hs) fun σ H Q ⟨E, q⟩ =>
  ⟨E, fun v H1 S1 hv => by
    obtain ⟨a, vs, rfl, sa, da⟩ := hv.lst
    obtain ⟨w, hw, hwd⟩ := da.at hd
    exact ⟨a, vs, _, w, rfl, rfl, .inl (.inl sa), atI_nat hw, q _ H1 S1 (.of n hwd)⟩⟩
theorem pd_addS (u : Up G) {x y : Str} (h1 : PD X G Γ e (.str x)) (h2 : PD X G Γ f (.str y)) (hl : x.length + y.length ≤ 300000) : PD X G Γ (.BinOp e .Add f pos) (.str (x ++ y)) := PE.weak (pe_op op_add_str h1 h2) fun σ H Q ⟨E, q⟩ =>
  ⟨E, fun v H1 S1 hv => ⟨E.mono u S1, fun w H2 S2 hw => by
    have a := hv.dv rfl
    have b := hw.dv rfl
    cases a
    cases b
    exact ⟨x, y, rfl, rfl, len_small' hl, q _ H2 (S1.trans S2) (.of rfl (.str _))⟩⟩⟩
theorem pd_tupleOf {p : Pos} (h : PD X G Γ e (.list xs)) (hg : Gl X "tuple") (hm : X.mg "tuple" = none) (hs : starEach [e] X.env = (false, eval e X.env) :: starEach [] X.env := by rfl) (hpl : (backTo pos (starEach [] X.env)).any (·.1) = false := by rfl) : PD X G Γ (.Call (.Name "tuple" p) [e] [] pos) (.tuple xs) := PE.weak (pe_callTy call_tuple_of hg hm b_tup (pa_cons h pa_nil hs) (he := hs) (hpl := hpl)) fun σ H Q ⟨E, q⟩ =>
  ⟨E, fun v H1 S1 hv => by
    obtain ⟨a, vs, rfl, ha, da⟩ := hv.lst
    exact ⟨a, vs, rfl, .inl ⟨.inl (.inl ha), fun l nl => q _ _ (S1.trans (up1 nl)) (.of rfl (.tup (.inl (.inl upd_same)) (da.mono (up1 nl))))⟩⟩⟩
def doD (w : Str) : PyData := .tuple [.str "do", .str w]
theorem doD_nl : ∀ ws : List Str, noListAll (ws.map doD) = true ∧ PyData.hasDictAll (ws.map doD) = false
  | [] => ⟨rfl, rfl⟩
  | w :: ws => by
    obtain ⟨a, b⟩ := doD_nl ws
    exact ⟨by simp [noListAll, doD, noList, a], by simp [PyData.hasDictAll, doD, PyData.hasDict, b]⟩
theorem dvStr {K : PySem.W.Frag} {H : Hp} : ∀ {ws : List Str} {vs : List V}, DvAll K H vs (ws.map PyData.str) → vs = ws.map V.str
  | [], _, h => by cases h; rfl
  | w :: ws, _, h => by
    cases h with
    | cons a b =>
      cases a
      rw [List.map_cons, dvStr b]
theorem lcDo_read {K : PySem.W.Frag} {x : Str} {i : Nat} {ws : List Str} (hw : ws.length ≤ 900) (hi : i < Γ.length) : ∀ σ H Q, TEd K G Γ (.list (ws.map doD)) σ H Q → tLc (iList K (TEd K G Γ (.list (ws.map PyData.str)))) (gName i) tYes (tTup (tCons (tC (.str "do")) (tCons (tVar i) tNil))) (List.map (fun x => x.2) [(x, i)]) σ H Q := fun σ H Q ⟨E, q⟩ => ⟨E, fun v H1 S1 hv => by
    obtain ⟨a, vs, rfl, ha, da⟩ := hv.lst
    have ev := dvStr da
    subst ev
    refine ⟨a, rfl, ⟨_, .inl (.inl ha)⟩, fun dd nd => ?_⟩
    refine lc_list (K := K) (a := a) (xs := ws.map V.str) (fun i Hd => Same H1 Hd ∧ ∃ ys, Hd dd = some (.lst ys) ∧ DvAll K Hd ys ((ws.take i).map doD)) ⟨up1 nd, [], upd_same, .nil⟩ (fun i Hd _ ⟨s, _⟩ => s.seq (.inl (.inl ha))) ?_ ?_
    · rintro j y Hd hj ⟨Sd, ys, Ld, Ad⟩
      obtain ⟨w, hw2, rfl⟩ : ∃ w, ws[j]? = some w ∧ y = V.str w := by
        rw [List.getElem?_map] at hj
        cases c : ws[j]? with
        | none => rw [c] at hj; cases hj
        | some w => rw [c] at hj; exact ⟨w, rfl, (Option.some.inj hj).symm⟩
      have ly := Ad.len
      have hj2 := (List.getElem?_eq_some_iff.mp hw2).1
      rw [List.length_map, List.length_take] at ly
      have hi2 : i < σ.length := by rw [E.len]; exact hi
      refine ⟨by simp [wipe], ?_⟩
      refine ⟨V.str w, by simp [wipe, hi2], len_small (by simp), fun t nt => ?_⟩
      have U := up1 (o := .tup [V.str "do", V.str w]) nt
      have nl := doD_nl (ws.take j)
      have L2 := U _ _ Ld
      refine ⟨ys, L2, small1000 (by omega), same_at (Sd.trans U) nd, _, upd_same, ?_⟩
      rw [List.take_add_one, hw2, List.map_append]
      refine (dvBAll (p := dd) SameB.at L2 _ _ nl.1 nl.2 (Ad.mono U)).app (.cons ?_ .nil)
      exact dvB (p := dd) SameB.at L2 (doD w) _ rfl rfl (.tup (.inl (.inl upd_same)) (.cons (.str _) (.cons (.str _) .nil)))
    · rintro Hd ⟨Sd, ys, Ld, Ad⟩
      rw [List.length_map, List.take_of_length_le (Nat.le_refl _)] at Ad
      exact q _ _ (S1.trans Sd) (.inr ⟨dd, ys, _, rfl, rfl, Ld, Ad⟩)⟩
theorem pd_lcDo {elt tg : Expr} {scope : Scope} {x : Str} {i : Nat} {ws : List Str} (hc : X.calm = true) (hN : X.N.Nodup) (h : PD X G Γ e (.list (ws.map PyData.str))) (hw : ws.length ≤ 900) (ok : BlkOk X.N X.env.scope scope [(x, i)]) (hi : i < Γ.length)
    (hg : ∀ (s : Shared) (H : Hp) (C : Addr) (cl : List (Str × Addr)) (fp : List Addr), PG (X.blk s H scope (compEnvC scope cl C X.env) fp) tg (gName i))
    (he : ∀ (s : Shared) (H : Hp) (C : Addr) (cl : List (Str × Addr)) (fp : List Addr), PE (X.blk s H scope (compEnvC scope cl C X.env) fp) elt (tTup (tCons (tC (.str "do")) (tCons (tVar i) tNil))))
    (hs : ∀ x, foldedSetIterable e X.env x = pure x := by intro _; rfl) : PD X G Γ (.ListComp elt [⟨tg, e, [], 0⟩] scope pos) (.list (ws.map doD)) :=
  PE.weak (pe_lc (tt := tYes) hc hN (pi_list h) ok hg (fun _ _ _ _ _ => pts_nil) he hs) (lcDo_read hw hi)
end
/-! ### statements -/
def tHo (K : PySem.W.Frag) (G : Hp → Prop) (Γ Γ' : Gm) : TS := fun D σ H => Ev K G Γ σ H ∧ ∀ σ' H', Ev K G Γ' σ' H' → D.nx σ' H'
section
variable {X : Cx} {G : Hp → Prop} {Γ Γ' Γ2 : Gm} {e f : Expr} {st : Stmt} {ss : List Stmt} {d d2 : PyData} {pos p0 p1 : Pos}
theorem ho_nil : PSs X [] (tHo X.K G Γ Γ) := PSs.weak pss_nil fun D σ H ⟨E, q⟩ => q _ _ E
theorem ho_cons (h : PS X st (tHo X.K G Γ Γ')) (h2 : PSs X ss (tHo X.K G Γ' Γ2)) : PSs X (st :: ss) (tHo X.K G Γ Γ2) := PSs.weak (pss_cons h h2) fun D σ H ⟨E, q⟩ => ⟨E, fun σ' H' E' => ⟨E', q⟩⟩
def tRt (K : PySem.W.Frag) (G : Hp → Prop) (Γ : Gm) (R : VK → Prop) : TS := fun D σ H => Ev K G Γ σ H ∧ R D.rt
theorem ho_consR {R : VK → Prop} (h : PS X st (tHo X.K G Γ Γ')) (h2 : PSs X ss (tRt X.K G Γ' R)) : PSs X (st :: ss) (tRt X.K G Γ R) := PSs.weak (pss_cons h h2) fun D σ H ⟨E, q⟩ => ⟨E, fun σ' H' E' => ⟨E', q⟩⟩
theorem ho_ret {R : VK → Prop} (he : PD X G Γ e d) (k : ∀ rt σ H, Ev X.K G Γ σ H → R rt → ∀ v H', Same H H' → Dt X.K H' v d → rt v H') : PSs X [.Return (some e) pos] (tRt X.K G Γ R) := PSs.weak (pss_one (ps_ret he)) fun D σ H ⟨E, q⟩ => ⟨E, fun v H' S hv => k _ _ _ E q v H' S hv⟩
theorem ho_set (u : Up G) {i : Nat} {x : Str} (he : PD X G Γ e d) (hN : X.N.Nodup) (hi : X.N[i]? = some x) (hx : Loc X.env.scope x := by first | exact .inl rfl | exact .inr rfl) (hs : swapsWith e (some (.Name x p0)) pos.line X.env = pure false := by rfl) (hf : X.fn x = true ∨ X.env.scope.names.lookup x = some .local := by first | exact .inl rfl | exact .inr rfl) :
    PS X (.Assign [.Name x p0] e pos) (tHo X.K G Γ (Γ.set i (some d))) := PS.weak (ps_set hN hi hx he hs hf) fun D σ H ⟨E, q⟩ => ⟨E, fun v H1 S1 hv => q _ _ ((E.mono u S1).set hv)⟩
theorem ho_setLcDo (u : Up G) {i0 : Nat} {y : Str} {py spos : Pos} {elt tg : Expr} {scope : Scope} {x : Str} {i : Nat} {ws : List Str} (hc : X.calm = true) (hN : X.N.Nodup) (hy : X.N[i0]? = some y) (hyl : X.env.scope.names.lookup y = some .local)
    (hsw : swapsWith (.ListComp elt [⟨tg, e, [], 0⟩] scope pos) (some (.Name y py)) spos.line X.env = pure true) (h : PD X G Γ e (.list (ws.map PyData.str))) (hw : ws.length ≤ 900) (ok : BlkOk X.N X.env.scope scope [(x, i)]) (hi : i < Γ.length)
    (hg : ∀ (s : Shared) (H : Hp) (C : Addr) (cl : List (Str × Addr)) (fp : List Addr), PG (X.blk s H scope (compEnvC scope cl C X.env) fp) tg (gName i))
    (he : ∀ (s : Shared) (H : Hp) (C : Addr) (cl : List (Str × Addr)) (fp : List Addr), PE (X.blk s H scope (compEnvC scope cl C X.env) fp) elt (tTup (tCons (tC (.str "do")) (tCons (tVar i) tNil))))
    (hs : ∀ x, foldedSetIterable e X.env x = pure x := by intro _; rfl) : PS X (.Assign [.Name y py] (.ListComp elt [⟨tg, e, [], 0⟩] scope pos) spos) (tHo X.K G Γ (Γ.set i0 (some (.list (ws.map doD))))) :=
  PS.weak (ps_setLc (tt := tYes) hc hN hy hyl hsw (pi_list h) ok hg (fun _ _ _ _ _ => pts_nil) he hs) fun D σ H ⟨E, q⟩ => lcDo_read hw hi σ H _ ⟨E, fun v H1 S hv => q _ _ ((E.mono u S).set hv)⟩
theorem ho_par (u : Up G) {i j : Nat} {x y : Str} {px py pt : Pos} {kt k2 pt2} (h1 : PDs X G Γ [e, f] [d, d2]) (n1 : isLst d = false := by rfl) (n2 : isLst d2 = false := by rfl) (hN : X.N.Nodup) (hi : X.N[i]? = some x) (hj : X.N[j]? = some y) (hij : i ≠ j := by decide) (hc : X.calm = true := by rfl)
    (hx : X.env.scope.names.lookup x = some .local := by rfl) (hy : X.env.scope.names.lookup y = some .local := by rfl)
    (hw : swappedStores [.Tuple [.Name x px, .Name y py] kt pt] (.Tuple [e, f] k2 pt2) X.env = pure (some [x, y]) := by rfl)
    (hs : swapsWithSole [.Tuple [.Name x px, .Name y py] kt pt] (.Tuple [e, f] k2 pt2) pos.line X.env = pure false := by rfl) :
    PS X (.Assign [.Tuple [.Name x px, .Name y py] kt pt] (.Tuple [e, f] k2 pt2) pos) (tHo X.K G Γ ((Γ.set i (some d)).set j (some d2))) := PS.weak (ps_par hc hN hi hj hij hx hy h1 hw hs) fun D σ H ⟨E, q⟩ => ⟨E, fun vs H1 S1 hvs => by
  cases hvs with
  | cons a b =>
    cases b with
    | cons b c =>
      cases c
      exact ⟨_, _, rfl, q _ _ (((E.mono u S1).set (.of n1 a)).set (.of n2 b))⟩⟩
theorem ho_par3 (u : Up G) {i j l : Nat} {x y z : Str} {g : Expr} {d3 : PyData} {px py pz pt : Pos} {kt k2 pt2} (h1 : PDs X G Γ [e, f, g] [d, d2, d3]) (n1 : isLst d = false := by rfl) (n2 : isLst d2 = false := by rfl) (n3 : isLst d3 = false := by rfl) (hN : X.N.Nodup) (hi : X.N[i]? = some x) (hj : X.N[j]? = some y) (hl : X.N[l]? = some z) (hij : i ≠ j := by decide) (hil : i ≠ l := by decide) (hjl : j ≠ l := by decide) (hc : X.calm = true := by rfl)
    (hx : X.env.scope.names.lookup x = some .local := by rfl) (hy : X.env.scope.names.lookup y = some .local := by rfl) (hz : X.env.scope.names.lookup z = some .local := by rfl)
    (hw : swappedStores [.Tuple [.Name x px, .Name y py, .Name z pz] kt pt] (.Tuple [e, f, g] k2 pt2) X.env = pure (some [x, y, z]) := by rfl)
    (hs : swapsWithSole [.Tuple [.Name x px, .Name y py, .Name z pz] kt pt] (.Tuple [e, f, g] k2 pt2) pos.line X.env = pure false := by rfl) :
    PS X (.Assign [.Tuple [.Name x px, .Name y py, .Name z pz] kt pt] (.Tuple [e, f, g] k2 pt2) pos) (tHo X.K G Γ (((Γ.set i (some d)).set j (some d2)).set l (some d3))) := PS.weak (ps_par3 hc hN hi hj hl hij hil hjl hx hy hz h1 hw hs) fun D σ H ⟨E, q⟩ => ⟨E, fun vs H1 S1 hvs => by
  cases hvs with
  | cons a b =>
    cases b with
    | cons b c =>
      cases c with
      | cons c c2 =>
        cases c2
        exact ⟨_, _, _, rfl, q _ _ ((((E.mono u S1).set (.of n1 a)).set (.of n2 b)).set (.of n3 c))⟩⟩
/-- a pair that is a constant to the compiler -/
theorem ho_asg2 (u : Up G) {i j : Nat} {x y : Str} {px py pt : Pos} {kt k2 pt2} (h1 : PDs X G Γ [e, f] [d, d2]) (n1 : isLst d = false := by rfl) (n2 : isLst d2 = false := by rfl) (hN : X.N.Nodup) (hi : X.N[i]? = some x) (hj : X.N[j]? = some y) (hc : X.calm = true := by rfl)
    (hx : Loc X.env.scope x := by first | exact .inl rfl | exact .inr rfl) (hy : Loc X.env.scope y := by first | exact .inl rfl | exact .inr rfl) (fx : X.fn x = true ∨ X.env.scope.names.lookup x = some .local := by first | exact .inl rfl | exact .inr rfl) (fy : X.fn y = true ∨ X.env.scope.names.lookup y = some .local := by first | exact .inl rfl | exact .inr rfl)
    (hn : (assignEach [.Name x px, .Name y py] X.env).length = 2 := by rfl) (hst : (assignEach [.Name x px, .Name y py] X.env).findIdx? (·.1) = none := by rfl)
    (hg : PGs X [.Name x px, .Name y py] (gCons (gName i) (gCons (gName j) gNil)))
    (hs : swapsWithSole [.Tuple [.Name x px, .Name y py] kt pt] (.Tuple [e, f] k2 pt2) pos.line X.env = pure false := by rfl) (hw : swappedStores [.Tuple [.Name x px, .Name y py] kt pt] (.Tuple [e, f] k2 pt2) X.env = pure none := by rfl)
    (ha : (assignEach [.Tuple [.Name x px, .Name y py] kt pt] X.env).map (·.2) = [assign (.Tuple [.Name x px, .Name y py] kt pt) X.env] := by rfl) :
    PS X (.Assign [.Tuple [.Name x px, .Name y py] kt pt] (.Tuple [e, f] k2 pt2) pos) (tHo X.K G Γ ((Γ.set i (some d)).set j (some d2))) := PS.weak (ps_asg (pe_tup h1) (pg_tup hc hg hn hst) hs hw ha) fun D σ H ⟨E, q⟩ => ⟨E, fun vs H1 S1 hvs => by
  cases hvs with
  | @cons v1 _ _ _ a b =>
    cases b with
    | @cons v2 _ _ _ b c =>
      cases c
      refine ⟨len_small (by simp), fun t nt => ?_⟩
      have U := up1 (o := .tup [v1, v2]) nt
      refine ⟨t, _, rfl, .inl (.inl upd_same), rfl, _, _, rfl, _, _, rfl, rfl, ?_⟩
      exact q _ _ (((E.mono u (S1.trans U)).set (.of n1 (a.mono U))).set (.of n2 (b.mono U)))⟩
theorem ho_range (ow : PassesOwn (model X.prog X.w) X.A X.env X.xe) {n : Nat} {Γs : Nat → Gm} {k : Nat} {x : Str} {body : List Stmt} {j : Nat} {pr p2 p3 : Pos} (hb : ∀ i, i < n → PSs X body (tHo X.K G ((Γs i).set k none) (Γs (i + 1)))) (hn : n ≤ 1000 := by decide) (hN : X.N.Nodup) (hi : X.N[k]? = some x) (hg : Gl X "range") (hm : X.mg "range" = none) (hc : X.calm = true := by rfl)
    (hx : Loc X.env.scope x := by first | exact .inl rfl | exact .inr rfl) (hf : X.fn x = true ∨ X.env.scope.names.lookup x = some .local := by first | exact .inl rfl | exact .inr rfl) :
    PS X (.For (.Name x p0) (.Call (.Name "range" pr) [.Constant (.int (n : Int)) j p2] [] p3) body [] pos) (tHo X.K G (Γs 0) (Γs n)) := by
  have hb2 : PSs X body (fun D σ H => ∃ i, i < n ∧ tHo X.K G ((Γs i).set k none) (Γs (i + 1)) D σ H) := ⟨fun pins s σ H D I ⟨i, hi, q⟩ => (hb i hi).run pins s σ H D I q⟩
  refine PS.weak (ps_for ow hc (pi_range1 hg hm (pa_cons pe_int pa_nil)) (pg_name (i := k) hN hi hx hf) hb2) fun D σ H ⟨E, q⟩ => ?_
  refine ⟨(n : Int), rfl, by omega, by omega, for_range (lo := 0) (g := gName k) (tb := fun D σ H => ∃ i, i < n ∧ tHo X.K G ((Γs i).set k none) (Γs (i + 1)) D σ H) (D := D) (n := (n : Int).toNat) (fun i σ H => Ev X.K G (Γs i) σ H) E ?_ ?_⟩
  · intro i σ H hi E
    exact ⟨i, by omega, E.drop k _, fun σ' H' E' => E'⟩
  · intro σ H E
    exact q _ _ E
end
end L50
/-! append to a list that the def made -/
namespace L50
open PySem PySem.Spec PyProof.Rows L2 L54
def anyH : Hp → Prop := fun _ => True
theorem upAny : Up anyH := fun _ _ _ _ => trivial
def sameH (H0 : Hp) : Hp → Prop := fun H => Same H0 H
theorem upSame {H0 : Hp} : Up (sameH H0) := fun _ _ a s => Same.trans a s
def flat1 (d : PyData) : Bool := !isLst d && noList d && !d.hasDict
def flatG (i : Nat) (Γ : Gm) : Bool := Γ.zipIdx.all fun p => match p.1 with
  | some d => p.2 == i || flat1 d
  | none => true
theorem flatG_at {i j : Nat} {Γ : Gm} {d : PyData} (h : flatG i Γ = true) (e : Γ[j]? = some (some d)) (n : j ≠ i) : flat1 d = true := by
  have m : (some d, j) ∈ Γ.zipIdx := by
    rw [List.mem_zipIdx_iff_getElem?]
    exact e
  have q := List.all_eq_true.mp h _ m
  simpa [n] using q
theorem flat1_of {d : PyData} (h : flat1 d = true) : isLst d = false ∧ noList d = true ∧ d.hasDict = false := by
  unfold flat1 at h
  simp only [Bool.and_eq_true, Bool.not_eq_true'] at h
  exact ⟨h.1.1, h.1.2, h.2⟩
section
variable {X : Cx} {Γ : Gm} {e o : Expr} {st : Stmt} {d : PyData} {xs : List PyData} {pos p0 p1 : Pos}
theorem ho_append (i : Nat) (hi : Γ[i]? = some (some (.list xs))) (hp : PE X e (tBM X.K "list" rAppend (tVar i) (tCons (TEd X.K anyH Γ d) tNil))) (hl : xs.length ≤ 900) (fG : flatG i Γ = true) (fx : noListAll xs = true) (fy : PyData.hasDictAll xs = false) (fd : flat1 d = true)
    (hs : swapsWith e none pos.line X.env = pure false := by rfl) : PS X (.Expr e pos) (tHo X.K anyH Γ (Γ.set i (some (.list (xs ++ [d]))))) := PS.weak (ps_expr hp hs) fun D σ H ⟨E, q⟩ => by
  have hil : i < Γ.length := (List.getElem?_eq_some_iff.mp hi).1
  obtain ⟨f1, f2, f3⟩ := flat1_of fd
  obtain ⟨v, e1, hv⟩ := E.at' i _ hi
  obtain ⟨a, vs, rfl, ha, da⟩ := hv.lst
  refine ⟨.ref a, e1, .inl ⟨rfl, vs, .inl (.inl ha)⟩, E, fun w H1 S1 hw => ⟨a, vs, w, rfl, rfl, S1 _ _ ha, small1000 (by rw [da.len]; omega), ?_⟩⟩
  have ha1 := S1 _ _ ha
  have B : SameB a H1 (upd H1 a (.lst (vs ++ [w]))) := SameB.at
  refine q σ _ ⟨trivial, by rw [List.length_set, E.len], fun j d' e => ?_⟩
  by_cases c : i = j
  · subst c
    rw [List.getElem?_set_self hil] at e
    cases e
    exact ⟨.ref a, e1, .inr ⟨a, _, _, rfl, rfl, upd_same, (dvBAll B ha1 xs vs fx fy (da.mono S1)).app (.cons (dvB B ha1 d w f2 f3 (hw.dv f1)) .nil)⟩⟩
  · rw [List.getElem?_set_ne c] at e
    obtain ⟨g1, g2, g3⟩ := flat1_of (flatG_at fG e (Ne.symm c))
    obtain ⟨w2, a1, a2⟩ := E.at' j d' e
    exact ⟨w2, a1, .of g1 (dvB B ha1 d' w2 g2 g3 ((a2.mono S1).dv g1))⟩
end
end L50
/-! _law_more_sizes -/
namespace L50
open PySem PySem.Spec PyProof.Rows L2 L54
def aD : PyData := .tuple [.str "do", .str "a"]
def bD : PyData := .tuple [.str "do", .str "b"]
def six : List Str := ["skipa", "askip", "starts", "ends", "do", "longname"]
def bothD : PyData := .tuple [.str "or", bD, aD]
def rowD : Nat → PyData
  | 0 => aD
  | n + 1 => .tuple [.str "rep", rowD n]
def nestD : Nat → PyData
  | 0 => .tuple [.str "rep", aD]
  | n + 1 => .tuple [.str "seq", nestD n, aD]
def tallD : Nat → PyData
  | 0 => aD
  | n + 1 => .tuple [.str "seq", tallD n, aD]
def mo1 : List PyData := [(.tuple [(.str "seq"), (.tuple ([(.str "or")] ++ (six.map doD))), (.tuple [(.str "skip")]), (.tuple [(.str "rep"), (doD "skipa")]), (doD "longname")])]
def mo2 : List PyData := (mo1 ++ [(.tuple [(.str "seq"), aD, (.tuple [(.str "or"), bD, (.tuple [(.str "rep"), (.tuple [(.str "seq"), aD, bD])])])])])
def mo3 : List PyData := (mo2 ++ [(.tuple [(.str "rep"), (.tuple [(.str "seq"), aD, (.tuple [(.str "rep"), bothD])])]), (.tuple [(.str "rep"), (.tuple [(.str "seq"), bothD, (.tuple [(.str "rep"), bothD])])])])
def mo4 : List PyData := (mo3 ++ [(.tuple [(.str "rep"), (.tuple [(.str "or"), (.tuple [(.str "rep"), (.tuple [(.str "seq"), aD, bD])]), bD, (.tuple [(.str "rep"), (.tuple [(.str "seq"), bD, aD])])])])])
def mo5 : List PyData := (mo4 ++ [(.tuple [(.str "or"), (.tuple [(.str "seq"), (.tuple [(.str "or"), bD, (.tuple [(.str "rep"), (.tuple [(.str "seq"), aD, bD])])]), aD]), bD])])
def mo6 : List PyData := (mo5 ++ [(.tuple ([(.str "or")] ++ (List.replicate 59 [(.tuple [(.str "do"), (.str "longname")])]).flatten))])
def moreDs : List PyData := (mo6 ++ [(.tuple [(.str "seq"), rowD 26, rowD 26, bothD]), nestD 28, (.tuple [(.str "rep"), (.tuple ([(.str "seq")] ++ (List.replicate 58 [aD]).flatten))]), (.tuple [(.str "rep"), tallD 29])])
section
variable {P : Program} {w : World} {K : PySem.W.Frag} {mg : Str → Option Value} {base : Heap}
def spMore (K : PySem.W.Frag) : Sp := fun vs H Q _ => ∃ v w, vs = [v, w] ∧ Dv K H v aD ∧ Dv K H w bD ∧ ∀ v' H', Same H H' → Dt K H' v' (.list moreDs) → Q v' H'
abbrev nMo : List Str := ["a", "b", "six", "both", "some", "row", "nest", "tall", "k", "word"]
theorem scMo : FnScope nMo ["a", "b"] (defScope sMore) := ⟨rfl, rfl, rfl, by decide +kernel, rfl, by decide +kernel, by decide +kernel⟩
theorem ok_more {f : Addr} {fd : FuncData} (F : Fun K "_law_more_sizes" "_law_more_sizes" sMore f fd) (T : Bl mg) : FnOk P w K mg base CX0 1 f fd ["a", "b"] (spMore K) := by
  refine F.ok scMo (fun vs H Q E h => ?_) (fun cdv A outer s H vs Q E hr h => ?_)
  · obtain ⟨v, w, rfl, _⟩ := h
    rfl
  · obtain ⟨va, vb, rfl, ha, hb, h⟩ := h
    refine ⟨tRt K (sameH H) [some aD, some bD, none, none, none, none, none, none, none, none] (fun rt => ∀ v' H', Same H H' → Dt K H' v' (.list moreDs) → rt v' H'), ?_, ⟨⟨Same.refl H, rfl, fun i d e => ?_⟩, fun v' H' S hv => h v' H' S hv⟩⟩
    · exact (ho_consR (Γ' := [some (aD), some (bD), some (.list (six.map doD)), none, none, none, none, none, none, none]) (by exact (ho_setLcDo (upSame (H0 := H)) (i0 := 2) (x := "word") (i := 9) (ws := six) rfl scMo.nd rfl rfl (sw_true rfl rfl rfl (by decide +kernel)) (pd_lst (pds_cons (upSame (H0 := H)) pd_str (pds_cons (upSame (H0 := H)) pd_str (pds_cons (upSame (H0 := H)) pd_str (pds_cons (upSame (H0 := H)) pd_str (pds_cons (upSame (H0 := H)) pd_str (pds_cons (upSame (H0 := H)) pd_str pds_nil))))))) (by decide +kernel) (blkOk_by (N := nMo) (sc := defScope sMore) (by decide +kernel)) (by decide) (fun _ _ _ _ _ => pg_name (i := 9) scMo.nd rfl (Or.inl rfl)) (fun _ _ _ _ _ => pe_tup (pa_cons pe_str (pa_cons (pv 9) pa_nil)))))
      (ho_consR (Γ' := [some (aD), some (bD), some (.list (six.map doD)), some (bothD), none, none, none, none, none, none]) (by exact (ho_set (upSame (H0 := H)) (i := 3) (pd_tup (pds_cons (upSame (H0 := H)) pd_str (pds_cons (upSame (H0 := H)) (pd_var 1) (pds_cons (upSame (H0 := H)) (pd_var 0) pds_nil)))) scMo.nd rfl))
      (ho_consR (Γ' := [some (aD), some (bD), some (.list (six.map doD)), some (bothD), some (.list mo1), none, none, none, none, none]) (by exact (ho_set (upSame (H0 := H)) (i := 4) (pd_lst (pds_cons (upSame (H0 := H)) (pd_tup (pds_cons (upSame (H0 := H)) pd_str (pds_cons (upSame (H0 := H)) (pd_cat (upSame (H0 := H)) (pd_tup (pds_cons (upSame (H0 := H)) pd_str pds_nil)) (pd_tupleOf (pd_var 2) rfl T.tup)) (pds_cons (upSame (H0 := H)) (pd_tup (pds_cons (upSame (H0 := H)) pd_str pds_nil)) (pds_cons (upSame (H0 := H)) (pd_tup (pds_cons (upSame (H0 := H)) pd_str (pds_cons (upSame (H0 := H)) (pd_ixL (i := 0) (pd_var 2)) pds_nil))) (pds_cons (upSame (H0 := H)) (pd_ixL (i := 5) (pd_var 2)) pds_nil)))))) pds_nil)) scMo.nd rfl))
      (ho_consR (Γ' := [some (aD), some (bD), some (.list (six.map doD)), some (bothD), some (.list mo2), none, none, none, none, none]) (by exact (ho_set (upSame (H0 := H)) (i := 4) (pd_catL (upSame (H0 := H)) (pd_var 4) (pd_lst (pds_cons (upSame (H0 := H)) (pd_tup (pds_cons (upSame (H0 := H)) pd_str (pds_cons (upSame (H0 := H)) (pd_var 0) (pds_cons (upSame (H0 := H)) (pd_tup (pds_cons (upSame (H0 := H)) pd_str (pds_cons (upSame (H0 := H)) (pd_var 1) (pds_cons (upSame (H0 := H)) (pd_tup (pds_cons (upSame (H0 := H)) pd_str (pds_cons (upSame (H0 := H)) (pd_tup (pds_cons (upSame (H0 := H)) pd_str (pds_cons (upSame (H0 := H)) (pd_var 0) (pds_cons (upSame (H0 := H)) (pd_var 1) pds_nil)))) pds_nil))) pds_nil)))) pds_nil)))) pds_nil))) scMo.nd rfl))
      (ho_consR (Γ' := [some (aD), some (bD), some (.list (six.map doD)), some (bothD), some (.list mo3), none, none, none, none, none]) (by exact (ho_set (upSame (H0 := H)) (i := 4) (pd_catL (upSame (H0 := H)) (pd_var 4) (pd_lst (pds_cons (upSame (H0 := H)) (pd_tup (pds_cons (upSame (H0 := H)) pd_str (pds_cons (upSame (H0 := H)) (pd_tup (pds_cons (upSame (H0 := H)) pd_str (pds_cons (upSame (H0 := H)) (pd_var 0) (pds_cons (upSame (H0 := H)) (pd_tup (pds_cons (upSame (H0 := H)) pd_str (pds_cons (upSame (H0 := H)) (pd_var 3) pds_nil))) pds_nil)))) pds_nil))) (pds_cons (upSame (H0 := H)) (pd_tup (pds_cons (upSame (H0 := H)) pd_str (pds_cons (upSame (H0 := H)) (pd_tup (pds_cons (upSame (H0 := H)) pd_str (pds_cons (upSame (H0 := H)) (pd_var 3) (pds_cons (upSame (H0 := H)) (pd_tup (pds_cons (upSame (H0 := H)) pd_str (pds_cons (upSame (H0 := H)) (pd_var 3) pds_nil))) pds_nil)))) pds_nil))) pds_nil)))) scMo.nd rfl))
      (ho_consR (Γ' := [some (aD), some (bD), some (.list (six.map doD)), some (bothD), some (.list mo4), none, none, none, none, none]) (by exact (ho_set (upSame (H0 := H)) (i := 4) (pd_catL (upSame (H0 := H)) (pd_var 4) (pd_lst (pds_cons (upSame (H0 := H)) (pd_tup (pds_cons (upSame (H0 := H)) pd_str (pds_cons (upSame (H0 := H)) (pd_tup (pds_cons (upSame (H0 := H)) pd_str (pds_cons (upSame (H0 := H)) (pd_tup (pds_cons (upSame (H0 := H)) pd_str (pds_cons (upSame (H0 := H)) (pd_tup (pds_cons (upSame (H0 := H)) pd_str (pds_cons (upSame (H0 := H)) (pd_var 0) (pds_cons (upSame (H0 := H)) (pd_var 1) pds_nil)))) pds_nil))) (pds_cons (upSame (H0 := H)) (pd_var 1) (pds_cons (upSame (H0 := H)) (pd_tup (pds_cons (upSame (H0 := H)) pd_str (pds_cons (upSame (H0 := H)) (pd_tup (pds_cons (upSame (H0 := H)) pd_str (pds_cons (upSame (H0 := H)) (pd_var 1) (pds_cons (upSame (H0 := H)) (pd_var 0) pds_nil)))) pds_nil))) pds_nil))))) pds_nil))) pds_nil))) scMo.nd rfl))
      (ho_consR (Γ' := [some (aD), some (bD), some (.list (six.map doD)), some (bothD), some (.list mo5), none, none, none, none, none]) (by exact (ho_set (upSame (H0 := H)) (i := 4) (pd_catL (upSame (H0 := H)) (pd_var 4) (pd_lst (pds_cons (upSame (H0 := H)) (pd_tup (pds_cons (upSame (H0 := H)) pd_str (pds_cons (upSame (H0 := H)) (pd_tup (pds_cons (upSame (H0 := H)) pd_str (pds_cons (upSame (H0 := H)) (pd_tup (pds_cons (upSame (H0 := H)) pd_str (pds_cons (upSame (H0 := H)) (pd_var 1) (pds_cons (upSame (H0 := H)) (pd_tup (pds_cons (upSame (H0 := H)) pd_str (pds_cons (upSame (H0 := H)) (pd_tup (pds_cons (upSame (H0 := H)) pd_str (pds_cons (upSame (H0 := H)) (pd_var 0) (pds_cons (upSame (H0 := H)) (pd_var 1) pds_nil)))) pds_nil))) pds_nil)))) (pds_cons (upSame (H0 := H)) (pd_var 0) pds_nil)))) (pds_cons (upSame (H0 := H)) (pd_var 1) pds_nil)))) pds_nil))) scMo.nd rfl))
      (ho_consR (Γ' := [some (aD), some (bD), some (.list (six.map doD)), some (bothD), some (.list mo6), none, none, none, none, none]) (by exact (ho_set (upSame (H0 := H)) (i := 4) (pd_catL (upSame (H0 := H)) (pd_var 4) (pd_lst (pds_cons (upSame (H0 := H)) (pd_cat (upSame (H0 := H)) (pd_tup (pds_cons (upSame (H0 := H)) pd_str pds_nil)) (pd_mul (n := 59) (pd_tup (pds_cons (upSame (H0 := H)) (pd_tup (pds_cons (upSame (H0 := H)) pd_str (pds_cons (upSame (H0 := H)) pd_str pds_nil))) pds_nil)))) pds_nil))) scMo.nd rfl))
      (ho_consR (Γ' := [some (aD), some (bD), some (.list (six.map doD)), some (bothD), some (.list mo6), some (rowD 0), some (nestD 0), some (tallD 0), none, none]) (by exact (ho_par3 (upSame (H0 := H)) (i := 5) (j := 6) (l := 7) (pds_cons (upSame (H0 := H)) (pd_var 0) (pds_cons (upSame (H0 := H)) (pd_tup (pds_cons (upSame (H0 := H)) pd_str (pds_cons (upSame (H0 := H)) (pd_var 0) pds_nil))) (pds_cons (upSame (H0 := H)) (pd_var 0) pds_nil))) rfl rfl rfl scMo.nd rfl rfl rfl))
      (ho_consR (Γ' := [some (aD), some (bD), some (.list (six.map doD)), some (bothD), some (.list mo6), some (rowD 26), some (nestD 0), some (tallD 0), none, none]) (by exact (ho_range PassesOwn.never (n := 26) (Γs := fun j => [some (aD), some (bD), some (.list (six.map doD)), some (bothD), some (.list mo6), some (rowD j), some (nestD 0), some (tallD 0), none, none]) (k := 8) (fun j _ => ho_cons (Γ' := [some (aD), some (bD), some (.list (six.map doD)), some (bothD), some (.list mo6), some (rowD (j + 1)), some (nestD 0), some (tallD 0), none, none]) (by exact (ho_set (upSame (H0 := H)) (i := 5) (pd_tup (pds_cons (upSame (H0 := H)) pd_str (pds_cons (upSame (H0 := H)) (pd_var 5) pds_nil))) scMo.nd rfl)) ho_nil) (by decide) scMo.nd rfl rfl T.range))
      (ho_consR (Γ' := [some (aD), some (bD), some (.list (six.map doD)), some (bothD), some (.list mo6), some (rowD 26), some (nestD 28), some (tallD 0), none, none]) (by exact (ho_range PassesOwn.never (n := 28) (Γs := fun j => [some (aD), some (bD), some (.list (six.map doD)), some (bothD), some (.list mo6), some (rowD 26), some (nestD j), some (tallD 0), none, none]) (k := 8) (fun j _ => ho_cons (Γ' := [some (aD), some (bD), some (.list (six.map doD)), some (bothD), some (.list mo6), some (rowD 26), some (nestD (j + 1)), some (tallD 0), none, none]) (by exact (ho_set (upSame (H0 := H)) (i := 6) (pd_tup (pds_cons (upSame (H0 := H)) pd_str (pds_cons (upSame (H0 := H)) (pd_var 6) (pds_cons (upSame (H0 := H)) (pd_var 0) pds_nil)))) scMo.nd rfl)) ho_nil) (by decide) scMo.nd rfl rfl T.range))
      (ho_consR (Γ' := [some (aD), some (bD), some (.list (six.map doD)), some (bothD), some (.list mo6), some (rowD 26), some (nestD 28), some (tallD 29), none, none]) (by exact (ho_range PassesOwn.never (n := 29) (Γs := fun j => [some (aD), some (bD), some (.list (six.map doD)), some (bothD), some (.list mo6), some (rowD 26), some (nestD 28), some (tallD j), none, none]) (k := 8) (fun j _ => ho_cons (Γ' := [some (aD), some (bD), some (.list (six.map doD)), some (bothD), some (.list mo6), some (rowD 26), some (nestD 28), some (tallD (j + 1)), none, none]) (by exact (ho_set (upSame (H0 := H)) (i := 7) (pd_tup (pds_cons (upSame (H0 := H)) pd_str (pds_cons (upSame (H0 := H)) (pd_var 7) (pds_cons (upSame (H0 := H)) (pd_var 0) pds_nil)))) scMo.nd rfl)) ho_nil) (by decide) scMo.nd rfl rfl T.range))
      (ho_ret (d := .list moreDs) (pd_catL (upSame (H0 := H)) (pd_var 4) (pd_lst (pds_cons (upSame (H0 := H)) (pd_tup (pds_cons (upSame (H0 := H)) pd_str (pds_cons (upSame (H0 := H)) (pd_var 5) (pds_cons (upSame (H0 := H)) (pd_var 5) (pds_cons (upSame (H0 := H)) (pd_var 3) pds_nil))))) (pds_cons (upSame (H0 := H)) (pd_var 6) (pds_cons (upSame (H0 := H)) (pd_tup (pds_cons (upSame (H0 := H)) pd_str (pds_cons (upSame (H0 := H)) (pd_cat (upSame (H0 := H)) (pd_tup (pds_cons (upSame (H0 := H)) pd_str pds_nil)) (pd_mul (n := 58) (pd_tup (pds_cons (upSame (H0 := H)) (pd_var 0) pds_nil)))) pds_nil))) (pds_cons (upSame (H0 := H)) (pd_tup (pds_cons (upSame (H0 := H)) pd_str (pds_cons (upSame (H0 := H)) (pd_var 7) pds_nil))) pds_nil)))))) (fun rt σ H1 E k v H2 S hv => k v H2 (Same.trans E.g S) hv))))))))))))))
    · match i, e with
      | 0, e => cases e; exact ⟨va, rfl, .of rfl ha⟩
      | 1, e => cases e; exact ⟨vb, rfl, .of rfl hb⟩
      | 2, e => cases e
      | 3, e => cases e
      | 4, e => cases e
      | 5, e => cases e
      | 6, e => cases e
      | 7, e => cases e
      | 8, e => cases e
      | 9, e => cases e
      | i + 10, e => cases e
end
end L50
/-! _law_sizes_good: more rules -/
namespace L50
open PySem PySem.Spec PyProof.Rows L2 L54
theorem nl_app : ∀ (xs ys : List PyData), noListAll (xs ++ ys) = (noListAll xs && noListAll ys)
  | [], ys => by simp [noListAll]
  | x :: xs, ys => by simp [noListAll, nl_app xs ys, Bool.and_assoc]
theorem hd_app : ∀ (xs ys : List PyData), PyData.hasDictAll (xs ++ ys) = (PyData.hasDictAll xs || PyData.hasDictAll ys)
  | [], ys => by simp [PyData.hasDictAll]
  | x :: xs, ys => by simp [PyData.hasDictAll, hd_app xs ys, Bool.or_assoc]
def letD (c : Nat) : PyData := .tuple [.str "seq", .tuple [.str "do", .str ⟨#[c]⟩], .tuple [.str "rep", .tuple [.str "do", .str ("x" ++ ⟨#[c]⟩)]]]
theorem let_nl : ∀ cs : List Nat, noListAll (cs.map letD) = true ∧ PyData.hasDictAll (cs.map letD) = false
  | [] => ⟨rfl, rfl⟩
  | c :: cs => by
    obtain ⟨a, b⟩ := let_nl cs
    exact ⟨by simp [noListAll, letD, noList, a], by simp [PyData.hasDictAll, letD, PyData.hasDict, b]⟩
theorem Ev.forget {K : PySem.W.Frag} {G : Hp → Prop} {Γ : Gm} {σ : L2.St} {H : Hp} (h : Ev K G Γ σ H) (i : Nat) : Ev K G (Γ.set i none) σ H := ⟨h.g, by rw [List.length_set, h.len], fun j d' e => by
  by_cases c : i = j
  · subst c
    by_cases hl : i < Γ.length
    · rw [List.getElem?_set_self hl] at e
      cases e
    · rw [List.getElem?_eq_none (by rw [List.length_set]; omega)] at e
      cases e
  · rw [List.getElem?_set_ne c] at e
    exact h.at' j d' e⟩
section
variable {X : Cx} {G : Hp → Prop} {Γ Γ' : Gm} {ss : List Stmt} {pos p0 : Pos}
theorem rt_forget {R : VK → Prop} (i : Nat) (h : PSs X ss (tRt X.K G (Γ.set i none) R)) : PSs X ss (tRt X.K G Γ R) := PSs.weak h fun D σ H ⟨E, q⟩ => ⟨E.forget i, q⟩
theorem ho_eq (h : Γ = Γ') : PSs X [] (tHo X.K G Γ Γ') := by
  subst h
  exact ho_nil
theorem ho_text (ow : PassesOwn (model X.prog X.w) X.A X.env X.xe) {z : Str} {Γs : Nat → Gm} {k j : Nat} {x : Str} {body : List Stmt} {p2 : Pos}
    (hb : ∀ i c, i < z.cps.size → z.cps.toList[i]? = some c → PSs X body (tHo X.K G ((Γs i).set k (some (.str ⟨#[c]⟩))) (Γs (i + 1)))) (hN : X.N.Nodup) (hi : X.N[k]? = some x) (hc : X.calm = true := by rfl)
    (hx : Loc X.env.scope x := by first | exact .inl rfl | exact .inr rfl) (hf : X.fn x = true ∨ X.env.scope.names.lookup x = some .local := by first | exact .inl rfl | exact .inr rfl) :
    PS X (.For (.Name x p0) (.Constant (.str z) j p2) body [] pos) (tHo X.K G (Γs 0) (Γs z.cps.size)) := by
  have hb2 : PSs X body (fun D σ H => ∃ i c, i < z.cps.size ∧ z.cps.toList[i]? = some c ∧ tHo X.K G ((Γs i).set k (some (.str ⟨#[c]⟩))) (Γs (i + 1)) D σ H) := ⟨fun pins s σ H D I ⟨i, c, hi, hc, q⟩ => (hb i c hi hc).run pins s σ H D I q⟩
  refine PS.weak (ps_for ow hc (pi_str pe_str) (pg_name (i := k) hN hi hx hf) hb2) fun D σ H ⟨E, q⟩ => ?_
  refine ⟨z, rfl, for_it (walk_str (z := z)) (g := gName k) (tb := fun D σ H => ∃ i c, i < z.cps.size ∧ z.cps.toList[i]? = some c ∧ tHo X.K G ((Γs i).set k (some (.str ⟨#[c]⟩))) (Γs (i + 1)) D σ H) (D := D) (fun i σ H => Ev X.K G (Γs i) σ H) E (fun _ _ _ _ _ => True.intro) ?_ ?_⟩
  · rintro i x σ Hc H0 hi E ⟨rfl, c, hc, rfl⟩
    exact ⟨i, c, hi, by simpa using hc, E.set (.of rfl (.str _)), fun σ' H' E' => E'⟩
  · intro σ H E
    exact q _ _ E
end
def innerD : Nat → PyData
  | 0 => aD
  | n + 1 => .tuple [.str "or", bD, .tuple [.str "seq", innerD n, aD]]
def turnsD : Nat → PyData
  | 0 => aD
  | n + 1 => .tuple [.str "rep", .tuple [.str "seq", turnsD n, .tuple [.str "or", aD, bD]]]
def starsD : Nat → PyData
  | 0 => .tuple [.str "or", aD, bD]
  | n + 1 => .tuple [.str "rep", starsD n]
def lowD : Nat → PyData
  | 0 => aD
  | n + 1 => .tuple [.str "seq", lowD n, aD]
def highD : Nat → PyData
  | 0 => .tuple [.str "rep", aD]
  | n + 1 => .tuple [.str "rep", highD n]
def alpha : Str := "abcdefghijklmnopqrstuvwxyz"
def so1 : List PyData := [.tuple ([.str "or"] ++ six.map doD), .tuple ([.str "seq"] ++ (List.replicate 59 [aD]).flatten)]
def so2 : List PyData := so1 ++ [.tuple ([.str "or"] ++ (List.replicate 19 [.tuple [.str "seq", aD, bD]]).flatten), starsD 38, highD 38, lowD 28]
def so3 : List PyData := so2 ++ [.tuple ([.str "seq"] ++ (List.replicate 19 [.tuple [.str "or", aD, bD]]).flatten), .tuple [.str "rep", .tuple [.str "rep", .tuple [.str "seq", aD, .tuple [.str "rep", bD]]]], innerD 11]
def so4 : List PyData := so3 ++ [.tuple [.str "seq", turnsD 10, .tuple [.str "or", aD, bD]], .tuple [.str "or", .tuple [.str "skip"], aD]]
def so5 : List PyData := so4 ++ [.tuple [.str "or", .tuple [.str "or", aD, bD], .tuple [.str "do", .str "c"]]]
def so6 : List PyData := so5 ++ (alpha.cps.toList.take 26).map letD
def sizesDs : List PyData := so6 ++ moreDs
theorem so5_flat : noListAll so5 = true ∧ PyData.hasDictAll so5 = false ∧ so5.length ≤ 500 := by decide +kernel
def sizeOk (d : PyData) : Bool := isProg d && decide (d.weight ≤ 60000) && decide ((tx d).length ≤ 5000)
theorem sizes_ok : sizesDs.all sizeOk = true := by decide +kernel
theorem sizes_len : sizesDs.length ≤ 900 := by decide +kernel
end L50
/-! _law_sizes_good -/
namespace L50
open PySem PySem.Spec PyProof.Rows L2 L54
theorem let_len (j : Nat) : (so5 ++ (alpha.cps.toList.take j).map letD).length ≤ 900 := by
  have h := so5_flat.2.2
  have h2 : alpha.cps.toList.length = 26 := by decide +kernel
  rw [List.length_append, List.length_map, List.length_take, h2]
  omega
theorem let_flat (j : Nat) : noListAll (so5 ++ (alpha.cps.toList.take j).map letD) = true ∧ PyData.hasDictAll (so5 ++ (alpha.cps.toList.take j).map letD) = false := by
  have h := so5_flat
  have h2 := let_nl (alpha.cps.toList.take j)
  rw [nl_app, hd_app, h.1, h.2.1, h2.1, h2.2]
  exact ⟨rfl, rfl⟩
section
variable {X : Cx} {G : Hp → Prop} {Γ Γ' : Gm} {ss : List Stmt}
theorem rt_eq {R : VK → Prop} (e : Γ = Γ') (h : PSs X ss (tRt X.K G Γ' R)) : PSs X ss (tRt X.K G Γ R) := by
  subst e
  exact h
theorem ho_drop (i : Nat) (h : PSs X ss (tHo X.K G (Γ.set i none) Γ')) : PSs X ss (tHo X.K G Γ Γ') := PSs.weak h fun D σ H ⟨E, q⟩ => ⟨E.forget i, q⟩
end
section
variable {P : Program} {w : World} {K : PySem.W.Frag} {mg : Str → Option Value} {base : Heap}
def spSz : Sp := fun vs _ Q _ => vs = [] ∧ ∀ H', Q (.bl true) H'
abbrev nSz : List Str := ["a", "b", "inner", "turns", "stars", "k", "low", "high", "chosen", "some", "letter", "word", "one"]
theorem scSz : FnScope nSz [] (defScope sSizes) := ⟨rfl, rfl, rfl, by decide +kernel, rfl, by decide +kernel, by decide +kernel⟩
abbrev XS (P : Program) (w : World) (K : PySem.W.Frag) (mg : Str → Option Value) (base : Heap) (f : Addr) (cdv : Value) (A : Around) (outer : List Env) (s : Shared) (H : Hp) (E : XK) : Cx := (cxOf CX0 P w K mg base nSz "_law_sizes_good" (defScope sSizes) f cdv A outer s H E).nox
variable {f : Addr} {cdv : Value} {A : Around} {outer : List Env} {s : Shared} {H : Hp} {E : XK}
theorem pd_more (L : Lw K mg) {Γ : Gm} {px pos : Pos} {e1 e2 : Expr} (GM : FnOk P w K mg base CX0 1 L.nMore.f L.nMore.fd ["a", "b"] (spMore K)) (hr : Room 1 (A.deeper (envOfC "_law_sizes_good" (defScope sSizes) s.heap.objs.size f cdv)))
    (h : PDs (XS P w K mg base f cdv A outer s H E) anyH Γ [e1, e2] [aD, bD]) (he : starEach [e1, e2] (XS P w K mg base f cdv A outer s H E).env = (false, eval e1 (XS P w K mg base f cdv A outer s H E).env) :: starEach [e2] (XS P w K mg base f cdv A outer s H E).env := by rfl) (hpl : (backTo pos (starEach [e2] (XS P w K mg base f cdv A outer s H E).env)).any (·.1) = false := by rfl) :
    PD (XS P w K mg base f cdv A outer s H E) anyH Γ (.Call (.Name "_law_more_sizes" px) [e1, e2] [] pos) (.list moreDs) := PE.weak (pe_call GM hr rfl L.nMore.m L.nMore.F.kp L.nMore.b .nil pass0 h (he := he) (hpl := hpl)) fun σ H Q ⟨E, q⟩ => ⟨E, fun vs H1 S1 hvs => by
  cases hvs with
  | cons a b =>
    cases b with
    | cons b c =>
      cases c
      exact ⟨_, _, rfl, a, b, fun v' H2 S2 hv => q v' H2 (S1.trans S2) hv⟩⟩
theorem sz_end (L : Lw K mg) (hr : Room 186 (A.deeper (envOfC "_law_sizes_good" (defScope sSizes) s.heap.objs.size f cdv))) :
    PSs (XS P w K mg base f cdv A outer s H E) ((defBody sSizes).drop 14) (tRt K anyH [some aD, some bD, none, none, none, none, none, none, none, some (.list sizesDs), none, none, none] (fun rt => ∀ H', rt (.bl true) H')) := by
  have hu0 := hr.units
  refine PSs.weak (pss_one (ps_ret (pe_callB (cr_all rfl) rfl L.T.all b_all (pa_cons
      (pe_lc (own := [("one", 12)]) (g := gName 12) (tt := tYes) rfl scSz.nd (pi_list (pv 9)) (blkOk_by (N := nSz) (sc := defScope sSizes) (by decide +kernel)) (fun _ _ _ _ _ => pg_name (i := 12) scSz.nd rfl (Or.inl rfl)) (fun _ _ _ _ _ => pts_nil)
        (fun _ _ _ _ _ => pe_and (pe_cmpR op_eq (pe_call L.write (hr.mono (by decide)) rfl L.nWr.m L.nWr.F.kp L.nWr.b .nil pass0 (pa_cons (pv 12) pa_nil)) (pe_call L.ltext (hr.mono (by decide)) rfl L.nLt.m L.nLt.F.kp L.nLt.b .nil pass0 (pa_cons (pv 12) pa_nil)) (nomark _))
          (pe_one (pe_cmpR (r := rEqD K) (by exact op_eqD hu0) (pe_call L.read (hr.mono (by decide)) rfl L.nRead.m L.nRead.F.kp L.nRead.b .nil passR (pa_cons (pe_call L.ltext (hr.mono (by decide)) rfl L.nLt.m L.nLt.F.kp L.nLt.b .nil pass0 (pa_cons (pv 12) pa_nil)) pa_nil)) (pv 12) (nomark _)))))
      pa_nil)))) ?_
  rintro D σ H1 ⟨E1, q⟩
  obtain ⟨v, e1, hv⟩ := E1.at' 9 _ rfl
  obtain ⟨a, vs, rfl, ha, da⟩ := hv.lst
  have hlen : 12 < σ.length := by rw [E1.len]; decide
  refine ⟨.ref a, e1, a, rfl, ⟨_, .inl (.inl ha)⟩, fun dd nd => ?_⟩
  refine lc_list (K := K) (a := a) (xs := vs) (fun i Hd => Same H1 Hd ∧ Hd dd = some (.lst ((List.replicate i true).map V.bl))) ⟨up1 nd, upd_same⟩ (fun i Hd _ ⟨s, _⟩ => s.seq (.inl (.inl ha))) ?_ ?_
  · rintro i y Hd hi ⟨Sd, Ld⟩
    obtain ⟨e, he, hv⟩ := da.get hi
    have ok := List.all_eq_true.mp sizes_ok e (List.mem_of_getElem? he)
    unfold sizeOk at ok
    simp only [Bool.and_eq_true, decide_eq_true_eq] at ok
    obtain ⟨⟨hp, hw⟩, ht⟩ := ok
    have hv1 := hv.mono Sd
    have pr := prog_pr hp hw
    refine ⟨by simp [wipe], ?_⟩
    have look : ∀ z : V, ((wipe σ [12]).set 12 (some z))[12]? = some (some z) := fun z => by simp [wipe, hlen]
    refine ⟨y, look y, y, e, rfl, hv1, hw, hp, fun H2 S2 => ?_⟩
    refine ⟨y, look y, y, e, rfl, hv1.mono S2, pr, fun H3 S3 => ?_⟩
    refine ⟨rfl, _, rfl, ?_⟩
    refine iT (by simp) ?_
    refine ⟨y, look y, y, e, rfl, hv1.mono (S2.trans S3), pr, fun H4 S4 => ?_⟩
    refine ⟨.str (toS (tx e)), .str (toS (tx e)), rfl, .str _, fun x ex => by cases ex; rw [toS_len]; exact ht, fun p hp2 e2 v' H5 S5 hv' hw' => ?_, fun nt => absurd rfl (nt e hp)⟩
    have e3 : e = p := by
      injection e2 with e2
      exact prog_one hp hp2 e2
    subst e3
    have sh := prog_shaped hp
    have S25 := S2.trans (S3.trans (S4.trans S5))
    refine ⟨y, look y, e, e, dvdp e _ (prog_flat hp).hd hv', dvdp e _ (prog_flat hp).hd (hv1.mono S25), sh, sh, ?_⟩
    rw [SeqAt.eqv_refl _ (SeqAt.canLay_of_shaped sh)]
    have hi' : i < vs.length := (List.getElem?_eq_some_iff.mp hi).1
    have sl := sizes_len
    rw [da.len] at hi'
    refine ⟨_, S25 _ _ Ld, small1000 (by rw [List.length_map, List.length_replicate]; omega), same_at (Sd.trans S25) nd, ?_⟩
    rw [upd_same, List.replicate_succ', List.map_append]
    rfl
  · rintro Hd ⟨Sd, Ld⟩
    refine ⟨dd, List.replicate vs.length true, rfl, .inl (.inl Ld), ?_⟩
    have e1 : (List.replicate vs.length true).all id = true := by simp
    rw [e1]
    exact q _
end
end L50
namespace L50
open PySem PySem.Spec PyProof.Rows L2 L54
section
variable {P : Program} {w : World} {K : PySem.W.Frag} {mg : Str → Option Value} {base : Heap}
theorem ok_sizes (L : Lw K mg) (GM : FnOk P w K mg base CX0 1 L.nMore.f L.nMore.fd ["a", "b"] (spMore K)) : FnOk P w K mg base CX0 187 L.nSz.f L.nSz.fd [] spSz := by
  refine L.nSz.F.ok scSz (fun vs H Q E h => ?_) (fun cdv A outer s H vs Q E hr h => ?_)
  · rw [h.1]; rfl
  · obtain ⟨rfl, h⟩ := h
    have T := L.T
    refine ⟨tRt K anyH [none, none, none, none, none, none, none, none, none, none, none, none, none] (fun rt => ∀ H', rt (.bl true) H'), ?_, ⟨⟨trivial, rfl, fun i d e => ?_⟩, h⟩⟩
    · exact (ho_consR (Γ' := [some (aD), some (bD), none, none, none, none, none, none, none, none, none, none, none]) (by exact (ho_asg2 upAny (i := 0) (j := 1) (pds_cons upAny (pd_tup (pds_cons upAny pd_str (pds_cons upAny pd_str pds_nil))) (pds_cons upAny (pd_tup (pds_cons upAny pd_str (pds_cons upAny pd_str pds_nil))) pds_nil)) rfl rfl scSz.nd rfl rfl (hg := pgs_cons (pg_name scSz.nd rfl (Or.inl rfl)) (pgs_cons (pg_name scSz.nd rfl (Or.inl rfl)) pgs_nil))))
      (ho_consR (Γ' := [some (aD), some (bD), some (innerD 0), some (turnsD 0), some (starsD 0), none, none, none, none, none, none, none, none]) (by exact (ho_par3 upAny (i := 2) (j := 3) (l := 4) (pds_cons upAny (pd_var 0) (pds_cons upAny (pd_var 0) (pds_cons upAny (pd_tup (pds_cons upAny pd_str (pds_cons upAny (pd_var 0) (pds_cons upAny (pd_var 1) pds_nil)))) pds_nil))) rfl rfl rfl scSz.nd rfl rfl rfl))
      (ho_consR (Γ' := [some (aD), some (bD), some (innerD 11), some (turnsD 11), some (starsD 0), none, none, none, none, none, none, none, none]) (by exact (ho_range PassesOwn.never (n := 11) (Γs := fun j => [some (aD), some (bD), some (innerD j), some (turnsD j), some (starsD 0), none, none, none, none, none, none, none, none]) (k := 5) (fun j _ => ho_cons (Γ' := [some (aD), some (bD), some (innerD (j + 1)), some (turnsD (j + 1)), some (starsD 0), none, none, none, none, none, none, none, none]) (by exact (ho_par upAny (i := 2) (j := 3) (pds_cons upAny (pd_tup (pds_cons upAny pd_str (pds_cons upAny (pd_var 1) (pds_cons upAny (pd_tup (pds_cons upAny pd_str (pds_cons upAny (pd_var 2) (pds_cons upAny (pd_var 0) pds_nil)))) pds_nil)))) (pds_cons upAny (pd_tup (pds_cons upAny pd_str (pds_cons upAny (pd_tup (pds_cons upAny pd_str (pds_cons upAny (pd_var 3) (pds_cons upAny (pd_tup (pds_cons upAny pd_str (pds_cons upAny (pd_var 0) (pds_cons upAny (pd_var 1) pds_nil)))) pds_nil)))) pds_nil))) pds_nil)) rfl rfl scSz.nd rfl rfl)) ho_nil) (by decide) scSz.nd rfl rfl T.range))
      (ho_consR (Γ' := [some (aD), some (bD), some (innerD 11), some (turnsD 11), some (starsD 0), none, some (lowD 0), some (highD 0), none, none, none, none, none]) (by exact (ho_par upAny (i := 6) (j := 7) (pds_cons upAny (pd_var 0) (pds_cons upAny (pd_tup (pds_cons upAny pd_str (pds_cons upAny (pd_var 0) pds_nil))) pds_nil)) rfl rfl scSz.nd rfl rfl))
      (ho_consR (Γ' := [some (aD), some (bD), some (innerD 11), some (turnsD 11), some (starsD 0), none, some (lowD 28), some (highD 0), none, none, none, none, none]) (by exact (ho_range PassesOwn.never (n := 28) (Γs := fun j => [some (aD), some (bD), some (innerD 11), some (turnsD 11), some (starsD 0), none, some (lowD j), some (highD 0), none, none, none, none, none]) (k := 5) (fun j _ => ho_cons (Γ' := [some (aD), some (bD), some (innerD 11), some (turnsD 11), some (starsD 0), none, some (lowD (j + 1)), some (highD 0), none, none, none, none, none]) (by exact (ho_set upAny (i := 6) (pd_tup (pds_cons upAny pd_str (pds_cons upAny (pd_var 6) (pds_cons upAny (pd_var 0) pds_nil)))) scSz.nd rfl)) ho_nil) (by decide) scSz.nd rfl rfl T.range))
      (ho_consR (Γ' := [some (aD), some (bD), some (innerD 11), some (turnsD 11), some (starsD 38), none, some (lowD 28), some (highD 38), none, none, none, none, none]) (by exact (ho_range PassesOwn.never (n := 38) (Γs := fun j => [some (aD), some (bD), some (innerD 11), some (turnsD 11), some (starsD j), none, some (lowD 28), some (highD j), none, none, none, none, none]) (k := 5) (fun j _ => ho_cons (Γ' := [some (aD), some (bD), some (innerD 11), some (turnsD 11), some (starsD (j + 1)), none, some (lowD 28), some (highD (j + 1)), none, none, none, none, none]) (by exact (ho_par upAny (i := 4) (j := 7) (pds_cons upAny (pd_tup (pds_cons upAny pd_str (pds_cons upAny (pd_var 4) pds_nil))) (pds_cons upAny (pd_tup (pds_cons upAny pd_str (pds_cons upAny (pd_var 7) pds_nil))) pds_nil)) rfl rfl scSz.nd rfl rfl)) ho_nil) (by decide) scSz.nd rfl rfl T.range))
      (ho_consR (Γ' := [some (aD), some (bD), some (innerD 11), some (turnsD 11), some (starsD 38), none, some (lowD 28), some (highD 38), some (.list (six.map PyData.str)), none, none, none, none]) (by exact (ho_set upAny (i := 8) (pd_lst (pds_cons upAny pd_str (pds_cons upAny pd_str (pds_cons upAny pd_str (pds_cons upAny pd_str (pds_cons upAny pd_str (pds_cons upAny pd_str pds_nil))))))) scSz.nd rfl))
      (ho_consR (Γ' := [some (aD), some (bD), some (innerD 11), some (turnsD 11), some (starsD 38), none, some (lowD 28), some (highD 38), some (.list (six.map PyData.str)), some (.list so1), none, none, none]) (by exact (ho_set upAny (i := 9) (pd_lst (pds_cons upAny (pd_cat upAny (pd_tup (pds_cons upAny pd_str pds_nil)) (pd_tupleOf (pd_lcDo (x := "word") (i := 11) (ws := six) rfl scSz.nd (pd_var 8) (by decide +kernel) (blkOk_by (N := nSz) (sc := defScope sSizes) (by decide +kernel)) (by decide) (fun _ _ _ _ _ => pg_name (i := 11) scSz.nd rfl (Or.inl rfl)) (fun _ _ _ _ _ => pe_tup (pa_cons pe_str (pa_cons (pv 11) pa_nil)))) rfl T.tup)) (pds_cons upAny (pd_cat upAny (pd_tup (pds_cons upAny pd_str pds_nil)) (pd_mul (n := 59) (pd_tup (pds_cons upAny (pd_var 0) pds_nil)))) pds_nil))) scSz.nd rfl))
      (ho_consR (Γ' := [some (aD), some (bD), some (innerD 11), some (turnsD 11), some (starsD 38), none, some (lowD 28), some (highD 38), some (.list (six.map PyData.str)), some (.list so2), none, none, none]) (by exact (ho_set upAny (i := 9) (pd_catL upAny (pd_var 9) (pd_lst (pds_cons upAny (pd_cat upAny (pd_tup (pds_cons upAny pd_str pds_nil)) (pd_mul (n := 19) (pd_tup (pds_cons upAny (pd_tup (pds_cons upAny pd_str (pds_cons upAny (pd_var 0) (pds_cons upAny (pd_var 1) pds_nil)))) pds_nil)))) (pds_cons upAny (pd_var 4) (pds_cons upAny (pd_var 7) (pds_cons upAny (pd_var 6) pds_nil)))))) scSz.nd rfl))
      (ho_consR (Γ' := [some (aD), some (bD), some (innerD 11), some (turnsD 11), some (starsD 38), none, some (lowD 28), some (highD 38), some (.list (six.map PyData.str)), some (.list so3), none, none, none]) (by exact (ho_set upAny (i := 9) (pd_catL upAny (pd_var 9) (pd_lst (pds_cons upAny (pd_cat upAny (pd_tup (pds_cons upAny pd_str pds_nil)) (pd_mul (n := 19) (pd_tup (pds_cons upAny (pd_tup (pds_cons upAny pd_str (pds_cons upAny (pd_var 0) (pds_cons upAny (pd_var 1) pds_nil)))) pds_nil)))) (pds_cons upAny (pd_tup (pds_cons upAny pd_str (pds_cons upAny (pd_tup (pds_cons upAny pd_str (pds_cons upAny (pd_tup (pds_cons upAny pd_str (pds_cons upAny (pd_var 0) (pds_cons upAny (pd_tup (pds_cons upAny pd_str (pds_cons upAny (pd_var 1) pds_nil))) pds_nil)))) pds_nil))) pds_nil))) (pds_cons upAny (pd_var 2) pds_nil))))) scSz.nd rfl))
      (ho_consR (Γ' := [some (aD), some (bD), some (innerD 11), some (turnsD 11), some (starsD 38), none, some (lowD 28), some (highD 38), some (.list (six.map PyData.str)), some (.list so4), none, none, none]) (by exact (ho_set upAny (i := 9) (pd_catL upAny (pd_var 9) (pd_lst (pds_cons upAny (pd_ix (i := 1) (pd_var 3)) (pds_cons upAny (pd_tup (pds_cons upAny pd_str (pds_cons upAny (pd_tup (pds_cons upAny pd_str pds_nil)) (pds_cons upAny (pd_var 0) pds_nil)))) pds_nil)))) scSz.nd rfl))
      (rt_forget 2
      (rt_forget 3
      (rt_forget 4
      (rt_forget 6
      (rt_forget 7
      (rt_forget 8
      (ho_consR (Γ' := [some (aD), some (bD), none, none, none, none, none, none, none, some (.list so5), none, none, none]) (by exact (ho_append 9 rfl (pe_bm PySem.F.plainAttrs_list PySem.F.slot_list_append PySem.F.type_list_append mt_append (pv 9) (pa_cons (pd_tup (pds_cons upAny pd_str (pds_cons upAny (pd_tup (pds_cons upAny pd_str (pds_cons upAny (pd_var 0) (pds_cons upAny (pd_var 1) pds_nil)))) (pds_cons upAny (pd_tup (pds_cons upAny pd_str (pds_cons upAny pd_str pds_nil))) pds_nil)))) pa_nil)) (by decide +kernel) (by decide +kernel) (by decide +kernel) (by decide +kernel) (by decide +kernel)))
      (rt_eq (Γ' := [some aD, some bD, none, none, none, none, none, none, none, some (.list (so5 ++ (alpha.cps.toList.take 0).map letD)), none, none, none]) (by rw [List.take_zero, List.map_nil, List.append_nil])
      (ho_consR (Γ' := [some aD, some bD, none, none, none, none, none, none, none, some (.list (so5 ++ (alpha.cps.toList.take alpha.cps.size).map letD)), none, none, none]) (by exact (ho_text PassesOwn.never (z := alpha) (Γs := fun j => [some aD, some bD, none, none, none, none, none, none, none, some (.list (so5 ++ (alpha.cps.toList.take j).map letD)), none, none, none]) (k := 10) (fun j c hj hc => ho_cons (by exact (ho_append 9 (xs := so5 ++ (alpha.cps.toList.take j).map letD) (d := letD c) rfl (pe_bm PySem.F.plainAttrs_list PySem.F.slot_list_append PySem.F.type_list_append mt_append (pv 9) (pa_cons (pd_tup (pds_cons upAny pd_str (pds_cons upAny (pd_tup (pds_cons upAny pd_str (pds_cons upAny (pd_var 10) pds_nil))) (pds_cons upAny (pd_tup (pds_cons upAny pd_str (pds_cons upAny (pd_tup (pds_cons upAny pd_str (pds_cons upAny (pd_addS upAny (y := ⟨#[c]⟩) pd_str (pd_var 10) (by show 1 + 1 ≤ 300000; decide)) pds_nil))) pds_nil))) pds_nil)))) pa_nil)) (let_len j) rfl (let_flat j).1 (let_flat j).2 rfl)) (by
        refine ho_drop 10 (ho_eq ?_)
        rw [List.take_add_one, hc, List.map_append, ← List.append_assoc]
        rfl)) scSz.nd rfl))
      (rt_eq (Γ' := [some aD, some bD, none, none, none, none, none, none, none, some (.list so6), none, none, none]) (by rw [show alpha.cps.size = 26 by decide +kernel]; rfl)
      (ho_consR (Γ' := [some aD, some bD, none, none, none, none, none, none, none, some (.list sizesDs), none, none, none]) (by exact (ho_set upAny (i := 9) (pd_catL upAny (pd_var 9) (pd_more L GM (hr.mono (by decide)) (pds_cons upAny (pd_var 0) (pds_cons upAny (pd_var 1) pds_nil))) (by decide +kernel)) scSz.nd rfl))
      (sz_end L hr)))))))))))))))))))))))
    · match i, e with
      | 0, e => cases e
      | 1, e => cases e
      | 2, e => cases e
      | 3, e => cases e
      | 4, e => cases e
      | 5, e => cases e
      | 6, e => cases e
      | 7, e => cases e
      | 8, e => cases e
      | 9, e => cases e
      | 10, e => cases e
      | 11, e => cases e
      | 12, e => cases e
      | i + 13, e => cases e
end
end L50
/-! list(text), text * n to the letter -/
namespace PySem
section
variable {prog : Program} {w : World} {A : Around} {E : Value → Shared → Prop} {s : Shared}
theorem lst_str_init {R : Result → Shared → Prop} (hh : A.handled = none) (x : Str) (t : Tok) (S : Addr) (hn : x.cps.size ≤ sizeLine) (hS : s.heap.get? S = some { cls := .type "list", data := .seq #[] })
    (hR : ∀ s' acc' c', (∀ b o, b ≠ S → s.heap.get? b = some o → s'.heap.get? b = some o) → s'.gens = s.gens → s'.drawn = s.drawn → s'.os = s.os → s'.heap.get? S = some { cls := .type "list", dict := none, data := .seq acc' c', slots := #[] } → ItemsOf (SignAt x) acc' x.cps.size → R (.ok (.ret .none)) s') :
    wpAny (model prog w) A.in1 (Builtin.«list.__init__» ⟨[.ref S, .str x t], []⟩)
      (fun fin s' => match fin with | .done f => R (.ok f) s' | .again c' => c'.quiet = true ∧ codeAny (model prog w) A c' R s') (fun e s' => R (.error e) s') s := by
  show wpAny _ _ (do let old ← Builtin.List.listItems (.ref S); Builtin.List.listUpdate (.ref S) (fun _ => #[]); letGo old.toList.reverse; Builtin.List.listExtendWith (.ref S) (.str x t) .none) _ _ s
  refine wpAny_bind ?_
  unfold Builtin.List.listItems
  refine wpAny_bind (wpAny_seqItems hS rfl (wpAny_pure ?_))
  show wpAny _ _ (updateSeq S (fun _ => #[]) >>= fun _ => letGo (#[] : Array Value).toList.reverse >>= fun _ => Builtin.List.listExtendWith (.ref S) (.str x t) .none) _ _ s
  refine wpAny_bind (wpAny_updateSeq hS rfl ?_)
  have hS₂ := Heap.get?_update_self (Obj.mapSeq (fun _ => (#[] : Array Value))) hS rfl
  have oth : ∀ b o, b ≠ S → s.heap.get? b = some o → (s.heap.update S (Obj.mapSeq (fun _ => (#[] : Array Value)))).get? b = some o :=
    fun b o hb e => (Heap.get?_update_other _ _ (Ne.symm hb)).trans e
  refine wpAny_bind (wpAny_letGo ?_)
  unfold Builtin.List.listExtendWith
  refine wpAny_bind (wpAny_typeOf (T := "str") (v := .str x t) rfl ?_)
  have h1 : Builtin.List.listSameRef (.ref S) (.str x t) = false := rfl
  have h2 : (Value.type "str" == Value.type "list") = false := by decide
  have h3 : (Value.type "str" == Value.type "tuple") = false := by decide
  simp only [h1, h2, h3, Bool.or_false, Bool.false_eq_true, if_false]
  refine wpAny_bind (wpAny_pyIter_str fun o St W hst => ?_)
  refine wpAny_bind (wpAny_holding ?_)
  unfold Builtin.List.listLengthHint
  refine wpAny_bind (wpAny_specialOf (T := "str") (v := .str x t) rfl F.str_len ?_)
  wp_delta
  refine wpAny_bind (wpAny_isInstance (T := "str") (v := .str x t) (b := true) rfl (by rw [isSubtype_type]; kernel_rfl) ?_)
  show wpAny _ A.in1 (typeOf (Value.str x t) >>= _) _ _ _
  refine wpAny_bind (wpAny_typeOf (T := "str") (v := .str x t) rfl ?_)
  refine wpAny_pure ?_
  rw [if_neg (by decide)]
  generalize hH : s.heap.update S (Obj.mapSeq (fun _ => (#[] : Array Value))) = H at W hst hS₂ oth ⊢
  have hSlt := Heap.lt_size hS₂
  have hSf : S ∉ [H.objs.size] := fun hm => by rw [List.mem_singleton.mp hm] at hSlt; exact absurd hSlt (Nat.lt_irrefl _)
  have hS3 := Heap.get?_push_of_some o hS₂
  refine wpAny_pure ⟨plainId_quiet F.plain_extend_loop _, codeAny_extend_loopS (W A.in1 hh).toS hn _ hSf _ x.cps.size 0 _ _ _ rfl (Nat.zero_le _) hst hS3 (ItemsOf.nil _) fun s' acc' c' hm hS' hacc => ?_⟩
  refine hR s' acc' c' (fun b ob hb e => hm.heap b ob (fun hmem => ?_) (Heap.get?_push_of_some _ (oth b ob hb e))) hm.gens hm.drawn hm.os hS' hacc
  have hlt := Heap.lt_size (oth b ob hb e)
  rcases List.mem_cons.mp hmem with h | h
  · exact hb h
  · rw [List.mem_singleton.mp h] at hlt
    exact absurd hlt (Nat.lt_irrefl _)
theorem call_lst_str {Q : Value → Shared → Prop} (hh : A.handled = none) (x : Str) (t : Tok) (hn : x.cps.size ≤ sizeLine)
    (hQ : ∀ s' acc' c', (∀ b o, s.heap.get? b = some o → s'.heap.get? b = some o) → s'.gens = s.gens → s'.drawn = s.drawn → s'.os = s.os → s'.heap.get? s.heap.objs.size = some { cls := .type "list", dict := none, data := .seq acc' c', slots := #[] } → ItemsOf (SignAt x) acc' x.cps.size → Q (.ref s.heap.objs.size) s') :
    wpAny (model prog w) A (call (.type "list") [.str x t]) Q E s := by
  refine callType_codes (Q₁ := fun obj s₁ => obj = .ref s.heap.objs.size ∧ s₁ = { s with heap := s.heap.push { cls := .type "list", data := .seq #[] } }) PySem.F.called_list (PySem.F.typeCall_list_1 _) PySem.F.entry_list_init
    (code_list_new _ ⟨rfl, rfl⟩) fun obj s₁ h₁ => ?_
  obtain ⟨rfl, rfl⟩ := h₁
  have hS : (s.heap.push { cls := .type "list", data := .seq #[] }).get? s.heap.objs.size = some { cls := .type "list", data := .seq #[] } := Heap.get?_push_size _ rfl
  refine ⟨⟨_, hS, rfl⟩, PySem.F.args_list_init_2 _ _, lst_str_init (A := A.in1) hh x t _ hn hS fun s' acc' c' hk g d o hS' hacc => ?_⟩
  exact ⟨rfl, hQ s' acc' c' (fun b o e => hk b o (Nat.ne_of_lt (Heap.lt_size e)) (Heap.get?_push_of_some _ e)) g d o hS' hacc⟩
end
end PySem
/-! list(text), text * n to the letter -/
namespace L50
open PySem PySem.Spec PyProof.Rows L2 L54
section
variable {X : Cx}
def rLstS : List V → Hp → VK → Prop := fun xs H Q => ∃ z : Str, xs = [.str z] ∧ z.length ≤ 1000 ∧ ∀ l, H l = none → Q (.ref l) (upd H l (.lst (z.cps.toList.map fun c => V.str ⟨#[c]⟩)))
theorem call_listS (hc : X.calm = true) : CallR X (.type "list") rLstS := by
  intro pins s σ H xs us Q I r h
  obtain ⟨z, rfl, hz, q⟩ := h
  obtain ⟨u, rfl, rx⟩ := vals1 r
  obtain ⟨t, rfl⟩ := rx
  have hzz : z.cps.size ≤ sizeLine := len_small hz
  refine PySem.call_lst_str (I.ok.hd hc) z t hzz fun s' acc' c' hk g d o hS' hacc => ?_
  have e : s' = { s with heap := s'.heap, toks := s'.toks } := by
    cases s'
    cases s
    simp only at g d o
    subst g
    subst d
    subst o
    rfl
  rw [e]
  refine ⟨.ref s.heap.objs.size, upd H s.heap.objs.size (.lst (z.cps.toList.map fun c => V.str ⟨#[c]⟩)), I.laid hk (Nat.le_refl _) (show ObjOk X.prog X.w _ _ _ (.lst (z.cps.toList.map fun c => V.str ⟨#[c]⟩)) from ⟨?_, acc'.toList, c', ?_, ?_⟩), rfl, q _ (I.hok.fresh (Nat.le_refl _))⟩
  · rw [List.length_map]; simpa using hzz
  · have el : acc'.toList.length = acc'.size := by simp
    refine vals_of_at (by rw [List.length_map, el, hacc.1]; simp) fun j x w h1 h2 => ?_
    have := hacc.2 j w (by rw [← Array.getElem?_toList]; exact h2)
    rw [List.getElem?_map] at h1
    obtain ⟨c, u, hc1, rfl⟩ := this
    have hc2 : z.cps.toList[j]? = some c := by simpa using hc1
    rw [hc2] at h1
    cases h1
    exact ⟨u, rfl⟩
  · rw [Array.toArray_toList]; exact hS'
def repL (z : Str) (n : Nat) : List Nat := (List.replicate n (cpl z)).flatten
def rRepS : R2 := fun x y H Q => ∃ (z : Str) (n : Int), x = .str z ∧ y = .int n ∧ 2 ≤ n ∧ n ≤ 5000 ∧ 1 ≤ z.length ∧ z.length ≤ 1000 ∧ Q (.str (toS (repL z n.toNat))) H
theorem fold_repL (z : Array Nat) : ∀ (m : Nat) (acc : Array Nat), ((List.replicate m z).foldl (· ++ ·) acc).toList = acc.toList ++ (List.replicate m z.toList).flatten
  | 0, acc => by simp
  | m + 1, acc => by
    rw [List.replicate_succ, List.foldl_cons, fold_repL z m, Array.toList_append, List.append_assoc, List.replicate_succ, List.flatten_cons]
theorem op_repS : OpR X (binaryOp .Mult) rRepS := by
  intro pins s σ H x y v u Q I rx ry h
  obtain ⟨z, n, rfl, rfl, n1, n2, hz1, hz, q⟩ := h
  obtain ⟨t, rfl⟩ := rx
  obtain ⟨t', rfl⟩ := ry
  have hb : ¬ ((z.length : Int) > (2 ^ 63 - 1) / n) := by
    have : (1000 : Int) ≤ (2 ^ 63 - 1) / n := by
      rw [Int.le_ediv_iff_mul_le (by omega)]
      omega
    omega
  have h1 : z.length * n.toNat ≤ 1000 * 5000 := Nat.mul_le_mul hz (by omega)
  have hl : Builtin.Str.tooLong (z.length * n.toNat) = false := by
    have h2 : z.length * n.toNat ≤ sizeLine := by rw [sizeLine_eq]; omega
    unfold Builtin.Str.tooLong
    first
      | exact decide_eq_false (by omega)
      | simpa using h2
  refine PySem.P.mul_str (by have a : ¬ n < -(2 ^ 63 : Int) := by omega
                             have b : ¬ n ≥ 2 ^ 63 := by omega
                             rw [decide_eq_false a, decide_eq_false b]; rfl) (fun _ _ => hb) (fun _ _ => hl) ?_
  rw [if_neg (by omega)]
  have hc : (n == 1 || z.length == 0) = false := by
    rw [Bool.or_eq_false_iff]
    exact ⟨beq_eq_false_iff_ne.mpr (by omega), beq_eq_false_iff_ne.mpr (by omega)⟩
  rw [hc, if_neg Bool.false_ne_true]
  have e1 : (⟨(List.replicate n.toNat z.cps).foldl (· ++ ·) #[]⟩ : Str) = toS (repL z n.toNat) := by
    have q := fold_repL z.cps n.toNat #[]
    show (⟨_⟩ : Str) = ⟨(repL z n.toNat).toArray⟩
    congr 1
    rw [← Array.toList_inj, q]
    simp [repL, cpl]
  refine ⟨?_, .str _, H, I.tok _, ⟨_, rfl⟩, ?_⟩
  · have q2 := fold_repL z.cps n.toNat #[]
    have q3 : ((List.replicate n.toNat z.cps.toList).flatten).length = n.toNat * z.length := by
      rw [List.length_flatten]
      simp [Str.length]
    have q4 : ((List.replicate n.toNat z.cps).foldl (· ++ ·) #[]).size = n.toNat * z.length := by
      rw [← Array.length_toList, q2, List.length_append, q3]
      simp
    show ((List.replicate n.toNat z.cps).foldl (· ++ ·) #[]).size ≤ _
    rw [q4, Nat.mul_comm, sizeLine_eq]
    omega
  · rw [e1]; exact q
end
end L50
/-! what is no text of a program -/
namespace L50
open PySem PySem.Spec PyProof.Rows L2 L54
def od1 : List PyData := [.none, (.bool true), (.int 0), (.tuple []), (.list [(.str "a")]), (.dict []), (.str ""), (.str " "), (.str "a "), (.str " a"), (.str "a;b"), (.str "a ;b"), (.str "a ; b"), (.str "a|b")]
def od2 : List PyData := (od1 ++ [(.str "a;  b"), (.str "(a)"), (.str "a; (b)"), (.str "(a; b) | c")])
def od3 : List PyData := (od2 ++ [(.str "a*b"), (.str "a *"), (.str "(a)*"), (.str "(a*)*"), (.str "*"), (.str "a;"), (.str "; a"), (.str "a |"), (.str "| a"), (.str "a b"), (.str "A"), (.str "a1")])
def od4 : List PyData := (od3 ++ [(.str "a\n"), (.str "()"), (.str "(a; b"), (.str "a; b)"), (.str "start")])
def od5 : List PyData := (od4 ++ [(.str "end; a"), (.str "a | (b | c"), (.str "((a | b))*"), (.str "abcdefghi"), (.str "a\tb")])
def od6 : List PyData := (od5 ++ [(.str "skip skip"), (.str "skipskip a"), (.str "a**b")])
def od7 : List PyData := (od6 ++ [(.str ((toS (repL "(" 900)) ++ "a")), (.str ("a" ++ (toS (repL "*" 4000)))), (.str ("a" ++ (toS (repL "*" 40)))), (.str (Txt.join "; " (List.replicate 60 "a")))])
def od8 : List PyData := (od7 ++ [(.str (Txt.join " | " (("abcdefg" : Str).cps.toList.map fun c => ⟨#[c]⟩))), (.str ((toS (repL "a; " 1500)) ++ "a")), (.str "a;\tb"), (.str "a\t| b"), (.str "\ta"), (.str "a\t")])
def od9 : List PyData := (od8 ++ [(.str ("a" ++ (toS (repL "*" 41)))), (.str ("a" ++ (toS (repL "*" 200)))), (.str "((a | b)*)"), (.str "((a; b)* | a)*b")])
def od10 : List PyData := (od9 ++ [(.str (((toS (repL "(a | " 45)) ++ "a") ++ (toS (repL ")" 45)))), (.str (((toS (repL "(" 2000)) ++ "a") ++ (toS (repL ")" 2000))))])
def odds : List PyData := od10
def sc (l : List Nat) : Nat := l.count 59
theorem sc_app (a b : List Nat) : sc (a ++ b) = sc a + sc b := List.count_append
theorem sc_let : ∀ l : List Nat, l.all isL = true → sc l = 0
  | [], _ => rfl
  | c :: l, h => by
    rw [List.all_cons, Bool.and_eq_true] at h
    have ih := sc_let l h.2
    have c1 : c ≠ 59 := fun e => by
      have : isL 59 = false := by decide +kernel
      rw [e, this] at h
      cases h.1
    unfold sc at ih ⊢
    rw [List.count_cons_of_ne c1]
    exact ih
theorem sc_wrap (b : Bool) (l : List Nat) : sc (inP b l) = sc l := by
  unfold inP
  cases b with
  | false => simp
  | true =>
    show sc (40 :: (l ++ [41])) = sc l
    rw [show 40 :: (l ++ [41]) = [40] ++ (l ++ [41]) from rfl, sc_app, sc_app, show sc [40] = 0 by decide, show sc [41] = 0 by decide]
    omega
theorem sc_join {sep : List Nat} (hs : sc sep ≤ 1) (m : PyData → List Nat) : ∀ ds : List PyData, sc (joinL sep (ds.map m)) ≤ (ds.map fun d => sc (m d) + 1).sum
  | [] => Nat.le_refl _
  | d :: ds => by
    show sc (m d ++ (ds.map m).flatMap (sep ++ ·)) ≤ _
    rw [sc_app, List.map_cons, List.sum_cons]
    have key : sc ((ds.map m).flatMap (sep ++ ·)) ≤ (ds.map fun d => sc (m d) + 1).sum := by
      induction ds with
      | nil => exact Nat.le_refl _
      | cons e es ih =>
        rw [List.map_cons, List.flatMap_cons, sc_app, sc_app, List.map_cons, List.sum_cons]
        omega
    omega
theorem sc_tx : ∀ (j : Nat) (d : PyData) (k : Nat), d.depth ≤ j → wf k d = true → sc (tx d) + 1 ≤ (pre d).length
  | 0, d, k, hj, w => by
    obtain ⟨x, r, rfl, _⟩ := isPart_shape (wf_part w).1
    rw [PyData.depth] at hj
    omega
  | j + 1, d, k, hj, w => by
    obtain ⟨hp, _⟩ := wf_part w
    obtain ⟨x, r, rfl, p⟩ := isPart_shape hp
    have ep := pre_kids hp
    rw [ep, List.length_cons, flat_sum]
    have mem : ∀ (b : Bool) (e : PyData), e ∈ r → isStr x "do" = false → sc (inP (wrapped b e) (tx e)) + 1 ≤ (pre e).length := fun b e he c => by
      obtain ⟨w1, w2⟩ := wf_kid w c e he
      have ih := sc_tx j e (k + 1) (by omega) w1
      rw [sc_wrap]
      exact ih
    have kd : isStr x "do" = false → kids (.tuple (x :: r)) = r := fun c => by rw [kids, c]; rfl
    rcases kinds_of p with ⟨c, z, rfl, hz⟩ | ⟨rfl, rfl⟩ | ⟨rfl, e, rfl⟩ | ⟨rfl | rfl, hl⟩
    · rw [tx_do c, sc_let _ (name_facts hz).1]
      omega
    · rw [tx_skip, sc_let _ skip_let.1]
      omega
    · rw [tx_rep, sc_app, show sc [42] = 0 by decide, kd (by decide +kernel)]
      have := mem true e (by simp) (by decide +kernel)
      simp
      omega
    · rw [tx_seq, kd (by decide +kernel)]
      have q := sc_join (sep := sepS) (by decide) (fun d => inP (wrapped true d) (tx d)) r
      have := sum_le (f := fun d => sc (inP (wrapped true d) (tx d)) + 1) (g := fun d => (pre d).length) fun e he => mem true e he (by decide +kernel)
      omega
    · rw [tx_or, kd (by decide +kernel)]
      have q := sc_join (sep := sepO) (by decide) (fun d => inP (wrapped false d) (tx d)) r
      have := sum_le (f := fun d => sc (inP (wrapped false d) (tx d)) + 1) (g := fun d => (pre d).length) fun e he => mem false e he (by decide +kernel)
      omega
def okTB : PyData → Bool
  | .str z => decide (z.length ≤ 5000)
  | _ => true
def noTextB : PyData → Bool
  | .str z => decide (60 < cc (cpl z)) || !(isProg (PP 61 (cpl z)).1 && decide (tx (PP 61 (cpl z)).1 = cpl z))
  | _ => true
theorem okTB_ok {d : PyData} (h : okTB d = true) : okT d := fun z e => by
  subst e
  exact of_decide_eq_true h
theorem noTextB_ok {d : PyData} (h : noTextB d = true) : noText d := fun p hp e => by
  subst e
  have c := prog_cc hp
  have b := prog_back hp
  have h : (decide (60 < cc (cpl (toS (tx p)))) || !(isProg (PP 61 (cpl (toS (tx p)))).1 && decide (tx (PP 61 (cpl (toS (tx p)))).1 = cpl (toS (tx p))))) = true := h
  rw [cpl_toS, b] at h
  simp [hp] at h
  omega
theorem repL_succ (z : Str) (n : Nat) : repL z (n + 1) = cpl z ++ repL z n := by
  unfold repL
  rw [List.replicate_succ, List.flatten_cons]
theorem cc_repL (z : Str) : ∀ n : Nat, cc (repL z n) = n * cc (cpl z)
  | 0 => by rw [Nat.zero_mul]; rfl
  | n + 1 => by rw [repL_succ, cc_app, cc_repL z n, Nat.succ_mul, Nat.add_comm]
theorem len_repL (z : Str) : ∀ n : Nat, (repL z n).length = n * (cpl z).length
  | 0 => by rw [Nat.zero_mul]; rfl
  | n + 1 => by rw [repL_succ, List.length_append, len_repL z n, Nat.succ_mul, Nat.add_comm]
theorem sc_repL (z : Str) : ∀ n : Nat, sc (repL z n) = n * sc (cpl z)
  | 0 => by rw [Nat.zero_mul]; rfl
  | n + 1 => by rw [repL_succ, sc_app, sc_repL z n, Nat.succ_mul, Nat.add_comm]
def Odd (d : PyData) : Prop := okT d ∧ noText d
theorem Odd.nil : ∀ d ∈ ([] : List PyData), Odd d := fun d h => by cases h
theorem Odd.cons {x : PyData} {xs : List PyData} (a : Odd x) (b : ∀ d ∈ xs, Odd d) : ∀ d ∈ x :: xs, Odd d := fun d h => by
  rcases List.mem_cons.mp h with e | e
  · rw [e]; exact a
  · exact b d e
theorem odd_app {xs ys : List PyData} (a : ∀ d ∈ xs, Odd d) (b : ∀ d ∈ ys, Odd d) : ∀ d ∈ xs ++ ys, Odd d := fun d h => by
  rcases List.mem_append.mp h with e | e
  · exact a d e
  · exact b d e
theorem odd_dec {d : PyData} (h : (okTB d && noTextB d) = true) : Odd d := by
  obtain ⟨a, b⟩ := Bool.and_eq_true_iff.mp h
  exact ⟨okTB_ok a, noTextB_ok b⟩
theorem odd_all {xs : List PyData} (h : xs.all (fun d => okTB d && noTextB d) = true) : ∀ d ∈ xs, Odd d := fun d hd => odd_dec (List.all_eq_true.mp h d hd)
theorem odd_cc {z : Str} (h1 : (cpl z).length ≤ 5000) (h2 : 60 < cc (cpl z)) : Odd (.str z) := ⟨fun y e => by
  cases e
  simpa [cpl, Str.length] using h1, fun p hp e => by
  injection e with e
  have c := prog_cc hp
  rw [e, cpl_toS] at h2
  omega⟩
theorem odd_sc {z : Str} (h1 : (cpl z).length ≤ 5000) (h2 : 60 < sc (cpl z)) : Odd (.str z) := ⟨fun y e => by
  cases e
  simpa [cpl, Str.length] using h1, fun p hp e => by
  injection e with e
  obtain ⟨w, n, _⟩ := (prog_spec p).mp hp
  have c := sc_tx p.depth p 1 (Nat.le_refl _) w
  rw [e, cpl_toS] at h2
  omega⟩
theorem h_star : Odd (.str ("a" ++ toS (repL "*" 4000))) := odd_cc
  (by rw [cpl_app, cpl_toS, List.length_append, len_repL, show (cpl "*").length = 1 by decide +kernel, show (cpl "a").length = 1 by decide +kernel]; omega)
  (by rw [cpl_app, cpl_toS, cc_app, cc_repL, show cc (cpl "*") = 1 by decide +kernel]; omega)
theorem h_par : Odd (.str (toS (repL "(" 2000) ++ "a" ++ toS (repL ")" 2000))) := odd_cc
  (by rw [cpl_app, cpl_app, cpl_toS, cpl_toS, List.length_append, List.length_append, len_repL, len_repL, show (cpl "(").length = 1 by decide +kernel, show (cpl ")").length = 1 by decide +kernel, show (cpl "a").length = 1 by decide +kernel]; omega)
  (by rw [cpl_app, cpl_app, cpl_toS, cpl_toS, cc_app, cc_app, cc_repL, cc_repL, show cc (cpl "(") = 1 by decide +kernel]; omega)
theorem h_semi : Odd (.str (toS (repL "a; " 1500) ++ "a")) := odd_sc
  (by rw [cpl_app, cpl_toS, List.length_append, len_repL, show (cpl "a; ").length = 3 by decide +kernel, show (cpl "a").length = 1 by decide +kernel]; omega)
  (by rw [cpl_app, cpl_toS, sc_app, sc_repL, show sc (cpl "a; ") = 1 by decide +kernel]; omega)
theorem od1_ok : ∀ d ∈ od1, Odd d := (odd_all (by decide +kernel))
theorem od2_ok : ∀ d ∈ od2, Odd d := odd_app od1_ok (odd_all (by decide +kernel))
theorem od3_ok : ∀ d ∈ od3, Odd d := odd_app od2_ok (odd_all (by decide +kernel))
theorem od4_ok : ∀ d ∈ od4, Odd d := odd_app od3_ok (odd_all (by decide +kernel))
theorem od5_ok : ∀ d ∈ od5, Odd d := odd_app od4_ok (odd_all (by decide +kernel))
theorem od6_ok : ∀ d ∈ od6, Odd d := odd_app od5_ok (odd_all (by decide +kernel))
theorem od7_ok : ∀ d ∈ od7, Odd d := odd_app od6_ok (Odd.cons (odd_dec (by decide +kernel)) (Odd.cons h_star (Odd.cons (odd_dec (by decide +kernel)) (Odd.cons (odd_dec (by decide +kernel)) Odd.nil))))
theorem od8_ok : ∀ d ∈ od8, Odd d := odd_app od7_ok (Odd.cons (odd_dec (by decide +kernel)) (Odd.cons h_semi (Odd.cons (odd_dec (by decide +kernel)) (Odd.cons (odd_dec (by decide +kernel)) (Odd.cons (odd_dec (by decide +kernel)) (Odd.cons (odd_dec (by decide +kernel)) Odd.nil))))))
theorem od9_ok : ∀ d ∈ od9, Odd d := odd_app od8_ok (odd_all (by decide +kernel))
theorem od10_ok : ∀ d ∈ od10, Odd d := odd_app od9_ok (Odd.cons (odd_dec (by decide +kernel)) (Odd.cons h_par Odd.nil))
theorem odds_ok : ∀ d ∈ odds, Odd d := od10_ok
theorem odds_len : odds.length ≤ 500 := by decide +kernel
end L50
/-! the law: more rules -/
namespace L50
open PySem PySem.Spec PyProof.Rows L2 L54
theorem b_lst : bootBuiltins "list" = some (.type "list") := by decide +kernel
section
variable {X : Cx} {G : Hp → Prop} {Γ : Gm} {e f : Expr} {pos : Pos} {xs : List PyData}
theorem pd_non {j : Nat} : PD X G Γ (.Constant .none j pos) .none := PE.weak pe_non fun σ H Q ⟨_, q⟩ => q _ H (Same.refl H) (.of rfl .non)
theorem pd_bl {b : Bool} {j : Nat} : PD X G Γ (.Constant (.bool b) j pos) (.bool b) := PE.weak pe_bl fun σ H Q ⟨_, q⟩ => q _ H (Same.refl H) (.of rfl (.bl b))
theorem pd_int {n : Int} {j : Nat} : PD X G Γ (.Constant (.int n) j pos) (.int n) := PE.weak pe_int fun σ H Q ⟨_, q⟩ => q _ H (Same.refl H) (.of rfl (.int n))
theorem pd_dict0 : PD X G Γ (.Dict [] [] pos) (.dict []) := PE.weak pe_dnewK fun σ H Q ⟨_, q⟩ => fun p np => q _ _ (up1 np) (.of rfl (.emp upd_same))
theorem pd_mulS {z : Str} {n j : Nat} {p2 : Pos} (h : PD X G Γ e (.str z)) (h2 : 2 ≤ n := by decide) (h3 : n ≤ 5000 := by decide) (hz : (decide (1 ≤ z.length) && decide (z.length ≤ 1000)) = true := by decide +kernel) : PD X G Γ (.BinOp e .Mult (.Constant (.int (n : Int)) j p2) pos) (.str (toS (repL z n))) := PE.weak (pe_op op_repS h pe_int) fun σ H Q ⟨E, q⟩ =>
  ⟨E, fun v H1 S1 hv => by
    have a := hv.dv rfl
    cases a
    obtain ⟨a, b⟩ := Bool.and_eq_true_iff.mp hz
    refine ⟨z, _, rfl, rfl, by omega, by omega, of_decide_eq_true a, of_decide_eq_true b, q _ H1 S1 (.of rfl (.str _))⟩⟩
theorem pd_mulL {n j : Nat} {p2 : Pos} (h : PD X G Γ e (.list xs)) (h3 : n ≤ 1000 := by decide) (hl : xs.length * n ≤ 1000 := by decide) : PD X G Γ (.BinOp e .Mult (.Constant (.int (n : Int)) j p2) pos) (.list (List.replicate n xs).flatten) := PE.weak (pe_op op_rep h pe_int) fun σ H Q ⟨E, q⟩ =>
  ⟨E, fun v H1 S1 hv => by
    obtain ⟨a, vs, rfl, ha, da⟩ := hv.lst
    refine ⟨a, _, vs, rfl, rfl, ha, by omega, by omega, len_small (by rw [da.len]; exact hl), fun p np => q _ _ (S1.trans (up1 np)) (.inr ⟨p, _, _, rfl, rfl, upd_same, dvRep (da.mono (up1 np)) _⟩)⟩⟩
theorem pd_listS {z : Str} {p : Pos} (h : PD X G Γ e (.str z)) (hg : Gl X "list") (hm : X.mg "list" = none) (hc : X.calm = true := by rfl) (hz : z.length ≤ 1000 := by decide +kernel) (hs : starEach [e] X.env = (false, eval e X.env) :: starEach [] X.env := by rfl) (hpl : (backTo pos (starEach [] X.env)).any (·.1) = false := by rfl) :
    PD X G Γ (.Call (.Name "list" p) [e] [] pos) (.list (z.cps.toList.map fun c => .str ⟨#[c]⟩)) := PE.weak (pe_callTy (call_listS hc) hg hm b_lst (pa_cons h pa_nil hs) (he := hs) (hpl := hpl)) fun σ H Q ⟨E, q⟩ =>
  ⟨E, fun v H1 S1 hv => by
    have a := hv.dv rfl
    cases a
    refine ⟨z, rfl, hz, fun l nl => q _ _ (S1.trans (up1 nl)) (.inr ⟨l, _, _, rfl, rfl, upd_same, ?_⟩)⟩
    have key : ∀ cs : List Nat, DvAll X.K (upd H1 l (.lst (z.cps.toList.map fun c => V.str ⟨#[c]⟩))) (cs.map fun c => V.str ⟨#[c]⟩) (cs.map fun c => PyData.str ⟨#[c]⟩) := fun cs => by
      induction cs with
      | nil => exact .nil
      | cons c cs ih => exact .cons (.str _) ih
    exact key _⟩
theorem pd_join (u : Up G) {y : Str} {ws : List Str} {o : Expr} {apos : Pos} (h1 : PD X G Γ o (.str y)) (h2 : PD X G Γ e (.list (ws.map PyData.str))) (hl : (ws.map (·.length)).sum + ws.length * y.length ≤ 16777216)
    (hs : starEach [e] X.env = [(false, eval e X.env)] := by rfl) (hbase : attributeBase o "join" X.env (eval o X.env) = eval o X.env := by rfl) (hline : (apos.endLine == pos.line) = true := by rfl) : PD X G Γ (.Call (.Attribute o "join" apos) [e] [] pos) (.str (Txt.join y ws)) := PE.weak (pe_join h1 h2 hs hbase hline) fun σ H Q ⟨E, q⟩ =>
  ⟨E, fun v H1 S1 hv => by
    have a := hv.dv rfl
    cases a
    refine ⟨?_, E.mono u S1, fun w H2 S2 hw => ?_⟩
    · exact ⟨y, rfl⟩
    obtain ⟨a, vs, rfl, ha, da⟩ := hw.lst
    have ev := dvStr da
    subst ev
    exact ⟨y, a, ws, rfl, rfl, .inl (.inl (.inl ha)), hl, q _ H2 (S1.trans S2) (.of rfl (.str _))⟩⟩
end
end L50
/-! the law -/
namespace L50
open PySem PySem.Spec PyProof.Rows L2 L54
theorem sqlS {K : PySem.W.Frag} {H H' : Hp} {a : Addr} {xs : List V} (e : Same H H') (h : SqL K H a xs) : SqL K H' a xs := e.seq h
section
variable {P : Program} {w : World} {K : PySem.W.Frag} {mg : Str → Option Value} {base : Heap}
def spPgA (K : PySem.W.Frag) : Sp := fun vs H Q E => ∃ m, m ≤ 3 ∧ spPg K m vs H Q E
theorem Lw.pg (L : Lw K mg) : FnOk P w K mg base CX0 5 L.nPg.f L.nPg.fd ["own", "called", "deep"] (spPgA K) := by
  have G : ∀ m, FnOk P w K mg base CX0 (m + 2) L.nPg.f L.nPg.fd ["own", "called", "deep"] (spPg K m) := ok_pg L.nPg.F L.T L.nPg.b L.nPg.m L.nTake.F L.nTake.b L.nTake.m
  refine ⟨fun vs H Q E ⟨m, _, h⟩ => (G m).len vs H Q E h, fun A outer s H args us vs Q E hr e0 hb r ⟨m, hm, h⟩ => ?_⟩
  exact ((G m).mono (by omega)).run A outer s H args us vs Q E hr e0 hb r h
abbrev nLw : List Str := ["script", "turn", "own", "chosen", "k", "some", "odd"]
theorem scLw : FnScope nLw ["script"] (defScope sLaw) := ⟨rfl, rfl, rfl, by decide +kernel, rfl, by decide +kernel, by decide +kernel⟩
abbrev XL (P : Program) (w : World) (K : PySem.W.Frag) (mg : Str → Option Value) (base : Heap) (f : Addr) (cdv : Value) (A : Around) (outer : List Env) (s : Shared) (H : Hp) (E : XK) : Cx := (cxOf CX0 P w K mg base nLw "law" (defScope sLaw) f cdv A outer s H E).nox
variable {f : Addr} {cdv : Value} {A : Around} {outer : List Env} {s : Shared} {H : Hp} {E : XK}
def body0 : List Stmt := forB ((defBody sLaw).getD 0 (.Pass ⟨0, 0, 0, 0⟩))
def body1 : List Stmt := forB (body0.getD 2 (.Pass ⟨0, 0, 0, 0⟩))
theorem law1 (L : Lw K mg) (hr : Room 187 (A.deeper (envOfC "law" (defScope sLaw) s.heap.objs.size f cdv))) :
    ∃ t, PSs (XL P w K mg base f cdv A outer s H E) body1 t ∧ ∀ (D : Ends) (l tn sm od : Option V) (k : Nat) (p q : Addr) (zs : List Str) (H1 : Hp), Dg H1 p → H1 q = some (.lst (zs.map V.str)) → q ≠ p → 1 ≤ zs.length → zs.length ≤ 6 → (∀ z ∈ zs, z ∈ ten) → k < 4 →
      (∀ H', SameB p H1 H' → Dg H' p → D.nx [l, tn, some (.ref p), some (.ref q), some (.int (0 + (k : Int))), sm, od] H') → t D [l, tn, some (.ref p), some (.ref q), some (.int (0 + (k : Int))), sm, od] H1 := by
  refine ⟨_, pss_one (ps_if (pt_not (pt_val (pe_call (ok_good L) hr rfl L.nGood.m L.nGood.F.kp L.nGood.b .nil pass0 (pa_cons (pv 2) (pa_cons (pe_call L.pg (hr.mono (by decide)) rfl L.nPg.m L.nPg.F.kp L.nPg.b .nil pass0 (pa_cons (pv 2) (pa_cons (pv 3) (pa_cons
      (pe_op op_add pe_int (pe_op op_mod (pe_callTy call_int1 rfl L.T.int b_int (pa_cons (pv 4) pa_nil)) pe_int)) pa_nil)))) pa_nil))))) (pss_one (ps_ret pe_bl)) pss_nil), ?_⟩
  intro D l tn sm od k p q zs H1 hD hq nqp z1 z2 zt hk h
  have em : ([V.ref p, V.ref q, V.int (1 + (0 + (k : Int)) % 3)] : List V) = [V.ref p, V.ref q, V.int ((1 + k % 3 : Nat) : Int)] := by
    rw [show (1 + (0 + (k : Int)) % 3) = ((1 + k % 3 : Nat) : Int) by omega]
  have hm : 1 + k % 3 ≤ 3 := by omega
  refine ⟨_, rfl, _, rfl, _, rfl, _, rfl, .inl ⟨_, rfl, _, _, rfl, rfl, (by show (0 : Int) < 3; decide), _, _, rfl, rfl, ?_⟩⟩
  refine ⟨1 + k % 3, hm, p, q, zs, em, hD, hq, nqp, z1, by omega, zt, fun v d H2 B2 D2 hv pg => ?_⟩
  have wt : d.weight ≤ 500 := by
    have h1 := pg.wt
    have h2 : wM (1 + k % 3) ≤ 500 := by
      have : k % 3 = 0 ∨ k % 3 = 1 ∨ k % 3 = 2 := by omega
      rcases this with e | e | e <;> rw [e] <;> decide
    omega
  refine ⟨p, v, d, rfl, D2, hv, pgm_prog hm z2 pg, wt, fun H3 B3 D3 => ⟨_, rfl, ?_⟩⟩
  refine iF (by simp) ?_
  exact h _ (B2.trans B3) D3
theorem law0 (L : Lw K mg) (hr : Room 187 (A.deeper (envOfC "law" (defScope sLaw) s.heap.objs.size f cdv))) :
    ∃ t, PSs (XL P w K mg base f cdv A outer s H E) body0 t ∧ ∀ (D : Ends) (l : Addr) (ns : List Int) (j : Nat) (ow ch k sm od : Option V) (H1 : Hp), SqL K H1 l (ns.map V.int) → j ≤ 1000 →
      (∀ ow' ch' k' H', Same H1 H' → D.nx [some (.ref l), some (.int (0 + (j : Int))), ow', ch', k', sm, od] H') → t D [some (.ref l), some (.int (0 + (j : Int))), ow, ch, k, sm, od] H1 := by
  obtain ⟨t1, h1, q1⟩ := law1 (P := P) (w := w) (base := base) (f := f) (cdv := cdv) (A := A) (outer := outer) (s := s) (H := H) (E := E) L hr
  have GC : FnOk P w K mg base CX0 2 L.nCell.f L.nCell.fd ["script", "k"] (spCell K) := ok_cell L.nCell.F L.T L.nMix.F L.nMix.b L.nMix.m
  have GW : FnOk P w K mg base CX0 2 L.nWords.f L.nWords.fd ["own", "many"] spWords := ok_words L.nWords.F L.T L.nTake.F L.nTake.b L.nTake.m
  refine ⟨_, pss_cons (ps_set (i := 2) scLw.nd rfl (.inl rfl) (pe_lst (pa_cons (pe_call GC (hr.mono (by decide)) rfl L.nCell.m L.nCell.F.kp L.nCell.b .nil pass0 (pa_cons (pv 0) (pa_cons (pv 1) pa_nil))) pa_nil)))
    (pss_cons (ps_set (i := 3) scLw.nd rfl (.inl rfl) (pe_call GW (hr.mono (by decide)) rfl L.nWords.m L.nWords.F.kp L.nWords.b .nil pass0 (pa_cons (pv 2) (pa_cons pe_int pa_nil))))
    (pss_one (ps_for PassesOwn.never rfl (pi_range1 rfl L.T.range (pa_cons pe_int pa_nil)) (pg_name (i := 4) scLw.nd rfl (Or.inl rfl)) h1))), ?_⟩
  intro D l ns j ow ch k sm od H1 hl hj hD
  refine ⟨_, rfl, _, rfl, l, ns, j, (by rw [show (0 + (j : Int)) = (j : Int) by omega]; rfl), hl, hj, fun c c0 c1 => ?_⟩
  refine ⟨len_small (by simp), fun p np => ?_⟩
  have hp : (upd H1 p (.lst [.int c])) p = some (.lst [.int c]) := upd_same
  have U := up1 (o := .lst [.int c]) np
  generalize upd H1 p (.lst [.int c]) = H2 at *
  refine ⟨_, rfl, p, 5, rfl, ⟨c, hp, c0, c1⟩, by omega, by omega, fun q H4 zs B4 D4 hq hz zt => ?_⟩
  have nqp : q ≠ p := fun e => by
    obtain ⟨m, hm, _⟩ := D4
    rw [e, hm] at hq
    have z1 := congrArg (fun (o : Option HO) => match o with | some (.lst (V.int _ :: _)) => true | _ => false) hq
    cases zs with
    | nil => simp at hz
    | cons a b => simp at z1
  refine ⟨4, rfl, by decide, by decide, for_range (n := 4) (fun i σ Hc => ∃ k' : Option V, σ = [some (.ref l), some (.int (0 + (j : Int))), some (.ref p), some (.ref q), k', sm, od] ∧ SameB p H4 Hc ∧ Dg Hc p) ⟨k, rfl, SameB.refl, D4⟩ ?_ ?_⟩
  · rintro i2 σ Hc hi ⟨k', rfl, Bc, Dc⟩
    refine q1 _ _ _ _ _ i2 p q zs Hc Dc (Bc _ _ nqp hq) nqp (by omega) (by omega) zt hi fun H5 B5 D5 => ?_
    exact ⟨_, rfl, Bc.trans B5, D5⟩
  · rintro σ Hc ⟨k', rfl, Bc, Dc⟩
    exact hD _ _ _ _ ((B4.trans Bc).same U np)
def spLaw (K : PySem.W.Frag) : Sp := fun vs H Q _ => ∃ (l : Addr) (ns : List Int), vs = [.ref l] ∧ SqL K H l (ns.map V.int) ∧ ∀ H', Q (.bl true) H'
theorem Lw.more (L : Lw K mg) : FnOk P w K mg base CX0 1 L.nMore.f L.nMore.fd ["a", "b"] (spMore K) := ok_more L.nMore.F L.T
theorem Lw.sizes (L : Lw K mg) : FnOk P w K mg base CX0 187 L.nSz.f L.nSz.fd [] spSz := ok_sizes L L.more
theorem law_end (L : Lw K mg) (hr : Room 187 (A.deeper (envOfC "law" (defScope sLaw) s.heap.objs.size f cdv))) :
    PSs (XL P w K mg base f cdv A outer s H E) ((defBody sLaw).drop 11) (tRt K anyH [none, none, none, none, none, some (.list odds), none] (fun rt => ∀ H', rt (.bl true) H')) := by
  refine PSs.weak (pss_one (ps_ret (pe_and (pe_callB (cr_all rfl) rfl L.T.all b_all (pa_cons
      (pe_lc (own := [("odd", 6)]) (g := gName 6) (tt := tYes) rfl scLw.nd (pi_list (pv 5)) (blkOk_by (N := nLw) (sc := defScope sLaw) (by decide +kernel)) (fun _ _ _ _ _ => pg_name (i := 6) scLw.nd rfl (Or.inl rfl)) (fun _ _ _ _ _ => pts_nil)
        (fun _ _ _ _ _ => pe_call L.refused hr rfl L.nRf.m L.nRf.F.kp L.nRf.b .nil pass0 (pa_cons (pv 6) pa_nil)))
      pa_nil)) (pe_one (pe_call0 L.sizes hr rfl L.nSz.m L.nSz.F.kp L.nSz.b .nil pass0))))) ?_
  rintro D σ H1 ⟨E1, q⟩
  obtain ⟨v, e1, hv⟩ := E1.at' 5 _ rfl
  obtain ⟨a, vs, rfl, ha, da⟩ := hv.lst
  have hlen : 6 < σ.length := by rw [E1.len]; decide
  refine ⟨.ref a, e1, a, rfl, ⟨_, .inl (.inl ha)⟩, fun dd nd => ?_⟩
  refine lc_list (K := K) (a := a) (xs := vs) (fun i Hd => Same H1 Hd ∧ Hd dd = some (.lst ((List.replicate i true).map V.bl))) ⟨up1 nd, upd_same⟩ (fun i Hd _ ⟨s, _⟩ => s.seq (.inl (.inl ha))) ?_ ?_
  · rintro i y Hd hi ⟨Sd, Ld⟩
    obtain ⟨e, he, hv⟩ := da.get hi
    obtain ⟨o1, o2⟩ := odds_ok e (List.mem_of_getElem? he)
    refine ⟨by simp [wipe], ?_⟩
    have look : ∀ z : V, ((wipe σ [6]).set 6 (some z))[6]? = some (some z) := fun z => by simp [wipe, hlen]
    have hi' : i < vs.length := (List.getElem?_eq_some_iff.mp hi).1
    have sl := odds_len
    rw [da.len] at hi'
    refine ⟨y, look y, y, e, rfl, hv.mono Sd, o1, o2, fun H2 S2 => ?_⟩
    refine ⟨_, S2 _ _ Ld, small1000 (by rw [List.length_map, List.length_replicate]; omega), same_at (Sd.trans S2) nd, ?_⟩
    rw [upd_same, List.replicate_succ', List.map_append]
    rfl
  · rintro Hd ⟨Sd, Ld⟩
    refine ⟨dd, List.replicate vs.length true, rfl, .inl (.inl Ld), ?_⟩
    have e1 : (List.replicate vs.length true).all id = true := by simp
    rw [e1]
    refine ⟨_, rfl, ?_⟩
    refine iT (by simp) ?_
    exact ⟨rfl, fun H' => q H'⟩
end
end L50
/-! the law, whole -/
namespace L50
open PySem PySem.Spec PyProof.Rows L2 L54
section
variable {P : Program} {w : World} {K : PySem.W.Frag} {mg : Str → Option Value} {base : Heap}
variable {f : Addr} {cdv : Value} {A : Around} {outer : List Env} {s : Shared} {H : Hp} {E : XK}
theorem law_rest (L : Lw K mg) (hr : Room 187 (A.deeper (envOfC "law" (defScope sLaw) s.heap.objs.size f cdv))) :
    PSs (XL P w K mg base f cdv A outer s H E) ((defBody sLaw).drop 1) (tRt K anyH [none, none, none, none, none, none, none] (fun rt => ∀ H', rt (.bl true) H')) := by
  exact (ho_consR (Γ' := [none, none, none, none, none, some (.list od1), none]) (by exact (ho_set upAny (i := 5) (pd_lst (pds_cons upAny pd_non (pds_cons upAny pd_bl (pds_cons upAny pd_int (pds_cons upAny (pd_tup pds_nil) (pds_cons upAny (pd_lst (pds_cons upAny pd_str pds_nil)) (pds_cons upAny pd_dict0 (pds_cons upAny pd_str (pds_cons upAny pd_str (pds_cons upAny pd_str (pds_cons upAny pd_str (pds_cons upAny pd_str (pds_cons upAny pd_str (pds_cons upAny pd_str (pds_cons upAny pd_str pds_nil))))))))))))))) scLw.nd rfl))
      (ho_consR (Γ' := [none, none, none, none, none, some (.list od2), none]) (by exact (ho_set upAny (i := 5) (pd_catL upAny (pd_var 5) (pd_lst (pds_cons upAny pd_str (pds_cons upAny pd_str (pds_cons upAny pd_str (pds_cons upAny pd_str pds_nil))))) (by decide +kernel)) scLw.nd rfl))
      (ho_consR (Γ' := [none, none, none, none, none, some (.list od3), none]) (by exact (ho_set upAny (i := 5) (pd_catL upAny (pd_var 5) (pd_lst (pds_cons upAny pd_str (pds_cons upAny pd_str (pds_cons upAny pd_str (pds_cons upAny pd_str (pds_cons upAny pd_str (pds_cons upAny pd_str (pds_cons upAny pd_str (pds_cons upAny pd_str (pds_cons upAny pd_str (pds_cons upAny pd_str (pds_cons upAny pd_str (pds_cons upAny pd_str pds_nil))))))))))))) (by decide +kernel)) scLw.nd rfl))
      (ho_consR (Γ' := [none, none, none, none, none, some (.list od4), none]) (by exact (ho_set upAny (i := 5) (pd_catL upAny (pd_var 5) (pd_lst (pds_cons upAny pd_str (pds_cons upAny pd_str (pds_cons upAny pd_str (pds_cons upAny pd_str (pds_cons upAny pd_str pds_nil)))))) (by decide +kernel)) scLw.nd rfl))
      (ho_consR (Γ' := [none, none, none, none, none, some (.list od5), none]) (by exact (ho_set upAny (i := 5) (pd_catL upAny (pd_var 5) (pd_lst (pds_cons upAny pd_str (pds_cons upAny pd_str (pds_cons upAny pd_str (pds_cons upAny pd_str (pds_cons upAny pd_str pds_nil)))))) (by decide +kernel)) scLw.nd rfl))
      (ho_consR (Γ' := [none, none, none, none, none, some (.list od6), none]) (by exact (ho_set upAny (i := 5) (pd_catL upAny (pd_var 5) (pd_lst (pds_cons upAny pd_str (pds_cons upAny pd_str (pds_cons upAny pd_str pds_nil)))) (by decide +kernel)) scLw.nd rfl))
      (ho_consR (Γ' := [none, none, none, none, none, some (.list od7), none]) (by exact (ho_set upAny (i := 5) (pd_catL upAny (pd_var 5) (pd_lst (pds_cons upAny (pd_addS upAny (pd_mulS (n := 900) pd_str) pd_str (by decide +kernel)) (pds_cons upAny (pd_addS upAny pd_str (pd_mulS (n := 4000) pd_str) (by decide +kernel)) (pds_cons upAny (pd_addS upAny pd_str (pd_mulS (n := 40) pd_str) (by decide +kernel)) (pds_cons upAny (pd_join upAny (ws := (List.replicate 60 "a")) pd_str (pd_mulL (n := 60) (pd_lst (pds_cons upAny pd_str pds_nil))) (by decide +kernel)) pds_nil))))) (by decide +kernel)) scLw.nd rfl))
      (ho_consR (Γ' := [none, none, none, none, none, some (.list od8), none]) (by exact (ho_set upAny (i := 5) (pd_catL upAny (pd_var 5) (pd_lst (pds_cons upAny (pd_join upAny (ws := (("abcdefg" : Str).cps.toList.map fun c => ⟨#[c]⟩)) pd_str (pd_listS pd_str rfl L.T.lst) (by decide +kernel)) (pds_cons upAny (pd_addS upAny (pd_mulS (n := 1500) pd_str) pd_str (by decide +kernel)) (pds_cons upAny pd_str (pds_cons upAny pd_str (pds_cons upAny pd_str (pds_cons upAny pd_str pds_nil))))))) (by decide +kernel)) scLw.nd rfl))
      (ho_consR (Γ' := [none, none, none, none, none, some (.list od9), none]) (by exact (ho_set upAny (i := 5) (pd_catL upAny (pd_var 5) (pd_lst (pds_cons upAny (pd_addS upAny pd_str (pd_mulS (n := 41) pd_str) (by decide +kernel)) (pds_cons upAny (pd_addS upAny pd_str (pd_mulS (n := 200) pd_str) (by decide +kernel)) (pds_cons upAny pd_str (pds_cons upAny pd_str pds_nil))))) (by decide +kernel)) scLw.nd rfl))
      (ho_consR (Γ' := [none, none, none, none, none, some (.list od10), none]) (by exact (ho_set upAny (i := 5) (pd_catL upAny (pd_var 5) (pd_lst (pds_cons upAny (pd_addS upAny (pd_addS upAny (pd_mulS (n := 45) pd_str) pd_str (by decide +kernel)) (pd_mulS (n := 45) pd_str) (by decide +kernel)) (pds_cons upAny (pd_addS upAny (pd_addS upAny (pd_mulS (n := 2000) pd_str) pd_str (by decide +kernel)) (pd_mulS (n := 2000) pd_str) (by decide +kernel)) pds_nil))) (by decide +kernel)) scLw.nd rfl))
      (law_end L hr)))))))))))
theorem ok_law (L : Lw K mg) {f : Addr} {fd : FuncData} (F : Fun K "law" "law" sLaw f fd) : FnG P w K mg base 188 f fd ["script"] (spLaw K) := by
  refine FnG.of (F.ok scLw (fun vs H Q E h => ?_) (fun cdv A outer s H vs Q E hr h => ?_))
  · obtain ⟨l, ns, rfl, _⟩ := h
    rfl
  · obtain ⟨l, ns, rfl, hl, h⟩ := h
    obtain ⟨t0, h0, q0⟩ := law0 (P := P) (w := w) (base := base) (f := f) (cdv := cdv) (A := A) (outer := outer) (s := s) (H := H) (E := E) L hr
    refine ⟨_, pss_cons (ps_for PassesOwn.never rfl (pi_range1 rfl L.T.range (pa_cons (pe_callB (call_max2 rfl) rfl L.T.max b_max (pa_cons (pe_callB (call_min2 rfl) rfl L.T.min b_min (pa_cons (pe_callB call_len_seq rfl L.T.len b_len (pa_cons (pv 0) pa_nil)) (pa_cons pe_int pa_nil))) (pa_cons pe_int pa_nil))) pa_nil)) (pg_name (i := 1) scLw.nd rfl (Or.inl rfl)) h0)
      (law_rest (P := P) (w := w) (base := base) (f := f) (cdv := cdv) (A := A) (outer := outer) (s := s) (H := H) (E := E) L hr), ?_⟩
    refine ⟨_, rfl, l, _, rfl, .inl hl, _, _, rfl, _, _, rfl, ?_⟩
    generalize hm : (if (1 : Int) > (if (5 : Int) < (((ns.map V.int).length : Nat) : Int) then (5 : Int) else (((ns.map V.int).length : Nat) : Int)) then (1 : Int) else (if (5 : Int) < (((ns.map V.int).length : Nat) : Int) then (5 : Int) else (((ns.map V.int).length : Nat) : Int))) = m
    have hm1 : 1 ≤ m ∧ m ≤ 5 := by
      rw [← hm]
      split <;> split <;> omega
    refine ⟨m, rfl, by omega, by omega, ?_⟩
    refine for_range (n := m.toNat) (fun i σ Hc => ∃ tn ow ch k sm od : Option V, σ = [some (.ref l), tn, ow, ch, k, sm, od] ∧ Same H Hc) ⟨none, none, none, none, none, none, rfl, Same.refl H⟩ ?_ ?_
    · rintro i σ Hc hi ⟨tn, ow, ch, k, sm, od, rfl, S⟩
      exact q0 _ l ns i ow ch k sm od Hc (sqlS S hl) (by omega) fun ow' ch' k' H' S' => ⟨_, ow', ch', k', sm, od, rfl, S.trans S'⟩
    · rintro σ Hc ⟨tn, ow, ch, k, sm, od, rfl, S⟩
      refine ⟨⟨trivial, rfl, fun i d e => ?_⟩, fun H' => h H'⟩
      match i, e with
      | 0, e => cases e
      | 1, e => cases e
      | 2, e => cases e
      | 3, e => cases e
      | 4, e => cases e
      | 5, e => cases e
      | 6, e => cases e
      | i + 7, e => cases e
end
end L50
/-! what the top has written -/
namespace L50
open PySem PySem.Spec PyProof.Rows L2 L54
def blL : List Str := ["int", "len", "range", "max", "min", "isinstance", "str", "all", "any", "tuple", "sorted", "list", "dict", "bool"]
def dfL : List (Str × Addr) := [("is_name", 57), ("is_program", 64), ("check_program", 71), ("_is_part", 78), ("_members", 85), ("write", 92), ("read", 99), ("_text", 104), ("_text_within", 111), ("_read_or", 118), ("_read_seq", 125), ("_joined", 132), ("_read_rep", 139), ("_read_word", 146), ("_law_mixed", 153), ("_law_cell", 160), ("_law_take", 167), ("_law_words", 174), ("_law_program", 179), ("_law_in", 186), ("_law_text", 191), ("_law_read", 198), ("_law_refused", 205), ("_law_bent", 212), ("_law_good", 219), ("_law_sizes_good", 224), ("_law_more_sizes", 229), ("law", 234)]
def ecB (K : PySem.W.Frag) (D : Addr) : Bool := decide (PySem.W.findIn K (.ref D) "__getattribute__" = some (some (.builtin "BaseException.__getattribute__"))) && (decide (PySem.W.findIn K (.ref D) "__getattr__" = some none) &&
  (decide (PySem.W.subIn K (.ref D) (.type "BaseException") = some true) && (PySem.W.hasDictIn K D && (decide (PySem.W.findIn K (.ref D) "__class__" = some (some (.builtin "object.__class__"))) &&
  (decide (PySem.W.specialIn K (.builtin "object.__class__") "__get__" = some (some (.builtin "getset_descriptor.__get__"))) && (decide (PySem.W.takesIn K (.builtin "object.__class__") = some true) && decide (PySem.W.mroIn K D (.type "object") = some true)))))))
def etB (K : PySem.W.Frag) : Bool := PySem.W.excIn K 49 vB "ValueError.__new__" && (decide (PySem.W.nsIn K mainGlobals "InvalidText" = some (some (.ref 49))) && (PySem.W.keepIn K (.ref 49) && (decide (PySem.W.subIn K (.ref 49) (.type "BaseException") = some true) && (decide (PySem.W.typeIn K (.ref 49) = some (.type "type")) &&
  (decide (PySem.W.nsIn K mainGlobals "LastTouchError" = some (some (.ref 24))) && (decide (PySem.W.exmOne K (.ref 49) (.ref 24) = some true) && (ecB K 49 && decide (PySem.W.kitOne K (.ref 49) (.ref 49) = some true))))))))
theorem and_t {a b : Bool} (h : (a && b) = true) : a = true ∧ b = true := Bool.and_eq_true_iff.mp h
theorem et_1 {K : PySem.W.Frag} (e : etB K = true) : PySem.W.excIn K 49 vB "ValueError.__new__" = true ∧ decide (PySem.W.nsIn K mainGlobals "InvalidText" = some (some (.ref 49))) = true ∧ PySem.W.keepIn K (.ref 49) = true ∧ decide (PySem.W.subIn K (.ref 49) (.type "BaseException") = some true) = true ∧ decide (PySem.W.typeIn K (.ref 49) = some (.type "type")) = true ∧
    decide (PySem.W.nsIn K mainGlobals "LastTouchError" = some (some (.ref 24))) = true ∧ decide (PySem.W.exmOne K (.ref 49) (.ref 24) = some true) = true ∧ ecB K 49 = true ∧ decide (PySem.W.kitOne K (.ref 49) (.ref 49) = some true) = true := by
  obtain ⟨e1, e⟩ := and_t e
  obtain ⟨e2, e⟩ := and_t e
  obtain ⟨e3, e⟩ := and_t e
  obtain ⟨e4, e⟩ := and_t e
  obtain ⟨e5, e⟩ := and_t e
  obtain ⟨e6, e⟩ := and_t e
  obtain ⟨e7, e⟩ := and_t e
  obtain ⟨e8, e9⟩ := and_t e
  exact ⟨e1, e2, e3, e4, e5, e6, e7, e8, e9⟩
theorem ec_of {K : PySem.W.Frag} {D : Addr} (e : ecB K D = true) : ExcC K D := by
  obtain ⟨e1, e⟩ := and_t e
  obtain ⟨e2, e⟩ := and_t e
  obtain ⟨e3, e⟩ := and_t e
  obtain ⟨e4, e⟩ := and_t e
  obtain ⟨e5, e⟩ := and_t e
  obtain ⟨e6, e⟩ := and_t e
  obtain ⟨e7, e8⟩ := and_t e
  exact ⟨of_decide_eq_true e1, of_decide_eq_true e2, of_decide_eq_true e3, e4, of_decide_eq_true e5, of_decide_eq_true e6, of_decide_eq_true e7, of_decide_eq_true e8⟩
def factsB (K : PySem.W.Frag) : Bool := etB K && ((dfL.all fun q => decide (PySem.W.nsIn K mainGlobals q.1 = some (some (.ref q.2))) && PySem.W.keepIn K (.ref q.2)) && (blL.all fun x => decide (PySem.W.nsIn K mainGlobals x = some none)))
section
variable {P : Program} {w : World} {K : PySem.W.Frag} {h : Heap} {mg : Str → Option Value}
theorem bl_of (X : K.In h) (G : h.Ns mainGlobals mg) (e : (blL.all fun x => decide (PySem.W.nsIn K mainGlobals x = some none)) = true) : Bl mg := by
  have z : ∀ x ∈ blL, mg x = none := fun x hx => PySem.W.mg_none_of X G (of_decide_eq_true (List.all_eq_true.mp e x hx))
  exact ⟨z _ (by decide +kernel), z _ (by decide +kernel), z _ (by decide +kernel), z _ (by decide +kernel), z _ (by decide +kernel), z _ (by decide +kernel), z _ (by decide +kernel), z _ (by decide +kernel), z _ (by decide +kernel), z _ (by decide +kernel), z _ (by decide +kernel), z _ (by decide +kernel), z _ (by decide +kernel), z _ (by decide +kernel)⟩
theorem fn1 {x : Str} {st : Stmt} {ps : List Str} {f : Addr} (X : K.In h) (G : h.Ns mainGlobals mg) (e : (dfL.all fun q => decide (PySem.W.nsIn K mainGlobals q.1 = some (some (.ref q.2))) && PySem.W.keepIn K (.ref q.2)) = true) (m : (x, f) ∈ dfL)
    {oc : Value} {od an : Option Addr} {osl : Array (Option Value)} {kV doc pm cdv ct : Value} (l : K.lookup f = some ⟨oc, od, .func (PySem.W.fnOf x x (defArgs st) (defBody st) (defScope st) .none kV doc pm an cdv ct), osl⟩) (k : PySem.W.codeIn K cdv x = true)
    (b : ∀ (kV doc pm : Value) (an : Option Addr) (cdv ct : Value) (us : List Value), us.length = ps.length → bindArgs (PySem.W.fnOf x x (defArgs st) (defBody st) (defScope st) .none kV doc pm an cdv ct) ⟨us, []⟩ = pure (ps.zip us)) :
    ∃ F : Fn K mg x st ps, F.f = f := by
  have z := List.all_eq_true.mp e _ m
  have F := fun_mk (st := st) l k (Bool.and_eq_true_iff.mp z).2
  exact ⟨⟨f, _, F, F.binds b, PySem.W.mg_of X G (of_decide_eq_true (Bool.and_eq_true_iff.mp z).1)⟩, rfl⟩
theorem all_mk (X : K.In h) (G : h.Ns mainGlobals mg) {fa : Addr} (hfa : mg "law" = some (.ref fa)) (B : factsB K = true)
    {oc0 : Value} {od0 an0 : Option Addr} {sl0 : Array (Option Value)} {kV0 dc0 pm0 cd0 ct0 : Value} (l0 : K.lookup 57 = some ⟨oc0, od0, .func (PySem.W.fnOf "is_name" "is_name" (defArgs sIsName) (defBody sIsName) (defScope sIsName) .none kV0 dc0 pm0 an0 cd0 ct0), sl0⟩) (c0 : PySem.W.codeIn K cd0 "is_name" = true)
    {oc1 : Value} {od1 an1 : Option Addr} {sl1 : Array (Option Value)} {kV1 dc1 pm1 cd1 ct1 : Value} (l1 : K.lookup 64 = some ⟨oc1, od1, .func (PySem.W.fnOf "is_program" "is_program" (defArgs sIsProgram) (defBody sIsProgram) (defScope sIsProgram) .none kV1 dc1 pm1 an1 cd1 ct1), sl1⟩) (c1 : PySem.W.codeIn K cd1 "is_program" = true)
    {oc2 : Value} {od2 an2 : Option Addr} {sl2 : Array (Option Value)} {kV2 dc2 pm2 cd2 ct2 : Value} (l2 : K.lookup 71 = some ⟨oc2, od2, .func (PySem.W.fnOf "check_program" "check_program" (defArgs sCheck) (defBody sCheck) (defScope sCheck) .none kV2 dc2 pm2 an2 cd2 ct2), sl2⟩) (c2 : PySem.W.codeIn K cd2 "check_program" = true)
    {oc3 : Value} {od3 an3 : Option Addr} {sl3 : Array (Option Value)} {kV3 dc3 pm3 cd3 ct3 : Value} (l3 : K.lookup 78 = some ⟨oc3, od3, .func (PySem.W.fnOf "_is_part" "_is_part" (defArgs sIsPart) (defBody sIsPart) (defScope sIsPart) .none kV3 dc3 pm3 an3 cd3 ct3), sl3⟩) (c3 : PySem.W.codeIn K cd3 "_is_part" = true)
    {oc4 : Value} {od4 an4 : Option Addr} {sl4 : Array (Option Value)} {kV4 dc4 pm4 cd4 ct4 : Value} (l4 : K.lookup 85 = some ⟨oc4, od4, .func (PySem.W.fnOf "_members" "_members" (defArgs sMembers) (defBody sMembers) (defScope sMembers) .none kV4 dc4 pm4 an4 cd4 ct4), sl4⟩) (c4 : PySem.W.codeIn K cd4 "_members" = true)
    {oc5 : Value} {od5 an5 : Option Addr} {sl5 : Array (Option Value)} {kV5 dc5 pm5 cd5 ct5 : Value} (l5 : K.lookup 92 = some ⟨oc5, od5, .func (PySem.W.fnOf "write" "write" (defArgs sWrite) (defBody sWrite) (defScope sWrite) .none kV5 dc5 pm5 an5 cd5 ct5), sl5⟩) (c5 : PySem.W.codeIn K cd5 "write" = true)
    {oc6 : Value} {od6 an6 : Option Addr} {sl6 : Array (Option Value)} {kV6 dc6 pm6 cd6 ct6 : Value} (l6 : K.lookup 99 = some ⟨oc6, od6, .func (PySem.W.fnOf "read" "read" (defArgs sRead) (defBody sRead) (defScope sRead) .none kV6 dc6 pm6 an6 cd6 ct6), sl6⟩) (c6 : PySem.W.codeIn K cd6 "read" = true)
    {oc7 : Value} {od7 an7 : Option Addr} {sl7 : Array (Option Value)} {kV7 dc7 pm7 cd7 ct7 : Value} (l7 : K.lookup 104 = some ⟨oc7, od7, .func (PySem.W.fnOf "_text" "_text" (defArgs sText) (defBody sText) (defScope sText) .none kV7 dc7 pm7 an7 cd7 ct7), sl7⟩) (c7 : PySem.W.codeIn K cd7 "_text" = true)
    {oc8 : Value} {od8 an8 : Option Addr} {sl8 : Array (Option Value)} {kV8 dc8 pm8 cd8 ct8 : Value} (l8 : K.lookup 111 = some ⟨oc8, od8, .func (PySem.W.fnOf "_text_within" "_text_within" (defArgs sWithin) (defBody sWithin) (defScope sWithin) .none kV8 dc8 pm8 an8 cd8 ct8), sl8⟩) (c8 : PySem.W.codeIn K cd8 "_text_within" = true)
    {oc9 : Value} {od9 an9 : Option Addr} {sl9 : Array (Option Value)} {kV9 dc9 pm9 cd9 ct9 : Value} (l9 : K.lookup 118 = some ⟨oc9, od9, .func (PySem.W.fnOf "_read_or" "_read_or" (defArgs sReadOr) (defBody sReadOr) (defScope sReadOr) .none kV9 dc9 pm9 an9 cd9 ct9), sl9⟩) (c9 : PySem.W.codeIn K cd9 "_read_or" = true)
    {oc10 : Value} {od10 an10 : Option Addr} {sl10 : Array (Option Value)} {kV10 dc10 pm10 cd10 ct10 : Value} (l10 : K.lookup 125 = some ⟨oc10, od10, .func (PySem.W.fnOf "_read_seq" "_read_seq" (defArgs sReadSeq) (defBody sReadSeq) (defScope sReadSeq) .none kV10 dc10 pm10 an10 cd10 ct10), sl10⟩) (c10 : PySem.W.codeIn K cd10 "_read_seq" = true)
    {oc11 : Value} {od11 an11 : Option Addr} {sl11 : Array (Option Value)} {kV11 dc11 pm11 cd11 ct11 : Value} (l11 : K.lookup 132 = some ⟨oc11, od11, .func (PySem.W.fnOf "_joined" "_joined" (defArgs sJoined) (defBody sJoined) (defScope sJoined) .none kV11 dc11 pm11 an11 cd11 ct11), sl11⟩) (c11 : PySem.W.codeIn K cd11 "_joined" = true)
    {oc12 : Value} {od12 an12 : Option Addr} {sl12 : Array (Option Value)} {kV12 dc12 pm12 cd12 ct12 : Value} (l12 : K.lookup 139 = some ⟨oc12, od12, .func (PySem.W.fnOf "_read_rep" "_read_rep" (defArgs sReadRep) (defBody sReadRep) (defScope sReadRep) .none kV12 dc12 pm12 an12 cd12 ct12), sl12⟩) (c12 : PySem.W.codeIn K cd12 "_read_rep" = true)
    {oc13 : Value} {od13 an13 : Option Addr} {sl13 : Array (Option Value)} {kV13 dc13 pm13 cd13 ct13 : Value} (l13 : K.lookup 146 = some ⟨oc13, od13, .func (PySem.W.fnOf "_read_word" "_read_word" (defArgs sReadWord) (defBody sReadWord) (defScope sReadWord) .none kV13 dc13 pm13 an13 cd13 ct13), sl13⟩) (c13 : PySem.W.codeIn K cd13 "_read_word" = true)
    {oc14 : Value} {od14 an14 : Option Addr} {sl14 : Array (Option Value)} {kV14 dc14 pm14 cd14 ct14 : Value} (l14 : K.lookup 153 = some ⟨oc14, od14, .func (PySem.W.fnOf "_law_mixed" "_law_mixed" (defArgs sMixed) (defBody sMixed) (defScope sMixed) .none kV14 dc14 pm14 an14 cd14 ct14), sl14⟩) (c14 : PySem.W.codeIn K cd14 "_law_mixed" = true)
    {oc15 : Value} {od15 an15 : Option Addr} {sl15 : Array (Option Value)} {kV15 dc15 pm15 cd15 ct15 : Value} (l15 : K.lookup 160 = some ⟨oc15, od15, .func (PySem.W.fnOf "_law_cell" "_law_cell" (defArgs sCell) (defBody sCell) (defScope sCell) .none kV15 dc15 pm15 an15 cd15 ct15), sl15⟩) (c15 : PySem.W.codeIn K cd15 "_law_cell" = true)
    {oc16 : Value} {od16 an16 : Option Addr} {sl16 : Array (Option Value)} {kV16 dc16 pm16 cd16 ct16 : Value} (l16 : K.lookup 167 = some ⟨oc16, od16, .func (PySem.W.fnOf "_law_take" "_law_take" (defArgs sTake) (defBody sTake) (defScope sTake) .none kV16 dc16 pm16 an16 cd16 ct16), sl16⟩) (c16 : PySem.W.codeIn K cd16 "_law_take" = true)
    {oc17 : Value} {od17 an17 : Option Addr} {sl17 : Array (Option Value)} {kV17 dc17 pm17 cd17 ct17 : Value} (l17 : K.lookup 174 = some ⟨oc17, od17, .func (PySem.W.fnOf "_law_words" "_law_words" (defArgs sWords) (defBody sWords) (defScope sWords) .none kV17 dc17 pm17 an17 cd17 ct17), sl17⟩) (c17 : PySem.W.codeIn K cd17 "_law_words" = true)
    {oc18 : Value} {od18 an18 : Option Addr} {sl18 : Array (Option Value)} {kV18 dc18 pm18 cd18 ct18 : Value} (l18 : K.lookup 179 = some ⟨oc18, od18, .func (PySem.W.fnOf "_law_program" "_law_program" (defArgs sProgram) (defBody sProgram) (defScope sProgram) .none kV18 dc18 pm18 an18 cd18 ct18), sl18⟩) (c18 : PySem.W.codeIn K cd18 "_law_program" = true)
    {oc19 : Value} {od19 an19 : Option Addr} {sl19 : Array (Option Value)} {kV19 dc19 pm19 cd19 ct19 : Value} (l19 : K.lookup 186 = some ⟨oc19, od19, .func (PySem.W.fnOf "_law_in" "_law_in" (defArgs sLawIn) (defBody sLawIn) (defScope sLawIn) .none kV19 dc19 pm19 an19 cd19 ct19), sl19⟩) (c19 : PySem.W.codeIn K cd19 "_law_in" = true)
    {oc20 : Value} {od20 an20 : Option Addr} {sl20 : Array (Option Value)} {kV20 dc20 pm20 cd20 ct20 : Value} (l20 : K.lookup 191 = some ⟨oc20, od20, .func (PySem.W.fnOf "_law_text" "_law_text" (defArgs sLawText) (defBody sLawText) (defScope sLawText) .none kV20 dc20 pm20 an20 cd20 ct20), sl20⟩) (c20 : PySem.W.codeIn K cd20 "_law_text" = true)
    {oc21 : Value} {od21 an21 : Option Addr} {sl21 : Array (Option Value)} {kV21 dc21 pm21 cd21 ct21 : Value} (l21 : K.lookup 198 = some ⟨oc21, od21, .func (PySem.W.fnOf "_law_read" "_law_read" (defArgs sLawRead) (defBody sLawRead) (defScope sLawRead) .none kV21 dc21 pm21 an21 cd21 ct21), sl21⟩) (c21 : PySem.W.codeIn K cd21 "_law_read" = true)
    {oc22 : Value} {od22 an22 : Option Addr} {sl22 : Array (Option Value)} {kV22 dc22 pm22 cd22 ct22 : Value} (l22 : K.lookup 205 = some ⟨oc22, od22, .func (PySem.W.fnOf "_law_refused" "_law_refused" (defArgs sRefused) (defBody sRefused) (defScope sRefused) .none kV22 dc22 pm22 an22 cd22 ct22), sl22⟩) (c22 : PySem.W.codeIn K cd22 "_law_refused" = true)
    {oc23 : Value} {od23 an23 : Option Addr} {sl23 : Array (Option Value)} {kV23 dc23 pm23 cd23 ct23 : Value} (l23 : K.lookup 212 = some ⟨oc23, od23, .func (PySem.W.fnOf "_law_bent" "_law_bent" (defArgs sBent) (defBody sBent) (defScope sBent) .none kV23 dc23 pm23 an23 cd23 ct23), sl23⟩) (c23 : PySem.W.codeIn K cd23 "_law_bent" = true)
    {oc24 : Value} {od24 an24 : Option Addr} {sl24 : Array (Option Value)} {kV24 dc24 pm24 cd24 ct24 : Value} (l24 : K.lookup 219 = some ⟨oc24, od24, .func (PySem.W.fnOf "_law_good" "_law_good" (defArgs sGood) (defBody sGood) (defScope sGood) .none kV24 dc24 pm24 an24 cd24 ct24), sl24⟩) (c24 : PySem.W.codeIn K cd24 "_law_good" = true)
    {oc25 : Value} {od25 an25 : Option Addr} {sl25 : Array (Option Value)} {kV25 dc25 pm25 cd25 ct25 : Value} (l25 : K.lookup 224 = some ⟨oc25, od25, .func (PySem.W.fnOf "_law_sizes_good" "_law_sizes_good" (defArgs sSizes) (defBody sSizes) (defScope sSizes) .none kV25 dc25 pm25 an25 cd25 ct25), sl25⟩) (c25 : PySem.W.codeIn K cd25 "_law_sizes_good" = true)
    {oc26 : Value} {od26 an26 : Option Addr} {sl26 : Array (Option Value)} {kV26 dc26 pm26 cd26 ct26 : Value} (l26 : K.lookup 229 = some ⟨oc26, od26, .func (PySem.W.fnOf "_law_more_sizes" "_law_more_sizes" (defArgs sMore) (defBody sMore) (defScope sMore) .none kV26 dc26 pm26 an26 cd26 ct26), sl26⟩) (c26 : PySem.W.codeIn K cd26 "_law_more_sizes" = true)
    {oc27 : Value} {od27 an27 : Option Addr} {sl27 : Array (Option Value)} {kV27 dc27 pm27 cd27 ct27 : Value} (l27 : K.lookup 234 = some ⟨oc27, od27, .func (PySem.W.fnOf "law" "law" (defArgs sLaw) (defBody sLaw) (defScope sLaw) .none kV27 dc27 pm27 an27 cd27 ct27), sl27⟩) (c27 : PySem.W.codeIn K cd27 "law" = true)
    {tL : Tok} (gL : PySem.W.nsIn K mainGlobals "LETTERS" = some (some (.str letters tL)))
    {ti0 : Tok} (gi0 : PySem.W.nsIn K mainGlobals "LONGEST_NAME" = some (some (.int 8 ti0)))
    {ti1 : Tok} (gi1 : PySem.W.nsIn K mainGlobals "MOST_PARTS" = some (some (.int 60 ti1)))
    {ti2 : Tok} (gi2 : PySem.W.nsIn K mainGlobals "MOST_NAMES" = some (some (.int 6 ti2)))
    {ti3 : Tok} (gi3 : PySem.W.nsIn K mainGlobals "DEEPEST" = some (some (.int 40 ti3)))
    {aN : Addr} (gN : PySem.W.nsIn K mainGlobals "NOT_NAMES" = some (some (.ref aN))) {dN : Option Addr} {nN : Nat} {slN : Array (Option Value)} {t1 t2 t3 : Tok} (lN : K.lookup aN = some ⟨.type "tuple", dN, .seq [Value.str "skip" t1, Value.str "start" t2, Value.str "end" t3].toArray nN, slN⟩)
    : ∃ fd : FuncData, (∀ (s : Shared) (u : Value), BindsTo s fd ⟨[u], []⟩ [("script", u)]) ∧ ∀ base : Heap, K.In base → base.Ns mainGlobals mg → FnG P w K mg base 188 fa fd ["script"] (spLaw K) := by
  obtain ⟨B2, B⟩ := Bool.and_eq_true_iff.mp B
  obtain ⟨B0, B1⟩ := Bool.and_eq_true_iff.mp B
  have T := bl_of X G B1
  obtain ⟨F0, eF0⟩ := fn1 (x := "is_name") (st := sIsName) (ps := ["value"]) X G B0 (by decide +kernel) l0 c0 (fun _ _ _ _ _ _ us hl => match us, hl with | [_], _ => rfl)
  obtain ⟨F1, eF1⟩ := fn1 (x := "is_program") (st := sIsProgram) (ps := ["value"]) X G B0 (by decide +kernel) l1 c1 (fun _ _ _ _ _ _ us hl => match us, hl with | [_], _ => rfl)
  obtain ⟨F2, eF2⟩ := fn1 (x := "check_program") (st := sCheck) (ps := ["program"]) X G B0 (by decide +kernel) l2 c2 (fun _ _ _ _ _ _ us hl => match us, hl with | [_], _ => rfl)
  obtain ⟨F3, eF3⟩ := fn1 (x := "_is_part") (st := sIsPart) (ps := ["value"]) X G B0 (by decide +kernel) l3 c3 (fun _ _ _ _ _ _ us hl => match us, hl with | [_], _ => rfl)
  obtain ⟨F4, eF4⟩ := fn1 (x := "_members") (st := sMembers) (ps := ["part"]) X G B0 (by decide +kernel) l4 c4 (fun _ _ _ _ _ _ us hl => match us, hl with | [_], _ => rfl)
  obtain ⟨F5, eF5⟩ := fn1 (x := "write") (st := sWrite) (ps := ["program"]) X G B0 (by decide +kernel) l5 c5 (fun _ _ _ _ _ _ us hl => match us, hl with | [_], _ => rfl)
  obtain ⟨F6, eF6⟩ := fn1 (x := "read") (st := sRead) (ps := ["text"]) X G B0 (by decide +kernel) l6 c6 (fun _ _ _ _ _ _ us hl => match us, hl with | [_], _ => rfl)
  obtain ⟨F7, eF7⟩ := fn1 (x := "_text") (st := sText) (ps := ["program"]) X G B0 (by decide +kernel) l7 c7 (fun _ _ _ _ _ _ us hl => match us, hl with | [_], _ => rfl)
  obtain ⟨F8, eF8⟩ := fn1 (x := "_text_within") (st := sWithin) (ps := ["member", "wrapped"]) X G B0 (by decide +kernel) l8 c8 (fun _ _ _ _ _ _ us hl => match us, hl with | [_, _], _ => rfl)
  obtain ⟨F9, eF9⟩ := fn1 (x := "_read_or") (st := sReadOr) (ps := ["text", "at"]) X G B0 (by decide +kernel) l9 c9 (fun _ _ _ _ _ _ us hl => match us, hl with | [_, _], _ => rfl)
  obtain ⟨F10, eF10⟩ := fn1 (x := "_read_seq") (st := sReadSeq) (ps := ["text", "at"]) X G B0 (by decide +kernel) l10 c10 (fun _ _ _ _ _ _ us hl => match us, hl with | [_, _], _ => rfl)
  obtain ⟨F11, eF11⟩ := fn1 (x := "_joined") (st := sJoined) (ps := ["kind", "members"]) X G B0 (by decide +kernel) l11 c11 (fun _ _ _ _ _ _ us hl => match us, hl with | [_, _], _ => rfl)
  obtain ⟨F12, eF12⟩ := fn1 (x := "_read_rep") (st := sReadRep) (ps := ["text", "at"]) X G B0 (by decide +kernel) l12 c12 (fun _ _ _ _ _ _ us hl => match us, hl with | [_, _], _ => rfl)
  obtain ⟨F13, eF13⟩ := fn1 (x := "_read_word") (st := sReadWord) (ps := ["text", "at"]) X G B0 (by decide +kernel) l13 c13 (fun _ _ _ _ _ _ us hl => match us, hl with | [_, _], _ => rfl)
  obtain ⟨F14, eF14⟩ := fn1 (x := "_law_mixed") (st := sMixed) (ps := ["cell", "k"]) X G B0 (by decide +kernel) l14 c14 (fun _ _ _ _ _ _ us hl => match us, hl with | [_, _], _ => rfl)
  obtain ⟨F15, eF15⟩ := fn1 (x := "_law_cell") (st := sCell) (ps := ["script", "k"]) X G B0 (by decide +kernel) l15 c15 (fun _ _ _ _ _ _ us hl => match us, hl with | [_, _], _ => rfl)
  obtain ⟨F16, eF16⟩ := fn1 (x := "_law_take") (st := sTake) (ps := ["own", "options"]) X G B0 (by decide +kernel) l16 c16 (fun _ _ _ _ _ _ us hl => match us, hl with | [_, _], _ => rfl)
  obtain ⟨F17, eF17⟩ := fn1 (x := "_law_words") (st := sWords) (ps := ["own", "many"]) X G B0 (by decide +kernel) l17 c17 (fun _ _ _ _ _ _ us hl => match us, hl with | [_, _], _ => rfl)
  obtain ⟨F18, eF18⟩ := fn1 (x := "_law_program") (st := sProgram) (ps := ["own", "called", "deep"]) X G B0 (by decide +kernel) l18 c18 (fun _ _ _ _ _ _ us hl => match us, hl with | [_, _, _], _ => rfl)
  obtain ⟨F19, eF19⟩ := fn1 (x := "_law_in") (st := sLawIn) (ps := ["one", "kinds"]) X G B0 (by decide +kernel) l19 c19 (fun _ _ _ _ _ _ us hl => match us, hl with | [_, _], _ => rfl)
  obtain ⟨F20, eF20⟩ := fn1 (x := "_law_text") (st := sLawText) (ps := ["one"]) X G B0 (by decide +kernel) l20 c20 (fun _ _ _ _ _ _ us hl => match us, hl with | [_], _ => rfl)
  obtain ⟨F21, eF21⟩ := fn1 (x := "_law_read") (st := sLawRead) (ps := ["text"]) X G B0 (by decide +kernel) l21 c21 (fun _ _ _ _ _ _ us hl => match us, hl with | [_], _ => rfl)
  obtain ⟨F22, eF22⟩ := fn1 (x := "_law_refused") (st := sRefused) (ps := ["text"]) X G B0 (by decide +kernel) l22 c22 (fun _ _ _ _ _ _ us hl => match us, hl with | [_], _ => rfl)
  obtain ⟨F23, eF23⟩ := fn1 (x := "_law_bent") (st := sBent) (ps := ["own", "text"]) X G B0 (by decide +kernel) l23 c23 (fun _ _ _ _ _ _ us hl => match us, hl with | [_, _], _ => rfl)
  obtain ⟨F24, eF24⟩ := fn1 (x := "_law_good") (st := sGood) (ps := ["own", "one"]) X G B0 (by decide +kernel) l24 c24 (fun _ _ _ _ _ _ us hl => match us, hl with | [_, _], _ => rfl)
  obtain ⟨F25, eF25⟩ := fn1 (x := "_law_sizes_good") (st := sSizes) (ps := []) X G B0 (by decide +kernel) l25 c25 (fun _ _ _ _ _ _ us hl => match us, hl with | [], _ => rfl)
  obtain ⟨F26, eF26⟩ := fn1 (x := "_law_more_sizes") (st := sMore) (ps := ["a", "b"]) X G B0 (by decide +kernel) l26 c26 (fun _ _ _ _ _ _ us hl => match us, hl with | [_, _], _ => rfl)
  obtain ⟨F27, eF27⟩ := fn1 (x := "law") (st := sLaw) (ps := ["script"]) X G B0 (by decide +kernel) l27 c27 (fun _ _ _ _ _ _ us hl => match us, hl with | [_], _ => rfl)
  have GB : Gb K mg := ⟨⟨_, PySem.W.mg_of X G gL, ⟨_, rfl⟩⟩, ⟨aN, PySem.W.mg_of X G gN, fun H => .inr ⟨_, _, _, lN, rfl, rfl, (show 3 ≤ sizeLine by decide), .cons ⟨_, rfl⟩ (.cons ⟨_, rfl⟩ (.cons ⟨_, rfl⟩ .nil))⟩⟩, ⟨_, PySem.W.mg_of X G gi0, ⟨_, rfl⟩⟩, ⟨_, PySem.W.mg_of X G gi1, ⟨_, rfl⟩⟩, ⟨_, PySem.W.mg_of X G gi2, ⟨_, rfl⟩⟩, ⟨_, PySem.W.mg_of X G gi3, ⟨_, rfl⟩⟩⟩
  have ET : ErrT K mg 49 24 := ⟨(et_1 B2).1, PySem.W.mg_of X G (of_decide_eq_true (et_1 B2).2.1), (et_1 B2).2.2.1, of_decide_eq_true (et_1 B2).2.2.2.1, of_decide_eq_true (et_1 B2).2.2.2.2.1, PySem.W.mg_of X G (of_decide_eq_true (et_1 B2).2.2.2.2.2.1), of_decide_eq_true (et_1 B2).2.2.2.2.2.2.1, ec_of (et_1 B2).2.2.2.2.2.2.2.1, of_decide_eq_true (et_1 B2).2.2.2.2.2.2.2.2⟩
  have L : Lw K mg := ⟨T, GB, 49, 24, ET, F0, F1, F2, F3, F4, F5, F6, F7, F8, F9, F10, F11, F12, F13, F14, F15, F16, F17, F18, F19, F20, F21, F22, F23, F24, F25, F26⟩
  have e := hfa.symm.trans F27.m
  cases e
  obtain ⟨f, fd, Ff, Fb, Fm⟩ := F27
  exact ⟨fd, fun s u => by
    obtain ⟨oc, od, kV, doc, pm, an, cdv, ct, osl, rfl, _⟩ := Ff.ex
    exact .of_eq rfl, fun base _ _ => ok_law L Ff⟩
end
end L50
open PySem PySem.W PyProof.Rows
set_option maxRecDepth 100000 in
set_option maxHeartbeats 0 in
theorem PySem.Challenge.cw_lasttouch_k52_texts_of_programs_holds : PySem.Challenge.rw_lasttouch_k52_texts_of_programs.Holds := by
  w_on; o_law; k_head; (case hw => w_witness2)
  k_fill
  refine L54.walk54 (l := PySem.Challenge.rw_lasttouch_k52_texts_of_programs) (k := 188) (x := "script") (sp := L50.spLaw) rfl (by decide) rfl ⟨rfl, by decide, by decide⟩ (fun w h Y => PySem.W.kIn_of Y) ?F (fun K H a ns hl hO hS => ⟨a, ns, rfl, hS, fun _ => rfl⟩)
  case F =>
    intro w mg fa h KX G hmg
    refine' L50.all_mk KX G hmg ?B ?l0 ?c0 ?l1 ?c1 ?l2 ?c2 ?l3 ?c3 ?l4 ?c4 ?l5 ?c5 ?l6 ?c6 ?l7 ?c7 ?l8 ?c8 ?l9 ?c9 ?l10 ?c10 ?l11 ?c11 ?l12 ?c12 ?l13 ?c13 ?l14 ?c14 ?l15 ?c15 ?l16 ?c16 ?l17 ?c17 ?l18 ?c18 ?l19 ?c19 ?l20 ?c20 ?l21 ?c21 ?l22 ?c22 ?l23 ?c23 ?l24 ?c24 ?l25 ?c25 ?l26 ?c26 ?l27 ?c27 ?gL ?gi0 ?gi1 ?gi2 ?gi3 ?gN ?lN
    (case B => kernel_rfl)
    (case l0 => k_is)
    (case c0 => k_is)
    (case l1 => k_is)
    (case c1 => k_is)
    (case l2 => k_is)
    (case c2 => k_is)
    (case l3 => k_is)
    (case c3 => k_is)
    (case l4 => k_is)
    (case c4 => k_is)
    (case l5 => k_is)
    (case c5 => k_is)
    (case l6 => k_is)
    (case c6 => k_is)
    (case l7 => k_is)
    (case c7 => k_is)
    (case l8 => k_is)
    (case c8 => k_is)
    (case l9 => k_is)
    (case c9 => k_is)
    (case l10 => k_is)
    (case c10 => k_is)
    (case l11 => k_is)
    (case c11 => k_is)
    (case l12 => k_is)
    (case c12 => k_is)
    (case l13 => k_is)
    (case c13 => k_is)
    (case l14 => k_is)
    (case c14 => k_is)
    (case l15 => k_is)
    (case c15 => k_is)
    (case l16 => k_is)
    (case c16 => k_is)
    (case l17 => k_is)
    (case c17 => k_is)
    (case l18 => k_is)
    (case c18 => k_is)
    (case l19 => k_is)
    (case c19 => k_is)
    (case l20 => k_is)
    (case c20 => k_is)
    (case l21 => k_is)
    (case c21 => k_is)
    (case l22 => k_is)
    (case c22 => k_is)
    (case l23 => k_is)
    (case c23 => k_is)
    (case l24 => k_is)
    (case c24 => k_is)
    (case l25 => k_is)
    (case c25 => k_is)
    (case l26 => k_is)
    (case c26 => k_is)
    (case l27 => k_is)
    (case c27 => k_is)
    (case gL => k_is)
    (case gi0 => k_is)
    (case gi1 => k_is)
    (case gi2 => k_is)
    (case gi3 => k_is)
    (case gN => k_is)
    (case lN => k_is)
