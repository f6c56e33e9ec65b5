import PyProof.Rows.All
import Wide.All
import OpenK.AllK
import Wide.FinOn
import HandS.ForMost
import HandS.ForExc
import HandS.ExcValue
import HandS.ExcInit
import HandS.ExcIs
import HandS.IsInst
import HandS.Wide
import HandS.DeepEq
import HandS.TupAny
import HandS.Defaults
import HandS.ExcField
import PyProof.ReprRoads
import PySem.Challenge.RW_lasttouch_k54_errors_created
import HandS.Walk
import HandS.Style
import HandS.DictComp
import KE.KExcIs
import PyProof.TupleOfStr
import HandS.ExcBuiltin
import HandS.LawCells
set_option Elab.async false
set_option linter.all false
set_option maxRecDepth 100000
set_option maxHeartbeats 8000000
namespace PySem
namespace KwX
open PySem.W PySem.Calls PyProof.Rows PySem.HandSPX
section
variable {M : Model} {A : Around} {E : Value → Shared → Prop} {h : Heap} {g : Array GenState} {d : Drawn} {t : Nat} {os : OsState}
variable {nm q : Str} {C N : Addr} {bs bm bmB : List Value} {hdct : Bool} {sn : List Str} {sub : List Value} {ab : Bool} {col : Option Bool} {dd : Option Addr} {k0 k1 k2 k3 k5 : Option Value} {B newId initId : String}
theorem chkNew (F : ExcBaseFacts B newId initId bmB) (hT : ∀ X : String, bm.contains (.type X) = bmB.contains (.type X)) {us : List Value} {kw : List (Str × Value)} {Q : Unit → Shared → Prop}
    (hC : h.get? C = some (excClassObj nm q C N bs bm hdct sn sub ab col dd k0 k1 k2 k3 k5 newId))
    (hq : Q () ⟨h, g, d, t, os⟩) : wpAny M A (checkBuiltinCall newId ⟨.ref C :: us, kw⟩) Q E ⟨h, g, d, t, os⟩ := by
  have c1 : (Value.ref C :: bm).contains (.type B) = true := by rw [List.contains_cons, hT, F.hasB, Bool.or_true]
  have c2 := F.noStar
  simp only [checkBuiltinCall, F.newKind, F.newSplit, F.newRow]
  repeat (first | refine wpAny_loadPart_at hC ?_ | (refine wpAny_isSubtype_exc hC ?_; rw [c1]) | refine wpAny_staticBase_exc hC ?_ | refine wpAny_madeBy_exc hC ?_ | simp only [bne_self_eq_false, Bool.false_eq_true, if_false] | wp_step)
  exact hq
end
section
variable {prog : Program} {w : World} {A : Around} {E : Value → Shared → Prop} {R : Result → Shared → Prop} {h : Heap} {g : Array GenState} {d : Drawn} {t : Nat} {os : OsState}
variable {nm q : Str} {C N : Addr} {bs bm bmB : List Value} {hdct : Bool} {sn : List Str} {sub : List Value} {ab : Bool} {col : Option Bool} {dd : Option Addr} {k0 k1 k2 k3 k5 : Option Value} {B newId initId : String}
theorem newKw (F : ExcBaseFacts B newId initId bmB) (hT : ∀ X : String, bm.contains (.type X) = bmB.contains (.type X)) {us : List Value} {kw : List (Str × Value)}
    (hC : h.get? C = some (excClassObj nm q C N bs bm hdct sn sub ab col dd k0 k1 k2 k3 k5 newId))
    (hq : R (.ok (.ret (.ref (h.objs.size + 1)))) ⟨(h.push { cls := .type "tuple", data := .seq us.toArray }).push
      { cls := .ref C, data := .fields #[.ref h.objs.size, .none, .none, .none, .bool false, .none] }, g, d, t, os⟩) (hrest : us.length ≤ sizeLine) :
    codeAny (model prog w) A (.builtin newId ⟨.ref C :: us, kw⟩) R ⟨h, g, d, t, os⟩ := by
  have c0 := F.ends
  have c1 : (Value.ref C :: bm).contains (.type B) = true := by rw [List.contains_cons, hT, F.hasB, Bool.or_true]
  have c2 : (Value.ref C :: bm).contains (.type "AttributeError") = false := by rw [List.contains_cons, hT, F.noAttr]; rfl
  have c3 : (Value.ref C :: bm).contains (.type "NameError") = false := by rw [List.contains_cons, hT, F.noName]; rfl
  refine codeAny_builtinAt F.entry ?_
  unfold Builtin.«BaseException.__new__»
  refine wpAt_bind ?_
  show wpAt _ _ _ (stack >>= _) _ _ _
  refine wpAt_bind (wpAt_stack fun p below => wpAt_of_wpAny ?_)
  wp_walk
  refine wpAt_of_wpAny ?_
  rw [F.owner]
  repeat (first | with_reducible refine wpAny_madeHere_exc F.canon hC ?_ | with_reducible refine wpAny_loadPart_at hC ?_ | (with_reducible refine wpAny_isSubtype_exc hC ?_; first | rw [c1] | rw [c2] | rw [c3]) | wp_step)
  show R _ _
  rw [Heap.size_push]
  exact hq
theorem tcallKw (F : ExcBaseFacts B newId initId bmB) (hT : ∀ X : String, bm.contains (.type X) = bmB.contains (.type X)) {us : List Value} {kw : List (Str × Value)} {fI : Addr} {Q : Fin → Shared → Prop}
    (hC : h.get? C = some (excClassObj nm q C N bs bm hdct sn sub ab col dd k0 k1 k2 k3 k5 newId))
    (hi : W.Looks (model prog w) h (typeLookup (.ref C) "__init__") (some (.ref fI))) (hb : ∀ self, W.Looks (model prog w) h (bindSpecial (.ref fI) self) (.ref fI, [self])) (hrest : us.length ≤ sizeLine)
    (hq : codeAny (model prog w) A (.call (.ref fI) ⟨.ref (h.objs.size + 1) :: us, kw⟩)
      (fun r s' => match r with | .ok (.ret v) => v = .none ∧ Q (.done (.ret (.ref (h.objs.size + 1)))) s' | .ok _ => False | .error e => E e s')
      ⟨(h.push (W.kdv_tup us)).push (excO C h.objs.size), g, d, t, os⟩) :
    wpAny (model prog w) A (Builtin.«type.__call__» ⟨.ref C :: us, kw⟩) Q E ⟨h, g, d, t, os⟩ := by
  repeat (first | with_reducible refine wpAny_loadPart_at hC ?_ | with_reducible refine wpAny_madeBy_exc hC ?_ | wp_step)
  refine codeAny_call_builtin_code (Code.quiet_builtin _ F.quiet) (chkNew F hT hC ?_)
  refine newKw F hT hC ?_ hrest
  show wpAny _ _ _ _ _ _
  have k : ∀ b o, h.get? b = some o → ((h.push (W.kdv_tup us)).push (excO C h.objs.size)).get? b = some o := fun b o e => Heap.get?_push_of_some _ (Heap.get?_push_of_some _ e)
  have hC' := k _ _ hC
  have hgt : ((h.push (W.kdv_tup us)).push (excO C h.objs.size)).get? (h.objs.size + 1) = some (excO C h.objs.size) := by heap_get
  have c4 : (Value.ref C :: bm).contains (.ref C) = true := by simp
  have i1 := hi.keeps k
  have b1 := (hb (.ref (h.objs.size + 1))).keeps k
  unfold isInstance
  repeat (first | with_reducible refine wpAny_loadPart_at hgt ?_ | (with_reducible refine wpAny_isSubtype_exc hC' ?_; rw [c4]) | wp_step)
  show wpAny _ _ (typeLookup (.ref C) _) _ _ _
  refine i1.at ?_
  refine wpAny_holding (wpAny_bind (b1.at ?_))
  refine wpAny_bind (wpAny_call (codeAny_mono hq fun r s' z => ?_))
  rcases r with e | (v | _ | _ | _) <;> first | exact z | exact z.elim | skip
  obtain ⟨rfl, z⟩ := z
  first
    | exact wpAny_pure (wpAny_pure z)
    | (wp_walk; exact z)
theorem ownKw (F : ExcBaseFacts B newId initId bmB) (hT : ∀ X : String, bm.contains (.type X) = bmB.contains (.type X)) {us : List Value} {kw : List (Str × Value)} {fI : Addr}
    (hC : h.get? C = some (excClassObj nm q C N bs bm hdct sn sub ab col dd k0 k1 k2 k3 k5 newId))
    (hi : W.Looks (model prog w) h (typeLookup (.ref C) "__init__") (some (.ref fI))) (hb : ∀ self, W.Looks (model prog w) h (bindSpecial (.ref fI) self) (.ref fI, [self])) (hrest : us.length ≤ sizeLine)
    (hq : codeAny (model prog w) (A.under (.builtin "type.__call__" ⟨.ref C :: us, kw⟩)) (.call (.ref fI) ⟨.ref (h.objs.size + 1) :: us, kw⟩) (W.InitBack (h.objs.size + 1) R)
      ⟨(h.push (W.kdv_tup us)).push (excO C h.objs.size), g, d, t, os⟩) :
    codeAny (model prog w) A (.call (.ref C) ⟨us, kw⟩) R ⟨h, g, d, t, os⟩ := by
  have f1 := tc_lookup
  have f2 := tc_bind (.ref C)
  have f3 : (⟨h, g, d, t, os⟩ : Shared).TypeIs (.ref C) "type" := ⟨_, hC, rfl⟩
  refine codeAny_of_tree ?_
  show wpAny _ _ (callAny (.ref C) _) _ _ _
  repeat (any_goals (first | assumption | with_reducible refine wpAny_loadPart_at hC ?_ | wp_step))
  refine ⟨rfl, ?_⟩
  refine codeAny_call_builtin_at (Code.quiet_builtin _ (by decide +kernel)) entry_typeCall (wpAny_check_type_call_sub hC (tcallKw F hT hC hi hb hrest ?_))
  refine codeAny_mono hq fun r s' z => ?_
  rcases r with e | (v | _ | _ | _) <;> exact z
end
end KwX
end PySem
namespace PySem.W
open PySem PySem.Spec PySem.Calls PyProof.Rows
section
variable {prog : Program} {w : World} {A : Around} {E : Value → Shared → Prop} {s : Shared} {K : Frag} {x D : Addr} {ox : Obj} {od : Option Obj}
theorem clsE54 {Q : Option Value → Shared → Prop} (h1 : findIn K (.ref D) "__getattribute__" = some (some (.builtin "BaseException.__getattribute__"))) (h2 : findIn K (.ref D) "__getattr__" = some none)
    (h3 : subIn K (.ref D) (.type "BaseException") = some true)
    (hf : findObj K D od "__class__" = some (.bind (.builtin "getset_descriptor.__get__") (.builtin "object.__class__"))) (h4 : mroIn K D (.type "object") = some true)
    (X : K.In s.heap) (I : InstAt s.heap x ox D od) (h : Q (some (.ref D)) { s with toks := s.toks + 1 }) : wpAny (model prog w) A (getAttr? (.ref x) "__class__") Q E s := by
  obtain ⟨hp, g, d, t, os⟩ := s
  have g0 := I.type (M := model prog w)
  have g1 := looks_findIn (M := model prog w) X h1
  have g2 := looks_findIn (M := model prog w) X h2
  have g3 := looks_find (M := model prog w) X I hf
  have sub : Looks (model prog w) hp (isInstance (.ref x) (.type "BaseException")) true := g0.andThen (looks_subIn X h3)
  have e0 : (false && onTheHeap (Value.builtin "BaseException.__getattribute__")) = false := rfl
  have e2 : (Value.builtin "BaseException.__getattribute__" == Value.builtin "object.__getattribute__") = false := by decide +kernel
  have e1 : (onTheHeap (Value.ref D) && Value.builtin "BaseException.__getattribute__" == Value.builtin "object.__getattribute__") = false := by rw [e2]; rfl
  unfold getAttr? getAttrBy? getAttrBy
  refine wpAny_bind (wpAny_mkText (wpAny_bind (wpAny_attempt (wpAny_holding (wpAny_bind (g0.at (wpAny_bind (g1.at ?_))))))))
  show wpAny _ _ (if (onTheHeap (Value.ref D) && Value.builtin "BaseException.__getattribute__" == Value.builtin "object.__getattribute__") = true then _ else _) _ _ _
  rw [e1, if_neg Bool.false_ne_true]
  unfold getAttrByItsOwn hookBefore
  refine wpAny_bind ?_
  rw [if_pos (show onTheHeap (Value.ref D) = true from rfl)]
  refine g2.at ?_
  refine wpAny_bind (wpAny_attempt (wpAny_holding ?_))
  unfold callGetattribute
  rw [e0, if_neg Bool.false_ne_true]
  unfold boundAndCalled
  rw [PySem.F.excAttr_ValueError.ga.bind (.ref x)]
  refine wpAny_bind (wpAny_pure ?_)
  show wpAny _ _ (call (.builtin "BaseException.__getattribute__") [.ref x, .str "__class__" t]) _ _ _
  refine wpAny_call (codeAny_call_builtin PySem.F.excAttr_ValueError.ga.plain PySem.F.entry_bexc_ga ?_)
  refine @check_slot (model prog w) _ _ ⟨hp, g, d, t + 1, os⟩ "BaseException.__getattribute__" "BaseException" "__getattribute__" (.ref x) [.str "__class__" t] [] _ (by decide +kernel) (by decide +kernel) sub (PySem.F.args_bexc_ga (.ref x) (.str "__class__" t)) ?_
  unfold Builtin.«object.__getattribute__»
  refine wpAny_bind (wpAny_of_eq (a := ((Value.ref x : Value), [Value.str "__class__" t])) (by first | rfl | (simp only [slotArgs]; rfl)) ?_)
  refine wpAny_bind (wpAny_pure (wpAny_bind (g0.at (wpAny_bind (g3.at ?_)))))
  show wpAny _ _ (holding [Value.builtin "object.__class__"] (call (.builtin "getset_descriptor.__get__") [.builtin "object.__class__", .ref x, .ref D]) >>= ret) _ _ _
  refine wpAny_bind (wpAny_holding (wpAny_call (class_get (s := ⟨hp, g, d, t + 1, os⟩) (ox := ox) (od := od) X I h4 ?_)))
  refine wpAny_pure ?_
  show wpAny _ _ (handedOut (.ref D)) _ _ _
  rw [handedOut_of (v := .ref D) rfl]
  first
    | exact wpAny_pure (wpAny_pure h)
    | exact wpAny_pure h
    | exact wpAny_pure (wpAny_bind (wpAny_pure (wpAny_pure h)))
end
end PySem.W
namespace L54
open PySem PySem.Spec PyProof.Rows L2
theorem kitx54 {K : PySem.W.Frag} {D x : Addr} {ox : Obj} {od : Option Obj} (c : ExcC K D) : PySem.W.KitX K (.ref x) (.ref D) (fun h => PySem.W.InstAt h x ox D od) where
  ty := fun _ _ _ I => I.type
  it := fun _ _ X _ => by
    obtain ⟨cdD, hcD, _⟩ := PySem.W.any_some c.hd
    unfold PySem.W.clsIn at hcD
    split at hcD
    · rename_i c' d' cd' sl' ho
      intro A' Q' E' s' k q
      unfold isType loadHead
      exact wpAny_bind (wpAny_loadPart (k _ _ (X _ _ ho)) (wpAny_pure q))
    · cases hcD
  ne := fun h tp dd its n sl X htp => by
    obtain ⟨cdD, hcD, _⟩ := PySem.W.any_some c.hd
    refine Bool.eq_false_iff.mpr fun q => ?_
    have e : D = tp := Value.ref.inj (beq_iff_eq.mp q)
    subst e
    unfold PySem.W.clsIn at hcD
    split at hcD
    · rename_i c' d' cd' sl' ho
      have z := (X _ _ ho).symm.trans htp
      cases z
    · cases hcD
  ca := fun X I k => by
    have hc : (PySem.W.clsIn K D).isSome = true := by
      obtain ⟨cd, hc, _⟩ := PySem.W.any_some c.hd
      rw [hc]
      rfl
    refine PySem.W.clsE54 c.hg c.hk c.hs ?_ c.hm X I k
    cases od with
    | none => exact PySem.W.findObj_dataN hc c.ha c.hn c.ht
    | some o => exact PySem.W.findObj_data hc c.ha c.hn c.ht
/-- what is said of a value's class where it is asked by isinstance: a plain thing, or an exception of ours -/
inductive TyE (K : PySem.W.Frag) (H : Hp) : V → Value → Prop where
  | of {x : V} {t : Value} (h : TyX K H x t) : TyE K H x t
  | ex {a C : Addr} {d : Option Addr} (c : ExcC K C) (e : H a = some (exo a C d)) (ed : ∀ dx, d = some dx → ∃ fs, H dx = some (exd dx fs)) : TyE K H (.ref a) (.ref C)
section
variable {X : Cx} {pins : List (Addr × Obj)} {σ : L2.St} {H : Hp} {s : Shared}
theorem inst54 (I : Inv X pins σ H s) {a C : Addr} {d : Option Addr} (e : H a = some (exo a C d)) (ed : ∀ dx, d = some dx → ∃ fs, H dx = some (exd dx fs)) :
    ∃ (ox : Obj) (od : Option Obj), PySem.W.InstAt s.heap a ox C od := by
  obtain ⟨t1, ho⟩ := exo_at I.hok e
  cases d with
  | none => exact ⟨_, none, ho, rfl, rfl, trivial⟩
  | some dx =>
    obtain ⟨fs, q⟩ := ed dx rfl
    obtain ⟨mA, ⟨o, es, ep, hod, _⟩, _⟩ := exd_at I.hok q
    exact ⟨_, some o, ho, rfl, rfl, hod⟩
theorem kitE {x : V} {u t : Value} (I : Inv X pins σ H s) (rx : RelV x u) (ty : TyE X.K H x t) : ∃ P : Heap → Prop, PySem.W.KitX X.K u t P ∧ P s.heap ∧ u ≠ .builtin "__main__.__loader__#opaque" := by
  cases ty with
  | of h => exact kit_of I rx h
  | ex c e ed =>
    cases rx
    obtain ⟨ox, od, J⟩ := inst54 I e ed
    exact ⟨_, kitx54 c, J, fun z => nomatch z⟩
def rIsE1 (K : PySem.W.Frag) : List V → Hp → VK → Prop := fun xs H Q => ∃ (x c : V) (t u : Value) (b : Bool), xs = [x, c] ∧ ClsV c u ∧ TyE K H x t ∧ PySem.W.kitOne K t u = some b ∧ Q (.bl b) H
def rIsET (K : PySem.W.Frag) : List V → Hp → VK → Prop := fun xs H Q => ∃ (x : V) (tp : Addr) (cs : List V) (t : Value) (us : List Value) (b : Bool), xs = [x, .ref tp] ∧ H tp = some (.tup cs) ∧ Paired ClsV cs us ∧ TyE K H x t ∧ PySem.W.kitAny K t us = some b ∧ Q (.bl b) H
theorem call_isE1 : CallR X (.builtin "isinstance") (rIsE1 X.K) := by
  intro pins s σ H xs us Q I r h
  obtain ⟨x, c, t, u, b, rfl, k, ty, e, q⟩ := h
  obtain ⟨u1, u2, rfl, r1, r2⟩ := vals2 r
  have e2 := k.eq r2
  subst e2
  obtain ⟨P, Z, p, hx⟩ := kitE I r1 ty
  exact PySem.W.kia_one Z I.kIn p e hx fun tk => ⟨.bl b, H, I.tok tk, rfl, q⟩
theorem call_isET : CallR X (.builtin "isinstance") (rIsET X.K) := by
  intro pins s σ H xs us Q I r h
  obtain ⟨x, tp, cs, t, ws, b, rfl, hT, k, ty, e, q⟩ := h
  obtain ⟨u1, u2, rfl, r1, r2⟩ := vals2 r
  cases (show u2 = Value.ref tp from r2)
  obtain ⟨P, Z, p, hx⟩ := kitE I r1 ty
  obtain ⟨_, its, rv, o, h1, h2, n, h3⟩ := (show ObjOk X.prog X.w H s.heap tp (.tup cs) from I.hok tp _ hT)
  have e3 := ClsV.all k rv
  subst e3
  obtain ⟨oc, od, dt, sl⟩ := o
  simp only at h2 h3
  subst h2 h3
  exact PySem.W.kia_tup Z I.kIn p h1 e hx fun tk => ⟨.bl b, H, I.tok tk, rfl, q⟩
end
/-! ### exceptions made as values -/
/-- an own class of errors without an `__init__`: the name stands in the module, the class is plain -/
structure ExN (K : PySem.W.Frag) (mg : Str → Option Value) (x : Str) (C : Addr) (bmB : List Value) : Prop where
  q : PySem.W.excIn K C bmB "ValueError.__new__" = true
  g : mg x = some (.ref C)
  k : PySem.W.keepIn K (.ref C) = true
section
variable {X : Cx} {B initId : String} {bmB : List Value} {C : Addr} {x : Str} {p pos : Pos}
theorem mkd {us : List Value} {pins : List (Addr × Obj)} {σ : L2.St} {H : Hp} {s : Shared} {Q : VK} (F : ExcBaseFacts B "ValueError.__new__" initId bmB) (n : ExN X.K X.mg x C bmB) (I : Inv X pins σ H s) (hz : us.length ≤ sizeLine)
    (q : ∀ a, H a = none → Q (.ref a) (upd H a (exo a C none))) : wpAny (model X.prog X.w) X.A (call (.ref C) us) (EP X pins σ Q) X.xe s := by
  obtain ⟨bm, N, nm, qn, bs, hdct, sn, sub, ab, col, dd, k0, k1, k2, k3, k5, mN, hC, hN, hni, T⟩ := exc_obj I.kIn n.q
  refine wpAny_call_exc_subT F T hC hN hni (fun h' a hm => ?_) hz
  have hn : H a = none := I.hok.gone hm.new
  obtain ⟨t, ht, _, _⟩ := hm.there
  exact ⟨.ref a, upd H a (exo a C none), I.laidN hm.keeps hm.new hn (exo_ok ht), rfl, q a hn⟩
theorem pe_ex0 (F : ExcBaseFacts B "ValueError.__new__" initId bmB) (n : ExN X.K X.mg x C bmB) (hg : Gl X x := by rfl) (hdb : (x == ("__debug__" : Str)) = false := by decide) :
    PE X (.Call (.Name x p) [] [] pos) (fun _ H Q => ∀ a, H a = none → Q (.ref a) (upd H a (exo a C none))) := by
  refine ⟨fun pins s σ H Q I h => ?_⟩
  refine wpAny_Call_Name_kw (ld_glob I hg n.g ?_ hdb)
  exact PySem.W.callWith_K0 I.kIn n.k (mkd (us := []) F n I (Nat.zero_le _) h)
theorem pe_ex1 {e : Expr} {ta : TE} (F : ExcBaseFacts B "ValueError.__new__" initId bmB) (n : ExN X.K X.mg x C bmB) (he : PE X e ta) (hg : Gl X x := by rfl) (hs : starEach [e] X.env = (false, eval e X.env) :: starEach [] X.env := by rfl) (hdb : (x == ("__debug__" : Str)) = false := by decide) :
    PE X (.Call (.Name x p) [e] [] pos) (fun σ H Q => ta σ H fun _ H1 => ∀ a, H1 a = none → Q (.ref a) (upd H1 a (exo a C none))) := by
  refine ⟨fun pins s σ H Q I h => ?_⟩
  refine wpAny_Call_Name_kw (ld_glob I hg n.g ?_ hdb)
  refine PySem.W.callWith_K (h₀ := X.base) I.ok.mod.kin n.k ?_ hs (by rfl)
  rw [hs]
  show wpAny _ _ (spliced ((false, eval e X.env) :: backTo pos (starEach [] X.env))) _ _ s
  refine Calls.spliced_cons (thn (he.run pins s σ H _ I h) fun u s1 ⟨v, H1, I1, r1, q1⟩ => ?_)
  exact Calls.spliced_nil ⟨I1.kIn, mkd (us := [u]) F n I1 (by show 1 ≤ sizeLine; rw [sizeLine_eq]; omega) q1⟩
end
/-- an own class of errors with `def __init__(self, name=None): self.name = name` -/
structure ExF (K : PySem.W.Frag) (mg : Str → Option Value) (x : Str) (C fI : Addr) : Prop where
  o : OexC K C
  g : mg x = some (.ref C)
  i : PySem.W.findIn K (.ref C) "__init__" = some (some (.ref fI))
  t : PySem.W.typeIn K (.ref fI) = some (.type "function")
  n : PySem.W.findIn K (.ref C) "name" = some none
  f : XfC K C
def spI (K : PySem.W.Frag) (C : Addr) : Sp := fun vs H Q _ => ∃ (a : Addr) (v : V), vs = [.ref a, v] ∧ H a = some (exo a C none) ∧ ∀ dx, H dx = none → dx ≠ a → Q .non (upd (upd H dx (exd dx [(("name" : Str), v)])) a (exo a C (some dx)))
section
variable {X : Cx} {C fI : Addr} {x : Str} {p pos : Pos} {fd : FuncData} {k : Nat}
theorem runI {us : List Value} {kw : List (Str × Value)} {v : V} {u : Value} {pins : List (Addr × Obj)} {σ : L2.St} {H : Hp} {s : Shared} {Q : VK} (n : ExF X.K X.mg x C fI)
    (G : FnOk X.prog X.w X.K X.mg X.base CX0 k fI fd ["self", "name"] (spI X.K C)) (hr : Room (k + 1) X.A) (I : Inv X pins σ H s) (ru : RelV v u) (hz : us.length ≤ sizeLine)
    (hb : ∀ (s' : Shared) (y : Value), X.K.In s'.heap → BindsTo s' fd ⟨y :: us, kw⟩ ((["self", "name"] : List Str).zip [y, u]))
    (q : ∀ a dx, H a = none → H dx = none → dx ≠ a → Q (.ref a) (upd (upd (upd H a (exo a C none)) dx (exd dx [(("name" : Str), v)])) a (exo a C (some dx)))) :
    wpAny (model X.prog X.w) X.A (call (.ref C) us kw) (EP X pins σ Q) X.xe s := by
  obtain ⟨nm, qn, N, bs, bm, sn, sub, ab, col, dd, k0, k1, k2, k3, k5, hC, hbm⟩ := n.o.cls
  obtain ⟨hp, g, dr, tk, os⟩ := s
  have z1 : hp.objs.size ≤ hp.objs.size + 1 := Nat.le_succ _
  have hn : H (hp.objs.size + 1) = none := I.hok.fresh z1
  have kk : ∀ b o, hp.get? b = some o → ((hp.push (PySem.W.kdv_tup us)).push (PySem.HandSPX.excO C hp.objs.size)).get? b = some o := fun b o e => Heap.get?_push_of_some _ (Heap.get?_push_of_some _ e)
  have hgt : ((hp.push (PySem.W.kdv_tup us)).push (PySem.HandSPX.excO C hp.objs.size)).get? (hp.objs.size + 1) = some (PySem.HandSPX.excO C hp.objs.size) := by heap_get
  have I2 : Inv X pins σ (upd H (hp.objs.size + 1) (exo (hp.objs.size + 1) C none)) ⟨(hp.push (PySem.W.kdv_tup us)).push (PySem.HandSPX.excO C hp.objs.size), g, dr, tk, os⟩ :=
    I.laid (t' := tk) (a := hp.objs.size + 1) (o := exo (hp.objs.size + 1) C none) (h' := (hp.push (PySem.W.kdv_tup us)).push (PySem.HandSPX.excO C hp.objs.size)) kk z1 (exo_ok hgt)
  have r2 : Vals [V.ref (hp.objs.size + 1), v] [Value.ref (hp.objs.size + 1), u] := .cons rfl (.cons ru .nil)
  have hq : spI X.K C [V.ref (hp.objs.size + 1), v] (upd H (hp.objs.size + 1) (exo (hp.objs.size + 1) C none)) (fun y H2 => y = .non ∧ Q (.ref (hp.objs.size + 1)) H2) (fun _ _ _ => False) :=
    ⟨_, v, rfl, upd_same, fun dx h1 h2 => ⟨rfl, q _ dx hn (by rw [upd_ne h2] at h1; exact h1) h2⟩⟩
  refine wpAny_call (PySem.KwX.ownKw F.excBase_ValueError (fun Y => PySem.HandSPX.refsVE_contains Y bm hbm) (I.kIn _ _ hC) (PySem.W.looks_findIn I.kIn n.i) (fun self => PySem.W.bind_fn I.kIn self n.t) hz
    (codeAny_mono (G.run _ X.stack _ _ ⟨Value.ref (hp.objs.size + 1) :: us, kw⟩ [Value.ref (hp.objs.size + 1), u] _ _ (fun _ _ _ => False) (hr.make C us kw) (I2.env0.make C us kw) (hb _ _ I2.kIn) r2 hq) fun r s' hq' => ?_))
  cases r with
  | error er => exact (hq' : False).elim
  | ok fl =>
    cases fl with
    | ret y =>
      obtain ⟨v', H2, I3, rv, ev, q2⟩ := I2.after hq'
      subst ev
      exact ⟨rv, V.ref (hp.objs.size + 1), H2, I3, rfl, q2⟩
    | next => exact False.elim hq'
    | brk => exact False.elim hq'
    | cont => exact False.elim hq'
/-- what a made one leaves -/
def made (C : Addr) (v : V) (H : Hp) (Q : VK) : Prop := ∀ a dx, H a = none → H dx = none → dx ≠ a → Q (.ref a) (upd (upd (upd H a (exo a C none)) dx (exd dx [(("name" : Str), v)])) a (exo a C (some dx)))
/-- how calls of the class bind -/
structure BindI (K : PySem.W.Frag) (fd : FuncData) : Prop where
  b0 : ∀ (s' : Shared) (y : Value), K.In s'.heap → BindsTo s' fd ⟨[y], []⟩ ((["self", "name"] : List Str).zip [y, Value.none])
  b1 : ∀ (s' : Shared) (y u : Value), K.In s'.heap → BindsTo s' fd ⟨[y, u], []⟩ ((["self", "name"] : List Str).zip [y, u])
  bk : ∀ (s' : Shared) (y u : Value), K.In s'.heap → BindsTo s' fd ⟨[y], [(("name" : Str), u)]⟩ ((["self", "name"] : List Str).zip [y, u])
theorem pe_mf0 (n : ExF X.K X.mg x C fI) (b : BindI X.K fd) (G : FnOk X.prog X.w X.K X.mg X.base CX0 k fI fd ["self", "name"] (spI X.K C)) (hr : Room (k + 1) X.A) (hg : Gl X x := by rfl) (hdb : (x == ("__debug__" : Str)) = false := by decide) :
    PE X (.Call (.Name x p) [] [] pos) (fun _ H Q => made C .non H Q) := by
  refine ⟨fun pins s σ H Q I h => ?_⟩
  refine wpAny_Call_Name_kw (ld_glob I hg n.g ?_ hdb)
  exact PySem.W.callWith_K0 I.kIn n.o.kC (runI (us := []) (v := .non) n G hr I rfl (Nat.zero_le _) b.b0 h)
theorem pe_mf1 {e : Expr} {ta : TE} (n : ExF X.K X.mg x C fI) (b : BindI X.K fd) (G : FnOk X.prog X.w X.K X.mg X.base CX0 k fI fd ["self", "name"] (spI X.K C)) (hr : Room (k + 1) X.A) (he : PE X e ta) (hg : Gl X x := by rfl)
    (hs : starEach [e] X.env = (false, eval e X.env) :: starEach [] X.env := by rfl) (hdb : (x == ("__debug__" : Str)) = false := by decide) :
    PE X (.Call (.Name x p) [e] [] pos) (fun σ H Q => ta σ H fun v H1 => made C v H1 Q) := by
  refine ⟨fun pins s σ H Q I h => ?_⟩
  refine wpAny_Call_Name_kw (ld_glob I hg n.g ?_ hdb)
  refine PySem.W.callWith_K (h₀ := X.base) I.ok.mod.kin n.o.kC ?_ hs (by rfl)
  rw [hs]
  show wpAny _ _ (spliced ((false, eval e X.env) :: backTo pos (starEach [] X.env))) _ _ s
  refine Calls.spliced_cons (thn (he.run pins s σ H _ I h) fun u s1 ⟨v, H1, I1, r1, q1⟩ => ?_)
  exact Calls.spliced_nil ⟨I1.kIn, runI (us := [u]) n G hr I1 r1 (by show 1 ≤ sizeLine; rw [sizeLine_eq]; omega) (fun s' y => b.b1 s' y u) q1⟩
end
end L54
namespace L54
open PySem PySem.Spec PyProof.Rows L2
section
variable {X : Cx} {C fI : Addr} {x : Str} {p pos : Pos} {fd : FuncData} {k : Nat}
theorem zip1 (a : Str) (u : Value) : ([a] : List Str).zip [u] = [(a, u)] := rfl
theorem pe_mfk {e : Expr} {ta : TE} {kp : Pos} (n : ExF X.K X.mg x C fI) (b : BindI X.K fd) (G : FnOk X.prog X.w X.K X.mg X.base CX0 k fI fd ["self", "name"] (spI X.K C)) (hr : Room (k + 1) X.A) (he : PE X e ta) (hg : Gl X x := by rfl)
    (hall : (backToKw pos (keywordEach [⟨some "name", e, kp⟩] X.env)).all (·.1.isSome) = true := by rfl) (hks : (backToKw pos (keywordEach [⟨some "name", e, kp⟩] X.env)).filterMap (·.1) = [("name" : Str)] := by rfl)
    (hpl : ((backTo pos (starEach [] X.env)).any (·.1) || (backToKw pos (keywordEach [⟨some "name", e, kp⟩] X.env)).any (·.1.isNone)) = false := by rfl) (hdb : (x == ("__debug__" : Str)) = false := by decide) :
    PE X (.Call (.Name x p) [] [⟨some "name", e, kp⟩] pos) (fun σ H Q => ta σ H fun v H1 => made C v H1 Q) := by
  refine ⟨fun pins s σ H Q I h => ?_⟩
  refine wpAny_Call_Name_kw (ld_glob I hg n.g ?_ hdb)
  refine PySem.W.callWith_KW0 (h₀ := X.base) I.ok.mod.kin n.o.kC hall ?_ hpl
  have hkw : PK X [⟨some "name", e, kp⟩] (tCons ta tNil) := pk_cons he pk_nil
  have h' : tCons ta tNil σ H (fun zs H1 => match zs with | [v] => made C v H1 Q | _ => False) := h
  have hh := hkw.run pos pins s σ H _ I h'
  rw [hks]
  refine thn hh fun ws s2 hq => ?_
  obtain ⟨zs, H2, I2, rz, q2⟩ := hq
  refine ⟨I2.kIn, ?_⟩
  cases rz with
  | nil => exact q2.elim
  | cons r1 r2 =>
    cases r2 with
    | cons r3 r4 => exact q2.elim
    | nil =>
      rw [zip1]
      rw [List.append_nil]
      exact runI (us := []) n G hr I2 r1 (Nat.zero_le _) (fun s' y => b.bk s' y _) q2
end
end L54
namespace L54
open PySem PySem.Spec PyProof.Rows L2
section
variable {X : Cx} {C fI : Addr} {x : Str} {p pos : Pos} {fd : FuncData} {k : Nat}
/-- e.name of an error of ours -/
def tNm (K : PySem.W.Frag) (te : TE) : TE := fun σ H Q => te σ H fun x H1 => ∃ (a C dx : Addr) (fs : List (Str × V)) (v : V), x = .ref a ∧ H1 a = some (exo a C (some dx)) ∧ H1 dx = some (exd dx fs) ∧ XfC K C ∧
  PySem.W.findIn K (.ref C) "name" = some none ∧ fs.lookup ("name" : Str) = some v ∧ Q v H1
theorem pe_nm {e : Expr} {te : TE} (he : PE X e te) (hb : attributeBase e "name" X.env (eval e X.env) = eval e X.env := by rfl) : PE X (.Attribute e "name" pos) (tNm X.K te) := by
  refine ⟨fun pins s σ H Q I h => ?_⟩
  refine attr_of hb (thn (he.run pins s σ H _ I h) fun u s1 hh => ?_)
  obtain ⟨x, H1, I1, rx, a, C, dx, fs, v, rfl, ea, ed, T, hno, l, q⟩ := hh
  cases rx
  obtain ⟨t1, ho⟩ := exo_at I1.hok ea
  obtain ⟨mA, hns, hr⟩ := exd_at I1.hok ed
  obtain ⟨od, hod, hl⟩ := lookIn_ns hns
  obtain ⟨u, hu, ru⟩ := RelO.some_of (v := v) (o := mA ("name" : Str)) (by rw [← l]; exact hr ("name" : Str))
  have J : PySem.W.InstAt s1.heap a _ C (some od) := ⟨ho, rfl, rfl, hod⟩
  exact HandSPX.exc_get I1.kIn J T.ga T.gg T.exC (PySem.W.findObj_own T.hdC hno rfl (by rw [hl, hu])) (handed_of ru) ⟨v, H1, I1.tok _, ru, q⟩
/-! ### data: what str() and != of it say -/
inductive Dt (K : PySem.W.Frag) (H : Hp) : V → PyData → Prop
  | of {v : V} {d : PyData} (h : Dp K H v d) (hd : d.hasDict = false) (hs : SeqAt.shaped d = true) : Dt K H v d
  | d0 {a : Addr} (h : H a = some (.dK [])) : Dt K H (.ref a) (.dict [])
  | d1 {a t : Addr} {x : Str} {n : Int} (h : H a = some (.dK [(Sum.inr x, .ref t)])) (ht : H t = some (.tup [.int n])) : Dt K H (.ref a) (.dict [(.str x, .tuple [.int n])])
def small (d : PyData) : Prop := d.showable = true ∧ d.depth ≤ 40 ∧ d.leavesShort 2000 = true ∧ d.weight ≤ 2000
theorem small_fits {d : PyData} (h : small d) : d.shown.length ≤ sizeLine := by
  have h1 := PyData.shown_le 2000 (by decide) d h.2.2.1
  have h2 := h.2.2.2
  rw [sizeLine_eq]
  have h3 : (2000 + 2) * d.weight ≤ (2000 + 2) * 2000 := Nat.mul_le_mul_left _ h2
  omega
section
variable {pins : List (Addr × Obj)} {σ : L2.St} {H : Hp} {s : Shared}
theorem dt_reads (I : Inv X pins σ H s) {v : V} {u : Value} {d : PyData} (h : Dt X.K H v d) (r : RelV v u) : ∃ as, Reads s.heap u d as ∧ (d.hasDict = true → sysModules ∉ as) := by
  cases h with
  | of h hd hs =>
    obtain ⟨as, q⟩ := Dp.reads I d v u h r
    exact ⟨as, q, fun z => by rw [hd] at z; cases z⟩
  | @d0 a h =>
    cases r
    obtain ⟨_, ya, va, ra, o, es, ep, ho, hx, hd, _, hp, _⟩ := (show ObjOk X.prog X.w H s.heap a (.dK []) from I.hok a _ h)
    cases ra
    generalize hes : es.toList = l at hp
    cases hp
    refine ⟨_, Reads.dict ho hx.1 hd (kvs := []) (by rw [hes]; exact .nil) (by rw [hes]; exact .nil), fun _ hm => ?_⟩
    rcases List.mem_append.mp hm with hm | hm
    · rcases List.mem_cons.mp hm with hm | hm
      · rw [hm] at ya; simp at ya
      · cases hm
    · cases hm
  | @d1 a t x n h ht =>
    cases r
    obtain ⟨_, ya, va, ra, o, es, ep, ho, hx, hd, _, hp, _⟩ := (show ObjOk X.prog X.w H s.heap a (.dK [(Sum.inr x, .ref t)]) from I.hok a _ h)
    cases ra with
    | @cons pa q ps qs hh tl =>
      cases tl
      obtain ⟨key, val⟩ := q
      obtain ⟨e1, e2⟩ := hh
      simp only at e1 e2
      subst e1
      cases e2
      obtain ⟨_, its, rv, ot, t1, t2, n3, t4⟩ := (show ObjOk X.prog X.w H s.heap t (.tup [.int n]) from I.hok t _ ht)
      cases rv with
      | @cons _ u0 _ ur r0 rr =>
        cases rr
        obtain ⟨tk, rfl⟩ := r0
        generalize hes : es.toList = l at hp
        cases hp with
        | cons k1 k2 k3 =>
          rename_i ent ents
          cases k3
          have k1' : keyIs (Sum.inr x) ent.key = true := k1
          obtain ⟨t9, e9⟩ : ∃ t, ent.key = Value.str x t := by
            rcases keyIs_shape k1' with ⟨i, t, e, _⟩ | ⟨y, t, e, e'⟩
            · cases e
            · cases e
              exact ⟨t, e'⟩
          have k2' : ent.val = Value.ref t := k2
          refine ⟨_, Reads.dict ho hx.1 hd (kvs := [(.str x, .tuple [.int n])]) (as := [] ++ []) (bs := [] ++ []) ?_ ?_, fun _ hm => ?_⟩
          · rw [hes]
            show ReadsAll s.heap [ent.key] [PyData.str x] _
            rw [e9]
            exact .cons (Reads.str x t9) .nil
          · rw [hes]
            show ReadsAll s.heap [ent.val] [PyData.tuple [.int n]] _
            rw [k2']
            exact .cons (Reads.tuple (as := [] ++ []) t1 t2 t4 (.cons (Reads.int n tk) .nil)) .nil
          · rcases List.mem_append.mp hm with hm | hm
            · rcases List.mem_cons.mp hm with hm | hm
              · rw [hm] at ya; simp at ya
              · cases hm
            · cases hm
end
def strOfD : PyData → Str
  | .str x => x
  | d => d.shown
theorem natLog0 : (0 : Int).natAbs.log2 < 1920 := by decide
def rStrD (K : PySem.W.Frag) : List V → Hp → VK → Prop := fun xs H Q => ∃ (v : V) (d : PyData), xs = [v] ∧ Dt K H v d ∧ small d ∧ Q (.str (strOfD d)) H
theorem call_strD (hg : X.A.guards = some []) (hu : X.A.units + 100 < cLine) : CallR X (.type "str") (rStrD X.K) := by
  intro pins s σ H xs us Q I r h
  obtain ⟨v, d, rfl, hD, hs, q⟩ := h
  cases r with
  | @cons _ u _ ur r0 rr =>
    cases rr
    have key : ∀ a, v = .ref a → strOfD d = d.shown → wpAny (model X.prog X.w) X.A (call (.type "str") [u]) (EP X pins σ Q) X.xe s := by
      intro a e e2
      subst e
      cases r0
      obtain ⟨as, hr, hm⟩ := dt_reads I hD rfl
      rw [e2] at q
      refine str_of_reads hr hs.1 hm hg (by have := hs.2.1; omega) (fun _ _ z => z) (fun h' u tk k => ?_) (small_fits hs)
      exact ⟨.str d.shown, H, I.kept k, ⟨u, rfl⟩, q⟩
    cases hD with
    | of hp hd hsh =>
      cases hp with
      | non => cases r0; exact PySem.P.str_of_none ⟨.str _, H, I.tok _, ⟨_, rfl⟩, q⟩
      | bl b => cases r0; exact PySem.P.str_of_bool ⟨.str _, H, I.tok _, ⟨_, rfl⟩, q⟩
      | int i =>
        obtain ⟨t, rfl⟩ := r0
        exact PySem.P.str_of_int (of_decide_eq_true hs.1) ⟨.str _, H, I.tok _, ⟨_, rfl⟩, q⟩
      | str x =>
        obtain ⟨t, rfl⟩ := r0
        exact PySem.P.str_of_str ⟨.str x, H, I, ⟨t, rfl⟩, q⟩
      | lst _ _ => exact key _ rfl rfl
      | tup _ _ => exact key _ rfl rfl
    | d0 _ => exact key _ rfl rfl
    | d1 _ _ => exact key _ rfl rfl
/-- v != v -/
def rNeS (K : PySem.W.Frag) : R2 := fun x y H Q => y = x ∧ (∃ d, Dt K H x d) ∧ Q (.bl false) H
theorem op_neS (hu : X.A.units + 100 < cLine) : OpR X (compareOp .NotEq) (rNeS X.K) := by
  intro pins s σ H x y v u Q I rx ry h
  obtain ⟨rfl, ⟨d, hD⟩, q⟩ := h
  have dct : ∀ (a : Addr) (ks : List (Key × V)), y = .ref a → H a = some (.dK ks) → (∀ va : List (Key × Value), KV ks va → PySem.W.KeqHits X.A.in1 s va va true) →
      wpAny (model X.prog X.w) X.A (compareOp .NotEq v u) (EP X pins σ Q) X.xe s := by
    intro a ks e ha hks
    subst e
    cases rx
    cases ry
    obtain ⟨_, ya, va, ra, da⟩ := (show ObjOk X.prog X.w H s.heap a (.dK ks) from I.hok a _ ha)
    exact PySem.W.keq_ne (knd := mixKind X.prog X.w) (r := true) ya ya da da (by omega) (fun _ => hks va ra) (fin_bl I q (by simp))
  cases hD with
  | of hp hd hsh =>
    obtain ⟨as, h1⟩ := Dp.reads I d y v hp rx
    obtain ⟨bs, h2⟩ := Dp.reads I d y u hp ry
    refine SeqAt.compareNe_shaped h1 h2 hsh hsh (by omega) ?_
    rw [SeqAt.eqv_refl d (SeqAt.canLay_of_shaped hsh)]
    exact ⟨.bl _, H, I, rfl, q⟩
  | d0 h =>
    refine dct _ _ rfl h fun va r => ?_
    cases r
    exact .nil
  | d1 h ht =>
    refine dct _ _ rfl h fun va r => ?_
    cases r with
    | @cons pa q ps qs hh tl =>
      cases tl
      obtain ⟨key, val⟩ := q
      exact PySem.W.KeqHits.hit (e := true) (b := true) (by simp [valueAt]) (SeqAt.EqAt.same _) .nil
end
end L54
namespace L54
open PySem PySem.Spec PyProof.Rows L2
/-! ### defs that are called where no repr is under way -/
structure FnG (P : Program) (w : World) (K : PySem.W.Frag) (mg : Str → Option Value) (base : Heap) (k : Nat) (f : Addr) (fd : FuncData) (ps : List Str) (sp : Sp) : Prop where
  len : ∀ vs H Q E, sp vs H Q E → vs.length = ps.length
  run : ∀ (A : Around) (outer : List Env) (s : Shared) (H : Hp) (args : Args) (us : List Value) (vs : List V) (Q : VK) (E : XK), A.guards = some [] → Room k A → Env0 P w K mg base A outer s H → BindsTo s fd args (ps.zip us) → Vals vs us → sp vs H Q E →
    codeAny (model P w) A (.call (.ref f) args) (CR CX0 outer P w H s Q E) s
theorem FnG.of {P : Program} {w : World} {K : PySem.W.Frag} {mg : Str → Option Value} {base : Heap} {k : Nat} {f : Addr} {fd : FuncData} {ps : List Str} {sp : Sp} (F : FnOk P w K mg base CX0 k f fd ps sp) : FnG P w K mg base k f fd ps sp :=
  ⟨F.len, fun A outer s H args us vs Q E _ hr => F.run A outer s H args us vs Q E hr⟩
section
variable {P : Program} {w : World} {K : PySem.W.Frag} {mg : Str → Option Value} {base : Heap}
theorem Fun.okG {x qual : Str} {st : Stmt} {f : Addr} {fd : FuncData} {N ps : List Str} {k : Nat} {sp : Sp} (F : Fun K x qual st f fd) (S : FnScope N ps (defScope st)) (len : ∀ vs H Q E, sp vs H Q E → vs.length = ps.length)
    (hbody : ∀ (cdv : Value) (A : Around) (outer : List Env) (s : Shared) (H : Hp) (vs : List V) (Q : VK) (E : XK), (A.deeper (envOfC qual (defScope st) s.heap.objs.size f cdv)).guards = some [] → Room k (A.deeper (envOfC qual (defScope st) s.heap.objs.size f cdv)) → sp vs H Q E →
      ∃ t, PSs (cxOf CX0 P w K mg base N qual (defScope st) f cdv A outer s H E).nox (defBody st) t ∧ t { nx := fun _ H' => Q .non H', rt := Q } (start N vs) H) : FnG P w K mg base (k + 1) f fd ps sp := by
  obtain ⟨oc, od, kV, doc, pm, an, cdv, ct, osl, rfl, lk, hcd⟩ := F.ex
  refine ⟨len, fun A outer s H args us vs Q E hg hr e0 hb r hsp => ?_⟩
  have hl := len _ _ _ _ hsp
  have KX : K.In s.heap := e0.mod.kin.keeps fun b o e => (e0.bs b o e).1
  have lim : s.heap.NoLimit := e0.mod.nolimit.keeps fun b o e => (e0.bs b o e).1
  have hk : ∀ y ∈ ps.zip us, (defScope st).names.lookup y.1 = some .local ∨ ((defScope st).names.lookup y.1 = some .cell ∧ ((cellsFrom (s.heap.objs.size + 1) (defScope st).names []).lookup y.1).isSome = true) := fun ⟨n, v⟩ hy => by
    rcases S.par n (List.of_mem_zip hy).1 with q | q
    · exact .inl q
    · exact .inr ⟨q, PySem.W.cellsFrom_some _ _ _ (.inl q)⟩
  refine codeAny_call_function hr.depth (KX _ _ lk) rfl S.co S.gen rfl (PySem.W.codeRec_of KX hcd) (hb _ _ _ _ ?_)
  refine wpAny_newFunctionEnv_cells S.kind hk fun env he s1 xx => ?_
  subst he
  refine ⟨lim.keeps xx.toInCall.keep, codeAny_func ?_⟩
  obtain ⟨t, ht0, hq⟩ := hbody cdv A outer s H vs Q E hg (hr.deeper _) hsp
  have ht := ht0.nox
  have I : Inv (cxOf CX0 P w K mg base N qual (defScope st) f cdv A outer s H E) [] (start N vs) H s1 := inv_start S hr.hd e0 hl r xx
  refine wpAny_mono (ht.run [] s1 (start N vs) H _ I hq) (fun fl s' hs => ?_) fun e s' hs => hs
  cases fl with
  | ret u =>
    obtain ⟨v, σ', H', J, rv, q⟩ := hs
    exact ⟨v, H', J.os, J.bare, J.base, J.hok, rv, q⟩
  | next =>
    obtain ⟨σ', H', J, q⟩ := hs
    exact ⟨V.non, H', J.os, J.bare, J.base, J.hok, rfl, q⟩
  | brk =>
    obtain ⟨_, _, _, q⟩ := hs
    exact False.elim q
  | cont =>
    obtain ⟨_, _, _, q⟩ := hs
    exact False.elim q
end
section
variable {X : Cx} {k : Nat} {f : Addr} {fd : FuncData} {ps : List Str} {sp : Sp} {x : Str} {p pos : Pos} {e : Expr} {es : List Expr} {t : TA}
theorem pe_callG (F : FnG X.prog X.w X.K X.mg X.base k f fd ps sp) (hgd : X.A.guards = some []) (hr : Room k X.A) (hm : X.mg x = some (.ref f)) (hk : PySem.W.keepIn X.K (.ref f) = true) (hb : Binds X.K fd ps []) (ha : PA X (e :: es) t) (hg : Gl X x := by rfl)
    (hdb : (x == ("__debug__" : Str)) = false := by decide) (he : starEach (e :: es) X.env = (false, eval e X.env) :: starEach es X.env := by rfl) (hpl : (backTo pos (starEach es X.env)).any (·.1) = false := by rfl) :
    PE X (.Call (.Name x p) (e :: es) [] pos) (fun σ H Q => t σ H fun vs H1 => sp vs H1 Q E0) := by
  refine ⟨fun pins s σ H Q I h => ?_⟩
  refine wpAny_Call_Name_kw (ld_glob I hg hm ?_ hdb)
  refine PySem.W.callWith_K (h₀ := X.base) I.ok.mod.kin hk (thn (ha.run pos pins s σ H _ I h) fun us s1 ⟨vs, H1, I1, r, q⟩ => ⟨I1.kIn, ?_⟩) he hpl
  have hl : (us ++ []).length = ps.length := by rw [List.append_nil, ← r.length]; exact F.len _ _ _ _ q
  have hb' := hb s1 us I1.kIn hl
  rw [List.append_nil] at hb'
  refine wpAny_call (codeAny_mono (F.run X.A X.stack s1 H1 ⟨us, []⟩ us vs Q E0 hgd hr I1.env0 hb' r q) fun r' s' hq => ?_)
  cases r' with
  | error e => exact (hq : False).elim
  | ok fl =>
    cases fl with
    | ret u => exact I1.after hq
    | next => exact False.elim hq
    | brk => exact False.elim hq
    | cont => exact False.elim hq
end
/-! ### the end of the row, for a law's def of this kind -/
theorem entry54 {P : Program} {w : World} {K : PySem.W.Frag} {mg mb : Str → Option Value} {k : Nat} {fa a : Addr} {fd : FuncData} {x : Str} {sp : Sp} {s₁ : Shared} {vs : List Value} {ns : List Int}
    (KX : K.In s₁.heap) (hns : s₁.heap.Ns mainGlobals mg) (hb : s₁.heap.Ns builtinsNs mb) (hbb : ∀ x : Str, x ≠ "__name__" → mb x = bootBuiltins x) (hlim : s₁.heap.NoLimit) (hg : s₁.gens = #[])
    (ha : s₁.heap.get? a = some { cls := .type "list", data := .seq vs.toArray }) (hi : IntsAre vs ns) (hl : ns.length ≤ sizeLine) (hr : Room k callerA)
    (F : ∀ base : Heap, K.In base → base.Ns mainGlobals mg → FnG P w K mg base k fa fd [x] sp) (hbind : ∀ (s : Shared) (u : Value), BindsTo s fd ⟨[u], []⟩ [(x, u)])
    (hsp : ∀ H : Hp, Only H → SqL K H a (ns.map V.int) → sp [.ref a] H (fun v _ => v = .bl true) fun _ _ _ => False) :
    codeAny (model P w) callerA (.call (.ref fa) ⟨[.ref a], []⟩) (fun r s' => r = .ok (.ret (.bool true)) ∧ OldK s₁.heap s'.heap ∧ s'.os = s₁.os ∧ AllBare s'.gens) s₁ := by
  have rv := vals_ints hi
  have lenV := hi.length
  have core : ∀ H : Hp, Only H → SqL K H a (ns.map V.int) → HOk P w H s₁.heap → (∀ b, H b ≠ none → b = a) → (H a ≠ none → K.lookup a = none) →
      codeAny (model P w) callerA (.call (.ref fa) ⟨[.ref a], []⟩) (fun r s' => r = .ok (.ret (.bool true)) ∧ OldK s₁.heap s'.heap ∧ s'.os = s₁.os ∧ AllBare s'.gens) s₁ := by
    intro H hO hS hok hA hK
    have base_of : ∀ {b : Addr} {o : Obj}, s₁.heap.get? b = some o → H b = none → (hidT s₁.heap H).get? b = some o := fun e n => hidT_get e n
    have at_a : ∀ {b : Addr}, H b ≠ none → b = a := fun {b} n => hA b n
    have noA : ∀ {b : Addr} {o : Obj} {es : Array DictEntry} {ep : Nat}, s₁.heap.get? b = some o → o.data = .dict es ep → H b = none := fun {b o es ep} e d => by
      cases q : H b with
      | none => rfl
      | some u =>
        obtain rfl := at_a (b := b) (by rw [q]; simp)
        rw [ha] at e; cases e; cases d
    have nsK : ∀ {b : Addr} {m : Str → Option Value}, s₁.heap.Ns b m → (hidT s₁.heap H).Ns b m := fun {b m} ⟨o, es, ep, e, d, r⟩ => ⟨o, es, ep, base_of e (noA e d), d, r⟩
    have hKb : K.In (hidT s₁.heap H) := fun b o e => base_of (KX b o e) (by
      cases q : H b with
      | none => rfl
      | some u =>
        obtain rfl := at_a (b := b) (by rw [q]; simp)
        rw [hK (by rw [q]; simp)] at e; cases e)
    have hM : Mod K mg (hidT s₁.heap H) := ⟨hKb, nsK hns, ⟨mb, nsK hb, hbb⟩, let ⟨mc, h1, h2⟩ := hlim; ⟨mc, nsK h1, h2⟩⟩
    have e0 : Env0 P w K mg (hidT s₁.heap H) callerA [] s₁ H := ⟨rfl, hM, fun b o e => of_hidT e, Nat.le_of_eq (hidT_size _ _), trivial, fun b hb => absurd (show b ∈ ([] : List Addr) from hb) (by simp), hok, .of_eq hg⟩
    refine codeAny_mono ((F _ hKb (nsK hns)).run callerA [] s₁ H ⟨[.ref a], []⟩ [.ref a] [.ref a] _ _ rfl hr e0 (hbind s₁ (.ref a)) (.cons rfl .nil) (hsp H hO hS)) fun r s' h => ?_
    cases r with
    | error e => exact (h : False).elim
    | ok fl =>
      cases fl with
      | next => exact False.elim h
      | brk => exact False.elim h
      | cont => exact False.elim h
      | ret u =>
        obtain ⟨v, H', os, bare, un, hok', r', q⟩ := h
        obtain rfl : v = .bl true := q
        obtain rfl : u = Value.bool true := r'
        refine ⟨rfl, OldK.of_keep fun b o e => ?_, os, bare⟩
        cases q : H b with
        | none => exact un.keep b o e q (by intro z; exact absurd (show b ∈ ([] : List Addr) from z) (by simp)) (by simp)
        | some u =>
          rcases hO b with z | ⟨ob, xs, z⟩
          · rw [q] at z; cases z
          · obtain ⟨e1, _⟩ := hok b _ z
            obtain ⟨e2, _⟩ := hok' b _ (un.frzs b ob _ z)
            rw [e] at e1; cases e1
            exact e2
  cases hk : K.lookup a with
  | some o =>
    have e := KX a o hk
    rw [ha] at e
    cases e
    refine core (fun _ => none) (fun _ => .inl rfl) (.inr ⟨_, vs.toArray, _, hk, rfl, rfl, rfl, by rw [List.size_toArray, lenV]; exact hl, by simpa using rv⟩) (fun b u z => by have z' : (none : Option HO) = some u := z; cases z') (fun b z => absurd rfl z) fun z => absurd rfl z
  | none =>
    refine core (fun b => if b = a then some (.frz { cls := .type "list", data := .seq vs.toArray } (.lst (ns.map V.int))) else none) (fun b => ?_) (.inl (.inr ⟨{ cls := .type "list", data := .seq vs.toArray }, if_pos rfl⟩)) (fun b u z => ?_) (fun b z => ?_) fun _ => hk
    · by_cases hb : b = a
      · exact .inr ⟨_, _, if_pos hb⟩
      · exact .inl (if_neg hb)
    · by_cases hb : b = a
      · have z' := (if_pos hb).symm.trans z
        cases z'
        subst hb
        exact ⟨ha, by rw [List.length_map]; exact hl, vs, _, rv, ha⟩
      · have z' := (if_neg hb).symm.trans z
        cases z'
    · by_cases hb : b = a
      · exact hb
      · exact absurd (if_neg hb) z
theorem walk54 {l : PySem.W.OpenLaw} {n k : Nat} {q : Program} {loose : List Str} {XP : (Str → Option Value) → Heap → Prop} {YP : World → Heap → Prop} {d : DefRec} {K : Params → PySem.W.Frag} {sp : PySem.W.Frag → Sp} {x : Str}
    (hn : l.most = some n) (hn2 : n ≤ sizeLine) (hdf : d.params.defaults = []) (hr : Room k callerA)
    (hY : ∀ (w : World) (h : Heap), YP w h → (K w.params).In h)
    (F : ∀ (w : World) (mg : Str → Option Value) (fa : Addr) (h : Heap), (K w.params).In h → h.Ns mainGlobals mg → mg d.name = some (.ref fa) →
      ∃ fd : FuncData, (∀ (s : Shared) (u : Value), BindsTo s fd ⟨[u], []⟩ [(x, u)]) ∧
        ∀ base : Heap, (K w.params).In base → base.Ns mainGlobals mg → FnG l.prog w (K w.params) mg base k fa fd [x] (sp (K w.params)))
    (hsp : ∀ (K : PySem.W.Frag) (H : Hp) (a : Addr) (ns : List Int), ns.length ≤ n → Only H → SqL K H a (ns.map V.int) → sp K [.ref a] H (fun v _ => v = .bl true) fun _ _ _ => False) :
    PySem.W.WalkO q loose XP YP l.row.toRowW d [] (fun f vs => PySem.call f vs) := by
  refine Att.attach_call hn hdf fun w s₀ s₁ mg mb fa o pm cd doc a vs ns G Y ho hd hcd hmg hobj hints hlen hg => ?_
  have KX := hY w _ Y
  obtain ⟨fd, hb, hF⟩ := F w mg fa _ KX G.T.g hmg
  exact entry54 KX G.T.g G.T.b G.T.builtins G.T.nolimit hg hobj hints (Nat.le_trans hlen hn2) hr hF hb (fun H hO hS => hsp _ H a ns hlen hO hS)
end L54
namespace L54
open PySem PySem.Spec PyProof.Rows L2
def top (i : Nat) : Stmt := PySem.Challenge.pw_lasttouch_k54_errors_created.main.body.getD i (.Pass ⟨0, 0, 0, 0⟩)
abbrev sMixed : Stmt := top 22
abbrev sCell : Stmt := top 23
abbrev sTake : Stmt := top 24
abbrev sKinds : Stmt := top 25
abbrev sBare : Stmt := top 26
abbrev sTold : Stmt := top 27
abbrev sAll : Stmt := top 28
abbrev sKept : Stmt := top 29
abbrev sHeld : Stmt := top 30
abbrev sLaw : Stmt := top 31
/-- the built-ins are still the built-ins -/
structure Bl (mg : Str → Option Value) : Prop where
  int : mg "int" = none
  len : mg "len" = none
  range : mg "range" = none
  max : mg "max" = none
  min : mg "min" = none
  isi : mg "isinstance" = none
  str : mg "str" = none
  all : mg "all" = none
  any : mg "any" = none
  enu : mg "enumerate" = none
  tup : mg "tuple" = none
  vE : mg "ValueError" = none
  tE : mg "TypeError" = none
  lE : mg "LookupError" = none
  aE : mg "ArithmeticError" = none
  rE : mg "RuntimeError" = none
  atE : mg "AttributeError" = none
theorem b_int : bootBuiltins "int" = some (.type "int") := by decide +kernel
theorem b_str : bootBuiltins "str" = some (.type "str") := by decide +kernel
theorem b_tup : bootBuiltins "tuple" = some (.type "tuple") := by decide +kernel
theorem b_len : bootBuiltins "len" = some (.builtin "len") := by decide +kernel
theorem b_max : bootBuiltins "max" = some (.builtin "max") := by decide +kernel
theorem b_min : bootBuiltins "min" = some (.builtin "min") := by decide +kernel
theorem b_isi : bootBuiltins "isinstance" = some (.builtin "isinstance") := by decide +kernel
theorem b_all : bootBuiltins "all" = some (.builtin "all") := by decide +kernel
theorem b_any : bootBuiltins "any" = some (.builtin "any") := by decide +kernel
section
variable {P : Program} {w : World} {K : PySem.W.Frag} {mg : Str → Option Value} {base : Heap}
/-! ### _law_mixed -/
def spMixed : Sp := fun vs H Q _ => ∃ c k : Int, vs = [.int c, .int k] ∧ ∀ r : Int, 0 ≤ r → r < 2147483579 → Q (.int r) H
theorem scM : FnScope ["cell", "k", "mix"] ["cell", "k"] (defScope sMixed) := ⟨rfl, rfl, rfl, by decide +kernel, rfl, by decide +kernel, by decide +kernel⟩
theorem ok_mixed {f : Addr} {fd : FuncData} (F : Fun K "_law_mixed" "_law_mixed" sMixed f fd) (T : Bl mg) : FnOk P w K mg base CX0 1 f fd ["cell", "k"] spMixed := by
  refine F.ok scM (fun vs H Q E h => ?_) (fun cdv A outer s H vs Q E hr h => ?_)
  · obtain ⟨c, k, rfl, _⟩ := h
    rfl
  · obtain ⟨c, k, rfl, h⟩ := h
    refine ⟨_, pss_cons (ps_set (i := 2) scM.nd rfl (.inl rfl) (pe_op op_mod (pe_callTy call_int1 rfl T.int b_int (pa_cons (pe_op op_add (pe_op op_add (pe_op op_mul (pe_op op_mod (pe_callTy call_int1 rfl T.int b_int (pa_cons (pv 0) pa_nil)) pe_int) pe_int) (pe_op op_mul (pv 1) pe_int)) pe_int) pa_nil)) pe_int))
      (pss_cons (ps_set (i := 2) scM.nd rfl (.inl rfl) (pe_op op_mod (pe_callTy call_int1 rfl T.int b_int (pa_cons (pe_op op_mul (pv 2) (pv 2)) pa_nil)) pe_int))
      (pss_one (ps_ret (pe_op op_mod (pe_callTy call_int1 rfl T.int b_int (pa_cons (pe_op op_mul (pv 2) (pe_op op_add (pv 2) pe_int)) pa_nil)) pe_int)))), ?_⟩
    refine ⟨_, rfl, .inl ⟨_, rfl, _, _, rfl, rfl, (by show (0 : Int) < 2147483647; decide), _, _, rfl, rfl, .inr ⟨by decide, by decide⟩, _, rfl, _, _, rfl, rfl, .inr ⟨by decide, by decide⟩, _, _, rfl, rfl, _, _, rfl, rfl, .inl ⟨_, rfl, _, _, rfl, rfl, (by show (0 : Int) < 2147483629; decide), ?_⟩⟩⟩
    generalize hm : (c % 2147483647 * 48271 + k * 69621 + 1048583) % 2147483629 = m
    have m0 : 0 ≤ m := by rw [← hm]; exact Int.emod_nonneg _ (by decide)
    have m1 : m < 2147483629 := by rw [← hm]; exact Int.emod_lt_of_pos _ (by decide)
    refine ⟨_, rfl, _, rfl, _, _, rfl, rfl, .inl ⟨by omega, by omega⟩, .inl ⟨_, rfl, _, _, rfl, rfl, (by show (0 : Int) < 2147483587; decide), ?_⟩⟩
    generalize hn : (m * m) % 2147483587 = n
    have n0 : 0 ≤ n := by rw [← hn]; exact Int.emod_nonneg _ (by decide)
    have n1 : n < 2147483587 := by rw [← hn]; exact Int.emod_lt_of_pos _ (by decide)
    refine ⟨_, rfl, _, rfl, _, _, rfl, rfl, _, _, rfl, rfl, .inl ⟨by omega, by omega⟩, .inl ⟨_, rfl, _, _, rfl, rfl, (by show (0 : Int) < 2147483579; decide), ?_⟩⟩
    exact h _ (Int.emod_nonneg _ (by decide)) (Int.emod_lt_of_pos _ (by decide))
/-! ### _law_take -/
def big : Int := 2 ^ 1000
def spTake : Sp := fun vs H Q _ => ∃ (p : Addr) (n o : Int), vs = [.ref p, .int o] ∧ H p = some (.lst [.int n]) ∧ 0 ≤ n ∧ n < big ∧ 1 ≤ o ∧ o ≤ 1000 ∧
  ∀ d n' : Int, 0 ≤ d → d < o → 0 ≤ n' → n' < big → Q (.int d) (upd H p (.lst [.int n']))
theorem scT : FnScope ["own", "options", "digit"] ["own", "options"] (defScope sTake) := ⟨rfl, rfl, rfl, by decide +kernel, rfl, by decide +kernel, by decide +kernel⟩
theorem ok_take {f : Addr} {fd : FuncData} (F : Fun K "_law_take" "_law_take" sTake f fd) (T : Bl mg) : FnOk P w K mg base CX0 1 f fd ["own", "options"] spTake := by
  refine F.ok scT (fun vs H Q E h => ?_) (fun cdv A outer s H vs Q E hr h => ?_)
  · obtain ⟨p, n, o, rfl, _⟩ := h
    rfl
  · obtain ⟨p, n, o, rfl, hp, n0, n1, o1, o2, h⟩ := h
    refine ⟨_, pss_cons (ps_set (i := 2) scT.nd rfl (.inl rfl) (pe_op op_mod (pe_callTy call_int1 rfl T.int b_int (pa_cons (pe_ix ix_list (pv 0) pe_int (fun _ _ => rfl)) pa_nil)) (pv 1)))
      (pss_cons (ps_asg (pe_op op_fdivW (pe_ix ix_list (pv 0) pe_int (fun _ _ => rfl)) (pv 1)) (pg_sub (pv 0) pe_int set_list))
      (pss_one (ps_ret (pv 2)))), ?_⟩
    have hs : SqL K H p [V.int n] := .inl (.inl hp)
    refine ⟨_, rfl, p, _, _, _, rfl, rfl, hs, rfl, .inl ⟨_, rfl, _, rfl, _, _, rfl, rfl, (by omega), ?_⟩⟩
    refine ⟨_, rfl, p, _, _, _, rfl, rfl, hs, rfl, _, rfl, _, _, rfl, rfl, wide_div (b := 64) (by omega) (by omega) (by decide) (by decide), _, rfl, p, _, _, 0, rfl, rfl, hp, rfl, _, rfl, ?_⟩
    refine h _ _ (Int.emod_nonneg _ (by omega)) (Int.emod_lt_of_pos _ (by omega)) (Int.ediv_nonneg n0 (by omega)) ?_
    exact Int.lt_of_le_of_lt (Int.ediv_le_self _ n0) n1
end
end L54
namespace L54
open PySem PySem.Spec PyProof.Rows L2
section
variable {P : Program} {w : World} {K : PySem.W.Frag} {mg : Str → Option Value} {base : Heap}
/-! ### _law_cell -/
def spCell (K : PySem.W.Frag) : Sp := fun vs H Q _ => ∃ (l : Addr) (ns : List Int) (j : Nat), vs = [.ref l, .int (j : Int)] ∧ SqL K H l (ns.map V.int) ∧ j ≤ 1000 ∧ ∀ c : Int, 0 ≤ c → c < big → Q (.int c) H
theorem scC : FnScope ["script", "k", "cell", "found", "j"] ["script", "k"] (defScope sCell) := ⟨rfl, rfl, rfl, by decide +kernel, rfl, by decide +kernel, by decide +kernel⟩
theorem mod0 : (0 : Int) < 10 ^ (60 : Int).toNat * 10 ^ (60 : Int).toNat * 10 ^ (60 : Int).toNat * 10 ^ (60 : Int).toNat := by decide +kernel
theorem mod1 : (10 : Int) ^ (60 : Int).toNat * 10 ^ (60 : Int).toNat * 10 ^ (60 : Int).toNat * 10 ^ (60 : Int).toNat < big := by decide +kernel
theorem pow24 : (2147483579 : Int) ^ 24 < big := by decide +kernel
theorem ok_cell {f fM : Addr} {fd fdM : FuncData} (F : Fun K "_law_cell" "_law_cell" sCell f fd) (T : Bl mg) (FM : Fun K "_law_mixed" "_law_mixed" sMixed fM fdM) (bM : Binds K fdM ["cell", "k"] []) (mM : mg "_law_mixed" = some (.ref fM)) :
    FnOk P w K mg base CX0 2 f fd ["script", "k"] (spCell K) := by
  have GM : FnOk P w K mg base CX0 1 fM fdM ["cell", "k"] spMixed := ok_mixed FM T
  refine F.ok scC (fun vs H Q E h => ?_) (fun cdv A outer s H vs Q E hr h => ?_)
  · obtain ⟨l, ns, j, rfl, _⟩ := h
    rfl
  · obtain ⟨l, ns, j, rfl, hs, hj, h⟩ := h
    obtain ⟨t2, h2, q2⟩ : ∃ t2, PSs (cxOf CX0 P w K mg base ["script", "k", "cell", "found", "j"] "_law_cell" (defScope sCell) f cdv A outer s H E).nox ((defBody sCell).drop 2) t2 ∧
        ∀ c : Int, t2 { nx := fun _ H' => Q .non H', rt := Q } [some (.ref l), some (.int (j : Int)), some (.int c), none, none] H := by
      refine ⟨_, pss_cons (ps_if (pt_cmpR op_ge (pv 2) (pe_op op_pow pe_int pe_int) (nomark _))
          (pss_one (ps_ret (pe_op op_mod (pe_callTy call_int1 rfl T.int b_int (pa_cons (pe_op op_sub (pv 2) (pe_op op_pow pe_int pe_int)) pa_nil))
            (pe_op op_mulW (pe_op op_mulW (pe_op op_mulW (pe_op op_pow pe_int pe_int) (pe_op op_pow pe_int pe_int)) (pe_op op_pow pe_int pe_int)) (pe_op op_pow pe_int pe_int))))) pss_nil)
        (pss_cons (ps_set (i := 3) scC.nd rfl (.inl rfl) pe_int)
        (pss_cons (ps_for PassesOwn.never rfl (pi_range1 rfl T.range (pa_cons pe_int pa_nil)) (pg_name (i := 4) scC.nd rfl (Or.inl rfl))
          (pss_one (ps_set (i := 3) scC.nd rfl (.inl rfl) (pe_op op_add (pe_op op_mul (pv 3) pe_int)
            (pe_call GM hr rfl mM FM.kp bM .nil pass0 (pa_cons (pv 2) (pa_cons (pe_op op_add (pe_op op_add (pe_op op_mul pe_int (pv 1)) (pe_op op_mul pe_int (pv 4))) (pe_op op_mul (pv 4) (pv 4))) pa_nil)))))))
        (pss_one (ps_ret (pv 3))))), fun c => ?_⟩
      have pw : ∀ i j : Int, 0 ≤ j → j ≤ 1000 → i.natAbs < 1000 → CPow i j := fun i j a b c => ⟨a, by omega, Nat.lt_trans c (by decide)⟩
      refine ⟨_, rfl, _, _, rfl, rfl, pw _ _ (by decide) (by decide) (by decide), _, _, rfl, rfl, _, rfl, ?_⟩
      refine ite2 (fun _ => ?_) (fun _ => ?_)
      · refine ⟨_, rfl, _, _, rfl, rfl, pw _ _ (by decide) (by decide) (by decide), _, _, rfl, rfl, .inl ⟨_, rfl, _, _, rfl, rfl, pw _ _ (by decide) (by decide) (by decide), _, _, rfl, rfl, pw _ _ (by decide) (by decide) (by decide), _, _, rfl, rfl, (by unfold CMulW; decide +kernel), _, _, rfl, rfl, pw _ _ (by decide) (by decide) (by decide), _, _, rfl, rfl, (by unfold CMulW; decide +kernel), _, _, rfl, rfl, pw _ _ (by decide) (by decide) (by decide), _, _, rfl, rfl, (by unfold CMulW; decide +kernel), _, _, rfl, rfl, mod0, ?_⟩⟩
        refine h _ (Int.emod_nonneg _ (Int.ne_of_gt mod0)) (Int.lt_trans (Int.emod_lt_of_pos _ mod0) mod1)
      · refine ⟨24, rfl, by decide, by decide, for_range (n := 24) (fun i σ H' => ∃ (fv : Int) (jv : Option V), σ = [some (.ref l), some (.int (j : Int)), some (.int c), some (.int fv), jv] ∧ H' = H ∧ 0 ≤ fv ∧ fv < 2147483579 ^ i) ⟨0, none, rfl, rfl, by decide, by decide⟩ ?_ ?_⟩
        · rintro i σ H' hi ⟨fv, jv, rfl, rfl, f0, f1⟩
          refine ⟨_, rfl, _, _, rfl, rfl, .inr ⟨by decide, by decide⟩, _, rfl, _, rfl, _, _, rfl, rfl, .inl ⟨by decide, by decide⟩, _, rfl, _, _, rfl, rfl, .inl ⟨by decide, by decide⟩, _, _, rfl, rfl, _, rfl, _, rfl, _, _, rfl, rfl, .inl ⟨by omega, by omega⟩, _, _, rfl, rfl, c, _, rfl, fun r r0 r1 => ?_⟩
          refine ⟨_, _, rfl, rfl, _, _, rfl, rfl, by omega, ?_⟩
          rw [Int.pow_succ]
          generalize (2147483579 : Int) ^ i = pp at *
          omega
        · rintro σ H' ⟨fv, jv, rfl, rfl, f0, f1⟩
          exact ⟨_, rfl, h _ f0 (Int.lt_trans f1 pow24)⟩
    refine ⟨_, pss_cons (ps_set (i := 2) scC.nd rfl (.inl rfl) pe_int)
      (pss_cons (ps_if (pt_cmpR op_lt (pv 1) (pe_callB call_len_seq rfl T.len b_len (pa_cons (pv 0) pa_nil)) (nomark _)) (pss_one (ps_set (i := 2) scC.nd rfl (.inl rfl) (pe_ix ix_list (pv 0) (pv 1) (fun _ _ => rfl)))) pss_nil) h2), ?_⟩
    refine ⟨_, rfl, _, rfl, l, _, rfl, .inl hs, _, _, rfl, rfl, _, rfl, ?_⟩
    refine ite2 (fun hlt => ?_) (fun _ => q2 0)
    have hlt' : j < ns.length := by
      have z := of_decide_eq_true hlt
      rw [List.length_map] at z
      omega
    refine ⟨_, rfl, _, rfl, l, _, _, .int (ns[j]), rfl, rfl, hs, atI_nat (by simp [hlt']), q2 _⟩
end
end L54
namespace L54
open PySem PySem.Spec PyProof.Rows L2
/-- the classes in the order in which the law asks for them; the base behind them -/
def nmL : List Str := ["InvalidFamily", "InvalidGraph", "InvalidLabelling", "InvalidName", "InvalidNames", "InvalidNumber", "InvalidProgram", "InvalidSight", "InvalidStart", "InvalidTable", "InvalidText", "InvalidWord", "InvalidWords", "TooLarge", "NoBlocks", "NothingToUndo", "InvalidBook", "Missing", "Lost", "LastTouchError"]
def nm (i : Nat) : Str := nmL.getD i ""
/-- what the written part says of the classes: c i is the i-th one's place -/
structure Cs (K : PySem.W.Frag) (mg : Str → Option Value) (c : Nat → Addr) : Prop where
  g : ∀ i, i < 20 → mg (nm i) = some (.ref (c i))
  ex : ∀ i, i < 20 → i ≠ 17 → i ≠ 18 → PySem.W.excIn K (c i) [.type "ValueError", .type "Exception", .type "BaseException", .type "object"] "ValueError.__new__" = true
  kp : ∀ i, i < 20 → PySem.W.keepIn K (.ref (c i)) = true
  ec : ∀ i, i < 20 → ExcC K (c i)
  k1 : ∀ i j, i < 20 → j < 19 → PySem.W.kitOne K (.ref (c i)) (.ref (c j)) = some (decide (i = j))
  kB : ∀ i, i < 20 → PySem.W.kitOne K (.ref (c i)) (.ref (c 19)) = some true
  kV : ∀ i, i < 20 → PySem.W.kitOne K (.ref (c i)) (.type "ValueError") = some true
  kO : ∀ i, i < 20 → PySem.W.kitAny K (.ref (c i)) [.type "TypeError", .type "LookupError", .type "ArithmeticError", .type "RuntimeError", .type "AttributeError"] = some false
/-- at a: an error of the class at C -/
def IsX (H : Hp) (a C : Addr) : Prop := ∃ d, H a = some (exo a C d) ∧ ∀ dx, d = some dx → ∃ fs, H dx = some (exd dx fs)
theorem IsX.mono {H H' : Hp} {a C : Addr} (h : IsX H a C) (s : Same H H') : IsX H' a C := by
  obtain ⟨d, e, ed⟩ := h
  exact ⟨d, s _ _ e, fun dx z => let ⟨fs, q⟩ := ed dx z; ⟨fs, s _ _ q⟩⟩
theorem IsX.ty {K : PySem.W.Frag} {H : Hp} {a C : Addr} (h : IsX H a C) (c : ExcC K C) : TyE K H (.ref a) (.ref C) := by
  obtain ⟨d, e, ed⟩ := h
  exact .ex c e ed
theorem same_upd {H H' : Hp} {p : Addr} {o : HO} (s : Same H H') (n : H' p = none) : Same H (upd H' p o) := fun b u e => by
  rw [upd_ne (ne_of_none (s b u e) n)]
  exact s b u e
section
variable {P : Program} {w : World} {K : PySem.W.Frag} {mg : Str → Option Value} {base : Heap} {c : Nat → Addr}
theorem Cs.n (T : Cs K mg c) (i : Nat) (h : i < 20) (h1 : i ≠ 17) (h2 : i ≠ 18) : ExN K mg (nm i) (c i) [.type "ValueError", .type "Exception", .type "BaseException", .type "object"] := ⟨T.ex i h h1 h2, T.g i h, T.kp i h⟩
/-! ### _law_kinds -/
def kl (b : Nat → Bool) : List V := (List.range 19).map fun j => V.bl (b j)
def spKinds (K : PySem.W.Frag) (c : Nat → Addr) : Sp := fun vs H Q _ => ∃ (a : Addr) (i : Nat), vs = [.ref a] ∧ i < 20 ∧ IsX H a (c i) ∧ ∀ p H', H p = none → Same H H' → H' p = some (.lst (kl fun j => decide (i = j))) → Q (.ref p) H'
theorem scK : FnScope ["error", "found"] ["error"] (defScope sKinds) := ⟨rfl, rfl, rfl, by decide +kernel, rfl, by decide +kernel, by decide +kernel⟩
theorem len_small {n : Nat} (h : n ≤ 1000) : n ≤ sizeLine := Nat.le_of_lt (small1000 h)

theorem ok_kinds {f : Addr} {fd : FuncData} (F : Fun K "_law_kinds" "_law_kinds" sKinds f fd) (T : Bl mg) (C : Cs K mg c) : FnOk P w K mg base CX0 1 f fd ["error"] (spKinds K c) := by
  refine F.ok scK (fun vs H Q E h => ?_) (fun cdv A outer s H vs Q E hr h => ?_)
  · obtain ⟨a, i, rfl, _⟩ := h
    rfl
  · obtain ⟨a, i, rfl, hi, hx, h⟩ := h
    have ty : ∀ {H' : Hp}, Same H H' → TyE K H' (.ref a) (.ref (c i)) := fun s => (hx.mono s).ty (C.ec i hi)
    refine ⟨_, (pss_cons (ps_set (i := 1) scK.nd rfl (.inl rfl) (pe_lst (pa_cons (pe_callB call_isE1 rfl T.isi b_isi (pa_cons (pv 0) (pa_cons (pe_glob (v := .ref (c 0)) (u := .ref (c 0)) rfl (C.g 0 (by decide)) rfl) pa_nil))) (pa_cons (pe_callB call_isE1 rfl T.isi b_isi (pa_cons (pv 0) (pa_cons (pe_glob (v := .ref (c 1)) (u := .ref (c 1)) rfl (C.g 1 (by decide)) rfl) pa_nil))) pa_nil))))
      (pss_cons (ps_set (i := 1) scK.nd rfl (.inl rfl) (pe_op op_cat (pv 1) (pe_lst (pa_cons (pe_callB call_isE1 rfl T.isi b_isi (pa_cons (pv 0) (pa_cons (pe_glob (v := .ref (c 2)) (u := .ref (c 2)) rfl (C.g 2 (by decide)) rfl) pa_nil))) pa_nil))))
      (pss_cons (ps_set (i := 1) scK.nd rfl (.inl rfl) (pe_op op_cat (pv 1) (pe_lst (pa_cons (pe_callB call_isE1 rfl T.isi b_isi (pa_cons (pv 0) (pa_cons (pe_glob (v := .ref (c 3)) (u := .ref (c 3)) rfl (C.g 3 (by decide)) rfl) pa_nil))) (pa_cons (pe_callB call_isE1 rfl T.isi b_isi (pa_cons (pv 0) (pa_cons (pe_glob (v := .ref (c 4)) (u := .ref (c 4)) rfl (C.g 4 (by decide)) rfl) pa_nil))) pa_nil)))))
      (pss_cons (ps_set (i := 1) scK.nd rfl (.inl rfl) (pe_op op_cat (pv 1) (pe_lst (pa_cons (pe_callB call_isE1 rfl T.isi b_isi (pa_cons (pv 0) (pa_cons (pe_glob (v := .ref (c 5)) (u := .ref (c 5)) rfl (C.g 5 (by decide)) rfl) pa_nil))) pa_nil))))
      (pss_cons (ps_set (i := 1) scK.nd rfl (.inl rfl) (pe_op op_cat (pv 1) (pe_lst (pa_cons (pe_callB call_isE1 rfl T.isi b_isi (pa_cons (pv 0) (pa_cons (pe_glob (v := .ref (c 6)) (u := .ref (c 6)) rfl (C.g 6 (by decide)) rfl) pa_nil))) (pa_cons (pe_callB call_isE1 rfl T.isi b_isi (pa_cons (pv 0) (pa_cons (pe_glob (v := .ref (c 7)) (u := .ref (c 7)) rfl (C.g 7 (by decide)) rfl) pa_nil))) pa_nil)))))
      (pss_cons (ps_set (i := 1) scK.nd rfl (.inl rfl) (pe_op op_cat (pv 1) (pe_lst (pa_cons (pe_callB call_isE1 rfl T.isi b_isi (pa_cons (pv 0) (pa_cons (pe_glob (v := .ref (c 8)) (u := .ref (c 8)) rfl (C.g 8 (by decide)) rfl) pa_nil))) pa_nil))))
      (pss_cons (ps_set (i := 1) scK.nd rfl (.inl rfl) (pe_op op_cat (pv 1) (pe_lst (pa_cons (pe_callB call_isE1 rfl T.isi b_isi (pa_cons (pv 0) (pa_cons (pe_glob (v := .ref (c 9)) (u := .ref (c 9)) rfl (C.g 9 (by decide)) rfl) pa_nil))) (pa_cons (pe_callB call_isE1 rfl T.isi b_isi (pa_cons (pv 0) (pa_cons (pe_glob (v := .ref (c 10)) (u := .ref (c 10)) rfl (C.g 10 (by decide)) rfl) pa_nil))) pa_nil)))))
      (pss_cons (ps_set (i := 1) scK.nd rfl (.inl rfl) (pe_op op_cat (pv 1) (pe_lst (pa_cons (pe_callB call_isE1 rfl T.isi b_isi (pa_cons (pv 0) (pa_cons (pe_glob (v := .ref (c 11)) (u := .ref (c 11)) rfl (C.g 11 (by decide)) rfl) pa_nil))) pa_nil))))
      (pss_cons (ps_set (i := 1) scK.nd rfl (.inl rfl) (pe_op op_cat (pv 1) (pe_lst (pa_cons (pe_callB call_isE1 rfl T.isi b_isi (pa_cons (pv 0) (pa_cons (pe_glob (v := .ref (c 12)) (u := .ref (c 12)) rfl (C.g 12 (by decide)) rfl) pa_nil))) (pa_cons (pe_callB call_isE1 rfl T.isi b_isi (pa_cons (pv 0) (pa_cons (pe_glob (v := .ref (c 13)) (u := .ref (c 13)) rfl (C.g 13 (by decide)) rfl) pa_nil))) pa_nil)))))
      (pss_cons (ps_set (i := 1) scK.nd rfl (.inl rfl) (pe_op op_cat (pv 1) (pe_lst (pa_cons (pe_callB call_isE1 rfl T.isi b_isi (pa_cons (pv 0) (pa_cons (pe_glob (v := .ref (c 14)) (u := .ref (c 14)) rfl (C.g 14 (by decide)) rfl) pa_nil))) pa_nil))))
      (pss_cons (ps_set (i := 1) scK.nd rfl (.inl rfl) (pe_op op_cat (pv 1) (pe_lst (pa_cons (pe_callB call_isE1 rfl T.isi b_isi (pa_cons (pv 0) (pa_cons (pe_glob (v := .ref (c 15)) (u := .ref (c 15)) rfl (C.g 15 (by decide)) rfl) pa_nil))) (pa_cons (pe_callB call_isE1 rfl T.isi b_isi (pa_cons (pv 0) (pa_cons (pe_glob (v := .ref (c 16)) (u := .ref (c 16)) rfl (C.g 16 (by decide)) rfl) pa_nil))) (pa_cons (pe_callB call_isE1 rfl T.isi b_isi (pa_cons (pv 0) (pa_cons (pe_glob (v := .ref (c 17)) (u := .ref (c 17)) rfl (C.g 17 (by decide)) rfl) pa_nil))) pa_nil))))))
      (pss_cons (ps_set (i := 1) scK.nd rfl (.inl rfl) (pe_op op_cat (pv 1) (pe_lst (pa_cons (pe_callB call_isE1 rfl T.isi b_isi (pa_cons (pv 0) (pa_cons (pe_glob (v := .ref (c 18)) (u := .ref (c 18)) rfl (C.g 18 (by decide)) rfl) pa_nil))) pa_nil))))
      (pss_one (ps_ret (pv 1))))))))))))))), ?_⟩
    have S0 : Same H H := Same.refl H
    refine ⟨_, rfl, _, _, _, _, _, rfl, .own _, ty S0, C.k1 i 0 hi (by decide), _, rfl, _, _, _, _, _, rfl, .own _, ty S0, C.k1 i 1 hi (by decide), len_small (by simp), fun p0 n0 => ?_⟩
    have z0 := n0
    have S1 := same_upd (o := .lst [V.bl (decide (i = 0)), V.bl (decide (i = 1))]) S0 n0
    have P1 : (upd H p0 (.lst [V.bl (decide (i = 0)), V.bl (decide (i = 1))])) p0 = some (.lst [V.bl (decide (i = 0)), V.bl (decide (i = 1))]) := upd_same
    generalize hG : upd H p0 (.lst [V.bl (decide (i = 0)), V.bl (decide (i = 1))]) = G1 at *
    clear hG
    refine ⟨_, rfl, _, rfl, _, _, _, _, _, rfl, .own _, ty S1, C.k1 i 2 hi (by decide), len_small (by simp), fun q1 m1 => ⟨_, _, _, _, rfl, rfl, by rw [upd_ne (ne_of_none P1 m1)]; exact P1, upd_same, len_small (by simp), fun p1 n1 => ?_⟩⟩
    have A1 := same_upd (o := .lst [V.bl (decide (i = 2))]) S1 m1
    have z1 : H p1 = none := A1.free n1
    have S2 := same_upd (o := .lst ([V.bl (decide (i = 0)), V.bl (decide (i = 1))] ++ [V.bl (decide (i = 2))])) A1 n1
    have P2 : (upd (upd G1 q1 (.lst [V.bl (decide (i = 2))])) p1 (.lst ([V.bl (decide (i = 0)), V.bl (decide (i = 1))] ++ [V.bl (decide (i = 2))]))) p1 = some (.lst [V.bl (decide (i = 0)), V.bl (decide (i = 1)), V.bl (decide (i = 2))]) := upd_same
    clear P1 m1
    generalize hG : upd (upd G1 q1 (.lst [V.bl (decide (i = 2))])) p1 (.lst ([V.bl (decide (i = 0)), V.bl (decide (i = 1))] ++ [V.bl (decide (i = 2))])) = G2 at *
    clear hG n1 A1 S1 z0
    refine ⟨_, rfl, _, rfl, _, _, _, _, _, rfl, .own _, ty S2, C.k1 i 3 hi (by decide), _, rfl, _, _, _, _, _, rfl, .own _, ty S2, C.k1 i 4 hi (by decide), len_small (by simp), fun q2 m2 => ⟨_, _, _, _, rfl, rfl, by rw [upd_ne (ne_of_none P2 m2)]; exact P2, upd_same, len_small (by simp), fun p2 n2 => ?_⟩⟩
    have A2 := same_upd (o := .lst [V.bl (decide (i = 3)), V.bl (decide (i = 4))]) S2 m2
    have z2 : H p2 = none := A2.free n2
    have S3 := same_upd (o := .lst ([V.bl (decide (i = 0)), V.bl (decide (i = 1)), V.bl (decide (i = 2))] ++ [V.bl (decide (i = 3)), V.bl (decide (i = 4))])) A2 n2
    have P3 : (upd (upd G2 q2 (.lst [V.bl (decide (i = 3)), V.bl (decide (i = 4))])) p2 (.lst ([V.bl (decide (i = 0)), V.bl (decide (i = 1)), V.bl (decide (i = 2))] ++ [V.bl (decide (i = 3)), V.bl (decide (i = 4))]))) p2 = some (.lst [V.bl (decide (i = 0)), V.bl (decide (i = 1)), V.bl (decide (i = 2)), V.bl (decide (i = 3)), V.bl (decide (i = 4))]) := upd_same
    clear P2 m2
    generalize hG : upd (upd G2 q2 (.lst [V.bl (decide (i = 3)), V.bl (decide (i = 4))])) p2 (.lst ([V.bl (decide (i = 0)), V.bl (decide (i = 1)), V.bl (decide (i = 2))] ++ [V.bl (decide (i = 3)), V.bl (decide (i = 4))])) = G3 at *
    clear hG n2 A2 S2 z1
    refine ⟨_, rfl, _, rfl, _, _, _, _, _, rfl, .own _, ty S3, C.k1 i 5 hi (by decide), len_small (by simp), fun q3 m3 => ⟨_, _, _, _, rfl, rfl, by rw [upd_ne (ne_of_none P3 m3)]; exact P3, upd_same, len_small (by simp), fun p3 n3 => ?_⟩⟩
    have A3 := same_upd (o := .lst [V.bl (decide (i = 5))]) S3 m3
    have z3 : H p3 = none := A3.free n3
    have S4 := same_upd (o := .lst ([V.bl (decide (i = 0)), V.bl (decide (i = 1)), V.bl (decide (i = 2)), V.bl (decide (i = 3)), V.bl (decide (i = 4))] ++ [V.bl (decide (i = 5))])) A3 n3
    have P4 : (upd (upd G3 q3 (.lst [V.bl (decide (i = 5))])) p3 (.lst ([V.bl (decide (i = 0)), V.bl (decide (i = 1)), V.bl (decide (i = 2)), V.bl (decide (i = 3)), V.bl (decide (i = 4))] ++ [V.bl (decide (i = 5))]))) p3 = some (.lst [V.bl (decide (i = 0)), V.bl (decide (i = 1)), V.bl (decide (i = 2)), V.bl (decide (i = 3)), V.bl (decide (i = 4)), V.bl (decide (i = 5))]) := upd_same
    clear P3 m3
    generalize hG : upd (upd G3 q3 (.lst [V.bl (decide (i = 5))])) p3 (.lst ([V.bl (decide (i = 0)), V.bl (decide (i = 1)), V.bl (decide (i = 2)), V.bl (decide (i = 3)), V.bl (decide (i = 4))] ++ [V.bl (decide (i = 5))])) = G4 at *
    clear hG n3 A3 S3 z2
    refine ⟨_, rfl, _, rfl, _, _, _, _, _, rfl, .own _, ty S4, C.k1 i 6 hi (by decide), _, rfl, _, _, _, _, _, rfl, .own _, ty S4, C.k1 i 7 hi (by decide), len_small (by simp), fun q4 m4 => ⟨_, _, _, _, rfl, rfl, by rw [upd_ne (ne_of_none P4 m4)]; exact P4, upd_same, len_small (by simp), fun p4 n4 => ?_⟩⟩
    have A4 := same_upd (o := .lst [V.bl (decide (i = 6)), V.bl (decide (i = 7))]) S4 m4
    have z4 : H p4 = none := A4.free n4
    have S5 := same_upd (o := .lst ([V.bl (decide (i = 0)), V.bl (decide (i = 1)), V.bl (decide (i = 2)), V.bl (decide (i = 3)), V.bl (decide (i = 4)), V.bl (decide (i = 5))] ++ [V.bl (decide (i = 6)), V.bl (decide (i = 7))])) A4 n4
    have P5 : (upd (upd G4 q4 (.lst [V.bl (decide (i = 6)), V.bl (decide (i = 7))])) p4 (.lst ([V.bl (decide (i = 0)), V.bl (decide (i = 1)), V.bl (decide (i = 2)), V.bl (decide (i = 3)), V.bl (decide (i = 4)), V.bl (decide (i = 5))] ++ [V.bl (decide (i = 6)), V.bl (decide (i = 7))]))) p4 = some (.lst [V.bl (decide (i = 0)), V.bl (decide (i = 1)), V.bl (decide (i = 2)), V.bl (decide (i = 3)), V.bl (decide (i = 4)), V.bl (decide (i = 5)), V.bl (decide (i = 6)), V.bl (decide (i = 7))]) := upd_same
    clear P4 m4
    generalize hG : upd (upd G4 q4 (.lst [V.bl (decide (i = 6)), V.bl (decide (i = 7))])) p4 (.lst ([V.bl (decide (i = 0)), V.bl (decide (i = 1)), V.bl (decide (i = 2)), V.bl (decide (i = 3)), V.bl (decide (i = 4)), V.bl (decide (i = 5))] ++ [V.bl (decide (i = 6)), V.bl (decide (i = 7))])) = G5 at *
    clear hG n4 A4 S4 z3
    refine ⟨_, rfl, _, rfl, _, _, _, _, _, rfl, .own _, ty S5, C.k1 i 8 hi (by decide), len_small (by simp), fun q5 m5 => ⟨_, _, _, _, rfl, rfl, by rw [upd_ne (ne_of_none P5 m5)]; exact P5, upd_same, len_small (by simp), fun p5 n5 => ?_⟩⟩
    have A5 := same_upd (o := .lst [V.bl (decide (i = 8))]) S5 m5
    have z5 : H p5 = none := A5.free n5
    have S6 := same_upd (o := .lst ([V.bl (decide (i = 0)), V.bl (decide (i = 1)), V.bl (decide (i = 2)), V.bl (decide (i = 3)), V.bl (decide (i = 4)), V.bl (decide (i = 5)), V.bl (decide (i = 6)), V.bl (decide (i = 7))] ++ [V.bl (decide (i = 8))])) A5 n5
    have P6 : (upd (upd G5 q5 (.lst [V.bl (decide (i = 8))])) p5 (.lst ([V.bl (decide (i = 0)), V.bl (decide (i = 1)), V.bl (decide (i = 2)), V.bl (decide (i = 3)), V.bl (decide (i = 4)), V.bl (decide (i = 5)), V.bl (decide (i = 6)), V.bl (decide (i = 7))] ++ [V.bl (decide (i = 8))]))) p5 = some (.lst [V.bl (decide (i = 0)), V.bl (decide (i = 1)), V.bl (decide (i = 2)), V.bl (decide (i = 3)), V.bl (decide (i = 4)), V.bl (decide (i = 5)), V.bl (decide (i = 6)), V.bl (decide (i = 7)), V.bl (decide (i = 8))]) := upd_same
    clear P5 m5
    generalize hG : upd (upd G5 q5 (.lst [V.bl (decide (i = 8))])) p5 (.lst ([V.bl (decide (i = 0)), V.bl (decide (i = 1)), V.bl (decide (i = 2)), V.bl (decide (i = 3)), V.bl (decide (i = 4)), V.bl (decide (i = 5)), V.bl (decide (i = 6)), V.bl (decide (i = 7))] ++ [V.bl (decide (i = 8))])) = G6 at *
    clear hG n5 A5 S5 z4
    refine ⟨_, rfl, _, rfl, _, _, _, _, _, rfl, .own _, ty S6, C.k1 i 9 hi (by decide), _, rfl, _, _, _, _, _, rfl, .own _, ty S6, C.k1 i 10 hi (by decide), len_small (by simp), fun q6 m6 => ⟨_, _, _, _, rfl, rfl, by rw [upd_ne (ne_of_none P6 m6)]; exact P6, upd_same, len_small (by simp), fun p6 n6 => ?_⟩⟩
    have A6 := same_upd (o := .lst [V.bl (decide (i = 9)), V.bl (decide (i = 10))]) S6 m6
    have z6 : H p6 = none := A6.free n6
    have S7 := same_upd (o := .lst ([V.bl (decide (i = 0)), V.bl (decide (i = 1)), V.bl (decide (i = 2)), V.bl (decide (i = 3)), V.bl (decide (i = 4)), V.bl (decide (i = 5)), V.bl (decide (i = 6)), V.bl (decide (i = 7)), V.bl (decide (i = 8))] ++ [V.bl (decide (i = 9)), V.bl (decide (i = 10))])) A6 n6
    have P7 : (upd (upd G6 q6 (.lst [V.bl (decide (i = 9)), V.bl (decide (i = 10))])) p6 (.lst ([V.bl (decide (i = 0)), V.bl (decide (i = 1)), V.bl (decide (i = 2)), V.bl (decide (i = 3)), V.bl (decide (i = 4)), V.bl (decide (i = 5)), V.bl (decide (i = 6)), V.bl (decide (i = 7)), V.bl (decide (i = 8))] ++ [V.bl (decide (i = 9)), V.bl (decide (i = 10))]))) p6 = some (.lst [V.bl (decide (i = 0)), V.bl (decide (i = 1)), V.bl (decide (i = 2)), V.bl (decide (i = 3)), V.bl (decide (i = 4)), V.bl (decide (i = 5)), V.bl (decide (i = 6)), V.bl (decide (i = 7)), V.bl (decide (i = 8)), V.bl (decide (i = 9)), V.bl (decide (i = 10))]) := upd_same
    clear P6 m6
    generalize hG : upd (upd G6 q6 (.lst [V.bl (decide (i = 9)), V.bl (decide (i = 10))])) p6 (.lst ([V.bl (decide (i = 0)), V.bl (decide (i = 1)), V.bl (decide (i = 2)), V.bl (decide (i = 3)), V.bl (decide (i = 4)), V.bl (decide (i = 5)), V.bl (decide (i = 6)), V.bl (decide (i = 7)), V.bl (decide (i = 8))] ++ [V.bl (decide (i = 9)), V.bl (decide (i = 10))])) = G7 at *
    clear hG n6 A6 S6 z5
    refine ⟨_, rfl, _, rfl, _, _, _, _, _, rfl, .own _, ty S7, C.k1 i 11 hi (by decide), len_small (by simp), fun q7 m7 => ⟨_, _, _, _, rfl, rfl, by rw [upd_ne (ne_of_none P7 m7)]; exact P7, upd_same, len_small (by simp), fun p7 n7 => ?_⟩⟩
    have A7 := same_upd (o := .lst [V.bl (decide (i = 11))]) S7 m7
    have z7 : H p7 = none := A7.free n7
    have S8 := same_upd (o := .lst ([V.bl (decide (i = 0)), V.bl (decide (i = 1)), V.bl (decide (i = 2)), V.bl (decide (i = 3)), V.bl (decide (i = 4)), V.bl (decide (i = 5)), V.bl (decide (i = 6)), V.bl (decide (i = 7)), V.bl (decide (i = 8)), V.bl (decide (i = 9)), V.bl (decide (i = 10))] ++ [V.bl (decide (i = 11))])) A7 n7
    have P8 : (upd (upd G7 q7 (.lst [V.bl (decide (i = 11))])) p7 (.lst ([V.bl (decide (i = 0)), V.bl (decide (i = 1)), V.bl (decide (i = 2)), V.bl (decide (i = 3)), V.bl (decide (i = 4)), V.bl (decide (i = 5)), V.bl (decide (i = 6)), V.bl (decide (i = 7)), V.bl (decide (i = 8)), V.bl (decide (i = 9)), V.bl (decide (i = 10))] ++ [V.bl (decide (i = 11))]))) p7 = some (.lst [V.bl (decide (i = 0)), V.bl (decide (i = 1)), V.bl (decide (i = 2)), V.bl (decide (i = 3)), V.bl (decide (i = 4)), V.bl (decide (i = 5)), V.bl (decide (i = 6)), V.bl (decide (i = 7)), V.bl (decide (i = 8)), V.bl (decide (i = 9)), V.bl (decide (i = 10)), V.bl (decide (i = 11))]) := upd_same
    clear P7 m7
    generalize hG : upd (upd G7 q7 (.lst [V.bl (decide (i = 11))])) p7 (.lst ([V.bl (decide (i = 0)), V.bl (decide (i = 1)), V.bl (decide (i = 2)), V.bl (decide (i = 3)), V.bl (decide (i = 4)), V.bl (decide (i = 5)), V.bl (decide (i = 6)), V.bl (decide (i = 7)), V.bl (decide (i = 8)), V.bl (decide (i = 9)), V.bl (decide (i = 10))] ++ [V.bl (decide (i = 11))])) = G8 at *
    clear hG n7 A7 S7 z6
    refine ⟨_, rfl, _, rfl, _, _, _, _, _, rfl, .own _, ty S8, C.k1 i 12 hi (by decide), _, rfl, _, _, _, _, _, rfl, .own _, ty S8, C.k1 i 13 hi (by decide), len_small (by simp), fun q8 m8 => ⟨_, _, _, _, rfl, rfl, by rw [upd_ne (ne_of_none P8 m8)]; exact P8, upd_same, len_small (by simp), fun p8 n8 => ?_⟩⟩
    have A8 := same_upd (o := .lst [V.bl (decide (i = 12)), V.bl (decide (i = 13))]) S8 m8
    have z8 : H p8 = none := A8.free n8
    have S9 := same_upd (o := .lst ([V.bl (decide (i = 0)), V.bl (decide (i = 1)), V.bl (decide (i = 2)), V.bl (decide (i = 3)), V.bl (decide (i = 4)), V.bl (decide (i = 5)), V.bl (decide (i = 6)), V.bl (decide (i = 7)), V.bl (decide (i = 8)), V.bl (decide (i = 9)), V.bl (decide (i = 10)), V.bl (decide (i = 11))] ++ [V.bl (decide (i = 12)), V.bl (decide (i = 13))])) A8 n8
    have P9 : (upd (upd G8 q8 (.lst [V.bl (decide (i = 12)), V.bl (decide (i = 13))])) p8 (.lst ([V.bl (decide (i = 0)), V.bl (decide (i = 1)), V.bl (decide (i = 2)), V.bl (decide (i = 3)), V.bl (decide (i = 4)), V.bl (decide (i = 5)), V.bl (decide (i = 6)), V.bl (decide (i = 7)), V.bl (decide (i = 8)), V.bl (decide (i = 9)), V.bl (decide (i = 10)), V.bl (decide (i = 11))] ++ [V.bl (decide (i = 12)), V.bl (decide (i = 13))]))) p8 = some (.lst [V.bl (decide (i = 0)), V.bl (decide (i = 1)), V.bl (decide (i = 2)), V.bl (decide (i = 3)), V.bl (decide (i = 4)), V.bl (decide (i = 5)), V.bl (decide (i = 6)), V.bl (decide (i = 7)), V.bl (decide (i = 8)), V.bl (decide (i = 9)), V.bl (decide (i = 10)), V.bl (decide (i = 11)), V.bl (decide (i = 12)), V.bl (decide (i = 13))]) := upd_same
    clear P8 m8
    generalize hG : upd (upd G8 q8 (.lst [V.bl (decide (i = 12)), V.bl (decide (i = 13))])) p8 (.lst ([V.bl (decide (i = 0)), V.bl (decide (i = 1)), V.bl (decide (i = 2)), V.bl (decide (i = 3)), V.bl (decide (i = 4)), V.bl (decide (i = 5)), V.bl (decide (i = 6)), V.bl (decide (i = 7)), V.bl (decide (i = 8)), V.bl (decide (i = 9)), V.bl (decide (i = 10)), V.bl (decide (i = 11))] ++ [V.bl (decide (i = 12)), V.bl (decide (i = 13))])) = G9 at *
    clear hG n8 A8 S8 z7
    refine ⟨_, rfl, _, rfl, _, _, _, _, _, rfl, .own _, ty S9, C.k1 i 14 hi (by decide), len_small (by simp), fun q9 m9 => ⟨_, _, _, _, rfl, rfl, by rw [upd_ne (ne_of_none P9 m9)]; exact P9, upd_same, len_small (by simp), fun p9 n9 => ?_⟩⟩
    have A9 := same_upd (o := .lst [V.bl (decide (i = 14))]) S9 m9
    have z9 : H p9 = none := A9.free n9
    have S10 := same_upd (o := .lst ([V.bl (decide (i = 0)), V.bl (decide (i = 1)), V.bl (decide (i = 2)), V.bl (decide (i = 3)), V.bl (decide (i = 4)), V.bl (decide (i = 5)), V.bl (decide (i = 6)), V.bl (decide (i = 7)), V.bl (decide (i = 8)), V.bl (decide (i = 9)), V.bl (decide (i = 10)), V.bl (decide (i = 11)), V.bl (decide (i = 12)), V.bl (decide (i = 13))] ++ [V.bl (decide (i = 14))])) A9 n9
    have P10 : (upd (upd G9 q9 (.lst [V.bl (decide (i = 14))])) p9 (.lst ([V.bl (decide (i = 0)), V.bl (decide (i = 1)), V.bl (decide (i = 2)), V.bl (decide (i = 3)), V.bl (decide (i = 4)), V.bl (decide (i = 5)), V.bl (decide (i = 6)), V.bl (decide (i = 7)), V.bl (decide (i = 8)), V.bl (decide (i = 9)), V.bl (decide (i = 10)), V.bl (decide (i = 11)), V.bl (decide (i = 12)), V.bl (decide (i = 13))] ++ [V.bl (decide (i = 14))]))) p9 = some (.lst [V.bl (decide (i = 0)), V.bl (decide (i = 1)), V.bl (decide (i = 2)), V.bl (decide (i = 3)), V.bl (decide (i = 4)), V.bl (decide (i = 5)), V.bl (decide (i = 6)), V.bl (decide (i = 7)), V.bl (decide (i = 8)), V.bl (decide (i = 9)), V.bl (decide (i = 10)), V.bl (decide (i = 11)), V.bl (decide (i = 12)), V.bl (decide (i = 13)), V.bl (decide (i = 14))]) := upd_same
    clear P9 m9
    generalize hG : upd (upd G9 q9 (.lst [V.bl (decide (i = 14))])) p9 (.lst ([V.bl (decide (i = 0)), V.bl (decide (i = 1)), V.bl (decide (i = 2)), V.bl (decide (i = 3)), V.bl (decide (i = 4)), V.bl (decide (i = 5)), V.bl (decide (i = 6)), V.bl (decide (i = 7)), V.bl (decide (i = 8)), V.bl (decide (i = 9)), V.bl (decide (i = 10)), V.bl (decide (i = 11)), V.bl (decide (i = 12)), V.bl (decide (i = 13))] ++ [V.bl (decide (i = 14))])) = G10 at *
    clear hG n9 A9 S9 z8
    refine ⟨_, rfl, _, rfl, _, _, _, _, _, rfl, .own _, ty S10, C.k1 i 15 hi (by decide), _, rfl, _, _, _, _, _, rfl, .own _, ty S10, C.k1 i 16 hi (by decide), _, rfl, _, _, _, _, _, rfl, .own _, ty S10, C.k1 i 17 hi (by decide), len_small (by simp), fun q10 m10 => ⟨_, _, _, _, rfl, rfl, by rw [upd_ne (ne_of_none P10 m10)]; exact P10, upd_same, len_small (by simp), fun p10 n10 => ?_⟩⟩
    have A10 := same_upd (o := .lst [V.bl (decide (i = 15)), V.bl (decide (i = 16)), V.bl (decide (i = 17))]) S10 m10
    have z10 : H p10 = none := A10.free n10
    have S11 := same_upd (o := .lst ([V.bl (decide (i = 0)), V.bl (decide (i = 1)), V.bl (decide (i = 2)), V.bl (decide (i = 3)), V.bl (decide (i = 4)), V.bl (decide (i = 5)), V.bl (decide (i = 6)), V.bl (decide (i = 7)), V.bl (decide (i = 8)), V.bl (decide (i = 9)), V.bl (decide (i = 10)), V.bl (decide (i = 11)), V.bl (decide (i = 12)), V.bl (decide (i = 13)), V.bl (decide (i = 14))] ++ [V.bl (decide (i = 15)), V.bl (decide (i = 16)), V.bl (decide (i = 17))])) A10 n10
    have P11 : (upd (upd G10 q10 (.lst [V.bl (decide (i = 15)), V.bl (decide (i = 16)), V.bl (decide (i = 17))])) p10 (.lst ([V.bl (decide (i = 0)), V.bl (decide (i = 1)), V.bl (decide (i = 2)), V.bl (decide (i = 3)), V.bl (decide (i = 4)), V.bl (decide (i = 5)), V.bl (decide (i = 6)), V.bl (decide (i = 7)), V.bl (decide (i = 8)), V.bl (decide (i = 9)), V.bl (decide (i = 10)), V.bl (decide (i = 11)), V.bl (decide (i = 12)), V.bl (decide (i = 13)), V.bl (decide (i = 14))] ++ [V.bl (decide (i = 15)), V.bl (decide (i = 16)), V.bl (decide (i = 17))]))) p10 = some (.lst [V.bl (decide (i = 0)), V.bl (decide (i = 1)), V.bl (decide (i = 2)), V.bl (decide (i = 3)), V.bl (decide (i = 4)), V.bl (decide (i = 5)), V.bl (decide (i = 6)), V.bl (decide (i = 7)), V.bl (decide (i = 8)), V.bl (decide (i = 9)), V.bl (decide (i = 10)), V.bl (decide (i = 11)), V.bl (decide (i = 12)), V.bl (decide (i = 13)), V.bl (decide (i = 14)), V.bl (decide (i = 15)), V.bl (decide (i = 16)), V.bl (decide (i = 17))]) := upd_same
    clear P10 m10
    generalize hG : upd (upd G10 q10 (.lst [V.bl (decide (i = 15)), V.bl (decide (i = 16)), V.bl (decide (i = 17))])) p10 (.lst ([V.bl (decide (i = 0)), V.bl (decide (i = 1)), V.bl (decide (i = 2)), V.bl (decide (i = 3)), V.bl (decide (i = 4)), V.bl (decide (i = 5)), V.bl (decide (i = 6)), V.bl (decide (i = 7)), V.bl (decide (i = 8)), V.bl (decide (i = 9)), V.bl (decide (i = 10)), V.bl (decide (i = 11)), V.bl (decide (i = 12)), V.bl (decide (i = 13)), V.bl (decide (i = 14))] ++ [V.bl (decide (i = 15)), V.bl (decide (i = 16)), V.bl (decide (i = 17))])) = G11 at *
    clear hG n10 A10 S10 z9
    refine ⟨_, rfl, _, rfl, _, _, _, _, _, rfl, .own _, ty S11, C.k1 i 18 hi (by decide), len_small (by simp), fun q11 m11 => ⟨_, _, _, _, rfl, rfl, by rw [upd_ne (ne_of_none P11 m11)]; exact P11, upd_same, len_small (by simp), fun p11 n11 => ?_⟩⟩
    have A11 := same_upd (o := .lst [V.bl (decide (i = 18))]) S11 m11
    have z11 : H p11 = none := A11.free n11
    have S12 := same_upd (o := .lst ([V.bl (decide (i = 0)), V.bl (decide (i = 1)), V.bl (decide (i = 2)), V.bl (decide (i = 3)), V.bl (decide (i = 4)), V.bl (decide (i = 5)), V.bl (decide (i = 6)), V.bl (decide (i = 7)), V.bl (decide (i = 8)), V.bl (decide (i = 9)), V.bl (decide (i = 10)), V.bl (decide (i = 11)), V.bl (decide (i = 12)), V.bl (decide (i = 13)), V.bl (decide (i = 14)), V.bl (decide (i = 15)), V.bl (decide (i = 16)), V.bl (decide (i = 17))] ++ [V.bl (decide (i = 18))])) A11 n11
    have P12 : (upd (upd G11 q11 (.lst [V.bl (decide (i = 18))])) p11 (.lst ([V.bl (decide (i = 0)), V.bl (decide (i = 1)), V.bl (decide (i = 2)), V.bl (decide (i = 3)), V.bl (decide (i = 4)), V.bl (decide (i = 5)), V.bl (decide (i = 6)), V.bl (decide (i = 7)), V.bl (decide (i = 8)), V.bl (decide (i = 9)), V.bl (decide (i = 10)), V.bl (decide (i = 11)), V.bl (decide (i = 12)), V.bl (decide (i = 13)), V.bl (decide (i = 14)), V.bl (decide (i = 15)), V.bl (decide (i = 16)), V.bl (decide (i = 17))] ++ [V.bl (decide (i = 18))]))) p11 = some (.lst [V.bl (decide (i = 0)), V.bl (decide (i = 1)), V.bl (decide (i = 2)), V.bl (decide (i = 3)), V.bl (decide (i = 4)), V.bl (decide (i = 5)), V.bl (decide (i = 6)), V.bl (decide (i = 7)), V.bl (decide (i = 8)), V.bl (decide (i = 9)), V.bl (decide (i = 10)), V.bl (decide (i = 11)), V.bl (decide (i = 12)), V.bl (decide (i = 13)), V.bl (decide (i = 14)), V.bl (decide (i = 15)), V.bl (decide (i = 16)), V.bl (decide (i = 17)), V.bl (decide (i = 18))]) := upd_same
    clear P11 m11
    generalize hG : upd (upd G11 q11 (.lst [V.bl (decide (i = 18))])) p11 (.lst ([V.bl (decide (i = 0)), V.bl (decide (i = 1)), V.bl (decide (i = 2)), V.bl (decide (i = 3)), V.bl (decide (i = 4)), V.bl (decide (i = 5)), V.bl (decide (i = 6)), V.bl (decide (i = 7)), V.bl (decide (i = 8)), V.bl (decide (i = 9)), V.bl (decide (i = 10)), V.bl (decide (i = 11)), V.bl (decide (i = 12)), V.bl (decide (i = 13)), V.bl (decide (i = 14)), V.bl (decide (i = 15)), V.bl (decide (i = 16)), V.bl (decide (i = 17))] ++ [V.bl (decide (i = 18))])) = G12 at *
    clear hG n11 A11 S11 z10
    exact ⟨_, rfl, h _ _ z11 S12 P12⟩
end
end L54
namespace L54
open PySem PySem.Spec PyProof.Rows L2
/-- errors of the classes c k, c (k + 1), .. -/
def Er (H : Hp) (c : Nat → Addr) : Nat → List V → Prop
  | _, [] => True
  | k, x :: r => (∃ a, x = .ref a ∧ IsX H a (c k)) ∧ Er H c (k + 1) r
theorem Er.mono {H H' : Hp} {c : Nat → Addr} (s : Same H H') : ∀ {k : Nat} {xs : List V}, Er H c k xs → Er H' c k xs
  | _, [], _ => True.intro
  | _, _ :: _, ⟨⟨a, e, h⟩, r⟩ => ⟨⟨a, e, h.mono s⟩, Er.mono s r⟩
theorem Er.app {H : Hp} {c : Nat → Addr} : ∀ {k : Nat} {xs ys : List V}, Er H c k xs → Er H c (k + xs.length) ys → Er H c k (xs ++ ys)
  | _, [], _, _, h => h
  | k, x :: r, ys, ⟨a, b⟩, h => ⟨a, Er.app b (by rw [show k + 1 + r.length = k + (x :: r).length by simp; omega]; exact h)⟩
theorem Er.get {H : Hp} {c : Nat → Addr} : ∀ {k : Nat} {xs : List V} {j : Nat} {x : V}, Er H c k xs → xs[j]? = some x → ∃ a, x = .ref a ∧ IsX H a (c (k + j))
  | k, y :: r, 0, x, ⟨h, _⟩, e => by
    obtain rfl : y = x := by simpa using e
    exact h
  | k, y :: r, j + 1, x, ⟨_, h⟩, e => by
    obtain ⟨a, e1, e2⟩ := Er.get h (by simpa using e)
    exact ⟨a, e1, by rw [show k + (j + 1) = k + 1 + j by omega]; exact e2⟩
theorem newX {H : Hp} {a C : Addr} : IsX (upd H a (exo a C none)) a C := ⟨none, upd_same, fun _ z => by cases z⟩
theorem up1 {H : Hp} {p : Addr} {o : HO} (n : H p = none) : Same H (upd H p o) := same_upd (Same.refl H) n
section
variable {P : Program} {w : World} {K : PySem.W.Frag} {mg : Str → Option Value} {base : Heap} {c : Nat → Addr}
def qErrs (H : Hp) (c : Nat → Addr) (Q : VK) : Prop := ∀ p H' xs, H p = none → Same H H' → H' p = some (.lst xs) → xs.length = 17 → Er H' c 0 xs → Q (.ref p) H'
def spBare (c : Nat → Addr) : Sp := fun vs H Q _ => vs = [] ∧ qErrs H c Q
def spTold (c : Nat → Addr) : Sp := fun vs H Q _ => (∃ v, vs = [v]) ∧ qErrs H c Q
theorem scB : FnScope ["found"] [] (defScope sBare) := ⟨rfl, rfl, rfl, by decide +kernel, rfl, by decide +kernel, by decide +kernel⟩
theorem scD : FnScope ["one", "found"] ["one"] (defScope sTold) := ⟨rfl, rfl, rfl, by decide +kernel, rfl, by decide +kernel, by decide +kernel⟩

theorem ok_bare {f : Addr} {fd : FuncData} (F : Fun K "_law_bare" "_law_bare" sBare f fd) (C : Cs K mg c) : FnOk P w K mg base CX0 1 f fd [] (spBare c) := by
  refine F.ok scB (fun vs H Q E h => ?_) (fun cdv A outer s H vs Q E hr h => ?_)
  · obtain ⟨rfl, _⟩ := h
    rfl
  · obtain ⟨rfl, h⟩ := h
    refine ⟨_, (pss_cons (ps_set (i := 0) scB.nd rfl (.inl rfl) (pe_lst (pa_cons (pe_ex0 PySem.F.excBase_ValueError (C.n 0 (by decide) (by decide) (by decide))) (pa_cons (pe_ex0 PySem.F.excBase_ValueError (C.n 1 (by decide) (by decide) (by decide))) (pa_cons (pe_ex0 PySem.F.excBase_ValueError (C.n 2 (by decide) (by decide) (by decide))) (pa_cons (pe_ex0 PySem.F.excBase_ValueError (C.n 3 (by decide) (by decide) (by decide))) (pa_cons (pe_ex0 PySem.F.excBase_ValueError (C.n 4 (by decide) (by decide) (by decide))) pa_nil)))))))
      (pss_cons (ps_set (i := 0) scB.nd rfl (.inl rfl) (pe_op op_cat (pv 0) (pe_lst (pa_cons (pe_ex0 PySem.F.excBase_ValueError (C.n 5 (by decide) (by decide) (by decide))) pa_nil))))
      (pss_cons (ps_set (i := 0) scB.nd rfl (.inl rfl) (pe_op op_cat (pv 0) (pe_lst (pa_cons (pe_ex0 PySem.F.excBase_ValueError (C.n 6 (by decide) (by decide) (by decide))) (pa_cons (pe_ex0 PySem.F.excBase_ValueError (C.n 7 (by decide) (by decide) (by decide))) (pa_cons (pe_ex0 PySem.F.excBase_ValueError (C.n 8 (by decide) (by decide) (by decide))) (pa_cons (pe_ex0 PySem.F.excBase_ValueError (C.n 9 (by decide) (by decide) (by decide))) (pa_cons (pe_ex0 PySem.F.excBase_ValueError (C.n 10 (by decide) (by decide) (by decide))) pa_nil))))))))
      (pss_cons (ps_set (i := 0) scB.nd rfl (.inl rfl) (pe_op op_cat (pv 0) (pe_lst (pa_cons (pe_ex0 PySem.F.excBase_ValueError (C.n 11 (by decide) (by decide) (by decide))) pa_nil))))
      (pss_one (ps_ret (pe_op op_cat (pv 0) (pe_lst (pa_cons (pe_ex0 PySem.F.excBase_ValueError (C.n 12 (by decide) (by decide) (by decide))) (pa_cons (pe_ex0 PySem.F.excBase_ValueError (C.n 13 (by decide) (by decide) (by decide))) (pa_cons (pe_ex0 PySem.F.excBase_ValueError (C.n 14 (by decide) (by decide) (by decide))) (pa_cons (pe_ex0 PySem.F.excBase_ValueError (C.n 15 (by decide) (by decide) (by decide))) (pa_cons (pe_ex0 PySem.F.excBase_ValueError (C.n 16 (by decide) (by decide) (by decide))) pa_nil))))))))))))), ?_⟩
    have S : Same H H := Same.refl H
    intro a0 n0
    have S' := same_upd (o := exo a0 (c 0) none) S n0
    have U := up1 (o := exo a0 (c 0) none) n0
    have X0 : IsX (upd H a0 (exo a0 (c 0) none)) a0 (c 0) := newX
    replace S := S'
    clear S' U
    generalize upd H a0 (exo a0 (c 0) none) = G0 at *
    clear n0
    intro a1 n1
    have S' := same_upd (o := exo a1 (c 1) none) S n1
    have U := up1 (o := exo a1 (c 1) none) n1
    have X1 : IsX (upd G0 a1 (exo a1 (c 1) none)) a1 (c 1) := newX
    replace X0 := X0.mono U
    replace S := S'
    clear S' U
    generalize upd G0 a1 (exo a1 (c 1) none) = G1 at *
    clear n1
    intro a2 n2
    have S' := same_upd (o := exo a2 (c 2) none) S n2
    have U := up1 (o := exo a2 (c 2) none) n2
    have X2 : IsX (upd G1 a2 (exo a2 (c 2) none)) a2 (c 2) := newX
    replace X0 := X0.mono U
    replace X1 := X1.mono U
    replace S := S'
    clear S' U
    generalize upd G1 a2 (exo a2 (c 2) none) = G2 at *
    clear n2
    intro a3 n3
    have S' := same_upd (o := exo a3 (c 3) none) S n3
    have U := up1 (o := exo a3 (c 3) none) n3
    have X3 : IsX (upd G2 a3 (exo a3 (c 3) none)) a3 (c 3) := newX
    replace X0 := X0.mono U
    replace X1 := X1.mono U
    replace X2 := X2.mono U
    replace S := S'
    clear S' U
    generalize upd G2 a3 (exo a3 (c 3) none) = G3 at *
    clear n3
    intro a4 n4
    have S' := same_upd (o := exo a4 (c 4) none) S n4
    have U := up1 (o := exo a4 (c 4) none) n4
    have X4 : IsX (upd G3 a4 (exo a4 (c 4) none)) a4 (c 4) := newX
    replace X0 := X0.mono U
    replace X1 := X1.mono U
    replace X2 := X2.mono U
    replace X3 := X3.mono U
    replace S := S'
    clear S' U
    generalize upd G3 a4 (exo a4 (c 4) none) = G4 at *
    clear n4
    refine ⟨len_small (by simp), fun p0 np => ?_⟩
    have U := up1 (o := .lst [V.ref a0, V.ref a1, V.ref a2, V.ref a3, V.ref a4]) np
    have zp := S.free np
    have S' := same_upd (o := .lst [V.ref a0, V.ref a1, V.ref a2, V.ref a3, V.ref a4]) S np
    have R : Er (upd G4 p0 (.lst [V.ref a0, V.ref a1, V.ref a2, V.ref a3, V.ref a4])) c 0 [V.ref a0, V.ref a1, V.ref a2, V.ref a3, V.ref a4] := Er.mono U (k := 0) ⟨⟨a0, rfl, X0⟩, ⟨a1, rfl, X1⟩, ⟨a2, rfl, X2⟩, ⟨a3, rfl, X3⟩, ⟨a4, rfl, X4⟩, True.intro⟩
    have L : upd G4 p0 (.lst [V.ref a0, V.ref a1, V.ref a2, V.ref a3, V.ref a4]) p0 = some (.lst [V.ref a0, V.ref a1, V.ref a2, V.ref a3, V.ref a4]) := upd_same
    have N : [V.ref a0, V.ref a1, V.ref a2, V.ref a3, V.ref a4].length = 5 := rfl
    replace S := S'
    clear S' U np X0 X1 X2 X3 X4
    generalize upd G4 p0 (.lst [V.ref a0, V.ref a1, V.ref a2, V.ref a3, V.ref a4]) = G5 at *
    generalize [V.ref a0, V.ref a1, V.ref a2, V.ref a3, V.ref a4] = xs0 at *
    refine ⟨_, rfl, ?_⟩
    intro a5 n5
    have S' := same_upd (o := exo a5 (c 5) none) S n5
    have U := up1 (o := exo a5 (c 5) none) n5
    have X5 : IsX (upd G5 a5 (exo a5 (c 5) none)) a5 (c 5) := newX
    replace R := R.mono U
    replace L := U _ _ L
    replace S := S'
    clear S' U
    generalize upd G5 a5 (exo a5 (c 5) none) = G6 at *
    clear n5
    refine ⟨len_small (by simp), fun q nq => ⟨_, _, _, _, rfl, rfl, by rw [upd_ne (ne_of_none L nq)]; exact L, upd_same, len_small (by rw [N]; simp), fun p1 np => ?_⟩⟩
    have U1 := up1 (o := .lst [V.ref a5]) nq
    have U2 := up1 (o := .lst (xs0 ++ [V.ref a5])) np
    have U := U1.trans U2
    have zp' := S.free (U1.free np)
    have S' := S.trans U
    have B : Er G6 c 5 [V.ref a5] := ⟨⟨a5, rfl, X5⟩, True.intro⟩
    have R' : Er (upd (upd G6 q (.lst [V.ref a5])) p1 (.lst (xs0 ++ [V.ref a5]))) c 0 (xs0 ++ [V.ref a5]) := Er.app (R.mono U) (by rw [N]; exact B.mono U)
    have L' : (upd (upd G6 q (.lst [V.ref a5])) p1 (.lst (xs0 ++ [V.ref a5]))) p1 = some (.lst (xs0 ++ [V.ref a5])) := upd_same
    have N' : (xs0 ++ [V.ref a5]).length = 6 := by rw [List.length_append, N]; rfl
    replace S := S'
    replace R := R'
    replace L := L'
    replace N := N'
    replace zp := zp'
    clear S' R' L' N' zp' B U U1 U2 np nq X5
    generalize upd (upd G6 q (.lst [V.ref a5])) p1 (.lst (xs0 ++ [V.ref a5])) = G7 at *
    generalize xs0 ++ [V.ref a5] = xs1 at *
    refine ⟨_, rfl, ?_⟩
    intro a6 n6
    have S' := same_upd (o := exo a6 (c 6) none) S n6
    have U := up1 (o := exo a6 (c 6) none) n6
    have X6 : IsX (upd G7 a6 (exo a6 (c 6) none)) a6 (c 6) := newX
    replace R := R.mono U
    replace L := U _ _ L
    replace S := S'
    clear S' U
    generalize upd G7 a6 (exo a6 (c 6) none) = G8 at *
    clear n6
    intro a7 n7
    have S' := same_upd (o := exo a7 (c 7) none) S n7
    have U := up1 (o := exo a7 (c 7) none) n7
    have X7 : IsX (upd G8 a7 (exo a7 (c 7) none)) a7 (c 7) := newX
    replace X6 := X6.mono U
    replace R := R.mono U
    replace L := U _ _ L
    replace S := S'
    clear S' U
    generalize upd G8 a7 (exo a7 (c 7) none) = G9 at *
    clear n7
    intro a8 n8
    have S' := same_upd (o := exo a8 (c 8) none) S n8
    have U := up1 (o := exo a8 (c 8) none) n8
    have X8 : IsX (upd G9 a8 (exo a8 (c 8) none)) a8 (c 8) := newX
    replace X6 := X6.mono U
    replace X7 := X7.mono U
    replace R := R.mono U
    replace L := U _ _ L
    replace S := S'
    clear S' U
    generalize upd G9 a8 (exo a8 (c 8) none) = G10 at *
    clear n8
    intro a9 n9
    have S' := same_upd (o := exo a9 (c 9) none) S n9
    have U := up1 (o := exo a9 (c 9) none) n9
    have X9 : IsX (upd G10 a9 (exo a9 (c 9) none)) a9 (c 9) := newX
    replace X6 := X6.mono U
    replace X7 := X7.mono U
    replace X8 := X8.mono U
    replace R := R.mono U
    replace L := U _ _ L
    replace S := S'
    clear S' U
    generalize upd G10 a9 (exo a9 (c 9) none) = G11 at *
    clear n9
    intro a10 n10
    have S' := same_upd (o := exo a10 (c 10) none) S n10
    have U := up1 (o := exo a10 (c 10) none) n10
    have X10 : IsX (upd G11 a10 (exo a10 (c 10) none)) a10 (c 10) := newX
    replace X6 := X6.mono U
    replace X7 := X7.mono U
    replace X8 := X8.mono U
    replace X9 := X9.mono U
    replace R := R.mono U
    replace L := U _ _ L
    replace S := S'
    clear S' U
    generalize upd G11 a10 (exo a10 (c 10) none) = G12 at *
    clear n10
    refine ⟨len_small (by simp), fun q nq => ⟨_, _, _, _, rfl, rfl, by rw [upd_ne (ne_of_none L nq)]; exact L, upd_same, len_small (by rw [N]; simp), fun p2 np => ?_⟩⟩
    have U1 := up1 (o := .lst [V.ref a6, V.ref a7, V.ref a8, V.ref a9, V.ref a10]) nq
    have U2 := up1 (o := .lst (xs1 ++ [V.ref a6, V.ref a7, V.ref a8, V.ref a9, V.ref a10])) np
    have U := U1.trans U2
    have zp' := S.free (U1.free np)
    have S' := S.trans U
    have B : Er G12 c 6 [V.ref a6, V.ref a7, V.ref a8, V.ref a9, V.ref a10] := ⟨⟨a6, rfl, X6⟩, ⟨a7, rfl, X7⟩, ⟨a8, rfl, X8⟩, ⟨a9, rfl, X9⟩, ⟨a10, rfl, X10⟩, True.intro⟩
    have R' : Er (upd (upd G12 q (.lst [V.ref a6, V.ref a7, V.ref a8, V.ref a9, V.ref a10])) p2 (.lst (xs1 ++ [V.ref a6, V.ref a7, V.ref a8, V.ref a9, V.ref a10]))) c 0 (xs1 ++ [V.ref a6, V.ref a7, V.ref a8, V.ref a9, V.ref a10]) := Er.app (R.mono U) (by rw [N]; exact B.mono U)
    have L' : (upd (upd G12 q (.lst [V.ref a6, V.ref a7, V.ref a8, V.ref a9, V.ref a10])) p2 (.lst (xs1 ++ [V.ref a6, V.ref a7, V.ref a8, V.ref a9, V.ref a10]))) p2 = some (.lst (xs1 ++ [V.ref a6, V.ref a7, V.ref a8, V.ref a9, V.ref a10])) := upd_same
    have N' : (xs1 ++ [V.ref a6, V.ref a7, V.ref a8, V.ref a9, V.ref a10]).length = 11 := by rw [List.length_append, N]; rfl
    replace S := S'
    replace R := R'
    replace L := L'
    replace N := N'
    replace zp := zp'
    clear S' R' L' N' zp' B U U1 U2 np nq X6 X7 X8 X9 X10
    generalize upd (upd G12 q (.lst [V.ref a6, V.ref a7, V.ref a8, V.ref a9, V.ref a10])) p2 (.lst (xs1 ++ [V.ref a6, V.ref a7, V.ref a8, V.ref a9, V.ref a10])) = G13 at *
    generalize xs1 ++ [V.ref a6, V.ref a7, V.ref a8, V.ref a9, V.ref a10] = xs2 at *
    refine ⟨_, rfl, ?_⟩
    intro a11 n11
    have S' := same_upd (o := exo a11 (c 11) none) S n11
    have U := up1 (o := exo a11 (c 11) none) n11
    have X11 : IsX (upd G13 a11 (exo a11 (c 11) none)) a11 (c 11) := newX
    replace R := R.mono U
    replace L := U _ _ L
    replace S := S'
    clear S' U
    generalize upd G13 a11 (exo a11 (c 11) none) = G14 at *
    clear n11
    refine ⟨len_small (by simp), fun q nq => ⟨_, _, _, _, rfl, rfl, by rw [upd_ne (ne_of_none L nq)]; exact L, upd_same, len_small (by rw [N]; simp), fun p3 np => ?_⟩⟩
    have U1 := up1 (o := .lst [V.ref a11]) nq
    have U2 := up1 (o := .lst (xs2 ++ [V.ref a11])) np
    have U := U1.trans U2
    have zp' := S.free (U1.free np)
    have S' := S.trans U
    have B : Er G14 c 11 [V.ref a11] := ⟨⟨a11, rfl, X11⟩, True.intro⟩
    have R' : Er (upd (upd G14 q (.lst [V.ref a11])) p3 (.lst (xs2 ++ [V.ref a11]))) c 0 (xs2 ++ [V.ref a11]) := Er.app (R.mono U) (by rw [N]; exact B.mono U)
    have L' : (upd (upd G14 q (.lst [V.ref a11])) p3 (.lst (xs2 ++ [V.ref a11]))) p3 = some (.lst (xs2 ++ [V.ref a11])) := upd_same
    have N' : (xs2 ++ [V.ref a11]).length = 12 := by rw [List.length_append, N]; rfl
    replace S := S'
    replace R := R'
    replace L := L'
    replace N := N'
    replace zp := zp'
    clear S' R' L' N' zp' B U U1 U2 np nq X11
    generalize upd (upd G14 q (.lst [V.ref a11])) p3 (.lst (xs2 ++ [V.ref a11])) = G15 at *
    generalize xs2 ++ [V.ref a11] = xs3 at *
    refine ⟨_, rfl, ?_⟩
    intro a12 n12
    have S' := same_upd (o := exo a12 (c 12) none) S n12
    have U := up1 (o := exo a12 (c 12) none) n12
    have X12 : IsX (upd G15 a12 (exo a12 (c 12) none)) a12 (c 12) := newX
    replace R := R.mono U
    replace L := U _ _ L
    replace S := S'
    clear S' U
    generalize upd G15 a12 (exo a12 (c 12) none) = G16 at *
    clear n12
    intro a13 n13
    have S' := same_upd (o := exo a13 (c 13) none) S n13
    have U := up1 (o := exo a13 (c 13) none) n13
    have X13 : IsX (upd G16 a13 (exo a13 (c 13) none)) a13 (c 13) := newX
    replace X12 := X12.mono U
    replace R := R.mono U
    replace L := U _ _ L
    replace S := S'
    clear S' U
    generalize upd G16 a13 (exo a13 (c 13) none) = G17 at *
    clear n13
    intro a14 n14
    have S' := same_upd (o := exo a14 (c 14) none) S n14
    have U := up1 (o := exo a14 (c 14) none) n14
    have X14 : IsX (upd G17 a14 (exo a14 (c 14) none)) a14 (c 14) := newX
    replace X12 := X12.mono U
    replace X13 := X13.mono U
    replace R := R.mono U
    replace L := U _ _ L
    replace S := S'
    clear S' U
    generalize upd G17 a14 (exo a14 (c 14) none) = G18 at *
    clear n14
    intro a15 n15
    have S' := same_upd (o := exo a15 (c 15) none) S n15
    have U := up1 (o := exo a15 (c 15) none) n15
    have X15 : IsX (upd G18 a15 (exo a15 (c 15) none)) a15 (c 15) := newX
    replace X12 := X12.mono U
    replace X13 := X13.mono U
    replace X14 := X14.mono U
    replace R := R.mono U
    replace L := U _ _ L
    replace S := S'
    clear S' U
    generalize upd G18 a15 (exo a15 (c 15) none) = G19 at *
    clear n15
    intro a16 n16
    have S' := same_upd (o := exo a16 (c 16) none) S n16
    have U := up1 (o := exo a16 (c 16) none) n16
    have X16 : IsX (upd G19 a16 (exo a16 (c 16) none)) a16 (c 16) := newX
    replace X12 := X12.mono U
    replace X13 := X13.mono U
    replace X14 := X14.mono U
    replace X15 := X15.mono U
    replace R := R.mono U
    replace L := U _ _ L
    replace S := S'
    clear S' U
    generalize upd G19 a16 (exo a16 (c 16) none) = G20 at *
    clear n16
    refine ⟨len_small (by simp), fun q nq => ⟨_, _, _, _, rfl, rfl, by rw [upd_ne (ne_of_none L nq)]; exact L, upd_same, len_small (by rw [N]; simp), fun p4 np => ?_⟩⟩
    have U1 := up1 (o := .lst [V.ref a12, V.ref a13, V.ref a14, V.ref a15, V.ref a16]) nq
    have U2 := up1 (o := .lst (xs3 ++ [V.ref a12, V.ref a13, V.ref a14, V.ref a15, V.ref a16])) np
    have U := U1.trans U2
    have zp' := S.free (U1.free np)
    have S' := S.trans U
    have B : Er G20 c 12 [V.ref a12, V.ref a13, V.ref a14, V.ref a15, V.ref a16] := ⟨⟨a12, rfl, X12⟩, ⟨a13, rfl, X13⟩, ⟨a14, rfl, X14⟩, ⟨a15, rfl, X15⟩, ⟨a16, rfl, X16⟩, True.intro⟩
    have R' : Er (upd (upd G20 q (.lst [V.ref a12, V.ref a13, V.ref a14, V.ref a15, V.ref a16])) p4 (.lst (xs3 ++ [V.ref a12, V.ref a13, V.ref a14, V.ref a15, V.ref a16]))) c 0 (xs3 ++ [V.ref a12, V.ref a13, V.ref a14, V.ref a15, V.ref a16]) := Er.app (R.mono U) (by rw [N]; exact B.mono U)
    have L' : (upd (upd G20 q (.lst [V.ref a12, V.ref a13, V.ref a14, V.ref a15, V.ref a16])) p4 (.lst (xs3 ++ [V.ref a12, V.ref a13, V.ref a14, V.ref a15, V.ref a16]))) p4 = some (.lst (xs3 ++ [V.ref a12, V.ref a13, V.ref a14, V.ref a15, V.ref a16])) := upd_same
    have N' : (xs3 ++ [V.ref a12, V.ref a13, V.ref a14, V.ref a15, V.ref a16]).length = 17 := by rw [List.length_append, N]; rfl
    exact h _ _ _ zp' S' L' N' R'
theorem ok_told {f : Addr} {fd : FuncData} (F : Fun K "_law_told" "_law_told" sTold f fd) (C : Cs K mg c) : FnOk P w K mg base CX0 1 f fd ["one"] (spTold c) := by
  refine F.ok scD (fun vs H Q E h => ?_) (fun cdv A outer s H vs Q E hr h => ?_)
  · obtain ⟨⟨v, rfl⟩, _⟩ := h
    rfl
  · obtain ⟨⟨v, rfl⟩, h⟩ := h
    refine ⟨_, (pss_cons (ps_set (i := 1) scD.nd rfl (.inl rfl) (pe_lst (pa_cons (pe_ex1 PySem.F.excBase_ValueError (C.n 0 (by decide) (by decide) (by decide)) (pv 0)) (pa_cons (pe_ex1 PySem.F.excBase_ValueError (C.n 1 (by decide) (by decide) (by decide)) (pv 0)) (pa_cons (pe_ex1 PySem.F.excBase_ValueError (C.n 2 (by decide) (by decide) (by decide)) (pv 0)) (pa_cons (pe_ex1 PySem.F.excBase_ValueError (C.n 3 (by decide) (by decide) (by decide)) (pv 0)) pa_nil))))))
      (pss_cons (ps_set (i := 1) scD.nd rfl (.inl rfl) (pe_op op_cat (pv 1) (pe_lst (pa_cons (pe_ex1 PySem.F.excBase_ValueError (C.n 4 (by decide) (by decide) (by decide)) (pv 0)) pa_nil))))
      (pss_cons (ps_set (i := 1) scD.nd rfl (.inl rfl) (pe_op op_cat (pv 1) (pe_lst (pa_cons (pe_ex1 PySem.F.excBase_ValueError (C.n 5 (by decide) (by decide) (by decide)) (pv 0)) (pa_cons (pe_ex1 PySem.F.excBase_ValueError (C.n 6 (by decide) (by decide) (by decide)) (pv 0)) (pa_cons (pe_ex1 PySem.F.excBase_ValueError (C.n 7 (by decide) (by decide) (by decide)) (pv 0)) (pa_cons (pe_ex1 PySem.F.excBase_ValueError (C.n 8 (by decide) (by decide) (by decide)) (pv 0)) pa_nil)))))))
      (pss_cons (ps_set (i := 1) scD.nd rfl (.inl rfl) (pe_op op_cat (pv 1) (pe_lst (pa_cons (pe_ex1 PySem.F.excBase_ValueError (C.n 9 (by decide) (by decide) (by decide)) (pv 0)) pa_nil))))
      (pss_cons (ps_set (i := 1) scD.nd rfl (.inl rfl) (pe_op op_cat (pv 1) (pe_lst (pa_cons (pe_ex1 PySem.F.excBase_ValueError (C.n 10 (by decide) (by decide) (by decide)) (pv 0)) (pa_cons (pe_ex1 PySem.F.excBase_ValueError (C.n 11 (by decide) (by decide) (by decide)) (pv 0)) (pa_cons (pe_ex1 PySem.F.excBase_ValueError (C.n 12 (by decide) (by decide) (by decide)) (pv 0)) (pa_cons (pe_ex1 PySem.F.excBase_ValueError (C.n 13 (by decide) (by decide) (by decide)) (pv 0)) pa_nil)))))))
      (pss_cons (ps_set (i := 1) scD.nd rfl (.inl rfl) (pe_op op_cat (pv 1) (pe_lst (pa_cons (pe_ex1 PySem.F.excBase_ValueError (C.n 14 (by decide) (by decide) (by decide)) (pv 0)) (pa_cons (pe_ex1 PySem.F.excBase_ValueError (C.n 15 (by decide) (by decide) (by decide)) (pv 0)) (pa_cons (pe_ex1 PySem.F.excBase_ValueError (C.n 16 (by decide) (by decide) (by decide)) (pv 0)) pa_nil))))))
      (pss_one (ps_ret (pv 1))))))))), ?_⟩
    have S : Same H H := Same.refl H
    refine ⟨_, rfl, ?_⟩
    intro a0 n0
    have S' := same_upd (o := exo a0 (c 0) none) S n0
    have U := up1 (o := exo a0 (c 0) none) n0
    have X0 : IsX (upd H a0 (exo a0 (c 0) none)) a0 (c 0) := newX
    replace S := S'
    clear S' U
    generalize upd H a0 (exo a0 (c 0) none) = G0 at *
    clear n0
    refine ⟨_, rfl, ?_⟩
    intro a1 n1
    have S' := same_upd (o := exo a1 (c 1) none) S n1
    have U := up1 (o := exo a1 (c 1) none) n1
    have X1 : IsX (upd G0 a1 (exo a1 (c 1) none)) a1 (c 1) := newX
    replace X0 := X0.mono U
    replace S := S'
    clear S' U
    generalize upd G0 a1 (exo a1 (c 1) none) = G1 at *
    clear n1
    refine ⟨_, rfl, ?_⟩
    intro a2 n2
    have S' := same_upd (o := exo a2 (c 2) none) S n2
    have U := up1 (o := exo a2 (c 2) none) n2
    have X2 : IsX (upd G1 a2 (exo a2 (c 2) none)) a2 (c 2) := newX
    replace X0 := X0.mono U
    replace X1 := X1.mono U
    replace S := S'
    clear S' U
    generalize upd G1 a2 (exo a2 (c 2) none) = G2 at *
    clear n2
    refine ⟨_, rfl, ?_⟩
    intro a3 n3
    have S' := same_upd (o := exo a3 (c 3) none) S n3
    have U := up1 (o := exo a3 (c 3) none) n3
    have X3 : IsX (upd G2 a3 (exo a3 (c 3) none)) a3 (c 3) := newX
    replace X0 := X0.mono U
    replace X1 := X1.mono U
    replace X2 := X2.mono U
    replace S := S'
    clear S' U
    generalize upd G2 a3 (exo a3 (c 3) none) = G3 at *
    clear n3
    refine ⟨len_small (by simp), fun p0 np => ?_⟩
    have U := up1 (o := .lst [V.ref a0, V.ref a1, V.ref a2, V.ref a3]) np
    have zp := S.free np
    have S' := same_upd (o := .lst [V.ref a0, V.ref a1, V.ref a2, V.ref a3]) S np
    have R : Er (upd G3 p0 (.lst [V.ref a0, V.ref a1, V.ref a2, V.ref a3])) c 0 [V.ref a0, V.ref a1, V.ref a2, V.ref a3] := Er.mono U (k := 0) ⟨⟨a0, rfl, X0⟩, ⟨a1, rfl, X1⟩, ⟨a2, rfl, X2⟩, ⟨a3, rfl, X3⟩, True.intro⟩
    have L : upd G3 p0 (.lst [V.ref a0, V.ref a1, V.ref a2, V.ref a3]) p0 = some (.lst [V.ref a0, V.ref a1, V.ref a2, V.ref a3]) := upd_same
    have N : [V.ref a0, V.ref a1, V.ref a2, V.ref a3].length = 4 := rfl
    replace S := S'
    clear S' U np X0 X1 X2 X3
    generalize upd G3 p0 (.lst [V.ref a0, V.ref a1, V.ref a2, V.ref a3]) = G4 at *
    generalize [V.ref a0, V.ref a1, V.ref a2, V.ref a3] = xs0 at *
    refine ⟨_, rfl, ?_⟩
    refine ⟨_, rfl, ?_⟩
    intro a4 n4
    have S' := same_upd (o := exo a4 (c 4) none) S n4
    have U := up1 (o := exo a4 (c 4) none) n4
    have X4 : IsX (upd G4 a4 (exo a4 (c 4) none)) a4 (c 4) := newX
    replace R := R.mono U
    replace L := U _ _ L
    replace S := S'
    clear S' U
    generalize upd G4 a4 (exo a4 (c 4) none) = G5 at *
    clear n4
    refine ⟨len_small (by simp), fun q nq => ⟨_, _, _, _, rfl, rfl, by rw [upd_ne (ne_of_none L nq)]; exact L, upd_same, len_small (by rw [N]; simp), fun p1 np => ?_⟩⟩
    have U1 := up1 (o := .lst [V.ref a4]) nq
    have U2 := up1 (o := .lst (xs0 ++ [V.ref a4])) np
    have U := U1.trans U2
    have zp' := S.free (U1.free np)
    have S' := S.trans U
    have B : Er G5 c 4 [V.ref a4] := ⟨⟨a4, rfl, X4⟩, True.intro⟩
    have R' : Er (upd (upd G5 q (.lst [V.ref a4])) p1 (.lst (xs0 ++ [V.ref a4]))) c 0 (xs0 ++ [V.ref a4]) := Er.app (R.mono U) (by rw [N]; exact B.mono U)
    have L' : (upd (upd G5 q (.lst [V.ref a4])) p1 (.lst (xs0 ++ [V.ref a4]))) p1 = some (.lst (xs0 ++ [V.ref a4])) := upd_same
    have N' : (xs0 ++ [V.ref a4]).length = 5 := by rw [List.length_append, N]; rfl
    replace S := S'
    replace R := R'
    replace L := L'
    replace N := N'
    replace zp := zp'
    clear S' R' L' N' zp' B U U1 U2 np nq X4
    generalize upd (upd G5 q (.lst [V.ref a4])) p1 (.lst (xs0 ++ [V.ref a4])) = G6 at *
    generalize xs0 ++ [V.ref a4] = xs1 at *
    refine ⟨_, rfl, ?_⟩
    refine ⟨_, rfl, ?_⟩
    intro a5 n5
    have S' := same_upd (o := exo a5 (c 5) none) S n5
    have U := up1 (o := exo a5 (c 5) none) n5
    have X5 : IsX (upd G6 a5 (exo a5 (c 5) none)) a5 (c 5) := newX
    replace R := R.mono U
    replace L := U _ _ L
    replace S := S'
    clear S' U
    generalize upd G6 a5 (exo a5 (c 5) none) = G7 at *
    clear n5
    refine ⟨_, rfl, ?_⟩
    intro a6 n6
    have S' := same_upd (o := exo a6 (c 6) none) S n6
    have U := up1 (o := exo a6 (c 6) none) n6
    have X6 : IsX (upd G7 a6 (exo a6 (c 6) none)) a6 (c 6) := newX
    replace X5 := X5.mono U
    replace R := R.mono U
    replace L := U _ _ L
    replace S := S'
    clear S' U
    generalize upd G7 a6 (exo a6 (c 6) none) = G8 at *
    clear n6
    refine ⟨_, rfl, ?_⟩
    intro a7 n7
    have S' := same_upd (o := exo a7 (c 7) none) S n7
    have U := up1 (o := exo a7 (c 7) none) n7
    have X7 : IsX (upd G8 a7 (exo a7 (c 7) none)) a7 (c 7) := newX
    replace X5 := X5.mono U
    replace X6 := X6.mono U
    replace R := R.mono U
    replace L := U _ _ L
    replace S := S'
    clear S' U
    generalize upd G8 a7 (exo a7 (c 7) none) = G9 at *
    clear n7
    refine ⟨_, rfl, ?_⟩
    intro a8 n8
    have S' := same_upd (o := exo a8 (c 8) none) S n8
    have U := up1 (o := exo a8 (c 8) none) n8
    have X8 : IsX (upd G9 a8 (exo a8 (c 8) none)) a8 (c 8) := newX
    replace X5 := X5.mono U
    replace X6 := X6.mono U
    replace X7 := X7.mono U
    replace R := R.mono U
    replace L := U _ _ L
    replace S := S'
    clear S' U
    generalize upd G9 a8 (exo a8 (c 8) none) = G10 at *
    clear n8
    refine ⟨len_small (by simp), fun q nq => ⟨_, _, _, _, rfl, rfl, by rw [upd_ne (ne_of_none L nq)]; exact L, upd_same, len_small (by rw [N]; simp), fun p2 np => ?_⟩⟩
    have U1 := up1 (o := .lst [V.ref a5, V.ref a6, V.ref a7, V.ref a8]) nq
    have U2 := up1 (o := .lst (xs1 ++ [V.ref a5, V.ref a6, V.ref a7, V.ref a8])) np
    have U := U1.trans U2
    have zp' := S.free (U1.free np)
    have S' := S.trans U
    have B : Er G10 c 5 [V.ref a5, V.ref a6, V.ref a7, V.ref a8] := ⟨⟨a5, rfl, X5⟩, ⟨a6, rfl, X6⟩, ⟨a7, rfl, X7⟩, ⟨a8, rfl, X8⟩, True.intro⟩
    have R' : Er (upd (upd G10 q (.lst [V.ref a5, V.ref a6, V.ref a7, V.ref a8])) p2 (.lst (xs1 ++ [V.ref a5, V.ref a6, V.ref a7, V.ref a8]))) c 0 (xs1 ++ [V.ref a5, V.ref a6, V.ref a7, V.ref a8]) := Er.app (R.mono U) (by rw [N]; exact B.mono U)
    have L' : (upd (upd G10 q (.lst [V.ref a5, V.ref a6, V.ref a7, V.ref a8])) p2 (.lst (xs1 ++ [V.ref a5, V.ref a6, V.ref a7, V.ref a8]))) p2 = some (.lst (xs1 ++ [V.ref a5, V.ref a6, V.ref a7, V.ref a8])) := upd_same
    have N' : (xs1 ++ [V.ref a5, V.ref a6, V.ref a7, V.ref a8]).length = 9 := by rw [List.length_append, N]; rfl
    replace S := S'
    replace R := R'
    replace L := L'
    replace N := N'
    replace zp := zp'
    clear S' R' L' N' zp' B U U1 U2 np nq X5 X6 X7 X8
    generalize upd (upd G10 q (.lst [V.ref a5, V.ref a6, V.ref a7, V.ref a8])) p2 (.lst (xs1 ++ [V.ref a5, V.ref a6, V.ref a7, V.ref a8])) = G11 at *
    generalize xs1 ++ [V.ref a5, V.ref a6, V.ref a7, V.ref a8] = xs2 at *
    refine ⟨_, rfl, ?_⟩
    refine ⟨_, rfl, ?_⟩
    intro a9 n9
    have S' := same_upd (o := exo a9 (c 9) none) S n9
    have U := up1 (o := exo a9 (c 9) none) n9
    have X9 : IsX (upd G11 a9 (exo a9 (c 9) none)) a9 (c 9) := newX
    replace R := R.mono U
    replace L := U _ _ L
    replace S := S'
    clear S' U
    generalize upd G11 a9 (exo a9 (c 9) none) = G12 at *
    clear n9
    refine ⟨len_small (by simp), fun q nq => ⟨_, _, _, _, rfl, rfl, by rw [upd_ne (ne_of_none L nq)]; exact L, upd_same, len_small (by rw [N]; simp), fun p3 np => ?_⟩⟩
    have U1 := up1 (o := .lst [V.ref a9]) nq
    have U2 := up1 (o := .lst (xs2 ++ [V.ref a9])) np
    have U := U1.trans U2
    have zp' := S.free (U1.free np)
    have S' := S.trans U
    have B : Er G12 c 9 [V.ref a9] := ⟨⟨a9, rfl, X9⟩, True.intro⟩
    have R' : Er (upd (upd G12 q (.lst [V.ref a9])) p3 (.lst (xs2 ++ [V.ref a9]))) c 0 (xs2 ++ [V.ref a9]) := Er.app (R.mono U) (by rw [N]; exact B.mono U)
    have L' : (upd (upd G12 q (.lst [V.ref a9])) p3 (.lst (xs2 ++ [V.ref a9]))) p3 = some (.lst (xs2 ++ [V.ref a9])) := upd_same
    have N' : (xs2 ++ [V.ref a9]).length = 10 := by rw [List.length_append, N]; rfl
    replace S := S'
    replace R := R'
    replace L := L'
    replace N := N'
    replace zp := zp'
    clear S' R' L' N' zp' B U U1 U2 np nq X9
    generalize upd (upd G12 q (.lst [V.ref a9])) p3 (.lst (xs2 ++ [V.ref a9])) = G13 at *
    generalize xs2 ++ [V.ref a9] = xs3 at *
    refine ⟨_, rfl, ?_⟩
    refine ⟨_, rfl, ?_⟩
    intro a10 n10
    have S' := same_upd (o := exo a10 (c 10) none) S n10
    have U := up1 (o := exo a10 (c 10) none) n10
    have X10 : IsX (upd G13 a10 (exo a10 (c 10) none)) a10 (c 10) := newX
    replace R := R.mono U
    replace L := U _ _ L
    replace S := S'
    clear S' U
    generalize upd G13 a10 (exo a10 (c 10) none) = G14 at *
    clear n10
    refine ⟨_, rfl, ?_⟩
    intro a11 n11
    have S' := same_upd (o := exo a11 (c 11) none) S n11
    have U := up1 (o := exo a11 (c 11) none) n11
    have X11 : IsX (upd G14 a11 (exo a11 (c 11) none)) a11 (c 11) := newX
    replace X10 := X10.mono U
    replace R := R.mono U
    replace L := U _ _ L
    replace S := S'
    clear S' U
    generalize upd G14 a11 (exo a11 (c 11) none) = G15 at *
    clear n11
    refine ⟨_, rfl, ?_⟩
    intro a12 n12
    have S' := same_upd (o := exo a12 (c 12) none) S n12
    have U := up1 (o := exo a12 (c 12) none) n12
    have X12 : IsX (upd G15 a12 (exo a12 (c 12) none)) a12 (c 12) := newX
    replace X10 := X10.mono U
    replace X11 := X11.mono U
    replace R := R.mono U
    replace L := U _ _ L
    replace S := S'
    clear S' U
    generalize upd G15 a12 (exo a12 (c 12) none) = G16 at *
    clear n12
    refine ⟨_, rfl, ?_⟩
    intro a13 n13
    have S' := same_upd (o := exo a13 (c 13) none) S n13
    have U := up1 (o := exo a13 (c 13) none) n13
    have X13 : IsX (upd G16 a13 (exo a13 (c 13) none)) a13 (c 13) := newX
    replace X10 := X10.mono U
    replace X11 := X11.mono U
    replace X12 := X12.mono U
    replace R := R.mono U
    replace L := U _ _ L
    replace S := S'
    clear S' U
    generalize upd G16 a13 (exo a13 (c 13) none) = G17 at *
    clear n13
    refine ⟨len_small (by simp), fun q nq => ⟨_, _, _, _, rfl, rfl, by rw [upd_ne (ne_of_none L nq)]; exact L, upd_same, len_small (by rw [N]; simp), fun p4 np => ?_⟩⟩
    have U1 := up1 (o := .lst [V.ref a10, V.ref a11, V.ref a12, V.ref a13]) nq
    have U2 := up1 (o := .lst (xs3 ++ [V.ref a10, V.ref a11, V.ref a12, V.ref a13])) np
    have U := U1.trans U2
    have zp' := S.free (U1.free np)
    have S' := S.trans U
    have B : Er G17 c 10 [V.ref a10, V.ref a11, V.ref a12, V.ref a13] := ⟨⟨a10, rfl, X10⟩, ⟨a11, rfl, X11⟩, ⟨a12, rfl, X12⟩, ⟨a13, rfl, X13⟩, True.intro⟩
    have R' : Er (upd (upd G17 q (.lst [V.ref a10, V.ref a11, V.ref a12, V.ref a13])) p4 (.lst (xs3 ++ [V.ref a10, V.ref a11, V.ref a12, V.ref a13]))) c 0 (xs3 ++ [V.ref a10, V.ref a11, V.ref a12, V.ref a13]) := Er.app (R.mono U) (by rw [N]; exact B.mono U)
    have L' : (upd (upd G17 q (.lst [V.ref a10, V.ref a11, V.ref a12, V.ref a13])) p4 (.lst (xs3 ++ [V.ref a10, V.ref a11, V.ref a12, V.ref a13]))) p4 = some (.lst (xs3 ++ [V.ref a10, V.ref a11, V.ref a12, V.ref a13])) := upd_same
    have N' : (xs3 ++ [V.ref a10, V.ref a11, V.ref a12, V.ref a13]).length = 14 := by rw [List.length_append, N]; rfl
    replace S := S'
    replace R := R'
    replace L := L'
    replace N := N'
    replace zp := zp'
    clear S' R' L' N' zp' B U U1 U2 np nq X10 X11 X12 X13
    generalize upd (upd G17 q (.lst [V.ref a10, V.ref a11, V.ref a12, V.ref a13])) p4 (.lst (xs3 ++ [V.ref a10, V.ref a11, V.ref a12, V.ref a13])) = G18 at *
    generalize xs3 ++ [V.ref a10, V.ref a11, V.ref a12, V.ref a13] = xs4 at *
    refine ⟨_, rfl, ?_⟩
    refine ⟨_, rfl, ?_⟩
    intro a14 n14
    have S' := same_upd (o := exo a14 (c 14) none) S n14
    have U := up1 (o := exo a14 (c 14) none) n14
    have X14 : IsX (upd G18 a14 (exo a14 (c 14) none)) a14 (c 14) := newX
    replace R := R.mono U
    replace L := U _ _ L
    replace S := S'
    clear S' U
    generalize upd G18 a14 (exo a14 (c 14) none) = G19 at *
    clear n14
    refine ⟨_, rfl, ?_⟩
    intro a15 n15
    have S' := same_upd (o := exo a15 (c 15) none) S n15
    have U := up1 (o := exo a15 (c 15) none) n15
    have X15 : IsX (upd G19 a15 (exo a15 (c 15) none)) a15 (c 15) := newX
    replace X14 := X14.mono U
    replace R := R.mono U
    replace L := U _ _ L
    replace S := S'
    clear S' U
    generalize upd G19 a15 (exo a15 (c 15) none) = G20 at *
    clear n15
    refine ⟨_, rfl, ?_⟩
    intro a16 n16
    have S' := same_upd (o := exo a16 (c 16) none) S n16
    have U := up1 (o := exo a16 (c 16) none) n16
    have X16 : IsX (upd G20 a16 (exo a16 (c 16) none)) a16 (c 16) := newX
    replace X14 := X14.mono U
    replace X15 := X15.mono U
    replace R := R.mono U
    replace L := U _ _ L
    replace S := S'
    clear S' U
    generalize upd G20 a16 (exo a16 (c 16) none) = G21 at *
    clear n16
    refine ⟨len_small (by simp), fun q nq => ⟨_, _, _, _, rfl, rfl, by rw [upd_ne (ne_of_none L nq)]; exact L, upd_same, len_small (by rw [N]; simp), fun p5 np => ?_⟩⟩
    have U1 := up1 (o := .lst [V.ref a14, V.ref a15, V.ref a16]) nq
    have U2 := up1 (o := .lst (xs4 ++ [V.ref a14, V.ref a15, V.ref a16])) np
    have U := U1.trans U2
    have zp' := S.free (U1.free np)
    have S' := S.trans U
    have B : Er G21 c 14 [V.ref a14, V.ref a15, V.ref a16] := ⟨⟨a14, rfl, X14⟩, ⟨a15, rfl, X15⟩, ⟨a16, rfl, X16⟩, True.intro⟩
    have R' : Er (upd (upd G21 q (.lst [V.ref a14, V.ref a15, V.ref a16])) p5 (.lst (xs4 ++ [V.ref a14, V.ref a15, V.ref a16]))) c 0 (xs4 ++ [V.ref a14, V.ref a15, V.ref a16]) := Er.app (R.mono U) (by rw [N]; exact B.mono U)
    have L' : (upd (upd G21 q (.lst [V.ref a14, V.ref a15, V.ref a16])) p5 (.lst (xs4 ++ [V.ref a14, V.ref a15, V.ref a16]))) p5 = some (.lst (xs4 ++ [V.ref a14, V.ref a15, V.ref a16])) := upd_same
    have N' : (xs4 ++ [V.ref a14, V.ref a15, V.ref a16]).length = 17 := by rw [List.length_append, N]; rfl
    exact ⟨_, rfl, h _ _ _ zp' S' L' N' R'⟩
end
end L54
namespace L54
open PySem PySem.Spec PyProof.Rows L2
theorem iF {c A B : Prop} [Decidable c] (h : ¬ c) (b : B) : if c then A else B := by rw [if_neg h]; exact b
theorem iT {c A B : Prop} [Decidable c] (h : c) (a : A) : if c then A else B := by rw [if_pos h]; exact a
theorem same_at {H H' : Hp} {p : Addr} {o : HO} (s : Same H H') (n : H p = none) : Same H (upd H' p o) := fun b u e => by
  rw [upd_ne (ne_of_none e n)]
  exact s b u e
theorem dv (a j : Nat) : decide (V.int (a : Int) = V.int (0 + (j : Int))) = decide (a = j) := by
  by_cases h : a = j
  · subst h; simp
  · have : ¬ (V.int (a : Int) = V.int (0 + (j : Int))) := fun z => h (by have := V.int.inj z; omega)
    rw [decide_eq_false this, decide_eq_false h]
def kd (b : Nat → Bool) : List PyData := (List.range 19).map fun j => PyData.bool (b j)
theorem dpBl {K : PySem.W.Frag} {H : Hp} (b : Nat → Bool) : ∀ l : List Nat, DpAll K H (l.map fun j => V.bl (b j)) (l.map fun j => PyData.bool (b j))
  | [] => .nil
  | j :: l => .cons (.bl _) (dpBl b l)
theorem kd_shaped (b : Nat → Bool) : SeqAt.shaped (.list (kd b)) = true := rfl
theorem kd_same (b : Nat → Bool) : (!PyData.eqv (.list (kd b)) (.list (kd b))) = false := by rw [SeqAt.eqv_refl _ (SeqAt.canLay_of_shaped (kd_shaped b))]; rfl
theorem b_VE : bootBuiltins "ValueError" = some (.type "ValueError") := by decide +kernel
theorem b_TE : bootBuiltins "TypeError" = some (.type "TypeError") := by decide +kernel
theorem b_LE : bootBuiltins "LookupError" = some (.type "LookupError") := by decide +kernel
theorem b_AE : bootBuiltins "ArithmeticError" = some (.type "ArithmeticError") := by decide +kernel
theorem b_RE : bootBuiltins "RuntimeError" = some (.type "RuntimeError") := by decide +kernel
theorem b_atE : bootBuiltins "AttributeError" = some (.type "AttributeError") := by decide +kernel
def oV : List V := [.ty "TypeError", .ty "LookupError", .ty "ArithmeticError", .ty "RuntimeError", .ty "AttributeError"]
theorem oP : Paired ClsV oV [.type "TypeError", .type "LookupError", .type "ArithmeticError", .type "RuntimeError", .type "AttributeError"] := .cons (.ty _) (.cons (.ty _) (.cons (.ty _) (.cons (.ty _) (.cons (.ty _) .nil))))
section
variable {P : Program} {w : World} {K : PySem.W.Frag} {mg : Str → Option Value} {base : Heap} {c : Nat → Addr}
def spAll (c : Nat → Addr) : Sp := fun vs H Q _ => ∃ (p : Addr) (xs : List V), vs = [.ref p] ∧ H p = some (.lst xs) ∧ xs.length = 17 ∧ Er H c 0 xs ∧ ∀ H', Same H H' → Q (.bl true) H'
abbrev nA : List Str := ["errors", "at", "error", "spot"]
theorem scA : FnScope nA ["errors"] (defScope sAll) := ⟨rfl, rfl, rfl, by decide +kernel, rfl, by decide +kernel, by decide +kernel⟩
theorem ok_all {f fK : Addr} {fd fdK : FuncData} (F : Fun K "_law_all_good" "_law_all_good" sAll f fd) (T : Bl mg) (C : Cs K mg c) (FK : Fun K "_law_kinds" "_law_kinds" sKinds fK fdK) (bK : Binds K fdK ["error"] []) (mK : mg "_law_kinds" = some (.ref fK)) :
    FnOk P w K mg base CX0 2 f fd ["errors"] (spAll c) := by
  have GK : FnOk P w K mg base CX0 1 fK fdK ["error"] (spKinds K c) := ok_kinds FK T C
  refine F.ok scA (fun vs H Q E h => ?_) (fun cdv A outer s H vs Q E hr h => ?_)
  · obtain ⟨p, xs, rfl, _⟩ := h
    rfl
  · obtain ⟨p, xs, rfl, hp, hlen, hE, h⟩ := h
    have hu := hr.units
    refine ⟨_, pss_cons (ps_for PassesOwn.never rfl (pi_enum rfl T.enu (pa_cons (pv 0) pa_nil)) (pg_tup (by rfl) (pgs_cons (pg_name (i := 1) scA.nd rfl (Or.inr rfl)) (pgs_cons (pg_name (i := 2) scA.nd rfl (Or.inl rfl)) pgs_nil)))
        (pss_cons (ps_if (PW.pt (pw_or (pt_not (pt_val (pe_callB call_isE1 rfl T.isi b_isi (pa_cons (pv 2) (pa_cons (pe_glob (v := .ref (c 19)) (u := .ref (c 19)) rfl (C.g 19 (by decide)) rfl) pa_nil)))))
            (pw_or1 (pt_not (pt_val (pe_callB call_isE1 rfl T.isi b_isi (pa_cons (pv 2) (pa_cons (pe_bltn (v := .ty "ValueError") rfl T.vE b_VE rfl) pa_nil)))))))) (pss_one (ps_ret pe_bl)) pss_nil)
        (pss_cons (ps_if (pt_val (pe_callB call_isET rfl T.isi b_isi (pa_cons (pv 2) (pa_cons (pe_tup (pa_cons (pe_bltn (v := .ty "TypeError") rfl T.tE b_TE rfl) (pa_cons (pe_bltn (v := .ty "LookupError") rfl T.lE b_LE rfl) (pa_cons (pe_bltn (v := .ty "ArithmeticError") rfl T.aE b_AE rfl)
            (pa_cons (pe_bltn (v := .ty "RuntimeError") rfl T.rE b_RE rfl) (pa_cons (pe_bltn (v := .ty "AttributeError") rfl T.atE b_atE rfl) pa_nil)))))) pa_nil)))) (pss_one (ps_ret pe_bl)) pss_nil)
        (pss_one (ps_if (pt_cmpR (op_neD hu) (pe_call GK hr rfl mK FK.kp bK .nil pass0 (pa_cons (pv 2) pa_nil))
            (pe_lc (own := [("spot", 3)]) (g := gName 3) (tt := tYes) rfl scA.nd (pi_range1 rfl T.range (pa_cons pe_int pa_nil)) (blkOk_by (N := nA) (sc := defScope sAll) (by decide +kernel)) (fun _ _ _ _ _ => pg_name (i := 3) scA.nd rfl (Or.inl rfl)) (fun _ _ _ _ _ => pts_nil)
              (fun _ _ _ _ _ => pe_cmpR op_eq (pv 1) (pv 3) (nomark _))) (nomark _)) (pss_one (ps_ret pe_bl)) pss_nil)))))
      (pss_one (ps_ret (pe_cmpR op_eq (pe_callB call_len_seq rfl T.len b_len (pa_cons (pv 0) pa_nil)) pe_int (nomark _)))), ?_⟩
    have hS : SqL K H p xs := .inl (.inl hp)
    refine ⟨_, rfl, p, xs, rfl, hS, for_it (walk_enum (K := K) (a := p) (xs := xs)) (fun i σ H' => ∃ v1 v2 : Option V, σ = [some (.ref p), v1, v2, none] ∧ Same H H') ⟨none, none, rfl, Same.refl H⟩ (fun i σ H' _ ⟨_, _, _, s⟩ => s.seq hS) ?_ ?_⟩
    · rintro i x σ H1 H2 hi ⟨v1, v2, rfl, S1⟩ ⟨Tp, y, z, rfl, nT, rfl, ey, ez⟩
      obtain rfl := Option.some.inj ey
      obtain ⟨a, rfl, hX⟩ := hE.get ez
      rw [Nat.zero_add] at hX
      have i17 : i < 17 := by omega
      have S2 : Same H (upd H1 Tp (.tup [.int (i : Nat), .ref a])) := same_upd S1 nT
      refine ⟨Tp, _, rfl, SqT.of upd_same, rfl, _, _, rfl, _, _, rfl, rfl, ?_⟩
      have U2 : (upd H1 Tp (.tup [.int (i : Nat), .ref a])) Tp = some (.tup [.int (i : Nat), .ref a]) := upd_same
      generalize upd H1 Tp (.tup [.int (i : Nat), .ref a]) = G at *
      have X2 := hX.mono S2
      have ty := X2.ty (C.ec i (by omega))
      refine ⟨_, rfl, _, _, _, _, _, rfl, .own _, ty, C.kB i (by omega), true, rfl, ?_⟩
      refine iF (by decide) ?_
      refine ⟨_, rfl, _, _, _, _, _, rfl, .ty _, ty, C.kV i (by omega), true, rfl, ?_⟩
      refine iF (by decide) ?_
      refine ⟨_, rfl, len_small (by simp), fun tp nt => ⟨_, tp, _, _, _, _, rfl, upd_same, oP, (X2.mono (up1 nt)).ty (C.ec i (by omega)), C.kO i (by omega), false, rfl, ?_⟩⟩
      refine iF (by decide) ?_
      have S3 := same_upd (o := .tup oV) S2 nt
      show _
      refine ⟨_, rfl, a, i, rfl, by omega, X2.mono (up1 nt), fun pk Hk nk Sk Lk => ?_⟩
      have S4 := S3.trans Sk
      refine ⟨19, rfl, by decide, by decide, fun D nD => ?_⟩
      refine lc_range (lo := 0) (n := 19) (fun j Hc => Same Hk Hc ∧ Hc D = some (.lst ((List.range j).map fun m => V.bl (decide (i = m))))) ⟨up1 nD, upd_same⟩ ?_ ?_
      · rintro j Hc hj ⟨Sc, Lc⟩
        refine ⟨rfl, ?_⟩
        refine ⟨_, rfl, _, rfl, rfl, _, Lc, small1000 (by simp; omega), same_at Sc nD, ?_⟩
        rw [upd_same, dv, List.range_succ, List.map_append]
        rfl
      · rintro Hc ⟨Sc, Lc⟩
        have e : (!PyData.eqv (.list (kd fun m => decide (i = m))) (.list (kd fun m => decide (i = m)))) = false := kd_same _
        refine ⟨.list (kd fun m => decide (i = m)), .list (kd fun m => decide (i = m)), .lst (.inl (.inl (Sc _ _ Lk))) (dpBl _ _), .lst (.inl (.inl Lc)) (dpBl _ _), kd_shaped _, kd_shaped _, _, rfl, ?_⟩
        rw [e]
        refine iF (by decide) ?_
        exact ⟨_, _, rfl, S4.trans Sc⟩
    · rintro σ H1 ⟨v1, v2, rfl, S1⟩
      refine ⟨_, rfl, p, xs, rfl, .inl (S1.seq hS), rfl, ?_⟩
      rw [hlen]
      exact h _ S1
end
end L54
namespace L54
open PySem PySem.Spec PyProof.Rows L2
abbrev sI1 : Stmt := inClass (top 19) 0
abbrev sI2 : Stmt := inClass (top 20) 0
section
variable {P : Program} {w : World} {K : PySem.W.Frag} {mg : Str → Option Value} {base : Heap} {c : Nat → Addr}
theorem scI1 : FnScope ["self", "name"] ["self", "name"] (defScope sI1) := ⟨rfl, rfl, rfl, by decide +kernel, rfl, by decide +kernel, by decide +kernel⟩
theorem scI2 : FnScope ["self", "name"] ["self", "name"] (defScope sI2) := ⟨rfl, rfl, rfl, by decide +kernel, rfl, by decide +kernel, by decide +kernel⟩
theorem ok_i1 {f C : Addr} {fd : FuncData} (F : FunD K "__init__" "Missing.__init__" (defArgs sI1) (defBody sI1) (defScope sI1) [.non] [] f fd) (o : OexC K C) (hn : PySem.W.findIn K (.ref C) "name" = some none) : FnOk P w K mg base CX0 1 f fd ["self", "name"] (spI K C) := by
  refine F.ok scI1 (fun vs H Q E h => ?_) (fun cdv A outer s H vs Q E hr h => ?_)
  · obtain ⟨a, v, rfl, _⟩ := h
    rfl
  · obtain ⟨a, v, rfl, ha, h⟩ := h
    exact ⟨_, pss_one (ps_ost (pv 0) (pv 1)), _, rfl, _, rfl, a, C, rfl, o, hn, .inl ⟨ha, h⟩⟩
theorem ok_i2 {f C : Addr} {fd : FuncData} (F : FunD K "__init__" "Lost.__init__" (defArgs sI2) (defBody sI2) (defScope sI2) [.non] [] f fd) (o : OexC K C) (hn : PySem.W.findIn K (.ref C) "name" = some none) : FnOk P w K mg base CX0 1 f fd ["self", "name"] (spI K C) := by
  refine F.ok scI2 (fun vs H Q E h => ?_) (fun cdv A outer s H vs Q E hr h => ?_)
  · obtain ⟨a, v, rfl, _⟩ := h
    rfl
  · obtain ⟨a, v, rfl, ha, h⟩ := h
    exact ⟨_, pss_one (ps_ost (pv 0) (pv 1)), _, rfl, _, rfl, a, C, rfl, o, hn, .inl ⟨ha, h⟩⟩
theorem bi_of {f : Addr} {fd : FuncData} {st : Stmt} {q : Str} (F : FunD K "__init__" q (defArgs st) (defBody st) (defScope st) [.non] [] f fd)
    (h0 : ∀ (T : Addr) (kV doc pm : Value) (an : Option Addr) (cdv ct y d : Value), ∃ k, bindArgs (PySem.W.fnOf "__init__" q (defArgs st) (defBody st) (defScope st) (.ref T) kV doc pm an cdv ct) ⟨[y], []⟩ = seqItems? (.ref T) >>= k ∧ k (some #[d]) = pure ((["self", "name"] : List Str).zip [y, d]))
    (h1 : ∀ (T : Addr) (kV doc pm : Value) (an : Option Addr) (cdv ct y u d : Value), ∃ k, bindArgs (PySem.W.fnOf "__init__" q (defArgs st) (defBody st) (defScope st) (.ref T) kV doc pm an cdv ct) ⟨[y, u], []⟩ = seqItems? (.ref T) >>= k ∧ k (some #[d]) = pure ((["self", "name"] : List Str).zip [y, u]))
    (hk : ∀ (T : Addr) (kV doc pm : Value) (an : Option Addr) (cdv ct y u d : Value), ∃ k, bindArgs (PySem.W.fnOf "__init__" q (defArgs st) (defBody st) (defScope st) (.ref T) kV doc pm an cdv ct) ⟨[y], [(("name" : Str), u)]⟩ = seqItems? (.ref T) >>= k ∧ k (some #[d]) = pure ((["self", "name"] : List Str).zip [y, u])) :
    BindI K fd := by
  obtain ⟨oc, od, dV, kV, doc, pm, an, cdv, ct, osl, rfl, lk, hcd, hD, hK⟩ := F.ex
  rcases hD with ⟨e, _⟩ | ⟨_, T, o, its, m, rfl, lT, oT, rT⟩
  · cases e
  · cases rT with
    | @cons _ d _ ds r1 r2 =>
      cases r2
      cases r1
      refine ⟨fun s' y X => ?_, fun s' y u X => ?_, fun s' y u X => ?_⟩
      · obtain ⟨k, e1, e2⟩ := h0 T kV doc pm an cdv ct y .none
        exact BindsTo.of_looks fun M => by rw [e1]; exact looks_items X lT oT (.of_pure e2)
      · obtain ⟨k, e1, e2⟩ := h1 T kV doc pm an cdv ct y u .none
        exact BindsTo.of_looks fun M => by rw [e1]; exact looks_items X lT oT (.of_pure e2)
      · obtain ⟨k, e1, e2⟩ := hk T kV doc pm an cdv ct y u .none
        exact BindsTo.of_looks fun M => by rw [e1]; exact looks_items X lT oT (.of_pure e2)
theorem bi_1 {f : Addr} {fd : FuncData} (F : FunD K "__init__" "Missing.__init__" (defArgs sI1) (defBody sI1) (defScope sI1) [.non] [] f fd) : BindI K fd :=
  bi_of (st := sI1) F (fun _ _ _ _ _ _ _ _ _ => ⟨_, rfl, rfl⟩) (fun _ _ _ _ _ _ _ _ _ _ => ⟨_, rfl, rfl⟩) (fun _ _ _ _ _ _ _ _ _ _ => ⟨_, rfl, rfl⟩)
theorem bi_2 {f : Addr} {fd : FuncData} (F : FunD K "__init__" "Lost.__init__" (defArgs sI2) (defBody sI2) (defScope sI2) [.non] [] f fd) : BindI K fd :=
  bi_of (st := sI2) F (fun _ _ _ _ _ _ _ _ _ => ⟨_, rfl, rfl⟩) (fun _ _ _ _ _ _ _ _ _ _ => ⟨_, rfl, rfl⟩) (fun _ _ _ _ _ _ _ _ _ _ => ⟨_, rfl, rfl⟩)
end
end L54
namespace L54
open PySem PySem.Spec PyProof.Rows L2
theorem seqT {K : PySem.W.Frag} {H H' : Hp} {a : Addr} {xs : List V} (e : Same H H') (h : SqT K H a xs) : SqT K H' a xs := by
  rcases h with (h | ⟨o, h⟩) | h
  · exact .inl (.inl (e _ _ h))
  · exact .inl (.inr ⟨o, e _ _ h⟩)
  · exact .inr h
mutual
theorem dpMono {K : PySem.W.Frag} {H H' : Hp} (s : Same H H') : ∀ (d : PyData) (v : V), Dp K H v d → Dp K H' v d
  | .none, _, h => by cases h; exact .non
  | .bool _, _, h => by cases h; exact .bl _
  | .int _, _, h => by cases h; exact .int _
  | .str _, _, h => by cases h; exact .str _
  | .list ds, _, h => by
    cases h with
    | lst h1 h2 => exact .lst (s.seq h1) (dpMonoAll s ds _ h2)
  | .tuple ds, _, h => by
    cases h with
    | tup h1 h2 => exact .tup (seqT s h1) (dpMonoAll s ds _ h2)
  | .dict _, _, h => by cases h
theorem dpMonoAll {K : PySem.W.Frag} {H H' : Hp} (s : Same H H') : ∀ (ds : List PyData) (vs : List V), DpAll K H vs ds → DpAll K H' vs ds
  | [], _, h => by cases h; exact .nil
  | d :: ds, _, h => by
    cases h with
    | cons h1 h2 => exact .cons (dpMono s d _ h1) (dpMonoAll s ds _ h2)
end
theorem Dt.mono {K : PySem.W.Frag} {H H' : Hp} {v : V} {d : PyData} (h : Dt K H v d) (s : Same H H') : Dt K H' v d := by
  cases h with
  | of h1 h2 h3 => exact .of (dpMono s _ _ h1) h2 h3
  | d0 h1 => exact .d0 (s _ _ h1)
  | d1 h1 h2 => exact .d1 (s _ _ h1) (s _ _ h2)
/-- at a: an error of the class at C whose field holds v -/
def Fl (H : Hp) (a C : Addr) (v : V) : Prop := ∃ dx, H a = some (exo a C (some dx)) ∧ H dx = some (exd dx [(("name" : Str), v)])
theorem Fl.mono {H H' : Hp} {a C : Addr} {v : V} (h : Fl H a C v) (s : Same H H') : Fl H' a C v := by
  obtain ⟨dx, e1, e2⟩ := h
  exact ⟨dx, s _ _ e1, s _ _ e2⟩
theorem Fl.isX {H : Hp} {a C : Addr} {v : V} (h : Fl H a C v) : IsX H a C := by
  obtain ⟨dx, e1, e2⟩ := h
  exact ⟨some dx, e1, fun _ z => by cases z; exact ⟨_, e2⟩⟩
def mH (H : Hp) (a dx C : Addr) (v : V) : Hp := upd (upd (upd H a (exo a C none)) dx (exd dx [(("name" : Str), v)])) a (exo a C (some dx))
theorem mH_fl {H : Hp} {a dx C : Addr} {v : V} (ne : dx ≠ a) : Fl (mH H a dx C v) a C v := ⟨dx, upd_same, by unfold mH; rw [upd_ne ne, upd_same]⟩
theorem mH_same {H : Hp} {a dx C : Addr} {v : V} (na : H a = none) (nd : H dx = none) : Same H (mH H a dx C v) := fun b u e => by
  unfold mH
  rw [upd_ne (ne_of_none e na), upd_ne (ne_of_none e nd), upd_ne (ne_of_none e na)]
  exact e
theorem nameL (v : V) : ([(("name" : Str), v)] : List (Str × V)).lookup ("name" : Str) = some v := by simp [List.lookup]
theorem dv2 (a j : Nat) : decide (V.int (0 + (j : Int)) = V.int (17 + (a : Int) / 2)) = decide (17 + a / 2 = j) := by
  by_cases h : 17 + a / 2 = j
  · rw [decide_eq_true h, decide_eq_true]
    congr 1
    omega
  · have : ¬ (V.int (0 + (j : Int)) = V.int (17 + (a : Int) / 2)) := fun z => h (by have := V.int.inj z; omega)
    rw [decide_eq_false h, decide_eq_false this]
section
variable {P : Program} {w : World} {K : PySem.W.Frag} {mg : Str → Option Value} {base : Heap} {c : Nat → Addr}
/-- the two classes with a field -/
structure Mf (K : PySem.W.Frag) (mg : Str → Option Value) (c : Nat → Addr) (f1 f2 : Addr) (fd1 fd2 : FuncData) : Prop where
  n1 : ExF K mg "Missing" (c 17) f1
  n2 : ExF K mg "Lost" (c 18) f2
  F1 : FunD K "__init__" "Missing.__init__" (defArgs sI1) (defBody sI1) (defScope sI1) [.non] [] f1 fd1
  F2 : FunD K "__init__" "Lost.__init__" (defArgs sI2) (defBody sI2) (defScope sI2) [.non] [] f2 fd2
theorem Mf.xf {f1 f2 : Addr} {fd1 fd2 : FuncData} (M : Mf K mg c f1 f2 fd1 fd2) (i : Nat) (hi : i < 4) : XfC K (c (17 + i / 2)) ∧ PySem.W.findIn K (.ref (c (17 + i / 2))) "name" = some none := by
  have : i / 2 = 0 ∨ i / 2 = 1 := by omega
  rcases this with e | e
  · rw [e]; exact ⟨M.n1.f, M.n1.n⟩
  · rw [e]; exact ⟨M.n2.f, M.n2.n⟩
def spKept (K : PySem.W.Frag) : Sp := fun vs H Q _ => ∃ (v : V) (d : PyData), vs = [v] ∧ Dt K H v d ∧ small d ∧ ∀ H', Same H H' → Q (.bl true) H'
abbrev nK : List Str := ["thing", "errors", "at", "error", "spot"]
theorem scKe : FnScope nK ["thing"] (defScope sKept) := ⟨rfl, rfl, rfl, by decide +kernel, rfl, by decide +kernel, by decide +kernel⟩
theorem ok_kept {f fK f1 f2 : Addr} {fd fdK fd1 fd2 : FuncData} (F : Fun K "_law_kept_good" "_law_kept_good" sKept f fd) (T : Bl mg) (C : Cs K mg c) (M : Mf K mg c f1 f2 fd1 fd2)
    (FK : Fun K "_law_kinds" "_law_kinds" sKinds fK fdK) (bK : Binds K fdK ["error"] []) (mK : mg "_law_kinds" = some (.ref fK)) : FnG P w K mg base 3 f fd ["thing"] (spKept K) := by
  have GK : FnOk P w K mg base CX0 1 fK fdK ["error"] (spKinds K c) := ok_kinds FK T C
  have G1 : FnOk P w K mg base CX0 1 f1 fd1 ["self", "name"] (spI K (c 17)) := ok_i1 M.F1 M.n1.o M.n1.n
  have G2 : FnOk P w K mg base CX0 1 f2 fd2 ["self", "name"] (spI K (c 18)) := ok_i2 M.F2 M.n2.o M.n2.n
  refine Fun.okG F scKe (fun vs H Q E h => ?_) (fun cdv A outer s H vs Q E hg hr h => ?_)
  · obtain ⟨v, d, rfl, _⟩ := h
    rfl
  · obtain ⟨v, d, rfl, hD, hsm, h⟩ := h
    have hu := hr.units
    have hu2 : (A.deeper (envOfC "_law_kept_good" (defScope sKept) s.heap.objs.size f cdv)).units + 100 < cLine := by have := hr.un; omega
    have hr1 : Room 1 (A.deeper (envOfC "_law_kept_good" (defScope sKept) s.heap.objs.size f cdv)) := hr.mono (by decide)
    refine ⟨_, pss_cons (ps_set (i := 1) scKe.nd rfl (.inl rfl) (pe_lst (pa_cons (pe_mf1 M.n1 (bi_1 M.F1) G1 hr (pv 0)) (pa_cons (pe_mfk M.n1 (bi_1 M.F1) G1 hr (pv 0)) (pa_cons (pe_mf1 M.n2 (bi_2 M.F2) G2 hr (pv 0)) (pa_cons (pe_mfk M.n2 (bi_2 M.F2) G2 hr (pv 0)) pa_nil))))))
      (pss_cons (ps_for PassesOwn.never rfl (pi_enum rfl T.enu (pa_cons (pv 1) pa_nil)) (pg_tup (by rfl) (pgs_cons (pg_name (i := 2) scKe.nd rfl (Or.inr rfl)) (pgs_cons (pg_name (i := 3) scKe.nd rfl (Or.inl rfl)) pgs_nil)))
        (pss_cons (ps_if (PW.pt (pw_or (pt_cmpR op_ne (pe_callTy (call_strD hg hu2) rfl T.str b_str (pa_cons (pe_nm (pv 3)) pa_nil)) (pe_callTy (call_strD hg hu2) rfl T.str b_str (pa_cons (pv 0) pa_nil)) (nomark _))
            (pw_or (pt_cmpR (op_neS hu2) (pe_nm (pv 3)) (pv 0) (nomark _)) (pw_or1 (pt_not (pt_val (pe_callB call_isE1 rfl T.isi b_isi (pa_cons (pv 3) (pa_cons (pe_glob (v := .ref (c 19)) (u := .ref (c 19)) rfl (C.g 19 (by decide)) rfl) pa_nil))))))))) (pss_one (ps_ret pe_bl)) pss_nil)
        (pss_cons (ps_if (PW.pt (pw_or (pt_not (pt_val (pe_callB call_isE1 rfl T.isi b_isi (pa_cons (pv 3) (pa_cons (pe_bltn (v := .ty "ValueError") rfl T.vE b_VE rfl) pa_nil)))))
            (pw_or1 (pt_cmpR (op_neD hu) (pe_call GK hr1 rfl mK FK.kp bK .nil pass0 (pa_cons (pv 3) pa_nil))
              (pe_lc (own := [("spot", 4)]) (g := gName 4) (tt := tYes) rfl scKe.nd (pi_range1 rfl T.range (pa_cons pe_int pa_nil)) (blkOk_by (N := nK) (sc := defScope sKept) (by decide +kernel)) (fun _ _ _ _ _ => pg_name (i := 4) scKe.nd rfl (Or.inl rfl)) (fun _ _ _ _ _ => pts_nil)
                (fun _ _ _ _ _ => pe_cmpR op_eq (pv 4) (pe_op op_add pe_int (pe_op op_fdiv (pv 2) pe_int)) (nomark _))) (nomark _))))) (pss_one (ps_ret pe_bl)) pss_nil)
        (pss_one (ps_if (pt_val (pe_callB call_isET rfl T.isi b_isi (pa_cons (pv 3) (pa_cons (pe_tup (pa_cons (pe_bltn (v := .ty "TypeError") rfl T.tE b_TE rfl) (pa_cons (pe_bltn (v := .ty "LookupError") rfl T.lE b_LE rfl) (pa_cons (pe_bltn (v := .ty "ArithmeticError") rfl T.aE b_AE rfl)
            (pa_cons (pe_bltn (v := .ty "RuntimeError") rfl T.rE b_RE rfl) (pa_cons (pe_bltn (v := .ty "AttributeError") rfl T.atE b_atE rfl) pa_nil)))))) pa_nil)))) (pss_one (ps_ret pe_bl)) pss_nil)))))
      (pss_one (ps_ret pe_bl))), ?_⟩
    -- the four errors
    refine ⟨_, rfl, fun a0 x0 n0 m0 e0 => ⟨_, rfl, fun a1 x1 n1 m1 e1 => ⟨_, rfl, fun a2 x2 n2 m2 e2 => ⟨_, rfl, fun a3 x3 n3 m3 e3 => ⟨len_small (by simp), fun p np => ?_⟩⟩⟩⟩⟩
    have A0 : Fl (mH H a0 x0 (c 17) v) a0 (c 17) v := mH_fl e0
    have s0 : Same H (mH H a0 x0 (c 17) v) := mH_same n0 m0
    have A1 : Fl (mH (mH H a0 x0 (c 17) v) a1 x1 (c 17) v) a1 (c 17) v := mH_fl e1
    have s1 : Same (mH H a0 x0 (c 17) v) (mH (mH H a0 x0 (c 17) v) a1 x1 (c 17) v) := mH_same n1 m1
    have A2 : Fl (mH (mH (mH H a0 x0 (c 17) v) a1 x1 (c 17) v) a2 x2 (c 18) v) a2 (c 18) v := mH_fl e2
    have s2 : Same (mH (mH H a0 x0 (c 17) v) a1 x1 (c 17) v) (mH (mH (mH H a0 x0 (c 17) v) a1 x1 (c 17) v) a2 x2 (c 18) v) := mH_same n2 m2
    have A3 : Fl (mH (mH (mH (mH H a0 x0 (c 17) v) a1 x1 (c 17) v) a2 x2 (c 18) v) a3 x3 (c 18) v) a3 (c 18) v := mH_fl e3
    have s3 : Same (mH (mH (mH H a0 x0 (c 17) v) a1 x1 (c 17) v) a2 x2 (c 18) v) (mH (mH (mH (mH H a0 x0 (c 17) v) a1 x1 (c 17) v) a2 x2 (c 18) v) a3 x3 (c 18) v) := mH_same n3 m3
    have np' : (mH (mH (mH (mH H a0 x0 (c 17) v) a1 x1 (c 17) v) a2 x2 (c 18) v) a3 x3 (c 18) v) p = none := np
    have hEq : upd (mH (mH (mH (mH H a0 x0 (c 17) v) a1 x1 (c 17) v) a2 x2 (c 18) v) a3 x3 (c 18) v) p (.lst [.ref a0, .ref a1, .ref a2, .ref a3]) p = some (.lst [.ref a0, .ref a1, .ref a2, .ref a3]) := upd_same
    have s4 : Same (mH (mH (mH (mH H a0 x0 (c 17) v) a1 x1 (c 17) v) a2 x2 (c 18) v) a3 x3 (c 18) v) (upd (mH (mH (mH (mH H a0 x0 (c 17) v) a1 x1 (c 17) v) a2 x2 (c 18) v) a3 x3 (c 18) v) p (.lst [.ref a0, .ref a1, .ref a2, .ref a3])) := up1 np'
    replace A0 := A0.mono (s1.trans (s2.trans (s3.trans s4)))
    replace A1 := A1.mono (s2.trans (s3.trans s4))
    replace A2 := A2.mono (s3.trans s4)
    replace A3 := A3.mono s4
    have S := s0.trans (s1.trans (s2.trans (s3.trans s4)))
    show tSeq _ _ _ _ (upd (mH (mH (mH (mH H a0 x0 (c 17) v) a1 x1 (c 17) v) a2 x2 (c 18) v) a3 x3 (c 18) v) p (.lst [.ref a0, .ref a1, .ref a2, .ref a3]))
    clear s0 s1 s2 s3 s4 np np' n0 m0 n1 m1 n2 m2 n3 m3 e0 e1 e2 e3
    generalize upd (mH (mH (mH (mH H a0 x0 (c 17) v) a1 x1 (c 17) v) a2 x2 (c 18) v) a3 x3 (c 18) v) p (.lst [.ref a0, .ref a1, .ref a2, .ref a3]) = G at *
    have hS : SqL K G p [.ref a0, .ref a1, .ref a2, .ref a3] := .inl (.inl hEq)
    have hX : ∀ (i : Nat) (x : V), ([.ref a0, .ref a1, .ref a2, .ref a3] : List V)[i]? = some x → ∃ a, x = .ref a ∧ Fl G a (c (17 + i / 2)) v := by
      intro i x e
      match i, e with
      | 0, e => exact ⟨a0, by simpa using e.symm, A0⟩
      | 1, e => exact ⟨a1, by simpa using e.symm, A1⟩
      | 2, e => exact ⟨a2, by simpa using e.symm, A2⟩
      | 3, e => exact ⟨a3, by simpa using e.symm, A3⟩
      | i + 4, e => simp at e
    have hDG := hD.mono S
    refine ⟨_, rfl, p, _, rfl, hS, for_it (walk_enum (K := K) (a := p) (xs := [.ref a0, .ref a1, .ref a2, .ref a3])) (fun i σ H' => ∃ v1 v2 : Option V, σ = [some v, some (.ref p), v1, v2, none] ∧ Same G H') ⟨none, none, rfl, Same.refl G⟩ (fun i σ H' _ ⟨_, _, _, s⟩ => s.seq hS) ?_ ?_⟩
    · rintro i x σ H1 H2 hi ⟨v1, v2, rfl, S1⟩ ⟨Tp, y, z, rfl, nT, rfl, ey, ez⟩
      obtain rfl := Option.some.inj ey
      obtain ⟨a, rfl, hF⟩ := hX i z ez
      have i4 : i < 4 := hi
      have S2 : Same G (upd H1 Tp (.tup [.int (i : Nat), .ref a])) := same_upd S1 nT
      refine ⟨Tp, _, rfl, SqT.of upd_same, rfl, _, _, rfl, _, _, rfl, rfl, ?_⟩
      generalize upd H1 Tp (.tup [.int (i : Nat), .ref a]) = G2 at *
      have F2 := hF.mono S2
      have D2 := hDG.mono S2
      obtain ⟨X1, X2⟩ := M.xf i i4
      have i20 : 17 + i / 2 < 20 := by omega
      have ty := F2.isX.ty (C.ec (17 + i / 2) i20)
      obtain ⟨dx, ea, ed⟩ := id F2
      refine ⟨_, rfl, a, _, dx, _, v, rfl, ea, ed, X1, X2, nameL v, v, d, rfl, D2, hsm, _, rfl, v, d, rfl, D2, hsm, rfl, _, rfl, ?_⟩
      refine iF (by simp) ?_
      refine ⟨_, rfl, a, _, dx, _, v, rfl, ea, ed, X1, X2, nameL v, _, rfl, rfl, ⟨d, D2⟩, _, rfl, ?_⟩
      refine iF (by decide) ?_
      refine ⟨_, rfl, _, _, _, _, _, rfl, .own _, ty, C.kB (17 + i / 2) i20, true, rfl, ?_⟩
      refine iF (by decide) ?_
      refine ⟨_, rfl, _, _, _, _, _, rfl, .ty _, ty, C.kV (17 + i / 2) i20, true, rfl, ?_⟩
      refine iF (by decide) ?_
      refine ⟨_, rfl, a, 17 + i / 2, rfl, i20, F2.isX, fun pk Hk nk Sk Lk => ?_⟩
      refine ⟨19, rfl, by decide, by decide, fun D nD => ?_⟩
      refine lc_range (lo := 0) (n := 19) (fun j Hc => Same Hk Hc ∧ Hc D = some (.lst ((List.range j).map fun m => V.bl (decide (17 + i / 2 = m))))) ⟨up1 nD, upd_same⟩ ?_ ?_
      · rintro j Hc hj ⟨Sc, Lc⟩
        refine ⟨rfl, ?_⟩
        refine ⟨_, rfl, _, rfl, _, _, rfl, rfl, ⟨by decide, by decide⟩, _, _, rfl, rfl, rfl, _, Lc, small1000 (by simp; omega), same_at Sc nD, ?_⟩
        rw [upd_same, dv2, List.range_succ, List.map_append]
        rfl
      · rintro Hc ⟨Sc, Lc⟩
        have e : (!PyData.eqv (.list (kd fun m => decide (17 + i / 2 = m))) (.list (kd fun m => decide (17 + i / 2 = m)))) = false := kd_same _
        refine ⟨.list (kd fun m => decide (17 + i / 2 = m)), .list (kd fun m => decide (17 + i / 2 = m)), .lst (.inl (.inl (Sc _ _ Lk))) (dpBl _ _), .lst (.inl (.inl Lc)) (dpBl _ _), kd_shaped _, kd_shaped _, _, rfl, ?_⟩
        rw [e]
        refine iF (by decide) ?_
        have S5 := S2.trans (Sk.trans Sc)
        refine ⟨_, rfl, len_small (by simp), fun tp nt => ⟨_, tp, _, _, _, _, rfl, upd_same, oP, ((F2.mono (Sk.trans Sc)).mono (up1 nt)).isX.ty (C.ec (17 + i / 2) i20), C.kO (17 + i / 2) i20, false, rfl, ?_⟩⟩
        refine iF (by decide) ?_
        exact ⟨_, _, rfl, same_upd S5 nt⟩
    · rintro σ H1 ⟨v1, v2, rfl, S1⟩
      exact h _ (S.trans S1)
end
end L54
namespace PySem.SeqAt
open AutoSeq1 (wpAny_loadPart')
open MeetsSeq MeetsSeq2 MeetsSeq3 SeqRoads2
variable {prog : Program} {w : World}
/-- != of two lists whose items are the same, in this one model -/
theorem neLoop54 (l b : Addr) (xs ys : Array Value) (n n2 : Nat) (dd dd2 : Option Addr) (sl sl2 : Array (Option Value)) (hsz : xs.size = ys.size) (k : Nat) :
    ∀ i : Nat, xs.size - i = k → MeetsIn prog w (Builtin.«list.__eq__.loop» ⟨[.ref l, .ref b, rawInt i, rawInt 3], []⟩)
      (fun A R s => s.heap.get? l = some { cls := .type "list", dict := dd, data := .seq xs n, slots := sl } ∧ s.heap.get? b = some { cls := .type "list", dict := dd2, data := .seq ys n2, slots := sl2 } ∧
        (∀ j (h1 : j < xs.size) (h2 : j < ys.size), EqP prog w A.in1 s xs[j] ys[j] true) ∧ R (.ok (.ret (.bool false))) s) := by
  induction k with
  | zero =>
    intro i hk A R s h
    obtain ⟨hp, g, d, tk, os⟩ := s; obtain ⟨hl, hb, he, h⟩ := h
    wp_walk using wpAny_loadPart' hl, wpAny_loadPart' hb
    have e1 : xs[((i : Nat) : Int).toNat]? = none := by simp; omega
    have e2 : ys[((i : Nat) : Int).toNat]? = none := by simp; omega
    rw [e1, e2]
    wp_walk using wpAny_loadPart' hl, wpAny_loadPart' hb
    show R (.ok (.ret (.bool (xs.size != ys.size)))) _
    rw [hsz]
    simpa using h
  | succ k ih =>
    intro i hk A R s h
    obtain ⟨hp, g, d, tk, os⟩ := s; obtain ⟨hl, hb, he, h⟩ := h
    wp_walk using wpAny_loadPart' hl, wpAny_loadPart' hb
    have l1 : i < xs.size := by omega
    have l2 : i < ys.size := by omega
    have e1 : xs[((i : Nat) : Int).toNat]? = some xs[i] := by simp [l1]
    have e2 : ys[((i : Nat) : Int).toNat]? = some ys[i] := by simp [l2]
    have hc : ((i : Int) + 1) = ((i + 1 : Nat) : Int) := by push_cast; rfl
    rw [e1, e2]
    refine wpAny_bind (he i l1 l2 _ _ ?_)
    wp_walk
    rw [hc]
    exact ⟨plainId_quiet plain_eq_loop _, codeAny_builtin entry_eq_loop (by
      rw [Around.under_plainId plain_eq_loop _]
      exact ih (i + 1) (by omega) A R _ ⟨hl, hb, he, h⟩)⟩
theorem neIn54 (l b : Addr) (xs ys : Array Value) (n n2 : Nat) (dd dd2 : Option Addr) (sl sl2 : Array (Option Value)) (hsz : xs.size = ys.size) :
    MeetsIn prog w (Builtin.«list.__ne__» ⟨[.ref l, .ref b], []⟩)
      (fun A R s => s.heap.get? l = some { cls := .type "list", dict := dd, data := .seq xs n, slots := sl } ∧ s.heap.get? b = some { cls := .type "list", dict := dd2, data := .seq ys n2, slots := sl2 } ∧
        (∀ j (h1 : j < xs.size) (h2 : j < ys.size), EqP prog w A.in1 s xs[j] ys[j] true) ∧ R (.ok (.ret (.bool false))) s) := by
  intro A R s h
  obtain ⟨hp, g, d, tk, os⟩ := s; obtain ⟨hl, hb, he, h⟩ := h
  have f3 := AutoSeq1.sub_list_list
  have hne : ¬ (xs.size != ys.size) = true := by simp [hsz]
  wp_walk using wpAny_loadPart' hl, wpAny_loadPart' hb
  exact ⟨plainId_quiet plain_eq_loop _, codeAny_builtin entry_eq_loop (by
    rw [Around.under_plainId plain_eq_loop _]
    exact neLoop54 l b xs ys n n2 dd dd2 sl sl2 hsz _ 0 rfl A R _ ⟨hl, hb, he, h⟩)⟩
theorem neLists54 {A : Around} {s : Shared} {l b : Addr} {xs ys : Array Value} (hl : s.heap.IsList l xs) (hb : s.heap.IsList b ys) (hsz : xs.size = ys.size) (hu : A.units < cLine)
    (he : ∀ j (h1 : j < xs.size) (h2 : j < ys.size), EqP prog w A.in1 s xs[j] ys[j] true) (E Q : Value → Shared → Prop) (h : Q (.bool false) s) : wpAny (model prog w) A (richCompare .NotEq (.ref l) (.ref b)) Q E s := by
  obtain ⟨⟨cls, dd, data, sl⟩, ho, hc, n, hd⟩ := id hl
  obtain ⟨⟨cls2, dd2, data2, sl2⟩, ho2, hc2, n2, hd2⟩ := id hb
  simp only at hc hd hc2 hd2
  subst hc hd hc2 hd2
  have ta : s.TypeIs (.ref l) "list" := ⟨_, ho, rfl⟩
  have tb : s.TypeIs (.ref b) "list" := ⟨_, ho2, rfl⟩
  exact wpAny_richCompare_same_room (op := .NotEq) ta tb F.slot_list_ne (call_meetsIn F.slot_list_ne ta F.entry_list_ne (F.args_list_ne_2 _ _) (neIn54 l b xs ys n n2 dd dd2 sl sl2 hsz)
    ⟨ho, ho2, he, show Value.bool false ≠ Value.notImplemented ∧ Q (.bool false) s from ⟨(fun x => nomatch x), h⟩⟩) hu
end PySem.SeqAt
namespace L54
open PySem PySem.Spec PyProof.Rows L2
/-- alike: data without dicts, or two dicts of flat values -/
def Ak (K : PySem.W.Frag) (H : Hp) (x y : V) : Prop := (∃ d, Dp K H x d ∧ Dp K H y d ∧ SeqAt.shaped d = true) ∨
  ∃ a b ks ls, x = .ref a ∧ y = .ref b ∧ H a = some (.dK ks) ∧ H b = some (.dK ls) ∧ ks.length = ls.length ∧ ∀ p ∈ ks, ∃ u, valV ls p.1 = some u ∧ p.2 = u ∧ flatB u = true
section
variable {X : Cx} {pins : List (Addr × Obj)} {σ : L2.St} {H : Hp} {s : Shared}
theorem ak_run (I : Inv X pins σ H s) {A : Around} (hu : A.units + 70 < cLine) {x y : V} {v u : Value} (h : Ak X.K H x y) (rx : RelV x v) (ry : RelV y u) : SeqAt.EqP X.prog X.w A s v u true := by
  rcases h with ⟨d, h1, h2, hs⟩ | ⟨a, b, ks, ls, rfl, rfl, ha, hb, hl, hp⟩
  · obtain ⟨as, r1⟩ := Dp.reads I d x v h1 rx
    obtain ⟨bs, r2⟩ := Dp.reads I d y u h2 ry
    have e := SeqAt.eqAt_reads d d A s v u as bs r1 r2 (SeqAt.canLay_of_shaped hs) (SeqAt.canLay_of_shaped hs) (SeqAt.room_of_shaped hs (by omega))
    rw [SeqAt.eqv_refl d (SeqAt.canLay_of_shaped hs)] at e
    exact e.eqP
  · exact eqV_run I 2 A (by omega) (.ref a) (.ref b) v u (.inr (.inr (.inr ⟨a, b, ks, ls, rfl, rfl, ha, hb, hl, fun p hm => let ⟨u, e1, e2, e3⟩ := hp p hm; ⟨u, e1, .inl ⟨e2, by rw [e2]; exact e3⟩⟩⟩))) rx ry
/-- xs != ys, alike item by item -/
def rNeA (K : PySem.W.Frag) : R2 := fun x y H Q => ∃ a b xs ys, x = .ref a ∧ y = .ref b ∧ SqL K H a xs ∧ SqL K H b ys ∧ Paired (Ak K H) xs ys ∧ Q (.bl false) H
end
theorem op_neA {X : Cx} (hu : X.A.units + 100 < cLine) : OpR X (compareOp .NotEq) (rNeA X.K) := by
  intro pins s σ H x y v u Q I rx ry h
  obtain ⟨a, b, xs, ys, rfl, rfl, ha, hb, hp, q⟩ := h
  cases rx
  cases ry
  obtain ⟨us, r1, p1, _⟩ := I.list ha
  obtain ⟨ws, r2, p2, _⟩ := I.list hb
  have hsz : us.toArray.size = ws.toArray.size := by
    rw [List.size_toArray, List.size_toArray, ← r1.length, ← r2.length]
    exact Paired.length hp
  refine SeqAt.neLists54 p1.isList p2.isList hsz (by omega) (fun j h1 h2 => ?_) _ _ ⟨.bl false, H, I, rfl, q⟩
  have k := items_run (fun x y v u h r1 r2 => ak_run I (A := X.A.in1) (by show X.A.units + 1 + 70 < cLine; omega) h r1 r2) hp r1 r2 j (by simpa using h1) (by simpa using h2)
  simpa using k
end L54
namespace L54
open PySem PySem.Spec PyProof.Rows L2
section
variable {X : Cx} {C fI : Addr} {x : Str} {p pos : Pos} {fd : FuncData} {k : Nat}
/-- what a made one leaves, without the places -/
def madeA (C : Addr) (v : V) (H : Hp) (Q : VK) : Prop := ∀ a G, Same H G → Fl G a C v → Q (.ref a) G
theorem pe_mA {e : Expr} {ta : TE} (n : ExF X.K X.mg x C fI) (b : BindI X.K fd) (G : FnOk X.prog X.w X.K X.mg X.base CX0 k fI fd ["self", "name"] (spI X.K C)) (hr : Room (k + 1) X.A) (he : PE X e ta) (hg : Gl X x := by rfl)
    (hs : starEach [e] X.env = (false, eval e X.env) :: starEach [] X.env := by rfl) (hdb : (x == ("__debug__" : Str)) = false := by decide) :
    PE X (.Call (.Name x p) [e] [] pos) (fun σ H Q => ta σ H fun v H1 => madeA C v H1 Q) := by
  refine ⟨fun pins s σ H Q I h => ?_⟩
  refine wpAny_Call_Name_kw (ld_glob I hg n.g ?_ hdb)
  refine PySem.W.callWith_K (h₀ := X.base) I.ok.mod.kin n.o.kC ?_ hs (by rfl)
  rw [hs]
  show wpAny _ _ (spliced ((false, eval e X.env) :: backTo pos (starEach [] X.env))) _ _ s
  refine Calls.spliced_cons (thn (he.run pins s σ H _ I h) fun u s1 ⟨v, H1, I1, r1, q1⟩ => ?_)
  exact Calls.spliced_nil ⟨I1.kIn, runI (us := [u]) n G hr I1 r1 (by show 1 ≤ sizeLine; rw [sizeLine_eq]; omega) (fun s' y => b.b1 s' y u) fun a dx h1 h2 h3 => q1 a _ (mH_same h1 h2) (mH_fl h3)⟩
theorem pe_mAk {e : Expr} {ta : TE} {kp : Pos} (n : ExF X.K X.mg x C fI) (b : BindI X.K fd) (G : FnOk X.prog X.w X.K X.mg X.base CX0 k fI fd ["self", "name"] (spI X.K C)) (hr : Room (k + 1) X.A) (he : PE X e ta) (hg : Gl X x := by rfl)
    (hall : (backToKw pos (keywordEach [⟨some "name", e, kp⟩] X.env)).all (·.1.isSome) = true := by rfl) (hks : (backToKw pos (keywordEach [⟨some "name", e, kp⟩] X.env)).filterMap (·.1) = [("name" : Str)] := by rfl)
    (hpl : ((backTo pos (starEach [] X.env)).any (·.1) || (backToKw pos (keywordEach [⟨some "name", e, kp⟩] X.env)).any (·.1.isNone)) = false := by rfl) (hdb : (x == ("__debug__" : Str)) = false := by decide) :
    PE X (.Call (.Name x p) [] [⟨some "name", e, kp⟩] pos) (fun σ H Q => ta σ H fun v H1 => madeA C v H1 Q) := by
  refine ⟨fun pins s σ H Q I h => ?_⟩
  refine wpAny_Call_Name_kw (ld_glob I hg n.g ?_ hdb)
  refine PySem.W.callWith_KW0 (h₀ := X.base) I.ok.mod.kin n.o.kC hall ?_ hpl
  have hkw : PK X [⟨some "name", e, kp⟩] (tCons ta tNil) := pk_cons he pk_nil
  have h' : tCons ta tNil σ H (fun zs H1 => match zs with | [v] => madeA C v H1 Q | _ => False) := h
  have hh := hkw.run pos pins s σ H _ I h'
  rw [hks]
  refine thn hh fun ws s2 hq => ?_
  obtain ⟨zs, H2, I2, rz, q2⟩ := hq
  refine ⟨I2.kIn, ?_⟩
  cases rz with
  | nil => exact q2.elim
  | cons r1 r2 =>
    cases r2 with
    | cons r3 r4 => exact q2.elim
    | nil =>
      rw [zip1]
      rw [List.append_nil]
      exact runI (us := []) n G hr I2 r1 (Nat.zero_le _) (fun s' y => b.bk s' y _) fun a dx h1 h2 h3 => q2 a _ (mH_same h1 h2) (mH_fl h3)
end
theorem exo_lst {e C : Addr} {d : Option Addr} {xs : List V} : exo e C d ≠ .lst xs := fun z => by
  have z' : HO.ext _ = HO.lst xs := z
  cases z'
theorem exd_lst {e : Addr} {fs : List (Str × V)} {xs : List V} : exd e fs ≠ .lst xs := fun z => by
  have z' : HO.ext _ = HO.lst xs := z
  cases z'
theorem exo_dk {e C : Addr} {d : Option Addr} {xs : List (Key × V)} : exo e C d ≠ .dK xs := fun z => by
  have z' : HO.ext _ = HO.dK xs := z
  cases z'
theorem exd_dk {e : Addr} {fs : List (Str × V)} {xs : List (Key × V)} : exd e fs ≠ .dK xs := fun z => by
  have z' : HO.ext _ = HO.dK xs := z
  cases z'
theorem lst_ne {xs ys : List V} (h : xs.length ≠ ys.length) : HO.lst xs ≠ HO.lst ys := fun z => h (by cases z; rfl)
theorem keepU {H : Hp} {a r : Addr} {o u o' : HO} (h : H a = some o) (hr : H r = some u) (d : o ≠ u) : upd H r o' a = some o := by
  rw [upd_ne (ne_of h hr d)]
  exact h
theorem flU {H : Hp} {a C r : Addr} {v : V} {xs : List V} {o' : HO} (h : Fl H a C v) (hr : H r = some (.lst xs)) : Fl (upd H r o') a C v := by
  obtain ⟨dx, e1, e2⟩ := h
  exact ⟨dx, keepU e1 hr exo_lst, keepU e2 hr exd_lst⟩
theorem flD {H : Hp} {a C r : Addr} {v : V} {xs : List (Key × V)} {o' : HO} (h : Fl H a C v) (hr : H r = some (.dK xs)) : Fl (upd H r o') a C v := by
  obtain ⟨dx, e1, e2⟩ := h
  exact ⟨dx, keepU e1 hr exo_dk, keepU e2 hr exd_dk⟩
theorem eqv_f {d : PyData} (h : SeqAt.shaped d = true) : (!PyData.eqv d d) = false := by rw [SeqAt.eqv_refl _ (SeqAt.canLay_of_shaped h)]; rfl
section
open PyData
variable {x : Str} {n : Int}
theorem sh_ln (hx : strOk x = true) : SeqAt.shaped (.list [.str x, .int n]) = true := by simp [SeqAt.shaped, canLay0, canLayAll0, hx, depth, depthAll]
theorem sh_l1 : SeqAt.shaped (.list [.int n]) = true := by simp [SeqAt.shaped, canLay0, canLayAll0, depth, depthAll]
theorem sh_t (hx : strOk x = true) : SeqAt.shaped (.tuple [.list [.str x, .int n], .int n]) = true := by simp [SeqAt.shaped, canLay0, canLayAll0, hx, depth, depthAll]
theorem ok_a : strOk "a" = true := by decide +kernel
theorem ok_b : strOk "b" = true := by decide +kernel
theorem sh_m (hx : strOk x = true) : SeqAt.shaped (.list [.str "b", .str x, .str "a", .str "b"]) = true := by simp [SeqAt.shaped, canLay0, canLayAll0, hx, depth, depthAll, ok_a, ok_b]
end
end L54
namespace L54
open PySem PySem.Spec PyProof.Rows L2
theorem pe_nmK {X : Cx} {K' : PySem.W.Frag} {e : Expr} {te : TE} {pos : Pos} (he : PE X e te) (hK : X.K = K' := by rfl) (hb : attributeBase e "name" X.env (eval e X.env) = eval e X.env := by rfl) : PE X (.Attribute e "name" pos) (tNm K' te) := by
  subst hK
  exact pe_nm he hb
section
variable {P : Program} {w : World} {K : PySem.W.Frag} {mg : Str → Option Value} {base : Heap} {c : Nat → Addr}
def spHeld : Sp := fun vs H Q _ => ∃ (x : Str) (n : Int), vs = [.str x, .int n] ∧ PyData.strOk x = true ∧ ∀ H', Same H H' → Q (.bl true) H'
abbrev nH : List Str := ["text", "number", "row", "known", "bare", "error", "other", "third", "deep", "many", "more", "due", "one"]
theorem scH : FnScope nH ["text", "number"] (defScope sHeld) := ⟨rfl, rfl, rfl, by decide +kernel, rfl, by decide +kernel, by decide +kernel⟩
def ka : Key := Sum.inr "a"
def kb : Key := Sum.inr "b"
theorem kab : putK [(ka, V.int 0)] kb .non = [(ka, V.int 0), (kb, .non)] := by decide +kernel
theorem kab' (n : Int) : putK [(ka, V.int n)] kb .non = [(ka, V.int n), (kb, .non)] := by
  have h : ¬ (ka = kb) := by decide +kernel
  simp [putK, h]
theorem mer1 (n : Int) : mergeK [] [(ka, V.int n)] = [(ka, V.int n)] := rfl
theorem mer2 (n : Int) : mergeK [] [(ka, V.int n), (kb, .non)] = [(ka, V.int n), (kb, .non)] := kab' n
theorem vals2k (n : Int) : ∀ p ∈ [(ka, V.int n), (kb, V.non)], valV [(ka, V.int n), (kb, V.non)] p.1 = some p.2 ∧ flatB p.2 = true := by
  have h : ¬ (ka = kb) := by decide +kernel
  have h' : ¬ (kb = ka) := by decide +kernel
  intro p hp
  rcases List.mem_cons.mp hp with rfl | hp
  · exact ⟨by simp [valV], rfl⟩
  · rcases List.mem_cons.mp hp with rfl | hp
    · exact ⟨by simp [valV, h], rfl⟩
    · cases hp

theorem ok_held {f f1 f2 : Addr} {fd fd1 fd2 : FuncData} (F : Fun K "_law_held_good" "_law_held_good" sHeld f fd) (M : Mf K mg c f1 f2 fd1 fd2) : FnOk P w K mg base CX0 3 f fd ["text", "number"] spHeld := by
  have G1 : FnOk P w K mg base CX0 1 f1 fd1 ["self", "name"] (spI K (c 17)) := ok_i1 M.F1 M.n1.o M.n1.n
  have G2 : FnOk P w K mg base CX0 1 f2 fd2 ["self", "name"] (spI K (c 18)) := ok_i2 M.F2 M.n2.o M.n2.n
  refine F.ok scH (fun vs H Q E h => ?_) (fun cdv A outer s H vs Q E hr h => ?_)
  · obtain ⟨x, n, rfl, _⟩ := h
    rfl
  · obtain ⟨x, n, rfl, hx, h⟩ := h
    have hu := hr.units
    have hu1 := hu_of hr
    have hu2 : (A.deeper (envOfC "_law_held_good" (defScope sHeld) s.heap.objs.size f cdv)).units + 100 < cLine := by have := hr.un; omega
    have hu3 : (A.deeper (envOfC "_law_held_good" (defScope sHeld) s.heap.objs.size f cdv)).units < cLine := by omega
    refine ⟨_, (pss_cons (ps_par3 (i := 2) (j := 3) (l := 4) (by rfl) scH.nd rfl rfl rfl (by decide) (by decide) (by decide) rfl rfl rfl (pa_cons (pe_lst (pa_cons (pv 0) pa_nil)) (pa_cons (pe_disp (pps_cons pe_str (pv 1) pps_nil) rfl rfl (by simp) (by decide)) (pa_cons (pe_lst pa_nil) pa_nil))) (by rfl))
      (pss_cons (ps_par (i := 5) (j := 6) (by rfl) scH.nd rfl rfl (by decide) rfl rfl (pa_cons (pe_mA M.n1 (bi_1 M.F1) G1 hr (pv 2)) (pa_cons (pe_mA M.n2 (bi_2 M.F2) G2 hr (pv 3)) pa_nil)) (by rfl))
      (pss_cons (ps_par (i := 7) (j := 8) (by rfl) scH.nd rfl rfl (by decide) rfl rfl (pa_cons (pe_mAk M.n1 (bi_1 M.F1) G1 hr (pv 4)) (pa_cons (pe_mA M.n2 (bi_2 M.F2) G2 hr (pe_tup (pa_cons (pv 2) (pa_cons (pv 1) pa_nil)))) pa_nil)) (by rfl))
      (pss_cons (ps_set (i := 9) scH.nd rfl (.inl rfl) (pe_lst (pa_cons pe_str (pa_cons (pv 0) (pa_cons pe_str (pa_cons pe_str pa_nil))))))
      (pss_cons (ps_set (i := 10) scH.nd rfl (.inl rfl) (pe_lst (pa_cons (pe_mA M.n2 (bi_2 M.F2) G2 hr (pv 2)) (pa_cons (pe_mAk M.n2 (bi_2 M.F2) G2 hr (pv 4)) (pa_cons (pe_mA M.n1 (bi_1 M.F1) G1 hr (pv 3)) (pa_cons (pe_mA M.n1 (bi_1 M.F1) G1 hr (pe_tup (pa_cons (pv 2) (pa_cons (pv 1) pa_nil)))) pa_nil))))))
      (pss_cons (ps_set (i := 10) scH.nd rfl (.inl rfl) (pe_op op_cat (pv 10) (pe_lst (pa_cons (pe_mA M.n1 (bi_1 M.F1) G1 hr (pv 9)) (pa_cons (pe_mAk M.n2 (bi_2 M.F2) G2 hr (pv 9)) pa_nil)))))
      (pss_cons (ps_expr (pe_bm PySem.F.plainAttrs_list PySem.F.slot_list_append PySem.F.type_list_append mt_append (pv 2) (pa_cons (pv 1) pa_nil)))
      (pss_cons (ps_dput hu1 (pv 3) pe_str pe_non rfl)
      (pss_cons (ps_expr (pe_bm PySem.F.plainAttrs_list PySem.F.slot_list_append PySem.F.type_list_append mt_append (pv 4) (pa_cons (pv 1) pa_nil)))
      (pss_cons (ps_if (PW.pt (pw_or (pt_cmpR (op_neD hu) (pe_nm (pv 5)) (pe_lst (pa_cons (pv 0) (pa_cons (pv 1) pa_nil))) (nomark _)) (pw_or (pt_cmpR (op_ne_dictA hu3) (pe_nm (pv 6)) (pe_disp (pps_cons pe_str (pv 1) (pps_cons pe_str pe_non pps_nil)) rfl rfl (by simp) (by decide)) (nomark _)) (pw_or1 (pt_cmpR (op_neD hu) (pe_nm (pv 7)) (pe_lst (pa_cons (pv 1) pa_nil)) (nomark _)))))) (pss_one (ps_ret pe_bl)) pss_nil)
      (pss_cons (ps_if (PW.pt (pw_or (pt_cmpR (op_neD hu) (pe_nm (pv 8)) (pe_tup (pa_cons (pe_lst (pa_cons (pv 0) (pa_cons (pv 1) pa_nil))) (pa_cons (pv 1) pa_nil))) (nomark _)) (pw_or1 (pt_cmpR (op_neD hu) (pv 9) (pe_lst (pa_cons pe_str (pa_cons (pv 0) (pa_cons pe_str (pa_cons pe_str pa_nil))))) (nomark _))))) (pss_one (ps_ret pe_bl)) pss_nil)
      (pss_cons (ps_set (i := 11) scH.nd rfl (.inl rfl) (pe_lst (pa_cons (pe_lst (pa_cons (pv 0) (pa_cons (pv 1) pa_nil))) (pa_cons (pe_lst (pa_cons (pv 1) pa_nil)) (pa_cons (pe_disp (pps_cons pe_str (pv 1) (pps_cons pe_str pe_non pps_nil)) rfl rfl (by simp) (by decide)) (pa_cons (pe_tup (pa_cons (pe_lst (pa_cons (pv 0) (pa_cons (pv 1) pa_nil))) (pa_cons (pv 1) pa_nil))) pa_nil))))))
      (pss_cons (ps_if (pt_cmpR (op_neA hu2) (pe_lc (own := [("one", 12)]) (g := gName 12) (tt := tYes) rfl scH.nd (pi_list (pv 10)) (blkOk_by (N := nH) (sc := defScope sHeld) (by decide +kernel)) (fun _ _ _ _ _ => pg_name (i := 12) scH.nd rfl (Or.inl rfl)) (fun _ _ _ _ _ => pts_nil) (fun _ _ _ _ _ => pe_nmK (K' := K) (pv 12))) (pe_op op_cat (pv 11) (pe_lst (pa_cons (pe_lst (pa_cons pe_str (pa_cons (pv 0) (pa_cons pe_str (pa_cons pe_str pa_nil))))) (pa_cons (pe_lst (pa_cons pe_str (pa_cons (pv 0) (pa_cons pe_str (pa_cons pe_str pa_nil))))) pa_nil)))) (nomark _)) (pss_one (ps_ret pe_bl)) pss_nil)
      (pss_one (ps_ret pe_bl))))))))))))))), ?_⟩
    have S : Same H H := Same.refl H
    refine ⟨_, rfl, len_small (by simp), fun r nr => ?_⟩
    have U := up1 (o := .lst [.str x]) nr
    have R : upd H r (.lst [.str x]) r = some (.lst [.str x]) := upd_same
    have zr : H r = none := S.free nr
    replace S := S.trans U
    clear U nr
    generalize upd H r (.lst [.str x]) = G0 at *
    intro k nk
    refine ⟨_, rfl, upd_same, [(ka, .int n)], rfl, by simp, ?_⟩
    rw [upd_upd, mer1]
    have U := up1 (o := .dK [(ka, .int n)]) nk
    have Kn : upd G0 k (.dK [(ka, .int n)]) k = some (.dK [(ka, .int n)]) := upd_same
    have zk : H k = none := S.free nk
    replace S := S.trans U
    replace R := U _ _ R
    clear U nk
    generalize upd G0 k (.dK [(ka, .int n)]) = G1 at *
    refine ⟨len_small (by simp), fun b nb => ?_⟩
    have U := up1 (o := .lst []) nb
    have B : upd G1 b (.lst []) b = some (.lst []) := upd_same
    have zb : H b = none := S.free nb
    replace S := S.trans U
    replace R := U _ _ R
    replace Kn := U _ _ Kn
    clear U nb
    generalize upd G1 b (.lst []) = G2 at *
    refine ⟨_, _, _, rfl, ?_⟩
    refine ⟨_, rfl, ?_⟩
    intro a1 G3 U E1
    replace S := S.trans U
    replace R := U _ _ R
    replace Kn := U _ _ Kn
    replace B := U _ _ B
    clear U
    refine ⟨_, rfl, ?_⟩
    intro a2 G4 U E2
    replace S := S.trans U
    replace R := U _ _ R
    replace Kn := U _ _ Kn
    replace B := U _ _ B
    replace E1 := E1.mono U
    clear U
    refine ⟨_, _, rfl, ?_⟩
    refine ⟨_, rfl, ?_⟩
    intro a3 G5 U E3
    replace S := S.trans U
    replace R := U _ _ R
    replace Kn := U _ _ Kn
    replace B := U _ _ B
    replace E1 := E1.mono U
    replace E2 := E2.mono U
    clear U
    refine ⟨_, rfl, _, rfl, len_small (by simp), fun t1 nt1 => ?_⟩
    have U := up1 (o := .tup [.ref r, .int n]) nt1
    have T1 : upd G5 t1 (.tup [.ref r, .int n]) t1 = some (.tup [.ref r, .int n]) := upd_same
    replace S := S.trans U
    replace R := U _ _ R
    replace Kn := U _ _ Kn
    replace B := U _ _ B
    replace E1 := E1.mono U
    replace E2 := E2.mono U
    replace E3 := E3.mono U
    clear U nt1
    generalize upd G5 t1 (.tup [.ref r, .int n]) = G6 at *
    intro a4 G7 U E4
    replace S := S.trans U
    replace R := U _ _ R
    replace Kn := U _ _ Kn
    replace B := U _ _ B
    replace E1 := E1.mono U
    replace E2 := E2.mono U
    replace E3 := E3.mono U
    replace T1 := U _ _ T1
    clear U
    refine ⟨_, _, rfl, ?_⟩
    refine ⟨_, rfl, len_small (by simp), fun m nm => ?_⟩
    have U := up1 (o := .lst [.str "b", .str x, .str "a", .str "b"]) nm
    have Mn : upd G7 m (.lst [.str "b", .str x, .str "a", .str "b"]) m = some (.lst [.str "b", .str x, .str "a", .str "b"]) := upd_same
    replace S := S.trans U
    replace R := U _ _ R
    replace Kn := U _ _ Kn
    replace B := U _ _ B
    replace E1 := E1.mono U
    replace E2 := E2.mono U
    replace E3 := E3.mono U
    replace T1 := U _ _ T1
    replace E4 := E4.mono U
    clear U nm
    generalize upd G7 m (.lst [.str "b", .str x, .str "a", .str "b"]) = G8 at *
    refine ⟨_, rfl, ?_⟩
    intro a5 G9 U E5
    replace S := S.trans U
    replace R := U _ _ R
    replace Kn := U _ _ Kn
    replace B := U _ _ B
    replace E1 := E1.mono U
    replace E2 := E2.mono U
    replace E3 := E3.mono U
    replace T1 := U _ _ T1
    replace E4 := E4.mono U
    replace Mn := U _ _ Mn
    clear U
    refine ⟨_, rfl, ?_⟩
    intro a6 G10 U E6
    replace S := S.trans U
    replace R := U _ _ R
    replace Kn := U _ _ Kn
    replace B := U _ _ B
    replace E1 := E1.mono U
    replace E2 := E2.mono U
    replace E3 := E3.mono U
    replace T1 := U _ _ T1
    replace E4 := E4.mono U
    replace Mn := U _ _ Mn
    replace E5 := E5.mono U
    clear U
    refine ⟨_, rfl, ?_⟩
    intro a7 G11 U E7
    replace S := S.trans U
    replace R := U _ _ R
    replace Kn := U _ _ Kn
    replace B := U _ _ B
    replace E1 := E1.mono U
    replace E2 := E2.mono U
    replace E3 := E3.mono U
    replace T1 := U _ _ T1
    replace E4 := E4.mono U
    replace Mn := U _ _ Mn
    replace E5 := E5.mono U
    replace E6 := E6.mono U
    clear U
    refine ⟨_, rfl, _, rfl, len_small (by simp), fun t2 nt2 => ?_⟩
    have U := up1 (o := .tup [.ref r, .int n]) nt2
    have T2 : upd G11 t2 (.tup [.ref r, .int n]) t2 = some (.tup [.ref r, .int n]) := upd_same
    replace S := S.trans U
    replace R := U _ _ R
    replace Kn := U _ _ Kn
    replace B := U _ _ B
    replace E1 := E1.mono U
    replace E2 := E2.mono U
    replace E3 := E3.mono U
    replace T1 := U _ _ T1
    replace E4 := E4.mono U
    replace Mn := U _ _ Mn
    replace E5 := E5.mono U
    replace E6 := E6.mono U
    replace E7 := E7.mono U
    clear U nt2
    generalize upd G11 t2 (.tup [.ref r, .int n]) = G12 at *
    intro a8 G13 U E8
    replace S := S.trans U
    replace R := U _ _ R
    replace Kn := U _ _ Kn
    replace B := U _ _ B
    replace E1 := E1.mono U
    replace E2 := E2.mono U
    replace E3 := E3.mono U
    replace T1 := U _ _ T1
    replace E4 := E4.mono U
    replace Mn := U _ _ Mn
    replace E5 := E5.mono U
    replace E6 := E6.mono U
    replace E7 := E7.mono U
    replace T2 := U _ _ T2
    clear U
    refine ⟨len_small (by simp), fun l nl => ?_⟩
    have U := up1 (o := .lst [.ref a5, .ref a6, .ref a7, .ref a8]) nl
    have L : upd G13 l (.lst [.ref a5, .ref a6, .ref a7, .ref a8]) l = some (.lst [.ref a5, .ref a6, .ref a7, .ref a8]) := upd_same
    replace S := S.trans U
    replace R := U _ _ R
    replace Kn := U _ _ Kn
    replace B := U _ _ B
    replace E1 := E1.mono U
    replace E2 := E2.mono U
    replace E3 := E3.mono U
    replace T1 := U _ _ T1
    replace E4 := E4.mono U
    replace Mn := U _ _ Mn
    replace E5 := E5.mono U
    replace E6 := E6.mono U
    replace E7 := E7.mono U
    replace T2 := U _ _ T2
    replace E8 := E8.mono U
    clear U nl
    generalize upd G13 l (.lst [.ref a5, .ref a6, .ref a7, .ref a8]) = G14 at *
    refine ⟨_, rfl, ?_⟩
    refine ⟨_, rfl, ?_⟩
    intro a9 G15 U E9
    replace S := S.trans U
    replace R := U _ _ R
    replace Kn := U _ _ Kn
    replace B := U _ _ B
    replace E1 := E1.mono U
    replace E2 := E2.mono U
    replace E3 := E3.mono U
    replace T1 := U _ _ T1
    replace E4 := E4.mono U
    replace Mn := U _ _ Mn
    replace E5 := E5.mono U
    replace E6 := E6.mono U
    replace E7 := E7.mono U
    replace T2 := U _ _ T2
    replace E8 := E8.mono U
    replace L := U _ _ L
    clear U
    refine ⟨_, rfl, ?_⟩
    intro a10 G16 U E10
    replace S := S.trans U
    replace R := U _ _ R
    replace Kn := U _ _ Kn
    replace B := U _ _ B
    replace E1 := E1.mono U
    replace E2 := E2.mono U
    replace E3 := E3.mono U
    replace T1 := U _ _ T1
    replace E4 := E4.mono U
    replace Mn := U _ _ Mn
    replace E5 := E5.mono U
    replace E6 := E6.mono U
    replace E7 := E7.mono U
    replace T2 := U _ _ T2
    replace E8 := E8.mono U
    replace L := U _ _ L
    replace E9 := E9.mono U
    clear U
    refine ⟨len_small (by simp), fun q nq => ?_⟩
    have U := up1 (o := .lst [.ref a9, .ref a10]) nq
    have Lq : upd G16 q (.lst [.ref a9, .ref a10]) q = some (.lst [.ref a9, .ref a10]) := upd_same
    replace S := S.trans U
    replace R := U _ _ R
    replace Kn := U _ _ Kn
    replace B := U _ _ B
    replace E1 := E1.mono U
    replace E2 := E2.mono U
    replace E3 := E3.mono U
    replace T1 := U _ _ T1
    replace E4 := E4.mono U
    replace Mn := U _ _ Mn
    replace E5 := E5.mono U
    replace E6 := E6.mono U
    replace E7 := E7.mono U
    replace T2 := U _ _ T2
    replace E8 := E8.mono U
    replace L := U _ _ L
    replace E9 := E9.mono U
    replace E10 := E10.mono U
    clear U nq
    generalize upd G16 q (.lst [.ref a9, .ref a10]) = G17 at *
    refine ⟨_, _, _, _, rfl, rfl, L, Lq, len_small (by simp), fun l2 nl2 => ?_⟩
    have U := up1 (o := .lst ([.ref a5, .ref a6, .ref a7, .ref a8] ++ [.ref a9, .ref a10])) nl2
    have L2f : upd G17 l2 (.lst ([.ref a5, .ref a6, .ref a7, .ref a8] ++ [.ref a9, .ref a10])) l2 = some (.lst ([.ref a5, .ref a6, .ref a7, .ref a8] ++ [.ref a9, .ref a10])) := upd_same
    replace S := S.trans U
    replace R := U _ _ R
    replace Kn := U _ _ Kn
    replace B := U _ _ B
    replace E1 := E1.mono U
    replace E2 := E2.mono U
    replace E3 := E3.mono U
    replace T1 := U _ _ T1
    replace E4 := E4.mono U
    replace Mn := U _ _ Mn
    replace E5 := E5.mono U
    replace E6 := E6.mono U
    replace E7 := E7.mono U
    replace T2 := U _ _ T2
    replace E8 := E8.mono U
    replace L := U _ _ L
    replace E9 := E9.mono U
    replace E10 := E10.mono U
    replace Lq := U _ _ Lq
    clear U nl2
    generalize upd G17 l2 (.lst ([.ref a5, .ref a6, .ref a7, .ref a8] ++ [.ref a9, .ref a10])) = G18 at *
    clear L Lq
    refine ⟨_, rfl, .inl ⟨rfl, _, .inl (.inl R)⟩, _, rfl, r, _, _, rfl, rfl, R, small1000 (by simp), ?_⟩
    replace S := same_at (o := .lst ([.str x] ++ [.int n])) S zr
    replace Kn := keepU (o' := .lst ([.str x] ++ [.int n])) Kn R (by intro z; cases z)
    replace B := keepU (o' := .lst ([.str x] ++ [.int n])) B R (lst_ne (by simp))
    replace E1 := flU (o' := .lst ([.str x] ++ [.int n])) E1 R
    replace E2 := flU (o' := .lst ([.str x] ++ [.int n])) E2 R
    replace E3 := flU (o' := .lst ([.str x] ++ [.int n])) E3 R
    replace T1 := keepU (o' := .lst ([.str x] ++ [.int n])) T1 R (by intro z; cases z)
    replace E4 := flU (o' := .lst ([.str x] ++ [.int n])) E4 R
    replace Mn := keepU (o' := .lst ([.str x] ++ [.int n])) Mn R (lst_ne (by simp))
    replace E5 := flU (o' := .lst ([.str x] ++ [.int n])) E5 R
    replace E6 := flU (o' := .lst ([.str x] ++ [.int n])) E6 R
    replace E7 := flU (o' := .lst ([.str x] ++ [.int n])) E7 R
    replace T2 := keepU (o' := .lst ([.str x] ++ [.int n])) T2 R (by intro z; cases z)
    replace E8 := flU (o' := .lst ([.str x] ++ [.int n])) E8 R
    replace E9 := flU (o' := .lst ([.str x] ++ [.int n])) E9 R
    replace E10 := flU (o' := .lst ([.str x] ++ [.int n])) E10 R
    replace L2f := keepU (o' := .lst ([.str x] ++ [.int n])) L2f R (lst_ne (by simp))
    replace R : upd G18 r (.lst ([.str x] ++ [.int n])) r = some (.lst ([.str x] ++ [.int n])) := upd_same
    generalize upd G18 r (.lst ([.str x] ++ [.int n])) = G19 at *
    refine ⟨_, rfl, k, _, rfl, DPut.k (k := kb) Kn (small1000 (by simp)), ?_⟩
    rw [kab' n]
    replace S := same_at (o := .dK [(ka, .int n), (kb, .non)]) S zk
    replace R := keepU (o' := .dK [(ka, .int n), (kb, .non)]) R Kn (by intro z; cases z)
    replace B := keepU (o' := .dK [(ka, .int n), (kb, .non)]) B Kn (by intro z; cases z)
    replace E1 := flD (o' := .dK [(ka, .int n), (kb, .non)]) E1 Kn
    replace E2 := flD (o' := .dK [(ka, .int n), (kb, .non)]) E2 Kn
    replace E3 := flD (o' := .dK [(ka, .int n), (kb, .non)]) E3 Kn
    replace T1 := keepU (o' := .dK [(ka, .int n), (kb, .non)]) T1 Kn (by intro z; cases z)
    replace E4 := flD (o' := .dK [(ka, .int n), (kb, .non)]) E4 Kn
    replace Mn := keepU (o' := .dK [(ka, .int n), (kb, .non)]) Mn Kn (by intro z; cases z)
    replace E5 := flD (o' := .dK [(ka, .int n), (kb, .non)]) E5 Kn
    replace E6 := flD (o' := .dK [(ka, .int n), (kb, .non)]) E6 Kn
    replace E7 := flD (o' := .dK [(ka, .int n), (kb, .non)]) E7 Kn
    replace T2 := keepU (o' := .dK [(ka, .int n), (kb, .non)]) T2 Kn (by intro z; cases z)
    replace E8 := flD (o' := .dK [(ka, .int n), (kb, .non)]) E8 Kn
    replace E9 := flD (o' := .dK [(ka, .int n), (kb, .non)]) E9 Kn
    replace E10 := flD (o' := .dK [(ka, .int n), (kb, .non)]) E10 Kn
    replace L2f := keepU (o' := .dK [(ka, .int n), (kb, .non)]) L2f Kn (by intro z; cases z)
    replace Kn : upd G19 k (.dK [(ka, .int n), (kb, .non)]) k = some (.dK [(ka, .int n), (kb, .non)]) := upd_same
    generalize upd G19 k (.dK [(ka, .int n), (kb, .non)]) = G20 at *
    refine ⟨_, rfl, .inl ⟨rfl, _, .inl (.inl B)⟩, _, rfl, b, _, _, rfl, rfl, B, small1000 (by simp), ?_⟩
    replace S := same_at (o := .lst ([] ++ [.int n])) S zb
    replace R := keepU (o' := .lst ([] ++ [.int n])) R B (lst_ne (by simp))
    replace Kn := keepU (o' := .lst ([] ++ [.int n])) Kn B (by intro z; cases z)
    replace E1 := flU (o' := .lst ([] ++ [.int n])) E1 B
    replace E2 := flU (o' := .lst ([] ++ [.int n])) E2 B
    replace E3 := flU (o' := .lst ([] ++ [.int n])) E3 B
    replace T1 := keepU (o' := .lst ([] ++ [.int n])) T1 B (by intro z; cases z)
    replace E4 := flU (o' := .lst ([] ++ [.int n])) E4 B
    replace Mn := keepU (o' := .lst ([] ++ [.int n])) Mn B (lst_ne (by simp))
    replace E5 := flU (o' := .lst ([] ++ [.int n])) E5 B
    replace E6 := flU (o' := .lst ([] ++ [.int n])) E6 B
    replace E7 := flU (o' := .lst ([] ++ [.int n])) E7 B
    replace T2 := keepU (o' := .lst ([] ++ [.int n])) T2 B (by intro z; cases z)
    replace E8 := flU (o' := .lst ([] ++ [.int n])) E8 B
    replace E9 := flU (o' := .lst ([] ++ [.int n])) E9 B
    replace E10 := flU (o' := .lst ([] ++ [.int n])) E10 B
    replace L2f := keepU (o' := .lst ([] ++ [.int n])) L2f B (lst_ne (by simp))
    replace B : upd G20 b (.lst ([] ++ [.int n])) b = some (.lst ([] ++ [.int n])) := upd_same
    generalize upd G20 b (.lst ([] ++ [.int n])) = G21 at *
    have X17 := M.xf 0 (by decide)
    have X18 := M.xf 2 (by decide)
    obtain ⟨j1, i1, i1'⟩ := id E1
    refine ⟨_, rfl, a1, _, j1, _, _, rfl, i1, i1', X17.1, X17.2, nameL _, _, rfl, _, rfl, len_small (by simp), fun p1 np1 => ?_⟩
    have U := up1 (o := .lst [.str x, .int n]) np1
    have P1 : upd G21 p1 (.lst [.str x, .int n]) p1 = some (.lst [.str x, .int n]) := upd_same
    replace S := S.trans U
    replace R := U _ _ R
    replace Kn := U _ _ Kn
    replace B := U _ _ B
    replace E1 := E1.mono U
    replace E2 := E2.mono U
    replace E3 := E3.mono U
    replace T1 := U _ _ T1
    replace E4 := E4.mono U
    replace Mn := U _ _ Mn
    replace E5 := E5.mono U
    replace E6 := E6.mono U
    replace E7 := E7.mono U
    replace T2 := U _ _ T2
    replace E8 := E8.mono U
    replace E9 := E9.mono U
    replace E10 := E10.mono U
    replace L2f := U _ _ L2f
    clear U np1
    generalize upd G21 p1 (.lst [.str x, .int n]) = G22 at *
    refine ⟨.list [.str x, .int n], .list [.str x, .int n], .lst (.inl (.inl R)) (.cons (.str _) (.cons (.int _) .nil)), .lst (.inl (.inl P1)) (.cons (.str _) (.cons (.int _) .nil)), sh_ln hx, sh_ln hx, _, rfl, ?_⟩
    rw [eqv_f (sh_ln hx)]
    refine iF (by decide) ?_
    obtain ⟨j2, i2, i2'⟩ := id E2
    refine ⟨_, rfl, a2, _, j2, _, _, rfl, i2, i2', X18.1, X18.2, nameL _, fun p2 np2 => ⟨_, rfl, upd_same, [(ka, .int n), (kb, .non)], rfl, by simp, ?_⟩⟩
    rw [upd_upd, mer2]
    have U := up1 (o := .dK [(ka, .int n), (kb, .non)]) np2
    have P2 : upd G22 p2 (.dK [(ka, .int n), (kb, .non)]) p2 = some (.dK [(ka, .int n), (kb, .non)]) := upd_same
    replace S := S.trans U
    replace R := U _ _ R
    replace Kn := U _ _ Kn
    replace B := U _ _ B
    replace E1 := E1.mono U
    replace E2 := E2.mono U
    replace E3 := E3.mono U
    replace T1 := U _ _ T1
    replace E4 := E4.mono U
    replace Mn := U _ _ Mn
    replace E5 := E5.mono U
    replace E6 := E6.mono U
    replace E7 := E7.mono U
    replace T2 := U _ _ T2
    replace E8 := E8.mono U
    replace E9 := E9.mono U
    replace E10 := E10.mono U
    replace L2f := U _ _ L2f
    replace P1 := U _ _ P1
    clear U np2
    generalize upd G22 p2 (.dK [(ka, .int n), (kb, .non)]) = G23 at *
    refine ⟨k, p2, _, _, rfl, rfl, Kn, P2, rfl, vals2k n, _, rfl, ?_⟩
    refine iF (by decide) ?_
    obtain ⟨j3, i3, i3'⟩ := id E3
    refine ⟨_, rfl, a3, _, j3, _, _, rfl, i3, i3', X17.1, X17.2, nameL _, _, rfl, len_small (by simp), fun p3 np3 => ?_⟩
    have U := up1 (o := .lst [.int n]) np3
    have P3 : upd G23 p3 (.lst [.int n]) p3 = some (.lst [.int n]) := upd_same
    replace S := S.trans U
    replace R := U _ _ R
    replace Kn := U _ _ Kn
    replace B := U _ _ B
    replace E1 := E1.mono U
    replace E2 := E2.mono U
    replace E3 := E3.mono U
    replace T1 := U _ _ T1
    replace E4 := E4.mono U
    replace Mn := U _ _ Mn
    replace E5 := E5.mono U
    replace E6 := E6.mono U
    replace E7 := E7.mono U
    replace T2 := U _ _ T2
    replace E8 := E8.mono U
    replace E9 := E9.mono U
    replace E10 := E10.mono U
    replace L2f := U _ _ L2f
    replace P1 := U _ _ P1
    replace P2 := U _ _ P2
    clear U np3
    generalize upd G23 p3 (.lst [.int n]) = G24 at *
    refine ⟨.list [.int n], .list [.int n], .lst (.inl (.inl B)) (.cons (.int _) .nil), .lst (.inl (.inl P3)) (.cons (.int _) .nil), sh_l1, sh_l1, _, rfl, ?_⟩
    rw [eqv_f sh_l1]
    refine iF (by decide) ?_
    obtain ⟨j4, i4, i4'⟩ := id E4
    refine ⟨_, rfl, a4, _, j4, _, _, rfl, i4, i4', X18.1, X18.2, nameL _, _, rfl, _, rfl, len_small (by simp), fun p4 np4 => ?_⟩
    have U := up1 (o := .lst [.str x, .int n]) np4
    have P4 : upd G24 p4 (.lst [.str x, .int n]) p4 = some (.lst [.str x, .int n]) := upd_same
    replace S := S.trans U
    replace R := U _ _ R
    replace Kn := U _ _ Kn
    replace B := U _ _ B
    replace E1 := E1.mono U
    replace E2 := E2.mono U
    replace E3 := E3.mono U
    replace T1 := U _ _ T1
    replace E4 := E4.mono U
    replace Mn := U _ _ Mn
    replace E5 := E5.mono U
    replace E6 := E6.mono U
    replace E7 := E7.mono U
    replace T2 := U _ _ T2
    replace E8 := E8.mono U
    replace E9 := E9.mono U
    replace E10 := E10.mono U
    replace L2f := U _ _ L2f
    replace P1 := U _ _ P1
    replace P2 := U _ _ P2
    replace P3 := U _ _ P3
    clear U np4
    generalize upd G24 p4 (.lst [.str x, .int n]) = G25 at *
    refine ⟨_, rfl, len_small (by simp), fun p5 np5 => ?_⟩
    have U := up1 (o := .tup [.ref p4, .int n]) np5
    have P5 : upd G25 p5 (.tup [.ref p4, .int n]) p5 = some (.tup [.ref p4, .int n]) := upd_same
    replace S := S.trans U
    replace R := U _ _ R
    replace Kn := U _ _ Kn
    replace B := U _ _ B
    replace E1 := E1.mono U
    replace E2 := E2.mono U
    replace E3 := E3.mono U
    replace T1 := U _ _ T1
    replace E4 := E4.mono U
    replace Mn := U _ _ Mn
    replace E5 := E5.mono U
    replace E6 := E6.mono U
    replace E7 := E7.mono U
    replace T2 := U _ _ T2
    replace E8 := E8.mono U
    replace E9 := E9.mono U
    replace E10 := E10.mono U
    replace L2f := U _ _ L2f
    replace P1 := U _ _ P1
    replace P2 := U _ _ P2
    replace P3 := U _ _ P3
    replace P4 := U _ _ P4
    clear U np5
    generalize upd G25 p5 (.tup [.ref p4, .int n]) = G26 at *
    have DR : ∀ {a : Addr}, G26 a = some (.lst [.str x, .int n]) → Dp K G26 (.ref a) (.list [.str x, .int n]) := fun e => .lst (.inl (.inl e)) (.cons (.str _) (.cons (.int _) .nil))
    refine ⟨.tuple [.list [.str x, .int n], .int n], .tuple [.list [.str x, .int n], .int n], .tup (.inl (.inl T1)) (.cons (DR R) (.cons (.int _) .nil)), .tup (.inl (.inl P5)) (.cons (DR P4) (.cons (.int _) .nil)), sh_t hx, sh_t hx, _, rfl, ?_⟩
    rw [eqv_f (sh_t hx)]
    refine iF (by decide) ?_
    clear DR
    refine ⟨_, rfl, _, rfl, len_small (by simp), fun p6 np6 => ?_⟩
    have U := up1 (o := .lst [.str "b", .str x, .str "a", .str "b"]) np6
    have P6 : upd G26 p6 (.lst [.str "b", .str x, .str "a", .str "b"]) p6 = some (.lst [.str "b", .str x, .str "a", .str "b"]) := upd_same
    replace S := S.trans U
    replace R := U _ _ R
    replace Kn := U _ _ Kn
    replace B := U _ _ B
    replace E1 := E1.mono U
    replace E2 := E2.mono U
    replace E3 := E3.mono U
    replace T1 := U _ _ T1
    replace E4 := E4.mono U
    replace Mn := U _ _ Mn
    replace E5 := E5.mono U
    replace E6 := E6.mono U
    replace E7 := E7.mono U
    replace T2 := U _ _ T2
    replace E8 := E8.mono U
    replace E9 := E9.mono U
    replace E10 := E10.mono U
    replace L2f := U _ _ L2f
    replace P1 := U _ _ P1
    replace P2 := U _ _ P2
    replace P3 := U _ _ P3
    replace P4 := U _ _ P4
    replace P5 := U _ _ P5
    clear U np6
    generalize upd G26 p6 (.lst [.str "b", .str x, .str "a", .str "b"]) = G27 at *
    refine ⟨.list [.str "b", .str x, .str "a", .str "b"], .list [.str "b", .str x, .str "a", .str "b"], .lst (.inl (.inl Mn)) (.cons (.str _) (.cons (.str _) (.cons (.str _) (.cons (.str _) .nil)))), .lst (.inl (.inl P6)) (.cons (.str _) (.cons (.str _) (.cons (.str _) (.cons (.str _) .nil)))), sh_m hx, sh_m hx, _, rfl, ?_⟩
    rw [eqv_f (sh_m hx)]
    refine iF (by decide) ?_
    clear P1
    clear P2
    clear P3
    clear P4
    clear P5
    clear P6
    clear E1
    clear E2
    clear E3
    clear E4
    refine ⟨_, rfl, _, rfl, len_small (by simp), fun d1 nd1 => ?_⟩
    have U := up1 (o := .lst [.str x, .int n]) nd1
    have D1 : upd G27 d1 (.lst [.str x, .int n]) d1 = some (.lst [.str x, .int n]) := upd_same
    replace S := S.trans U
    replace R := U _ _ R
    replace Kn := U _ _ Kn
    replace B := U _ _ B
    replace T1 := U _ _ T1
    replace Mn := U _ _ Mn
    replace E5 := E5.mono U
    replace E6 := E6.mono U
    replace E7 := E7.mono U
    replace T2 := U _ _ T2
    replace E8 := E8.mono U
    replace E9 := E9.mono U
    replace E10 := E10.mono U
    replace L2f := U _ _ L2f
    clear U nd1
    generalize upd G27 d1 (.lst [.str x, .int n]) = G28 at *
    refine ⟨_, rfl, len_small (by simp), fun d2 nd2 => ?_⟩
    have U := up1 (o := .lst [.int n]) nd2
    have D2 : upd G28 d2 (.lst [.int n]) d2 = some (.lst [.int n]) := upd_same
    replace S := S.trans U
    replace R := U _ _ R
    replace Kn := U _ _ Kn
    replace B := U _ _ B
    replace T1 := U _ _ T1
    replace Mn := U _ _ Mn
    replace E5 := E5.mono U
    replace E6 := E6.mono U
    replace E7 := E7.mono U
    replace T2 := U _ _ T2
    replace E8 := E8.mono U
    replace E9 := E9.mono U
    replace E10 := E10.mono U
    replace L2f := U _ _ L2f
    replace D1 := U _ _ D1
    clear U nd2
    generalize upd G28 d2 (.lst [.int n]) = G29 at *
    refine fun d3 nd3 => ⟨_, rfl, upd_same, [(ka, .int n), (kb, .non)], rfl, by simp, ?_⟩
    rw [upd_upd, mer2]
    have U := up1 (o := .dK [(ka, .int n), (kb, .non)]) nd3
    have D3 : upd G29 d3 (.dK [(ka, .int n), (kb, .non)]) d3 = some (.dK [(ka, .int n), (kb, .non)]) := upd_same
    replace S := S.trans U
    replace R := U _ _ R
    replace Kn := U _ _ Kn
    replace B := U _ _ B
    replace T1 := U _ _ T1
    replace Mn := U _ _ Mn
    replace E5 := E5.mono U
    replace E6 := E6.mono U
    replace E7 := E7.mono U
    replace T2 := U _ _ T2
    replace E8 := E8.mono U
    replace E9 := E9.mono U
    replace E10 := E10.mono U
    replace L2f := U _ _ L2f
    replace D1 := U _ _ D1
    replace D2 := U _ _ D2
    clear U nd3
    generalize upd G29 d3 (.dK [(ka, .int n), (kb, .non)]) = G30 at *
    refine ⟨_, rfl, _, rfl, len_small (by simp), fun d4 nd4 => ?_⟩
    have U := up1 (o := .lst [.str x, .int n]) nd4
    have D4 : upd G30 d4 (.lst [.str x, .int n]) d4 = some (.lst [.str x, .int n]) := upd_same
    replace S := S.trans U
    replace R := U _ _ R
    replace Kn := U _ _ Kn
    replace B := U _ _ B
    replace T1 := U _ _ T1
    replace Mn := U _ _ Mn
    replace E5 := E5.mono U
    replace E6 := E6.mono U
    replace E7 := E7.mono U
    replace T2 := U _ _ T2
    replace E8 := E8.mono U
    replace E9 := E9.mono U
    replace E10 := E10.mono U
    replace L2f := U _ _ L2f
    replace D1 := U _ _ D1
    replace D2 := U _ _ D2
    replace D3 := U _ _ D3
    clear U nd4
    generalize upd G30 d4 (.lst [.str x, .int n]) = G31 at *
    refine ⟨_, rfl, len_small (by simp), fun d5 nd5 => ?_⟩
    have U := up1 (o := .tup [.ref d4, .int n]) nd5
    have D5 : upd G31 d5 (.tup [.ref d4, .int n]) d5 = some (.tup [.ref d4, .int n]) := upd_same
    replace S := S.trans U
    replace R := U _ _ R
    replace Kn := U _ _ Kn
    replace B := U _ _ B
    replace T1 := U _ _ T1
    replace Mn := U _ _ Mn
    replace E5 := E5.mono U
    replace E6 := E6.mono U
    replace E7 := E7.mono U
    replace T2 := U _ _ T2
    replace E8 := E8.mono U
    replace E9 := E9.mono U
    replace E10 := E10.mono U
    replace L2f := U _ _ L2f
    replace D1 := U _ _ D1
    replace D2 := U _ _ D2
    replace D3 := U _ _ D3
    replace D4 := U _ _ D4
    clear U nd5
    generalize upd G31 d5 (.tup [.ref d4, .int n]) = G32 at *
    refine ⟨len_small (by simp), fun du ndu => ?_⟩
    have U := up1 (o := .lst [.ref d1, .ref d2, .ref d3, .ref d5]) ndu
    have Du : upd G32 du (.lst [.ref d1, .ref d2, .ref d3, .ref d5]) du = some (.lst [.ref d1, .ref d2, .ref d3, .ref d5]) := upd_same
    replace S := S.trans U
    replace R := U _ _ R
    replace Kn := U _ _ Kn
    replace B := U _ _ B
    replace T1 := U _ _ T1
    replace Mn := U _ _ Mn
    replace E5 := E5.mono U
    replace E6 := E6.mono U
    replace E7 := E7.mono U
    replace T2 := U _ _ T2
    replace E8 := E8.mono U
    replace E9 := E9.mono U
    replace E10 := E10.mono U
    replace L2f := U _ _ L2f
    replace D1 := U _ _ D1
    replace D2 := U _ _ D2
    replace D3 := U _ _ D3
    replace D4 := U _ _ D4
    replace D5 := U _ _ D5
    clear U ndu
    generalize upd G32 du (.lst [.ref d1, .ref d2, .ref d3, .ref d5]) = G33 at *
    have hS : SqL K G33 l2 [.ref a5, .ref a6, .ref a7, .ref a8, .ref a9, .ref a10] := .inl (.inl L2f)
    have hN : ∀ (i : Nat) (y : V), ([.ref a5, .ref a6, .ref a7, .ref a8, .ref a9, .ref a10] : List V)[i]? = some y → ∃ (a j : Addr), y = .ref a ∧ Fl G33 a (c (17 + j / 2)) (([.ref r, .ref b, .ref k, .ref t2, .ref m, .ref m] : List V).getD i .non) ∧ j < 4 := by
      intro i y e
      match i, e with
      | 0, e => exact ⟨a5, 2, by simpa using e.symm, E5, by decide⟩
      | 1, e => exact ⟨a6, 2, by simpa using e.symm, E6, by decide⟩
      | 2, e => exact ⟨a7, 0, by simpa using e.symm, E7, by decide⟩
      | 3, e => exact ⟨a8, 0, by simpa using e.symm, E8, by decide⟩
      | 4, e => exact ⟨a9, 0, by simpa using e.symm, E9, by decide⟩
      | 5, e => exact ⟨a10, 2, by simpa using e.symm, E10, by decide⟩
      | i + 6, e => simp at e
    refine ⟨_, rfl, l2, rfl, ⟨_, hS⟩, fun D nD => ?_⟩
    refine lc_list (K := K) (a := l2) (xs := [.ref a5, .ref a6, .ref a7, .ref a8, .ref a9, .ref a10]) (fun i Hc => Same G33 Hc ∧ Hc D = some (.lst (([.ref r, .ref b, .ref k, .ref t2, .ref m, .ref m] : List V).take i))) ⟨up1 nD, upd_same⟩ (fun i Hc _ ⟨s, _⟩ => s.seq hS) ?_ ?_
    · rintro i y Hc hi ⟨Sc, Lc⟩
      obtain ⟨a, j, rfl, hF, hj⟩ := hN i y hi
      have i6 : i < 6 := (List.getElem?_eq_some_iff.mp hi).1
      obtain ⟨dx, e1, e2⟩ := hF.mono Sc
      obtain ⟨X1, X2⟩ := M.xf j hj
      refine ⟨rfl, ?_⟩
      refine ⟨_, rfl, a, _, dx, _, _, rfl, e1, e2, X1, X2, nameL _, _, Lc, small1000 (by simp; omega), same_at Sc nD, ?_⟩
      rw [upd_same]
      congr 2
      match i, i6 with
      | 0, _ => rfl
      | 1, _ => rfl
      | 2, _ => rfl
      | 3, _ => rfl
      | 4, _ => rfl
      | 5, _ => rfl
    · rintro Hc ⟨Sc, Lc⟩
      replace Lc : Hc D = some (.lst [.ref r, .ref b, .ref k, .ref t2, .ref m, .ref m]) := Lc
      replace S := S.trans Sc
      replace R := Sc _ _ R
      replace Kn := Sc _ _ Kn
      replace B := Sc _ _ B
      replace Mn := Sc _ _ Mn
      replace T2 := Sc _ _ T2
      replace D1 := Sc _ _ D1
      replace D2 := Sc _ _ D2
      replace D3 := Sc _ _ D3
      replace D4 := Sc _ _ D4
      replace D5 := Sc _ _ D5
      replace Du := Sc _ _ Du
      refine ⟨_, rfl, _, rfl, len_small (by simp), fun f1 nf1 => ?_⟩
      have U := up1 (o := .lst [.str "b", .str x, .str "a", .str "b"]) nf1
      have F1 : upd Hc f1 (.lst [.str "b", .str x, .str "a", .str "b"]) f1 = some (.lst [.str "b", .str x, .str "a", .str "b"]) := upd_same
      replace S := S.trans U
      replace R := U _ _ R
      replace Kn := U _ _ Kn
      replace B := U _ _ B
      replace Mn := U _ _ Mn
      replace T2 := U _ _ T2
      replace D1 := U _ _ D1
      replace D2 := U _ _ D2
      replace D3 := U _ _ D3
      replace D4 := U _ _ D4
      replace D5 := U _ _ D5
      replace Du := U _ _ Du
      replace Lc := U _ _ Lc
      clear U nf1
      generalize upd Hc f1 (.lst [.str "b", .str x, .str "a", .str "b"]) = G34 at *
      refine ⟨_, rfl, len_small (by simp), fun f2 nf2 => ?_⟩
      have U := up1 (o := .lst [.str "b", .str x, .str "a", .str "b"]) nf2
      have F2 : upd G34 f2 (.lst [.str "b", .str x, .str "a", .str "b"]) f2 = some (.lst [.str "b", .str x, .str "a", .str "b"]) := upd_same
      replace S := S.trans U
      replace R := U _ _ R
      replace Kn := U _ _ Kn
      replace B := U _ _ B
      replace Mn := U _ _ Mn
      replace T2 := U _ _ T2
      replace D1 := U _ _ D1
      replace D2 := U _ _ D2
      replace D3 := U _ _ D3
      replace D4 := U _ _ D4
      replace D5 := U _ _ D5
      replace Du := U _ _ Du
      replace Lc := U _ _ Lc
      replace F1 := U _ _ F1
      clear U nf2
      generalize upd G34 f2 (.lst [.str "b", .str x, .str "a", .str "b"]) = G35 at *
      refine ⟨len_small (by simp), fun g ng => ?_⟩
      have U := up1 (o := .lst [.ref f1, .ref f2]) ng
      have Gg : upd G35 g (.lst [.ref f1, .ref f2]) g = some (.lst [.ref f1, .ref f2]) := upd_same
      replace S := S.trans U
      replace R := U _ _ R
      replace Kn := U _ _ Kn
      replace B := U _ _ B
      replace Mn := U _ _ Mn
      replace T2 := U _ _ T2
      replace D1 := U _ _ D1
      replace D2 := U _ _ D2
      replace D3 := U _ _ D3
      replace D4 := U _ _ D4
      replace D5 := U _ _ D5
      replace Du := U _ _ Du
      replace Lc := U _ _ Lc
      replace F1 := U _ _ F1
      replace F2 := U _ _ F2
      clear U ng
      generalize upd G35 g (.lst [.ref f1, .ref f2]) = G36 at *
      refine ⟨_, _, _, _, rfl, rfl, Du, Gg, len_small (by simp), fun g2 ng2 => ?_⟩
      have U := up1 (o := .lst ([.ref d1, .ref d2, .ref d3, .ref d5] ++ [.ref f1, .ref f2])) ng2
      have G2g : upd G36 g2 (.lst ([.ref d1, .ref d2, .ref d3, .ref d5] ++ [.ref f1, .ref f2])) g2 = some (.lst ([.ref d1, .ref d2, .ref d3, .ref d5] ++ [.ref f1, .ref f2])) := upd_same
      replace S := S.trans U
      replace R := U _ _ R
      replace Kn := U _ _ Kn
      replace B := U _ _ B
      replace Mn := U _ _ Mn
      replace T2 := U _ _ T2
      replace D1 := U _ _ D1
      replace D2 := U _ _ D2
      replace D3 := U _ _ D3
      replace D4 := U _ _ D4
      replace D5 := U _ _ D5
      replace Du := U _ _ Du
      replace Lc := U _ _ Lc
      replace F1 := U _ _ F1
      replace F2 := U _ _ F2
      replace Gg := U _ _ Gg
      clear U ng2
      generalize upd G36 g2 (.lst ([.ref d1, .ref d2, .ref d3, .ref d5] ++ [.ref f1, .ref f2])) = G37 at *
      have DR : ∀ {a : Addr}, G37 a = some (.lst [.str x, .int n]) → Dp K G37 (.ref a) (.list [.str x, .int n]) := fun e => .lst (.inl (.inl e)) (.cons (.str _) (.cons (.int _) .nil))
      have DM : ∀ {a : Addr}, G37 a = some (.lst [.str "b", .str x, .str "a", .str "b"]) → Dp K G37 (.ref a) (.list [.str "b", .str x, .str "a", .str "b"]) := fun e => .lst (.inl (.inl e)) (.cons (.str _) (.cons (.str _) (.cons (.str _) (.cons (.str _) .nil))))
      refine ⟨D, g2, _, _, rfl, rfl, .inl (.inl Lc), .inl (.inl G2g), ?_, _, rfl, ?_⟩
      · refine .cons (.inl ⟨_, DR R, DR D1, sh_ln hx⟩) (.cons (.inl ⟨.list [.int n], .lst (.inl (.inl B)) (.cons (.int _) .nil), .lst (.inl (.inl D2)) (.cons (.int _) .nil), sh_l1⟩) (.cons (.inr ⟨_, _, _, _, rfl, rfl, Kn, D3, rfl, fun p hp => ⟨p.2, (vals2k n p hp).1, rfl, (vals2k n p hp).2⟩⟩)
          (.cons (.inl ⟨_, .tup (.inl (.inl T2)) (.cons (DR R) (.cons (.int _) .nil)), .tup (.inl (.inl D5)) (.cons (DR D4) (.cons (.int _) .nil)), sh_t hx⟩) (.cons (.inl ⟨_, DM Mn, DM F1, sh_m hx⟩) (.cons (.inl ⟨_, DM Mn, DM F2, sh_m hx⟩) .nil)))))
      · refine iF (by decide) ?_
        exact h _ S
end
end L54
namespace L54
open PySem PySem.Spec PyProof.Rows L2
section
variable {X : Cx} {C fI : Addr} {x : Str} {p pos : Pos} {fd : FuncData} {k : Nat}
theorem pe_mA0 (n : ExF X.K X.mg x C fI) (b : BindI X.K fd) (G : FnOk X.prog X.w X.K X.mg X.base CX0 k fI fd ["self", "name"] (spI X.K C)) (hr : Room (k + 1) X.A) (hg : Gl X x := by rfl) (hdb : (x == ("__debug__" : Str)) = false := by decide) :
    PE X (.Call (.Name x p) [] [] pos) (fun _ H Q => madeA C .non H Q) := by
  refine ⟨fun pins s σ H Q I h => ?_⟩
  refine wpAny_Call_Name_kw (ld_glob I hg n.g ?_ hdb)
  exact PySem.W.callWith_K0 I.kIn n.o.kC (runI (us := []) (v := .non) n G hr I rfl (Nat.zero_le _) b.b0 fun a dx h1 h2 h3 => h a _ (mH_same h1 h2) (mH_fl h3))
/-- text * n -/
def rRepS : R2 := fun x y H Q => ∃ (z : Str) (n : Int), x = .str z ∧ y = .int n ∧ 2 ≤ n ∧ n ≤ 1000 ∧ z.length ≤ 1000 ∧ ∀ r : Str, r.length = n.toNat * z.length → (∀ c ∈ r.cps.toList, c ∈ z.cps.toList) → Q (.str r) H
theorem repl_len : ∀ (m : Nat) (z acc : Array Nat), ((List.replicate m z).foldl (· ++ ·) acc).size = acc.size + m * z.size
  | 0, z, acc => by simp
  | m + 1, z, acc => by
    rw [List.replicate_succ, List.foldl_cons, repl_len m z (acc ++ z), Array.size_append, Nat.succ_mul]
    omega
theorem repl_mem : ∀ (m : Nat) (z acc : Array Nat) (c : Nat), c ∈ ((List.replicate m z).foldl (· ++ ·) acc).toList → c ∈ acc.toList ∨ c ∈ z.toList
  | 0, z, acc, c, h => .inl h
  | m + 1, z, acc, c, h => by
    rw [List.replicate_succ, List.foldl_cons] at h
    rcases repl_mem m z (acc ++ z) c h with h | h
    · rw [Array.toList_append] at h
      exact List.mem_append.mp h
    · exact .inr h
theorem op_repS : OpR X (binaryOp .Mult) rRepS := by
  intro pins s σ H x y v u Q I rx ry h
  obtain ⟨z, n, rfl, rfl, n1, n2, hz, q⟩ := h
  obtain ⟨t, rfl⟩ := rx
  obtain ⟨t', rfl⟩ := ry
  have hb : ¬ ((z.length : Int) > (2 ^ 63 - 1) / n) := by
    have : (1000 : Int) ≤ (2 ^ 63 - 1) / n := by
      rw [Int.le_ediv_iff_mul_le (by omega)]
      omega
    omega
  have hl : Builtin.Str.tooLong (z.length * n.toNat) = false := by
    have h1 : z.length * n.toNat ≤ 1000 * 1000 := Nat.mul_le_mul hz (by omega)
    have h2 : z.length * n.toNat ≤ sizeLine := by rw [sizeLine_eq]; omega
    unfold Builtin.Str.tooLong
    first
      | exact decide_eq_false (by omega)
      | simpa using h2
  refine PySem.P.mul_str (by have a : ¬ n < -(2 ^ 63 : Int) := by omega
                             have b : ¬ n ≥ 2 ^ 63 := by omega
                             rw [decide_eq_false a, decide_eq_false b]; rfl) (fun _ _ => hb) (fun _ _ => hl) ?_
  rw [if_neg (by omega)]
  by_cases hc : (n == 1 || z.length == 0) = true
  · rw [if_pos hc]
    have h0 : z.length = 0 := by
      rcases Bool.or_eq_true_iff.mp hc with e | e
      · exact absurd (eq_of_beq e) (by omega)
      · exact eq_of_beq e
    exact ⟨.str z, H, I, ⟨t, rfl⟩, q z (by rw [h0]; simp) fun _ h => h⟩
  · rw [if_neg hc]
    have e1 : (⟨(List.replicate n.toNat z.cps).foldl (· ++ ·) #[]⟩ : Str).length = n.toNat * z.length := by
      show ((List.replicate n.toNat z.cps).foldl (· ++ ·) #[]).size = _
      rw [repl_len]
      simp [Str.length]
    refine ⟨?_, .str _, H, I.tok _, ⟨_, rfl⟩, q _ e1 fun c hm => ?_⟩
    · first
        | (have h1 : n.toNat * z.length ≤ 1000 * 1000 := Nat.mul_le_mul (by omega) hz
           rw [e1, sizeLine_eq]; omega)
        | skip
    · rcases repl_mem _ _ _ _ hm with e | e
      · cases e
      · exact e
/-- tuple(text) -/
def rTupS : List V → Hp → VK → Prop := fun xs H Q => ∃ z : Str, xs = [.str z] ∧ z.length ≤ 1000 ∧ ∀ p, H p = none → Q (.ref p) (upd H p (.tup (z.cps.toList.map fun c => V.str ⟨#[c]⟩)))
theorem signs54 : ∀ (l : List Nat) (us : List Value), l.length = us.length → (∀ (j : Nat) (v : Value), us[j]? = some v → ∃ c u, l[j]? = some c ∧ v = .str ⟨#[c]⟩ u) → Vals (l.map fun c => V.str ⟨#[c]⟩) us
  | [], [], _, _ => .nil
  | [], _ :: _, h, _ => by cases h
  | _ :: _, [], h, _ => by cases h
  | c :: l, v :: us, h, f => by
    obtain ⟨c', u, e1, e2⟩ := f 0 v rfl
    obtain rfl : c = c' := by simpa using e1
    exact .cons ⟨u, e2⟩ (signs54 l us (Nat.succ.inj h) fun j v' e => f (j + 1) v' (by simpa using e))
theorem call_tupS (hc : X.calm = true) : CallR X (.type "tuple") rTupS := by
  intro pins s σ H xs us Q I r h
  obtain ⟨z, rfl, hz, q⟩ := h
  cases r with
  | @cons _ u _ ur r0 rr =>
    cases rr
    obtain ⟨t, rfl⟩ := r0
    refine call_tuple_str (I.ok.hd hc) z t (fun h' tk acc k ha => ?_) (Nat.le_trans hz (by rw [sizeLine_eq]; omega))
    have I1 := I.kept (t' := tk) k
    have hv : Vals (z.cps.toList.map fun c => V.str ⟨#[c]⟩) acc.toList := signs54 _ _ (by rw [Array.length_toList, Array.length_toList, ha.1]) fun j v e => by
      obtain ⟨c, u, e1, e2⟩ := ha.2 j v (by simpa using e)
      exact ⟨c, u, by simpa using e1, e2⟩
    have ob : ObjOk X.prog X.w (upd H h'.objs.size (.tup (z.cps.toList.map fun c => V.str ⟨#[c]⟩))) (h'.push { cls := .type "tuple", data := .seq acc }) h'.objs.size (.tup (z.cps.toList.map fun c => V.str ⟨#[c]⟩)) := by
      refine ⟨by rw [List.length_map, Array.length_toList]; exact Nat.le_trans hz (by rw [sizeLine_eq]; omega), acc.toList, hv, _, Heap.get?_push_size _ rfl, rfl, _, by simp; rfl⟩
    have n0 : H h'.objs.size = none := I1.hok.fresh (Nat.le_refl _)
    exact ⟨.ref h'.objs.size, _, I1.laid (t' := tk) (fun b o e => Heap.get?_push_of_some _ e) (Nat.le_refl _) ob, rfl, q _ n0⟩
/-! ### ValueError('x'), asked by isinstance -/
def vex (a : Addr) : HO := .ext fun h => ∃ o, h.get? a = some o ∧ o.cls = .type "ValueError"
theorem pe_ve {m : Str} {j : Nat} {p2 : Pos} (hm : X.mg "ValueError" = none) (hg : Gl X "ValueError" := by rfl) :
    PE X (.Call (.Name "ValueError" p) [.Constant (.str m) j p2] [] pos) (fun _ H Q => ∀ a, H a = none → Q (.ref a) (upd H a (vex a))) := by
  refine ⟨fun pins s σ H Q I h => ?_⟩
  refine wpAny_Call_Name_kw (ld_blt I hg hm b_VE ?_ (by decide) (by decide))
  have ha : PA X [.Constant (.str m) j p2] (tCons (tC (.str m)) tNil) := pa_cons pe_str pa_nil
  refine PyProof.Rows.callWith_type1 (thn (ha.run pos pins s σ H (fun vs H1 => vs = [.str m] ∧ H1 = H) I ⟨rfl, rfl⟩) fun us s1 hh => ?_) rfl rfl
  obtain ⟨vs, H1, I1, r1, rfl, rfl⟩ := hh
  obtain ⟨hp1, g1, d1, tk1, os1⟩ := s1
  refine wpAny_call_exc exb_ValueError.call (fun h' a mk => ?_) (by rw [← r1.length]; show 1 ≤ sizeLine; rw [sizeLine_eq]; omega)
  have n0 : H1 a = none := I1.hok.gone mk.new
  obtain ⟨t0, e1, _, _⟩ := mk.there
  refine ⟨.ref a, upd H1 a (vex a), I1.laidN mk.keeps mk.new n0 ?_, rfl, h a n0⟩
  exact ⟨⟨_, e1, rfl⟩, ⟨_, e1⟩, fun h1 h2 ⟨o, q1, q2⟩ kk => ⟨o, kk o q1, q2⟩⟩
def rIsV (K : PySem.W.Frag) : List V → Hp → VK → Prop := fun xs H Q => ∃ (a C : Addr) (b : Bool), xs = [.ref a, .ref C] ∧ H a = some (vex a) ∧ PySem.W.kitOne K (.type "ValueError") (.ref C) = some b ∧ Q (.bl b) H
theorem lkVE : typeLookup (.type "ValueError") "__class__" = pure (some (.builtin "object.__class__")) := by rw [typeLookup_type, builtinLookup_eq_fast]; kernel_rfl
theorem soVE : isSubtype (.type "ValueError") (.type (".".intercalate ("object.__class__".cutAt '.').dropLast)) = pure true := by rw [isSubtype_type]; kernel_rfl
theorem call_isV : CallR X (.builtin "isinstance") (rIsV X.K) := by
  intro pins s σ H xs us Q I r h
  obtain ⟨a, C, b, rfl, ha, e, q⟩ := h
  obtain ⟨u1, u2, rfl, r1, r2⟩ := vals2 r
  cases r1
  cases r2
  obtain ⟨⟨o, e1, e2⟩, _, _⟩ := (show ObjOk X.prog X.w H s.heap a (vex a) from I.hok a _ ha)
  exact PySem.W.kia_one (PySem.W.kitx_bexc PySem.F.attr_ValueError lkVE soVE (by decide)) I.kIn ⟨o, e1, e2⟩ e (fun z => nomatch z) fun tk => ⟨.bl b, H, I.tok tk, rfl, q⟩
end
end L54
namespace L54
open PySem PySem.Spec PyProof.Rows L2
/-! ### data that is shown in little room -/
structure Ok (m w : Nat) (d : PyData) : Prop where
  sh : d.showable = true
  hd : d.hasDict = false
  cl : d.canLay0 = true
  dp : d.depth ≤ m
  lv : d.leavesShort 2000 = true
  wt : d.weight ≤ w
structure OkAll (m w : Nat) (ds : List PyData) : Prop where
  sh : PyData.showableAll ds = true
  hd : PyData.hasDictAll ds = false
  cl : PyData.canLayAll0 ds = true
  dp : PyData.depthAll ds ≤ m
  lv : PyData.leavesShortAll 2000 ds = true
  wt : PyData.weightAll ds ≤ (w + 1) * ds.length
theorem OkAll.nil {m w : Nat} : OkAll m w [] := ⟨rfl, rfl, rfl, Nat.zero_le _, rfl, Nat.zero_le _⟩
theorem OkAll.cons {m w : Nat} {d : PyData} {ds : List PyData} (h : Ok m w d) (t : OkAll m w ds) : OkAll m w (d :: ds) := by
  refine ⟨?_, ?_, ?_, ?_, ?_, ?_⟩
  · simp [PyData.showableAll, h.sh, t.sh]
  · simp [PyData.hasDictAll, h.hd, t.hd]
  · simp [PyData.canLayAll0, h.cl, t.cl]
  · have a := h.dp
    have b := t.dp
    simp only [PyData.depthAll]
    omega
  · simp [PyData.leavesShortAll, h.lv, t.lv]
  · have a := h.wt
    have b := t.wt
    simp only [PyData.weightAll, List.length_cons, Nat.mul_succ]
    omega
theorem OkAll.list {m w : Nat} {ds : List PyData} (t : OkAll m w ds) : Ok (m + 1) ((w + 1) * ds.length) (.list ds) := by
  refine ⟨?_, ?_, ?_, ?_, ?_, ?_⟩
  · simpa [PyData.showable] using t.sh
  · simpa [PyData.hasDict] using t.hd
  · simpa [PyData.canLay0] using t.cl
  · have := t.dp
    simp only [PyData.depth]
    omega
  · simpa [PyData.leavesShort] using t.lv
  · simpa [PyData.weight] using t.wt
theorem OkAll.tuple {m w : Nat} {ds : List PyData} (t : OkAll m w ds) : Ok (m + 1) ((w + 1) * ds.length) (.tuple ds) := by
  refine ⟨?_, ?_, ?_, ?_, ?_, ?_⟩
  · simpa [PyData.showable] using t.sh
  · simpa [PyData.hasDict] using t.hd
  · simpa [PyData.canLay0] using t.cl
  · have := t.dp
    simp only [PyData.depth]
    omega
  · simpa [PyData.leavesShort] using t.lv
  · simpa [PyData.weight] using t.wt
def Gq (K : PySem.W.Frag) (m w : Nat) (H : Hp) (v : V) : Prop := ∃ d, Dp K H v d ∧ Ok m w d
theorem Gq.mono {K : PySem.W.Frag} {m w : Nat} {H H' : Hp} {v : V} (h : Gq K m w H v) (s : Same H H') : Gq K m w H' v := by
  obtain ⟨d, h1, h2⟩ := h
  exact ⟨d, dpMono s d v h1, h2⟩
theorem Gq.up {K : PySem.W.Frag} {m w m' w' : Nat} {H : Hp} {v : V} (h : Gq K m w H v) (hm : m ≤ m') (hw : w ≤ w') : Gq K m' w' H v := by
  obtain ⟨d, h1, h2⟩ := h
  exact ⟨d, h1, h2.sh, h2.hd, h2.cl, Nat.le_trans h2.dp hm, h2.lv, Nat.le_trans h2.wt hw⟩
theorem gq_all {K : PySem.W.Frag} {m w : Nat} {H : Hp} : ∀ {xs : List V}, (∀ x ∈ xs, Gq K m w H x) → ∃ ds, DpAll K H xs ds ∧ OkAll m w ds ∧ ds.length = xs.length
  | [], _ => ⟨[], .nil, .nil, rfl⟩
  | x :: xs, h => by
    obtain ⟨d, h1, h2⟩ := h x List.mem_cons_self
    obtain ⟨ds, t1, t2, t3⟩ := gq_all (xs := xs) fun y hy => h y (List.mem_cons_of_mem _ hy)
    exact ⟨d :: ds, .cons h1 t1, .cons h2 t2, by simp [t3]⟩
theorem gq_lst {K : PySem.W.Frag} {m w : Nat} {H : Hp} {p : Addr} {xs : List V} (h : ∀ x ∈ xs, Gq K m w H x) (n : H p = none) : Gq K (m + 1) ((w + 1) * xs.length) (upd H p (.lst xs)) (.ref p) := by
  obtain ⟨ds, t1, t2, t3⟩ := gq_all h
  refine ⟨.list ds, .lst (.inl (.inl upd_same)) (dpMonoAll (up1 n) _ _ t1), ?_⟩
  rw [← t3]
  exact t2.list
theorem gq_seqT {K : PySem.W.Frag} {m w : Nat} {H : Hp} {p : Addr} {xs : List V} (h : ∀ x ∈ xs, Gq K m w H x) (n : SqT K H p xs) : Gq K (m + 1) ((w + 1) * xs.length) H (.ref p) := by
  obtain ⟨ds, t1, t2, t3⟩ := gq_all h
  refine ⟨.tuple ds, .tup n t1, ?_⟩
  rw [← t3]
  exact t2.tuple
theorem gq_tup {K : PySem.W.Frag} {m w : Nat} {H : Hp} {p : Addr} {xs : List V} (h : ∀ x ∈ xs, Gq K m w H x) (n : H p = none) : Gq K (m + 1) ((w + 1) * xs.length) (upd H p (.tup xs)) (.ref p) :=
  gq_seqT (fun x hx => (h x hx).mono (up1 n)) (.inl (.inl upd_same))
/-- good for str() and != -/
def Gd (K : PySem.W.Frag) (H : Hp) (v : V) : Prop := ∃ d, Dt K H v d ∧ small d
theorem Gd.mono {K : PySem.W.Frag} {H H' : Hp} {v : V} (h : Gd K H v) (s : Same H H') : Gd K H' v := by
  obtain ⟨d, h1, h2⟩ := h
  exact ⟨d, h1.mono s, h2⟩
theorem Gq.gd {K : PySem.W.Frag} {m w : Nat} {H : Hp} {v : V} (h : Gq K m w H v) (hm : m ≤ 40) (hw : w ≤ 2000) : Gd K H v := by
  obtain ⟨d, h1, h2⟩ := h
  have a := h2.dp
  refine ⟨d, .of h1 h2.hd ?_, h2.sh, by omega, h2.lv, Nat.le_trans h2.wt hw⟩
  simp only [SeqAt.shaped, h2.cl, Bool.true_and]
  exact decide_eq_true (by omega)
theorem gq_non {K : PySem.W.Frag} {H : Hp} : Gq K 0 0 H .non := ⟨.none, .non, rfl, rfl, rfl, Nat.le_refl _, rfl, Nat.le_refl _⟩
theorem gq_bl {K : PySem.W.Frag} {H : Hp} {b : Bool} : Gq K 0 0 H (.bl b) := ⟨.bool b, .bl b, rfl, rfl, rfl, Nat.le_refl _, rfl, Nat.le_refl _⟩
/-- a text of at most k plain signs -/
def Tx (k : Nat) (z : Str) : Prop := z.length ≤ k ∧ ∀ c ∈ z.cps.toList, c < 128
theorem Tx.ok {k : Nat} {z : Str} (h : Tx k z) : PyData.strOk z = true := by
  unfold PyData.strOk
  rw [Array.all_eq_true']
  intro c hc
  exact decide_eq_true (Nat.lt_trans (h.2 c (by simpa using hc)) (by decide))
theorem gq_str {K : PySem.W.Frag} {H : Hp} {k : Nat} {z : Str} (h : Tx k z) : Gq K 0 k H (.str z) := by
  refine ⟨.str z, .str z, rfl, rfl, ?_, Nat.le_refl _, ?_, h.1⟩
  · simpa [PyData.canLay0] using h.ok
  · simp only [PyData.leavesShort]
    rw [List.all_eq_true]
    intro c hc
    exact decide_eq_true (Nat.lt_trans (h.2 c hc) (by decide))
theorem gq_int {K : PySem.W.Frag} {H : Hp} {n : Int} (h : n.natAbs < 100) : Gq K 0 10 H (.int n) := by
  have h1 : n.natAbs.log2 < 8 := by
    by_cases h0 : n.natAbs = 0
    · rw [h0]; decide
    · exact (Nat.log2_lt h0).mpr (by omega)
  refine ⟨.int n, .int n, ?_, rfl, rfl, Nat.le_refl _, ?_, ?_⟩
  · simp only [PyData.showable]
    exact decide_eq_true (by omega)
  · simp only [PyData.leavesShort]
    have := PyData.shown_int_le (i := n) (Nat.lt_trans h (by decide))
    exact decide_eq_true (by omega)
  · simp only [PyData.weight]
    split <;> omega
def huge : Int := 10 ^ (60 : Int).toNat * 10 ^ (60 : Int).toNat * 10 ^ (60 : Int).toNat
theorem gq_huge {K : PySem.W.Frag} {H : Hp} : Gq K 0 1000 H (.int huge) := by
  refine ⟨.int huge, .int huge, by decide +kernel, rfl, rfl, Nat.le_refl _, by decide +kernel, by decide +kernel⟩
theorem tx_app {j k : Nat} {a b : Str} (ha : Tx j a) (hb : Tx k b) : Tx (j + k) (a ++ b) := by
  refine ⟨by rw [Str.length_append]; exact Nat.add_le_add ha.1 hb.1, fun c hc => ?_⟩
  have e : (a ++ b).cps.toList = a.cps.toList ++ b.cps.toList := by
    show (a.cps ++ b.cps).toList = _
    rw [Array.toList_append]
  rw [e] at hc
  rcases List.mem_append.mp hc with h | h
  · exact ha.2 c h
  · exact hb.2 c h
end L54
namespace L54
open PySem PySem.Spec PyProof.Rows L2
def forB (s : Stmt) : List Stmt := match s with
  | .For _ _ b _ _ => b
  | _ => []
abbrev sBody : List Stmt := forB ((defBody sLaw).getD 3 (.Pass ⟨0, 0, 0, 0⟩))
abbrev nL : List Str := ["script", "error", "turn", "own", "text", "number", "some", "k", "thing"]
theorem scL : FnScope nL ["script"] (defScope sLaw) := ⟨rfl, rfl, rfl, by decide +kernel, rfl, by decide +kernel, by decide +kernel⟩
/-- a def of the law's text, where it stands -/
structure Fn1 (K : PySem.W.Frag) (mg : Str → Option Value) (x : Str) (st : Stmt) (ps : List Str) where
  f : Addr
  fd : FuncData
  F : Fun K x x st f fd
  b : Binds K fd ps []
  m : mg x = some (.ref f)
structure Lw (K : PySem.W.Frag) (mg : Str → Option Value) (c : Nat → Addr) where
  T : Bl mg
  C : Cs K mg c
  f1 : Addr
  f2 : Addr
  fd1 : FuncData
  fd2 : FuncData
  M : Mf K mg c f1 f2 fd1 fd2
  nM : Fn1 K mg "_law_mixed" sMixed ["cell", "k"]
  nC : Fn1 K mg "_law_cell" sCell ["script", "k"]
  nT : Fn1 K mg "_law_take" sTake ["own", "options"]
  nK : Fn1 K mg "_law_kinds" sKinds ["error"]
  nB : Fn1 K mg "_law_bare" sBare []
  nD : Fn1 K mg "_law_told" sTold ["one"]
  nA : Fn1 K mg "_law_all_good" sAll ["errors"]
  nE : Fn1 K mg "_law_kept_good" sKept ["thing"]
  nH : Fn1 K mg "_law_held_good" sHeld ["text", "number"]
def AllG (K : PySem.W.Frag) (H : Hp) (xs : List V) : Prop := ∀ x ∈ xs, Gd K H x
theorem AllG.nil {K : PySem.W.Frag} {H : Hp} : AllG K H [] := fun _ h => by cases h
theorem AllG.cons {K : PySem.W.Frag} {H : Hp} {x : V} {xs : List V} (h : Gd K H x) (t : AllG K H xs) : AllG K H (x :: xs) := fun y hy => by
  rcases List.mem_cons.mp hy with rfl | hy
  · exact h
  · exact t y hy
theorem AllG.app {K : PySem.W.Frag} {H : Hp} {xs ys : List V} (h : AllG K H xs) (t : AllG K H ys) : AllG K H (xs ++ ys) := fun y hy => by
  rcases List.mem_append.mp hy with hy | hy
  · exact h y hy
  · exact t y hy
theorem AllG.mono {K : PySem.W.Frag} {H H' : Hp} {xs : List V} (h : AllG K H xs) (s : Same H H') : AllG K H' xs := fun x hx => (h x hx).mono s
/-- tuple(text) + (1, 2, 3) -/
theorem pe_tt {X : Cx} {i : Nat} {x1 : Str} {p q pos pos2 : Pos} {j1 j2 j3 kk : Nat} {p1 p2 p3 p4 : Pos} (hc : X.calm = true) (hv : PE X (.Name x1 q) (tVar i)) (hm : X.mg "tuple" = none) (hg : Gl X "tuple" := by rfl)
    (h2 : (backTo pos (starEach [] X.env)).any (·.1) = false := by rfl) (h1 : starEach [.Name x1 q] X.env = (false, eval (.Name x1 q) X.env) :: starEach [] X.env := by rfl) :
    PE X (.BinOp (.Call (.Name "tuple" p) [.Name x1 q] [] pos) .Add (.Tuple [.Constant (.int 1) j1 p1, .Constant (.int 2) j2 p2, .Constant (.int 3) j3 p3] kk p4) pos2)
      (fun σ H Q => ∃ z, σ[i]? = some (some (.str z)) ∧ z.length ≤ 1000 ∧ ∀ t G, Same H G → SqT X.K G t ((z.cps.toList.map fun c => V.str ⟨#[c]⟩) ++ [.int 1, .int 2, .int 3]) → Q (.ref t) G) := by
  have h := pe_op (pos := pos2) (op_catA (X := X)) (pe_callTy (p := p) (pos := pos) (call_tupS hc) hg hm b_tup (pa_cons hv pa_nil) (by decide) (by decide) h1 h2) (pe_tup (x1 := kk) (pos := p4) (pa_cons (pe_int (i := 1) (j := j1) (pos := p1)) (pa_cons (pe_int (i := 2) (j := j2) (pos := p2)) (pa_cons (pe_int (i := 3) (j := j3) (pos := p3)) pa_nil))))
  refine ⟨fun pins s σ H Q I hq => h.run pins s σ H Q I ?_⟩
  obtain ⟨z, e, hz, k⟩ := hq
  refine ⟨_, e, z, rfl, hz, fun q5 n5 => ⟨len_small (by simp), fun q6 n6 => ?_⟩⟩
  have S1 := up1 (o := .tup (z.cps.toList.map fun c => V.str ⟨#[c]⟩)) n5
  have S2 := up1 (o := .tup [.int 1, .int 2, .int 3]) n6
  refine ⟨q5, q6, _, _, rfl, rfl, .inl (.inl (S2 _ _ upd_same)), .inl (.inl upd_same), ?_, fun h0 => ?_, (fun _ h => by cases h), fun _ _ r nr => ?_⟩
  · refine Nat.le_trans (m := 1003) ?_ (by rw [sizeLine_eq]; omega)
    rw [List.length_map, Array.length_toList]
    show z.length + 3 ≤ 1003
    omega
  · refine k q6 _ (S1.trans S2) ?_
    rw [h0]
    exact .inl (.inl upd_same)
  · exact k r _ ((S1.trans S2).trans (up1 nr)) (.inl (.inl upd_same))
theorem small_d1 {z : Str} {n : Int} (hz : Tx 11 z) (hn : n.natAbs < 100) : small (.dict [(.str z, .tuple [.int n])]) := by
  obtain ⟨d1, q1, k1⟩ := gq_str (K := []) (H := fun _ => none) hz
  obtain ⟨d2, q2, k2⟩ := gq_int (K := []) (H := fun _ => none) hn
  cases q1
  cases q2
  refine ⟨?_, ?_, ?_, ?_⟩
  · have b := k2.sh
    simp [PyData.showable, PyData.showableKv, PyData.showableAll] at b ⊢
    exact b
  · simp [PyData.depth, PyData.depthKv, PyData.depthAll]
  · have a := k1.lv
    have b := k2.lv
    simp [PyData.leavesShort, PyData.leavesShortKv, PyData.leavesShortAll] at a b ⊢
    exact ⟨a, b⟩
  · have a := k1.wt
    have b := k2.wt
    simp only [PyData.weight, PyData.weightKv, PyData.weightAll] at a b ⊢
    omega

end L54
namespace L54
open PySem PySem.Spec PyProof.Rows L2
def tCG (sp : Sp) (t : TA) : TE := fun σ H Q => t σ H fun vs H1 => sp vs H1 Q E0
theorem pe_callG2 {X : Cx} {k : Nat} {f : Addr} {fd : FuncData} {ps : List Str} {sp : Sp} {x : Str} {p pos : Pos} {e : Expr} {es : List Expr} {t : TA} (F : FnG X.prog X.w X.K X.mg X.base k f fd ps sp) (hgd : X.A.guards = some []) (hr : Room k X.A) (hm : X.mg x = some (.ref f)) (hk : PySem.W.keepIn X.K (.ref f) = true) (hb : Binds X.K fd ps []) (ha : PA X (e :: es) t) (hg : Gl X x := by rfl)
    (hdb : (x == ("__debug__" : Str)) = false := by decide) (he : starEach (e :: es) X.env = (false, eval e X.env) :: starEach es X.env := by rfl) (hpl : (backTo pos (starEach es X.env)).any (·.1) = false := by rfl) :
    PE X (.Call (.Name x p) (e :: es) [] pos) (tCG sp t) := pe_callG F hgd hr hm hk hb ha hg hdb he hpl
section
variable {P : Program} {w : World} {K : PySem.W.Frag} {mg : Str → Option Value} {base : Heap} {c : Nat → Addr}
abbrev XL (P : Program) (w : World) (K : PySem.W.Frag) (mg : Str → Option Value) (base : Heap) (f : Addr) (cdv : Value) (A : Around) (outer : List Env) (s : Shared) (H : Hp) (E : XK) : Cx := (cxOf CX0 P w K mg base nL "law" (defScope sLaw) f cdv A outer s H E).nox
variable {f : Addr} {cdv : Value} {A : Around} {outer : List Env} {s : Shared} {H : Hp} {E : XK}
theorem law3 (L : Lw K mg c) (hg : (A.deeper (envOfC "law" (defScope sLaw) s.heap.objs.size f cdv)).guards = some []) (hr : Room 3 (A.deeper (envOfC "law" (defScope sLaw) s.heap.objs.size f cdv))) :
    ∃ t, PSs (XL P w K mg base f cdv A outer s H E) (sBody.drop 8) t ∧ ∀ (D : Ends) (l e tn o : Option V) (z : Str) (n : Int) (p : Addr) (xs : List V) (H1 : Hp), H1 p = some (.lst xs) → xs.length ≤ 1000 → AllG K H1 xs → Tx 11 z →
      (∀ H', Same H1 H' → D.nx [l, e, tn, o, some (.str z), some (.int n), some (.ref p), none, none] H') → t D [l, e, tn, o, some (.str z), some (.int n), some (.ref p), none, none] H1 := by
  have GE : FnG P w K mg base 3 L.nE.f L.nE.fd ["thing"] (spKept K) := ok_kept L.nE.F L.T L.C L.M L.nK.F L.nK.b L.nK.m
  have GA : FnOk P w K mg base CX0 2 L.nA.f L.nA.fd ["errors"] (spAll c) := ok_all L.nA.F L.T L.C L.nK.F L.nK.b L.nK.m
  have GD : FnOk P w K mg base CX0 1 L.nD.f L.nD.fd ["one"] (spTold c) := ok_told L.nD.F L.C
  have GH : FnOk P w K mg base CX0 3 L.nH.f L.nH.fd ["text", "number"] spHeld := ok_held L.nH.F L.M
  refine ⟨_, pss_cons (ps_if (PW.pt (pw_or (pt_not (pt_val (pe_callB (cr_all rfl) rfl L.T.all b_all (pa_cons
      (pe_lc (own := [("thing", 8)]) (g := gName 8) (tt := tYes) rfl scL.nd (pi_list (pv 6)) (blkOk_by (N := nL) (sc := defScope sLaw) (by decide +kernel)) (fun _ _ _ _ _ => pg_name (i := 8) scL.nd rfl (Or.inl rfl)) (fun _ _ _ _ _ => pts_nil)
        (fun _ _ _ _ _ => pe_callG2 GE hg hr L.nE.m L.nE.F.kp L.nE.b (pa_cons (pv 8) pa_nil))) pa_nil))))
      (pw_or1 (pt_not (pt_val (pe_call GA (hr.mono (by decide)) rfl L.nA.m L.nA.F.kp L.nA.b .nil pass0 (pa_cons (pe_call GD (hr.mono (by decide)) rfl L.nD.m L.nD.F.kp L.nD.b .nil pass0 (pa_cons (pv 4) pa_nil)) pa_nil))))))) (pss_one (ps_ret pe_bl)) pss_nil)
    (pss_one (ps_if (pt_not (pt_val (pe_call GH hr rfl L.nH.m L.nH.F.kp L.nH.b .nil pass0 (pa_cons (pv 4) (pa_cons (pv 5) pa_nil))))) (pss_one (ps_ret pe_bl)) pss_nil)), ?_⟩
  intro D l e tn o z n p xs H1 hp hlen hall hz hD
  have hS : SqL K H1 p xs := .inl (.inl hp)
  refine ⟨_, rfl, p, rfl, ⟨_, hS⟩, fun dd nD => ?_⟩
  refine lc_list (K := K) (a := p) (xs := xs) (fun i Hc => Same H1 Hc ∧ Hc dd = some (.lst ((List.replicate i true).map V.bl))) ⟨up1 nD, upd_same⟩ (fun i Hc _ ⟨s, _⟩ => s.seq hS) ?_ ?_
  · rintro i y Hc hi ⟨Sc, Lc⟩
    have hmem : y ∈ xs := List.mem_of_getElem? hi
    have hi' : i < xs.length := (List.getElem?_eq_some_iff.mp hi).1
    obtain ⟨d, h1, h2⟩ := (hall y hmem).mono Sc
    refine ⟨rfl, ?_⟩
    refine ⟨_, rfl, y, d, rfl, h1, h2, fun H' S' => ⟨_, S' _ _ Lc, small1000 (by simp; omega), same_at (Sc.trans S') nD, ?_⟩⟩
    rw [upd_same, List.replicate_succ', List.map_append]
    rfl
  · rintro Hc ⟨Sc, Lc⟩
    refine ⟨dd, List.replicate xs.length true, rfl, .inl (.inl Lc), _, rfl, ?_⟩
    have e1 : (List.replicate xs.length true).all id = true := by simp
    rw [e1]
    refine iF (by decide) ?_
    refine ⟨_, rfl, ⟨_, rfl⟩, fun q H2 ys nq S2 L2 N2 R2 => ⟨q, ys, rfl, L2, N2, R2, fun H3 S3 => ⟨_, rfl, ?_⟩⟩⟩
    refine iF (by decide) ?_
    refine ⟨_, rfl, _, rfl, z, n, rfl, hz.ok, fun H4 S4 => ⟨_, rfl, ?_⟩⟩
    refine iF (by decide) ?_
    exact hD _ (Sc.trans (S2.trans (S3.trans S4)))
end
end L54
namespace L54
open PySem PySem.Spec PyProof.Rows L2
section
variable {P : Program} {w : World} {K : PySem.W.Frag} {mg : Str → Option Value} {base : Heap} {c : Nat → Addr}
variable {f : Addr} {cdv : Value} {A : Around} {outer : List Env} {s : Shared} {H : Hp} {E : XK}
theorem one {K : PySem.W.Frag} {m w : Nat} {H : Hp} {x : V} (h : Gq K m w H x) : ∀ y ∈ [x], Gq K m w H y := fun y hy => by
  rcases List.mem_cons.mp hy with rfl | hy
  · exact h
  · cases hy
theorem more {K : PySem.W.Frag} {m w : Nat} {H : Hp} {x : V} {xs : List V} (h : Gq K m w H x) (t : ∀ y ∈ xs, Gq K m w H y) : ∀ y ∈ x :: xs, Gq K m w H y := fun y hy => by
  rcases List.mem_cons.mp hy with rfl | hy
  · exact h
  · exact t y hy
theorem nomore {K : PySem.W.Frag} {m w : Nat} {H : Hp} : ∀ y ∈ ([] : List V), Gq K m w H y := fun y hy => by cases hy
theorem tx_s {z : Str} (k : Nat) (h : (decide (z.length ≤ k) && z.cps.toList.all fun c => decide (c < 128)) = true) : Tx k z := by
  obtain ⟨h1, h2⟩ := Bool.and_eq_true_iff.mp h
  exact ⟨of_decide_eq_true h1, fun c hc => of_decide_eq_true (List.all_eq_true.mp h2 c hc)⟩
theorem txA : Tx 1 "a" := tx_s 1 (by decide +kernel)
theorem txB : Tx 1 "b" := tx_s 1 (by decide +kernel)
theorem txE : Tx 1 "" := tx_s 1 (by decide +kernel)
theorem txAb : Tx 2 "Ab" := tx_s 2 (by decide +kernel)
theorem txT : Tx 1 "\t" := tx_s 1 (by decide +kernel)
theorem txN : Tx 1 "\n" := tx_s 1 (by decide +kernel)
theorem tx1 {k : Nat} {z : Str} (h : Tx k z) : ∀ x ∈ z.cps.toList.map fun c => V.str ⟨#[c]⟩, ∀ {K : PySem.W.Frag} {H : Hp}, Gq K 0 11 H x := by
  intro x hx K H
  obtain ⟨c, hc, rfl⟩ := List.mem_map.mp hx
  refine (gq_str (k := 1) ⟨Nat.le_refl _, fun d hd => ?_⟩).up (Nat.le_refl _) (by decide)
  have e : d = c := by simpa using hd
  rw [e]
  exact h.2 c hc
theorem law2 (L : Lw K mg c) (hg : (A.deeper (envOfC "law" (defScope sLaw) s.heap.objs.size f cdv)).guards = some []) (hr : Room 3 (A.deeper (envOfC "law" (defScope sLaw) s.heap.objs.size f cdv))) :
    ∃ t, PSs (XL P w K mg base f cdv A outer s H E) (sBody.drop 3) t ∧ ∀ (D : Ends) (l e tn o sm : Option V) (z : Str) (n : Int) (H1 : Hp), Tx 11 z → 0 ≤ n → n < 99 →
      (∀ (sm' : Option V) H', Same H1 H' → D.nx [l, e, tn, o, some (.str z), some (.int n), sm', none, none] H') → t D [l, e, tn, o, some (.str z), some (.int n), sm, none, none] H1 := by
  obtain ⟨t3, h3, q3⟩ := law3 (P := P) (w := w) (base := base) (f := f) (cdv := cdv) (A := A) (outer := outer) (s := s) (H := H) (E := E) L hg hr
  refine ⟨_, pss_cons (ps_set (i := 6) scL.nd rfl (.inl rfl) (pe_lst (pa_cons (pv 4) (pa_cons (pv 5) (pa_cons pe_non (pa_cons (pe_lst (pa_cons (pv 4) pa_nil)) (pa_cons (pe_tup (pa_cons (pv 4) (pa_cons (pv 5) pa_nil))) (pa_cons pe_str (pa_cons pe_bl (pa_cons pe_bl (pa_cons (pe_lst pa_nil) (pa_cons (pe_tup pa_nil) (pa_cons pe_dnewK pa_nil)))))))))))))
    (pss_cons (ps_set (i := 6) scL.nd rfl (.inl rfl) (pe_op op_cat (pv 6) (pe_lst (pa_cons (pe_op op_sub pe_int (pv 5)) (pa_cons pe_int (pa_cons pe_str (pa_cons (pe_tup (pa_cons (pv 4) pa_nil)) (pa_cons (pe_tup (pa_cons pe_non pa_nil)) (pa_cons (pe_tup (pa_cons (pe_tup pa_nil) pa_nil)) (pa_cons (pe_tup (pa_cons (pe_lst (pa_cons (pv 4) pa_nil)) pa_nil)) (pa_cons (pe_lst (pa_cons (pv 5) (pa_cons (pe_op op_sub pe_int (pv 5)) (pa_cons (pv 5) pa_nil)))) pa_nil)))))))))))
    (pss_cons (ps_set (i := 6) scL.nd rfl (.inl rfl) (pe_op op_cat (pv 6) (pe_lst (pa_cons (pe_lst (pa_cons pe_str (pa_cons (pv 4) (pa_cons pe_str (pa_cons pe_str pa_nil))))) (pa_cons (pe_tup (pa_cons (pv 5) (pa_cons (pv 4) (pa_cons pe_non (pa_cons (pv 4) pa_nil))))) (pa_cons (pe_tt rfl (pv 4) L.T.tup) pa_nil))))))
    (pss_cons (ps_set (i := 6) scL.nd rfl (.inl rfl) (pe_op op_cat (pv 6) (pe_lst (pa_cons (pe_op op_add_str (pe_op op_repS (pv 4) pe_int) (pe_op op_repS pe_str pe_int)) (pa_cons (pe_op op_add_str (pe_op op_add_str pe_str (pv 4)) pe_str) pa_nil)))))
    (pss_cons (ps_set (i := 6) scL.nd rfl (.inl rfl) (pe_op op_cat (pv 6) (pe_lst (pa_cons (pe_disp (pps_cons (pv 4) (pe_tup (pa_cons (pv 5) pa_nil)) pps_nil) rfl rfl (by simp) (by decide)) (pa_cons (pe_lst (pa_cons (pe_lst (pa_cons (pv 4) (pa_cons pe_non pa_nil))) pa_nil)) (pa_cons (pe_op op_mulW (pe_op op_mulW (pe_op op_pow pe_int pe_int) (pe_op op_pow pe_int pe_int)) (pe_op op_pow pe_int pe_int)) pa_nil)))))) h3)))), ?_⟩
  intro D l e tn o sm z n G hz n0 n1 hD
  have hn : n.natAbs < 100 := by omega
  have hn' : (0 - n).natAbs < 100 := by omega
  have zl : z.length ≤ 11 := hz.1
  have gT : ∀ {H' : Hp}, Gq K 0 11 H' (.str z) := gq_str hz
  have gN : ∀ {H' : Hp}, Gq K 0 11 H' (.int n) := (gq_int hn).up (Nat.le_refl _) (by decide)
  have gM : ∀ {H' : Hp}, Gq K 0 11 H' (.int (0 - n)) := (gq_int hn').up (Nat.le_refl _) (by decide)
  have g0 : ∀ {H' : Hp}, Gq K 0 11 H' .non := gq_non.up (Nat.le_refl _) (by decide)
  have gA : ∀ {H' : Hp}, Gq K 0 11 H' (.str "a") := (gq_str txA).up (Nat.le_refl _) (by decide)
  have gB : ∀ {H' : Hp}, Gq K 0 11 H' (.str "b") := (gq_str txB).up (Nat.le_refl _) (by decide)
  have up : ∀ {m w : Nat} {H' : Hp} {x : V}, Gq K m w H' x → m ≤ 40 → w ≤ 2000 → Gd K H' x := fun h a b => h.gd a b
  have S : Same G G := Same.refl G
  refine ⟨_, rfl, _, rfl, ?_⟩
  refine ⟨_, rfl, len_small (by simp), fun a1 na1 => ?_⟩
  have U := up1 (o := .lst [V.str z]) na1
  have ga1 := gq_lst (K := K) (m := 0) (w := 11) (H := G) (p := a1) (xs := [V.str z]) (more gT nomore) na1
  replace S := S.trans U
  clear U na1
  generalize upd G a1 (.lst [V.str z]) = W0 at *
  refine ⟨_, rfl, _, rfl, len_small (by simp), fun a2 na2 => ?_⟩
  have U := up1 (o := .tup [V.str z, V.int n]) na2
  have ga2 := gq_tup (K := K) (m := 0) (w := 11) (H := W0) (p := a2) (xs := [V.str z, V.int n]) (more gT (more gN nomore)) na2
  replace S := S.trans U
  replace ga1 := ga1.mono U
  clear U na2
  generalize upd W0 a2 (.tup [V.str z, V.int n]) = W1 at *
  refine ⟨len_small (by simp), fun a3 na3 => ?_⟩
  have U := up1 (o := .lst []) na3
  have ga3 := gq_lst (K := K) (m := 0) (w := 11) (H := W1) (p := a3) (xs := []) nomore na3
  replace S := S.trans U
  replace ga1 := ga1.mono U
  replace ga2 := ga2.mono U
  clear U na3
  generalize upd W1 a3 (.lst []) = W2 at *
  refine ⟨len_small (by simp), fun a4 na4 => ?_⟩
  have U := up1 (o := .tup []) na4
  have ga4 := gq_tup (K := K) (m := 0) (w := 11) (H := W2) (p := a4) (xs := []) nomore na4
  replace S := S.trans U
  replace ga1 := ga1.mono U
  replace ga2 := ga2.mono U
  replace ga3 := ga3.mono U
  clear U na4
  generalize upd W2 a4 (.tup []) = W3 at *
  intro a5 na5
  have U := up1 (o := .dK []) na5
  have ga5 := (show Gd K (upd W3 a5 (.dK [])) (.ref a5) from ⟨.dict [], .d0 upd_same, by unfold small; decide +kernel⟩)
  replace S := S.trans U
  replace ga1 := ga1.mono U
  replace ga2 := ga2.mono U
  replace ga3 := ga3.mono U
  replace ga4 := ga4.mono U
  clear U na5
  generalize upd W3 a5 (.dK []) = W4 at *
  refine ⟨len_small (by simp), fun a6 na6 => ?_⟩
  have AL : AllG K W4 [V.str z, V.int n, V.non, V.ref a1, V.ref a2, V.str "", V.bl true, V.bl false, V.ref a3, V.ref a4, V.ref a5] := (.cons (up gT (by decide) (by simp)) (.cons (up gN (by decide) (by simp)) (.cons (up g0 (by decide) (by simp)) (.cons (up ga1 (by decide) (by simp)) (.cons (up ga2 (by decide) (by simp)) (.cons (up (gq_str txE) (by decide) (by decide)) (.cons (up gq_bl (by decide) (by decide)) (.cons (up gq_bl (by decide) (by decide)) (.cons (up ga3 (by decide) (by simp)) (.cons (up ga4 (by decide) (by simp)) (.cons ga5 .nil)))))))))))
  have U := up1 (o := .lst [V.str z, V.int n, V.non, V.ref a1, V.ref a2, V.str "", V.bl true, V.bl false, V.ref a3, V.ref a4, V.ref a5]) na6
  have L1 := (show upd W4 a6 (.lst [V.str z, V.int n, V.non, V.ref a1, V.ref a2, V.str "", V.bl true, V.bl false, V.ref a3, V.ref a4, V.ref a5]) a6 = some (.lst [V.str z, V.int n, V.non, V.ref a1, V.ref a2, V.str "", V.bl true, V.bl false, V.ref a3, V.ref a4, V.ref a5]) from upd_same)
  replace S := S.trans U
  replace ga1 := ga1.mono U
  replace ga2 := ga2.mono U
  replace ga3 := ga3.mono U
  replace ga4 := ga4.mono U
  replace ga5 := ga5.mono U
  replace AL := AL.mono U
  clear U na6
  generalize upd W4 a6 (.lst [V.str z, V.int n, V.non, V.ref a1, V.ref a2, V.str "", V.bl true, V.bl false, V.ref a3, V.ref a4, V.ref a5]) = W5 at *
  have NL : [V.str z, V.int n, V.non, V.ref a1, V.ref a2, V.str "", V.bl true, V.bl false, V.ref a3, V.ref a4, V.ref a5].length ≤ 11 := by simp
  generalize [V.str z, V.int n, V.non, V.ref a1, V.ref a2, V.str "", V.bl true, V.bl false, V.ref a3, V.ref a4, V.ref a5] = xs at *
  clear ga1
  clear ga2
  clear ga3
  clear ga4
  clear ga5
  refine ⟨_, rfl, _, rfl, _, _, rfl, rfl, ?_⟩
  refine ⟨_, rfl, len_small (by simp), fun a7 na7 => ?_⟩
  have U := up1 (o := .tup [V.str z]) na7
  have ga7 := gq_tup (K := K) (m := 0) (w := 11) (H := W5) (p := a7) (xs := [V.str z]) (more gT nomore) na7
  replace S := S.trans U
  replace AL := AL.mono U
  replace L1 := U _ _ L1
  clear U na7
  generalize upd W5 a7 (.tup [V.str z]) = W6 at *
  refine ⟨len_small (by simp), fun a8 na8 => ?_⟩
  have U := up1 (o := .tup [V.non]) na8
  have ga8 := gq_tup (K := K) (m := 0) (w := 11) (H := W6) (p := a8) (xs := [V.non]) (more g0 nomore) na8
  replace S := S.trans U
  replace AL := AL.mono U
  replace L1 := U _ _ L1
  replace ga7 := ga7.mono U
  clear U na8
  generalize upd W6 a8 (.tup [V.non]) = W7 at *
  refine ⟨len_small (by simp), fun a9 na9 => ?_⟩
  have U := up1 (o := .tup []) na9
  have ga9 := gq_tup (K := K) (m := 0) (w := 11) (H := W7) (p := a9) (xs := []) nomore na9
  replace S := S.trans U
  replace AL := AL.mono U
  replace L1 := U _ _ L1
  replace ga7 := ga7.mono U
  replace ga8 := ga8.mono U
  clear U na9
  generalize upd W7 a9 (.tup []) = W8 at *
  refine ⟨len_small (by simp), fun a10 na10 => ?_⟩
  have U := up1 (o := .tup [V.ref a9]) na10
  have ga10 := gq_tup (K := K) (m := 1) (w := 0) (H := W8) (p := a10) (xs := [V.ref a9]) (more ga9 nomore) na10
  replace S := S.trans U
  replace AL := AL.mono U
  replace L1 := U _ _ L1
  replace ga7 := ga7.mono U
  replace ga8 := ga8.mono U
  replace ga9 := ga9.mono U
  clear U na10
  generalize upd W8 a10 (.tup [V.ref a9]) = W9 at *
  refine ⟨_, rfl, len_small (by simp), fun a11 na11 => ?_⟩
  have U := up1 (o := .lst [V.str z]) na11
  have ga11 := gq_lst (K := K) (m := 0) (w := 11) (H := W9) (p := a11) (xs := [V.str z]) (more gT nomore) na11
  replace S := S.trans U
  replace AL := AL.mono U
  replace L1 := U _ _ L1
  replace ga7 := ga7.mono U
  replace ga8 := ga8.mono U
  replace ga9 := ga9.mono U
  replace ga10 := ga10.mono U
  clear U na11
  generalize upd W9 a11 (.lst [V.str z]) = W10 at *
  refine ⟨len_small (by simp), fun a12 na12 => ?_⟩
  have U := up1 (o := .tup [V.ref a11]) na12
  have ga12 := gq_tup (K := K) (m := 1) (w := 12) (H := W10) (p := a12) (xs := [V.ref a11]) (more ga11 nomore) na12
  replace S := S.trans U
  replace AL := AL.mono U
  replace L1 := U _ _ L1
  replace ga7 := ga7.mono U
  replace ga8 := ga8.mono U
  replace ga9 := ga9.mono U
  replace ga10 := ga10.mono U
  replace ga11 := ga11.mono U
  clear U na12
  generalize upd W10 a12 (.tup [V.ref a11]) = W11 at *
  refine ⟨_, rfl, _, rfl, _, _, rfl, rfl, _, rfl, len_small (by simp), fun a13 na13 => ?_⟩
  have U := up1 (o := .lst [V.int n, V.int (0 - n), V.int n]) na13
  have ga13 := gq_lst (K := K) (m := 0) (w := 11) (H := W11) (p := a13) (xs := [V.int n, V.int (0 - n), V.int n]) (more gN (more gM (more gN nomore))) na13
  replace S := S.trans U
  replace AL := AL.mono U
  replace L1 := U _ _ L1
  replace ga7 := ga7.mono U
  replace ga8 := ga8.mono U
  replace ga9 := ga9.mono U
  replace ga10 := ga10.mono U
  replace ga11 := ga11.mono U
  replace ga12 := ga12.mono U
  clear U na13
  generalize upd W11 a13 (.lst [V.int n, V.int (0 - n), V.int n]) = W12 at *
  refine ⟨len_small (by simp), fun a14 na14 => ?_⟩
  have BL : AllG K W12 [V.int (0 - n), V.int 0, V.str "Ab", V.ref a7, V.ref a8, V.ref a10, V.ref a12, V.ref a13] := (.cons (up gM (by decide) (by simp)) (.cons (up (gq_int (n := 0) (by decide)) (by decide) (by decide)) (.cons (up (gq_str txAb) (by decide) (by decide)) (.cons (up ga7 (by decide) (by simp)) (.cons (up ga8 (by decide) (by simp)) (.cons (up ga10 (by decide) (by simp)) (.cons (up ga12 (by decide) (by simp)) (.cons (up ga13 (by decide) (by simp)) .nil))))))))
  have U := up1 (o := .lst [V.int (0 - n), V.int 0, V.str "Ab", V.ref a7, V.ref a8, V.ref a10, V.ref a12, V.ref a13]) na14
  have L2 := (show upd W12 a14 (.lst [V.int (0 - n), V.int 0, V.str "Ab", V.ref a7, V.ref a8, V.ref a10, V.ref a12, V.ref a13]) a14 = some (.lst [V.int (0 - n), V.int 0, V.str "Ab", V.ref a7, V.ref a8, V.ref a10, V.ref a12, V.ref a13]) from upd_same)
  replace S := S.trans U
  replace AL := AL.mono U
  replace L1 := U _ _ L1
  replace ga7 := ga7.mono U
  replace ga8 := ga8.mono U
  replace ga9 := ga9.mono U
  replace ga10 := ga10.mono U
  replace ga11 := ga11.mono U
  replace ga12 := ga12.mono U
  replace ga13 := ga13.mono U
  replace BL := BL.mono U
  clear U na14
  generalize upd W12 a14 (.lst [V.int (0 - n), V.int 0, V.str "Ab", V.ref a7, V.ref a8, V.ref a10, V.ref a12, V.ref a13]) = W13 at *
  refine ⟨_, _, _, _, rfl, rfl, L1, L2, len_small (by simp; omega), fun a15 na15 => ?_⟩
  replace AL := AllG.app AL BL
  clear BL L2 L1
  have U := up1 (o := .lst (xs ++ [V.int (0 - n), V.int 0, V.str "Ab", V.ref a7, V.ref a8, V.ref a10, V.ref a12, V.ref a13])) na15
  have L1 := (show upd W13 a15 (.lst (xs ++ [V.int (0 - n), V.int 0, V.str "Ab", V.ref a7, V.ref a8, V.ref a10, V.ref a12, V.ref a13])) a15 = some (.lst (xs ++ [V.int (0 - n), V.int 0, V.str "Ab", V.ref a7, V.ref a8, V.ref a10, V.ref a12, V.ref a13])) from upd_same)
  replace S := S.trans U
  replace AL := AL.mono U
  replace ga7 := ga7.mono U
  replace ga8 := ga8.mono U
  replace ga9 := ga9.mono U
  replace ga10 := ga10.mono U
  replace ga11 := ga11.mono U
  replace ga12 := ga12.mono U
  replace ga13 := ga13.mono U
  clear U na15
  generalize upd W13 a15 (.lst (xs ++ [V.int (0 - n), V.int 0, V.str "Ab", V.ref a7, V.ref a8, V.ref a10, V.ref a12, V.ref a13])) = W14 at *
  replace NL : (xs ++ [V.int (0 - n), V.int 0, V.str "Ab", V.ref a7, V.ref a8, V.ref a10, V.ref a12, V.ref a13]).length ≤ 19 := by simp; omega
  generalize xs ++ [V.int (0 - n), V.int 0, V.str "Ab", V.ref a7, V.ref a8, V.ref a10, V.ref a12, V.ref a13] = xs1 at *
  clear ga7
  clear ga8
  clear ga9
  clear ga10
  clear ga11
  clear ga12
  clear ga13
  refine ⟨_, rfl, ?_⟩
  refine ⟨_, rfl, len_small (by simp), fun a16 na16 => ?_⟩
  have U := up1 (o := .lst [V.str "b", V.str z, V.str "a", V.str "b"]) na16
  have ga16 := gq_lst (K := K) (m := 0) (w := 11) (H := W14) (p := a16) (xs := [V.str "b", V.str z, V.str "a", V.str "b"]) (more gB (more gT (more gA (more gB nomore)))) na16
  replace S := S.trans U
  replace AL := AL.mono U
  replace L1 := U _ _ L1
  clear U na16
  generalize upd W14 a16 (.lst [V.str "b", V.str z, V.str "a", V.str "b"]) = W15 at *
  refine ⟨_, rfl, _, rfl, _, rfl, len_small (by simp), fun a17 na17 => ?_⟩
  have U := up1 (o := .tup [V.int n, V.str z, V.non, V.str z]) na17
  have ga17 := gq_tup (K := K) (m := 0) (w := 11) (H := W15) (p := a17) (xs := [V.int n, V.str z, V.non, V.str z]) (more gN (more gT (more g0 (more gT nomore)))) na17
  replace S := S.trans U
  replace AL := AL.mono U
  replace L1 := U _ _ L1
  replace ga16 := ga16.mono U
  clear U na17
  generalize upd W15 a17 (.tup [V.int n, V.str z, V.non, V.str z]) = W16 at *
  refine ⟨z, rfl, by omega, fun tt W90 U QT => ?_⟩
  replace S := S.trans U
  replace AL := AL.mono U
  replace L1 := U _ _ L1
  replace ga16 := ga16.mono U
  replace ga17 := ga17.mono U
  clear U
  have gtt : Gd K W90 (.ref tt) := by
    refine (gq_seqT (m := 0) (w := 11) (fun x hx => ?_) QT).gd (by decide) ?_
    · rcases List.mem_append.mp hx with hx | hx
      · exact tx1 hz x hx
      · exact more ((gq_int (n := 1) (by decide)).up (Nat.le_refl _) (by decide)) (more ((gq_int (n := 2) (by decide)).up (Nat.le_refl _) (by decide)) (more ((gq_int (n := 3) (by decide)).up (Nat.le_refl _) (by decide)) nomore)) x hx
    · rw [List.length_append, List.length_map, Array.length_toList]
      show (11 + 1) * (z.length + 3) ≤ 2000
      omega
  clear QT
  refine ⟨len_small (by simp), fun a18 na18 => ?_⟩
  have BL : AllG K W90 [V.ref a16, V.ref a17, V.ref tt] := (.cons (up ga16 (by decide) (by simp)) (.cons (up ga17 (by decide) (by simp)) (.cons gtt .nil)))
  have U := up1 (o := .lst [V.ref a16, V.ref a17, V.ref tt]) na18
  have L2 := (show upd W90 a18 (.lst [V.ref a16, V.ref a17, V.ref tt]) a18 = some (.lst [V.ref a16, V.ref a17, V.ref tt]) from upd_same)
  replace S := S.trans U
  replace AL := AL.mono U
  replace L1 := U _ _ L1
  replace ga16 := ga16.mono U
  replace ga17 := ga17.mono U
  replace gtt := gtt.mono U
  replace BL := BL.mono U
  clear U na18
  generalize upd W90 a18 (.lst [V.ref a16, V.ref a17, V.ref tt]) = W17 at *
  refine ⟨_, _, _, _, rfl, rfl, L1, L2, len_small (by simp; omega), fun a19 na19 => ?_⟩
  replace AL := AllG.app AL BL
  clear BL L2 L1
  have U := up1 (o := .lst (xs1 ++ [V.ref a16, V.ref a17, V.ref tt])) na19
  have L1 := (show upd W17 a19 (.lst (xs1 ++ [V.ref a16, V.ref a17, V.ref tt])) a19 = some (.lst (xs1 ++ [V.ref a16, V.ref a17, V.ref tt])) from upd_same)
  replace S := S.trans U
  replace AL := AL.mono U
  replace ga16 := ga16.mono U
  replace ga17 := ga17.mono U
  replace gtt := gtt.mono U
  clear U na19
  generalize upd W17 a19 (.lst (xs1 ++ [V.ref a16, V.ref a17, V.ref tt])) = W18 at *
  replace NL : (xs1 ++ [V.ref a16, V.ref a17, V.ref tt]).length ≤ 22 := by simp; omega
  generalize xs1 ++ [V.ref a16, V.ref a17, V.ref tt] = xs2 at *
  clear ga16
  clear ga17
  clear gtt
  refine ⟨_, rfl, _, rfl, z, 40, rfl, rfl, by decide, by decide, by omega, fun r1 l1 m1 => ⟨"a", 500, rfl, rfl, by decide, by decide, by decide, fun r2 l2 m2 => ?_⟩⟩
  have x1 : Tx 440 r1 := ⟨by rw [l1]; show 40 * z.length ≤ 440; omega, fun c hc => hz.2 c (m1 c hc)⟩
  have x2 : Tx 500 r2 := ⟨by rw [l2]; show 500 * 1 ≤ 500; omega, fun c hc => txA.2 c (m2 c hc)⟩
  have x3 := tx_app x1 x2
  have x4 := tx_app (tx_app txT hz) txN
  have lT : ("\t" : Str).length = 1 := by decide +kernel
  have lN : ("\n" : Str).length = 1 := by decide +kernel
  refine ⟨_, _, rfl, rfl, ?_, ?_⟩
  · have a1 := x1.1
    have a2 := x2.1
    rw [sizeLine_eq]
    omega
  refine ⟨_, rfl, _, _, rfl, rfl, ?_, ?_⟩
  · rw [lT, sizeLine_eq]
    omega
  refine ⟨_, _, rfl, rfl, ?_, ?_⟩
  · have a1 := (tx_app txT hz).1
    rw [lN, sizeLine_eq]
    omega
  refine ⟨len_small (by simp), fun a20 na20 => ?_⟩
  have BL : AllG K W18 [V.str (r1 ++ r2), V.str ("\t" ++ z ++ "\n")] := (.cons (up (gq_str x3) (by decide) (by decide)) (.cons (up (gq_str x4) (by decide) (by decide)) .nil))
  have U := up1 (o := .lst [V.str (r1 ++ r2), V.str ("\t" ++ z ++ "\n")]) na20
  have L2 := (show upd W18 a20 (.lst [V.str (r1 ++ r2), V.str ("\t" ++ z ++ "\n")]) a20 = some (.lst [V.str (r1 ++ r2), V.str ("\t" ++ z ++ "\n")]) from upd_same)
  replace S := S.trans U
  replace AL := AL.mono U
  replace L1 := U _ _ L1
  replace BL := BL.mono U
  clear U na20
  generalize upd W18 a20 (.lst [V.str (r1 ++ r2), V.str ("\t" ++ z ++ "\n")]) = W19 at *
  refine ⟨_, _, _, _, rfl, rfl, L1, L2, len_small (by simp; omega), fun a21 na21 => ?_⟩
  replace AL := AllG.app AL BL
  clear BL L2 L1
  have U := up1 (o := .lst (xs2 ++ [V.str (r1 ++ r2), V.str ("\t" ++ z ++ "\n")])) na21
  have L1 := (show upd W19 a21 (.lst (xs2 ++ [V.str (r1 ++ r2), V.str ("\t" ++ z ++ "\n")])) a21 = some (.lst (xs2 ++ [V.str (r1 ++ r2), V.str ("\t" ++ z ++ "\n")])) from upd_same)
  replace S := S.trans U
  replace AL := AL.mono U
  clear U na21
  generalize upd W19 a21 (.lst (xs2 ++ [V.str (r1 ++ r2), V.str ("\t" ++ z ++ "\n")])) = W20 at *
  replace NL : (xs2 ++ [V.str (r1 ++ r2), V.str ("\t" ++ z ++ "\n")]).length ≤ 24 := by simp; omega
  generalize xs2 ++ [V.str (r1 ++ r2), V.str ("\t" ++ z ++ "\n")] = xs3 at *
  refine ⟨_, rfl, ?_⟩
  intro dd ndd
  refine ⟨_, rfl, _, rfl, len_small (by simp), fun dt ndt => ?_⟩
  have ne : dt ≠ dd := fun e => by rw [e, upd_same] at ndt; cases ndt
  have ndt' : W20 dt = none := by rw [upd_ne ne] at ndt; exact ndt
  refine ⟨by rw [upd_ne (Ne.symm ne), upd_same], [(Sum.inr z, .ref dt)], rfl, by simp, ?_⟩
  have U : Same W20 (upd (upd (upd W20 dd (.dK [])) dt (.tup [.int n])) dd (.dK (mergeK [] [(Sum.inr z, .ref dt)]))) := same_at (same_at (up1 ndd) ndt') ndd
  have gdd : Gd K (upd (upd (upd W20 dd (.dK [])) dt (.tup [.int n])) dd (.dK (mergeK [] [(Sum.inr z, .ref dt)]))) (.ref dd) :=
    ⟨_, .d1 (t := dt) (x := z) (n := n) upd_same (by rw [upd_ne ne, upd_same]), small_d1 hz hn⟩
  replace S := S.trans U
  replace AL := AL.mono U
  replace L1 := U _ _ L1
  clear U ndt ndt' ne ndd
  generalize upd (upd (upd W20 dd (.dK [])) dt (.tup [.int n])) dd (.dK (mergeK [] [(Sum.inr z, .ref dt)])) = W95 at *
  refine ⟨_, rfl, len_small (by simp), fun a22 na22 => ?_⟩
  have U := up1 (o := .lst [V.str z, V.non]) na22
  have ga22 := gq_lst (K := K) (m := 0) (w := 11) (H := W95) (p := a22) (xs := [V.str z, V.non]) (more gT (more g0 nomore)) na22
  replace S := S.trans U
  replace AL := AL.mono U
  replace L1 := U _ _ L1
  replace gdd := gdd.mono U
  clear U na22
  generalize upd W95 a22 (.lst [V.str z, V.non]) = W21 at *
  refine ⟨len_small (by simp), fun a23 na23 => ?_⟩
  have U := up1 (o := .lst [V.ref a22]) na23
  have ga23 := gq_lst (K := K) (m := 1) (w := 24) (H := W21) (p := a23) (xs := [V.ref a22]) (more ga22 nomore) na23
  replace S := S.trans U
  replace AL := AL.mono U
  replace L1 := U _ _ L1
  replace gdd := gdd.mono U
  replace ga22 := ga22.mono U
  clear U na23
  generalize upd W21 a23 (.lst [V.ref a22]) = W22 at *
  have pw : ∀ i j : Int, 0 ≤ j → j ≤ 1000 → i.natAbs < 1000 → CPow i j := fun i j a b c => ⟨a, by omega, Nat.lt_trans c (by decide)⟩
  refine ⟨_, _, rfl, rfl, pw _ _ (by decide) (by decide) (by decide), _, _, rfl, rfl, pw _ _ (by decide) (by decide) (by decide), _, _, rfl, rfl, (by unfold CMulW; decide +kernel), _, _, rfl, rfl, pw _ _ (by decide) (by decide) (by decide), _, _, rfl, rfl, (by unfold CMulW; decide +kernel), ?_⟩
  dsimp only
  rw [show (10 : Int) ^ (60 : Int).toNat * 10 ^ (60 : Int).toNat * 10 ^ (60 : Int).toNat = huge from rfl]
  refine ⟨len_small (by simp), fun a24 na24 => ?_⟩
  have BL : AllG K W22 [V.ref dd, V.ref a23, V.int huge] := (.cons gdd (.cons (up ga23 (by decide) (by simp)) (.cons (up gq_huge (by decide) (by decide)) .nil)))
  have U := up1 (o := .lst [V.ref dd, V.ref a23, V.int huge]) na24
  have L2 := (show upd W22 a24 (.lst [V.ref dd, V.ref a23, V.int huge]) a24 = some (.lst [V.ref dd, V.ref a23, V.int huge]) from upd_same)
  replace S := S.trans U
  replace AL := AL.mono U
  replace L1 := U _ _ L1
  replace gdd := gdd.mono U
  replace ga22 := ga22.mono U
  replace ga23 := ga23.mono U
  replace BL := BL.mono U
  clear U na24
  generalize upd W22 a24 (.lst [V.ref dd, V.ref a23, V.int huge]) = W23 at *
  refine ⟨_, _, _, _, rfl, rfl, L1, L2, len_small (by simp; omega), fun a25 na25 => ?_⟩
  replace AL := AllG.app AL BL
  clear BL L2 L1
  have U := up1 (o := .lst (xs3 ++ [V.ref dd, V.ref a23, V.int huge])) na25
  have L1 := (show upd W23 a25 (.lst (xs3 ++ [V.ref dd, V.ref a23, V.int huge])) a25 = some (.lst (xs3 ++ [V.ref dd, V.ref a23, V.int huge])) from upd_same)
  replace S := S.trans U
  replace AL := AL.mono U
  replace gdd := gdd.mono U
  replace ga22 := ga22.mono U
  replace ga23 := ga23.mono U
  clear U na25
  generalize upd W23 a25 (.lst (xs3 ++ [V.ref dd, V.ref a23, V.int huge])) = W24 at *
  replace NL : (xs3 ++ [V.ref dd, V.ref a23, V.int huge]).length ≤ 27 := by simp; omega
  generalize xs3 ++ [V.ref dd, V.ref a23, V.int huge] = xs4 at *
  exact q3 D l e tn o z n _ _ _ L1 (by omega) AL hz (fun H' s' => hD _ _ (S.trans s'))
end
end L54
namespace L54
open PySem PySem.Spec PyProof.Rows L2
theorem tx_join : ∀ ys : List Str, (∀ y ∈ ys, Tx 1 y) → Tx ys.length (Txt.join "" ys) := by
  intro ys h
  show Tx ys.length (PySem.Builtin.Str.glued "" ys)
  rw [PySem.StrLaws.glued_eq_join]
  have e0 : ("" : Str) = Str.empty := rfl
  have b : Tx 0 ("" : Str) := by refine ⟨by decide +kernel, ?_⟩; decide +kernel
  revert h
  induction ys with
  | nil => exact fun _ => b
  | cons x r ih =>
    intro h
    have hx := h x List.mem_cons_self
    have hr := ih fun y hy => h y (List.mem_cons_of_mem _ hy)
    cases r with
    | nil => exact hx
    | cons y r =>
      have := tx_app (tx_app hx b) hr
      refine ⟨Nat.le_trans this.1 ?_, this.2⟩
      simp only [List.length_cons]
      omega
def signs8 : Str := "aB 9:;-~"
theorem sg_len : signs8.cps.toList.length = 8 := by decide +kernel
theorem sg_ok : ∀ j : Nat, j < 8 → Tx 1 ⟨#[signs8.cps.toList.getD j 0]⟩ := by
  intro j hj
  refine ⟨Nat.le_refl _, fun c hc => ?_⟩
  have e : c = signs8.cps.toList.getD j 0 := by simpa using hc
  rw [e]
  have q : ∀ k : Nat, k < 8 → signs8.cps.toList.getD k 0 < 128 := by decide +kernel
  exact q j hj
theorem sum_tx : ∀ ys : List Str, (∀ y ∈ ys, Tx 1 y) → (ys.map (·.length)).sum ≤ ys.length
  | [], _ => Nat.le_refl _
  | x :: r, h => by
    have a := (h x List.mem_cons_self).1
    have b := sum_tx r fun y hy => h y (List.mem_cons_of_mem _ hy)
    simp only [List.map_cons, List.sum_cons, List.length_cons]
    omega
section
variable {P : Program} {w : World} {K : PySem.W.Frag} {mg : Str → Option Value} {base : Heap} {c : Nat → Addr}
variable {f : Addr} {cdv : Value} {A : Around} {outer : List Env} {s : Shared} {H : Hp} {E : XK}
theorem law1 (L : Lw K mg c) (hg : (A.deeper (envOfC "law" (defScope sLaw) s.heap.objs.size f cdv)).guards = some []) (hr : Room 3 (A.deeper (envOfC "law" (defScope sLaw) s.heap.objs.size f cdv))) :
    ∃ t, PSs (XL P w K mg base f cdv A outer s H E) sBody t ∧ ∀ (D : Ends) (l : Addr) (ns : List Int) (j : Nat) (e o tx nm sm : Option V) (H1 : Hp), SqL K H1 l (ns.map V.int) → j ≤ 1000 →
      (∀ (o' tx' nm' sm' : Option V) H', Same H1 H' → D.nx [some (.ref l), e, some (.int (0 + (j : Int))), o', tx', nm', sm', none, none] H') →
      t D [some (.ref l), e, some (.int (0 + (j : Int))), o, tx, nm, sm, none, none] H1 := by
  obtain ⟨t2, h2, q2⟩ := law2 (P := P) (w := w) (base := base) (f := f) (cdv := cdv) (A := A) (outer := outer) (s := s) (H := H) (E := E) L hg hr
  have GT : FnOk P w K mg base CX0 1 L.nT.f L.nT.fd ["own", "options"] spTake := ok_take L.nT.F L.T
  have GC : FnOk P w K mg base CX0 2 L.nC.f L.nC.fd ["script", "k"] (spCell K) := ok_cell L.nC.F L.T L.nM.F L.nM.b L.nM.m
  refine ⟨_, pss_cons (ps_set (i := 3) scL.nd rfl (.inr rfl) (pe_lst (pa_cons (pe_call GC (hr.mono (by decide)) rfl L.nC.m L.nC.F.kp L.nC.b .nil pass0 (pa_cons (pv 0) (pa_cons (pv 2) pa_nil))) pa_nil)))
    (pss_cons (ps_set (i := 4) scL.nd rfl (.inl rfl) (pe_join pe_str
      (pe_lc (own := [("k", 7)]) (g := gName 7) (tt := tYes) rfl scL.nd (pi_range1 rfl L.T.range (pa_cons (pe_call GT (hr.mono (by decide)) rfl L.nT.m L.nT.F.kp L.nT.b .nil pass0 (pa_cons (pv 3) (pa_cons pe_int pa_nil))) pa_nil))
        (blkOk_by (N := nL) (sc := defScope sLaw) (by decide +kernel)) (fun _ _ _ _ _ => pg_name (i := 7) scL.nd rfl (Or.inl rfl)) (fun _ _ _ _ _ => pts_nil)
        (fun _ _ _ _ _ => pe_ix ix_str pe_str (pe_call GT (hr.mono (by decide)) rfl L.nT.m L.nT.F.kp L.nT.b .nil pass0 (pa_cons (pv 3) (pa_cons pe_int pa_nil))) (fun _ _ => rfl)))))
    (pss_cons (ps_set (i := 5) scL.nd rfl (.inl rfl) (pe_call GT (hr.mono (by decide)) rfl L.nT.m L.nT.F.kp L.nT.b .nil pass0 (pa_cons (pv 3) (pa_cons pe_int pa_nil)))) h2)), ?_⟩
  intro D l ns j e o tx nm sm G hl hj hD
  refine ⟨_, rfl, _, rfl, l, ns, j, by rw [Int.zero_add]; rfl, hl, hj, fun m0 m00 m01 => ?_⟩
  refine ⟨len_small (by simp), fun p np => ?_⟩
  refine ⟨⟨_, rfl⟩, _, rfl, p, m0, 12, rfl, upd_same, m00, m01, by decide, by decide, fun d n1 d0 d1 n10 n11 => ?_⟩
  refine ⟨d, rfl, by omega, by omega, fun q nq => ?_⟩
  have nep : q ≠ p := fun e => by rw [e, upd_same] at nq; cases nq
  have nqG : G q = none := by rw [upd_ne nep, upd_ne nep] at nq; exact nq
  have hd : d.toNat ≤ 11 := by omega
  refine lc_range (n := d.toNat) (fun i Hc => Same G Hc ∧ (∃ m : Int, 0 ≤ m ∧ m < big ∧ Hc p = some (.lst [.int m])) ∧ ∃ ys : List Str, Hc q = some (.lst (ys.map V.str)) ∧ ys.length = i ∧ ∀ y ∈ ys, Tx 1 y) ?_ ?_ ?_
  · refine ⟨same_at (same_at (same_at (Same.refl G) np) np) nqG, ⟨n1, n10, n11, by rw [upd_ne (Ne.symm nep), upd_same]⟩, [], upd_same, rfl, fun y hy => by cases hy⟩
  · rintro i Hc hi ⟨Sc, ⟨m, m0', m1', hp⟩, ys, hq, hy, hall⟩
    refine ⟨rfl, ?_⟩
    refine ⟨_, rfl, p, m, 8, rfl, hp, m0', m1', by decide, by decide, fun b n2 b0 b1 n20 n21 => ?_⟩
    refine ⟨signs8, b, signs8.cps.toList.getD b.toNat 0, rfl, rfl, by decide +kernel, ?_, ?_⟩
    · have eb : b = ((b.toNat : Nat) : Int) := by omega
      rw [eb]
      exact text_at (by rw [sg_len]; omega)
    · refine ⟨ys.map V.str, by rw [upd_ne nep]; exact hq, small1000 (by simp; omega), same_at (same_at Sc np) nqG, ⟨n2, n20, n21, by rw [upd_ne (Ne.symm nep), upd_same]⟩, ys ++ [⟨#[signs8.cps.toList.getD b.toNat 0]⟩], by rw [upd_same, List.map_append]; rfl, by simp [hy], fun y hy' => ?_⟩
      rcases List.mem_append.mp hy' with h | h
      · exact hall y h
      · rcases List.mem_cons.mp h with rfl | h
        · exact sg_ok _ (by omega)
        · cases h
  · rintro Hc ⟨Sc, ⟨m, m0', m1', hp⟩, ys, hq, hy, hall⟩
    have z11 : Tx 11 (Txt.join "" ys) := by
      have := tx_join ys hall
      exact ⟨Nat.le_trans this.1 (by omega), this.2⟩
    refine ⟨_, _, ys, rfl, rfl, .inl (.inl (.inl hq)), ?_, ?_⟩
    · have := sum_tx ys hall
      have e0 : ("" : Str).length = 0 := by decide +kernel
      rw [e0]
      omega
    refine ⟨_, rfl, p, m, 99, rfl, hp, m0', m1', by decide, by decide, fun n n2 b0 b1 n20 n21 => ?_⟩
    refine q2 D _ e _ _ _ _ n _ z11 b0 b1 (fun sm' H' s' => hD _ _ _ _ _ ((same_at Sc np).trans s'))
end
end L54
namespace L54
open PySem PySem.Spec PyProof.Rows L2
section
variable {P : Program} {w : World} {K : PySem.W.Frag} {mg : Str → Option Value} {base : Heap} {c : Nat → Addr}
def spLaw (K : PySem.W.Frag) : Sp := fun vs H Q _ => ∃ (l : Addr) (ns : List Int), vs = [.ref l] ∧ SqL K H l (ns.map V.int) ∧ Only H ∧ ∀ H', Q (.bl true) H'
theorem any19 : ((List.range 19).map fun j => decide (19 = j)).any id = false := by decide
theorem kl_bs (b : Nat → Bool) : kl b = ((List.range 19).map b).map V.bl := by rw [List.map_map]; rfl
theorem ok_law {f : Addr} {fd : FuncData} (L : Lw K mg c) (hv : PySem.W.kitOne K (.type "ValueError") (.ref (c 19)) = some false) (F : Fun K "law" "law" sLaw f fd) : FnG P w K mg base 4 f fd ["script"] (spLaw K) := by
  have GB : FnOk P w K mg base CX0 1 L.nB.f L.nB.fd [] (spBare c) := ok_bare L.nB.F L.C
  have GA : FnOk P w K mg base CX0 2 L.nA.f L.nA.fd ["errors"] (spAll c) := ok_all L.nA.F L.T L.C L.nK.F L.nK.b L.nK.m
  have GD : FnOk P w K mg base CX0 1 L.nD.f L.nD.fd ["one"] (spTold c) := ok_told L.nD.F L.C
  have GK : FnOk P w K mg base CX0 1 L.nK.f L.nK.fd ["error"] (spKinds K c) := ok_kinds L.nK.F L.T L.C
  have G1 : FnOk P w K mg base CX0 1 L.f1 L.fd1 ["self", "name"] (spI K (c 17)) := ok_i1 L.M.F1 L.M.n1.o L.M.n1.n
  have G2 : FnOk P w K mg base CX0 1 L.f2 L.fd2 ["self", "name"] (spI K (c 18)) := ok_i2 L.M.F2 L.M.n2.o L.M.n2.n
  refine Fun.okG F scL (fun vs H Q E h => ?_) (fun cdv A outer s H vs Q E hg hr h => ?_)
  · obtain ⟨l, ns, rfl, _⟩ := h
    rfl
  · obtain ⟨l, ns, rfl, hl, hO, h⟩ := h
    obtain ⟨t1, h1, q1⟩ := law1 (P := P) (w := w) (base := base) (f := f) (cdv := cdv) (A := A) (outer := outer) (s := s) (H := H) (E := E) L hg hr
    have n19 := L.C.n 19 (by decide) (by decide) (by decide)
    refine ⟨_, pss_cons (ps_if (PW.pt (pw_or (pt_not (pt_val (pe_call GA (hr.mono (by decide)) rfl L.nA.m L.nA.F.kp L.nA.b .nil pass0 (pa_cons (pe_call0 GB (hr.mono (by decide)) rfl L.nB.m L.nB.F.kp L.nB.b .nil pass0) pa_nil))))
        (pw_or1 (pt_not (pt_val (pe_call GA (hr.mono (by decide)) rfl L.nA.m L.nA.F.kp L.nA.b .nil pass0 (pa_cons (pe_call GD (hr.mono (by decide)) rfl L.nD.m L.nD.F.kp L.nD.b .nil pass0 (pa_cons pe_str pa_nil)) pa_nil))))))) (pss_one (ps_ret pe_bl)) pss_nil)
      (pss_cons (ps_if (PW.pt (pw_or (pt_cmpR op_notN (pe_nmK (K' := K) (pe_mA0 L.M.n1 (bi_1 L.M.F1) G1 (hr.mono (by decide)))) pe_non (nomark _))
        (pw_or1 (pt_cmpR op_notN (pe_nmK (K' := K) (pe_mA0 L.M.n2 (bi_2 L.M.F2) G2 (hr.mono (by decide)))) pe_non (nomark _))))) (pss_one (ps_ret pe_bl)) pss_nil)
      (pss_cons (ps_for PassesOwn.never rfl (pi_list (pe_lst (pa_cons (pe_ex0 PySem.F.excBase_ValueError n19) (pa_cons (pe_ex1 PySem.F.excBase_ValueError n19 pe_str) pa_nil)))) (pg_name (i := 1) scL.nd rfl (Or.inl rfl))
        (pss_one (ps_if (PW.pt (pw_or (pt_not (pt_val (pe_callB call_isE1 rfl L.T.isi b_isi (pa_cons (pv 1) (pa_cons (pe_bltn (v := .ty "ValueError") rfl L.T.vE b_VE rfl) pa_nil)))))
          (pw_or1 (pt_val (pe_callB (cr_any rfl) rfl L.T.any b_any (pa_cons (pe_call GK (hr.mono (by decide)) rfl L.nK.m L.nK.F.kp L.nK.b .nil pass0 (pa_cons (pv 1) pa_nil)) pa_nil)))))) (pss_one (ps_ret pe_bl)) pss_nil)))
      (pss_cons (ps_for PassesOwn.never rfl (pi_range1 rfl L.T.range (pa_cons (pe_callB (call_max2 rfl) rfl L.T.max b_max (pa_cons (pe_callB (call_min2 rfl) rfl L.T.min b_min (pa_cons (pe_callB call_len_seq rfl L.T.len b_len (pa_cons (pv 0) pa_nil)) (pa_cons pe_int pa_nil))) (pa_cons pe_int pa_nil))) pa_nil)) (pg_name (i := 2) scL.nd rfl (Or.inl rfl)) h1)
      (pss_one (ps_ret (pe_not (pe_callB call_isV rfl L.T.isi b_isi (pa_cons (pe_ve L.T.vE) (pa_cons (pe_glob (v := .ref (c 19)) (u := .ref (c 19)) rfl (L.C.g 19 (by decide)) rfl) pa_nil))))))))), ?_⟩
    refine ⟨rfl, fun p1 H1 xs1 _ S1 L1 N1 R1 => ⟨p1, xs1, rfl, L1, N1, R1, fun H2 S2 => ⟨_, rfl, ?_⟩⟩⟩
    refine iF (by decide) ?_
    refine ⟨⟨_, rfl⟩, fun p3 H3 xs3 _ S3 L3 N3 R3 => ⟨p3, xs3, rfl, L3, N3, R3, fun H4 S4 => ⟨_, rfl, ?_⟩⟩⟩
    refine iF (by decide) ?_
    refine fun a5 H5 S5 ⟨d5, e5, u5⟩ => ⟨a5, _, d5, _, _, rfl, e5, u5, L.M.n1.f, L.M.n1.n, rfl, rfl, _, rfl, ?_⟩
    refine iF (by decide) ?_
    refine fun a6 H6 S6 ⟨d6, e6, u6⟩ => ⟨a6, _, d6, _, _, rfl, e6, u6, L.M.n2.f, L.M.n2.n, rfl, rfl, _, rfl, ?_⟩
    refine iF (by decide) ?_
    have S : Same H H6 := S1.trans (S2.trans (S3.trans (S4.trans (S5.trans S6))))
    refine fun a7 n7 a8 n8 => ⟨len_small (by simp), fun p9 n9 => ?_⟩
    have X7 : IsX (upd H6 a7 (exo a7 (c 19) none)) a7 (c 19) := newX
    have U7 : Same H6 (upd H6 a7 (exo a7 (c 19) none)) := up1 n7
    have X8 : IsX (upd (upd H6 a7 (exo a7 (c 19) none)) a8 (exo a8 (c 19) none)) a8 (c 19) := newX
    have U8 : Same (upd H6 a7 (exo a7 (c 19) none)) (upd (upd H6 a7 (exo a7 (c 19) none)) a8 (exo a8 (c 19) none)) := up1 n8
    have n9' : (upd (upd H6 a7 (exo a7 (c 19) none)) a8 (exo a8 (c 19) none)) p9 = none := n9
    have U9 : Same (upd (upd H6 a7 (exo a7 (c 19) none)) a8 (exo a8 (c 19) none)) (upd (upd (upd H6 a7 (exo a7 (c 19) none)) a8 (exo a8 (c 19) none)) p9 (.lst [.ref a7, .ref a8])) := up1 n9'
    have L9 : upd (upd (upd H6 a7 (exo a7 (c 19) none)) a8 (exo a8 (c 19) none)) p9 (.lst [.ref a7, .ref a8]) p9 = some (.lst [.ref a7, .ref a8]) := upd_same
    replace X7 := X7.mono (U8.trans U9)
    replace X8 := X8.mono U9
    replace S := S.trans (U7.trans (U8.trans U9))
    clear U7 U8 U9 n9 n9' n8 n7
    refine ⟨p9, rfl, ⟨_, .inl (.inl L9)⟩, ?_⟩
    show ∃ W : Nat → Nat → L2.St → Hp → Prop, _
    generalize upd (upd (upd H6 a7 (exo a7 (c 19) none)) a8 (exo a8 (c 19) none)) p9 (.lst [.ref a7, .ref a8]) = G at *
    refine for_list (K := K) (a := p9) (xs := [.ref a7, .ref a8]) (fun i σ H' => ∃ e, σ = [some (.ref l), e, none, none, none, none, none, none, none] ∧ Same G H') ⟨none, rfl, Same.refl G⟩ (fun i σ H' _ ⟨_, _, s⟩ => s.seq (.inl (.inl L9))) ?_ ?_
    · rintro i x σ H' hi ⟨e, rfl, S'⟩
      have hx : ∃ a, x = .ref a ∧ IsX G a (c 19) := by
        match i, hi with
        | 0, hi => exact ⟨a7, by simpa using hi.symm, X7⟩
        | 1, hi => exact ⟨a8, by simpa using hi.symm, X8⟩
        | i + 2, hi => simp at hi
      obtain ⟨a, rfl, hX⟩ := hx
      have hX' := hX.mono S'
      have ty := hX'.ty (L.C.ec 19 (by decide))
      refine ⟨_, rfl, _, _, _, _, _, rfl, .ty _, ty, L.C.kV 19 (by decide), true, rfl, ?_⟩
      refine iF (by decide) ?_
      refine ⟨_, rfl, a, 19, rfl, by decide, hX', fun pk Hk nk Sk Lk => ⟨pk, _, rfl, .inl (.inl (by rw [← kl_bs]; exact Lk)), _, rfl, ?_⟩⟩
      rw [any19]
      refine iF (by decide) ?_
      exact ⟨_, rfl, S'.trans Sk⟩
    · rintro σ H' ⟨e, rfl, S'⟩
      have hl' : SqL K H' l (ns.map V.int) := (S.trans S').seq hl
      refine ⟨_, rfl, l, _, rfl, .inl hl', _, _, rfl, _, _, rfl, ?_⟩
      generalize hm : (if (1 : Int) > (if (3 : Int) < (((ns.map V.int).length : Nat) : Int) then (3 : Int) else (((ns.map V.int).length : Nat) : Int)) then (1 : Int) else (if (3 : Int) < (((ns.map V.int).length : Nat) : Int) then (3 : Int) else (((ns.map V.int).length : Nat) : Int))) = m
      have hm1 : 1 ≤ m ∧ m ≤ 3 := by
        rw [← hm]
        split <;> split <;> omega
      refine ⟨m, rfl, by omega, by omega, ?_⟩
      refine for_range (n := m.toNat) (fun i σ H2 => ∃ tn o tx nm' sm : Option V, σ = [some (.ref l), e, tn, o, tx, nm', sm, none, none] ∧ Same H' H2) ⟨none, none, none, none, none, rfl, Same.refl H'⟩ ?_ ?_
      · rintro i σ H2 hi ⟨tn, o, tx, nm', sm, rfl, S2⟩
        refine q1 _ l ns i e o tx nm' sm H2 (S2.seq hl') (by omega) (fun o' tx' nm2 sm' H3 S3 => ⟨_, o', tx', nm2, sm', rfl, S2.trans S3⟩)
      · rintro σ H2 ⟨tn, o, tx, nm', sm, rfl, S2⟩
        refine fun av nv => ⟨av, c 19, false, rfl, upd_same, hv, ?_⟩
        exact ⟨_, rfl, h _⟩
end
end L54
namespace L54
open PySem PySem.Spec PyProof.Rows L2
/-! ### what the top has written -/
def cF (i : Nat) : Addr := [145, 157, 97, 49, 61, 181, 37, 121, 109, 133, 193, 73, 85, 205, 217, 229, 169, 249, 269, 24].getD i 0
def vB : List Value := [.type "ValueError", .type "Exception", .type "BaseException", .type "object"]
def oB : List Value := [.type "TypeError", .type "LookupError", .type "ArithmeticError", .type "RuntimeError", .type "AttributeError"]
def ecB (K : PySem.W.Frag) (D : Addr) : Bool := decide (PySem.W.findIn K (.ref D) "__getattribute__" = some (some (.builtin "BaseException.__getattribute__"))) && (decide (PySem.W.findIn K (.ref D) "__getattr__" = some none) &&
  (decide (PySem.W.subIn K (.ref D) (.type "BaseException") = some true) && (PySem.W.hasDictIn K D && (decide (PySem.W.findIn K (.ref D) "__class__" = some (some (.builtin "object.__class__"))) &&
  (decide (PySem.W.specialIn K (.builtin "object.__class__") "__get__" = some (some (.builtin "getset_descriptor.__get__"))) && (decide (PySem.W.takesIn K (.builtin "object.__class__") = some true) && decide (PySem.W.mroIn K D (.type "object") = some true)))))))
def csB1 (K : PySem.W.Frag) (i : Nat) : Bool := decide (PySem.W.nsIn K mainGlobals (nm i) = some (some (.ref (cF i)))) && (PySem.W.keepIn K (.ref (cF i)) && (ecB K (cF i) && (i == 17 || i == 18 || PySem.W.excIn K (cF i) vB "ValueError.__new__")))
def csB2 (K : PySem.W.Frag) (i : Nat) : Bool := decide (PySem.W.kitOne K (.ref (cF i)) (.ref (cF 19)) = some true) && (decide (PySem.W.kitOne K (.ref (cF i)) (.type "ValueError") = some true) && (decide (PySem.W.kitAny K (.ref (cF i)) oB = some false) &&
  (List.range 19).all fun j => decide (PySem.W.kitOne K (.ref (cF i)) (.ref (cF j)) = some (decide (i = j)))))
def mfB (K : PySem.W.Frag) (D : Addr) : Bool := decide (PySem.W.findIn K (.ref D) "__setattr__" = some (some (.builtin "object.__setattr__"))) && (decide (PySem.W.typeIn K (.ref D) = some (.type "type")) && decide (PySem.W.findIn K (.ref D) "name" = some none))
def blL : List Str := ["int", "len", "range", "max", "min", "isinstance", "str", "all", "any", "enumerate", "tuple", "ValueError", "TypeError", "LookupError", "ArithmeticError", "RuntimeError", "AttributeError"]
def factsB (K : PySem.W.Frag) : Bool := (List.range 20).all (csB1 K) && ((List.range 20).all (csB2 K) && (mfB K (cF 17) && (mfB K (cF 18) && (decide (PySem.W.kitOne K (.type "ValueError") (.ref (cF 19)) = some false) && blL.all fun x => decide (PySem.W.nsIn K mainGlobals x = some none)))))
theorem and_t {a b : Bool} (h : (a && b) = true) : a = true ∧ b = true := Bool.and_eq_true_iff.mp h
end L54
namespace L54
open PySem PySem.Spec PyProof.Rows L2
def dfL : List (Str × Addr) := [("_law_mixed", 278), ("_law_cell", 285), ("_law_take", 292), ("_law_kinds", 299), ("_law_bare", 306), ("_law_told", 313), ("_law_all_good", 318), ("_law_kept_good", 323), ("_law_held_good", 328), ("law", 333)]
def factsB2 (K : PySem.W.Frag) : Bool := (dfL.all fun q => decide (PySem.W.nsIn K mainGlobals q.1 = some (some (.ref q.2))) && PySem.W.keepIn K (.ref q.2)) && factsB K
section
variable {P : Program} {w : World} {K : PySem.W.Frag} {h : Heap} {mg : Str → Option Value}
theorem ec_of {D : Addr} (e : ecB K D = true) : ExcC K D := by
  obtain ⟨e1, e⟩ := and_t e
  obtain ⟨e2, e⟩ := and_t e
  obtain ⟨e3, e⟩ := and_t e
  obtain ⟨e4, e⟩ := and_t e
  obtain ⟨e5, e⟩ := and_t e
  obtain ⟨e6, e⟩ := and_t e
  obtain ⟨e7, e8⟩ := and_t e
  exact ⟨of_decide_eq_true e1, of_decide_eq_true e2, of_decide_eq_true e3, e4, of_decide_eq_true e5, of_decide_eq_true e6, of_decide_eq_true e7, of_decide_eq_true e8⟩
theorem all20 {p : Nat → Bool} {n : Nat} (e : (List.range n).all p = true) (i : Nat) (hi : i < n) : p i = true := List.all_eq_true.mp e i (List.mem_range.mpr hi)
theorem cs_of (X : K.In h) (G : h.Ns mainGlobals mg) (e1 : (List.range 20).all (csB1 K) = true) (e2 : (List.range 20).all (csB2 K) = true) : Cs K mg cF := by
  refine ⟨fun i hi => ?_, fun i hi h1 h2 => ?_, fun i hi => ?_, fun i hi => ?_, fun i j hi hj => ?_, fun i hi => ?_, fun i hi => ?_, fun i hi => ?_⟩
  · exact PySem.W.mg_of X G (of_decide_eq_true (and_t (all20 e1 i hi)).1)
  · have z := (and_t (and_t (and_t (all20 e1 i hi)).2).2).2
    rw [beq_false_of_ne h1, beq_false_of_ne h2] at z
    exact z
  · exact (and_t (and_t (all20 e1 i hi)).2).1
  · exact ec_of (and_t (and_t (and_t (all20 e1 i hi)).2).2).1
  · exact of_decide_eq_true (all20 (and_t (and_t (and_t (all20 e2 i hi)).2).2).2 j hj)
  · exact of_decide_eq_true (and_t (all20 e2 i hi)).1
  · exact of_decide_eq_true (and_t (and_t (all20 e2 i hi)).2).1
  · exact of_decide_eq_true (and_t (and_t (and_t (all20 e2 i hi)).2).2).1
theorem bl_of (X : K.In h) (G : h.Ns mainGlobals mg) (e : (blL.all fun x => decide (PySem.W.nsIn K mainGlobals x = some none)) = true) : Bl mg := by
  have z : ∀ x ∈ blL, mg x = none := fun x hx => PySem.W.mg_none_of X G (of_decide_eq_true (List.all_eq_true.mp e x hx))
  exact ⟨z _ (by decide +kernel), z _ (by decide +kernel), z _ (by decide +kernel), z _ (by decide +kernel), z _ (by decide +kernel), z _ (by decide +kernel), z _ (by decide +kernel), z _ (by decide +kernel), z _ (by decide +kernel), z _ (by decide +kernel), z _ (by decide +kernel), z _ (by decide +kernel), z _ (by decide +kernel), z _ (by decide +kernel), z _ (by decide +kernel), z _ (by decide +kernel), z _ (by decide +kernel)⟩
theorem fn1 {x : Str} {st : Stmt} {ps : List Str} {f : Addr} (X : K.In h) (G : h.Ns mainGlobals mg) (e : (dfL.all fun q => decide (PySem.W.nsIn K mainGlobals q.1 = some (some (.ref q.2))) && PySem.W.keepIn K (.ref q.2)) = true) (m : (x, f) ∈ dfL)
    {oc : Value} {od an : Option Addr} {osl : Array (Option Value)} {kV doc pm cdv ct : Value} (l : K.lookup f = some ⟨oc, od, .func (PySem.W.fnOf x x (defArgs st) (defBody st) (defScope st) .none kV doc pm an cdv ct), osl⟩) (k : PySem.W.codeIn K cdv x = true)
    (b : ∀ (kV doc pm : Value) (an : Option Addr) (cdv ct : Value) (us : List Value), us.length = ps.length → bindArgs (PySem.W.fnOf x x (defArgs st) (defBody st) (defScope st) .none kV doc pm an cdv ct) ⟨us, []⟩ = pure (ps.zip us)) :
    ∃ F : Fn1 K mg x st ps, F.f = f := by
  have z := List.all_eq_true.mp e _ m
  have F := fun_mk (st := st) l k (and_t z).2
  exact ⟨⟨f, _, F, F.binds b, PySem.W.mg_of X G (of_decide_eq_true (and_t z).1)⟩, rfl⟩
theorem xf_of {D : Addr} (e : ecB K D = true) : XfC K D := ⟨(ec_of e).hg, (ec_of e).hk, (ec_of e).hs, (ec_of e).hd⟩
theorem all_mk (X : K.In h) (G : h.Ns mainGlobals mg) {fa : Addr} (hfa : mg "law" = some (.ref fa)) (B : factsB2 K = true)
    {oc0 : Value} {od0 an0 : Option Addr} {sl0 : Array (Option Value)} {kV0 dc0 pm0 cd0 ct0 : Value} (l0 : K.lookup 278 = some ⟨oc0, od0, .func (PySem.W.fnOf "_law_mixed" "_law_mixed" (defArgs sMixed) (defBody sMixed) (defScope sMixed) .none kV0 dc0 pm0 an0 cd0 ct0), sl0⟩) (c0 : PySem.W.codeIn K cd0 "_law_mixed" = true)
    {oc1 : Value} {od1 an1 : Option Addr} {sl1 : Array (Option Value)} {kV1 dc1 pm1 cd1 ct1 : Value} (l1 : K.lookup 285 = some ⟨oc1, od1, .func (PySem.W.fnOf "_law_cell" "_law_cell" (defArgs sCell) (defBody sCell) (defScope sCell) .none kV1 dc1 pm1 an1 cd1 ct1), sl1⟩) (c1 : PySem.W.codeIn K cd1 "_law_cell" = true)
    {oc2 : Value} {od2 an2 : Option Addr} {sl2 : Array (Option Value)} {kV2 dc2 pm2 cd2 ct2 : Value} (l2 : K.lookup 292 = some ⟨oc2, od2, .func (PySem.W.fnOf "_law_take" "_law_take" (defArgs sTake) (defBody sTake) (defScope sTake) .none kV2 dc2 pm2 an2 cd2 ct2), sl2⟩) (c2 : PySem.W.codeIn K cd2 "_law_take" = true)
    {oc3 : Value} {od3 an3 : Option Addr} {sl3 : Array (Option Value)} {kV3 dc3 pm3 cd3 ct3 : Value} (l3 : K.lookup 299 = some ⟨oc3, od3, .func (PySem.W.fnOf "_law_kinds" "_law_kinds" (defArgs sKinds) (defBody sKinds) (defScope sKinds) .none kV3 dc3 pm3 an3 cd3 ct3), sl3⟩) (c3 : PySem.W.codeIn K cd3 "_law_kinds" = true)
    {oc4 : Value} {od4 an4 : Option Addr} {sl4 : Array (Option Value)} {kV4 dc4 pm4 cd4 ct4 : Value} (l4 : K.lookup 306 = some ⟨oc4, od4, .func (PySem.W.fnOf "_law_bare" "_law_bare" (defArgs sBare) (defBody sBare) (defScope sBare) .none kV4 dc4 pm4 an4 cd4 ct4), sl4⟩) (c4 : PySem.W.codeIn K cd4 "_law_bare" = true)
    {oc5 : Value} {od5 an5 : Option Addr} {sl5 : Array (Option Value)} {kV5 dc5 pm5 cd5 ct5 : Value} (l5 : K.lookup 313 = some ⟨oc5, od5, .func (PySem.W.fnOf "_law_told" "_law_told" (defArgs sTold) (defBody sTold) (defScope sTold) .none kV5 dc5 pm5 an5 cd5 ct5), sl5⟩) (c5 : PySem.W.codeIn K cd5 "_law_told" = true)
    {oc6 : Value} {od6 an6 : Option Addr} {sl6 : Array (Option Value)} {kV6 dc6 pm6 cd6 ct6 : Value} (l6 : K.lookup 318 = some ⟨oc6, od6, .func (PySem.W.fnOf "_law_all_good" "_law_all_good" (defArgs sAll) (defBody sAll) (defScope sAll) .none kV6 dc6 pm6 an6 cd6 ct6), sl6⟩) (c6 : PySem.W.codeIn K cd6 "_law_all_good" = true)
    {oc7 : Value} {od7 an7 : Option Addr} {sl7 : Array (Option Value)} {kV7 dc7 pm7 cd7 ct7 : Value} (l7 : K.lookup 323 = some ⟨oc7, od7, .func (PySem.W.fnOf "_law_kept_good" "_law_kept_good" (defArgs sKept) (defBody sKept) (defScope sKept) .none kV7 dc7 pm7 an7 cd7 ct7), sl7⟩) (c7 : PySem.W.codeIn K cd7 "_law_kept_good" = true)
    {oc8 : Value} {od8 an8 : Option Addr} {sl8 : Array (Option Value)} {kV8 dc8 pm8 cd8 ct8 : Value} (l8 : K.lookup 328 = some ⟨oc8, od8, .func (PySem.W.fnOf "_law_held_good" "_law_held_good" (defArgs sHeld) (defBody sHeld) (defScope sHeld) .none kV8 dc8 pm8 an8 cd8 ct8), sl8⟩) (c8 : PySem.W.codeIn K cd8 "_law_held_good" = true)
    {oc9 : Value} {od9 an9 : Option Addr} {sl9 : Array (Option Value)} {kV9 dc9 pm9 cd9 ct9 : Value} (l9 : K.lookup 333 = some ⟨oc9, od9, .func (PySem.W.fnOf "law" "law" (defArgs sLaw) (defBody sLaw) (defScope sLaw) .none kV9 dc9 pm9 an9 cd9 ct9), sl9⟩) (c9 : PySem.W.codeIn K cd9 "law" = true)
    {uc0 : Value} {ud0 un0 : Option Addr} {ul0 : Array (Option Value)} {uV0 uo0 up0 ue0 ut0 : Value} {f0 T0 : Addr} (i0 : PySem.W.findIn K (.ref 249) "__init__" = some (some (.ref f0))) (j0 : K.lookup f0 = some ⟨uc0, ud0, .func (PySem.W.fnOf "__init__" "Missing.__init__" (defArgs sI1) (defBody sI1) (defScope sI1) (.ref T0) uV0 uo0 up0 un0 ue0 ut0), ul0⟩) (k0 : PySem.W.codeIn K ue0 "Missing.__init__" = true)
    (q0 : PySem.W.keepIn K (.ref f0) = true) (t0 : PySem.W.typeIn K (.ref f0) = some (.type "function")) {tc0 : Value} {td0 : Option Addr} {tn0 : Nat} {tl0 : Array (Option Value)} (d0 : K.lookup T0 = some ⟨tc0, td0, .seq [Value.none].toArray tn0, tl0⟩)
    {nm0 qn0 : Str} {N0 : Addr} {bs0 : List Value} {sn0 : List Str} {su0 : List Value} {ab0 : Bool} {co0 : Option Bool} {dd0 : Option Addr} {m00 m01 m02 m03 m05 : Option Value} (x0 : K.lookup 249 = some (excClassObj nm0 qn0 249 N0 bs0 [.ref 24, .type "ValueError", .type "Exception", .type "BaseException", .type "object"] true sn0 su0 ab0 co0 dd0 m00 m01 m02 m03 m05 "ValueError.__new__"))
    {uc1 : Value} {ud1 un1 : Option Addr} {ul1 : Array (Option Value)} {uV1 uo1 up1 ue1 ut1 : Value} {f1 T1 : Addr} (i1 : PySem.W.findIn K (.ref 269) "__init__" = some (some (.ref f1))) (j1 : K.lookup f1 = some ⟨uc1, ud1, .func (PySem.W.fnOf "__init__" "Lost.__init__" (defArgs sI2) (defBody sI2) (defScope sI2) (.ref T1) uV1 uo1 up1 un1 ue1 ut1), ul1⟩) (k1 : PySem.W.codeIn K ue1 "Lost.__init__" = true)
    (q1 : PySem.W.keepIn K (.ref f1) = true) (t1 : PySem.W.typeIn K (.ref f1) = some (.type "function")) {tc1 : Value} {td1 : Option Addr} {tn1 : Nat} {tl1 : Array (Option Value)} (d1 : K.lookup T1 = some ⟨tc1, td1, .seq [Value.none].toArray tn1, tl1⟩)
    {nm1 qn1 : Str} {N1 : Addr} {bs1 : List Value} {sn1 : List Str} {su1 : List Value} {ab1 : Bool} {co1 : Option Bool} {dd1 : Option Addr} {m10 m11 m12 m13 m15 : Option Value} (x1 : K.lookup 269 = some (excClassObj nm1 qn1 269 N1 bs1 [.ref 24, .type "ValueError", .type "Exception", .type "BaseException", .type "object"] true sn1 su1 ab1 co1 dd1 m10 m11 m12 m13 m15 "ValueError.__new__"))
    : ∃ fd : FuncData, (∀ (s : Shared) (u : Value), BindsTo s fd ⟨[u], []⟩ [("script", u)]) ∧ ∀ base : Heap, K.In base → base.Ns mainGlobals mg → FnG P w K mg base 4 fa fd ["script"] (spLaw K) := by
  obtain ⟨B0, B⟩ := and_t B
  obtain ⟨B1, B⟩ := and_t B
  obtain ⟨B2, B⟩ := and_t B
  obtain ⟨B3, B⟩ := and_t B
  obtain ⟨B4, B⟩ := and_t B
  obtain ⟨B5, B6⟩ := and_t B
  have C := cs_of X G B1 B2
  have T := bl_of X G B6
  obtain ⟨F0, eF0⟩ := fn1 (x := "_law_mixed") (st := sMixed) (ps := ["cell", "k"]) X G B0 (by decide +kernel) l0 c0 (fun _ _ _ _ _ _ us hl => match us, hl with | [_, _], _ => rfl)
  obtain ⟨F1, eF1⟩ := fn1 (x := "_law_cell") (st := sCell) (ps := ["script", "k"]) X G B0 (by decide +kernel) l1 c1 (fun _ _ _ _ _ _ us hl => match us, hl with | [_, _], _ => rfl)
  obtain ⟨F2, eF2⟩ := fn1 (x := "_law_take") (st := sTake) (ps := ["own", "options"]) X G B0 (by decide +kernel) l2 c2 (fun _ _ _ _ _ _ us hl => match us, hl with | [_, _], _ => rfl)
  obtain ⟨F3, eF3⟩ := fn1 (x := "_law_kinds") (st := sKinds) (ps := ["error"]) X G B0 (by decide +kernel) l3 c3 (fun _ _ _ _ _ _ us hl => match us, hl with | [_], _ => rfl)
  obtain ⟨F4, eF4⟩ := fn1 (x := "_law_bare") (st := sBare) (ps := []) X G B0 (by decide +kernel) l4 c4 (fun _ _ _ _ _ _ us hl => match us, hl with | [], _ => rfl)
  obtain ⟨F5, eF5⟩ := fn1 (x := "_law_told") (st := sTold) (ps := ["one"]) X G B0 (by decide +kernel) l5 c5 (fun _ _ _ _ _ _ us hl => match us, hl with | [_], _ => rfl)
  obtain ⟨F6, eF6⟩ := fn1 (x := "_law_all_good") (st := sAll) (ps := ["errors"]) X G B0 (by decide +kernel) l6 c6 (fun _ _ _ _ _ _ us hl => match us, hl with | [_], _ => rfl)
  obtain ⟨F7, eF7⟩ := fn1 (x := "_law_kept_good") (st := sKept) (ps := ["thing"]) X G B0 (by decide +kernel) l7 c7 (fun _ _ _ _ _ _ us hl => match us, hl with | [_], _ => rfl)
  obtain ⟨F8, eF8⟩ := fn1 (x := "_law_held_good") (st := sHeld) (ps := ["text", "number"]) X G B0 (by decide +kernel) l8 c8 (fun _ _ _ _ _ _ us hl => match us, hl with | [_, _], _ => rfl)
  obtain ⟨F9, eF9⟩ := fn1 (x := "law") (st := sLaw) (ps := ["script"]) X G B0 (by decide +kernel) l9 c9 (fun _ _ _ _ _ _ us hl => match us, hl with | [_], _ => rfl)
  obtain ⟨y01, y0⟩ := and_t B3
  obtain ⟨y02, y03⟩ := and_t y0
  have O0 : OexC K (cF 17) := ⟨⟨_, _, _, _, _, _, _, _, _, _, _, _, _, _, _, x0, by decide +kernel⟩, of_decide_eq_true y01, (C.ec 17 (by decide)).hs, of_decide_eq_true y02, C.kp 17 (by decide)⟩
  have E0 : ExF K mg "Missing" (cF 17) f0 := ⟨O0, C.g 17 (by decide), i0, t0, of_decide_eq_true y03, ⟨(C.ec 17 (by decide)).hg, (C.ec 17 (by decide)).hk, (C.ec 17 (by decide)).hs, (C.ec 17 (by decide)).hd⟩⟩
  have D0 : FunD K "__init__" "Missing.__init__" (defArgs sI1) (defBody sI1) (defScope sI1) [.non] [] f0 _ := ⟨⟨_, _, _, _, _, _, _, _, _, _, rfl, j0, k0, .inr ⟨by simp, T0, _, [Value.none], _, rfl, d0, rfl, .cons rfl .nil⟩, .inl rfl⟩, q0⟩
  obtain ⟨y11, y1⟩ := and_t B4
  obtain ⟨y12, y13⟩ := and_t y1
  have O1 : OexC K (cF 18) := ⟨⟨_, _, _, _, _, _, _, _, _, _, _, _, _, _, _, x1, by decide +kernel⟩, of_decide_eq_true y11, (C.ec 18 (by decide)).hs, of_decide_eq_true y12, C.kp 18 (by decide)⟩
  have E1 : ExF K mg "Lost" (cF 18) f1 := ⟨O1, C.g 18 (by decide), i1, t1, of_decide_eq_true y13, ⟨(C.ec 18 (by decide)).hg, (C.ec 18 (by decide)).hk, (C.ec 18 (by decide)).hs, (C.ec 18 (by decide)).hd⟩⟩
  have D1 : FunD K "__init__" "Lost.__init__" (defArgs sI2) (defBody sI2) (defScope sI2) [.non] [] f1 _ := ⟨⟨_, _, _, _, _, _, _, _, _, _, rfl, j1, k1, .inr ⟨by simp, T1, _, [Value.none], _, rfl, d1, rfl, .cons rfl .nil⟩, .inl rfl⟩, q1⟩
  have L : Lw K mg cF := ⟨T, C, f0, f1, _, _, ⟨E0, E1, D0, D1⟩, F0, F1, F2, F3, F4, F5, F6, F7, F8⟩
  have e := hfa.symm.trans F9.m
  cases e
  obtain ⟨f, fd, Ff, Fb, Fm⟩ := F9
  exact ⟨fd, fun s u => by
    obtain ⟨oc, od, kV, doc, pm, an, cdv, ct, osl, rfl, _⟩ := Ff.ex
    exact .of_eq rfl, fun base _ _ => ok_law L (of_decide_eq_true B5) Ff⟩
end
end L54
open PySem PySem.W PyProof.Rows
set_option maxRecDepth 100000 in
set_option maxHeartbeats 0 in
theorem PySem.Challenge.cw_lasttouch_k54_errors_created_holds : PySem.Challenge.rw_lasttouch_k54_errors_created.Holds := by
  w_on; o_law; k_head; (case hw => w_witness2)
  k_fill
  refine L54.walk54 (l := PySem.Challenge.rw_lasttouch_k54_errors_created) (k := 4) (x := "script") (sp := L54.spLaw) rfl (by decide) rfl ⟨rfl, by decide, by decide⟩ (fun w h Y => PySem.W.kIn_of Y) ?F (fun K H a ns hl hO hS => ⟨a, ns, rfl, hS, hO, fun _ => rfl⟩)
  case F =>
    intro w mg fa h KX G hmg
    refine' L54.all_mk KX G hmg ?B ?l0 ?c0 ?l1 ?c1 ?l2 ?c2 ?l3 ?c3 ?l4 ?c4 ?l5 ?c5 ?l6 ?c6 ?l7 ?c7 ?l8 ?c8 ?l9 ?c9 ?i0 ?j0 ?k0 ?q0 ?t0 ?d0 ?x0 ?i1 ?j1 ?k1 ?q1 ?t1 ?d1 ?x1
    (case B => kernel_rfl)
    (case l0 => k_is)
    (case c0 => k_is)
    (case l1 => k_is)
    (case c1 => k_is)
    (case l2 => k_is)
    (case c2 => k_is)
    (case l3 => k_is)
    (case c3 => k_is)
    (case l4 => k_is)
    (case c4 => k_is)
    (case l5 => k_is)
    (case c5 => k_is)
    (case l6 => k_is)
    (case c6 => k_is)
    (case l7 => k_is)
    (case c7 => k_is)
    (case l8 => k_is)
    (case c8 => k_is)
    (case l9 => k_is)
    (case c9 => k_is)
    (case i0 => k_is)
    (case j0 => k_is)
    (case k0 => k_is)
    (case q0 => k_is)
    (case t0 => k_is)
    (case d0 => k_is)
    (case x0 => k_is)
    (case i1 => k_is)
    (case j1 => k_is)
    (case k1 => k_is)
    (case q1 => k_is)
    (case t1 => k_is)
    (case d1 => k_is)
    (case x1 => k_is)
