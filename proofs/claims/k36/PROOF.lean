import PyProof.Rows.All
import Wide.All
import OpenK.AllK
import Wide.FinOn
import KE.KExcInit
import HandS.ForMost
import HandS.Exc
import HandS.ExcInit
import HandS.IsInst
import HandS.Defaults
import HandS.MakeKw
import HandS.FStr
import HandS.RaiseMore
import HandS.ExcIs
import KE.KExcIs
import PyProof.FactsAll.bool_1
import KE.KCallOwn
import PyProof.InstEq
import HandS.Property
import HandS.Gcd
import HandS.MakeKwOnly
import KE.KTryMore
import HandS.HotCalls
import HandS.ExcField
import HandS.Codes
import HandS.Walk
import HandS.Zip
import HandS.Style
import HandS.Lambda
import KE.KFmtOwn
import KE.KOpsOwn
import HandS.Wide
import HandS.WordsExc
import HandS.StrMore
import PyProof.StrLawsAffix
import PyProof.StrBlockL
import HandS.Star
import HandS.OwnEq
import HandS.Iter
import HandS.DictTup
import HandS.ListItems
import HandS.More
import KE.KDictDisplayH
import KE.KDictCopyH
import KE.KDictOf
import HandS.Conv
import HandS.TupAny
import HandS.EndTab
import HandS.HeadWalk
import KE.KNestM
import PySem.Challenge.RW_unseenslopes_k36_curves_made
set_option Elab.async false
set_option linter.all false
set_option maxRecDepth 100000
set_option maxHeartbeats 4000000
/-! Own error classes over any built-in base: called with keywords too, held as values, their fields. -/
namespace Ux
open PySem PySem.Calls PySem.W
open Builtin Builtin.ObjectAttr
section
variable {M : Model} {prog : Program} {w : World} {A : Around} {E : Value → Shared → Prop} {h : Heap} {g : Array GenState} {d : Drawn} {t : Nat} {os : OsState}
variable {nm q : Str} {C N : Addr} {bs bm bmB : List Value} {hdct : Bool} {sn : List Str} {sub : List Value} {ab : Bool} {col : Option Bool} {dd : Option Addr} {k0 k1 k2 k3 k5 : Option Value} {B newId initId : String}
/-- the class object as the built-in rules read it -/
abbrev ClsO (nm q : Str) (C N : Addr) (bs bm : List Value) (hdct : Bool) (sn : List Str) (sub : List Value) (ab : Bool) (col : Option Bool) (dd : Option Addr) (k0 k1 k2 k3 k5 : Option Value) (newId : String) : Obj := excClassObj nm q C N bs bm hdct sn sub ab col dd k0 k1 k2 k3 k5 newId
theorem kw_check (F : ExcBaseFacts B newId initId bmB) (hT : ∀ Y : String, bm.contains (.type Y) = bmB.contains (.type Y)) {rest : List Value} {kw : List (Str × Value)} {Q : Unit → Shared → Prop}
    (oc : h.get? C = some (ClsO nm q C N bs bm hdct sn sub ab col dd k0 k1 k2 k3 k5 newId)) (z : Q () ⟨h, g, d, t, os⟩) : wpAny M A (checkBuiltinCall newId ⟨.ref C :: rest, kw⟩) Q E ⟨h, g, d, t, os⟩ := by
  have inB : (Value.ref C :: bm).contains (.type B) = true := by rw [List.contains_cons, hT B, F.hasB, Bool.or_true]
  have star := F.noStar
  simp only [checkBuiltinCall, F.newKind, F.newSplit, F.newRow]
  repeat (first
    | refine wpAny_loadPart_at oc ?_
    | (refine wpAny_isSubtype_exc oc ?_; rw [inB])
    | refine wpAny_staticBase_exc oc ?_
    | refine wpAny_madeBy_exc oc ?_
    | simp only [bne_self_eq_false, Bool.false_eq_true, if_false]
    | wp_step)
  exact z
theorem kw_new {R : Result → Shared → Prop} (F : ExcBaseFacts B newId initId bmB) (hT : ∀ Y : String, bm.contains (.type Y) = bmB.contains (.type Y)) {rest : List Value} {kw : List (Str × Value)}
    (oc : h.get? C = some (ClsO nm q C N bs bm hdct sn sub ab col dd k0 k1 k2 k3 k5 newId)) (z : R (.ok (.ret (.ref (h.objs.size + 1)))) ⟨(h.push (kdv_tup rest)).push (excObj C h.objs.size none .none), g, d, t, os⟩) (hz : rest.length ≤ sizeLine) :
    codeAny (model prog w) A (.builtin newId ⟨.ref C :: rest, kw⟩) R ⟨h, g, d, t, os⟩ := by
  have ends := F.ends
  have inB : (Value.ref C :: bm).contains (.type B) = true := by rw [List.contains_cons, hT B, F.hasB, Bool.or_true]
  have inA : (Value.ref C :: bm).contains (.type "AttributeError") = false := by rw [List.contains_cons, hT _, F.noAttr]; rfl
  have inN : (Value.ref C :: bm).contains (.type "NameError") = false := by rw [List.contains_cons, hT _, F.noName]; rfl
  refine codeAny_builtinAt F.entry ?_
  unfold Builtin.«BaseException.__new__»
  refine wpAt_bind ?_
  show wpAt _ _ _ (stack >>= _) _ _ _
  refine wpAt_bind (wpAt_stack fun p below => wpAt_of_wpAny ?_)
  wp_walk
  refine wpAt_of_wpAny ?_
  rw [F.owner]
  repeat (first
    | with_reducible refine wpAny_madeHere_exc F.canon oc ?_
    | with_reducible refine wpAny_loadPart_at oc ?_
    | (with_reducible refine wpAny_isSubtype_exc oc ?_; first | rw [inB] | rw [inA] | rw [inN])
    | wp_step)
  show R _ _
  rw [Heap.size_push]
  exact z
theorem kw_typecall (F : ExcBaseFacts B newId initId bmB) (hT : ∀ Y : String, bm.contains (.type Y) = bmB.contains (.type Y)) {rest : List Value} {kw : List (Str × Value)} {fI : Addr} {Q : Fin → Shared → Prop}
    (oc : h.get? C = some (ClsO nm q C N bs bm hdct sn sub ab col dd k0 k1 k2 k3 k5 newId)) (li : Looks (model prog w) h (typeLookup (.ref C) "__init__") (some (.ref fI)))
    (lb : ∀ self, Looks (model prog w) h (bindSpecial (.ref fI) self) (.ref fI, [self])) (hz : rest.length ≤ sizeLine)
    (z : codeAny (model prog w) A (.call (.ref fI) ⟨.ref (h.objs.size + 1) :: rest, kw⟩) (fun r s' => match r with | .ok (.ret v) => v = .none ∧ Q (.done (.ret (.ref (h.objs.size + 1)))) s' | .ok _ => False | .error e => E e s')
      ⟨(h.push (kdv_tup rest)).push (excObj C h.objs.size none .none), g, d, t, os⟩) :
    wpAny (model prog w) A (Builtin.«type.__call__» ⟨.ref C :: rest, kw⟩) Q E ⟨h, g, d, t, os⟩ := by
  repeat (first
    | with_reducible refine wpAny_loadPart_at oc ?_
    | with_reducible refine wpAny_madeBy_exc oc ?_
    | wp_step)
  refine codeAny_call_builtin_code (Code.quiet_builtin _ F.quiet) (kw_check F hT oc ?_)
  refine kw_new F hT oc ?_ hz
  show wpAny _ _ _ _ _ _
  have stays : ∀ b o, h.get? b = some o → ((h.push (kdv_tup rest)).push (excObj C h.objs.size none .none)).get? b = some o := fun b o y => Heap.get?_push_of_some _ (Heap.get?_push_of_some _ y)
  have oc' := stays _ _ oc
  have made : ((h.push (kdv_tup rest)).push (excObj C h.objs.size none .none)).get? (h.objs.size + 1) = some (excObj C h.objs.size none .none) := by heap_get
  have inC : (Value.ref C :: bm).contains (.ref C) = true := by simp
  have i1 := li.keeps stays
  have b1 := (lb (.ref (h.objs.size + 1))).keeps stays
  unfold isInstance
  repeat (first
    | with_reducible refine wpAny_loadPart_at made ?_
    | (with_reducible refine wpAny_isSubtype_exc oc' ?_; rw [inC])
    | wp_step)
  show wpAny _ _ (typeLookup (.ref C) _) _ _ _
  refine i1.at ?_
  refine wpAny_holding (wpAny_bind (b1.at ?_))
  refine wpAny_bind (wpAny_call (codeAny_mono z fun r s' y => ?_))
  rcases r with e | (v | _ | _ | _) <;> first | exact y | exact y.elim | skip
  obtain ⟨rfl, y⟩ := y
  first
    | exact wpAny_pure (wpAny_pure y)
    | (wp_walk; exact y)
theorem kw_call {R : Result → Shared → Prop} (F : ExcBaseFacts B newId initId bmB) (hT : ∀ Y : String, bm.contains (.type Y) = bmB.contains (.type Y)) {rest : List Value} {kw : List (Str × Value)} {fI : Addr}
    (oc : h.get? C = some (ClsO nm q C N bs bm hdct sn sub ab col dd k0 k1 k2 k3 k5 newId)) (li : Looks (model prog w) h (typeLookup (.ref C) "__init__") (some (.ref fI)))
    (lb : ∀ self, Looks (model prog w) h (bindSpecial (.ref fI) self) (.ref fI, [self])) (hz : rest.length ≤ sizeLine)
    (z : codeAny (model prog w) (A.under (.builtin "type.__call__" ⟨.ref C :: rest, kw⟩)) (.call (.ref fI) ⟨.ref (h.objs.size + 1) :: rest, kw⟩) (InitBack (h.objs.size + 1) R)
      ⟨(h.push (kdv_tup rest)).push (excObj C h.objs.size none .none), g, d, t, os⟩) :
    codeAny (model prog w) A (.call (.ref C) ⟨rest, kw⟩) R ⟨h, g, d, t, os⟩ := by
  have f1 := tc_lookup
  have f2 := tc_bind (.ref C)
  have ty : (⟨h, g, d, t, os⟩ : Shared).TypeIs (.ref C) "type" := ⟨_, oc, rfl⟩
  refine codeAny_of_tree ?_
  show wpAny _ _ (callAny (.ref C) _) _ _ _
  repeat (any_goals (first
    | assumption
    | with_reducible refine wpAny_loadPart_at oc ?_
    | wp_step))
  refine ⟨rfl, ?_⟩
  refine codeAny_call_builtin_at (Code.quiet_builtin _ (by decide +kernel)) entry_typeCall (wpAny_check_type_call_sub oc (kw_typecall F hT oc li lb hz ?_))
  refine codeAny_mono z fun r s' y => ?_
  rcases r with e | (v | _ | _ | _) <;> exact y
end
end Ux

set_option Elab.async false
set_option linter.all false
set_option maxRecDepth 100000
set_option maxHeartbeats 4000000
namespace Ux
open PySem PySem.Calls PySem.W
section
variable {prog : Program} {w : World} {A : Around} {E : Value → Shared → Prop} {R : Result → Shared → Prop} {hp : Heap} {g : Array GenState} {d : Drawn} {t : Nat} {os : OsState}
variable {K : Frag} {B : String} {bmB : List Value} {name : Str} {tk : Tok} {v : Value} {x C : Addr}
theorem taker_of (n : findIn K (.ref C) name = some none) : takerIn K C name = some none := by
  unfold takerIn
  rw [n]
  rfl
/-- the first field of an exception -/
theorem put_first {t0 : Addr} (SF : StoreFacts B bmB "object.__setattr__" "object") (IN : K.In hp) (ex : hp.get? x = some (excObj C t0 none .none)) (ov : excOver K C bmB = true) (nf : findIn K (.ref C) name = some none) (hd : hasDictIn K C = true)
    (z : ∀ h' tk' dx, (∀ b o, b ≠ x → hp.get? b = some o → h'.get? b = some o) → hp.objs.size ≤ dx → dx ≠ x → h'.get? x = some (excObj C t0 (some dx) .none) → h'.Ns1 dx (fun y => if y = name then some v else none) → R (.ok (.ret .none)) ⟨h', g, d, tk', os⟩) :
    codeAny (model prog w) A (.call (.builtin "object.__setattr__") ⟨[.ref x, .str name tk, v], []⟩) R ⟨hp, g, d, t, os⟩ := by
  refine osa_openX (s := ⟨hp, g, d, t, os⟩) (od := none) SF IN ⟨ex, rfl, rfl, trivial⟩ ov (taker_of nf) fun b => ?_
  obtain ⟨cd, hc, hdc⟩ := any_some hd
  have lx := Heap.lt_size ex
  have nx : hp.objs.size ≠ x := Nat.ne_of_gt lx
  have ex1 : (hp.push (dictOf [] 0)).get? x = some (excObj C t0 none .none) := Heap.get?_push_of_some _ ex
  refine wpAny_bind (wpAny_pure (wpAny_bind (instanceDict_exc (s := ⟨hp, g, d, t, os⟩) ex (looks_clsIn IN hc) hdc ?_)))
  show wpAny _ _ (Builtin.ObjectAttr.storeInDict hp.objs.size (.str name tk) name v) _ _ _
  refine HandSPX.store_in_new ⟨_, #[], _, (Heap.get?_update_ne _ _ _ _ nx).trans (Heap.get?_push_at rfl rfl), rfl, fun e he => absurd he (by simp), fun _ => rfl⟩ fun h' tk' hn same => ?_
  refine z h' tk' hp.objs.size (fun b o nb ho => ?_) (Nat.le_refl _) nx ?_ hn
  · exact (same.2 b (Nat.ne_of_lt (Heap.lt_size ho))).trans ((Heap.get?_update_ne _ _ _ _ nb).trans (Heap.get?_push_of_some _ ho))
  · exact (same.2 x nx.symm).trans (Heap.get?_update_self _ ex1 rfl)
/-- a further one -/
theorem put_more {t0 dx : Addr} {m0 : Str → Option Value} {ns : List Str} (SF : StoreFacts B bmB "object.__setattr__" "object") (IN : K.In hp) (ex : hp.get? x = some (excObj C t0 (some dx) .none)) (hn : hp.Ns1 dx m0) (hw : Within m0 ns) (hz : ns.length ≤ 1000)
    (ov : excOver K C bmB = true) (nf : findIn K (.ref C) name = some none) (hd : hasDictIn K C = true)
    (z : ∀ h' tk', (∀ b o, b ≠ dx → hp.get? b = some o → h'.get? b = some o) → h'.Ns1 dx (fun y => if y = name then some v else m0 y) → R (.ok (.ret .none)) ⟨h', g, d, tk', os⟩) :
    codeAny (model prog w) A (.call (.builtin "object.__setattr__") ⟨[.ref x, .str name tk, v], []⟩) R ⟨hp, g, d, t, os⟩ := by
  obtain ⟨oD, _, _, hoD, _, _⟩ := hn.count hw
  refine osa_openX (s := ⟨hp, g, d, t, os⟩) (od := some oD) SF IN ⟨ex, rfl, rfl, hoD⟩ ov (taker_of nf) fun b => ?_
  obtain ⟨cd, hc, hdc⟩ := any_some hd
  refine wpAny_bind (wpAny_pure (wpAny_bind (wpAny_bind (wpAny_loadPart ex (wpAny_bind ((looks_clsIn IN hc).here ?_))))))
  rw [hdc]
  refine wpAny_pure (a := some dx) ?_
  exact OEX.store_in_old hn hw hz fun h' tk' hn' same => z h' tk' (fun b o nb ho => (same.2 b nb).trans ho) hn'
end
end Ux

namespace Ux
open PySem PySem.Spec PyProof.Rows L2
/-- what the written part says of an error class over the built-in B -/
structure Ec (K : PySem.W.Frag) (B newId initId : String) (bmB : List Value) (C : Addr) : Prop where
  FB : ExcBaseFacts B newId initId bmB
  SF : StoreFacts B bmB "object.__setattr__" "object"
  ini : PySem.W.excInitIn K C bmB newId = true
  ovr : PySem.W.excOver K C bmB = true
  hdc : PySem.W.hasDictIn K C = true
  sa : PySem.W.findIn K (.ref C) "__setattr__" = some (some (.builtin "object.__setattr__"))
  kc : PySem.W.keepIn K (.ref C) = true
  ga : PySem.W.findIn K (.ref C) "__getattribute__" = some (some (.builtin "BaseException.__getattribute__"))
  gg : PySem.W.findIn K (.ref C) "__getattr__" = some none
  exC : PySem.W.subIn K (.ref C) (.type "BaseException") = some true
section
variable {X : Cx} {pins : List (Addr × Obj)} {σ : L2.St} {H : Hp} {s : Shared} {a C dx : Addr} {f : Str} {y : V} {u : Value} {fs : List (Str × V)} {Q : Unit → Shared → Prop} {E : Value → Shared → Prop} {A : Around} {B newId initId : String} {bmB : List Value}
theorem not_own {c x : Addr} {o : HO} (e : H c = some o) (n : ∀ y, o ≠ .own y) (z : H x = some (.own a)) : x ≠ c := fun q => by
  rw [q, e] at z
  exact n _ (Option.some.inj z)
theorem est_first (T : Ec X.K B newId initId bmB C) (I : Inv X pins σ H s) (ea : H a = some (exo a C none)) (nf : PySem.W.findIn X.K (.ref C) f = some none) (r : RelV y u)
    (z : ∀ dx s', H dx = none → dx ≠ a → Inv X pins σ (upd (upd H dx (exd dx [(f, y)])) a (exo a C (some dx))) s' → Q () s') : wpAny (model X.prog X.w) A (setAttr (.ref a) f u) Q E s := by
  obtain ⟨t1, ho⟩ := exo_at I.hok ea
  obtain ⟨hp, g, d, t, os⟩ := s
  refine PySem.W.set_plain I.kIn (ox := PySem.W.excObj C t1 none .none) (od := none) ⟨ho, rfl, rfl, trivial⟩ T.sa ?_
  refine put_first T.SF I.kIn ho T.ovr nf T.hdc fun h' tk' dx keep lo ne hx hn => ?_
  have fr : H dx = none := I.hok.fresh lo
  have nd : ∀ {b : Addr} {o : Obj}, hp.get? b = some o → b ≠ dx := fun q => Nat.ne_of_lt (Nat.lt_of_lt_of_le (Heap.lt_size q) lo)
  have na : ∀ {b : Addr}, H b = none → b ≠ a := fun n q => by
    rw [q, ea] at n
    cases n
  have U : Un X.fs [] H (upd (upd H dx (exd dx [(f, y)])) a (exo a C (some dx))) hp h' := by
    refine ⟨fun b o q n _ _ => keep b o (na n) q, fun b o q n _ _ => ⟨o.slots, keep b o (na n) q⟩, fun b o q n _ => ?_, fun b o q _ => ?_, fun b xs q => ?_, fun b o v q => ?_, fun b ps q => ⟨#[], ?_⟩⟩
    · rw [upd_ne (na n), upd_ne (nd q)]
      exact n
    · by_cases hb : b = a
      · subst hb
        exact ⟨_, hx⟩
      · exact ⟨o, keep b o hb q⟩
    · rw [upd_ne (at_ne ea q exo_tup), upd_ne (ne_of_none q fr)]
      exact q
    · rw [upd_ne (at_ne ea q exo_frz), upd_ne (ne_of_none q fr)]
      exact q
    · rw [upd_ne (at_ne ea q exo_tbl), upd_ne (ne_of_none q fr), q]
      simp
  refine z dx _ fr ne (I.un (t' := tk') U fun b o q => ?_)
  by_cases hb : b = a
  · subst hb
    rw [upd_same] at q
    cases q
    exact exo_ok hx
  · rw [upd_ne hb] at q
    by_cases hd : b = dx
    · subst hd
      rw [upd_same] at q
      cases q
      exact exd_ok hn (relO_put (fs := []) r fun _ => True.intro)
    · rw [upd_ne hd] at q
      refine (I.hok b o q).stay (fun c v hc w => keep c v ?_ w) (fun c hc => ?_) (fun c xs hc => ?_)
      · rcases hc with hc | hc
        · rw [hc]
          exact hb
        · exact at_ne ea hc exo_own
      · rw [upd_ne (at_ne ea hc exo_own), upd_ne (ne_of_none hc fr)]
        exact hc
      · rw [upd_ne (at_ne ea hc exo_tup), upd_ne (ne_of_none hc fr)]
        exact hc
theorem est_more (T : Ec X.K B newId initId bmB C) (I : Inv X pins σ H s) (ea : H a = some (exo a C (some dx))) (ed : H dx = some (exd dx fs)) (hl : fs.length ≤ 900) (nf : PySem.W.findIn X.K (.ref C) f = some none) (r : RelV y u)
    (z : ∀ s', Inv X pins σ (upd H dx (exd dx ((f, y) :: fs))) s' → Q () s') : wpAny (model X.prog X.w) A (setAttr (.ref a) f u) Q E s := by
  obtain ⟨t1, ho⟩ := exo_at I.hok ea
  obtain ⟨mA, hns, rel⟩ := exd_at I.hok ed
  have hw := within_of rel
  obtain ⟨hp, g, d, t, os⟩ := s
  obtain ⟨oD, _, _, hoD, _, _⟩ := hns.count hw
  refine PySem.W.set_plain I.kIn (ox := PySem.W.excObj C t1 (some dx) .none) (od := some oD) ⟨ho, rfl, rfl, hoD⟩ T.sa ?_
  refine put_more T.SF I.kIn ho hns hw (by rw [List.length_map]; omega) T.ovr nf T.hdc fun h' tk' keep hn => ?_
  have there : ∃ o, h'.get? dx = some o := by
    obtain ⟨o, _, _, q, _⟩ := hn
    exact ⟨o, q⟩
  exact z _ (I.write (t' := tk') (x := dx) (e := dx) (o := exd dx ((f, y) :: fs)) (by rw [ed]; exact True.intro) (.inl rfl) keep there (exd_ok hn (relO_put r rel)))
/-- the base's __init__ on it: nothing of it is told -/
theorem base_init {us : List Value} {Q : Value → Shared → Prop} (T : Ec X.K B newId initId bmB C) (I : Inv X pins σ H s) (ea : H a = some (exo a C none)) (hl : us.length ≤ sizeLine) (z : ∀ s', Inv X pins σ H s' → Q .none s') :
    wpAny (model X.prog X.w) A (call (.builtin initId) (.ref a :: us)) Q E s := by
  obtain ⟨t1, ho⟩ := exo_at I.hok ea
  obtain ⟨nm, N, qn, bs, bm, hdct, sn, sub, ab, col, dd, k0, k1, k2, k3, k5, oc, hT⟩ := PySem.W.excInit_of I.kIn T.ini
  obtain ⟨hp, g, d, t, os⟩ := s
  refine wpAny_call (PySem.HandSPX.init_base T.FB hT oc ho hl fun h' t2 keep hx => ?_)
  have J := I.write (t' := t) (x := a) (e := a) (o := exo a C none) (by rw [ea]; exact True.intro) (.inl rfl) keep ⟨_, hx⟩ (exo_ok hx)
  have same : upd H a (exo a C none) = H := by
    funext b
    by_cases hb : b = a
    · rw [hb, upd_same, ea]
    · rw [upd_ne hb]
  rw [same] at J
  exact z _ J
end
/-- .. whatever the base's other facts -/
def EcI (K : PySem.W.Frag) (initId : String) (C : Addr) : Prop := ∃ (B newId : String) (bmB : List Value), Ec K B newId initId bmB C
def EcA (K : PySem.W.Frag) (C : Addr) : Prop := ∃ initId : String, EcI K initId C
/-! ### readings and rules -/
/-- Base.__init__(self, ..) -/
def tBI (K : PySem.W.Frag) (initId : String) (ta : TA) : TE := fun σ H Q => ta σ H fun vs H1 => ∃ (a C : Addr) (ws : List V), vs = .ref a :: ws ∧ ws.length ≤ 1000 ∧ EcI K initId C ∧ H1 a = some (exo a C none) ∧ Q .non H1
/-- self.f = e -/
def tEst (K : PySem.W.Frag) (f : Str) (to te : TE) : TS := fun D σ H => te σ H fun y H1 => to σ H1 fun x H2 => ∃ a C : Addr, x = .ref a ∧ EcA K C ∧ PySem.W.findIn K (.ref C) f = some none ∧
  ((H2 a = some (exo a C none) ∧ ∀ dx, H2 dx = none → dx ≠ a → D.nx σ (upd (upd H2 dx (exd dx [(f, y)])) a (exo a C (some dx)))) ∨
    ∃ (dx : Addr) (fs : List (Str × V)), H2 a = some (exo a C (some dx)) ∧ H2 dx = some (exd dx fs) ∧ fs.length ≤ 900 ∧ D.nx σ (upd H2 dx (exd dx ((f, y) :: fs))))
/-- e.f -/
def tEf (K : PySem.W.Frag) (f : Str) (to : TE) : TE := fun σ H Q => to σ H fun x H1 => ∃ (a C dx : Addr) (fs : List (Str × V)) (v : V), x = .ref a ∧ EcA K C ∧ PySem.W.findIn K (.ref C) f = some none ∧
  H1 a = some (exo a C (some dx)) ∧ H1 dx = some (exd dx fs) ∧ fs.lookup f = some v ∧ Q v H1
section
variable {X : Cx} {o e : Expr} {es : List Expr} {to te : TE} {ta : TA} {f x : Str} {p p' p1 p2 pos : Pos} {B newId initId : String} {bmB : List Value} {CB : Addr} {mc : Value}
theorem pe_bi {pl : Sem Bool} (hg : Gl X x) (hm : X.mg x = some (.ref CB)) (sg : PySem.W.specialIn X.K (.ref CB) "__getattribute__" = some (some (.builtin "type.__getattribute__"))) (rd : PySem.W.readsIn X.K CB mc = true)
    (vV : PySem.W.findCls X.K (.ref CB) mc "__init__" = some (.val (.builtin initId))) (vh : PySem.W.handedIn (.builtin initId) = true) (ha : PA X (e :: es) ta) (hdb : (x == ("__debug__" : Str)) = false := by decide)
    (hc : eval (.Call (.Attribute (.Name x p1) "__init__" p2) (e :: es) [] pos) X.env = (do
      let ov ← eval (.Name x p1) X.env
      standAt p2.atName
      let (f, first) ← holding [ov] (getMethod ov "__init__" pl)
      callWith pos f first (backTo pos (starEach (e :: es) X.env)) (backToKw pos (keywordEach [] X.env))) := by rfl)
    (he : starEach (e :: es) X.env = (false, eval e X.env) :: starEach es X.env := by rfl) (hpl : (backTo pos (starEach es X.env)).any (·.1) = false := by rfl) :
    PE X (.Call (.Attribute (.Name x p1) "__init__" p2) (e :: es) [] pos) (tBI X.K initId ta) := by
  refine ⟨fun pins s σ H Q I h => ?_⟩
  refine PySem.W.methodCall_KW (ld_glob I hg hm ?_ hdb) hc
  refine PySem.W.method_cls I.kIn sg (PySem.W.cls_value I.kIn rd vV vh ?_)
  show wpAny _ _ (callWith pos (Value.builtin initId) [] (backTo pos (starEach (e :: es) X.env)) []) _ _ _
  refine PyProof.Rows.callWith_method1 (thn (ha.run pos pins _ σ H _ (I.tok _) h) fun us s1 ⟨vs, H1, I1, r1, a, C, ws, ev, hl, T, ea, q⟩ => ?_) he hpl
  subst ev
  obtain ⟨_, _, _, T⟩ := T
  cases r1 with
  | @cons _ u0 _ ur ra rw' =>
    obtain rfl : u0 = Value.ref a := ra
    have hz : ur.length ≤ sizeLine := by
      rw [← Paired.length rw', sizeLine_eq]
      omega
    exact base_init T I1 ea hz fun s' J => ⟨.non, H1, J, rfl, q⟩
theorem ps_est (ho : PE X o to) (he : PE X e te) (hs : swapsWith e (some (.Attribute o f p')) pos.line X.env = pure false := by rfl) : PS X (.Assign [.Attribute o f p'] e pos) (tEst X.K f to te) := by
  refine ⟨fun pins s σ H D I h => ?_⟩
  refine plainObj_wpAny_Assign_Attribute (thn (he.run pins s σ H _ I h) fun v s1 ⟨y, H1, I1, r1, q1⟩ => thn (ho.run pins s1 σ H1 _ I1 q1) fun u s2 ⟨x, H2, I2, r2, a, C, ex, T, nf, q⟩ => ?_) hs
  subst ex
  obtain rfl : u = Value.ref a := r2
  obtain ⟨_, _, _, _, T⟩ := T
  rcases q with ⟨ea, q⟩ | ⟨dx, fs, ea, ed, hl, q⟩
  · exact est_first T I2 ea nf r1 fun dx s' n ne J => ⟨σ, _, J, q dx n ne⟩
  · exact est_more T I2 ea ed hl nf r1 fun s' J => ⟨σ, _, J, q⟩
theorem pe_ef (ho : PE X o to) (hb : attributeBase o f X.env (eval o X.env) = eval o X.env := by rfl) : PE X (.Attribute o f pos) (tEf X.K f to) := by
  refine ⟨fun pins s σ H Q I h => ?_⟩
  refine attr_of hb (thn (ho.run pins s σ H _ I h) fun u s1 hh => ?_)
  obtain ⟨x, H1, I1, rx, a, C, dx, fs, v, ex, T, nf, ea, ed, l, q⟩ := hh
  subst ex
  obtain rfl : u = Value.ref a := rx
  obtain ⟨_, _, _, _, T⟩ := T
  obtain ⟨t1, hoa⟩ := exo_at I1.hok ea
  obtain ⟨mA, hns, hr⟩ := exd_at I1.hok ed
  obtain ⟨od, hod, hl⟩ := lookIn_ns hns
  obtain ⟨u, hu, ru⟩ := RelO.some_of (v := v) (o := mA f) (by rw [← l]; exact hr f)
  have J : PySem.W.InstAt s1.heap a (PySem.W.excObj C t1 (some dx) .none) C (some od) := ⟨hoa, rfl, rfl, hod⟩
  exact HandSPX.exc_get I1.kIn J T.ga T.gg T.exC (PySem.W.findObj_own T.hdc nf rfl (by rw [hl, hu])) (handed_of ru) ⟨v, H1, I1.tok _, ru, q⟩
end
/-! ### an error made -/
/-- C(..) by values vs and keywords zs: a new error a, then __init__ by its promise -/
def tMkE (C : Addr) (n m : Nat) (sp : Sp) (gV : List V → List V → List V) (ta tk : TA) : TE := fun σ H Q => ta σ H fun vs H1 => tk σ H1 fun zs H2 => vs.length = n ∧ zs.length = m ∧ ∀ a, H2 a = none → sp (gV (.ref a :: vs) zs) (upd H2 a (exo a C none)) (fun v H3 => v = .non ∧ Q (.ref a) H3) (fun _ _ _ => False)
section
variable {X : Cx} {CX : CXT} {k n : Nat} {fI C : Addr} {fd : FuncData} {ps ks : List Str} {sp : Sp} {B newId initId : String} {bmB : List Value} {g : List Value → List Value → List Value} {gV : List V → List V → List V}
theorem run_mkE {pins : List (Addr × Obj)} {σ : L2.St} {H : Hp} {s : Shared} {Q : VK} {us ws : List Value} {vs zs : List V} (T : Ec X.K B newId initId bmB C) (iC : PySem.W.findIn X.K (.ref C) "__init__" = some (some (.ref fI))) (tI : PySem.W.typeIn X.K (.ref fI) = some (.type "function"))
    (F : FnOk X.prog X.w X.K X.mg X.base CX k fI fd ps sp) (hr : Room (k + 1) X.A) (hb : KBn X.K fd ps (n + 1) ks g gV) (hx : Passes CX X (fun _ _ _ => False)) (I : Inv X pins σ H s) (r : Vals vs us) (rz : Vals zs ws) (l1 : vs.length = n) (l2 : zs.length = ks.length) (hn : n ≤ 1000)
    (z : ∀ a, H a = none → sp (gV (.ref a :: vs) zs) (upd H a (exo a C none)) (fun v H3 => v = .non ∧ Q (.ref a) H3) (fun _ _ _ => False)) :
    wpAny (model X.prog X.w) X.A (call (.ref C) us (ks.zip ws)) (EP X pins σ Q) X.xe s := by
  obtain ⟨nm, N, qn, bs, bm, hdct, sn, sub, ab, col, dd, k0, k1, k2, k3, k5, oc, hT⟩ := PySem.W.excInit_of I.kIn T.ini
  obtain ⟨hp, gn, dr, tk, os⟩ := s
  have lo : hp.objs.size ≤ hp.objs.size + 1 := Nat.le_succ _
  have fr : H (hp.objs.size + 1) = none := I.hok.fresh lo
  have hq := z _ fr
  have kk : ∀ b o, hp.get? b = some o → ((hp.push (PySem.W.kdv_tup us)).push (PySem.W.excObj C hp.objs.size none .none)).get? b = some o := fun b o e => Heap.get?_push_of_some _ (Heap.get?_push_of_some _ e)
  have made : ((hp.push (PySem.W.kdv_tup us)).push (PySem.W.excObj C hp.objs.size none .none)).get? (hp.objs.size + 1) = some (PySem.W.excObj C hp.objs.size none .none) := by heap_get
  have I2 : Inv X pins σ (upd H (hp.objs.size + 1) (exo (hp.objs.size + 1) C none)) ⟨(hp.push (PySem.W.kdv_tup us)).push (PySem.W.excObj C hp.objs.size none .none), gn, dr, tk, os⟩ :=
    I.laid (t' := tk) (a := hp.objs.size + 1) (o := exo (hp.objs.size + 1) C none) kk lo (exo_ok made)
  have r1 : Vals (V.ref (hp.objs.size + 1) :: vs) (Value.ref (hp.objs.size + 1) :: us) := .cons rfl r
  have r2 := hb.rel r1 rz
  have e1 : (Value.ref (hp.objs.size + 1) :: us).length = n + 1 := r1.length.symm.trans (congrArg Nat.succ l1)
  have e2 : ws.length = ks.length := rz.length.symm.trans l2
  have hus : us.length ≤ sizeLine := by
    rw [← Paired.length r, l1, sizeLine_eq]
    omega
  refine wpAny_call (kw_call T.FB hT oc (PySem.W.looks_findIn I.kIn iC) (fun self => PySem.W.bind_fn I.kIn self tI) hus
    (codeAny_mono (F.run _ X.stack _ _ ⟨Value.ref (hp.objs.size + 1) :: us, ks.zip ws⟩ (g (Value.ref (hp.objs.size + 1) :: us) ws) _ _ (fun _ _ _ => False) (hr.make C us (ks.zip ws)) (I2.env0.make C us (ks.zip ws)) (hb.to _ (Value.ref (hp.objs.size + 1) :: us) ws I2.kIn e1 e2) r2 hq) fun r s' hq' => ?_))
  cases r with
  | error er => exact hx pins σ _ _ er s' I2 hq'
  | ok fl =>
    cases fl with
    | ret u =>
      obtain ⟨v, H', I3, rv, ev, q3⟩ := I2.after hq'
      subst ev
      exact ⟨rv, ⟨V.ref (hp.objs.size + 1), H', I3, rfl, q3⟩⟩
    | next => exact False.elim hq'
    | brk => exact False.elim hq'
    | cont => exact False.elim hq'
end
end Ux

set_option Elab.async false
set_option linter.all false
set_option maxRecDepth 100000
set_option maxHeartbeats 4000000
namespace Ux
open PySem PySem.Spec PyProof.Rows L2
section
variable {X : Cx} {CX : CXT} {k n : Nat} {fI C : Addr} {fd : FuncData} {ps ks : List Str} {sp : Sp} {B newId initId : String} {bmB : List Value} {g : List Value → List Value → List Value} {gV : List V → List V → List V}
variable {x : Str} {p pos : Pos} {e : Expr} {es : List Expr} {kws : List Keyword} {ta tk : TA}
theorem kbn_pos {K : PySem.W.Frag} {fd : FuncData} {ps : List Str} (hb : Binds K fd ps []) (n : Nat) (hn : ps.length = n) : KBn K fd ps n [] (fun us _ => us) (fun vs _ => vs) := by
  refine ⟨fun s us ws IN l1 l2 => ?_, fun r _ => r⟩
  have hz : ws = [] := List.length_eq_zero_iff.mp l2
  subst hz
  have z := hb s us IN (by rw [List.append_nil, l1, hn])
  rw [List.append_nil] at z
  exact z
theorem kbn_mk {K : PySem.W.Frag} {y qual : Str} {st : Stmt} {f : Addr} {fd : FuncData} (F : Fun K y qual st f fd) (n : Nat) (ks : List Str) (g : {α : Type} → List α → List α → List α)
    (hrel : ∀ {vs zs : List V} {us ws : List Value}, Vals vs us → Vals zs ws → Vals (g vs zs) (g us ws))
    (h : ∀ (kV doc pm : Value) (an : Option Addr) (cdv ct : Value) (us ws : List Value), us.length = n → ws.length = ks.length → bindArgs (PySem.W.fnOf y qual (defArgs st) (defBody st) (defScope st) .none kV doc pm an cdv ct) ⟨us, ks.zip ws⟩ = pure (ps.zip (g us ws))) : KBn K fd ps n ks (fun us ws => g us ws) (fun vs zs => g vs zs) := by
  obtain ⟨oc, od, kV, doc, pm, an, cdv, ct, osl, rfl, lk, hcd⟩ := F.ex
  exact ⟨fun s us ws _ l1 l2 => .of_eq (h kV doc pm an cdv ct us ws l1 l2), fun r z => hrel r z⟩
/-- C(e, ..) -/
theorem pe_mkE (T : Ec X.K B newId initId bmB C) (iC : PySem.W.findIn X.K (.ref C) "__init__" = some (some (.ref fI))) (tI : PySem.W.typeIn X.K (.ref fI) = some (.type "function")) (F : FnOk X.prog X.w X.K X.mg X.base CX k fI fd ps sp) (hr : Room (k + 1) X.A)
    (hb : KBn X.K fd ps (n + 1) [] g gV) (hx : Passes CX X (fun _ _ _ => False)) (hn : n ≤ 1000) (hg : Gl X x) (hm : X.mg x = some (.ref C)) (ha : PA X (e :: es) ta)
    (hdb : (x == ("__debug__" : Str)) = false := by decide) (he : starEach (e :: es) X.env = (false, eval e X.env) :: starEach es X.env := by rfl) (hpl : (backTo pos (starEach es X.env)).any (·.1) = false := by rfl) :
    PE X (.Call (.Name x p) (e :: es) [] pos) (tMkE C n 0 sp gV ta tNil) := by
  refine ⟨fun pins s σ H Q I h => ?_⟩
  refine wpAny_Call_Name_kw (ld_glob I hg hm ?_ hdb)
  refine PySem.W.callWith_K (h₀ := X.base) I.ok.mod.kin T.kc (thn (ha.run pos pins s σ H _ I h) fun us s1 hh => ?_) he hpl
  obtain ⟨vs, H1, I1, r1, l1, _, z⟩ := hh
  refine ⟨I1.kIn, ?_⟩
  exact run_mkE (ks := []) (ws := []) (zs := []) T iC tI F hr hb hx I1 r1 .nil l1 rfl hn z
/-- C() -/
theorem pe_mkE0 (T : Ec X.K B newId initId bmB C) (iC : PySem.W.findIn X.K (.ref C) "__init__" = some (some (.ref fI))) (tI : PySem.W.typeIn X.K (.ref fI) = some (.type "function")) (F : FnOk X.prog X.w X.K X.mg X.base CX k fI fd ps sp) (hr : Room (k + 1) X.A)
    (hb : KBn X.K fd ps 1 [] g gV) (hx : Passes CX X (fun _ _ _ => False)) (hg : Gl X x) (hm : X.mg x = some (.ref C)) (hdb : (x == ("__debug__" : Str)) = false := by decide) : PE X (.Call (.Name x p) [] [] pos) (tMkE C 0 0 sp gV tNil tNil) := by
  refine ⟨fun pins s σ H Q I h => ?_⟩
  refine wpAny_Call_Name_kw (ld_glob I hg hm ?_ hdb)
  obtain ⟨l1, l2, z⟩ := h
  exact PySem.W.callWith_K0 I.kIn T.kc (run_mkE (ks := []) (ws := []) (zs := []) (us := []) (vs := []) T iC tI F hr hb hx I .nil .nil rfl rfl (Nat.zero_le _) z)
/-- C(k = e, ..) -/
theorem pe_mkEK (T : Ec X.K B newId initId bmB C) (iC : PySem.W.findIn X.K (.ref C) "__init__" = some (some (.ref fI))) (tI : PySem.W.typeIn X.K (.ref fI) = some (.type "function")) (F : FnOk X.prog X.w X.K X.mg X.base CX k fI fd ps sp) (hr : Room (k + 1) X.A)
    (hb : KBn X.K fd ps 1 ks g gV) (hx : Passes CX X (fun _ _ _ => False)) (hg : Gl X x) (hm : X.mg x = some (.ref C)) (hkw : PK X kws tk)
    (hall : (backToKw pos (keywordEach kws X.env)).all (·.1.isSome) = true := by rfl) (hks : (backToKw pos (keywordEach kws X.env)).filterMap (·.1) = ks := by rfl) (hdb : (x == ("__debug__" : Str)) = false := by decide)
    (hpl : ((backTo pos (starEach [] X.env)).any (·.1) || (backToKw pos (keywordEach kws X.env)).any (·.1.isNone)) = false := by rfl) :
    PE X (.Call (.Name x p) [] kws pos) (tMkE C 0 ks.length sp gV tNil tk) := by
  refine ⟨fun pins s σ H Q I h => ?_⟩
  refine wpAny_Call_Name_kw (ld_glob I hg hm ?_ hdb)
  refine PySem.W.callWith_KW0 (h₀ := X.base) I.ok.mod.kin T.kc hall ?_ hpl
  refine thn (hkw.run pos pins s σ H _ I h) fun ws s2 hh => ?_
  obtain ⟨zs, H2, I2, rz, l1, l2, z⟩ := hh
  refine ⟨I2.kIn, ?_⟩
  rw [hks]
  exact run_mkE (us := []) (vs := []) T iC tI F hr hb hx I2 .nil rz rfl l2 (Nat.zero_le _) z
end
/-! ### isinstance of an error -/
structure Ei (K : PySem.W.Frag) (C : Addr) : Prop where
  cl : (PySem.W.clsIn K C).isSome = true
  hg : PySem.W.findIn K (.ref C) "__getattribute__" = some (some (.builtin "BaseException.__getattribute__"))
  hk : PySem.W.findIn K (.ref C) "__getattr__" = some none
  hs : PySem.W.subIn K (.ref C) (.type "BaseException") = some true
  ha : PySem.W.findIn K (.ref C) "__class__" = some (some (.builtin "object.__class__"))
  hn : PySem.W.specialIn K (.builtin "object.__class__") "__get__" = some (some (.builtin "getset_descriptor.__get__"))
  ht : PySem.W.takesIn K (.builtin "object.__class__") = some true
  hm : PySem.W.mroIn K C (.type "object") = some true
/-- isinstance(e, c), e an error with its dict -/
def rIsEr (K : PySem.W.Frag) : List V → Hp → VK → Prop := fun xs H Q => ∃ (a C dx : Addr) (fs : List (Str × V)) (c : V) (u : Value) (b : Bool), xs = [.ref a, c] ∧ ClsV c u ∧ Ei K C ∧ H a = some (exo a C (some dx)) ∧ H dx = some (exd dx fs) ∧ PySem.W.kitOne K (.ref C) u = some b ∧ Q (.bl b) H
theorem call_isEr {X : Cx} : CallR X (.builtin "isinstance") (rIsEr X.K) := by
  intro pins s σ H xs us Q I r h
  obtain ⟨a, C, dx, fs, c, u, b, rfl, kc, E, ea, ed, e, q⟩ := h
  obtain ⟨u1, u2, rfl, r1, r2⟩ := vals2 r
  cases (show u1 = Value.ref a from r1)
  have ec := kc.eq r2
  subst ec
  obtain ⟨t1, hoa⟩ := exo_at I.hok ea
  obtain ⟨mA, hns, hr⟩ := exd_at I.hok ed
  obtain ⟨od, hod, hl⟩ := lookIn_ns hns
  have J : PySem.W.InstAt s.heap a (PySem.W.excObj C t1 (some dx) .none) C (some od) := ⟨hoa, rfl, rfl, hod⟩
  exact PySem.W.kia_one (PySem.W.kitx_exc E.cl E.hg E.hk E.hs E.ha E.hn E.ht E.hm) I.kIn J e (fun z => nomatch z) fun tk => ⟨.bl b, H, I.tok tk, rfl, q⟩
/-! ### abs and str of a truth value -/
theorem abs_true {prog : Program} {w : World} {A : Around} {E : Value → Shared → Prop} {s : Shared} {Q : Value → Shared → Prop} (h : ∀ u tk, Q (.int 1 u) { s with toks := tk }) : wpAny (model prog w) A (call (.builtin "abs") [.bool true]) Q E s := by
  refine PySem.Calls.call_function_entry kind_abs plain_abs entry_abs (args_abs _) ?_
  unfold Builtin.«abs»
  refine wpAny_bind (m := oneArg "abs" _) (wpAny_pure ?_)
  refine wpAny_bind (m := callSpecial? (.bool true) (Str.ofString "__abs__")) (wpAny_callSpecial?_slot (name := Str.ofString "__abs__") (PySem.typeIs_bool s true) F.slot_bool_abs
    (wpAny_call_entry F.slot_bool_abs (PySem.typeIs_bool s true) entry_int_abs ?_ (args_int_abs _)))
  have h' := h s.toks (s.toks + 1)
  exact wpAny_ret_mkInt (wpAny_pure ⟨_, rfl, h'⟩)
theorem call_absT {X : Cx} : CallR X (.builtin "abs") (fun xs H Q => (∃ i, xs = [.int i] ∧ Q (.int (if i < 0 then -i else i)) H) ∨ (xs = [.bl true] ∧ Q (.int 1) H)) := by
  intro pins s σ H xs us Q I r h
  rcases h with ⟨i, rfl, q⟩ | ⟨rfl, q⟩
  · obtain ⟨u, rfl, t, rfl⟩ := vals1 r
    exact call_abs_int fun u tk => ⟨.int (if i < 0 then -i else i), H, I.tok _, ⟨_, rfl⟩, q⟩
  · obtain ⟨u, rfl, r1⟩ := vals1 r
    cases (show u = Value.bool true from r1)
    exact abs_true fun u tk => ⟨.int 1, H, I.tok _, ⟨_, rfl⟩, q⟩
theorem str_true {prog : Program} {w : World} {A : Around} {E : Value → Shared → Prop} {s : Shared} {Q : Value → Shared → Prop} (h : Q (.str "True" s.toks) { s with toks := s.toks + 1 }) : wpAny (model prog w) A (call (.type "str") [.bool true]) Q E s :=
  callType_new F.called_str (by decide) (F.typeCall_str_1 _) (F.newCall_str_1 _) (fun obj => F.args_object_init_2 obj _) F.entry_str_new
    (meets_str_new (S := fun _ R s => R (.ok (.ret (.str "True" s.toks))) { s with toks := s.toks + 1 }) fun _ _ _ _ s hq =>
      wpAny_strOf_gives rfl (PySem.typeIs_bool s true) F.slot_bool_str F.slot_bool_repr F.entry_bool_repr (F.args_bool_repr_1 _) (gives_bool_repr true) hq (hsz := by decide)) ⟨typeIs_str _ _ _, h⟩
theorem call_strT {X : Cx} : CallR X (.type "str") (fun xs H Q => (∃ i, xs = [.int i] ∧ i.natAbs.log2 < 1920 ∧ Q (.str (toString i)) H) ∨ (xs = [.bl true] ∧ Q (.str "True") H)) := by
  intro pins s σ H xs us Q I r h
  rcases h with ⟨i, rfl, hz, q⟩ | ⟨rfl, q⟩
  · obtain ⟨u, rfl, t, rfl⟩ := vals1 r
    exact PySem.P.str_of_int hz ⟨.str _, H, I.tok _, ⟨_, rfl⟩, q⟩
  · obtain ⟨u, rfl, r1⟩ := vals1 r
    cases (show u = Value.bool true from r1)
    exact str_true ⟨.str _, H, I.tok _, ⟨_, rfl⟩, q⟩
theorem call_reprS {X : Cx} : CallR X (.builtin "repr") (fun xs H Q => ∃ x, xs = [.str x] ∧ (reprText x).length ≤ sizeLine ∧ Q (.str (reprText x)) H) := by
  intro pins s σ H xs us Q I r h
  obtain ⟨x, rfl, hz, q⟩ := h
  obtain ⟨u, rfl, t, rfl⟩ := vals1 r
  exact PySem.P.repr_of_str (hsz := hz) ⟨.str _, H, I.tok _, ⟨_, rfl⟩, q⟩
end Ux

set_option Elab.async false
set_option linter.all false
set_option maxRecDepth 100000
set_option maxHeartbeats 4000000
/-! Own classes: str, repr, == and != by the text's own methods. -/
namespace Ux
open PySem PySem.Spec PyProof.Rows L2
section
variable {X : Cx} {pins : List (Addr × Obj)} {σ : L2.St} {H : Hp} {s : Shared} {k : Nat} {f C : Addr} {fd : FuncData} {ps : List Str} {sp : Sp}
theorem own_run {A' : Around} {us : List Value} {vs : List V} {Q : VK} {R : Value → Shared → Prop} {E' : Value → Shared → Prop} (F : FnOk X.prog X.w X.K X.mg X.base CX0 k f fd ps sp) (hr : Room k A') (e0 : Env0 X.prog X.w X.K X.mg X.base A' X.stack s H)
    (hb : Binds X.K fd ps []) (I : Inv X pins σ H s) (r : Vals vs us) (h : sp vs H Q (fun _ _ _ => False)) (z : ∀ u s', EP X pins σ Q u s' → R u s') : wpAny (model X.prog X.w) A' (call (.ref f) us) R E' s := by
  have hl : us.length = ps.length := r.length.symm.trans (F.len _ _ _ _ h)
  have b := hb s us I.kIn (by rw [List.append_nil]; exact hl)
  rw [List.append_nil] at b
  refine wpAny_call (codeAny_mono (F.run A' X.stack s H ⟨us, []⟩ us vs Q (fun _ _ _ => False) hr e0 b r h) fun r s' hq => ?_)
  cases r with
  | error e => exact False.elim hq
  | ok fl =>
    cases fl with
    | ret u => exact z u s' (I.after hq)
    | next => exact False.elim hq
    | brk => exact False.elim hq
    | cont => exact False.elim hq
/-- an own method by its name, on an instance -/
structure OwnM (K : PySem.W.Frag) (C : Addr) (m : Str) (f : Addr) : Prop where
  at_ : PySem.W.findIn K (.ref C) m = some (some (.ref f))
  fn : PySem.W.isFn K (.ref f) = true
/-- a text handed back -/
def rOwnS (C : Addr) (sp : Sp) : List V → Hp → VK → Prop := fun xs H Q => ∃ (a dx : Addr) (fs : List (Str × V)), xs = [.ref a] ∧ H a = some (.ins C dx fs) ∧ sp [.ref a] H (fun v H' => ∃ z, v = .str z ∧ Q (.str z) H') (fun _ _ _ => False)
theorem call_strO (M : OwnM X.K C "__str__" f) (F : FnOk X.prog X.w X.K X.mg X.base CX0 k f fd ["self"] sp) (hb : Binds X.K fd ["self"] []) (hr : Room (k + 2) X.A) : CallR X (.type "str") (rOwnS C sp) := by
  intro pins s σ H xs us Q I r h
  obtain ⟨a, dx, fs, rfl, ea, q⟩ := h
  obtain ⟨u, rfl, rx⟩ := vals1 r
  cases (show u = Value.ref a from rx)
  obtain ⟨mA, O, _⟩ := ins_get I.hok ea
  obtain ⟨od, J, _⟩ := O.look
  refine PySem.W.kso_call hr.in1.in1.units0 I.kIn J M.at_ M.fn (own_run F hr.in1.in1 I.env0.in1.in1 hb (vs := [.ref a]) I (.cons rfl .nil) q fun u s' hq => ?_)
  obtain ⟨v, H', I', rv, z, ev, q'⟩ := hq
  subst ev
  obtain ⟨t, rfl⟩ := rv
  exact ⟨.str z, H', I', ⟨t, rfl⟩, q'⟩
theorem call_reprO (M : OwnM X.K C "__repr__" f) (F : FnOk X.prog X.w X.K X.mg X.base CX0 k f fd ["self"] sp) (hb : Binds X.K fd ["self"] []) (hr : Room (k + 1) X.A) : CallR X (.builtin "repr") (rOwnS C sp) := by
  intro pins s σ H xs us Q I r h
  obtain ⟨a, dx, fs, rfl, ea, q⟩ := h
  obtain ⟨u, rfl, rx⟩ := vals1 r
  cases (show u = Value.ref a from rx)
  obtain ⟨mA, O, _⟩ := ins_get I.hok ea
  obtain ⟨od, J, _⟩ := O.look
  obtain ⟨m, hF⟩ := I.fr
  refine PySem.W.repr_K hr.in1.units0 hF I.ok.mod.kin J M.at_ M.fn (own_run F hr.in1 I.env0.in1 hb (vs := [.ref a]) I (.cons rfl .nil) q fun u s' hq => ?_)
  obtain ⟨v, H', I', rv, z, ev, q'⟩ := hq
  subst ev
  obtain ⟨t, rfl⟩ := rv
  exact ⟨.str z, H', I', ⟨t, rfl⟩, q'⟩
/-- o == y, o != y by o's own __eq__ -/
def rOwnEq (K : PySem.W.Frag) (C : Addr) (sp : Sp) (neg : Bool) : R2 := fun x y H Q => ∃ (a dx : Addr) (fs : List (Str × V)) (t : Value), x = .ref a ∧ H a = some (.ins C dx fs) ∧ TyX K H y t ∧ PySem.W.notFirst K C t = true ∧ sp [x, y] H (fun v H' => ∃ b, v = .bl b ∧ Q (.bl (b != neg)) H') (fun _ _ _ => False)
theorem op_eqO (M : OwnM X.K C "__eq__" f) (F : FnOk X.prog X.w X.K X.mg X.base CX0 k f fd ["self", "other"] sp) (hb : Binds X.K fd ["self", "other"] []) (hr : Room k X.A) : OpR X (compareOp .Eq) (rOwnEq X.K C sp false) := by
  intro pins s σ H x y v u Q I rx ry h
  obtain ⟨a, dx, fs, t, rfl, ea, ty, nf, q⟩ := h
  cases (show v = Value.ref a from rx)
  obtain ⟨mA, O, _⟩ := ins_get I.hok ea
  obtain ⟨od, J, _⟩ := O.look
  obtain ⟨m, hF⟩ := I.fr
  obtain ⟨P', Z, hp, _⟩ := kit_of I ry ty
  show wpAny (model X.prog X.w) X.A (richCompare .Eq (.ref a) u) (EP X pins σ Q) X.xe s
  refine PySem.W.cmp_K (op := .Eq) (tb := t) hr.units0 hF I.ok.mod.kin J (Z.ty _ _ I.kIn hp) nf M.at_ M.fn (own_run F hr I.env0 hb (vs := [.ref a, y]) I (.cons rfl (.cons ry .nil)) q fun w s' hq => ?_)
  obtain ⟨v, H', I', rv, b, ev, q'⟩ := hq
  subst ev
  cases (show w = Value.bool b from rv)
  have e : (b != false) = b := by cases b <;> rfl
  rw [e] at q'
  exact ⟨.bl b, H', I', rfl, q'⟩
/-- what != wants besides: the class keeps object's __ne__ -/
structure NeO (K : PySem.W.Frag) (C : Addr) : Prop where
  ne : PySem.W.findIn K (.ref C) "__ne__" = some (some (.builtin "object.__ne__"))
  ob : PySem.W.mroIn K C (.type "object") = some true
end
end Ux
namespace Ux
open PySem PySem.W
section
variable {prog : Program} {w : World} {M : Model} {A : Around} {E : Value → Shared → Prop} {s : Shared} {K : Frag} {x C L f : Addr} {h₀ : Heap} {m : Str → Option Value} {ox : Obj} {od : Option Obj} {tb b : Value}
theorem ifBound_bi {name : Str} {id : String} {args : List Value} {Q : Option Value → Shared → Prop} (IN : K.In s.heap) (I : InstAt s.heap x ox C od) (hs : findIn K (.ref C) name = some (some (.builtin id))) (hb : ∀ self, bindSpecial (.builtin id) self = pure (.builtin id, [self]))
    (hn : (Value.builtin id == Value.none) = false) (h : wpAny M A (call (.builtin id) (.ref x :: args)) (fun v => Q (some v)) E s) : wpAny M A (callSpecialIfBound? (.ref x) name args) Q E s := by
  simp only [callSpecialIfBound?, bindSpecialIfBound?]
  refine wpAny_holding (wpAny_bind (wpAny_bind (wpAny_bind (I.type.here ((looks_findIn IN hs).here ?_)))))
  simp only [hb]
  refine wpAny_bind (wpAny_askSetting (wpAny_ite ?_))
  have last : wpAny M A (call (.builtin id) ([.ref x] ++ args) >>= fun v => pure (some v)) Q E s := wpAny_bind (wpAny_mono h (fun v s' z => wpAny_pure z) fun _ _ z => z)
  split
  · exact wpAny_bind (wpAny_pure (wpAny_pure last))
  · exact wpAny_tryCatch (wpAny_bind (wpAny_pure (wpAny_pure last)))
/-- o != b where o has its own __eq__ and keeps object's __ne__ -/
theorem ne_own {Q : Value → Shared → Prop} (hu : A.units < cLine) (hu1 : A.in1.units < cLine) (IN : K.In s.heap) (I : InstAt s.heap x ox C od) (hb : Looks (model prog w) s.heap (typeOf b) tb) (hn : notFirst K C tb = true)
    (hne : findIn K (.ref C) "__ne__" = some (some (.builtin "object.__ne__"))) (hm : mroIn K C (.type "object") = some true) (hs : findIn K (.ref C) "__eq__" = some (some (.ref f))) (hf : isFn K (.ref f) = true)
    (h : wpAny (model prog w) A.in1 (call (.ref f) [.ref x, b]) (fun v s' => ∃ r, v = .bool r ∧ Q (.bool (!r)) s') E s) : wpAny (model prog w) A (richCompare .NotEq (.ref x) b) Q E s := by
  have SL := PySem.F.cmp_object.ne
  have one : wpAny (model prog w) A (tryCompare (.ref x) "__ne__" b) (fun r s' => ∃ v, r = some v ∧ Q v s') E s := by
    unfold tryCompare
    refine wpAny_bind (ifBound_bi IN I hne SL.bind rfl ?_)
    refine wpAny_call (codeAny_call_builtin SL.plain PySem.F.cmpEntry_ne (check_slot (i := "object.__ne__") (owner := "object") (n := "__ne__") PySem.F.cmpKind_ne PySem.F.cmpSplit_ne (I.type.andThen (looks_mroIn IN hm)) (PySem.F.cmpArgs_ne _ _) ?_))
    unfold Builtin.«object.__ne__»
    refine wpAny_bind (m := slotArgs "__ne__" 1 _) (wpAny_pure ?_)
    refine wpAny_bind (m := cRoomFor _ _) (wpAny_cRoomFor hu1 ?_)
    refine wpAny_bind (m := callSpecialIfBound? (.ref x) (Str.ofString "__eq__") _) (ifBound_K IN I hs hf (wpAny_mono h (fun v s' z => ?_) fun _ _ z => z))
    obtain ⟨r, rfl, q⟩ := z
    refine wpAny_bind (wpAny_truthy_bool ?_)
    exact wpAny_pure (wpAny_pure ⟨_, rfl, q⟩)
  have SN : (cmpInfo .NotEq).2.1 = ("__ne__" : Str) := rfl
  unfold richCompare
  simp only [oneThing_ref, cmpInfo_NotEq]
  refine wpAny_holding (wpAny_bind (wpAny_cRoomFor hu ?_))
  refine wpAny_bind (I.type.here (wpAny_bind (hb.here ?_)))
  split
  · rename_i q
    have e : subIn K tb (.ref C) = some false := by
      rcases Bool.or_eq_true_iff.mp hn with e | e
      · rw [beq_iff_eq.mp e] at q
        simp at q
      · exact beq_iff_eq.mp e
    refine wpAny_bind ((looks_subIn IN e).here ?_)
    simp only [Bool.false_eq_true, if_false]
    refine wpAny_bind (wpAny_mono one (fun r s' z => ?_) fun _ _ e => e)
    obtain ⟨v, rfl, hq⟩ := z
    exact wpAny_pure hq
  · refine wpAny_bind (wpAny_pure ?_)
    simp only [Bool.false_eq_true, if_false]
    refine wpAny_bind (wpAny_mono one (fun r s' z => ?_) fun _ _ e => e)
    obtain ⟨v, rfl, hq⟩ := z
    exact wpAny_pure hq
end
end Ux
namespace Ux
open PySem PySem.Spec PyProof.Rows L2
section
variable {X : Cx} {k : Nat} {f C : Addr} {fd : FuncData} {sp : Sp}
theorem op_neO (M : OwnM X.K C "__eq__" f) (N : NeO X.K C) (F : FnOk X.prog X.w X.K X.mg X.base CX0 k f fd ["self", "other"] sp) (hb : Binds X.K fd ["self", "other"] []) (hr : Room (k + 1) X.A) : OpR X (compareOp .NotEq) (rOwnEq X.K C sp true) := by
  intro pins s σ H x y v u Q I rx ry h
  obtain ⟨a, dx, fs, t, rfl, ea, ty, nf, q⟩ := h
  cases (show v = Value.ref a from rx)
  obtain ⟨mA, O, _⟩ := ins_get I.hok ea
  obtain ⟨od, J, _⟩ := O.look
  obtain ⟨P', Z, hp, _⟩ := kit_of I ry ty
  show wpAny (model X.prog X.w) X.A (richCompare .NotEq (.ref a) u) (EP X pins σ Q) X.xe s
  refine ne_own (tb := t) hr.units0 hr.in1.units0 I.kIn J (Z.ty _ _ I.kIn hp) nf N.ne N.ob M.at_ M.fn (own_run F hr.in1 I.env0.in1 hb (vs := [.ref a, y]) I (.cons rfl (.cons ry .nil)) q fun w s' hq => ?_)
  obtain ⟨v, H', I', rv, b, ev, q'⟩ := hq
  subst ev
  cases (show w = Value.bool b from rv)
  have e : (b != true) = !b := by cases b <;> rfl
  rw [e] at q'
  exact ⟨b, rfl, .bl (!b), H', I', rfl, q'⟩
end
end Ux

set_option Elab.async false
set_option linter.all false
set_option maxRecDepth 100000
set_option maxHeartbeats 4000000
namespace Ux
open PySem PySem.Spec PyProof.Rows L2
/-! ### try: .. except (A, B) as n: .., where every exception of the body is caught -/
/-- what such a clause wishes of an exception -/
def wAs2 (K : PySem.W.Frag) (C1 C2 : Addr) (len i : Nat) (ts : Addr → Value → Option Addr → TS) (D : Ends) : WX := fun cls d σ H =>
  PySem.W.exmAny K cls [.ref C1, .ref C2] = some true ∧ ∀ a, H a = none → σ.length = len →
    ts a cls d ⟨fun σ' H' => D.nx (σ'.set i none) H', D.rt, fun σ' H' => D.bk (σ'.set i none) H', fun σ' H' => D.ct (σ'.set i none) H'⟩ (σ.set i (some (.ref a))) H
theorem fly_push {B h : Heap} {l : List Env} {e : Addr} {Z : Obj → Prop} {o : Obj} (f : HandSPX.FlyingZ B l e Z h) : HandSPX.FlyingZ B l e Z (h.push o) := by
  obtain ⟨k1, k2, k3, oe, vs, T, oT, ts, a1, a2, a3, a4, a5, a6, a7, a8, a9⟩ := f
  have kp : ∀ {b u}, h.get? b = some u → (h.push o).get? b = some u := fun z => Heap.get?_push_of_some _ z
  exact ⟨fun b u z => kp (k1 b u z), k2, k3.of_keeps fun b u z _ => ⟨u, kp z, rfl⟩, oe, vs, T, oT, ts, kp a1, a2, a3, a4, a5, a6, kp a7, a8, a9⟩
section
variable {X : Cx} {x1 x2 n : Str} {C1 C2 : Addr} {i : Nat} {body suite : List Stmt} {b₀ : Stmt} {p1 p2 tpos pos pos' : Pos} {kk : Nat} {tb : WX → TS} {ts : Addr → Value → Option Addr → TS}
theorem ps_try_as2 (hs : X.stack = X.env :: X.outer) (hf : X.env.frame = some X.env.locals) (hN : X.N.Nodup) (hi : X.N[i]? = some n) (hln : X.env.kindOf n = some .local)
    (g1 : Gl X x1) (g2 : Gl X x2) (m1 : X.mg x1 = some (.ref C1)) (m2 : X.mg x2 = some (.ref C2)) (d1 : (x1 == ("__debug__" : Str)) = false) (d2 : (x2 == ("__debug__" : Str)) = false)
    (hb : ∀ (W : WX) (pn : List (Addr × Obj)) (xe : Value → Shared → Prop), Takes (X.tr pn xe) W → PassesOwn (model X.prog X.w) X.A X.env xe → PSs (X.tr pn xe) body (tb W))
    (hsu : ∀ (a : Addr) (oe : Obj) (cls : Value) (d : Option Addr) (pn : List (Addr × Obj)), Zc cls d oe → (∃ vs, oe.data = .fields vs) → PSs (X.suite a ((a, oe) :: pn)) (b₀ :: suite) (ts a cls d)) :
    PS X (.Try body [.ExceptHandler (some (.Tuple [.Name x1 p1, .Name x2 p2] kk tpos)) (some n) (b₀ :: suite) pos'] [] [] pos) (fun D σ H => tb (wAs2 X.K C1 C2 X.N.length i ts D) D σ H) := by
  constructor
  intro pins s σ H D I h
  have ok := I.ok
  have frm : X.A.frames = some (X.env :: X.outer) := ok.frames.trans (congrArg some hs)
  refine wpAny_Try_except (wpAny_mono ((hb (wAs2 X.K C1 C2 X.N.length i ts D) (X.pn ++ pins) (fun e s₁ => wpAny (model X.prog X.w) X.A (noteFrame e X.env) (fun _ s₂ => wpAny (model X.prog X.w) X.A (setFlight e none)
    (fun _ s₃ => wpAny (model X.prog X.w) X.A (handleBy e X.env [.ExceptHandler (some (.Tuple [.Name x1 p1, .Name x2 p2] kk tpos)) (some n) (b₀ :: suite) pos']) (SP X pins D) X.xe s₃) X.xe s₂) X.xe s₁)
    (fun u sx caught => ?_) PassesOwn.looking).run [] s σ H D (I.toTry _) h) (fun f sf done => ?_) (fun _ _ z => z))
  · obtain ⟨a, B, sI, pins', σc, Hc, cls, d, rfl, Jt, nb, up, sky, na, os, ag, hm, go⟩ := caught
    have J := Jt.ofTry ok
    rw [hs] at sky
    show wpAny (model X.prog X.w) X.A (noteFrame (.ref a) X.env) _ _ _
    refine Sky.land Zc.steady frm hf sky fun h1 fl1 up1 => ?_
    have J1 : Inv X pins σc Hc { sx with heap := h1 } := J.landed nb fl1.1 (up.trans up1) os ag
    obtain ⟨oe, vs, he, hz, hd⟩ := fl1.there
    have out : a ∉ frs (X.env :: X.outer) := fun m => by
      obtain ⟨_, o', e', hnf⟩ := fl1.2.2.1.mem m
      have q := Option.some.inj (he.symm.trans e')
      exact hnf vs (q ▸ hd)
    have nL : a ≠ X.env.locals := fun z => out (List.mem_filterMap.mpr ⟨X.env, List.mem_cons_self, hf.trans (congrArg some z.symm)⟩)
    have nF : a ∉ X.fs := fun m => by
      obtain ⟨e, h2, h3⟩ := List.mem_filterMap.mp m
      exact out (List.mem_filterMap.mpr ⟨e, List.mem_cons_of_mem _ h2, h3⟩)
    have S1 := J1.suite he hd na nL nF
    refine wpAny_handleBy_cons (codeAny_handlers_test ?_) (by intro q; cases q)
    have LT : PySem.W.Looks (model X.prog X.w) h1 (typeOf (.ref a)) cls := fun A Q E s k q => wpAny_typeOf_ref (k _ _ he) (hz.1.symm ▸ q)
    refine wpAny_Tuple (wpAny_items_cons (ld_glob (X := X.suite a ((a, oe) :: (X.pn ++ pins))) S1 g1 m1 ?_ d1))
    refine wpAny_items_cons (ld_glob (X := X.suite a ((a, oe) :: (X.pn ++ pins))) S1 g2 m2 ?_ d2)
    refine wpAny_items_nil ⟨(by show 2 ≤ sizeLine; decide), ?_⟩
    have kp : ∀ q o, h1.get? q = some o → (h1.push { cls := .type "tuple", data := .seq [Value.ref C1, Value.ref C2].toArray }).get? q = some o := fun _ _ z => Heap.get?_push_of_some _ z
    refine (PySem.W.exm_tup2 (J1.kIn.keeps kp) (LT.keeps kp) (Heap.get?_push_size h1 rfl) hm).here ?_
    refine codeAny_handlers_suite_as (HandSPX.lands_againZ (fly_push fl1) fun h2 fl2 up2 => ?_)
    have J2 : Inv X pins σc Hc { sx with heap := h2 } := J.landed nb fl2.1 (((up.trans up1).trans (Heap.UpToSlots.of_keeps kp)).trans up2) os ag
    obtain ⟨oe2, vs2, he2, hz2, hd2⟩ := fl2.there
    have S2 := J2.suite he2 hd2 na nL nF
    refine store_ok (X := X.suite a ((a, oe2) :: (X.pn ++ pins))) (v := .ref a) S2 hN hi (.inl hln) rfl (fun s3 S3 => ?_) (.inr hln)
    refine wpAny_mono ((hsu a oe2 cls d (X.pn ++ pins) hz2 ⟨_, hd2⟩).run [] s3 _ Hc _ S3 (go a na J.len)) (fun f s4 fin => ?_) (fun _ _ z => z.elim)
    have gone : ∀ {σ4 : L2.St} {H4 : Hp} {Q : Shared → Prop}, Inv (X.suite a ((a, oe2) :: (X.pn ++ pins))) [] σ4 H4 s4 → (∀ s5, Inv X pins (σ4.set i none) H4 s5 → Q s5) →
        wpAny (model X.prog X.w) X.A (do bindName X.env n .none; unbindBehindTheSuite X.env n pos') (fun _ s5 => Q s5) X.xe s4 := fun S4 q4 => gone_ok (S4.unsuite ok) hN hi hln q4
    cases f with
    | ret u =>
      obtain ⟨v4, σ4, H4, S4, r4, q4⟩ := fin
      exact gone S4 fun s5 J5 => ⟨_, _, _, J5, r4, q4⟩
    | next =>
      obtain ⟨σ4, H4, S4, q4⟩ := fin
      exact gone S4 fun s5 J5 => ⟨_, _, J5, q4⟩
    | brk =>
      obtain ⟨σ4, H4, S4, q4⟩ := fin
      exact gone S4 fun s5 J5 => ⟨_, _, J5, q4⟩
    | cont =>
      obtain ⟨σ4, H4, S4, q4⟩ := fin
      exact gone S4 fun s5 J5 => ⟨_, _, J5, q4⟩
  · cases f with
    | ret u =>
      obtain ⟨v, σ5, H5, J5, r, q⟩ := done
      exact ⟨v, σ5, H5, J5.ofTry ok, r, q⟩
    | next =>
      obtain ⟨σ5, H5, J5, q⟩ := done
      exact wpAny_execs_nil ⟨σ5, H5, J5.ofTry ok, q⟩
    | brk =>
      obtain ⟨σ5, H5, J5, q⟩ := done
      exact ⟨σ5, H5, J5.ofTry ok, q⟩
    | cont =>
      obtain ⟨σ5, H5, J5, q⟩ := done
      exact ⟨σ5, H5, J5.ofTry ok, q⟩
end
end Ux

set_option Elab.async false
set_option linter.all false
set_option maxRecDepth 100000
set_option maxHeartbeats 4000000
namespace Ux
open PySem PySem.Spec PyProof.Rows L2
/-! ### within an except suite: fields of the caught exception, defs that are handed it -/
/-- a caught exception: its class C, its dict dd -/
def Caught (p : Addr × Obj) (C dd : Addr) : Prop := Zc (.ref C) (some dd) p.2 ∧ ∃ vs, p.2.data = .fields vs
/-- e.f, e the exception of a pin -/
def tPf (a dd : Addr) (f : Str) (te : TE) : TE := fun σ H Q => te σ H fun x H1 => ∃ (fs : List (Str × V)) (v : V), x = .ref a ∧ H1 dd = some (.xd fs) ∧ fs.lookup f = some v ∧ Q v H1
section
variable {X : Cx} {C dd : Addr} {p : Addr × Obj} {e : Expr} {te : TE} {pos : Pos} {f : Str}
theorem pe_pf (T : XfC X.K C) (no : PySem.W.findIn X.K (.ref C) f = some none) (hp : p ∈ X.pn) (c : Caught p C dd) (he : PE X e te) (hb : attributeBase e f X.env (eval e X.env) = eval e X.env := by rfl) : PE X (.Attribute e f pos) (tPf p.1 dd f te) := by
  constructor
  intro pins s σ H Q I h
  refine attr_of hb (thn (he.run pins s σ H _ I h) fun u s1 got => ?_)
  obtain ⟨x, H1, I1, rx, fs, v, rfl, hx, l, q⟩ := got
  cases (show u = Value.ref p.1 from rx)
  obtain ⟨⟨z1, z2⟩, vs, hd⟩ := c
  have ok : ObjOk X.prog X.w H1 s1.heap dd (.xd fs) := I1.hok dd _ hx
  obtain ⟨mA, ns, rel⟩ := ok
  obtain ⟨od, ho, hl⟩ := lookIn_ns ns
  obtain ⟨w, hw, rw'⟩ := RelO.some_of (v := v) (o := mA f) (l ▸ rel f)
  have J : PySem.W.InstAt s1.heap p.1 p.2 C (some od) := ⟨(I1.pin p (List.mem_append_left _ hp)).1, z1, by unfold PySem.W.notCls; rw [hd] <;> rfl, by rw [z2]; exact ho⟩
  exact HandSPX.exc_get I1.kIn J T.ga T.gg T.exC (PySem.W.findObj_own T.hdC no rfl ((hl f).trans (congrArg some hw))) (handed_of rw') ⟨v, H1, I1.tok _, rw', q⟩
end
/-- what a def promises that is called while p's exception is handled -/
structure FnQ (P : Program) (w : World) (K : PySem.W.Frag) (mg : Str → Option Value) (base : Heap) (k : Nat) (f : Addr) (fd : FuncData) (ps : List Str) (sp : Addr × Obj → Sp) : Prop where
  len : ∀ p vs H Q E, sp p vs H Q E → vs.length = ps.length
  run : ∀ (A : Around) (outer : List Env) (s : Shared) (H : Hp) (args : Args) (us : List Value) (vs : List V) (Q : VK) (E : XK) (p : Addr × Obj), L2H.RoomH k A → L2H.PinOk outer H s p → Env0 P w K mg base A outer s H → BindsTo s fd args (ps.zip us) → Vals vs us → sp p vs H Q E →
    codeAny (model P w) A (.call (.ref f) args) (CR CX0 outer P w H s Q E) s
theorem Fun.okQ {P : Program} {w : World} {K : PySem.W.Frag} {mg : Str → Option Value} {base : Heap} {k : Nat} {f : Addr} {fd : FuncData} {x qual : Str} {st : Stmt} {N ps : List Str} {sp : Addr × Obj → Sp} (F : Fun K x qual st f fd) (S : FnScope N ps (defScope st))
    (len : ∀ p vs H Q E, sp p vs H Q E → vs.length = ps.length)
    (body : ∀ (cdv : Value) (A : Around) (outer : List Env) (s : Shared) (H : Hp) (vs : List V) (Q : VK) (E : XK) (p : Addr × Obj), L2H.RoomH k (A.deeper (envOfC qual (defScope st) s.heap.objs.size f cdv)) → sp p vs H Q E →
      ∃ t, PSs (L2H.cxH CX0 P w K mg base N qual (defScope st) f cdv A outer s H E p) (defBody st) t ∧ t { nx := fun _ H' => Q .non H', rt := Q } (L2.start N vs) H) :
    FnQ P w K mg base (k + 1) f fd ps sp := by
  obtain ⟨oc, od, kV, doc, pm, an, cdv, ct, osl, rfl, lk, hcd⟩ := F.ex
  refine ⟨len, fun A outer s H args us vs Q E p hr pin e0 hb r want => ?_⟩
  have kin : K.In s.heap := e0.mod.kin.keeps fun b o z => (e0.bs b o z).1
  have lim : s.heap.NoLimit := e0.mod.nolimit.keeps fun b o z => (e0.bs b o z).1
  have kinds : ∀ y ∈ ps.zip us, (defScope st).names.lookup y.1 = some .local ∨ ((defScope st).names.lookup y.1 = some .cell ∧ ((cellsFrom (s.heap.objs.size + 1) (defScope st).names []).lookup y.1).isSome = true) := by
    rintro ⟨n, v⟩ hy
    rcases S.par n (List.of_mem_zip hy).1 with z | z
    · exact .inl z
    · exact .inr ⟨z, PySem.W.cellsFrom_some _ _ _ (.inl z)⟩
  refine codeAny_call_function hr.depth (kin _ _ lk) rfl S.co S.gen rfl (PySem.W.codeRec_of kin hcd) (hb _ _ _ _ (wpAny_newFunctionEnv_cells S.kind kinds fun env he s1 inn => ?_))
  subst he
  obtain ⟨t, ht, hq⟩ := body cdv A outer s H vs Q E p (hr.deeper _) want
  have I := L2H.inv_startH (CX := CX0) (E := E) S pin e0 (len _ _ _ _ _ want) r inn
  refine ⟨lim.keeps inn.toInCall.keep, codeAny_func (wpAny_mono (ht.run [] s1 (L2.start N vs) H _ I hq) (fun fl s2 fin => ?_) fun _ _ z => z)⟩
  cases fl with
  | ret u =>
    obtain ⟨v, σ2, H2, J, rv, q⟩ := fin
    exact ⟨v, H2, J.os, J.bare, J.base, J.hok, rv, q⟩
  | next =>
    obtain ⟨σ2, H2, J, q⟩ := fin
    exact ⟨.non, H2, J.os, J.bare, J.base, J.hok, rfl, q⟩
  | brk =>
    obtain ⟨_, _, _, q⟩ := fin
    exact q.elim
  | cont =>
    obtain ⟨_, _, _, q⟩ := fin
    exact q.elim
/-- such a call, with one argument -/
def tCallQ (p : Addr × Obj) (sp : Addr × Obj → Sp) (t : TA) : TE := fun σ H Q => t σ H fun vs H1 => sp p vs H1 Q E0
section
variable {X : Cx} {k : Nat} {f : Addr} {fd : FuncData} {ps : List Str} {sp : Addr × Obj → Sp} {x : Str} {q pos : Pos} {e : Expr} {es : List Expr} {t : TA} {p : Addr × Obj}
theorem pe_callQ (F : FnQ X.prog X.w X.K X.mg X.base k f fd ps sp) (hr : L2H.RoomH k X.A) (hp : p ∈ X.pn) (hg : Gl X x) (hm : X.mg x = some (.ref f)) (hk : PySem.W.keepIn X.K (.ref f) = true) (hb : Binds X.K fd ps [])
    (ha : PA X (e :: es) t) (hdb : (x == ("__debug__" : Str)) = false := by decide) (he : starEach (e :: es) X.env = (false, eval e X.env) :: starEach es X.env := by rfl) (hpl : (backTo pos (starEach es X.env)).any (·.1) = false := by rfl) :
    PE X (.Call (.Name x q) (e :: es) [] pos) (tCallQ p sp t) := by
  constructor
  intro pins s σ H Q I h
  refine wpAny_Call_Name_kw (ld_glob I hg hm ?_ hdb)
  refine PySem.W.callWith_K (h₀ := X.base) I.ok.mod.kin hk (thn (ha.run pos pins s σ H _ I h) fun us s1 got => ?_) he hpl
  obtain ⟨vs, H1, I1, r, want⟩ := got
  refine ⟨I1.kIn, ?_⟩
  have b := hb s1 us I1.kIn (by rw [List.append_nil, ← r.length]; exact F.len _ _ _ _ _ want)
  rw [List.append_nil] at b
  obtain ⟨a1, a2, a3, a4, a5⟩ := I1.pin p (List.mem_append_left _ hp)
  refine wpAny_call (codeAny_mono (F.run X.A X.stack s1 H1 ⟨us, []⟩ us vs Q E0 p hr ⟨a1, a2, fun m => (List.mem_cons.mp (I1.stkSub p.1 m)).elim a3 a4, a5⟩ I1.env0 b r want) fun r2 s2 fin => ?_)
  cases r2 with
  | error e => exact pass0 (X := X) pins σ H1 s1 e s2 I1 fin
  | ok fl =>
    cases fl with
    | ret u => exact I1.after fin
    | next => exact fin.elim
    | brk => exact fin.elim
    | cont => exact fin.elim
end
end Ux

set_option Elab.async false
set_option linter.all false
set_option maxRecDepth 100000
set_option maxHeartbeats 4000000
namespace Ux
open PySem PySem.Spec PyProof.Rows L2
/-! ### C.m(..), m a staticmethod of an own class -/
structure StM (K : PySem.W.Frag) (C : Addr) (m : Str) (mc : Value) (p g : Addr) : Prop where
  sg : PySem.W.specialIn K (.ref C) "__getattribute__" = some (some (.builtin "type.__getattribute__"))
  rd : PySem.W.readsIn K C mc = true
  fc : PySem.W.findCls K (.ref C) mc m = some (.get (.builtin "staticmethod.__get__") (.ref p) .none (.ref C))
  rc : ∃ rest, PySem.W.recIn K p "staticmethod" = some (.ref g :: rest)
  kp : PySem.W.keepIn K (.ref g) = true
section
variable {X : Cx} {CX : CXT} {k : Nat} {C p g : Addr} {x m : Str} {mc : Value} {fd : FuncData} {ps : List Str} {sp : Sp} {dvs : List V} {ds : List Value} {E : XK} {e : Expr} {es : List Expr} {t : TA} {p1 p2 pos : Pos} {pl : Sem Bool}
theorem pe_smeth (hg : Gl X x) (hm : X.mg x = some (.ref C)) (S : StM X.K C m mc p g) (F : FnOk X.prog X.w X.K X.mg X.base CX k g fd ps sp) (hr : Room k X.A) (hb : Binds X.K fd ps ds) (hd : Vals dvs ds) (hx : Passes CX X E) (ha : PA X (e :: es) t)
    (hdb : (x == ("__debug__" : Str)) = false := by decide)
    (hc : eval (.Call (.Attribute (.Name x p1) m p2) (e :: es) [] pos) X.env = (do
      let ov ← eval (.Name x p1) X.env
      standAt p2.atName
      let (f, first) ← holding [ov] (getMethod ov m pl)
      callWith pos f first (backTo pos (starEach (e :: es) X.env)) (backToKw pos (keywordEach [] X.env))) := by rfl)
    (he : starEach (e :: es) X.env = (false, eval e X.env) :: starEach es X.env := by rfl) (hpl : (backTo pos (starEach es X.env)).any (·.1) = false := by rfl) :
    PE X (.Call (.Attribute (.Name x p1) m p2) (e :: es) [] pos) (tCall sp dvs E t) := by
  constructor
  intro pins s σ H Q I h
  obtain ⟨rest, rc⟩ := S.rc
  refine PySem.W.methodCall_KW (ld_glob I hg hm ?_ hdb) hc
  refine PySem.W.method_cls I.kIn S.sg (PySem.W.cls_bind I.kIn S.rd S.fc (wpAny_call (PySem.W.sm_get (s := { s with toks := s.toks + 1 }) I.kIn rc (PySem.W.handed_on rfl ?_))))
  show wpAny _ _ (callWith pos (Value.ref g) [] (backTo pos (starEach (e :: es) X.env)) []) _ _ _
  refine PySem.W.callWith_K (h₀ := X.base) I.ok.mod.kin S.kp (thn (ha.run pos pins _ σ H _ (I.tok _) h) fun us s1 got => ?_) he hpl
  obtain ⟨vs, H1, I1, r, q⟩ := got
  exact ⟨I1.kIn, run_fn F hr hb hd hx I1 r q⟩
end
end Ux

set_option Elab.async false
set_option linter.all false
set_option maxRecDepth 100000
set_option maxHeartbeats 4000000
namespace Ux
open PySem PySem.Spec PyProof.Rows L2
section
variable {X : Cx} {CX : CXT} {k : Nat} {C p g : Addr} {x m : Str} {mc : Value} {fd : FuncData} {ps ks : List Str} {sp : Sp} {E : XK} {kws : List Keyword} {tk : TA} {p1 p2 pos : Pos} {pl : Sem Bool} {gg : List Value → List Value → List Value} {gV : List V → List V → List V}
/-- C.m(k = v, ..), m a staticmethod of an own class -/
theorem pe_smethK (hg : Gl X x) (hm : X.mg x = some (.ref C)) (S : StM X.K C m mc p g) (F : FnOk X.prog X.w X.K X.mg X.base CX k g fd ps sp) (hr : Room k X.A) (hb : KBinds X.K fd ps ks gg gV) (hx : Passes CX X E) (hkw : PK X kws tk)
    (hall : (backToKw pos (keywordEach kws X.env)).all (·.1.isSome) = true := by rfl) (hks : (backToKw pos (keywordEach kws X.env)).filterMap (·.1) = ks := by rfl)
    (hdb : (x == ("__debug__" : Str)) = false := by decide)
    (hc : eval (.Call (.Attribute (.Name x p1) m p2) [] kws pos) X.env = (do
      let ov ← eval (.Name x p1) X.env
      standAt p2.atName
      let (f, first) ← holding [ov] (getMethod ov m pl)
      callWith pos f first (backTo pos (starEach [] X.env)) (backToKw pos (keywordEach kws X.env))) := by rfl)
    (hpl : ((backTo pos (starEach [] X.env)).any (·.1) || (backToKw pos (keywordEach kws X.env)).any (·.1.isNone)) = false := by rfl) :
    PE X (.Call (.Attribute (.Name x p1) m p2) [] kws pos) (fun σ H Q => tk σ H fun zs H2 => sp (gV [] zs) H2 Q E) := by
  constructor
  intro pins s σ H Q I h
  obtain ⟨rest, rc⟩ := S.rc
  refine PySem.W.methodCall_KW (ld_glob I hg hm ?_ hdb) hc
  refine PySem.W.method_cls I.kIn S.sg (PySem.W.cls_bind I.kIn S.rd S.fc (wpAny_call (PySem.W.sm_get (s := { s with toks := s.toks + 1 }) I.kIn rc (PySem.W.handed_on rfl ?_))))
  refine PySem.W.callWith_KW0 (h₀ := X.base) I.ok.mod.kin S.kp hall ?_ hpl
  refine thn (hkw.run pos pins _ σ H _ (I.tok _) h) fun ws s2 got => ?_
  obtain ⟨zs, H2, I2, rz, q2⟩ := got
  refine ⟨I2.kIn, ?_⟩
  rw [hks]
  exact run_fnk (us := []) (vs := []) F hr hb hx I2 .nil rz q2
end
end Ux

set_option Elab.async false
set_option linter.all false
set_option maxRecDepth 100000
set_option maxHeartbeats 4000000
namespace K36
open PySem PySem.Spec PyProof.Rows L2 Ux
def top (i : Nat) : Stmt := PySem.Challenge.pw_unseenslopes_k36_curves_made.main.body.getD i (.Pass ⟨0, 0, 0, 0⟩)
abbrev sBag : Stmt := top 25
abbrev sPull : Stmt := top 26
abbrev sOf : Stmt := top 27
abbrev sSame : Stmt := top 28
/-- the built-ins that the text calls still stand -/
structure Bn (mg : Str → Option Value) : Prop where
  isin : mg "isinstance" = none
  tstr : mg "str" = none
  tint : mg "int" = none
  tlist : mg "list" = none
  ttuple : mg "tuple" = none
  tbool : mg "bool" = none
  fabs : mg "abs" = none
  frepr : mg "repr" = none
  flen : mg "len" = none
  frange : mg "range" = none
  fzip : mg "zip" = none
  fall : mg "all" = none
  tve : mg "ValueError" = none
  tle : mg "LookupError" = none
def BagL (l : Addr) (p : Nat) (g s c : Int) : List V := [.ref l, .int p, .int g, .int s, .int c]
/-- the bag of numbers at b, asked at most n times -/
structure BagAt (H : Hp) (b : Addr) (n : Nat) : Prop where
  ex : ∃ (l : Addr) (ns : List Int) (p : Nat) (g s c : Int), H b = some (.lst (BagL l p g s c)) ∧ H l = some (.lst (ns.map V.int)) ∧ b ≠ l ∧ 0 ≤ g ∧ 0 ≤ s ∧ s < 2147483549 ∧ 0 ≤ c ∧ c ≤ n
/-- all that was told stands, but what is at b -/
def But (b : Addr) (H H' : Hp) : Prop := ∀ x o, H x = some o → x ≠ b → H' x = some o
theorem But.refl {b : Addr} {H : Hp} : But b H H := fun _ _ h _ => h
theorem But.upd {b : Addr} {H H' : Hp} {o : HO} (h : But b H H') : But b H (upd H' b o) := fun x u e n => by
  rw [upd_ne n]
  exact h x u e n
theorem But.trans {b : Addr} {H H1 H2 : Hp} (h : But b H H1) (k : But b H1 H2) : But b H H2 := fun x o e n => k x o (h x o e n) n
/-- the list at b keeps its first item -/
def Hd (b : Addr) (H H' : Hp) : Prop := ∀ (l : Addr) (r : List V), H b = some (.lst (V.ref l :: r)) → ∃ r', H' b = some (.lst (V.ref l :: r'))
/-- all but b stands, and b keeps its first item -/
def Bt (b : Addr) (H H' : Hp) : Prop := But b H H' ∧ Hd b H H'
theorem Bt.trans {b : Addr} {H H1 H2 : Hp} (h : Bt b H H1) (k : Bt b H1 H2) : Bt b H H2 := ⟨h.1.trans k.1, fun l r e => by
  obtain ⟨r1, e1⟩ := h.2 l r e
  exact k.2 l r1 e1⟩
def spPull : Sp := fun vs H Q _ => ∃ (b : Addr) (m : Int) (n : Nat), vs = [.ref b, .int m] ∧ 0 < m ∧ m < 1073741824 ∧ BagAt H b n ∧ n ≤ 1000000000 ∧ ∀ (r : Int) (H' : Hp), 0 ≤ r → r < m → BagAt H' b (n + 1) → Bt b H H' → Q (.int r) H'
section
variable {P : Program} {w : World} {K : PySem.W.Frag} {mg : Str → Option Value} {base : Heap}
theorem scPull : FnScope ["_law_bag_here", "_law_many", "_law_cell", "_law_small", "_law_digit", "_law_seed", "_law_step"] ["_law_bag_here", "_law_many"] (defScope sPull) := ⟨rfl, rfl, rfl, by decide +kernel, rfl, by decide +kernel, by decide +kernel⟩
theorem ok_pull {f : Addr} {fd : FuncData} (F : Fun K "_law_pull" "_law_pull" sPull f fd) (T : Bn mg) : FnOk P w K mg base CX0 1 f fd ["_law_bag_here", "_law_many"] spPull := by
  refine F.ok scPull (fun vs H Q E h => ?_) (fun cdv A outer s H vs Q E hr h => ?_)
  · obtain ⟨b, m, n, rfl, _⟩ := h
    rfl
  · obtain ⟨b, m, n, rfl, m0, m1, ⟨l, ns, p, g, s', c, hb, hl, nbl, g0, s0, s1, c0, c1⟩, hn, k⟩ := h
    refine ⟨_, pss_cons (ps_asg (pe_op op_add (pe_ix ix_list (pv 0) pe_int (fun _ _ => rfl)) pe_int) (pg_sub (pv 0) pe_int set_list))
      (C8.pss_cut (ps_if (PW.pt (pw_and (pt_cmpR op_eq (pe_ix ix_list (pv 0) pe_int (fun _ _ => rfl)) pe_int (nomark _))
            (pw_and1 (pt_cmpR op_lt (pe_ix ix_list (pv 0) pe_int (fun _ _ => rfl)) (pe_callB call_len (by rfl) T.flen (by decide +kernel) (pa_cons (pe_ix ix_list (pv 0) pe_int (fun _ _ => rfl)) pa_nil)) (nomark _)))))
          (pss_cons (ps_set (i := 2) scPull.nd rfl (Or.inl rfl) (pe_ix ix_list (pe_ix ix_list (pv 0) pe_int (fun _ _ => rfl)) (pe_ix ix_list (pv 0) pe_int (fun _ _ => rfl)) (fun _ _ => rfl)))
          (pss_cons (ps_asg (pe_op op_add (pe_ix ix_list (pv 0) pe_int (fun _ _ => rfl)) pe_int) (pg_sub (pv 0) pe_int set_list))
          (pss_one (ps_if (pt_cmpR op_ge (pe_callB call_abs (by rfl) T.fabs (by decide +kernel) (pa_cons (pv 2) pa_nil)) (pe_op op_pow pe_int pe_int) (nomark _))
            (pss_one (ps_asg (pe_callB call_abs (by rfl) T.fabs (by decide +kernel) (pa_cons (pv 2) pa_nil)) (pg_sub (pv 0) pe_int set_list)))
            (pss_cons (ps_set (i := 3) scPull.nd rfl (Or.inl rfl) (pe_op op_add (pe_op op_mul (pe_op op_mod (pe_callTy call_int1 (by rfl) T.tint (by decide +kernel) (pa_cons (pv 2) pa_nil)) pe_int) pe_int) pe_int))
            (pss_one (ps_asg (pe_op op_mod (pe_callTy call_int1 (by rfl) T.tint (by decide +kernel) (pa_cons (pe_op op_add (pe_op op_mul (pe_ix ix_list (pv 0) pe_int (fun _ _ => rfl)) pe_int) (pv 3)) pa_nil)) pe_int) (pg_sub (pv 0) pe_int set_list))))))))
          pss_nil)
      (pss_cons (ps_if (pt_cmpR op_gt (pe_ix ix_list (pv 0) pe_int (fun _ _ => rfl)) pe_int (nomark _))
          (pss_cons (ps_set (i := 4) scPull.nd rfl (Or.inl rfl) (pe_op op_mod (pe_callTy call_int1 (by rfl) T.tint (by decide +kernel) (pa_cons (pe_ix ix_list (pv 0) pe_int (fun _ _ => rfl)) pa_nil)) (pv 1)))
          (pss_cons (ps_asg (pe_op op_fdiv (pe_ix ix_list (pv 0) pe_int (fun _ _ => rfl)) (pv 1)) (pg_sub (pv 0) pe_int set_list))
          (pss_one (ps_ret (pv 4))))) pss_nil)
      (pss_cons (ps_set (i := 5) scPull.nd rfl (Or.inl rfl) (pe_ix ix_list (pv 0) pe_int (fun _ _ => rfl)))
      (pss_cons (ps_set (i := 6) scPull.nd rfl (Or.inl rfl) (pe_op op_add (pe_op op_add (pe_op op_mul (pv 5) pe_int) (pe_op op_mul (pe_ix ix_list (pv 0) pe_int (fun _ _ => rfl)) pe_int)) pe_int))
      (pss_cons (ps_asg (pe_op op_mod (pe_callTy call_int1 (by rfl) T.tint (by decide +kernel) (pa_cons (pe_op op_add (pe_op op_mul (pe_op op_mul (pv 5) (pv 5)) pe_int) (pv 6)) pa_nil)) pe_int) (pg_sub (pv 0) pe_int set_list))
      (pss_one (ps_ret (pe_op op_mod (pe_callTy call_int1 (by rfl) T.tint (by decide +kernel) (pa_cons (pe_op op_add (pe_op op_fdiv (pe_ix ix_list (pv 0) pe_int (fun _ _ => rfl)) pe_int) (pe_op op_mul (pe_op op_mod (pe_callTy call_int1 (by rfl) T.tint (by decide +kernel) (pa_cons (pe_ix ix_list (pv 0) pe_int (fun _ _ => rfl)) pa_nil)) pe_int) pe_int)) pa_nil)) (pv 1))))))))), ?_⟩
    -- bag[4] = bag[4] + 1
    refine ⟨_, rfl, b, _, 4, _, rfl, rfl, .of hb, rfl, _, _, rfl, rfl, _, rfl, b, _, 4, 4, rfl, rfl, hb, rfl, ?_⟩
    have hb1 : upd H b (.lst (BagL l p g s' (c + 1))) b = some (.lst (BagL l p g s' (c + 1))) := upd_same
    have hl1 : upd H b (.lst (BagL l p g s' (c + 1))) l = some (.lst (ns.map V.int)) := (upd_ne (Ne.symm nbl)).trans hl
    have f1 : But b H (upd H b (.lst (BagL l p g s' (c + 1)))) := But.refl.upd
    -- the first if: the bag again
    refine ⟨fun σ H2 => ∃ (v2 v3 : Option V) (p : Nat) (g s : Int), σ = [some (.ref b), some (.int m), v2, v3, none, none, none] ∧ H2 b = some (.lst (BagL l p g s (c + 1))) ∧ H2 l = some (.lst (ns.map V.int)) ∧ 0 ≤ g ∧ 0 ≤ s ∧ s < 2147483549 ∧ But b H H2, ?_, ?_⟩
    · refine ⟨_, rfl, b, _, 2, _, rfl, rfl, .of hb1, rfl, rfl, _, rfl, ?_⟩
      by_cases hg : (V.int g) = V.int 0
      · rw [decide_eq_true hg]
        refine iteT ⟨_, rfl, b, _, 1, _, rfl, rfl, .of hb1, rfl, _, rfl, b, _, 0, _, rfl, rfl, .of hb1, rfl, _, _, rfl, .inl ⟨_, .of hl1, rfl⟩, _, _, rfl, rfl, _, rfl, ?_⟩
        by_cases hp : (p : Int) < ((ns.map V.int).length : Nat)
        · rw [decide_eq_true hp]
          have hp' : p < ns.length := by
            rw [List.length_map] at hp
            omega
          have hat : (ns.map V.int)[p]? = some (V.int ns[p]) := by
            rw [List.getElem?_map, List.getElem?_eq_getElem hp']
            rfl
          refine iteT ⟨_, rfl, b, _, 0, _, rfl, rfl, .of hb1, rfl, _, rfl, b, _, 1, _, rfl, rfl, .of hb1, rfl, l, _, _, _, rfl, rfl, .of hl1, atI_nat hat, ?_⟩
          refine ⟨_, rfl, b, _, 1, _, rfl, rfl, .of hb1, rfl, _, _, rfl, rfl, _, rfl, b, _, 1, 1, rfl, rfl, hb1, rfl, ?_⟩
          generalize ns[p] = z
          have hb2 : ∀ H2 : Hp, upd H2 b (.lst (BagL l (p + 1) g s' (c + 1))) b = some (.lst (BagL l (p + 1) g s' (c + 1))) := fun _ => upd_same
          refine ⟨_, rfl, _, rfl, _, _, rfl, rfl, ⟨by decide, by decide, by decide⟩, _, _, rfl, rfl, _, rfl, ?_⟩
          refine ite2 (fun big => ?_) (fun _ => ?_)
          · refine ⟨_, rfl, _, rfl, _, rfl, b, _, 2, 2, rfl, rfl, hb2 _, rfl, ?_⟩
            refine ⟨_, _, p + 1, _, s', rfl, upd_same, ?_, ?_, s0, s1, ((f1.upd).upd)⟩
            · rw [upd_ne (Ne.symm nbl), upd_ne (Ne.symm nbl)]
              exact hl1
            · show (0 : Int) ≤ if z < 0 then -z else z
              split <;> omega
          · refine ⟨_, rfl, .inl ⟨_, rfl, _, _, rfl, rfl, (by show (0 : Int) < 1000000007; decide), _, _, rfl, rfl, ?_, _, _, rfl, rfl, ?_⟩⟩
            · have q1 := Int.emod_nonneg z (show (1000000007 : Int) ≠ 0 by decide)
              have q2 := Int.emod_lt_of_pos z (show (0 : Int) < 1000000007 by decide)
              exact .inl ⟨by omega, by omega⟩
            · refine ⟨_, rfl, b, _, 3, _, rfl, rfl, .of (hb2 _), rfl, _, _, rfl, rfl, .inl ⟨by omega, by omega⟩, _, rfl, _, _, rfl, rfl, .inl ⟨_, rfl, _, _, rfl, rfl, (by show (0 : Int) < 2147483549; decide), ?_⟩⟩
              refine ⟨_, rfl, b, _, 3, 3, rfl, rfl, hb2 _, rfl, ?_⟩
              refine ⟨_, _, p + 1, g, _, rfl, upd_same, ?_, g0, Int.emod_nonneg _ (by decide), Int.emod_lt_of_pos _ (by decide), ((f1.upd).upd)⟩
              rw [upd_ne (Ne.symm nbl), upd_ne (Ne.symm nbl)]
              exact hl1
        · rw [decide_eq_false hp]
          refine iteF ?_
          exact ⟨_, _, p, g, s', rfl, hb1, hl1, g0, s0, s1, f1⟩
      · rw [decide_eq_false hg]
        refine iteF (iteF ?_)
        exact ⟨_, _, p, g, s', rfl, hb1, hl1, g0, s0, s1, f1⟩
    · clear hb1 hl1 f1 g0 s0 s1
      rintro σ H2 ⟨v2, v3, p, g, s, rfl, hb2, hl2, g0, s0, s1, f2⟩
      refine ⟨_, rfl, b, _, 2, _, rfl, rfl, .of hb2, rfl, _, _, rfl, rfl, _, rfl, ?_⟩
      refine ite2 (fun big => ?_) (fun _ => ?_)
      · refine ⟨_, rfl, b, _, 2, _, rfl, rfl, .of hb2, rfl, .inl ⟨_, rfl, _, rfl, _, _, rfl, rfl, m0, ?_⟩⟩
        refine ⟨_, rfl, b, _, 2, _, rfl, rfl, .of hb2, rfl, _, rfl, _, _, rfl, rfl, ⟨m0, m1⟩, _, rfl, b, _, 2, 2, rfl, rfl, hb2, rfl, ?_⟩
        refine ⟨_, rfl, ?_⟩
        refine k _ _ (Int.emod_nonneg _ (by omega)) (Int.emod_lt_of_pos _ m0) ⟨l, ns, p, g / m, s, c + 1, upd_same, ?_, nbl, Int.ediv_nonneg g0 (by omega), s0, s1, by omega, by omega⟩ ⟨f2.upd, fun l' r e => by rw [hb] at e; cases e; exact ⟨_, upd_same⟩⟩
        rw [upd_ne (Ne.symm nbl)]
        exact hl2
      · refine ⟨_, rfl, b, _, 3, _, rfl, rfl, .of hb2, rfl, ?_⟩
        refine ⟨_, rfl, _, _, rfl, rfl, .inl ⟨by omega, by omega⟩, _, rfl, b, _, 4, _, rfl, rfl, .of hb2, rfl, _, _, rfl, rfl, .inl ⟨by omega, by omega⟩, _, _, rfl, rfl, _, _, rfl, rfl, ?_⟩
        have sq : s * s ≤ 2147483549 * 2147483549 := Int.mul_le_mul (by omega) (by omega) s0 (by decide)
        have sq0 : 0 ≤ s * s := Int.mul_nonneg s0 s0
        refine ⟨_, rfl, _, rfl, _, _, rfl, rfl, .inl ⟨by omega, by omega⟩, _, _, rfl, rfl, .inl ⟨by omega, by omega⟩, _, rfl, _, _, rfl, rfl, .inl ⟨_, rfl, _, _, rfl, rfl, (by show (0 : Int) < 2147483549; decide), ?_⟩⟩
        refine ⟨_, rfl, b, _, 3, 3, rfl, rfl, hb2, rfl, ?_⟩
        have hb3 : ∀ y, upd H2 b (.lst (BagL l p g y (c + 1))) b = some (.lst (BagL l p g y (c + 1))) := fun _ => upd_same
        refine ⟨_, rfl, b, _, 3, _, rfl, rfl, .of (hb3 _), rfl, _, _, rfl, rfl, ⟨by decide, by decide⟩, _, rfl, b, _, 3, _, rfl, rfl, .of (hb3 _), rfl, .inl ⟨_, rfl, _, _, rfl, rfl, (by show (0 : Int) < 7901; decide), _, _, rfl, rfl, ?_, _, _, rfl, rfl, .inl ⟨_, rfl, _, rfl, _, _, rfl, rfl, m0, ?_⟩⟩⟩
        · refine .inr ⟨by decide, by decide⟩
        · refine k _ _ (Int.emod_nonneg _ (by omega)) (Int.emod_lt_of_pos _ m0) ⟨l, ns, p, g, _, c + 1, upd_same, ?_, nbl, g0, Int.emod_nonneg _ (by decide), Int.emod_lt_of_pos _ (by decide), by omega, by omega⟩ ⟨f2.upd, fun l' r e => by rw [hb] at e; cases e; exact ⟨_, upd_same⟩⟩
          rw [upd_ne (Ne.symm nbl)]
          exact hl2
end
/-- a def of the text under its name -/
structure Dn (K : PySem.W.Frag) (mg : Str → Option Value) (x : Str) (f : Addr) : Prop where
  gl : mg x = some (.ref f)
  kp : PySem.W.keepIn K (.ref f) = true
def spBag (K : PySem.W.Frag) : Sp := fun vs H Q _ => ∃ (a : Addr) (ns : List Int), vs = [.ref a] ∧ SqL K H a (ns.map V.int) ∧ ∀ (b : Addr) (H' : Hp), BagAt H' b 0 → H b = none → Same H H' → Q (.ref b) H'
def spOf : Sp := fun vs H Q _ => ∃ (b t : Addr) (n : Nat) (xs : List V), vs = [.ref b, .ref t] ∧ BagAt H b n ∧ n ≤ 1000000000 ∧ t ≠ b ∧ H t = some (.lst xs) ∧ 0 < xs.length ∧ xs.length ≤ 1000 ∧ ∀ (i : Nat) (v : V) (H' : Hp), xs[i]? = some v → BagAt H' b (n + 1) → Bt b H H' → Q v H'
theorem cut_ints (ns : List Int) (lo hi : Option Int) : ∃ ms : List Int, cutV (ns.map V.int) lo hi = ms.map V.int := by
  unfold cutV
  rw [← List.map_drop, ← List.map_take]
  exact ⟨_, rfl⟩
section
variable {P : Program} {w : World} {K : PySem.W.Frag} {mg : Str → Option Value} {base : Heap}
theorem scBag : FnScope ["_law_script"] ["_law_script"] (defScope sBag) := ⟨rfl, rfl, rfl, by decide +kernel, rfl, by decide +kernel, by decide +kernel⟩
theorem ok_bag {f : Addr} {fd : FuncData} (F : Fun K "_law_bag" "_law_bag" sBag f fd) (T : Bn mg) : FnOk P w K mg base CX0 1 f fd ["_law_script"] (spBag K) := by
  refine F.ok scBag (fun vs H Q E h => ?_) (fun cdv A outer s H vs Q E hr h => ?_)
  · obtain ⟨a, ns, rfl, _⟩ := h
    rfl
  · obtain ⟨a, ns, rfl, hS, k⟩ := h
    refine ⟨_, pss_one (ps_ret (pe_lst (pa_cons (pe_callTy call_list_of (by rfl) T.tlist (by decide +kernel) (pa_cons (pe_slice sl_list (pv 0) po_none (po_some pe_int)) pa_nil)) (pa_cons pe_int (pa_cons pe_int (pa_cons pe_int (pa_cons pe_int pa_nil))))))), ?_⟩
    obtain ⟨ms, hm⟩ := cut_ints ns none (some 63)
    refine ⟨_, rfl, _, rfl, a, _, rfl, hS, fun p hp => ?_⟩
    rw [hm]
    refine ⟨p, _, rfl, .inl (SqL.of upd_same), fun l hl => ?_⟩
    refine ⟨(by show 5 ≤ sizeLine; decide), fun b hb => ?_⟩
    have nbl : b ≠ l := (ne_of_none upd_same hb).symm
    refine k b _ ⟨l, ms, 0, 0, 12004, 0, upd_same, ?_, nbl, by decide, by decide, by decide, by decide, by decide⟩ ?_ ?_
    · rw [upd_ne nbl.symm]
      exact upd_same
    · have e1 : H b ≠ none → False := fun z => by
        cases e : H b with
        | none => exact z e
        | some o =>
          have q : (upd (upd H p (.lst (ms.map V.int))) l (.lst (ms.map V.int))) b = some o := by
            rw [upd_ne nbl, upd_ne (ne_of_none e hp)]
            exact e
          rw [q] at hb
          cases hb
      exact Classical.byContradiction e1
    · intro c o e
      have h1 := ne_of_none e hp
      have s1 : upd H p (.lst (ms.map V.int)) c = some o := by
        rw [upd_ne h1]
        exact e
      have h2 := ne_of_none s1 hl
      have s2 : upd (upd H p (.lst (ms.map V.int))) l (.lst (ms.map V.int)) c = some o := by
        rw [upd_ne h2]
        exact s1
      rw [upd_ne (ne_of_none s2 hb)]
      exact s2
theorem scOf : FnScope ["_law_bag_here", "_law_things"] ["_law_bag_here", "_law_things"] (defScope sOf) := ⟨rfl, rfl, rfl, by decide +kernel, rfl, by decide +kernel, by decide +kernel⟩
theorem ok_of {f fP : Addr} {fd fdP : FuncData} (F : Fun K "_law_of" "_law_of" sOf f fd) (T : Bn mg) (D : Dn K mg "_law_pull" fP) (G : FnOk P w K mg base CX0 1 fP fdP ["_law_bag_here", "_law_many"] spPull) (bP : Binds K fdP ["_law_bag_here", "_law_many"] []) :
    FnOk P w K mg base CX0 2 f fd ["_law_bag_here", "_law_things"] spOf := by
  refine F.ok scOf (fun vs H Q E h => ?_) (fun cdv A outer s H vs Q E hr h => ?_)
  · obtain ⟨b, t, n, xs, rfl, _⟩ := h
    rfl
  · obtain ⟨b, t, n, xs, rfl, B, hn, nt, ht, l0, l1, k⟩ := h
    refine ⟨_, pss_one (ps_ret (pe_ix ix_list (pv 1) (pe_call G hr (by rfl) D.gl D.kp bP .nil pass0 (pa_cons (pv 0) (pa_cons (pe_callB call_len (by rfl) T.flen (by decide +kernel) (pa_cons (pv 1) pa_nil)) pa_nil))) (fun _ _ => rfl))), ?_⟩
    refine ⟨_, rfl, _, rfl, _, rfl, _, _, rfl, .inl ⟨_, .of ht, rfl⟩, b, _, n, rfl, by omega, by omega, B, hn, fun r H' r0 r1 B' f' => ?_⟩
    have hi : r.toNat < xs.length := by omega
    have q := List.getElem?_eq_getElem hi
    generalize xs[r.toNat] = y at q
    refine ⟨t, xs, r, y, rfl, rfl, .of (f'.1 _ _ ht nt), ?_, k r.toNat y H' q B' f'⟩
    have z := atI_nat q
    rw [Int.toNat_of_nonneg r0] at z
    exact z
/-! ### same -/
/-- u and v are like data, less than n deep -/
def Like (H : Hp) : Nat → V → V → Prop
  | 0, _, _ => False
  | n + 1, u, v => (u = v ∧ (v = .non ∨ (∃ b, v = .bl b) ∨ (∃ i, v = .int i) ∨ ∃ x, v = .str x)) ∨
    ∃ (a b : Addr) (xs ys : List V), u = .ref a ∧ v = .ref b ∧ ((H a = some (.tup xs) ∧ H b = some (.tup ys)) ∨ (H a = some (.lst xs) ∧ H b = some (.lst ys))) ∧ xs.length = ys.length ∧ xs.length ≤ 1000 ∧ ∀ (i : Nat) (x y : V), xs[i]? = some x → ys[i]? = some y → Like H n x y
theorem Like.mono {H H' : Hp} (s : Same H H') : ∀ {n : Nat} {u v : V}, Like H n u v → Like H' n u v
  | 0, _, _, h => h.elim
  | n + 1, u, v, h => by
    rcases h with h | ⟨a, b, xs, ys, e1, e2, hh, l1, l2, k⟩
    · exact .inl h
    · refine .inr ⟨a, b, xs, ys, e1, e2, ?_, l1, l2, fun i x y hx hy => Like.mono s (k i x y hx hy)⟩
      rcases hh with ⟨h1, h2⟩ | ⟨h1, h2⟩
      · exact .inl ⟨s _ _ h1, s _ _ h2⟩
      · exact .inr ⟨s _ _ h1, s _ _ h2⟩
def spSame (n : Nat) : Sp := fun vs H Q _ => ∃ u v, vs = [u, v] ∧ Like H n u v ∧ ∀ H', Same H H' → Q (.bl true) H'
theorem Same.new {H H' : Hp} {p : Addr} {o : HO} (s : Same H H') (hp : H' p = none) : Same H (upd H' p o) := fun c u e => by
  rw [upd_ne (ne_of_none (s c u e) hp)]
  exact s c u e
theorem scSame : FnScope ["_law_found", "_law_due", "_law_a", "_law_b"] ["_law_found", "_law_due"] (defScope sSame) := ⟨rfl, rfl, rfl, by decide +kernel, rfl, by decide +kernel, by decide +kernel⟩
theorem walk_zipT {a b : Addr} {xs ys : List V} {n : Nat} (hn : n = min xs.length ys.length) : Walk (RZ.ItzT K a b) n (fun H => SqT K H a xs ∧ SqT K H b ys) (YPair (fun i => xs[i]?) (fun i => ys[i]?)) := by
  subst hn
  refine ⟨fun i _ hi q => ?_, fun _ q => ⟨xs, ys, q.1, q.2, ?_⟩, fun i H v H' _ q y => ?_⟩
  · have h1 : i < xs.length := by omega
    have h2 : i < ys.length := by omega
    refine ⟨xs, ys, xs[i], ys[i], q.1, q.2, List.getElem?_eq_getElem h1, List.getElem?_eq_getElem h2⟩
  · omega
  · obtain ⟨T, x, z, h1, h2, h3, h4, h5⟩ := y
    exact ⟨T, x, z, h1, h2, h3, h4 xs q.1, h5 ys q.2⟩
theorem all_true (n : Nat) : (List.replicate n true).all id = true := by
  induction n with
  | zero => rfl
  | succ n ih =>
    rw [List.replicate_succ, List.all_cons, ih]
    rfl
theorem any_no {T : String} (h1 : kitB T "list" = some false) (h2 : kitB T "tuple" = some false) : PySem.W.kitAny K (.type T) [.type "list", .type "tuple"] = some false :=
  kitAny_cons (kit_ty h1) (fun _ => kitAny_cons (kit_ty h2) (fun _ => kitAny_nil) (fun z => nomatch z)) (fun z => nomatch z)
theorem any_lst : PySem.W.kitAny K (.type "list") [.type "list", .type "tuple"] = some true :=
  kitAny_cons (b := true) (kit_ty (by decide +kernel)) (fun z => nomatch z) (fun _ => rfl)
theorem any_tup : PySem.W.kitAny K (.type "tuple") [.type "list", .type "tuple"] = some true :=
  kitAny_cons (b := false) (kit_ty (by decide +kernel)) (fun _ => kitAny_cons (b := true) (kit_ty (by decide +kernel)) (fun z => nomatch z) (fun _ => rfl)) (fun z => nomatch z)
theorem lt_tup : Paired ClsV [V.ty "list", V.ty "tuple"] [Value.type "list", Value.type "tuple"] := .cons (.ty _) (.cons (.ty _) .nil)
theorem ok_same_step {f : Addr} {fd : FuncData} {n k : Nat} (F : Fun K "_law_same" "_law_same" sSame f fd) (T : Bn mg) (D : Dn K mg "_law_same" f) (G : FnOk P w K mg base CX0 k f fd ["_law_found", "_law_due"] (spSame n)) (bS : Binds K fd ["_law_found", "_law_due"] []) :
    FnOk P w K mg base CX0 (k + 1) f fd ["_law_found", "_law_due"] (spSame (n + 1)) := by
  refine F.ok scSame (fun vs H Q E h => ?_) (fun cdv A outer s H vs Q E hr h => ?_)
  · obtain ⟨u, v, rfl, _⟩ := h
    rfl
  · obtain ⟨u, v, rfl, lk, kk⟩ := h
    refine ⟨_, pss_cons (ps_if (PW.pt (pw_or (pt_cmpR op_isN (pv 1) pe_non (nomark _)) (pw_or1 (pt_cmpR op_isN (pv 0) pe_non (nomark _)))))
        (pss_one (ps_ret (pe_and (pe_cmpR op_isN (pv 1) pe_non (nomark _)) (pe_one (pe_cmpR op_isN (pv 0) pe_non (nomark _)))))) pss_nil)
      (pss_cons (ps_if (PW.pt (pw_or (pt_val (pe_callB call_isi (by rfl) T.isin (by decide +kernel) (pa_cons (pv 1) (pa_cons (pe_bltn (v := .ty "bool") (by rfl) T.tbool (by decide +kernel) rfl) pa_nil)))) (pw_or1 (pt_val (pe_callB call_isi (by rfl) T.isin (by decide +kernel) (pa_cons (pv 0) (pa_cons (pe_bltn (v := .ty "bool") (by rfl) T.tbool (by decide +kernel) rfl) pa_nil)))))))
        (pss_one (ps_ret (pe_and (pe_callB call_isi (by rfl) T.isin (by decide +kernel) (pa_cons (pv 1) (pa_cons (pe_bltn (v := .ty "bool") (by rfl) T.tbool (by decide +kernel) rfl) pa_nil))) (pe_and (pe_callB call_isi (by rfl) T.isin (by decide +kernel) (pa_cons (pv 0) (pa_cons (pe_bltn (v := .ty "bool") (by rfl) T.tbool (by decide +kernel) rfl) pa_nil))) (pe_one (pe_cmpR op_eq (pv 0) (pv 1) (nomark _))))))) pss_nil)
      (pss_cons (ps_if (PW.pt (pw_or (pt_val (pe_callB call_isiT (by rfl) T.isin (by decide +kernel) (pa_cons (pv 1) (pa_cons (pe_tup (pa_cons (pe_bltn (v := .ty "list") (by rfl) T.tlist (by decide +kernel) rfl) (pa_cons (pe_bltn (v := .ty "tuple") (by rfl) T.ttuple (by decide +kernel) rfl) pa_nil))) pa_nil)))) (pw_or1 (pt_val (pe_callB call_isiT (by rfl) T.isin (by decide +kernel) (pa_cons (pv 0) (pa_cons (pe_tup (pa_cons (pe_bltn (v := .ty "list") (by rfl) T.tlist (by decide +kernel) rfl) (pa_cons (pe_bltn (v := .ty "tuple") (by rfl) T.ttuple (by decide +kernel) rfl) pa_nil))) pa_nil)))))))
        (pss_cons (ps_if (pt_cmpR op_ne (pe_callB call_isi (by rfl) T.isin (by decide +kernel) (pa_cons (pv 1) (pa_cons (pe_bltn (v := .ty "list") (by rfl) T.tlist (by decide +kernel) rfl) pa_nil))) (pe_callB call_isi (by rfl) T.isin (by decide +kernel) (pa_cons (pv 0) (pa_cons (pe_bltn (v := .ty "list") (by rfl) T.tlist (by decide +kernel) rfl) pa_nil))) (nomark _)) (pss_one (ps_ret pe_bl)) pss_nil)
        (pss_cons (ps_if (PW.pt (pw_or (pt_cmpR op_ne (pe_callB call_isi (by rfl) T.isin (by decide +kernel) (pa_cons (pv 1) (pa_cons (pe_bltn (v := .ty "tuple") (by rfl) T.ttuple (by decide +kernel) rfl) pa_nil))) (pe_callB call_isi (by rfl) T.isin (by decide +kernel) (pa_cons (pv 0) (pa_cons (pe_bltn (v := .ty "tuple") (by rfl) T.ttuple (by decide +kernel) rfl) pa_nil))) (nomark _)) (pw_or1 (pt_cmpR op_ne (pe_callB call_len (by rfl) T.flen (by decide +kernel) (pa_cons (pv 0) pa_nil)) (pe_callB call_len (by rfl) T.flen (by decide +kernel) (pa_cons (pv 1) pa_nil)) (nomark _))))) (pss_one (ps_ret pe_bl)) pss_nil)
        (pss_one (ps_ret (pe_callB (cr_all rfl) (by rfl) T.fall (by decide +kernel) (pa_cons (pe_lc (own := [("_law_a", 2), ("_law_b", 3)]) (g := gTup K 2 (gCons (gName 2) (gCons (gName 3) gNil))) rfl scSame.nd (RZ.pi_zipA (by rfl) T.fzip (pa_cons (pv 0) (pa_cons (pv 1) pa_nil))) (blkOk_by (own := [("_law_a", 2), ("_law_b", 3)]) (N := ["_law_found", "_law_due", "_law_a", "_law_b"]) (sc := defScope sSame) (by decide +kernel))
            (fun _ _ _ _ _ => pg_tup (n := 2) rfl (pgs_cons (pg_name (i := 2) scSame.nd rfl (Or.inl rfl) (hf := Or.inr rfl)) (pgs_cons (pg_name (i := 3) scSame.nd rfl (Or.inl rfl) (hf := Or.inr rfl)) pgs_nil))) (fun _ _ _ _ _ => pts_nil)
            (fun _ _ _ _ _ => pe_call G hr (by rfl) D.gl D.kp bS .nil pass0 (pa_cons (pv 2) (pa_cons (pv 3) pa_nil)))) pa_nil)))))) pss_nil)
      (pss_cons (ps_if (pt_cmpR op_ne (pe_callB call_isi (by rfl) T.isin (by decide +kernel) (pa_cons (pv 1) (pa_cons (pe_bltn (v := .ty "int") (by rfl) T.tint (by decide +kernel) rfl) pa_nil))) (pe_callB call_isi (by rfl) T.isin (by decide +kernel) (pa_cons (pv 0) (pa_cons (pe_bltn (v := .ty "int") (by rfl) T.tint (by decide +kernel) rfl) pa_nil))) (nomark _)) (pss_one (ps_ret pe_bl)) pss_nil)
      (pss_one (ps_ret (pe_and (pe_cmpR op_eq (pe_callB call_isi (by rfl) T.isin (by decide +kernel) (pa_cons (pv 1) (pa_cons (pe_bltn (v := .ty "str") (by rfl) T.tstr (by decide +kernel) rfl) pa_nil))) (pe_callB call_isi (by rfl) T.isin (by decide +kernel) (pa_cons (pv 0) (pa_cons (pe_bltn (v := .ty "str") (by rfl) T.tstr (by decide +kernel) rfl) pa_nil))) (nomark _)) (pe_one (pe_cmpR op_eq (pv 0) (pv 1) (nomark _))))))))), ?_⟩
    rcases lk with ⟨rfl, (rfl | ⟨b, rfl⟩ | ⟨i, rfl⟩ | ⟨x, rfl⟩)⟩ | ⟨a, b, xs, ys, rfl, rfl, hh, l1, l2, like⟩
    · refine ⟨_, rfl, rfl, _, rfl, iteT ?_⟩
      exact ⟨_, rfl, rfl, _, rfl, iteT ⟨_, rfl, rfl, kk _ (Same.refl _)⟩⟩
    · refine ⟨_, rfl, rfl, _, rfl, iteF ⟨_, rfl, rfl, _, rfl, iteF ?_⟩⟩
      refine ⟨_, rfl, _, _, _, _, true, rfl, .ty "bool", .base (.bl _), kit_ty (by decide +kernel), _, rfl, iteT ?_⟩
      refine ⟨_, rfl, _, _, _, _, true, rfl, .ty "bool", .base (.bl _), kit_ty (by decide +kernel), _, rfl, iteT ⟨_, rfl, _, _, _, _, true, rfl, .ty "bool", .base (.bl _), kit_ty (by decide +kernel), _, rfl, iteT ⟨_, rfl, _, rfl, rfl, ?_⟩⟩⟩
      rw [decide_eq_true rfl]
      exact kk _ (Same.refl _)
    · refine ⟨_, rfl, rfl, _, rfl, iteF ⟨_, rfl, rfl, _, rfl, iteF ?_⟩⟩
      refine ⟨_, rfl, _, _, _, _, false, rfl, .ty "bool", .base (.int _), kit_ty (by decide +kernel), _, rfl, iteF ⟨_, rfl, _, _, _, _, false, rfl, .ty "bool", .base (.int _), kit_ty (by decide +kernel), _, rfl, iteF ?_⟩⟩
      refine ⟨_, rfl, (by show 2 ≤ sizeLine; decide), fun p hp => ⟨_, p, _, _, _, false, rfl, upd_same, lt_tup, .base (.int _), any_no (by decide +kernel) (by decide +kernel), _, rfl, iteF ⟨_, rfl, (by show 2 ≤ sizeLine; decide), fun p2 hp2 => ⟨_, p2, _, _, _, false, rfl, upd_same, lt_tup, .base (.int _), any_no (by decide +kernel) (by decide +kernel), _, rfl, iteF ?_⟩⟩⟩⟩
      have s2 := (Same.new (Same.new (Same.refl H) hp (o := .tup [V.ty "list", V.ty "tuple"])) hp2 (o := .tup [V.ty "list", V.ty "tuple"]))
      refine ⟨_, rfl, _, _, _, _, true, rfl, .ty "int", .base (.int _), kit_ty (by decide +kernel), _, rfl, _, _, _, _, true, rfl, .ty "int", .base (.int _), kit_ty (by decide +kernel), rfl, _, rfl, iteF ?_⟩
      refine ⟨_, rfl, _, _, _, _, false, rfl, .ty "str", .base (.int _), kit_ty (by decide +kernel), _, rfl, _, _, _, _, false, rfl, .ty "str", .base (.int _), kit_ty (by decide +kernel), rfl, _, rfl, iteT ⟨_, rfl, _, rfl, rfl, ?_⟩⟩
      rw [decide_eq_true rfl]
      exact kk _ s2
    · refine ⟨_, rfl, rfl, _, rfl, iteF ⟨_, rfl, rfl, _, rfl, iteF ?_⟩⟩
      refine ⟨_, rfl, _, _, _, _, false, rfl, .ty "bool", .base (.str _), kit_ty (by decide +kernel), _, rfl, iteF ⟨_, rfl, _, _, _, _, false, rfl, .ty "bool", .base (.str _), kit_ty (by decide +kernel), _, rfl, iteF ?_⟩⟩
      refine ⟨_, rfl, (by show 2 ≤ sizeLine; decide), fun p hp => ⟨_, p, _, _, _, false, rfl, upd_same, lt_tup, .base (.str _), any_no (by decide +kernel) (by decide +kernel), _, rfl, iteF ⟨_, rfl, (by show 2 ≤ sizeLine; decide), fun p2 hp2 => ⟨_, p2, _, _, _, false, rfl, upd_same, lt_tup, .base (.str _), any_no (by decide +kernel) (by decide +kernel), _, rfl, iteF ?_⟩⟩⟩⟩
      have s2 := (Same.new (Same.new (Same.refl H) hp (o := .tup [V.ty "list", V.ty "tuple"])) hp2 (o := .tup [V.ty "list", V.ty "tuple"]))
      refine ⟨_, rfl, _, _, _, _, false, rfl, .ty "int", .base (.str _), kit_ty (by decide +kernel), _, rfl, _, _, _, _, false, rfl, .ty "int", .base (.str _), kit_ty (by decide +kernel), rfl, _, rfl, iteF ?_⟩
      refine ⟨_, rfl, _, _, _, _, true, rfl, .ty "str", .base (.str _), kit_ty (by decide +kernel), _, rfl, _, _, _, _, true, rfl, .ty "str", .base (.str _), kit_ty (by decide +kernel), rfl, _, rfl, iteT ⟨_, rfl, _, rfl, rfl, ?_⟩⟩
      rw [decide_eq_true rfl]
      exact kk _ s2
    · refine ⟨_, rfl, rfl, _, rfl, iteF ⟨_, rfl, rfl, _, rfl, iteF ?_⟩⟩
      rcases hh with ⟨ha, hb⟩ | ⟨ha, hb⟩
      · refine ⟨_, rfl, _, _, _, _, false, rfl, .ty "bool", .base (.tup hb), kit_ty (by decide +kernel), _, rfl, iteF ⟨_, rfl, _, _, _, _, false, rfl, .ty "bool", .base (.tup ha), kit_ty (by decide +kernel), _, rfl, iteF ?_⟩⟩
        refine ⟨_, rfl, (by show 2 ≤ sizeLine; decide), fun p hp => ?_⟩
        have s1 := Same.new (Same.refl H) hp (o := .tup [V.ty "list", V.ty "tuple"])
        have ha1 := s1 _ _ ha
        have hb1 := s1 _ _ hb
        refine ⟨_, p, _, _, _, true, rfl, upd_same, lt_tup, .base (.tup hb1), any_tup, _, rfl, iteT ?_⟩
        refine ⟨_, rfl, _, _, _, _, false, rfl, .ty "list", .base (.tup hb1), kit_ty (by decide +kernel), _, rfl, _, _, _, _, false, rfl, .ty "list", .base (.tup ha1), kit_ty (by decide +kernel), rfl, _, rfl, iteF ?_⟩
        refine ⟨_, rfl, _, _, _, _, true, rfl, .ty "tuple", .base (.tup hb1), kit_ty (by decide +kernel), _, rfl, _, _, _, _, true, rfl, .ty "tuple", .base (.tup ha1), kit_ty (by decide +kernel), rfl, _, rfl, iteF ⟨_, rfl, _, _, rfl, .inr ⟨_, .of ha1, rfl⟩, _, rfl, _, _, rfl, .inr ⟨_, .of hb1, rfl⟩, ?_⟩⟩
        refine ⟨rfl, _, rfl, ?_⟩
        rw [l1, decide_eq_true rfl]
        refine iteF ?_
        refine ⟨_, rfl, _, rfl, a, b, xs, ys, rfl, .inr ⟨SqT.of ha1, SqT.of hb1, fun D hD => ?_⟩⟩
        refine lc_it (walk_zipT (n := ys.length) (by rw [l1, Nat.min_self])) (fun i H' => Same (upd H p (.tup [V.ty "list", V.ty "tuple"])) H' ∧ H' D = some (.lst ((List.replicate i true).map V.bl))) ⟨Same.new (Same.refl _) hD, upd_same⟩ (fun i H' _ z => ⟨SqT.of (z.1 _ _ ha1), SqT.of (z.1 _ _ hb1)⟩) ?_ ?_
        · rintro i x H2 H3 hi ⟨t2, d2⟩ ⟨T1, y, z, rfl, nT, rfl, hy, hz⟩
          have t3 := Same.new t2 nT (o := .tup [y, z])
          refine ⟨T1, _, rfl, SqT.of upd_same, rfl, y, _, rfl, z, _, rfl, rfl, rfl, ?_⟩
          refine ⟨_, rfl, _, rfl, y, z, rfl, Like.mono (s1.trans t3) (like i y z hy hz), fun H4 s4 => ?_⟩
          have d4 : H4 D = some (.lst ((List.replicate i true).map V.bl)) := s4 _ _ (by rw [upd_ne (ne_of_none d2 nT)]; exact d2)
          refine ⟨_, d4, ?_, fun c o e => ?_, ?_⟩
          · rw [List.length_map, List.length_replicate]
            exact small1000 (by omega)
          · have q := s4 _ _ (t3 c o e)
            rw [upd_ne (ne_of_none e hD)]
            exact q
          · rw [upd_same, List.replicate_succ', List.map_append]
            rfl
        · rintro H2 ⟨t2, d2⟩
          refine ⟨D, _, rfl, .of d2, ?_⟩
          rw [all_true]
          exact kk _ (s1.trans t2)

      · refine ⟨_, rfl, _, _, _, _, false, rfl, .ty "bool", .base (.lst hb), kit_ty (by decide +kernel), _, rfl, iteF ⟨_, rfl, _, _, _, _, false, rfl, .ty "bool", .base (.lst ha), kit_ty (by decide +kernel), _, rfl, iteF ?_⟩⟩
        refine ⟨_, rfl, (by show 2 ≤ sizeLine; decide), fun p hp => ?_⟩
        have s1 := Same.new (Same.refl H) hp (o := .tup [V.ty "list", V.ty "tuple"])
        have ha1 := s1 _ _ ha
        have hb1 := s1 _ _ hb
        refine ⟨_, p, _, _, _, true, rfl, upd_same, lt_tup, .base (.lst hb1), any_lst, _, rfl, iteT ?_⟩
        refine ⟨_, rfl, _, _, _, _, true, rfl, .ty "list", .base (.lst hb1), kit_ty (by decide +kernel), _, rfl, _, _, _, _, true, rfl, .ty "list", .base (.lst ha1), kit_ty (by decide +kernel), rfl, _, rfl, iteF ?_⟩
        refine ⟨_, rfl, _, _, _, _, false, rfl, .ty "tuple", .base (.lst hb1), kit_ty (by decide +kernel), _, rfl, _, _, _, _, false, rfl, .ty "tuple", .base (.lst ha1), kit_ty (by decide +kernel), rfl, _, rfl, iteF ⟨_, rfl, _, _, rfl, .inl ⟨_, .of ha1, rfl⟩, _, rfl, _, _, rfl, .inl ⟨_, .of hb1, rfl⟩, ?_⟩⟩
        refine ⟨rfl, _, rfl, ?_⟩
        rw [l1, decide_eq_true rfl]
        refine iteF ?_
        refine ⟨_, rfl, _, rfl, a, b, xs, ys, rfl, .inl ⟨SqL.of ha1, SqL.of hb1, fun D hD => ?_⟩⟩
        refine lc_it (walk_zip (n := ys.length) (by rw [l1, Nat.min_self])) (fun i H' => Same (upd H p (.tup [V.ty "list", V.ty "tuple"])) H' ∧ H' D = some (.lst ((List.replicate i true).map V.bl))) ⟨Same.new (Same.refl _) hD, upd_same⟩ (fun i H' _ z => ⟨SqL.of (z.1 _ _ ha1), SqL.of (z.1 _ _ hb1)⟩) ?_ ?_
        · rintro i x H2 H3 hi ⟨t2, d2⟩ ⟨T1, y, z, rfl, nT, rfl, hy, hz⟩
          have t3 := Same.new t2 nT (o := .tup [y, z])
          refine ⟨T1, _, rfl, SqT.of upd_same, rfl, y, _, rfl, z, _, rfl, rfl, rfl, ?_⟩
          refine ⟨_, rfl, _, rfl, y, z, rfl, Like.mono (s1.trans t3) (like i y z hy hz), fun H4 s4 => ?_⟩
          have d4 : H4 D = some (.lst ((List.replicate i true).map V.bl)) := s4 _ _ (by rw [upd_ne (ne_of_none d2 nT)]; exact d2)
          refine ⟨_, d4, ?_, fun c o e => ?_, ?_⟩
          · rw [List.length_map, List.length_replicate]
            exact small1000 (by omega)
          · have q := s4 _ _ (t3 c o e)
            rw [upd_ne (ne_of_none e hD)]
            exact q
          · rw [upd_same, List.replicate_succ', List.map_append]
            rfl
        · rintro H2 ⟨t2, d2⟩
          refine ⟨D, _, rfl, .of d2, ?_⟩
          rw [all_true]
          exact kk _ (s1.trans t2)

end
end K36

set_option Elab.async false
set_option linter.all false
set_option maxRecDepth 100000
set_option maxHeartbeats 4000000
namespace K36
open PySem PySem.Spec PyProof.Rows L2 Ux
abbrev sField : Stmt := top 29
abbrev sOtherField : Stmt := top 30
abbrev sWhy : Stmt := top 31
/-- the names of the errors' fields -/
def fieldNames : List Str := ["code", "given", "at", "name", "what", "limit", "index", "line", "deed"]
/-- a caught error with the fields fs -/
structure Err (K : PySem.W.Frag) (H : Hp) (p : Addr × Obj) (C dd : Addr) (fs : List (Str × V)) : Prop where
  ca : Caught p C dd
  xf : XfC K C
  no : ∀ f ∈ fieldNames, PySem.W.findIn K (.ref C) f = some none
  at_ : H dd = some (.xd fs)
theorem Err.same {K : PySem.W.Frag} {H H' : Hp} {p : Addr × Obj} {C dd : Addr} {fs : List (Str × V)} (h : Err K H p C dd fs) (s : Same H H') : Err K H' p C dd fs := ⟨h.ca, h.xf, h.no, s _ _ h.at_⟩
/-- what such an error has beside its code -/
def Has (fs : List (Str × V)) (f : Str) (q : V → Prop) : Prop := ∃ v, fs.lookup f = some v ∧ q v
def otherF (code : Str) (fs : List (Str × V)) (q : V → Prop) : Prop :=
  if decide (V.str code = V.str "InvalidFact") = true then Has fs "what" q else if decide (V.str code = V.str "InvalidRow") = true then Has fs "index" q else if decide (V.str code = V.str "InvalidPage") = true then Has fs "line" q else
  if decide (V.str code = V.str "UnlikeWorlds") = true then q .non else Has fs "deed" q
def spOtherF (K : PySem.W.Frag) : Addr × Obj → Sp := fun p vs H Q _ => ∃ (C dd : Addr) (fs : List (Str × V)) (code : Str), vs = [.ref p.1] ∧ Err K H p C dd fs ∧ fs.lookup ("code" : Str) = some (V.str code) ∧ otherF code fs fun v => Q v H
def fieldF (code : Str) (fs : List (Str × V)) (q : V → Prop) (tup : V → V → Prop) : Prop :=
  if inV (.str code) [.str "InvalidName", .str "InvalidNumber"] = true then Has fs "given" q else if inV (.str code) [.str "InvalidText", .str "WrongKind", .str "InvalidBlank"] = true then Has fs "at" q else
  if inV (.str code) [.str "NameTaken", .str "InvalidWitness", .str "UnknownName"] = true then Has fs "name" q else
  if decide (V.str code = V.str "TooLarge") = true then Has fs "what" (fun v => Has fs "limit" fun u => tup v u) else otherF code fs q
def spFieldE (K : PySem.W.Frag) : Addr × Obj → Sp := fun p vs H Q _ => ∃ (C dd : Addr) (fs : List (Str × V)) (code : Str), vs = [.ref p.1] ∧ Err K H p C dd fs ∧ fs.lookup ("code" : Str) = some (V.str code) ∧
  fieldF code fs (fun v => ∀ H', Same H H' → Q v H') fun v u => ∀ (t : Addr) (H' : Hp), H' t = some (.tup [v, u]) → Same H H' → Q (.ref t) H'
theorem same_upd' {H : Hp} {a : Addr} {o : HO} (ha : H a = none) : Same H (upd H a o) := fun x u e => by
  rw [upd_ne (ne_of_none e ha)]
  exact e
theorem unT {A B : Prop} (h : if true = true then A else B) : A := by
  rw [if_pos rfl] at h
  exact h
theorem unF {A B : Prop} (h : if false = true then A else B) : B := by
  rw [if_neg Bool.false_ne_true] at h
  exact h
section
variable {P : Program} {w : World} {K : PySem.W.Frag} {mg : Str → Option Value} {base : Heap}
theorem scOtherField : FnScope ["_law_e"] ["_law_e"] (defScope sOtherField) := ⟨rfl, rfl, rfl, by decide +kernel, rfl, by decide +kernel, by decide +kernel⟩
theorem ok_otherField {f : Addr} {fd : FuncData} (F : Fun K "_law_other_field" "_law_other_field" sOtherField f fd) : FnQ P w K mg base 1 f fd ["_law_e"] (spOtherF K) := by
  refine Ux.Fun.okQ F scOtherField (fun p vs H Q E h => ?_) (fun cdv A outer s H vs Q E p hr h => ?_)
  · obtain ⟨_, _, _, _, rfl, _⟩ := h
    rfl
  · obtain ⟨C, dd, fs, code, rfl, er, lc, q⟩ := h
    have hp : p ∈ (L2H.cxH CX0 P w K mg base ["_law_e"] "_law_other_field" (defScope sOtherField) f cdv A outer s H E p).pn := List.mem_singleton.mpr rfl
    refine ⟨_, pss_cons (ps_if (pt_cmpR op_eq (pe_pf er.xf (er.no _ (by decide +kernel)) hp er.ca (pv 0)) pe_str (nomark _)) (pss_one (ps_ret (pe_pf er.xf (er.no _ (by decide +kernel)) hp er.ca (pv 0)))) pss_nil)
      (pss_cons (ps_if (pt_cmpR op_eq (pe_pf er.xf (er.no _ (by decide +kernel)) hp er.ca (pv 0)) pe_str (nomark _)) (pss_one (ps_ret (pe_pf er.xf (er.no _ (by decide +kernel)) hp er.ca (pv 0)))) pss_nil)
      (pss_cons (ps_if (pt_cmpR op_eq (pe_pf er.xf (er.no _ (by decide +kernel)) hp er.ca (pv 0)) pe_str (nomark _)) (pss_one (ps_ret (pe_pf er.xf (er.no _ (by decide +kernel)) hp er.ca (pv 0)))) pss_nil)
      (pss_one (ps_ret (pe_ifExp (pt_cmpR op_eq (pe_pf er.xf (er.no _ (by decide +kernel)) hp er.ca (pv 0)) pe_str (nomark _)) pe_non (pe_pf er.xf (er.no _ (by decide +kernel)) hp er.ca (pv 0))))))), ?_⟩
    have ha := er.at_
    unfold otherF at q
    refine ⟨_, rfl, fs, _, rfl, ha, lc, rfl, _, rfl, ?_⟩
    cases h1 : decide (V.str code = V.str "InvalidFact") with
    | true =>
      rw [h1] at q
      obtain ⟨v, lv, k⟩ := unT q
      exact iteT ⟨_, rfl, fs, v, rfl, ha, lv, k⟩
    | false =>
      rw [h1] at q
      have q := unF q
      refine iteF ⟨_, rfl, fs, _, rfl, ha, lc, rfl, _, rfl, ?_⟩
      cases h2 : decide (V.str code = V.str "InvalidRow") with
      | true =>
        rw [h2] at q
        obtain ⟨v, lv, k⟩ := unT q
        exact iteT ⟨_, rfl, fs, v, rfl, ha, lv, k⟩
      | false =>
        rw [h2] at q
        have q := unF q
        refine iteF ⟨_, rfl, fs, _, rfl, ha, lc, rfl, _, rfl, ?_⟩
        cases h3 : decide (V.str code = V.str "InvalidPage") with
        | true =>
          rw [h3] at q
          obtain ⟨v, lv, k⟩ := unT q
          exact iteT ⟨_, rfl, fs, v, rfl, ha, lv, k⟩
        | false =>
          rw [h3] at q
          have q := unF q
          refine iteF ⟨_, rfl, fs, _, rfl, ha, lc, rfl, _, rfl, ?_⟩
          cases h4 : decide (V.str code = V.str "UnlikeWorlds") with
          | true =>
            rw [h4] at q
            exact iteT (unT q)
          | false =>
            rw [h4] at q
            obtain ⟨v, lv, k⟩ := unF q
            exact iteF ⟨_, rfl, fs, v, rfl, ha, lv, k⟩
theorem scField : FnScope ["_law_e"] ["_law_e"] (defScope sField) := ⟨rfl, rfl, rfl, by decide +kernel, rfl, by decide +kernel, by decide +kernel⟩
theorem ok_field {f fO : Addr} {fd fdO : FuncData} (F : Fun K "_law_field" "_law_field" sField f fd) (D : Dn K mg "_law_other_field" fO) (G : FnQ P w K mg base 1 fO fdO ["_law_e"] (spOtherF K)) (bO : Binds K fdO ["_law_e"] []) : FnQ P w K mg base 2 f fd ["_law_e"] (spFieldE K) := by
  refine Ux.Fun.okQ F scField (fun p vs H Q E h => ?_) (fun cdv A outer s H vs Q E p hr h => ?_)
  · obtain ⟨_, _, _, _, rfl, _⟩ := h
    rfl
  · obtain ⟨C, dd, fs, code, rfl, er, lc, q⟩ := h
    have hp : p ∈ (L2H.cxH CX0 P w K mg base ["_law_e"] "_law_field" (defScope sField) f cdv A outer s H E p).pn := List.mem_singleton.mpr rfl
    refine ⟨_, pss_cons (ps_if (pt_cmpR op_in_seq (pe_pf er.xf (er.no _ (by decide +kernel)) hp er.ca (pv 0)) (pe_tup (pa_cons pe_str (pa_cons pe_str pa_nil))) (by rfl)) (pss_one (ps_ret (pe_pf er.xf (er.no _ (by decide +kernel)) hp er.ca (pv 0)))) pss_nil)
      (pss_cons (ps_if (pt_cmpR op_in_seq (pe_pf er.xf (er.no _ (by decide +kernel)) hp er.ca (pv 0)) (pe_tup (pa_cons pe_str (pa_cons pe_str (pa_cons pe_str pa_nil)))) (by rfl)) (pss_one (ps_ret (pe_pf er.xf (er.no _ (by decide +kernel)) hp er.ca (pv 0)))) pss_nil)
      (pss_cons (ps_if (pt_cmpR op_in_seq (pe_pf er.xf (er.no _ (by decide +kernel)) hp er.ca (pv 0)) (pe_tup (pa_cons pe_str (pa_cons pe_str (pa_cons pe_str pa_nil)))) (by rfl)) (pss_one (ps_ret (pe_pf er.xf (er.no _ (by decide +kernel)) hp er.ca (pv 0)))) pss_nil)
      (pss_cons (ps_if (pt_cmpR op_eq (pe_pf er.xf (er.no _ (by decide +kernel)) hp er.ca (pv 0)) pe_str (nomark _)) (pss_one (ps_ret (pe_tup (pa_cons (pe_pf er.xf (er.no _ (by decide +kernel)) hp er.ca (pv 0)) (pa_cons (pe_pf er.xf (er.no _ (by decide +kernel)) hp er.ca (pv 0)) pa_nil))))) pss_nil)
      (pss_one (ps_ret (pe_callQ G hr hp (by rfl) D.gl D.kp bO (pa_cons (pv 0) pa_nil))))))), ?_⟩
    have ha := er.at_
    unfold fieldF at q
    refine ⟨_, rfl, fs, _, rfl, ha, lc, (by show 2 ≤ sizeLine; decide), fun t1 n1 => ?_⟩
    have s1 := same_upd' (o := .tup [V.str "InvalidName", .str "InvalidNumber"]) n1
    refine ⟨t1, _, rfl, .inr (.of upd_same), rfl, rfl, _, rfl, ?_⟩
    show if inV (.str code) [.str "InvalidName", .str "InvalidNumber"] = true then _ else _
    cases h1 : inV (.str code) [.str "InvalidName", .str "InvalidNumber"] with
    | true =>
      rw [h1] at q
      obtain ⟨v, lv, k⟩ := unT q
      exact iteT ⟨_, rfl, fs, v, rfl, s1 _ _ ha, lv, k _ s1⟩
    | false =>
      rw [h1] at q
      have q := unF q
      refine iteF ⟨_, rfl, fs, _, rfl, s1 _ _ ha, lc, (by show 3 ≤ sizeLine; decide), fun t2 n2 => ?_⟩
      have s2 := s1.trans (same_upd' (o := .tup [V.str "InvalidText", .str "WrongKind", .str "InvalidBlank"]) n2)
      refine ⟨t2, _, rfl, .inr (.of upd_same), rfl, rfl, _, rfl, ?_⟩
      show if inV (.str code) [.str "InvalidText", .str "WrongKind", .str "InvalidBlank"] = true then _ else _
      cases h2 : inV (.str code) [.str "InvalidText", .str "WrongKind", .str "InvalidBlank"] with
      | true =>
        rw [h2] at q
        obtain ⟨v, lv, k⟩ := unT q
        exact iteT ⟨_, rfl, fs, v, rfl, s2 _ _ ha, lv, k _ s2⟩
      | false =>
        rw [h2] at q
        have q := unF q
        refine iteF ⟨_, rfl, fs, _, rfl, s2 _ _ ha, lc, (by show 3 ≤ sizeLine; decide), fun t3 n3 => ?_⟩
        have s3 := s2.trans (same_upd' (o := .tup [V.str "NameTaken", .str "InvalidWitness", .str "UnknownName"]) n3)
        refine ⟨t3, _, rfl, .inr (.of upd_same), rfl, rfl, _, rfl, ?_⟩
        show if inV (.str code) [.str "NameTaken", .str "InvalidWitness", .str "UnknownName"] = true then _ else _
        cases h3 : inV (.str code) [.str "NameTaken", .str "InvalidWitness", .str "UnknownName"] with
        | true =>
          rw [h3] at q
          obtain ⟨v, lv, k⟩ := unT q
          exact iteT ⟨_, rfl, fs, v, rfl, s3 _ _ ha, lv, k _ s3⟩
        | false =>
          rw [h3] at q
          have q := unF q
          refine iteF ⟨_, rfl, fs, _, rfl, s3 _ _ ha, lc, rfl, _, rfl, ?_⟩
          cases h4 : decide (V.str code = V.str "TooLarge") with
          | true =>
            rw [h4] at q
            obtain ⟨v, lv, u, lu, k⟩ := unT q
            refine iteT ⟨_, rfl, fs, v, rfl, s3 _ _ ha, lv, _, rfl, fs, u, rfl, s3 _ _ ha, lu, (by show 2 ≤ sizeLine; decide), fun t4 n4 => ?_⟩
            exact k t4 _ upd_same (s3.trans (same_upd' n4))
          | false =>
            rw [h4] at q
            have q := unF q
            refine iteF ⟨_, rfl, C, dd, fs, code, rfl, er.same s3, lc, ?_⟩
            unfold otherF at q ⊢
            have mono : ∀ {f : Str}, Has fs f (fun v => ∀ H', Same H H' → Q v H') → Has fs f fun v => Q v _ := fun ⟨v, l, k⟩ => ⟨v, l, k _ s3⟩
            split at q
            · rename_i c
              rw [if_pos c]
              exact mono q
            · rename_i c
              rw [if_neg c]
              split at q
              · rename_i c
                rw [if_pos c]
                exact mono q
              · rename_i c
                rw [if_neg c]
                split at q
                · rename_i c
                  rw [if_pos c]
                  exact mono q
                · rename_i c
                  rw [if_neg c]
                  split at q
                  · rename_i c
                    rw [if_pos c]
                    exact q _ s3
                  · rename_i c
                    rw [if_neg c]
                    exact mono q
end
end K36

set_option Elab.async false
set_option linter.all false
set_option maxRecDepth 100000
set_option maxHeartbeats 4000000
namespace K36
open PySem PySem.Spec PyProof.Rows L2 Ux
/-! ### _law_why, handed a lambda -/
/-- the wish of an error: told as its code and what it has -/
def Told (K : PySem.W.Frag) (C1 C2 : Addr) (Q : VK) : XK := fun cls d H => ∃ (C dd : Addr) (fs : List (Str × V)) (code : Str), cls = .ref C ∧ d = some dd ∧ H dd = some (.xd fs) ∧ PySem.W.exmAny K cls [.ref C1, .ref C2] = some true ∧ XfC K C ∧
  (∀ f ∈ fieldNames, PySem.W.findIn K (.ref C) f = some none) ∧ fs.lookup ("code" : Str) = some (V.str code) ∧
  fieldF code fs (fun v => ∀ (t : Addr) (H' : Hp), H' t = some (.tup [.str code, v]) → Same H H' → Q (.ref t) H')
    fun v u => ∀ (t t2 : Addr) (H' : Hp), H' t2 = some (.tup [v, u]) → H' t = some (.tup [.str code, .ref t2]) → Same H H' → Q (.ref t) H'
def TTwhy (K : PySem.W.Frag) (C1 C2 : Addr) : (XK → Hp → VK → Prop) → Hp → VK → Prop := fun tl H Q =>
  tl (Told K C1 C2 Q) H fun v H' => [V.str "value", v].length ≤ sizeLine ∧ ∀ t : Addr, H' t = none → Q (.ref t) (upd H' t (.tup [.str "value", v]))
theorem Has.imp {fs : List (Str × V)} {f : Str} {q q' : V → Prop} (h : Has fs f q) (k : ∀ v, q v → q' v) : Has fs f q' := by
  obtain ⟨v, l, z⟩ := h
  exact ⟨v, l, k v z⟩
theorem ite_imp {c : Prop} [Decidable c] {A B A' B' : Prop} (h : if c then A else B) (ha : A → A') (hb : B → B') : if c then A' else B' := by
  split
  · rename_i z
    rw [if_pos z] at h
    exact ha h
  · rename_i z
    rw [if_neg z] at h
    exact hb h
theorem fieldF_imp {code : Str} {fs : List (Str × V)} {q q' : V → Prop} {t t' : V → V → Prop} (h : fieldF code fs q t) (k : ∀ v, q v → q' v) (k2 : ∀ v u, t v u → t' v u) : fieldF code fs q' t' := by
  unfold fieldF at h ⊢
  refine ite_imp h (fun z => z.imp k) fun h => ite_imp h (fun z => z.imp k) fun h => ite_imp h (fun z => z.imp k) fun h => ite_imp h (fun z => z.imp fun v z => z.imp (k2 v)) fun h => ?_
  unfold otherF at h ⊢
  exact ite_imp h (fun z => z.imp k) fun h => ite_imp h (fun z => z.imp k) fun h => ite_imp h (fun z => z.imp k) fun h => ite_imp h (k _) fun z => z.imp k
/-- the suite's reading -/
def tsWhy (K : PySem.W.Frag) (a : Addr) (cls : Value) (d : Option Addr) : TS := fun D σ H => ∃ C dd : Addr, cls = .ref C ∧ d = some dd ∧ XfC K C ∧ (∀ f ∈ fieldNames, PySem.W.findIn K (.ref C) f = some none) ∧
  ∀ oe : Obj, Caught (a, oe) C dd → tRet (tTup (tCons (tPf a dd "code" (tVar 1)) (tCons (tCallQ (a, oe) (spFieldE K) (tCons (tVar 1) tNil)) tNil))) D σ H
theorem scWhy : FnScope ["_law_ask", "_law_e"] ["_law_ask"] (defScope sWhy) := ⟨rfl, rfl, rfl, by decide +kernel, rfl, by decide +kernel, by decide +kernel⟩
section
variable {X : Cx} {C1 C2 fF g : Addr} {fdF : FuncData} {q : Str} {cdg : Value}
theorem why_gives (hr : Room 3 X.A) (D : Dn X.K X.mg "_law_field" fF) (G : FnQ X.prog X.w X.K X.mg X.base 2 fF fdF ["_law_e"] (spFieldE X.K)) (bF : Binds X.K fdF ["_law_e"] []) (m1 : X.mg "SlopeError" = some (.ref C1)) (m2 : X.mg "Missing" = some (.ref C2)) :
    LamX.GivesTo X ["_law_ask", "_law_e"] "_law_why" (defScope sWhy) g cdg (defBody sWhy) "_law_ask" q (TTwhy X.K C1 C2) := by
  intro f c' s H Q tl act hc h
  have room : L2H.RoomH 2 (cxOf C8.CX0 X.prog X.w X.K X.mg X.base ["_law_ask", "_law_e"] "_law_why" (defScope sWhy) g cdg X.A X.stack s H C8.E0).A := (L2H.roomH_of hr).deeper _
  refine ⟨_, pss_one (ps_try_as2 (X := (cxOf C8.CX0 X.prog X.w X.K X.mg X.base ["_law_ask", "_law_e"] "_law_why" (defScope sWhy) g cdg X.A X.stack s H C8.E0).nox) (i := 1) (C1 := C1) (C2 := C2) (ts := tsWhy X.K)
      (tb := fun W D σ H => ∃ Ech : XK, (∀ cls d σ' H', Ech cls d H' → W cls d σ' H') ∧ σ[0]? = some (some (.ref f)) ∧ H c' = some (LamX.CodeO c' q) ∧ tl Ech H fun v H' => [V.str "value", v].length ≤ sizeLine ∧ ∀ t, H' t = none → D.rt (.ref t) (upd H' t (.tup [.str "value", v])))
      rfl rfl scWhy.nd rfl rfl rfl rfl m1 m2 (by decide +kernel) (by decide +kernel) (fun W pn xe tk _ => ?_) (fun a oe cls d pn hz hf => ?_)), ?_⟩
  · refine ⟨fun pins s' σ H' D I h' => ?_⟩
    obtain ⟨Ech, hW, h1, h2, h3⟩ := h'
    exact (pss_one (ps_ret (pe_tup (pa_cons pe_str (pa_cons (act W pn xe Ech _ _ tk hW) pa_nil))))).run pins s' σ H' D I ⟨h1, h2, h3⟩
  · refine ⟨fun pins s' σ H' D' I h' => ?_⟩
    obtain ⟨C, dd, rfl, rfl, xf, no, k⟩ := h'
    have hp : (a, oe) ∈ ((cxOf C8.CX0 X.prog X.w X.K X.mg X.base ["_law_ask", "_law_e"] "_law_why" (defScope sWhy) g cdg X.A X.stack s H C8.E0).nox.suite a ((a, oe) :: pn)).pn := List.mem_cons_self
    have room2 : L2H.RoomH 2 ((cxOf C8.CX0 X.prog X.w X.K X.mg X.base ["_law_ask", "_law_e"] "_law_why" (defScope sWhy) g cdg X.A X.stack s H C8.E0).nox.suite a ((a, oe) :: pn)).A := ⟨room.dp, room.un⟩
    refine PSs.run (X := (cxOf C8.CX0 X.prog X.w X.K X.mg X.base ["_law_ask", "_law_e"] "_law_why" (defScope sWhy) g cdg X.A X.stack s H C8.E0).nox.suite a ((a, oe) :: pn)) (t := tRet (tTup (tCons (tPf a dd "code" (tVar 1)) (tCons (tCallQ (a, oe) (spFieldE X.K) (tCons (tVar 1) tNil)) tNil)))) ?_ pins s' σ H' D' I (k oe ⟨hz, hf⟩)
    exact pss_one (ps_ret (pe_tup (pa_cons (pe_pf (p := (a, oe)) xf (no _ (by decide +kernel)) hp ⟨hz, hf⟩ (pv 1)) (pa_cons (pe_callQ (p := (a, oe)) G room2 hp (by rfl) D.gl D.kp bF (pa_cons (pv 1) pa_nil)) pa_nil))))
  · refine ⟨Told X.K C1 C2 Q, fun cls d σ' H' t => ?_, rfl, hc, h⟩
    obtain ⟨C, dd, fs, code, rfl, rfl, hdd, ex, xf, no, lc, ff⟩ := t
    refine ⟨ex, fun a na len => ⟨C, dd, rfl, rfl, xf, no, fun oe ca => ?_⟩⟩
    have got : (σ'.set 1 (some (V.ref a)))[1]? = some (some (V.ref a)) := List.getElem?_set_self (by rw [len]; show 1 < 2; decide)
    refine ⟨.ref a, got, fs, _, rfl, hdd, lc, .ref a, got, C, dd, fs, code, rfl, ⟨ca, xf, no, hdd⟩, lc, fieldF_imp ff (fun v hv H2 s2 => ?_) (fun v u hv t2 H2 h2 s2 => ?_)⟩
    · exact ⟨(by show 2 ≤ sizeLine; decide), fun t nt => hv t _ upd_same (s2.trans (same_upd' nt))⟩
    · exact ⟨(by show 2 ≤ sizeLine; decide), fun t nt => hv t t2 _ ((upd_ne (ne_of_none h2 nt)).trans h2) upd_same (s2.trans (same_upd' nt))⟩
end
end K36

set_option Elab.async false
set_option linter.all false
set_option maxRecDepth 100000
set_option maxHeartbeats 4000000
namespace Ux
open PySem PySem.Spec PyProof.Rows L2
/-! ### {o} in an f-string by o's own __str__; the inner walk of a comprehension with two for -/
structure FmO (K : PySem.W.Frag) (C : Addr) : Prop where
  fm : PySem.W.findIn K (.ref C) "__format__" = some (some (.builtin "object.__format__"))
  ob : PySem.W.mroIn K C (.type "object") = some true
def tFmtO (C : Addr) (sp : Sp) (te : TE) : TE := fun σ H Q => te σ H fun x H1 => ∃ (a dx : Addr) (fs : List (Str × V)), x = .ref a ∧ H1 a = some (.ins C dx fs) ∧ sp [.ref a] H1 (fun v H' => ∃ z, v = .str z ∧ Q (.str z) H') (fun _ _ _ => False)
section
variable {X : Cx} {k : Nat} {f C : Addr} {fd : FuncData} {sp : Sp} {e : Expr} {te : TE} {pos : Pos}
theorem pe_fmtO (M : OwnM X.K C "__str__" f) (N : FmO X.K C) (F : FnOk X.prog X.w X.K X.mg X.base CX0 k f fd ["self"] sp) (hb : Binds X.K fd ["self"] []) (hr : Room (k + 1) X.A) (he : PE X e te) : PE X (.FormattedValue e (-1) none pos) (tFmtO C sp te) := by
  refine ⟨fun pins s σ H Q I h => ?_⟩
  refine wpAny_FormattedValue_plain (thn (he.run pins s σ H _ I h) fun v s1 hv => ?_)
  obtain ⟨x, H1, I1, r1, a, dx, fs, rfl, ea, q⟩ := hv
  cases (show v = Value.ref a from r1)
  obtain ⟨mA, O, _⟩ := ins_get I1.hok ea
  obtain ⟨od, J, _⟩ := O.look
  refine PySem.W.kfo_fieldS hr.in1.units0 I1.kIn J N.fm N.ob M.at_ M.fn (own_run F hr.in1 (I1.tok _).env0.in1 hb (vs := [.ref a]) (I1.tok _) (.cons rfl .nil) q fun u s' hq => ?_)
  obtain ⟨v, H', I', rv, z, ev, q'⟩ := hq
  subst ev
  obtain ⟨t, rfl⟩ := rv
  exact ⟨.str z, H', I', ⟨t, rfl⟩, q'⟩
end
theorem lc_in {K : PySem.W.Frag} {a : Addr} {xs : List V} {H4 : Hp} {Nx : Hp → Prop} {T : V → Hp → (Hp → Prop) → Prop} (Pv : Nat → Hp → Prop) (h0 : Pv 0 H4) (hl : ∀ i H, i ≤ xs.length → Pv i H → SqT K H a xs)
    (hs : ∀ i x H, xs[i]? = some x → Pv i H → T x H (Pv (i + 1))) (hd : ∀ H, Pv xs.length H → Nx H) :
    ∃ W : Nat → Nat → Hp → Prop, (∃ m, W 0 m H4) ∧ ∀ i m H, W i m H →
      ((Itt K a).stop i H ∧ Nx H) ∨ ((Itt K a).go i H ∧ ∃ N1 : Hp → Prop, (∀ H', N1 H' → ∃ m', m' < m ∧ W (i + 1) m' H') ∧ ∀ x H', (Itt K a).yld i H x H' → T x H' N1) := by
  refine ⟨fun i m H => m = xs.length - i ∧ i ≤ xs.length ∧ Pv i H, ⟨xs.length, by simp, Nat.zero_le _, h0⟩, ?_⟩
  rintro i m H ⟨rfl, hi, p⟩
  have q := hl i H hi p
  by_cases hlt : i < xs.length
  · refine .inr ⟨⟨xs, xs[i], q, by simp [hlt]⟩, Pv (i + 1), fun H' p' => ⟨xs.length - (i + 1), by omega, rfl, hlt, p'⟩, fun x H' y => ?_⟩
    obtain ⟨e, y⟩ := y
    subst e
    exact hs i x _ (y xs q) p
  · have e : i = xs.length := by omega
    subst e
    exact .inl ⟨⟨xs, q, Nat.le_refl _⟩, hd H p⟩
end Ux

set_option Elab.async false
set_option linter.all false
set_option maxRecDepth 100000
set_option maxHeartbeats 4000000
namespace Ux
open PySem PySem.Spec PyProof.Rows L2
section
variable {X : Cx} {CX : CXT} {k : Nat} {C p g : Addr} {x m : Str} {mc : Value} {fd : FuncData} {ps : List Str} {sp : Sp} {dvs : List V} {ds : List Value} {E : XK} {p1 p2 pos : Pos} {pl : Sem Bool}
/-- C.m(), m a staticmethod of an own class -/
theorem pe_smeth0 (hg : Gl X x) (hm : X.mg x = some (.ref C)) (S : StM X.K C m mc p g) (F : FnOk X.prog X.w X.K X.mg X.base CX k g fd ps sp) (hr : Room k X.A) (hb : Binds X.K fd ps ds) (hd : Vals dvs ds) (hx : Passes CX X E)
    (hdb : (x == ("__debug__" : Str)) = false := by decide)
    (hc : eval (.Call (.Attribute (.Name x p1) m p2) [] [] pos) X.env = (do
      let ov ← eval (.Name x p1) X.env
      standAt p2.atName
      let (f, first) ← holding [ov] (getMethod ov m pl)
      callWith pos f first (backTo pos (starEach [] X.env)) (backToKw pos (keywordEach [] X.env))) := by rfl) :
    PE X (.Call (.Attribute (.Name x p1) m p2) [] [] pos) (tCall sp dvs E tNil) := by
  constructor
  intro pins s σ H Q I h
  obtain ⟨rest, rc⟩ := S.rc
  refine PySem.W.methodCall_KW (ld_glob I hg hm ?_ hdb) hc
  refine PySem.W.method_cls I.kIn S.sg (PySem.W.cls_bind I.kIn S.rd S.fc (wpAny_call (PySem.W.sm_get (s := { s with toks := s.toks + 1 }) I.kIn rc (PySem.W.handed_on rfl ?_))))
  exact PySem.W.callWith_K0 (I.tok _).kIn S.kp (run_fn (us := []) F hr hb hd hx (I.tok _) .nil h)
end
end Ux

set_option Elab.async false
set_option linter.all false
set_option maxRecDepth 100000
set_option maxHeartbeats 4000000
namespace Ux
open PySem PySem.W
/-! ### own binary operators: the right side of the same class, an int, or the int on the left; own unary minus and abs; // by any divisor -/
section
variable {prog : Program} {w : World} {M : Model} {A : Around} {E : Value → Shared → Prop} {s : Shared} {K : Frag} {x C L f : Addr} {h₀ : Heap} {m : Str → Option Value} {ox : Obj} {od : Option Obj}
theorem intBin_ref {name : String} {g : Int → Int → Sem Fin} {refl : Bool} {i : Int} {t : Tok} {Q : Fin → Shared → Prop} (ho : s.heap.get? x = some ox) (np : ∀ j u, ox.data ≠ .prim (.int j u)) (h : Q (.done (.ret .notImplemented)) s) :
    wpAny M A (Builtin.Int.intBinary name g refl ⟨[.int i t, .ref x], []⟩) Q E s := by
  unfold Builtin.Int.intBinary
  refine wpAny_bind (m := slotArgs name 1 _) (wpAny_pure ?_)
  unfold Builtin.Int.intOfSelf
  refine wpAny_bind (wpAny_bind (m := asInt? (.int i t)) (wpAny_pure (wpAny_pure ?_)))
  refine wpAny_bind (m := asInt? (.ref x)) ?_
  unfold asInt?
  refine wpAny_bind (wpAny_load ho ?_)
  split
  · rename_i j u e
    exact absurd e (np j u)
  · refine wpAny_pure ?_
    exact wpAny_bind (wpAny_rule (wpAny_pure h))
theorem intSlot_ref {name : Str} {id nm : String} {g : Int → Int → Sem Fin} {i : Int} {t : Tok} {Q : Option Value → Shared → Prop} (h : Slot "int" name id) (hb : entryFor table id = some (Builtin.Int.intBinary nm g)) (ha : argsOk id ⟨[.int i t, .ref x], []⟩) (ho : s.heap.get? x = some ox) (np : ∀ j u, ox.data ≠ .prim (.int j u)) (hq : Q none s) :
    wpAny (model prog w) A (tryMethod (.int i t) name (.ref x)) Q E s :=
  wpAny_tryMethod_declines (typeIs_int s i t) h (wpAny_call_entry h (typeIs_int s i t) hb (intBin_ref ho np ⟨_, rfl, rfl, hq⟩) ha)
/-- i + x, x of a class with its own reflected method -/
theorem bin_refl {op : Operator} {nm sym idl : String} {g : Int → Int → Sem Fin} {n0 : String} {f' : Addr} {i : Int} {t : Tok} {Q : Value → Shared → Prop} (hi : op.info = (sym, nm)) (X : K.In s.heap) (I : InstAt s.heap x ox C od) (np : ∀ j u, ox.data ≠ .prim (.int j u)) (hc : selfFirst K C = true)
    (hs : findIn K (.ref C) (PySem.dunder nm) = some (some (.ref f'))) (hr : findIn K (.ref C) (dunderR nm) = some (some (.ref f))) (hf : isFn K (.ref f) = true) (hsub : subIn K (.ref C) (.type "int") = some false)
    (fills : fillsNumberSlot (.type "int") nm = pure true) (slot : Slot "int" (PySem.dunder nm) idl) (hb : entryFor table idl = some (Builtin.Int.intBinary n0 g)) (ha : argsOk idl ⟨[.int i t, .ref x], []⟩)
    (h : wpAny (model prog w) A (call (.ref f) [.ref x, .int i t]) (CmpBack Q) E s) : wpAny (model prog w) A (binaryOp op (.int i t) (.ref x)) Q E s := by
  obtain ⟨cd, rest, hcd, hm⟩ := ksp_first hc
  have one := ksp_try X I hr hf h
  have L3 : Looks (model prog w) s.heap (fillsNumberSlot (.ref C) nm) true := fills_K X hcd hm hs
  simp only [binaryOp, hi]
  refine wpAny_holding (wpAny_bind ?_)
  unfold binaryOp1
  refine wpAny_bind (wpAny_typeOf (typeIs_int s i t) (wpAny_bind (I.type.here (wpAny_bind (wpAny_of_eq fills ?_)))))
  have hne : (Value.type "int" == Value.ref C) = false := Bool.eq_false_iff.mpr fun q => by cases beq_iff_eq.mp q
  simp only [hne, Bool.false_eq_true, if_false]
  refine wpAny_bind (L3.here ?_)
  simp only [Bool.and_self, if_true]
  refine wpAny_bind ((looks_subIn X hsub).here ?_)
  have hpy : numberSlotInPython (.type "int") nm = pure false := rfl
  simp only [Bool.false_eq_true, if_false, pure_bind, Bool.not_false, Bool.and_self, if_true, hpy]
  refine wpAny_bind (intSlot_ref slot hb ha I.1 np ?_)
  dsimp only
  refine wpAny_bind (wpAny_mono one (fun r s' hr' => ?_) fun _ _ e => e)
  obtain ⟨v, rfl, hq⟩ := hr'
  exact wpAny_bind (wpAny_rule (wpAny_pure (wpAny_pure hq)))
end
end Ux
namespace Ux
open PySem PySem.Spec PyProof.Rows L2
/-- o op y by o's own method -/
structure BinM (K : PySem.W.Frag) (C : Addr) (nm : String) (f : Addr) : Prop where
  sf : PySem.W.selfFirst K C = true
  at_ : PySem.W.findIn K (.ref C) (PySem.dunder nm) = some (some (.ref f))
  fn : PySem.W.isFn K (.ref f) = true
/-- .. with an int on the right -/
structure BinI (K : PySem.W.Frag) (C : Addr) (nm : String) : Prop where
  rc : ∃ g : Addr, PySem.W.findIn K (.ref C) (dunderR nm) = some (some (.ref g))
  t1 : ∃ fo, PySem.W.findIn K (.type "int") (PySem.dunder nm) = some fo
  t2 : ∃ ro, PySem.W.findIn K (.type "int") (dunderR nm) = some ro
  sb : PySem.W.subIn K (.type "int") (.ref C) = some false
/-- .. with an int on the left -/
structure BinL (K : PySem.W.Frag) (C : Addr) (nm : String) (f : Addr) : Prop where
  sf : PySem.W.selfFirst K C = true
  lt : ∃ g : Addr, PySem.W.findIn K (.ref C) (PySem.dunder nm) = some (some (.ref g))
  at_ : PySem.W.findIn K (.ref C) (dunderR nm) = some (some (.ref f))
  fn : PySem.W.isFn K (.ref f) = true
  sb : PySem.W.subIn K (.ref C) (.type "int") = some false
/-- an object handed back -/
def Ob (Q : VK) : VK := fun v H => ∃ p, v = .ref p ∧ Q (.ref p) H
def rBinO (K : PySem.W.Frag) (C : Addr) (sp : Sp) : R2 := fun x y H Q => ∃ (a dx : Addr) (fs : List (Str × V)), x = .ref a ∧ H a = some (.ins C dx fs) ∧ TyX K H y (.ref C) ∧ sp [x, y] H (Ob Q) (fun _ _ _ => False)
def rBinI (C : Addr) (sp : Sp) : R2 := fun x y H Q => ∃ (a dx : Addr) (fs : List (Str × V)) (i : Int), x = .ref a ∧ y = .int i ∧ H a = some (.ins C dx fs) ∧ sp [x, y] H (Ob Q) (fun _ _ _ => False)
def rBinL (C : Addr) (sp : Sp) : R2 := fun x y H Q => ∃ (a dx : Addr) (fs : List (Str × V)) (i : Int), x = .int i ∧ y = .ref a ∧ H a = some (.ins C dx fs) ∧ sp [y, x] H (Ob Q) (fun _ _ _ => False)
section
variable {X : Cx} {k : Nat} {f C : Addr} {fd : FuncData} {sp : Sp} {op : Operator} {ps : List Str}
theorem ob_back {pins : List (Addr × Obj)} {σ : L2.St} {Q : VK} {u : Value} {s' : Shared} (hq : EP X pins σ (Ob Q) u s') : PySem.W.CmpBack (EP X pins σ Q) u s' := by
  obtain ⟨v, H', I', rv, p, ev, q'⟩ := hq
  subst ev
  cases (show u = Value.ref p from rv)
  exact ⟨.ref p, H', I', rfl, q'⟩
theorem op_binO (M : BinM X.K C op.info.2 f) (F : FnOk X.prog X.w X.K X.mg X.base CX0 k f fd ps sp) (hb : Binds X.K fd ps []) (hr : Room k X.A) : OpR X (binaryOp op) (rBinO X.K C sp) := by
  intro pins s σ H x y v u Q I rx ry h
  obtain ⟨a, dx, fs, rfl, ea, ty, q⟩ := h
  cases (show v = Value.ref a from rx)
  obtain ⟨mA, O, _⟩ := ins_get I.hok ea
  obtain ⟨od, J, _⟩ := O.look
  obtain ⟨m, hF⟩ := I.fr
  obtain ⟨P', Z, hp, _⟩ := kit_of I ry ty
  exact PySem.W.binop_K hF I.ok.mod.kin J (Z.ty _ _ I.kIn hp) M.sf M.at_ M.fn (own_run F hr I.env0 hb (vs := [.ref a, y]) I (.cons rfl (.cons ry .nil)) q fun u s' hq => ob_back hq)
theorem op_binI (M : BinM X.K C op.info.2 f) (N : BinI X.K C op.info.2) (F : FnOk X.prog X.w X.K X.mg X.base CX0 k f fd ps sp) (hb : Binds X.K fd ps []) (hr : Room k X.A) : OpR X (binaryOp op) (rBinI C sp) := by
  intro pins s σ H x y v u Q I rx ry h
  obtain ⟨a, dx, fs, i, rfl, rfl, ea, q⟩ := h
  cases (show v = Value.ref a from rx)
  obtain ⟨mA, O, _⟩ := ins_get I.hok ea
  obtain ⟨od, J, _⟩ := O.look
  obtain ⟨m, hF⟩ := I.fr
  obtain ⟨t, rfl⟩ := ry
  obtain ⟨g, rc⟩ := N.rc
  obtain ⟨fo, t1⟩ := N.t1
  obtain ⟨ro, t2⟩ := N.t2
  exact PySem.W.ksp_binT (T := "int") hF I.ok.mod.kin J rfl M.sf M.at_ M.fn rc (.inr ⟨g, rfl⟩) t1 t2 N.sb (own_run F hr I.env0 hb (vs := [.ref a, .int i]) I (.cons rfl (.cons ⟨t, rfl⟩ .nil)) q fun u s' hq => ob_back hq)
theorem op_binL {nm sym idl n0 : String} {g : Int → Int → Sem Fin} (hi : op.info = (sym, nm)) (M : BinL X.K C nm f) (F : FnOk X.prog X.w X.K X.mg X.base CX0 k f fd ps sp) (hb : Binds X.K fd ps []) (hr : Room k X.A)
    (fills : fillsNumberSlot (.type "int") nm = pure true) (slot : Slot "int" (PySem.dunder nm) idl) (he : entryFor table idl = some (Builtin.Int.intBinary n0 g)) (ha : ∀ a b, argsOk idl ⟨[a, b], []⟩) : OpR X (binaryOp op) (rBinL C sp) := by
  intro pins s σ H x y v u Q I rx ry h
  obtain ⟨a, dx, fs, i, rfl, rfl, ea, q⟩ := h
  cases (show u = Value.ref a from ry)
  obtain ⟨mA, O, _⟩ := ins_get I.hok ea
  obtain ⟨od, J, _⟩ := O.look
  obtain ⟨t, rfl⟩ := rx
  obtain ⟨g', lt⟩ := M.lt
  exact bin_refl hi I.kIn J (fun j u e => by cases e) M.sf lt M.at_ M.fn M.sb fills slot he (ha _ _) (own_run F hr I.env0 hb (vs := [.ref a, .int i]) I (.cons rfl (.cons ⟨t, rfl⟩ .nil)) q fun u s' hq => ob_back hq)
theorem op_addL (M : BinL X.K C "add" f) (F : FnOk X.prog X.w X.K X.mg X.base CX0 k f fd ps sp) (hb : Binds X.K fd ps []) (hr : Room k X.A) : OpR X (binaryOp .Add) (rBinL C sp) :=
  op_binL rfl M F hb hr PySem.F.fills_int_add PySem.F.slot_int_add PySem.F.entry_int_add PySem.F.args_int_add_2
theorem op_subL (M : BinL X.K C "sub" f) (F : FnOk X.prog X.w X.K X.mg X.base CX0 k f fd ps sp) (hb : Binds X.K fd ps []) (hr : Room k X.A) : OpR X (binaryOp .Sub) (rBinL C sp) :=
  op_binL rfl M F hb hr PySem.F.fills_int_sub PySem.F.slot_int_sub PySem.F.entry_int_sub PySem.F.args_int_sub_2
/-- -o by o's own __neg__ -/
def rOwnNeg (C : Addr) (sp : Sp) : V → Hp → VK → Prop := fun x H Q => ∃ (a dx : Addr) (fs : List (Str × V)), x = .ref a ∧ H a = some (.ins C dx fs) ∧ sp [.ref a] H Q (fun _ _ _ => False)
theorem un_negO (M : OwnM X.K C "__neg__" f) (F : FnOk X.prog X.w X.K X.mg X.base CX0 k f fd ["self"] sp) (hb : Binds X.K fd ["self"] []) (hr : Room k X.A) : UnR X (unaryOp .USub) (rOwnNeg C sp) := by
  intro pins s σ H x v Q I rx h
  obtain ⟨a, dx, fs, rfl, ea, q⟩ := h
  cases (show v = Value.ref a from rx)
  obtain ⟨mA, O, _⟩ := ins_get I.hok ea
  obtain ⟨od, J, _⟩ := O.look
  obtain ⟨m, hF⟩ := I.fr
  exact PySem.W.ksp_neg hF I.ok.mod.kin J M.at_ M.fn (own_run F hr I.env0 hb (vs := [.ref a]) I (.cons rfl .nil) q fun u s' hq => hq)
theorem op_any {f : Value → Value → Sem Value} {r1 r2 : R2} (h1 : OpR X f r1) (h2 : OpR X f r2) : OpR X f (fun x y H Q => r1 x y H Q ∨ r2 x y H Q) := by
  intro pins s σ H x y v u Q I rx ry h
  rcases h with h | h
  · exact h1 pins s σ H x y v u Q I rx ry h
  · exact h2 pins s σ H x y v u Q I rx ry h
/-- // by any divisor but 0, below 2 ^ 9000 -/
theorem op_fdivX : OpR X (binaryOp .FloorDiv) (rI (fun _ j => j ≠ 0 ∧ j.natAbs.log2 < 9000) fun i j => .int (i.fdiv j)) := opI fun _ _ _ _ _ _ _ hc q => floordiv_int hc.1 q (.inl (PyProof.noPylong_of_log2 hc.2))
end
end Ux

set_option Elab.async false
set_option linter.all false
set_option maxRecDepth 100000
set_option maxHeartbeats 4000000
namespace Ux
open PySem PySem.Spec PyProof.Rows L2
/-! ### abs(o) by o's own __abs__; o.m(k = e) -/
section
variable {X : Cx} {k : Nat} {f C : Addr} {fd : FuncData} {sp : Sp}
theorem call_absO (M : OwnM X.K C "__abs__" f) (F : FnOk X.prog X.w X.K X.mg X.base CX0 k f fd ["self"] sp) (hb : Binds X.K fd ["self"] []) (hr : Room (k + 1) X.A) : CallR X (.builtin "abs") (fun xs H Q => ∃ (a dx : Addr) (fs : List (Str × V)), xs = [.ref a] ∧ H a = some (.ins C dx fs) ∧ sp [.ref a] H (Ob Q) (fun _ _ _ => False)) := by
  intro pins s σ H xs us Q I r h
  obtain ⟨a, dx, fs, rfl, ea, q⟩ := h
  obtain ⟨u, rfl, rx⟩ := vals1 r
  cases (show u = Value.ref a from rx)
  obtain ⟨mA, O, _⟩ := ins_get I.hok ea
  obtain ⟨od, J, _⟩ := O.look
  refine PySem.Calls.call_function_entry kind_abs plain_abs entry_abs (args_abs _) ?_
  unfold Builtin.«abs»
  refine wpAny_bind (m := oneArg "abs" _) (wpAny_pure ?_)
  refine wpAny_bind (m := callSpecial? (.ref a) (Str.ofString "__abs__")) (PySem.W.special_fn I.kIn J M.at_ (beq_iff_eq.mp M.fn) (own_run F hr.in1 I.env0.in1 hb (vs := [.ref a]) I (.cons rfl .nil) q fun u s' hq => ?_))
  obtain ⟨v, H', I', rv, p, ev, q'⟩ := hq
  subst ev
  cases (show u = Value.ref p from rv)
  exact wpAny_pure ⟨_, rfl, .ref p, H', I', rfl, q'⟩
end
section
variable {X : Cx} {o : Expr} {m : Str} {pos apos : Pos} {ta : TE} {CX : CXT} {k : Nat} {f C : Addr} {fd : FuncData} {ps ks : List Str} {sp : Sp} {E : XK} {kws : List Keyword} {tk : TA} {gg : List Value → List Value → List Value} {gV : List V → List V → List V}
def tMethK0 (C : Addr) (m : Str) (sp : Sp) (gV : List V → List V → List V) (E : XK) (ta : TE) (tk : TA) : TE := fun σ H Q => ta σ H fun x H1 => ∃ a dx fs, x = .ref a ∧ H1 a = some (.ins C dx fs) ∧ fs.lookup m = none ∧ tk σ H1 fun zs H2 => sp (gV [x] zs) H2 Q E
theorem pe_methK0 {pl : Sem Bool} (he : PE X o ta) (c : Cls X.K C) (hm : Meth X.K C m f) (F : FnOk X.prog X.w X.K X.mg X.base CX k f fd ps sp) (hr : Room k X.A) (hb : KBinds X.K fd ps ks gg gV) (hx : Passes CX X E) (hkw : PK X kws tk)
    (hall : (backToKw pos (keywordEach kws X.env)).all (·.1.isSome) = true := by rfl) (hks : (backToKw pos (keywordEach kws X.env)).filterMap (·.1) = ks := by rfl)
    (ht : eval (.Call (.Attribute o m apos) [] kws pos) X.env = (do
      let ov ← eval o X.env
      standAt apos.atName
      let (f, first) ← holding [ov] (getMethod ov m pl)
      callWith pos f first (backTo pos (starEach [] X.env)) (backToKw pos (keywordEach kws X.env))) := by rfl)
    (hpl : ((backTo pos (starEach [] X.env)).any (·.1) || (backToKw pos (keywordEach kws X.env)).any (·.1.isNone)) = false := by rfl) :
    PE X (.Call (.Attribute o m apos) [] kws pos) (tMethK0 C m sp gV E ta tk) := by
  refine ⟨fun pins s σ H Q I h => ?_⟩
  refine PySem.W.methodCall_KW (pl := pl) (thn (he.run pins s σ H _ I h) fun u s1 ⟨x, H1, I1, rx, a, dx, fs, ex, ea, l, q⟩ => ?_) ht
  subst ex
  obtain rfl : u = Value.ref a := rx
  refine getmeth_ok I1 ea c hm l ?_
  refine PySem.W.callWith_KW0 (first := [.ref a]) (h₀ := X.base) I.ok.mod.kin hm.kp hall (thn (hkw.run pos pins s1 σ H1 _ I1 q) fun ws s2 got => ?_) hpl
  obtain ⟨zs, H2, I2, rz, q2⟩ := got
  refine ⟨I2.kIn, ?_⟩
  rw [hks]
  exact run_fnk (us := [.ref a]) (vs := [.ref a]) F hr hb hx I2 (.cons rfl .nil) rz q2
end
end Ux
/-! ### abs and str of False -/
namespace Ux
open PySem PySem.Spec PyProof.Rows L2
theorem abs_false {prog : Program} {w : World} {A : Around} {E : Value → Shared → Prop} {s : Shared} {Q : Value → Shared → Prop} (h : ∀ u tk, Q (.int 0 u) { s with toks := tk }) : wpAny (model prog w) A (call (.builtin "abs") [.bool false]) Q E s := by
  refine PySem.Calls.call_function_entry kind_abs plain_abs entry_abs (args_abs _) ?_
  unfold Builtin.«abs»
  refine wpAny_bind (m := oneArg "abs" _) (wpAny_pure ?_)
  refine wpAny_bind (m := callSpecial? (.bool false) (Str.ofString "__abs__")) (wpAny_callSpecial?_slot (name := Str.ofString "__abs__") (PySem.typeIs_bool s false) F.slot_bool_abs
    (wpAny_call_entry F.slot_bool_abs (PySem.typeIs_bool s false) entry_int_abs ?_ (args_int_abs _)))
  have h' := h s.toks (s.toks + 1)
  exact wpAny_ret_mkInt (wpAny_pure ⟨_, rfl, h'⟩)
theorem str_false {prog : Program} {w : World} {A : Around} {E : Value → Shared → Prop} {s : Shared} {Q : Value → Shared → Prop} (h : Q (.str "False" s.toks) { s with toks := s.toks + 1 }) : wpAny (model prog w) A (call (.type "str") [.bool false]) Q E s :=
  callType_new F.called_str (by decide) (F.typeCall_str_1 _) (F.newCall_str_1 _) (fun obj => F.args_object_init_2 obj _) F.entry_str_new
    (meets_str_new (S := fun _ R s => R (.ok (.ret (.str "False" s.toks))) { s with toks := s.toks + 1 }) fun _ _ _ _ s hq =>
      wpAny_strOf_gives rfl (PySem.typeIs_bool s false) F.slot_bool_str F.slot_bool_repr F.entry_bool_repr (F.args_bool_repr_1 _) (gives_bool_repr false) hq (hsz := by decide)) ⟨typeIs_str _ _ _, h⟩
theorem call_absB {X : Cx} : CallR X (.builtin "abs") (fun xs H Q => ((∃ i, xs = [.int i] ∧ Q (.int (if i < 0 then -i else i)) H) ∨ (xs = [.bl true] ∧ Q (.int 1) H)) ∨ (xs = [.bl false] ∧ Q (.int 0) H)) := by
  intro pins s σ H xs us Q I r h
  rcases h with h | ⟨rfl, q⟩
  · exact call_absT pins s σ H xs us Q I r h
  · obtain ⟨u, rfl, r1⟩ := vals1 r
    cases (show u = Value.bool false from r1)
    exact abs_false fun u tk => ⟨.int 0, H, I.tok _, ⟨_, rfl⟩, q⟩
theorem call_strB {X : Cx} : CallR X (.type "str") (fun xs H Q => ((∃ i, xs = [.int i] ∧ i.natAbs.log2 < 1920 ∧ Q (.str (toString i)) H) ∨ (xs = [.bl true] ∧ Q (.str "True") H)) ∨ (xs = [.bl false] ∧ Q (.str "False") H)) := by
  intro pins s σ H xs us Q I r h
  rcases h with h | ⟨rfl, q⟩
  · exact call_strT pins s σ H xs us Q I r h
  · obtain ⟨u, rfl, r1⟩ := vals1 r
    cases (show u = Value.bool false from r1)
    exact str_false ⟨.str _, H, I.tok _, ⟨_, rfl⟩, q⟩
end Ux

set_option Elab.async false
set_option linter.all false
set_option maxRecDepth 100000
set_option maxHeartbeats 4000000
namespace K36
open PySem PySem.Spec PyProof.Rows L2 Ux
theorem fit {n m : Nat} (h : n ≤ m) (k : m ≤ 100000) : n ≤ sizeLine := by
  rw [sizeLine_eq]
  omega
abbrev sShown : Stmt := top 2
/-- the values that the law hands in -/
inductive Adm (K : PySem.W.Frag) (H : Hp) : V → Prop where
  | own {a C dx : Addr} {fs : List (Str × V)} (h : H a = some (.ins C dx fs)) (ty : ∀ H' : Hp, H' a = some (.ins C dx fs) → TyX K H' (.ref a) (.ref C)) (k1 : PySem.W.kitOne K (.ref C) (.type "str") = some false) (k2 : PySem.W.kitOne K (.ref C) (.type "int") = some false) : Adm K H (.ref a)
  | non : Adm K H .non
  | yes : Adm K H (.bl true)
  | no : Adm K H (.bl false)
  | int {i : Int} (h : i.natAbs < 10 ^ 10) : Adm K H (.int i)
  | str {x : Str} (h : (reprText x).length ≤ 1000) : Adm K H (.str x)
  | tup {a : Addr} {xs : List V} (h : H a = some (.tup xs)) : Adm K H (.ref a)
  | lst {a : Addr} {xs : List V} (h : H a = some (.lst xs)) : Adm K H (.ref a)
def spShown (K : PySem.W.Frag) : Sp := fun vs H Q _ => ∃ v, vs = [v] ∧ Adm K H v ∧ ∀ z : Str, z.length ≤ 1000 → Q (.str z) H
theorem log2_small {i : Int} (h : i.natAbs < 10 ^ 10) : i.natAbs.log2 < 1920 := by
  by_cases z : i.natAbs = 0
  · rw [z]
    decide
  · have q := Nat.log2_self_le z
    have : i.natAbs.log2 < 40 := by
      refine Nat.lt_of_not_le fun c => ?_
      have q2 : 2 ^ 40 ≤ 2 ^ i.natAbs.log2 := Nat.pow_le_pow_right (by decide) c
      have q3 : (10 : Nat) ^ 10 < 2 ^ 40 := by decide
      omega
    omega
theorem text_small {i : Int} (h : i.natAbs < 10 ^ 10) : (toString i : Str).length ≤ 1000 := by
  show (Str.ofString (toString i)).length ≤ 1000
  have q := int_text_length_le10 (k := 10) (by decide) h
  rw [PySem.ofString_length]
  omega
section
variable {P : Program} {w : World} {K : PySem.W.Frag} {mg : Str → Option Value} {base : Heap}
theorem scShown : FnScope ["value"] ["value"] (defScope sShown) := ⟨rfl, rfl, rfl, by decide +kernel, rfl, by decide +kernel, by decide +kernel⟩
theorem ok_shown {f : Addr} {fd : FuncData} (F : Fun K "shown" "shown" sShown f fd) (T : Bn mg) : FnOk P w K mg base CX0 1 f fd ["value"] (spShown K) := by
  refine F.ok scShown (fun vs H Q E h => ?_) (fun cdv A outer s H vs Q E hr h => ?_)
  · obtain ⟨v, rfl, _⟩ := h
    rfl
  · obtain ⟨v, rfl, adm, k⟩ := h
    refine ⟨_, pss_cons (ps_if (pt_val (pe_callB call_isi (by rfl) T.isin (by decide +kernel) (pa_cons (pv 0) (pa_cons (pe_bltn (v := .ty "str") (by rfl) T.tstr (by decide +kernel) rfl) pa_nil))))
        (pss_one (ps_ret (pe_callB call_reprS (by rfl) T.frepr (by decide +kernel) (pa_cons (pv 0) pa_nil)))) pss_nil)
      (pss_cons (ps_if (PW.pt (pw_and (pt_val (pe_callB call_isi (by rfl) T.isin (by decide +kernel) (pa_cons (pv 0) (pa_cons (pe_bltn (v := .ty "int") (by rfl) T.tint (by decide +kernel) rfl) pa_nil))))
          (pw_and1 (pt_cmpR op_lt (pe_callB call_absB (by rfl) T.fabs (by decide +kernel) (pa_cons (pv 0) pa_nil)) (pe_op op_pow pe_int pe_int) (nomark _)))))
        (pss_one (ps_ret (pe_callTy call_strB (by rfl) T.tstr (by decide +kernel) (pa_cons (pv 0) pa_nil)))) pss_nil)
      (pss_one (ps_ret pe_str))), ?_⟩
    cases adm with
    | own ha ty k1 k2 =>
      refine ⟨_, rfl, _, _, _, _, false, rfl, .ty "str", ty _ ha, k1, _, rfl, ?_⟩
      refine iteF ?_
      refine ⟨_, rfl, _, _, _, _, false, rfl, .ty "int", ty _ ha, k2, _, rfl, ?_⟩
      refine iteF (iteF ?_)
      exact k _ (by decide)
    | non =>
      refine ⟨_, rfl, _, _, _, _, false, rfl, .ty "str", .base .non, kit_ty (by decide +kernel), _, rfl, ?_⟩
      refine iteF ?_
      refine ⟨_, rfl, _, _, _, _, false, rfl, .ty "int", .base .non, kit_ty (by decide +kernel), _, rfl, ?_⟩
      refine iteF (iteF ?_)
      exact k _ (by decide)
    | yes =>
      refine ⟨_, rfl, _, _, _, _, false, rfl, .ty "str", .base (.bl _), kit_ty (by decide +kernel), _, rfl, ?_⟩
      refine iteF ?_
      refine ⟨_, rfl, _, _, _, _, true, rfl, .ty "int", .base (.bl _), kit_ty (by decide +kernel), _, rfl, ?_⟩
      refine iteT ⟨_, rfl, .inl (.inr ⟨rfl, _, _, rfl, rfl, ⟨by decide, by decide, by decide⟩, _, _, rfl, rfl, _, rfl, ?_⟩)⟩
      refine iteT ⟨_, rfl, .inl (.inr ⟨rfl, ?_⟩)⟩
      exact k _ (by decide)
    | no =>
      refine ⟨_, rfl, _, _, _, _, false, rfl, .ty "str", .base (.bl _), kit_ty (by decide +kernel), _, rfl, ?_⟩
      refine iteF ?_
      refine ⟨_, rfl, _, _, _, _, true, rfl, .ty "int", .base (.bl _), kit_ty (by decide +kernel), _, rfl, ?_⟩
      refine iteT ⟨_, rfl, .inr ⟨rfl, _, _, rfl, rfl, ⟨by decide, by decide, by decide⟩, _, _, rfl, rfl, _, rfl, ?_⟩⟩
      refine iteT ⟨_, rfl, .inr ⟨rfl, ?_⟩⟩
      exact k _ (by decide)
    | @int i hi =>
      refine ⟨_, rfl, _, _, _, _, false, rfl, .ty "str", .base (.int _), kit_ty (by decide +kernel), _, rfl, ?_⟩
      refine iteF ?_
      refine ⟨_, rfl, _, _, _, _, true, rfl, .ty "int", .base (.int _), kit_ty (by decide +kernel), _, rfl, ?_⟩
      refine iteT ⟨_, rfl, .inl (.inl ⟨_, rfl, _, _, rfl, rfl, ⟨by decide, by decide, by decide⟩, _, _, rfl, rfl, _, rfl, ?_⟩)⟩
      have lt : (if i < 0 then -i else i) < 10 ^ Int.toNat 30 := by
        have e : ((10 : Int) ^ Int.toNat 30) = 1000000000000000000000000000000 := by decide +kernel
        have h10 : (10 : Nat) ^ 10 = 10000000000 := by decide
        rw [e]
        rw [h10] at hi
        split <;> omega
      rw [decide_eq_true lt]
      refine iteT ⟨_, rfl, .inl (.inl ⟨_, rfl, log2_small hi, ?_⟩)⟩
      exact k _ (text_small hi)
    | @str x hx =>
      refine ⟨_, rfl, _, _, _, _, true, rfl, .ty "str", .base (.str _), kit_ty (by decide +kernel), _, rfl, ?_⟩
      refine iteT ⟨_, rfl, _, rfl, ?_, ?_⟩
      · rw [sizeLine_eq]
        omega
      · exact k _ hx
    | tup ha =>
      refine ⟨_, rfl, _, _, _, _, false, rfl, .ty "str", .base (.tup ha), kit_ty (by decide +kernel), _, rfl, ?_⟩
      refine iteF ?_
      refine ⟨_, rfl, _, _, _, _, false, rfl, .ty "int", .base (.tup ha), kit_ty (by decide +kernel), _, rfl, ?_⟩
      refine iteF (iteF ?_)
      exact k _ (by decide)
    | lst ha =>
      refine ⟨_, rfl, _, _, _, _, false, rfl, .ty "str", .base (.lst ha), kit_ty (by decide +kernel), _, rfl, ?_⟩
      refine iteF ?_
      refine ⟨_, rfl, _, _, _, _, false, rfl, .ty "int", .base (.lst ha), kit_ty (by decide +kernel), _, rfl, ?_⟩
      refine iteF (iteF ?_)
      exact k _ (by decide)
end
theorem e00 : Str.empty.length ≤ 0 := Nat.le_refl _
theorem app_le {x y : Str} {m n : Nat} (h : x.length ≤ m) (k : y.length ≤ n) : (x ++ y).length ≤ m + n := by
  rw [PySem.Str.length_append]
  omega
/-- a base of error classes, its __init__ read off it -/
structure Bs (K : PySem.W.Frag) (mg : Str → Option Value) (x : Str) (initId : String) (CB : Addr) : Prop where
  gl : mg x = some (.ref CB)
  sg : PySem.W.specialIn K (.ref CB) "__getattribute__" = some (some (.builtin "type.__getattribute__"))
  rd : PySem.W.readsIn K CB (.type "type") = true
  vV : PySem.W.findCls K (.ref CB) (.type "type") "__init__" = some (.val (.builtin initId))
  vh : PySem.W.handedIn (.builtin initId) = true
abbrev sI_InvalidNumber : Stmt := inClass (top 5) 0
/-- InvalidNumber.__init__ -/
def spI_InvalidNumber (K : PySem.W.Frag) : Sp := fun vs H Q _ => ∃ (a C : Addr) (v1 : V), vs = [.ref a, v1] ∧ EcI K "ValueError.__init__" C ∧ (PySem.W.findIn K (.ref C) "code" = some none ∧ PySem.W.findIn K (.ref C) "given" = some none) ∧ H a = some (exo a C none) ∧ Adm K H v1 ∧
  ∀ (d : Addr) (H' : Hp), H d = none → d ≠ a → H' a = some (exo a C (some d)) → H' d = some (exd d [("given", v1), ("code", .str "InvalidNumber")]) → But a H H' → Q .non H'
section
variable {P : Program} {w : World} {K : PySem.W.Frag} {mg : Str → Option Value} {base : Heap}
theorem scI_InvalidNumber : FnScope ["self", "given"] ["self", "given"] (defScope sI_InvalidNumber) := ⟨rfl, rfl, rfl, by decide +kernel, rfl, by decide +kernel, by decide +kernel⟩
theorem okI_InvalidNumber {f CB fS : Addr} {fd fdS : FuncData} (F : Fun K "__init__" "InvalidNumber.__init__" sI_InvalidNumber f fd) (W : Bs K mg "SlopeError" "ValueError.__init__" CB) (D : Dn K mg "shown" fS) (G : FnOk P w K mg base CX0 1 fS fdS ["value"] (spShown K)) (bS : Binds K fdS ["value"] []) :
    FnOk P w K mg base CX0 2 f fd ["self", "given"] (spI_InvalidNumber K) := by
  refine F.ok scI_InvalidNumber (fun vs H Q E h => ?_) (fun cdv A outer s H vs Q E hr h => ?_)
  · obtain ⟨a, C, v1, rfl, _⟩ := h
    rfl
  · obtain ⟨a, C, v1, rfl, ec, ⟨n0, n1⟩, ea, ad1, k⟩ := h
    refine ⟨_, pss_cons (ps_expr (pe_bi (initId := "ValueError.__init__") (by rfl) W.gl W.sg W.rd W.vV W.vh (pa_cons (pv 0) (pa_cons (pe_joined (PJ.cons (pe_fmt (pe_call G hr (by rfl) D.gl D.kp bS .nil pass0 (pa_cons (pv 1) pa_nil))) (PJ.cons pe_str PJ.nil))) pa_nil)))) (pss_cons (ps_est (pv 0) pe_str) (pss_one (ps_est (pv 0) (pv 1)))), ?_⟩
    have ea2 : EcA K C := ⟨_, ec⟩
    refine ⟨_, rfl, _, rfl, v1, rfl, ad1, fun z1 hz1 => .inl ⟨z1, rfl, fit hz1 (by decide), z1, rfl, fit (app_le e00 hz1) (by decide), _, rfl, fit (app_le (app_le e00 hz1) (show (Str.ofString " is no valid number").length ≤ 200 by decide)) (by decide), a, C, _, rfl, (by show 1 ≤ 1000; decide), ec, ea, ?_⟩⟩
    refine ⟨_, rfl, a, C, rfl, ea2, n0, .inl ⟨ea, fun d hd nd => ?_⟩⟩
    have xa : (upd (upd H d (exd d [("code", V.str "InvalidNumber")])) a (exo a C (some d))) a = some (exo a C (some d)) := upd_same
    have xd0 : (upd (upd H d (exd d [("code", V.str "InvalidNumber")])) a (exo a C (some d))) d = some (exd d [("code", V.str "InvalidNumber")]) := (upd_ne nd).trans upd_same
    have b0 : But a H (upd (upd H d (exd d [("code", V.str "InvalidNumber")])) a (exo a C (some d))) := fun x o e n => by
      rw [upd_ne n, upd_ne (ne_of_none e hd)]
      exact e
    refine ⟨_, rfl, _, rfl, a, C, rfl, ea2, n1, .inr ⟨d, _, xa, xd0, (by show 1 ≤ 900; decide), ?_⟩⟩
    replace xa : (upd (upd (upd H d (exd d [("code", V.str "InvalidNumber")])) a (exo a C (some d))) d (exd d (("given", v1) :: [("code", V.str "InvalidNumber")]))) a = some (exo a C (some d)) := (upd_ne nd.symm).trans xa
    have xd1 : (upd (upd (upd H d (exd d [("code", V.str "InvalidNumber")])) a (exo a C (some d))) d (exd d (("given", v1) :: [("code", V.str "InvalidNumber")]))) d = some (exd d (("given", v1) :: [("code", V.str "InvalidNumber")])) := upd_same
    have b1 : But a H (upd (upd (upd H d (exd d [("code", V.str "InvalidNumber")])) a (exo a C (some d))) d (exd d (("given", v1) :: [("code", V.str "InvalidNumber")]))) := fun x o e n => by
      rw [upd_ne (ne_of_none e hd)]
      exact b0 x o e n
    exact k d _ hd nd xa xd1 b1
end

theorem Adm.same {K : PySem.W.Frag} {H H' : Hp} {v : V} (h : Adm K H v) (s : Same H H') : Adm K H' v := by
  cases h with
  | own h ty k1 k2 => exact .own (s _ _ h) ty k1 k2
  | non => exact .non
  | yes => exact .yes
  | no => exact .no
  | int h => exact .int h
  | str h => exact .str h
  | tup h => exact .tup (s _ _ h)
  | lst h => exact .lst (s _ _ h)
/-- the class InvalidNumber, raised -/
structure IN (K : PySem.W.Frag) (mg : Str → Option Value) (C fI : Addr) : Prop where
  gl : mg "InvalidNumber" = some (.ref C)
  ox : OexC K C
  ec : EcI K "ValueError.__init__" C
  n0 : PySem.W.findIn K (.ref C) "code" = some none
  n1 : PySem.W.findIn K (.ref C) "given" = some none
  ini : PySem.W.findIn K (.ref C) "__init__" = some (some (.ref fI))
  ty : PySem.W.typeIn K (.ref fI) = some (.type "function")
/-- how it flies -/
def inFs (v : V) : List (Str × V) := [("given", v), ("code", .str "InvalidNumber")]
theorem del_put {H H2 : Hp} {a d : Addr} {o o' : HO} (na : H a = none) (hd : H d = none) (bu : But a (upd H a o) H2) : Same H (upd (del H2 a) d o') := fun x u e => by
  have xa := ne_of_none e na
  rw [upd_ne (ne_of_none e hd), del_ne xa]
  exact bu x u ((upd_ne xa).trans e) xa
theorem in_made {K : PySem.W.Frag} {mg : Str → Option Value} {C fI : Addr} (T : IN K mg C fI) {σ : L2.St} {H : Hp} {Q : XK} {i : Nat} {v : V} (hi : σ[i]? = some (some v)) (hv : Adm K H v) (h : ∀ d H', Same H H' → H' d = some (.xd (inFs v)) → Q (.ref C) (some d) H') :
    tMkO C (spI_InvalidNumber K) [] (tCons (tVar i) tNil) σ H Q := by
  refine ⟨v, hi, (by show 1 ≤ 1000; decide), fun a na => ⟨a, C, v, rfl, T.ec, ⟨T.n0, T.n1⟩, upd_same, hv.same (same_upd' na), fun d H2 hd nd ha hdd bu => ⟨rfl, d, _, ha, hdd, ?_, ?_⟩⟩⟩
  · rw [upd_ne nd] at hd
    exact hd
  · rw [upd_ne nd] at hd
    exact h d _ (del_put na hd bu) upd_same
/-! ### lowest terms -/
def cg (t b : Int) : Int := if b < 0 then -((Nat.gcd t.natAbs b.natAbs : Nat) : Int) else ((Nat.gcd t.natAbs b.natAbs : Nat) : Int)
def nT (t b : Int) : Int := t.fdiv (cg t b)
def nB (t b : Int) : Int := b.fdiv (cg t b)
def sg (b : Int) : Int := if b < 0 then -1 else 1
theorem g_pos {t b : Int} (hb : b ≠ 0) : 0 < Nat.gcd t.natAbs b.natAbs := Nat.gcd_pos_of_pos_right _ (by omega)
theorem cg_ne {t b : Int} (hb : b ≠ 0) : cg t b ≠ 0 := by
  have := g_pos (t := t) hb
  unfold cg
  split <;> omega
theorem cg_abs {t b : Int} : (cg t b).natAbs = Nat.gcd t.natAbs b.natAbs := by
  unfold cg
  split <;> omega
/-- t and b by their gcd -/
theorem parts (t b : Int) : ∃ k l : Int, t = ((Nat.gcd t.natAbs b.natAbs : Nat) : Int) * k ∧ b = ((Nat.gcd t.natAbs b.natAbs : Nat) : Int) * l := by
  have h1 : ((Nat.gcd t.natAbs b.natAbs : Nat) : Int) ∣ t := Int.ofNat_dvd_left.mpr (Nat.gcd_dvd_left _ _)
  have h2 : ((Nat.gcd t.natAbs b.natAbs : Nat) : Int) ∣ b := Int.ofNat_dvd_left.mpr (Nat.gcd_dvd_right _ _)
  obtain ⟨k, hk⟩ := h1
  obtain ⟨l, hl⟩ := h2
  exact ⟨k, l, hk, hl⟩
theorem fdiv_cg {t b x k : Int} (hb : b ≠ 0) (hx : x = ((Nat.gcd t.natAbs b.natAbs : Nat) : Int) * k) : x.fdiv (cg t b) = sg b * k := by
  have g0 := g_pos (t := t) hb
  generalize hg : ((Nat.gcd t.natAbs b.natAbs : Nat) : Int) = g at hx
  have gp : 0 < g := by omega
  have e : cg t b = sg b * g := by
    unfold cg sg
    rw [hg]
    split <;> omega
  rw [e, hx]
  unfold sg
  split
  · have e2 : g * k = (-1 * g) * (-k) := by
      rw [Int.neg_mul, Int.one_mul, Int.neg_mul_neg]
    rw [e2, Int.mul_fdiv_cancel_left _ (by omega)]
    omega
  · rw [Int.one_mul, Int.one_mul, Int.mul_fdiv_cancel_left _ (by omega)]
theorem sg_fdiv {t b x k : Int} (hb : b ≠ 0) (hx : x = ((Nat.gcd t.natAbs b.natAbs : Nat) : Int) * k) : (sg b * x).fdiv ((Nat.gcd t.natAbs b.natAbs : Nat) : Int) = sg b * k := by
  have g0 := g_pos (t := t) hb
  generalize hg : ((Nat.gcd t.natAbs b.natAbs : Nat) : Int) = g at hx
  have e : sg b * x = g * (sg b * k) := by
    rw [hx, ← Int.mul_assoc, ← Int.mul_assoc, Int.mul_comm (sg b) g]
  rw [e, Int.mul_fdiv_cancel_left _ (by omega)]
theorem law_nT {t b : Int} (hb : b ≠ 0) : (sg b * t).fdiv ((Nat.gcd t.natAbs b.natAbs : Nat) : Int) = nT t b := by
  obtain ⟨k, l, h1, h2⟩ := parts t b
  rw [sg_fdiv hb h1]
  exact (fdiv_cg hb h1).symm
theorem law_nB {t b : Int} (hb : b ≠ 0) : (sg b * b).fdiv ((Nat.gcd t.natAbs b.natAbs : Nat) : Int) = nB t b := by
  obtain ⟨k, l, h1, h2⟩ := parts t b
  rw [sg_fdiv hb h2]
  exact (fdiv_cg hb h2).symm
theorem sg_abs (b : Int) : (sg b).natAbs = 1 := by
  unfold sg
  split <;> rfl
theorem n_cop {t b : Int} (hb : b ≠ 0) : Nat.gcd (nT t b).natAbs (nB t b).natAbs = 1 := by
  obtain ⟨k, l, h1, h2⟩ := parts t b
  have e1 : nT t b = sg b * k := fdiv_cg hb h1
  have e2 : nB t b = sg b * l := fdiv_cg hb h2
  rw [e1, e2, Int.natAbs_mul, Int.natAbs_mul, sg_abs, Nat.one_mul, Nat.one_mul]
  have g0 := g_pos (t := t) hb
  have a1 : t.natAbs = Nat.gcd t.natAbs b.natAbs * k.natAbs := by
    have := congrArg Int.natAbs h1
    rw [Int.natAbs_mul] at this
    exact this
  have a2 : b.natAbs = Nat.gcd t.natAbs b.natAbs * l.natAbs := by
    have := congrArg Int.natAbs h2
    rw [Int.natAbs_mul] at this
    exact this
  have a3 := Nat.gcd_mul_left (Nat.gcd t.natAbs b.natAbs) k.natAbs l.natAbs
  rw [← a1, ← a2] at a3
  have a4 : Nat.gcd t.natAbs b.natAbs * 1 = Nat.gcd t.natAbs b.natAbs * Nat.gcd k.natAbs l.natAbs := by
    rw [Nat.mul_one]
    exact a3
  exact (Nat.eq_of_mul_eq_mul_left g0 a4).symm
theorem nB_pos {t b : Int} (hb : b ≠ 0) : 0 < nB t b := by
  obtain ⟨k, l, h1, h2⟩ := parts t b
  have e2 : nB t b = sg b * l := fdiv_cg hb h2
  rw [e2]
  have g0 := g_pos (t := t) hb
  generalize hg : ((Nat.gcd t.natAbs b.natAbs : Nat) : Int) = g at h2
  have gp : 0 < g := by omega
  unfold sg
  split
  · rename_i n
    have hl : l < 0 := by
      refine Int.not_le.mp fun c => ?_
      have := Int.mul_nonneg (Int.le_of_lt gp) c
      omega
    omega
  · rename_i n
    have hl : 0 < l := by
      refine Int.not_le.mp fun c => ?_
      have : g * l ≤ 0 := Int.mul_nonpos_of_nonneg_of_nonpos (Int.le_of_lt gp) c
      omega
    omega
theorem n_low {t b : Int} (hb : 0 < b) (hg : Nat.gcd t.natAbs b.natAbs = 1) : nT t b = t ∧ nB t b = b := by
  have e : cg t b = 1 := by
    unfold cg
    rw [hg, if_neg (by omega)]
    rfl
  unfold nT nB
  rw [e, Int.fdiv_one, Int.fdiv_one]
  exact ⟨rfl, rfl⟩
theorem n_abs {t b : Int} (hb : b ≠ 0) : (nT t b).natAbs ≤ t.natAbs ∧ (nB t b).natAbs ≤ b.natAbs := by
  obtain ⟨k, l, h1, h2⟩ := parts t b
  have e1 : nT t b = sg b * k := fdiv_cg hb h1
  have e2 : nB t b = sg b * l := fdiv_cg hb h2
  have g0 := g_pos (t := t) hb
  rw [e1, e2, Int.natAbs_mul, Int.natAbs_mul, sg_abs, Nat.one_mul, Nat.one_mul]
  have a1 : t.natAbs = Nat.gcd t.natAbs b.natAbs * k.natAbs := by
    have := congrArg Int.natAbs h1
    rw [Int.natAbs_mul] at this
    exact this
  have a2 : b.natAbs = Nat.gcd t.natAbs b.natAbs * l.natAbs := by
    have := congrArg Int.natAbs h2
    rw [Int.natAbs_mul] at this
    exact this
  constructor
  · rw [a1]
    exact Nat.le_trans (Nat.le_mul_of_pos_left _ g0) (by rw [← a1]; exact Nat.le_refl _)
  · rw [a2]
    exact Nat.le_trans (Nat.le_mul_of_pos_left _ g0) (by rw [← a2]; exact Nat.le_refl _)
theorem n_one (i : Int) : nT i 1 = i ∧ nB i 1 = 1 := n_low (by decide) (Nat.gcd_one_right _)
/-- below 2 ^ n -/
def Bd (n : Nat) (i : Int) : Prop := i.natAbs < 2 ^ n
theorem Bd.le {n m : Nat} {i : Int} (h : Bd n i) (l : n ≤ m) : Bd m i := Nat.lt_of_lt_of_le h (Nat.pow_le_pow_right (by decide) l)
theorem Bd.mul {n m : Nat} {i j : Int} (h : Bd n i) (k : Bd m j) : Bd (n + m) (i * j) := wide_lt h k
theorem Bd.add {n : Nat} {i j : Int} (h : Bd n i) (k : Bd n j) : Bd (n + 1) (i + j) := by
  unfold Bd at h k ⊢
  rw [Nat.pow_succ]
  omega
theorem Bd.neg {n : Nat} {i : Int} (h : Bd n i) : Bd n (-i) := by
  unfold Bd at h ⊢
  rw [Int.natAbs_neg]
  exact h
theorem Bd.of {n m : Nat} {i : Int} (h : i.natAbs ≤ m) (k : m < 2 ^ n) : Bd n i := Nat.lt_of_le_of_lt h k
theorem Bd.log {n : Nat} {i : Int} (h : Bd n i) (k : 0 < n) : i.natAbs.log2 < n := PySem.Flt.log2_lt_of k h
end K36

set_option Elab.async false
set_option linter.all false
set_option maxRecDepth 100000
set_option maxHeartbeats 4000000
set_option pp.maxSteps 500
namespace K36
open PySem PySem.Spec PyProof.Rows L2 Ux
abbrev sIsInt : Stmt := top 12
abbrev sIsNum : Stmt := top 13
abbrev sRatioOf : Stmt := top 14
abbrev sRInit : Stmt := inClass (top 19) 0
abbrev sAdd : Stmt := inClass (top 19) 3
abbrev sRadd : Stmt := inClass (top 19) 4
abbrev sSub : Stmt := inClass (top 19) 5
abbrev sRsub : Stmt := inClass (top 19) 6
abbrev sMul : Stmt := inClass (top 19) 7
abbrev sRmul : Stmt := inClass (top 19) 8
abbrev sNeg : Stmt := inClass (top 19) 9
abbrev sAbs : Stmt := inClass (top 19) 10
abbrev sOver : Stmt := inClass (top 19) 11
abbrev sREq : Stmt := inClass (top 19) 12
theorem same_upd {H : Hp} {a : Addr} {o : HO} (ha : H a = none) : Same H (upd H a o) := same_upd' ha
theorem made_same {H H' : Hp} {x dx : Addr} {o1 o2 : HO} (nx : H x = none) (nd : H dx = none) (bu : But x (upd (upd H dx o1) x o2) H') : Same H H' := fun c o e => by
  have n1 := ne_of_none e nx
  refine bu c o ?_ n1
  rw [upd_ne n1, upd_ne (ne_of_none e nd)]
  exact e
/-- the class Ratio -/
structure RT (K : PySem.W.Frag) (mg : Str → Option Value) (CR : Addr) : Prop where
  cl : Cls K CR
  nT : NoAttr K CR "top"
  nB : NoAttr K CR "bottom"
  gl : mg "Ratio" = some (.ref CR)
  ha : PySem.W.findIn K (.ref CR) "__class__" = some (some (.builtin "object.__class__"))
  hn : PySem.W.specialIn K (.builtin "object.__class__") "__get__" = some (some (.builtin "getset_descriptor.__get__"))
  ht : PySem.W.takesIn K (.builtin "object.__class__") = some true
  hm : PySem.W.mroIn K CR (.type "object") = some true
  kR : PySem.W.kitOne K (.ref CR) (.ref CR) = some true
  kI : PySem.W.kitOne K (.type "int") (.ref CR) = some false
  kN : PySem.W.kitOne K (.type "NoneType") (.ref CR) = some false
  kS : PySem.W.kitOne K (.type "str") (.ref CR) = some false
  kB : PySem.W.kitOne K (.type "bool") (.ref CR) = some false
  k1 : PySem.W.kitOne K (.ref CR) (.type "str") = some false
  k2 : PySem.W.kitOne K (.ref CR) (.type "int") = some false
  f1 : PySem.W.notFirst K CR (.ref CR) = true
/-- the fields of a Ratio -/
def rf (t b : Int) : List (Str × V) := putF "bottom" (.int b) (putF "top" (.int t) [])
theorem ntb : ¬ (("top" : Str) = "bottom") := by decide +kernel
theorem rf_top (t b : Int) : (rf t b).lookup ("top" : Str) = some (.int t) := by
  unfold rf
  rw [lookup_putF, if_neg ntb, lookup_putF, if_pos rfl]
theorem rf_bot (t b : Int) : (rf t b).lookup ("bottom" : Str) = some (.int b) := by
  unfold rf
  rw [lookup_putF, if_pos rfl]
def RatAt (CR : Addr) (H : Hp) (a : Addr) (t b : Int) : Prop := ∃ dx, H a = some (.ins CR dx (rf t b))
theorem RatAt.same {CR : Addr} {H H' : Hp} {a : Addr} {t b : Int} (h : RatAt CR H a t b) (s : Same H H') : RatAt CR H' a t b := by
  obtain ⟨dx, h⟩ := h
  exact ⟨dx, s _ _ h⟩
theorem RatAt.ty {K : PySem.W.Frag} {mg : Str → Option Value} {CR : Addr} {H : Hp} {a : Addr} {t b : Int} (T : RT K mg CR) (h : RatAt CR H a t b) : TyX K H (.ref a) (.ref CR) := by
  obtain ⟨dx, h⟩ := h
  exact .base (.ins h T.cl T.ha T.hn T.ht T.hm)
theorem RatAt.adm {K : PySem.W.Frag} {mg : Str → Option Value} {CR : Addr} {H : Hp} {a : Addr} {t b : Int} (T : RT K mg CR) (h : RatAt CR H a t b) : Adm K H (.ref a) := by
  obtain ⟨dx, h⟩ := h
  exact .own h (fun H' h' => .base (.ins h' T.cl T.ha T.hn T.ht T.hm)) T.k1 T.k2
/-- a number as it is handed in -/
def NumV (CR : Addr) (H : Hp) (y : V) (t b : Int) : Prop := (∃ r, y = .ref r ∧ RatAt CR H r t b) ∨ (y = .int t ∧ b = 1)
def NotNum (K : PySem.W.Frag) (CR : Addr) (H : Hp) (v : V) : Prop := ∃ t b1 b2, TyX K H v t ∧ PySem.W.kitOne K t (.ref CR) = some false ∧ PySem.W.kitOne K t (.type "int") = some b1 ∧ PySem.W.kitOne K t (.type "bool") = some b2 ∧ (b1 && !b2) = false
def spIsInt (K : PySem.W.Frag) : Sp := fun vs H Q _ => ∃ (v : V) (t : Value) (b1 b2 : Bool), vs = [v] ∧ TyX K H v t ∧ PySem.W.kitOne K t (.type "int") = some b1 ∧ PySem.W.kitOne K t (.type "bool") = some b2 ∧ Q (.bl (b1 && !b2)) H
def spIsNum (K : PySem.W.Frag) (CR : Addr) : Sp := fun vs H Q _ => ∃ v, vs = [v] ∧ ((∃ t b, NumV CR H v t b ∧ Q (.bl true) H) ∨ (NotNum K CR H v ∧ Q (.bl false) H))
def spRInit (CR : Addr) : Sp := fun vs H Q _ => ∃ (p dx : Addr) (t b : Int), vs = [.ref p, .int t, .int b] ∧ H p = some (.ins CR dx []) ∧ b ≠ 0 ∧ Bd 8000 b ∧
  ∀ H', H' p = some (.ins CR dx (rf (nT t b) (nB t b))) → But p H H' → Q .non H'
def spRatioOf (CR : Addr) : Sp := fun vs H Q _ => ∃ (y : V) (t b : Int), vs = [y] ∧ NumV CR H y t b ∧ ∀ (p : Addr) (H' : Hp), RatAt CR H' p t b → Same H H' → Q (.ref p) H'
/-- an operator's promise: the right side any number -/
def spBin (CR : Addr) (f g : Int → Int → Int → Int → Int) : Sp := fun vs H Q _ => ∃ (a : Addr) (y : V) (t1 b1 t2 b2 : Int), vs = [.ref a, y] ∧ RatAt CR H a t1 b1 ∧ NumV CR H y t2 b2 ∧ Bd 2000 t1 ∧ Bd 2000 b1 ∧ Bd 2000 t2 ∧ Bd 2000 b2 ∧ 0 < b1 ∧ 0 < b2 ∧ Nat.gcd t1.natAbs b1.natAbs = 1 ∧ Nat.gcd t2.natAbs b2.natAbs = 1 ∧
  ∀ (p : Addr) (H' : Hp), RatAt CR H' p (nT (f t1 b1 t2 b2) (g t1 b1 t2 b2)) (nB (f t1 b1 t2 b2) (g t1 b1 t2 b2)) → Same H H' → Q (.ref p) H'
/-- .. the right side an int -/
def spBinI (CR : Addr) (f g : Int → Int → Int → Int → Int) : Sp := fun vs H Q _ => ∃ (a : Addr) (i t1 b1 : Int), vs = [.ref a, .int i] ∧ RatAt CR H a t1 b1 ∧ Bd 2000 t1 ∧ Bd 2000 b1 ∧ Bd 2000 i ∧ 0 < b1 ∧ Nat.gcd t1.natAbs b1.natAbs = 1 ∧
  ∀ (p : Addr) (H' : Hp), RatAt CR H' p (nT (f t1 b1 i 1) (g t1 b1 i 1)) (nB (f t1 b1 i 1) (g t1 b1 i 1)) → Same H H' → Q (.ref p) H'
def fAdd (t1 b1 t2 b2 : Int) : Int := t1 * b2 + t2 * b1
def gMul (_ b1 _ b2 : Int) : Int := b1 * b2
def fMul (t1 _ t2 _ : Int) : Int := t1 * t2
def fSub (t1 b1 t2 b2 : Int) : Int := t1 * b2 + -t2 * b1
def fRsub (t1 b1 t2 b2 : Int) : Int := -t1 * b2 + t2 * b1
def fOver (t1 _ _ b2 : Int) : Int := t1 * b2
def gOver (_ b1 t2 _ : Int) : Int := b1 * t2
def spUn (CR : Addr) (f : Int → Int) : Sp := fun vs H Q _ => ∃ (a : Addr) (t b : Int), vs = [.ref a] ∧ RatAt CR H a t b ∧ Bd 2000 b ∧ 0 < b ∧ ∀ (p : Addr) (H' : Hp), RatAt CR H' p (nT (f t) b) (nB (f t) b) → Same H H' → Q (.ref p) H'
def absI (t : Int) : Int := if t < 0 then -t else t
def spOver (K : PySem.W.Frag) (CR CI : Addr) : Sp := fun vs H Q E => (∃ (a : Addr) (y : V) (t1 b1 t2 b2 : Int), vs = [.ref a, y] ∧ RatAt CR H a t1 b1 ∧ NumV CR H y t2 b2 ∧ Bd 2000 t1 ∧ Bd 2000 b1 ∧ Bd 2000 t2 ∧ Bd 2000 b2 ∧ 0 < b1 ∧ t2 ≠ 0 ∧
    ∀ (p : Addr) (H' : Hp), RatAt CR H' p (nT (fOver t1 b1 t2 b2) (gOver t1 b1 t2 b2)) (nB (fOver t1 b1 t2 b2) (gOver t1 b1 t2 b2)) → Same H H' → Q (.ref p) H') ∨
  ∃ (a : Addr) (y : V), vs = [.ref a, y] ∧ Adm K H y ∧ (NotNum K CR H y ∨ ∃ b, NumV CR H y 0 b) ∧ ∀ d H', Same H H' → H' d = some (.xd (inFs y)) → E (.ref CI) (some d) H'
def spREq (CR : Addr) : Sp := fun vs H Q _ => ∃ (a b : Addr) (t1 b1 t2 b2 : Int), vs = [.ref a, .ref b] ∧ RatAt CR H a t1 b1 ∧ RatAt CR H b t2 b2 ∧ Q (.bl (decide (t1 = t2) && decide (b1 = b2))) H
theorem NumV.same {CR : Addr} {H H' : Hp} {y : V} {t b : Int} (h : NumV CR H y t b) (s : Same H H') : NumV CR H' y t b := by
  rcases h with ⟨r, e, h⟩ | h
  · exact .inl ⟨r, e, h.same s⟩
  · exact .inr h
section
variable {P : Program} {w : World} {K : PySem.W.Frag} {mg : Str → Option Value} {base : Heap} {CR CI fI : Addr}
theorem scIsInt : FnScope ["value"] ["value"] (defScope sIsInt) := ⟨rfl, rfl, rfl, by decide +kernel, rfl, by decide +kernel, by decide +kernel⟩
theorem ok_isInt {f : Addr} {fd : FuncData} (F : Fun K "is_integer" "is_integer" sIsInt f fd) (B : Bn mg) : FnOk P w K mg base CX0 1 f fd ["value"] (spIsInt K) := by
  refine F.ok scIsInt (fun vs H Q E h => ?_) (fun cdv A outer s H vs Q E hr h => ?_)
  · obtain ⟨v, t, b1, b2, rfl, _⟩ := h
    rfl
  · obtain ⟨v, t, b1, b2, rfl, ty, k1, k2, q⟩ := h
    refine ⟨_, pss_one (ps_ret (pe_and (pe_callB call_isi (by rfl) B.isin (by decide +kernel) (pa_cons (pv 0) (pa_cons (pe_bltn (v := .ty "int") (by rfl) B.tint (by decide +kernel) rfl) pa_nil)))
      (pe_one (pe_not (pe_callB call_isi (by rfl) B.isin (by decide +kernel) (pa_cons (pv 0) (pa_cons (pe_bltn (v := .ty "bool") (by rfl) B.tbool (by decide +kernel) rfl) pa_nil))))))), ?_⟩
    refine ⟨_, rfl, _, _, _, _, b1, rfl, .ty "int", ty, k1, b1, rfl, ?_⟩
    cases b1 with
    | false => exact iteF q
    | true => exact iteT ⟨_, rfl, _, _, _, _, b2, rfl, .ty "bool", ty, k2, b2, rfl, q⟩
theorem scIsNum : FnScope ["value"] ["value"] (defScope sIsNum) := ⟨rfl, rfl, rfl, by decide +kernel, rfl, by decide +kernel, by decide +kernel⟩
theorem ok_isNum {f fI : Addr} {fd fdI : FuncData} (F : Fun K "is_number" "is_number" sIsNum f fd) (B : Bn mg) (T : RT K mg CR) (D : Dn K mg "is_integer" fI) (G : FnOk P w K mg base CX0 1 fI fdI ["value"] (spIsInt K)) (bI : Binds K fdI ["value"] []) : FnOk P w K mg base CX0 2 f fd ["value"] (spIsNum K CR) := by
  refine F.ok scIsNum (fun vs H Q E h => ?_) (fun cdv A outer s H vs Q E hr h => ?_)
  · obtain ⟨v, rfl, _⟩ := h
    rfl
  · obtain ⟨v, rfl, h⟩ := h
    refine ⟨_, pss_one (ps_ret (pe_or (pe_callB call_isi (by rfl) B.isin (by decide +kernel) (pa_cons (pv 0) (pa_cons (pe_glob (v := .ref CR) (by rfl) T.gl rfl) pa_nil))) (pe_one (pe_call G hr (by rfl) D.gl D.kp bI .nil pass0 (pa_cons (pv 0) pa_nil))))), ?_⟩
    rcases h with ⟨t, b, nv, q⟩ | ⟨⟨t, b1, b2, ty, k1, k2, k3, e⟩, q⟩
    · rcases nv with ⟨r, rfl, ra⟩ | ⟨rfl, _⟩
      · exact ⟨_, rfl, _, _, _, _, true, rfl, .own _, ra.ty T, T.kR, true, rfl, iteT q⟩
      · refine ⟨_, rfl, _, _, _, _, false, rfl, .own _, .base (.int _), T.kI, false, rfl, iteF ?_⟩
        exact ⟨_, rfl, _, _, true, false, rfl, .base (.int _), kit_ty (by decide +kernel), kit_ty (by decide +kernel), q⟩
    · refine ⟨_, rfl, _, _, _, _, false, rfl, .own _, ty, k1, false, rfl, iteF ?_⟩
      refine ⟨_, rfl, _, _, b1, b2, rfl, ty, k2, k3, ?_⟩
      rw [e]
      exact q
theorem scRInit : FnScope ["self", "top", "bottom", "common"] ["self", "top", "bottom"] (defScope sRInit) := ⟨rfl, rfl, rfl, by decide +kernel, rfl, by decide +kernel, by decide +kernel⟩
theorem ok_rinit {f fI : Addr} {fd fdI : FuncData} {dvs : List V} (F : FunD K "__init__" "Ratio.__init__" (defArgs sRInit) (defBody sRInit) (defScope sRInit) dvs [] f fd) (T : RT K mg CR) (gcd : mg "gcd" = some (.builtin "math.gcd")) (D : Dn K mg "is_integer" fI) (G : FnOk P w K mg base CX0 1 fI fdI ["value"] (spIsInt K)) (bI : Binds K fdI ["value"] []) :
    FnOk P w K mg base CX0 2 f fd ["self", "top", "bottom"] (spRInit CR) := by
  refine F.ok scRInit (fun vs H Q E h => ?_) (fun cdv A outer s H vs Q E hr h => ?_)
  · obtain ⟨p, dx, t, b, rfl, _⟩ := h
    rfl
  · obtain ⟨p, dx, t, b, rfl, hp, b0, bb, q⟩ := h
    refine ⟨_, pss_cons (ps_if (pt_not (pt_val (pe_call G hr (by rfl) D.gl D.kp bI .nil pass0 (pa_cons (pv 1) pa_nil)))) (pss_one ps_never) pss_nil)
      (pss_cons (ps_if (PW.pt (pw_or (pt_not (pt_val (pe_call G hr (by rfl) D.gl D.kp bI .nil pass0 (pa_cons (pv 2) pa_nil)))) (pw_or1 (pt_cmpR op_eq (pv 2) pe_int (nomark _))))) (pss_one ps_never) pss_nil)
      (pss_cons (ps_set (i := 3) scRInit.nd rfl (Or.inl rfl) (pe_callBfun cr_gcd (by rfl) gcd (pa_cons (pv 1) (pa_cons (pv 2) pa_nil))))
      (C8.pss_cut (ps_if (pt_cmpR op_lt (pv 2) pe_int (nomark _)) (pss_one (ps_set (i := 3) scRInit.nd rfl (Or.inl rfl) (pe_un un_neg (pv 3)))) pss_nil)
      (pss_cons (ps_fld (pv 0) (pe_op op_fdivX (pv 1) (pv 3)) rfl)
      (pss_one (ps_fld (pv 0) (pe_op op_fdivX (pv 2) (pv 3)) rfl)))))), ?_⟩
    refine ⟨_, rfl, _, _, true, false, rfl, .base (.int _), kit_ty (by decide +kernel), kit_ty (by decide +kernel), _, rfl, iteF ?_⟩
    refine ⟨_, rfl, _, _, true, false, rfl, .base (.int _), kit_ty (by decide +kernel), kit_ty (by decide +kernel), _, rfl, iteF ?_⟩
    have nb : ¬ (V.int b) = V.int 0 := fun z => b0 (V.int.inj z)
    refine ⟨_, rfl, rfl, _, rfl, ?_⟩
    rw [decide_eq_false nb]
    refine iteF ?_
    refine ⟨_, rfl, _, rfl, t, b, rfl, ?_⟩
    refine ⟨fun σ H' => σ = [some (.ref p), some (.int t), some (.int b), some (.int (cg t b))] ∧ H' = H, ?_, ?_⟩
    · refine ⟨_, rfl, _, _, rfl, rfl, _, rfl, ?_⟩
      by_cases hn : b < 0
      · rw [decide_eq_true hn]
        refine iteT ⟨_, rfl, _, rfl, ?_⟩
        unfold cg
        rw [if_pos hn]
        exact ⟨rfl, rfl⟩
      · rw [decide_eq_false hn]
        refine iteF ?_
        unfold cg
        rw [if_neg hn]
        exact ⟨rfl, rfl⟩
    · rintro σ H' ⟨rfl, rfl⟩
      have c0 := cg_ne (t := t) b0
      have c1 : (cg t b).natAbs.log2 < 9000 := by
        refine Nat.lt_of_lt_of_le (Bd.log (n := 8000) ?_ (by decide)) (by decide)
        unfold Bd
        rw [cg_abs]
        exact Nat.lt_of_le_of_lt (Nat.le_of_dvd (by omega) (Nat.gcd_dvd_right _ _)) bb
      refine ⟨_, rfl, _, rfl, _, _, rfl, rfl, ⟨c0, c1⟩, _, rfl, p, CR, dx, [], rfl, hp, T.cl, T.nT, (by show 0 < 1000; decide), ?_⟩
      refine ⟨_, rfl, _, rfl, _, _, rfl, rfl, ⟨c0, c1⟩, _, rfl, p, CR, dx, _, rfl, upd_same, T.cl, T.nB, (by show 1 < 1000; decide), ?_⟩
      exact q _ upd_same ((But.refl.upd).upd)
theorem scRatioOf : FnScope ["number"] ["number"] (defScope sRatioOf) := ⟨rfl, rfl, rfl, by decide +kernel, rfl, by decide +kernel, by decide +kernel⟩
theorem ok_ratioOf {f fN : Addr} {fd fdN : FuncData} {ds : List Value} (F : Fun K "ratio_of" "ratio_of" sRatioOf f fd) (B : Bn mg) (T : RT K mg CR) (M : Mk K CR fN) (G : FnOk P w K mg base CX0 2 fN fdN ["self", "top", "bottom"] (spRInit CR)) (vD : Vals [V.int 1] ds) (bN : Binds K fdN ["self", "top", "bottom"] ds) :
    FnOk P w K mg base CX0 4 f fd ["number"] (spRatioOf CR) := by
  refine F.ok scRatioOf (fun vs H Q E h => ?_) (fun cdv A outer s H vs Q E hr h => ?_)
  · obtain ⟨y, t, b, rfl, _⟩ := h
    rfl
  · refine ⟨_, pss_cons (ps_if (pt_val (pe_callB call_isi (by rfl) B.isin (by decide +kernel) (pa_cons (pv 0) (pa_cons (pe_glob (v := .ref CR) (by rfl) T.gl rfl) pa_nil)))) (pss_one (ps_ret (pv 0))) pss_nil)
      (pss_one (ps_ret (pe_make M G hr (by rfl) T.gl bN vD pass0 (pa_cons (pv 0) pa_nil)))), ?_⟩
    obtain ⟨y, t, b, rfl, ⟨r, rfl, ra⟩ | ⟨rfl, rfl⟩, q⟩ := h
    · refine ⟨_, rfl, _, _, _, _, true, rfl, .own _, ra.ty T, T.kR, true, rfl, iteT ?_⟩
      exact ⟨_, rfl, q _ _ ra (Same.refl _)⟩
    · refine ⟨_, rfl, _, _, _, _, false, rfl, .own _, .base (.int _), T.kI, false, rfl, iteF ?_⟩
      refine ⟨_, rfl, fun x dx nx nd ne => ?_⟩
      refine ⟨x, dx, t, 1, rfl, upd_same, by decide, Bd.of (m := 1) (by decide) (by decide +kernel), fun H' hx bu => ⟨rfl, ?_⟩⟩
      rw [(n_one t).1, (n_one t).2] at hx
      exact q x H' ⟨dx, hx⟩ (made_same nx nd bu)
end
end K36

set_option Elab.async false
set_option linter.all false
set_option maxRecDepth 100000
set_option maxHeartbeats 4000000
set_option pp.maxSteps 500
namespace K36
open PySem PySem.Spec PyProof.Rows L2 Ux
section
variable {P : Program} {w : World} {K : PySem.W.Frag} {mg : Str → Option Value} {base : Heap} {CR CI fI : Addr}
theorem scadd : FnScope ["self", "other", "added"] ["self", "other"] (defScope sAdd) := ⟨rfl, rfl, rfl, by decide +kernel, rfl, by decide +kernel, by decide +kernel⟩
theorem ok_add {f fN fO fi : Addr} {fd fdN fdO fdi : FuncData} (F : Fun K "__add__" "Ratio.__add__" sAdd f fd) (T : RT K mg CR) (DN : Dn K mg "is_number" fN) (GN : FnOk P w K mg base CX0 2 fN fdN ["value"] (spIsNum K CR)) (bN : Binds K fdN ["value"] [])
    (DO : Dn K mg "ratio_of" fO) (GO : FnOk P w K mg base CX0 4 fO fdO ["number"] (spRatioOf CR)) (bO : Binds K fdO ["number"] []) (M : Mk K CR fi) (G : FnOk P w K mg base CX0 2 fi fdi ["self", "top", "bottom"] (spRInit CR)) (bR : Binds K fdi ["self", "top", "bottom"] []) :
    FnOk P w K mg base CX0 5 f fd ["self", "other"] (spBin CR fAdd gMul) := by
  refine F.ok scadd (fun vs H Q E h => ?_) (fun cdv A outer s H vs Q E hr h => ?_)
  · obtain ⟨a, y, t1, b1, t2, b2, rfl, _⟩ := h
    rfl
  · obtain ⟨a, y, t1, b1, t2, b2, rfl, ⟨da, ha⟩, nv, B1, B2, B3, B4, p1, p2, _, _, q⟩ := h
    have r2 : Room 2 _ := hr.mono (by decide)
    have r3 : Room 3 _ := hr.mono (by decide)
    refine ⟨_, pss_cons (ps_if (pt_not (pt_val (pe_call GN r2 (by rfl) DN.gl DN.kp bN .nil pass0 (pa_cons (pv 1) pa_nil)))) (pss_one ps_never) pss_nil)
      (pss_cons (ps_set (i := 2) scadd.nd rfl (Or.inl rfl) (pe_call GO hr (by rfl) DO.gl DO.kp bO .nil pass0 (pa_cons (pv 1) pa_nil)))
      (pss_one (ps_ret (pe_make M G r3 (by rfl) T.gl bR .nil pass0 (pa_cons (pe_op op_add (pe_op op_mulW (pe_fld (pv 0) rfl) (pe_fld (pv 2) rfl)) (pe_op op_mulW (pe_fld (pv 2) rfl) (pe_fld (pv 0) rfl))) (pa_cons (pe_op op_mulW (pe_fld (pv 0) rfl) (pe_fld (pv 2) rfl)) pa_nil)))))), ?_⟩
    refine ⟨_, rfl, y, rfl, .inl ⟨t2, b2, nv, _, rfl, iteF ?_⟩⟩
    refine ⟨_, rfl, y, t2, b2, rfl, nv, fun r H1 ⟨dr, hr1⟩ s1 => ?_⟩
    have ha1 := s1 _ _ ha
    refine ⟨_, rfl, a, CR, _, _, _, rfl, ha1, T.cl, T.nT, rf_top t1 b1, _, rfl, r, CR, _, _, _, rfl, hr1, T.cl, T.nB, rf_bot t2 b2, _, _, rfl, rfl, wide_mul B1 B4 (by decide) (by decide) (by decide), _, rfl, r, CR, _, _, _, rfl, hr1, T.cl, T.nT, rf_top t2 b2, _, rfl, a, CR, _, _, _, rfl, ha1, T.cl, T.nB, rf_bot t1 b1, _, _, rfl, rfl, wide_mul B3 B2 (by decide) (by decide) (by decide), _, _, rfl, rfl, ?_⟩
    refine ⟨_, rfl, a, CR, _, _, _, rfl, ha1, T.cl, T.nB, rf_bot t1 b1, _, rfl, r, CR, _, _, _, rfl, hr1, T.cl, T.nB, rf_bot t2 b2, _, _, rfl, rfl, wide_mul B2 B4 (by decide) (by decide) (by decide), fun x dx nx nd ne => ?_⟩
    have pp : 0 < b1 * b2 := Int.mul_pos p1 p2
    exact ⟨x, dx, _, _, rfl, upd_same, by omega, (B2.mul B4).le (by decide), fun H' hx bu => ⟨rfl, q x H' ⟨dx, hx⟩ (s1.trans (made_same nx nd bu))⟩⟩
theorem scmul : FnScope ["self", "other", "factor"] ["self", "other"] (defScope sMul) := ⟨rfl, rfl, rfl, by decide +kernel, rfl, by decide +kernel, by decide +kernel⟩
theorem ok_mul {f fN fO fi : Addr} {fd fdN fdO fdi : FuncData} (F : Fun K "__mul__" "Ratio.__mul__" sMul f fd) (T : RT K mg CR) (DN : Dn K mg "is_number" fN) (GN : FnOk P w K mg base CX0 2 fN fdN ["value"] (spIsNum K CR)) (bN : Binds K fdN ["value"] [])
    (DO : Dn K mg "ratio_of" fO) (GO : FnOk P w K mg base CX0 4 fO fdO ["number"] (spRatioOf CR)) (bO : Binds K fdO ["number"] []) (M : Mk K CR fi) (G : FnOk P w K mg base CX0 2 fi fdi ["self", "top", "bottom"] (spRInit CR)) (bR : Binds K fdi ["self", "top", "bottom"] []) :
    FnOk P w K mg base CX0 5 f fd ["self", "other"] (spBin CR fMul gMul) := by
  refine F.ok scmul (fun vs H Q E h => ?_) (fun cdv A outer s H vs Q E hr h => ?_)
  · obtain ⟨a, y, t1, b1, t2, b2, rfl, _⟩ := h
    rfl
  · obtain ⟨a, y, t1, b1, t2, b2, rfl, ⟨da, ha⟩, nv, B1, B2, B3, B4, p1, p2, _, _, q⟩ := h
    have r2 : Room 2 _ := hr.mono (by decide)
    have r3 : Room 3 _ := hr.mono (by decide)
    refine ⟨_, pss_cons (ps_if (pt_not (pt_val (pe_call GN r2 (by rfl) DN.gl DN.kp bN .nil pass0 (pa_cons (pv 1) pa_nil)))) (pss_one ps_never) pss_nil)
      (pss_cons (ps_set (i := 2) scmul.nd rfl (Or.inl rfl) (pe_call GO hr (by rfl) DO.gl DO.kp bO .nil pass0 (pa_cons (pv 1) pa_nil)))
      (pss_one (ps_ret (pe_make M G r3 (by rfl) T.gl bR .nil pass0 (pa_cons (pe_op op_mulW (pe_fld (pv 0) rfl) (pe_fld (pv 2) rfl)) (pa_cons (pe_op op_mulW (pe_fld (pv 0) rfl) (pe_fld (pv 2) rfl)) pa_nil)))))), ?_⟩
    refine ⟨_, rfl, y, rfl, .inl ⟨t2, b2, nv, _, rfl, iteF ?_⟩⟩
    refine ⟨_, rfl, y, t2, b2, rfl, nv, fun r H1 ⟨dr, hr1⟩ s1 => ?_⟩
    have ha1 := s1 _ _ ha
    refine ⟨_, rfl, a, CR, _, _, _, rfl, ha1, T.cl, T.nT, rf_top t1 b1, _, rfl, r, CR, _, _, _, rfl, hr1, T.cl, T.nT, rf_top t2 b2, _, _, rfl, rfl, wide_mul B1 B3 (by decide) (by decide) (by decide), ?_⟩
    refine ⟨_, rfl, a, CR, _, _, _, rfl, ha1, T.cl, T.nB, rf_bot t1 b1, _, rfl, r, CR, _, _, _, rfl, hr1, T.cl, T.nB, rf_bot t2 b2, _, _, rfl, rfl, wide_mul B2 B4 (by decide) (by decide) (by decide), fun x dx nx nd ne => ?_⟩
    have pp : 0 < b1 * b2 := Int.mul_pos p1 p2
    exact ⟨x, dx, _, _, rfl, upd_same, by omega, (B2.mul B4).le (by decide), fun H' hx bu => ⟨rfl, q x H' ⟨dx, hx⟩ (s1.trans (made_same nx nd bu))⟩⟩
theorem scradd : FnScope ["self", "other"] ["self", "other"] (defScope sRadd) := ⟨rfl, rfl, rfl, by decide +kernel, rfl, by decide +kernel, by decide +kernel⟩
theorem ok_radd {f fA : Addr} {fd fdA : FuncData} (F : Fun K "__radd__" "Ratio.__radd__" sRadd f fd) (M : BinM K CR "add" fA) (N : BinI K CR "add") (G : FnOk P w K mg base CX0 5 fA fdA ["self", "other"] (spBin CR fAdd gMul)) (bA : Binds K fdA ["self", "other"] []) :
    FnOk P w K mg base CX0 6 f fd ["self", "other"] (spBinI CR fAdd gMul) := by
  refine F.ok scradd (fun vs H Q E h => ?_) (fun cdv A outer s H vs Q E hr h => ?_)
  · obtain ⟨a, i, t1, b1, rfl, _⟩ := h
    rfl
  · obtain ⟨a, i, t1, b1, rfl, ⟨da, ha⟩, B1, B2, B3, p1, g1, q⟩ := h
    refine ⟨_, pss_one (ps_ret (pe_op (op_binI (op := .Add) M N G bA hr) (pv 0) (pv 1))), ?_⟩
    exact ⟨_, rfl, _, rfl, a, da, _, i, rfl, rfl, ha, a, .int i, t1, b1, i, 1, rfl, ⟨da, ha⟩, .inr ⟨rfl, rfl⟩, B1, B2, B3, Bd.of (m := 1) (by decide) (by decide +kernel), p1, by decide, g1, Nat.gcd_one_right _, fun p H' rp s1 => ⟨p, rfl, q p H' rp s1⟩⟩
theorem scrmul : FnScope ["self", "other"] ["self", "other"] (defScope sRmul) := ⟨rfl, rfl, rfl, by decide +kernel, rfl, by decide +kernel, by decide +kernel⟩
theorem ok_rmul {f fA : Addr} {fd fdA : FuncData} (F : Fun K "__rmul__" "Ratio.__rmul__" sRmul f fd) (M : BinM K CR "mul" fA) (N : BinI K CR "mul") (G : FnOk P w K mg base CX0 5 fA fdA ["self", "other"] (spBin CR fMul gMul)) (bA : Binds K fdA ["self", "other"] []) :
    FnOk P w K mg base CX0 6 f fd ["self", "other"] (spBinI CR fMul gMul) := by
  refine F.ok scrmul (fun vs H Q E h => ?_) (fun cdv A outer s H vs Q E hr h => ?_)
  · obtain ⟨a, i, t1, b1, rfl, _⟩ := h
    rfl
  · obtain ⟨a, i, t1, b1, rfl, ⟨da, ha⟩, B1, B2, B3, p1, g1, q⟩ := h
    refine ⟨_, pss_one (ps_ret (pe_op (op_binI (op := .Mult) M N G bA hr) (pv 0) (pv 1))), ?_⟩
    exact ⟨_, rfl, _, rfl, a, da, _, i, rfl, rfl, ha, a, .int i, t1, b1, i, 1, rfl, ⟨da, ha⟩, .inr ⟨rfl, rfl⟩, B1, B2, B3, Bd.of (m := 1) (by decide) (by decide +kernel), p1, by decide, g1, Nat.gcd_one_right _, fun p H' rp s1 => ⟨p, rfl, q p H' rp s1⟩⟩
theorem scneg : FnScope ["self"] ["self"] (defScope sNeg) := ⟨rfl, rfl, rfl, by decide +kernel, rfl, by decide +kernel, by decide +kernel⟩
theorem ok_neg {f fi : Addr} {fd fdi : FuncData} (F : Fun K "__neg__" "Ratio.__neg__" sNeg f fd) (B : Bn mg) (T : RT K mg CR) (M : Mk K CR fi) (G : FnOk P w K mg base CX0 2 fi fdi ["self", "top", "bottom"] (spRInit CR)) (bR : Binds K fdi ["self", "top", "bottom"] []) :
    FnOk P w K mg base CX0 4 f fd ["self"] (spUn CR (fun t => -t)) := by
  refine F.ok scneg (fun vs H Q E h => ?_) (fun cdv A outer s H vs Q E hr h => ?_)
  · obtain ⟨a, t, b, rfl, _⟩ := h
    rfl
  · obtain ⟨a, t, b, rfl, ⟨da, ha⟩, B2, p1, q⟩ := h
    refine ⟨_, pss_one (ps_ret (pe_make M G hr (by rfl) T.gl bR .nil pass0 (pa_cons (pe_un un_neg (pe_fld (pv 0) rfl)) (pa_cons (pe_fld (pv 0) rfl) pa_nil)))), ?_⟩
    exact ⟨_, rfl, a, CR, _, _, _, rfl, ha, T.cl, T.nT, rf_top t b, _, rfl, _, rfl, a, CR, _, _, _, rfl, ha, T.cl, T.nB, rf_bot t b, fun x dx nx nd ne => ⟨x, dx, _, _, rfl, upd_same, by omega, B2.le (by decide), fun H' hx bu => ⟨rfl, q x H' ⟨dx, hx⟩ (made_same nx nd bu)⟩⟩⟩
theorem scabs : FnScope ["self"] ["self"] (defScope sAbs) := ⟨rfl, rfl, rfl, by decide +kernel, rfl, by decide +kernel, by decide +kernel⟩
theorem ok_abs {f fi : Addr} {fd fdi : FuncData} (F : Fun K "__abs__" "Ratio.__abs__" sAbs f fd) (B : Bn mg) (T : RT K mg CR) (M : Mk K CR fi) (G : FnOk P w K mg base CX0 2 fi fdi ["self", "top", "bottom"] (spRInit CR)) (bR : Binds K fdi ["self", "top", "bottom"] []) :
    FnOk P w K mg base CX0 4 f fd ["self"] (spUn CR absI) := by
  refine F.ok scabs (fun vs H Q E h => ?_) (fun cdv A outer s H vs Q E hr h => ?_)
  · obtain ⟨a, t, b, rfl, _⟩ := h
    rfl
  · obtain ⟨a, t, b, rfl, ⟨da, ha⟩, B2, p1, q⟩ := h
    refine ⟨_, pss_one (ps_ret (pe_make M G hr (by rfl) T.gl bR .nil pass0 (pa_cons (pe_callB call_abs (by rfl) B.fabs (by decide +kernel) (pa_cons (pe_fld (pv 0) rfl) pa_nil)) (pa_cons (pe_fld (pv 0) rfl) pa_nil)))), ?_⟩
    exact ⟨_, rfl, a, CR, _, _, _, rfl, ha, T.cl, T.nT, rf_top t b, _, rfl, _, rfl, a, CR, _, _, _, rfl, ha, T.cl, T.nB, rf_bot t b, fun x dx nx nd ne => ⟨x, dx, _, _, rfl, upd_same, by omega, B2.le (by decide), fun H' hx bu => ⟨rfl, q x H' ⟨dx, hx⟩ (made_same nx nd bu)⟩⟩⟩
theorem scsub : FnScope ["self", "other"] ["self", "other"] (defScope sSub) := ⟨rfl, rfl, rfl, by decide +kernel, rfl, by decide +kernel, by decide +kernel⟩
theorem ok_sub {f fN fO fA fG : Addr} {fd fdN fdO fdA fdG : FuncData} (F : Fun K "__sub__" "Ratio.__sub__" sSub f fd) (T : RT K mg CR) (DN : Dn K mg "is_number" fN) (GN : FnOk P w K mg base CX0 2 fN fdN ["value"] (spIsNum K CR)) (bN : Binds K fdN ["value"] [])
    (DO : Dn K mg "ratio_of" fO) (GO : FnOk P w K mg base CX0 4 fO fdO ["number"] (spRatioOf CR)) (bO : Binds K fdO ["number"] []) (MA : BinM K CR "add" fA) (GA : FnOk P w K mg base CX0 5 fA fdA ["self", "other"] (spBin CR fAdd gMul)) (bA : Binds K fdA ["self", "other"] [])
    (MG : OwnM K CR "__neg__" fG) (GG : FnOk P w K mg base CX0 4 fG fdG ["self"] (spUn CR (fun t => -t))) (bG : Binds K fdG ["self"] []) :
    FnOk P w K mg base CX0 6 f fd ["self", "other"] (spBin CR fSub gMul) := by
  refine F.ok scsub (fun vs H Q E h => ?_) (fun cdv A outer s H vs Q E hr h => ?_)
  · obtain ⟨a, y, t1, b1, t2, b2, rfl, _⟩ := h
    rfl
  · obtain ⟨a, y, t1, b1, t2, b2, rfl, ⟨da, ha⟩, nv, B1, B2, B3, B4, p1, p2, g1, g2, q⟩ := h
    have r2 : Room 2 _ := hr.mono (by decide)
    have r4 : Room 4 _ := hr.mono (by decide)
    refine ⟨_, pss_cons (ps_if (pt_not (pt_val (pe_call GN r2 (by rfl) DN.gl DN.kp bN .nil pass0 (pa_cons (pv 1) pa_nil)))) (pss_one ps_never) pss_nil)
      (pss_one (ps_ret (pe_op (op_binO (op := .Add) MA GA bA hr) (pv 0) (pe_un (un_negO MG GG bG r4) (pe_call GO r4 (by rfl) DO.gl DO.kp bO .nil pass0 (pa_cons (pv 1) pa_nil)))))), ?_⟩
    refine ⟨_, rfl, y, rfl, .inl ⟨t2, b2, nv, _, rfl, iteF ?_⟩⟩
    refine ⟨_, rfl, _, rfl, y, t2, b2, rfl, nv, fun r H1 rr s1 => ?_⟩
    obtain ⟨dr, hr1⟩ := id rr
    refine ⟨r, dr, _, rfl, hr1, r, t2, b2, rfl, rr, B4, p2, fun n H2 rn s2 => ?_⟩
    have gn : Nat.gcd (-t2).natAbs b2.natAbs = 1 := by rw [Int.natAbs_neg]; exact g2
    rw [(n_low p2 gn).1, (n_low p2 gn).2] at rn
    have ha2 := s2 _ _ (s1 _ _ ha)
    exact ⟨a, da, _, rfl, ha2, rn.ty T, a, .ref n, t1, b1, -t2, b2, rfl, ⟨da, ha2⟩, .inl ⟨n, rfl, rn⟩, B1, B2, B3.neg, B4, p1, p2, g1, gn, fun p H' rp s3 => ⟨p, rfl, q p H' rp ((s1.trans s2).trans s3)⟩⟩
theorem scrsub : FnScope ["self", "other"] ["self", "other"] (defScope sRsub) := ⟨rfl, rfl, rfl, by decide +kernel, rfl, by decide +kernel, by decide +kernel⟩
theorem ok_rsub {f fA fG : Addr} {fd fdA fdG : FuncData} (F : Fun K "__rsub__" "Ratio.__rsub__" sRsub f fd) (MA : BinM K CR "add" fA) (NA : BinI K CR "add") (GA : FnOk P w K mg base CX0 5 fA fdA ["self", "other"] (spBin CR fAdd gMul)) (bA : Binds K fdA ["self", "other"] [])
    (MG : OwnM K CR "__neg__" fG) (GG : FnOk P w K mg base CX0 4 fG fdG ["self"] (spUn CR (fun t => -t))) (bG : Binds K fdG ["self"] []) :
    FnOk P w K mg base CX0 6 f fd ["self", "other"] (spBinI CR fRsub gMul) := by
  refine F.ok scrsub (fun vs H Q E h => ?_) (fun cdv A outer s H vs Q E hr h => ?_)
  · obtain ⟨a, i, t1, b1, rfl, _⟩ := h
    rfl
  · obtain ⟨a, i, t1, b1, rfl, ra, B1, B2, B3, p1, g1, q⟩ := h
    have r4 : Room 4 _ := hr.mono (by decide)
    obtain ⟨da, ha⟩ := id ra
    refine ⟨_, pss_one (ps_ret (pe_op (op_binI (op := .Add) MA NA GA bA hr) (pe_un (un_negO MG GG bG r4) (pv 0)) (pv 1))), ?_⟩
    refine ⟨_, rfl, a, da, _, rfl, ha, a, t1, b1, rfl, ra, B2, p1, fun n H2 rn s2 => ?_⟩
    have gn : Nat.gcd (-t1).natAbs b1.natAbs = 1 := by rw [Int.natAbs_neg]; exact g1
    rw [(n_low p1 gn).1, (n_low p1 gn).2] at rn
    obtain ⟨dn, hn⟩ := id rn
    exact ⟨_, rfl, n, dn, _, i, rfl, rfl, hn, n, .int i, -t1, b1, i, 1, rfl, rn, .inr ⟨rfl, rfl⟩, B1.neg, B2, B3, Bd.of (m := 1) (by decide) (by decide +kernel), p1, by decide, gn, Nat.gcd_one_right _, fun p H' rp s3 => ⟨p, rfl, q p H' rp (s2.trans s3)⟩⟩
theorem scover : FnScope ["self", "other", "divisor"] ["self", "other"] (defScope sOver) := ⟨rfl, rfl, rfl, by decide +kernel, rfl, by decide +kernel, by decide +kernel⟩
theorem ok_over {f fN fO fi : Addr} {fd fdN fdO fdi fdI : FuncData} (F : Fun K "over" "Ratio.over" sOver f fd) (T : RT K mg CR) (DN : Dn K mg "is_number" fN) (GN : FnOk P w K mg base CX0 2 fN fdN ["value"] (spIsNum K CR)) (bN : Binds K fdN ["value"] [])
    (DO : Dn K mg "ratio_of" fO) (GO : FnOk P w K mg base CX0 4 fO fdO ["number"] (spRatioOf CR)) (bO : Binds K fdO ["number"] []) (M : Mk K CR fi) (G : FnOk P w K mg base CX0 2 fi fdi ["self", "top", "bottom"] (spRInit CR)) (bR : Binds K fdi ["self", "top", "bottom"] [])
    (I : IN K mg CI fI) (GI : FnOk P w K mg base CX0 2 fI fdI ["self", "given"] (spI_InvalidNumber K)) (bI : Binds K fdI ["self", "given"] []) :
    FnOk P w K mg base (L2.CX P w) 5 f fd ["self", "other"] (spOver K CR CI) := by
  refine F.okX scover (fun vs H Q E h => ?_) (fun cdv A outer s H vs Q E hr h => ?_)
  · rcases h with ⟨a, y, t1, b1, t2, b2, rfl, _⟩ | ⟨a, y, rfl, _⟩ <;> rfl
  · have r2 : Room 2 _ := hr.mono (by decide)
    have r3 : Room 3 _ := hr.mono (by decide)
    refine ⟨_, pss_cons (ps_if (PW.pt (pw_or (pt_not (pt_val (pe_call GN r2 (by rfl) DN.gl DN.kp bN .nil pass0 (pa_cons (pv 1) pa_nil)))) (pw_or1 (pt_cmpR op_eq (pe_fld (pe_call GO hr (by rfl) DO.gl DO.kp bO .nil pass0 (pa_cons (pv 1) pa_nil)) rfl) pe_int (nomark _)))))
        (pss_one (ps_raise rfl (takes_of rfl rfl rfl rfl) (pmk_oex I.ox I.ini I.ty GI r3 bI .nil pass0 (by rfl) I.gl (pa_cons (pv 1) pa_nil)))) pss_nil)
      (pss_cons (ps_set (i := 2) scover.nd rfl (Or.inl rfl) (pe_call GO hr (by rfl) DO.gl DO.kp bO .nil pass0 (pa_cons (pv 1) pa_nil)))
      (pss_one (ps_ret (pe_make M G r3 (by rfl) T.gl bR .nil pass0 (pa_cons (pe_op op_mulW (pe_fld (pv 0) rfl) (pe_fld (pv 2) rfl)) (pa_cons (pe_op op_mulW (pe_fld (pv 0) rfl) (pe_fld (pv 2) rfl)) pa_nil)))))), ?_⟩
    rcases h with ⟨a, y, t1, b1, t2, b2, rfl, ⟨da, ha⟩, nv, B1, B2, B3, B4, p1, n2, q⟩ | ⟨a, y, rfl, ad, bad, q⟩
    · refine ⟨_, rfl, y, rfl, .inl ⟨t2, b2, nv, _, rfl, iteF ?_⟩⟩
      refine ⟨_, rfl, y, t2, b2, rfl, nv, fun r H1 ⟨dr, hr1⟩ s1 => ?_⟩
      refine ⟨r, CR, _, _, _, rfl, hr1, T.cl, T.nT, rf_top t2 b2, rfl, _, rfl, ?_⟩
      rw [decide_eq_false (fun e => n2 (V.int.inj e) : ¬ (V.int t2) = V.int 0)]
      refine iteF ?_
      refine ⟨_, rfl, y, t2, b2, rfl, nv.same s1, fun r2 H2 ⟨dr2, hr2⟩ s2 => ?_⟩
      have ha2 := s2 _ _ (s1 _ _ ha)
      refine ⟨_, rfl, a, CR, _, _, _, rfl, ha2, T.cl, T.nT, rf_top t1 b1, _, rfl, r2, CR, _, _, _, rfl, hr2, T.cl, T.nB, rf_bot t2 b2, _, _, rfl, rfl, wide_mul B1 B4 (by decide) (by decide) (by decide), _, rfl, a, CR, _, _, _, rfl, ha2, T.cl, T.nB, rf_bot t1 b1, _, rfl, r2, CR, _, _, _, rfl, hr2, T.cl, T.nT, rf_top t2 b2, _, _, rfl, rfl, wide_mul B2 B3 (by decide) (by decide) (by decide), fun x dx nx nd ne => ?_⟩
      have pp : b1 * t2 ≠ 0 := Int.mul_ne_zero (by omega) n2
      exact ⟨x, dx, _, _, rfl, upd_same, pp, (B2.mul B3).le (by decide), fun H' hx bu => ⟨rfl, q x H' ⟨dx, hx⟩ ((s1.trans s2).trans (made_same nx nd bu))⟩⟩
    · rcases bad with nn | ⟨b, nv⟩
      · refine ⟨_, rfl, y, rfl, .inr ⟨nn, _, rfl, iteT ?_⟩⟩
        exact in_made I rfl ad q
      · refine ⟨_, rfl, y, rfl, .inl ⟨0, b, nv, _, rfl, iteF ?_⟩⟩
        refine ⟨_, rfl, y, 0, b, rfl, nv, fun r H1 ⟨dr, hr1⟩ s1 => ?_⟩
        refine ⟨r, CR, _, _, _, rfl, hr1, T.cl, T.nT, rf_top 0 b, rfl, _, rfl, ?_⟩
        rw [decide_eq_true rfl]
        exact iteT (in_made I rfl (ad.same s1) fun d H' s2 hd => q d H' (s1.trans s2) hd)
theorem screq : FnScope ["self", "other"] ["self", "other"] (defScope sREq) := ⟨rfl, rfl, rfl, by decide +kernel, rfl, by decide +kernel, by decide +kernel⟩
theorem dec_int (z y : Int) : decide (V.int z = V.int y) = decide (z = y) := by
  by_cases e : z = y
  · rw [decide_eq_true e, decide_eq_true (by rw [e])]
  · rw [decide_eq_false e, decide_eq_false (fun h => e (V.int.inj h))]
theorem ok_req {f fN : Addr} {fd fdN : FuncData} (F : Fun K "__eq__" "Ratio.__eq__" sREq f fd) (B : Bn mg) (T : RT K mg CR) (DN : Dn K mg "is_integer" fN) (GN : FnOk P w K mg base CX0 1 fN fdN ["value"] (spIsInt K)) (bN : Binds K fdN ["value"] []) : FnOk P w K mg base CX0 2 f fd ["self", "other"] (spREq CR) := by
  refine F.ok screq (fun vs H Q E h => ?_) (fun cdv A outer s H vs Q E hr h => ?_)
  · obtain ⟨a, b, t1, b1, t2, b2, rfl, _⟩ := h
    rfl
  · obtain ⟨a, b, t1, b1, t2, b2, rfl, ra, rb, q⟩ := h
    obtain ⟨da, ha⟩ := id ra
    obtain ⟨db, hb⟩ := id rb
    refine ⟨_, pss_cons (ps_if (pt_val (pe_callB call_isi (by rfl) B.isin (by decide +kernel) (pa_cons (pv 1) (pa_cons (pe_glob (v := .ref CR) (by rfl) T.gl rfl) pa_nil))))
        (pss_one (ps_ret (pe_and (pe_cmpR op_eq (pe_fld (pv 0) rfl) (pe_fld (pv 1) rfl) (nomark _)) (pe_one (pe_cmpR op_eq (pe_fld (pv 0) rfl) (pe_fld (pv 1) rfl) (nomark _)))))) pss_nil)
      (pss_one ps_never), ?_⟩
    refine ⟨_, rfl, _, _, _, _, true, rfl, .own _, rb.ty T, T.kR, true, rfl, iteT ?_⟩
    refine ⟨_, rfl, a, CR, _, _, _, rfl, ha, T.cl, T.nT, rf_top t1 b1, _, rfl, b, CR, _, _, _, rfl, hb, T.cl, T.nT, rf_top t2 b2, rfl, _, rfl, ?_⟩
    show if decide (V.int t1 = V.int t2) = true then _ else _
    rw [dec_int]
    cases h1 : decide (t1 = t2) with
    | false =>
      rw [h1, Bool.false_and] at q
      exact iteF q
    | true =>
      rw [h1, Bool.true_and] at q
      refine iteT ⟨_, rfl, a, CR, _, _, _, rfl, ha, T.cl, T.nB, rf_bot t1 b1, _, rfl, b, CR, _, _, _, rfl, hb, T.cl, T.nB, rf_bot t2 b2, rfl, ?_⟩
      rw [dec_int]
      exact q
end
end K36

set_option Elab.async false
set_option linter.all false
set_option maxRecDepth 100000
set_option maxHeartbeats 4000000
set_option pp.maxSteps 500
namespace K36
open PySem PySem.Spec PyProof.Rows L2 Ux
abbrev sLow : Stmt := top 32
abbrev sPlus : Stmt := top 33
abbrev sCross : Stmt := top 34
abbrev sPair : Stmt := top 35
abbrev sRatio : Stmt := top 36
theorem BagAt.more {H : Hp} {b : Addr} {n m : Nat} (h : BagAt H b n) (l : n ≤ m) : BagAt H b m := by
  obtain ⟨a, ns, p, g, s', c, h1, h2, h3, h4, h5, h6, h7, h8⟩ := h
  exact ⟨a, ns, p, g, s', c, h1, h2, h3, h4, h5, h6, h7, by omega⟩
theorem BagAt.same {H H' : Hp} {b : Addr} {n : Nat} (h : BagAt H b n) (s : Same H H') : BagAt H' b n := by
  obtain ⟨l, ns, p, g, s', c, hb, hl, z⟩ := h
  exact ⟨l, ns, p, g, s', c, s _ _ hb, s _ _ hl, z⟩
theorem BagAt.lst {H : Hp} {b : Addr} {n : Nat} (h : BagAt H b n) : ∃ xs, H b = some (.lst xs) := by
  obtain ⟨l, ns, p, g, s', c, hb, hl, z⟩ := h
  exact ⟨_, hb⟩
theorem small1000 {n : Nat} (h : n ≤ 1000) : n < sizeLine := by
  rw [sizeLine_eq]
  omega
def TupI (H : Hp) (p : Addr) (t b : Int) : Prop := H p = some (.tup [.int t, .int b])
def spLow : Sp := fun vs H Q _ => ∃ t b : Int, vs = [.int t, .int b] ∧ b ≠ 0 ∧ Bd 8000 b ∧ ∀ (p : Addr) (H' : Hp), TupI H' p (nT t b) (nB t b) → Same H H' → Q (.ref p) H'
def spTwo (f g : Int → Int → Int → Int → Int) : Sp := fun vs H Q _ => ∃ (p q : Addr) (t1 b1 t2 b2 : Int), vs = [.ref p, .ref q] ∧ TupI H p t1 b1 ∧ TupI H q t2 b2 ∧ Bd 2000 t1 ∧ Bd 2000 b1 ∧ Bd 2000 t2 ∧ Bd 2000 b2 ∧ 0 < b1 ∧ 0 < b2 ∧
  ∀ (r : Addr) (H' : Hp), TupI H' r (nT (f t1 b1 t2 b2) (g t1 b1 t2 b2)) (nB (f t1 b1 t2 b2) (g t1 b1 t2 b2)) → Same H H' → Q (.ref r) H'
def spPair (CR : Addr) : Sp := fun vs H Q _ => ∃ (r : Addr) (t b : Int), vs = [.ref r] ∧ RatAt CR H r t b ∧ ∀ (p : Addr) (H' : Hp), TupI H' p t b → Same H H' → Q (.ref p) H'
def spMkRatio (CR : Addr) : Sp := fun vs H Q _ => ∃ (p : Addr) (t b : Int), vs = [.ref p] ∧ TupI H p t b ∧ b ≠ 0 ∧ Bd 8000 b ∧ ∀ (r : Addr) (H' : Hp), RatAt CR H' r (nT t b) (nB t b) → Same H H' → Q (.ref r) H'
theorem dp_bls {K : PySem.W.Frag} {H : Hp} : ∀ bs : List Bool, DpAll K H (bs.map V.bl) (bs.map PyData.bool)
  | [] => .nil
  | b :: bs => .cons (.bl b) (dp_bls bs)
section
variable {P : Program} {w : World} {K : PySem.W.Frag} {mg : Str → Option Value} {base : Heap} {CR CI fI : Addr}
theorem scLow : FnScope ["_law_top", "_law_bottom", "_law_one", "_law_other", "_law_sign"] ["_law_top", "_law_bottom"] (defScope sLow) := ⟨rfl, rfl, rfl, by decide +kernel, rfl, by decide +kernel, by decide +kernel⟩
theorem ok_low {f : Addr} {fd : FuncData} (F : Fun K "_law_low" "_law_low" sLow f fd) (B : Bn mg) : FnOk P w K mg base CX0 1 f fd ["_law_top", "_law_bottom"] spLow := by
  refine F.ok scLow (fun vs H Q E h => ?_) (fun cdv A outer s H vs Q E hr h => ?_)
  · obtain ⟨t, b, rfl, _⟩ := h
    rfl
  · obtain ⟨t, b, rfl, b0, bb, q⟩ := h
    refine ⟨_, pss_cons (ps_par (i := 2) (j := 3) rfl scLow.nd rfl rfl (by decide) rfl rfl (pa_cons (pe_callB call_abs (by rfl) B.fabs (by decide +kernel) (pa_cons (pv 0) pa_nil)) (pa_cons (pe_callB call_abs (by rfl) B.fabs (by decide +kernel) (pa_cons (pv 1) pa_nil)) pa_nil)) rfl)
      (pss_cons (ps_while PassesOwn.never (pt_cmpR op_ne (pv 3) pe_int (nomark _)) (pss_one (ps_par (i := 2) (j := 3) rfl scLow.nd rfl rfl (by decide) rfl rfl (pa_cons (pv 3) (pa_cons (pe_op op_mod (pe_callTy call_int1 (by rfl) B.tint (by decide +kernel) (pa_cons (pv 2) pa_nil)) (pv 3)) pa_nil)) rfl)))
      (C8.pss_cut (ps_set (i := 4) scLow.nd rfl (Or.inl rfl) (pe_ifExp (pt_cmpR op_lt (pv 1) pe_int (nomark _)) (pe_un un_neg pe_int) pe_int))
      (pss_one (ps_ret (pe_tup (pa_cons (pe_op op_fdivX (pe_op op_mul (pv 4) (pv 0)) (pv 2)) (pa_cons (pe_op op_fdivX (pe_op op_mul (pv 4) (pv 1)) (pv 2)) pa_nil))))))), ?_⟩
    refine ⟨_, rfl, _, rfl, _, rfl, _, rfl, _, _, rfl, ?_⟩
    have ea : ∀ n : Int, (if n < 0 then -n else n) = ((n.natAbs : Nat) : Int) := fun n => by split <;> omega
    rw [ea, ea]
    refine while_by (fun σ H' => ∃ x y : Nat, σ = [some (.int t), some (.int b), some (.int x), some (.int y), none] ∧ H' = H ∧ Nat.gcd x y = Nat.gcd t.natAbs b.natAbs) (fun σ _ => match σ with | [_, _, _, some (.int y), _] => y.natAbs | _ => 0) ⟨_, _, rfl, rfl, rfl⟩ ?_ ?_
    · rintro σ H' ⟨x, y, rfl, rfl, g⟩
      refine ⟨_, rfl, rfl, _, rfl, ?_⟩
      by_cases z : y = 0
      · subst z
        refine iteF ?_
        rw [Nat.gcd_zero_right] at g
        have g0 : 0 < Nat.gcd t.natAbs b.natAbs := g_pos b0
        have gd : ((x : Int) ≠ 0 ∧ (x : Int).natAbs.log2 < 9000) := by
          refine ⟨by omega, ?_⟩
          have : Bd 8000 (x : Int) := by
            unfold Bd
            rw [Int.natAbs_natCast, g]
            exact Nat.lt_of_le_of_lt (Nat.le_of_dvd (by omega) (Nat.gcd_dvd_right _ _)) bb
          exact Nat.lt_of_lt_of_le (this.log (by decide)) (by decide)
        refine ⟨fun σ H2 => σ = [some (.int t), some (.int b), some (.int (x : Int)), some (.int ((0 : Nat) : Int)), some (.int (sg b))] ∧ H2 = H', ?_, ?_⟩
        · refine ⟨_, rfl, _, _, rfl, rfl, _, rfl, ?_⟩
          by_cases hn : b < 0
          · rw [decide_eq_true hn]
            refine iteT ⟨_, rfl, ?_⟩
            unfold sg
            rw [if_pos hn]
            exact ⟨rfl, rfl⟩
          · rw [decide_eq_false hn]
            refine iteF ?_
            unfold sg
            rw [if_neg hn]
            exact ⟨rfl, rfl⟩
        · rintro σ H2 ⟨rfl, rfl⟩
          have sb : -(2 ^ 64) < sg b ∧ sg b < 2 ^ 64 := by
            unfold sg
            split <;> decide
          refine ⟨_, rfl, _, rfl, _, _, rfl, rfl, .inl sb, _, rfl, _, _, rfl, rfl, gd, ?_⟩
          refine ⟨_, rfl, _, rfl, _, _, rfl, rfl, .inl sb, _, rfl, _, _, rfl, rfl, gd, (by show 2 ≤ sizeLine; decide), fun p hp => ?_⟩
          refine q p _ ?_ (same_upd hp)
          unfold TupI
          rw [upd_same, g]
          show some (HO.tup [V.int ((sg b * t).fdiv ((Nat.gcd t.natAbs b.natAbs : Nat) : Int)), V.int ((sg b * b).fdiv ((Nat.gcd t.natAbs b.natAbs : Nat) : Int))]) = _
          rw [law_nT b0, law_nB b0]
      · have ny : ¬ (V.int (y : Int)) = V.int 0 := fun e => z (by have := V.int.inj e; omega)
        have ey : (!decide (V.int (y : Int) = V.int 0)) = true := by
          rw [decide_eq_false ny]
          rfl
        show if (!decide (V.int (y : Int) = V.int 0)) = true then _ else _
        rw [ey]
        refine iteT ⟨_, rfl, _, rfl, .inl ⟨_, rfl, _, rfl, _, _, rfl, rfl, (by show (0 : Int) < (y : Int); omega), _, _, rfl, ?_⟩⟩
        refine ⟨⟨y, x % y, rfl, rfl, ?_⟩, ?_⟩
        · rw [← g, Nat.gcd_comm x y, Nat.gcd_rec y x, Nat.gcd_comm]
        · have := Nat.mod_lt x (Nat.pos_of_ne_zero z)
          show (((x : Int) % (y : Int)).natAbs) < ((y : Int)).natAbs
          omega
    · rintro σ H' Q1 Q2 hq ⟨x, hx, e1, k, e3, z⟩
      exact ⟨x, hx, e1, k, e3, hq _ _ z⟩
theorem at0 (x y : V) : atI [x, y] ((0 : Nat) : Int) = some x := atI_nat rfl
theorem at1 (x y : V) : atI [x, y] ((1 : Nat) : Int) = some y := atI_nat rfl
theorem scplus : FnScope ["_law_one", "_law_other"] ["_law_one", "_law_other"] (defScope sPlus) := ⟨rfl, rfl, rfl, by decide +kernel, rfl, by decide +kernel, by decide +kernel⟩
theorem ok_plus {f fL : Addr} {fd fdL : FuncData} (F : Fun K "_law_plus" "_law_plus" sPlus f fd) (D : Dn K mg "_law_low" fL) (G : FnOk P w K mg base CX0 1 fL fdL ["_law_top", "_law_bottom"] spLow) (bL : Binds K fdL ["_law_top", "_law_bottom"] []) :
    FnOk P w K mg base CX0 2 f fd ["_law_one", "_law_other"] (spTwo fAdd gMul) := by
  refine F.ok scplus (fun vs H Q E h => ?_) (fun cdv A outer s H vs Q E hr h => ?_)
  · obtain ⟨p, q, t1, b1, t2, b2, rfl, _⟩ := h
    rfl
  · obtain ⟨p, q, t1, b1, t2, b2, rfl, hp, hq, B1, B2, B3, B4, p1, p2, k⟩ := h
    refine ⟨_, pss_one (ps_ret (pe_call G hr (by rfl) D.gl D.kp bL .nil pass0 (pa_cons (pe_op op_add (pe_op op_mulW (pe_ix ix_tup (pv 0) pe_int (fun _ _ => rfl)) (pe_ix ix_tup (pv 1) pe_int (fun _ _ => rfl))) (pe_op op_mulW (pe_ix ix_tup (pv 1) pe_int (fun _ _ => rfl)) (pe_ix ix_tup (pv 0) pe_int (fun _ _ => rfl)))) (pa_cons (pe_op op_mulW (pe_ix ix_tup (pv 0) pe_int (fun _ _ => rfl)) (pe_ix ix_tup (pv 1) pe_int (fun _ _ => rfl))) pa_nil)))), ?_⟩
    have pp : 0 < b1 * b2 := Int.mul_pos p1 p2
    exact ⟨_, rfl, p, _, _, _, rfl, rfl, .of hp, at0 _ _, _, rfl, q, _, _, _, rfl, rfl, .of hq, at1 _ _, _, _, rfl, rfl, wide_mul B1 B4 (by decide) (by decide) (by decide), _, rfl, q, _, _, _, rfl, rfl, .of hq, at0 _ _, _, rfl, p, _, _, _, rfl, rfl, .of hp, at1 _ _, _, _, rfl, rfl, wide_mul B3 B2 (by decide) (by decide) (by decide), _, _, rfl, rfl, _, rfl, p, _, _, _, rfl, rfl, .of hp, at1 _ _, _, rfl, q, _, _, _, rfl, rfl, .of hq, at1 _ _, _, _, rfl, rfl, wide_mul B2 B4 (by decide) (by decide) (by decide), _, _, rfl, by omega, (B2.mul B4).le (by decide), fun r H' hr s => k r H' hr s⟩
theorem sccross : FnScope ["_law_one", "_law_other"] ["_law_one", "_law_other"] (defScope sCross) := ⟨rfl, rfl, rfl, by decide +kernel, rfl, by decide +kernel, by decide +kernel⟩
theorem ok_cross {f fL : Addr} {fd fdL : FuncData} (F : Fun K "_law_cross" "_law_cross" sCross f fd) (D : Dn K mg "_law_low" fL) (G : FnOk P w K mg base CX0 1 fL fdL ["_law_top", "_law_bottom"] spLow) (bL : Binds K fdL ["_law_top", "_law_bottom"] []) :
    FnOk P w K mg base CX0 2 f fd ["_law_one", "_law_other"] (spTwo fMul gMul) := by
  refine F.ok sccross (fun vs H Q E h => ?_) (fun cdv A outer s H vs Q E hr h => ?_)
  · obtain ⟨p, q, t1, b1, t2, b2, rfl, _⟩ := h
    rfl
  · obtain ⟨p, q, t1, b1, t2, b2, rfl, hp, hq, B1, B2, B3, B4, p1, p2, k⟩ := h
    refine ⟨_, pss_one (ps_ret (pe_call G hr (by rfl) D.gl D.kp bL .nil pass0 (pa_cons (pe_op op_mulW (pe_ix ix_tup (pv 0) pe_int (fun _ _ => rfl)) (pe_ix ix_tup (pv 1) pe_int (fun _ _ => rfl))) (pa_cons (pe_op op_mulW (pe_ix ix_tup (pv 0) pe_int (fun _ _ => rfl)) (pe_ix ix_tup (pv 1) pe_int (fun _ _ => rfl))) pa_nil)))), ?_⟩
    have pp : 0 < b1 * b2 := Int.mul_pos p1 p2
    exact ⟨_, rfl, p, _, _, _, rfl, rfl, .of hp, at0 _ _, _, rfl, q, _, _, _, rfl, rfl, .of hq, at0 _ _, _, _, rfl, rfl, wide_mul B1 B3 (by decide) (by decide) (by decide), _, rfl, p, _, _, _, rfl, rfl, .of hp, at1 _ _, _, rfl, q, _, _, _, rfl, rfl, .of hq, at1 _ _, _, _, rfl, rfl, wide_mul B2 B4 (by decide) (by decide) (by decide), _, _, rfl, by omega, (B2.mul B4).le (by decide), fun r H' hr s => k r H' hr s⟩
theorem vIsi : bootBuiltins ("isinstance" : Str) = some (.builtin "isinstance") := by decide +kernel
theorem vInt : bootBuiltins ("int" : Str) = some (.type "int") := by decide +kernel
theorem vBool : bootBuiltins ("bool" : Str) = some (.type "bool") := by decide +kernel
theorem scPair : FnScope ["_law_found", "_law_whole", "_law_part"] ["_law_found"] (defScope sPair) := ⟨rfl, rfl, rfl, by decide +kernel, rfl, by decide +kernel, by decide +kernel⟩
theorem ok_pair {f : Addr} {fd : FuncData} (F : Fun K "_law_pair" "_law_pair" sPair f fd) (B : Bn mg) (T : RT K mg CR) : FnOk P w K mg base CX0 1 f fd ["_law_found"] (spPair CR) := by
  refine F.ok scPair (fun vs H Q E h => ?_) (fun cdv A outer s H vs Q E hr h => ?_)
  · obtain ⟨r, t, b, rfl, _⟩ := h
    rfl
  · obtain ⟨r, t, b, rfl, ra, q⟩ := h
    refine ⟨_, pss_cons (ps_if (pt_not (pt_val (pe_callB call_isi (by rfl) B.isin (by decide +kernel) (pa_cons (pv 0) (pa_cons (pe_glob (v := .ref CR) (by rfl) T.gl rfl) pa_nil))))) (pss_one (ps_ret pe_non)) pss_nil)
      (pss_cons (ps_setLc (i := 1) (own := [("_law_part", 2)]) (g := gName 2) rfl scPair.nd rfl rfl (sw_true rfl rfl rfl rfl) (pi_list (pe_lst (pa_cons (pe_fld (pv 0) rfl) (pa_cons (pe_fld (pv 0) rfl) pa_nil)))) (blkOk_by (own := [("_law_part", 2)]) (N := ["_law_found", "_law_whole", "_law_part"]) (sc := defScope sPair) (by decide +kernel))
          (fun _ _ _ _ _ => pg_name (i := 2) scPair.nd rfl (Or.inl rfl) (hf := Or.inr rfl)) (fun _ _ _ _ _ => pts_nil)
          (fun _ _ _ _ _ => pe_and (pe_callB (id := "isinstance") (r := rIsi K) call_isi rfl B.isin vIsi (pa_cons (pv 2) (pa_cons (pe_bltn (v := .ty "int") rfl B.tint vInt rfl) pa_nil)))
            (pe_one (pe_not (pe_callB (id := "isinstance") (r := rIsi K) call_isi rfl B.isin vIsi (pa_cons (pv 2) (pa_cons (pe_bltn (v := .ty "bool") rfl B.tbool vBool rfl) pa_nil)))))))
      (pss_one (ps_ret (pe_ifExp (pt_cmpR (op_eqD hr.units) (pv 1) (pe_lst (pa_cons pe_bl (pa_cons pe_bl pa_nil))) (nomark _)) (pe_tup (pa_cons (pe_fld (pv 0) rfl) (pa_cons (pe_fld (pv 0) rfl) pa_nil))) pe_non)))), ?_⟩
    obtain ⟨dx, ha⟩ := id ra
    refine ⟨_, rfl, _, _, _, _, true, rfl, .own _, ra.ty T, T.kR, _, rfl, iteF ?_⟩
    refine ⟨_, rfl, r, CR, dx, _, _, rfl, ha, T.cl, T.nT, rf_top t b, _, rfl, r, CR, dx, _, _, rfl, ha, T.cl, T.nB, rf_bot t b, (by show 2 ≤ sizeLine; decide), fun p hp => ?_⟩
    have s1 : Same H (upd H p (.lst [.int t, .int b])) := same_upd hp
    refine ⟨p, rfl, ⟨_, .of upd_same⟩, fun D hD => ?_⟩
    refine lc_list (K := K) (a := p) (xs := [V.int t, V.int b]) (fun i H' => Same (upd H p (.lst [.int t, .int b])) H' ∧ H' D = some (.lst (List.replicate i (V.bl true)))) ⟨same_upd hD, upd_same⟩ (fun i H' _ z => .of (z.1 _ _ upd_same)) ?_ ?_
    · rintro i x H2 hx ⟨s2, d2⟩
      have hx' : ∃ n, x = .int n ∧ i < 2 := by
        match i, hx with
        | 0, hx => exact ⟨t, (Option.some.inj hx).symm, by decide⟩
        | 1, hx => exact ⟨b, (Option.some.inj hx).symm, by decide⟩
      obtain ⟨n, rfl, hi⟩ := hx'
      refine ⟨rfl, ?_⟩
      refine ⟨_, rfl, _, _, _, _, true, rfl, .ty "int", .base (.int _), kit_ty (by decide +kernel), true, rfl, iteT ?_⟩
      refine ⟨_, rfl, _, _, _, _, false, rfl, .ty "bool", .base (.int _), kit_ty (by decide +kernel), _, rfl, _, d2, ?_, fun c o e => ?_, ?_⟩
      · rw [List.length_replicate]
        exact small1000 (by omega)
      · rw [upd_ne (ne_of_none e hD)]
        exact s2 c o e
      · rw [upd_same, List.replicate_succ']
        rfl
    · rintro H2 ⟨s2, d2⟩
      have s3 := s1.trans s2
      refine ⟨_, rfl, (by show 2 ≤ sizeLine; decide), fun p2 hp2 => ?_⟩
      have d3 : upd H2 p2 (.lst [.bl true, .bl true]) D = some (.lst ([true, true].map V.bl)) := (upd_ne (ne_of_none d2 hp2)).trans d2
      refine ⟨_, _, .lst (.of d3) (dp_bls [true, true]), .lst (.of upd_same) (dp_bls [true, true]), rfl, rfl, _, rfl, ?_⟩
      rw [SeqAt.eqv_refl _ rfl]
      have s4 : Same H (upd H2 p2 (.lst [.bl true, .bl true])) := Same.new s3 hp2
      have ha4 := s4 _ _ ha
      refine iteT ⟨_, rfl, r, CR, dx, _, _, rfl, ha4, T.cl, T.nT, rf_top t b, _, rfl, r, CR, dx, _, _, rfl, ha4, T.cl, T.nB, rf_bot t b, (by show 2 ≤ sizeLine; decide), fun p3 hp3 => ?_⟩
      exact q p3 _ upd_same (Same.new s4 hp3)
theorem scRatio : FnScope ["_law_pair_here"] ["_law_pair_here"] (defScope sRatio) := ⟨rfl, rfl, rfl, by decide +kernel, rfl, by decide +kernel, by decide +kernel⟩
theorem ok_ratio {f fN : Addr} {fd fdN : FuncData} (F : Fun K "_law_ratio" "_law_ratio" sRatio f fd) (T : RT K mg CR) (M : Mk K CR fN) (G : FnOk P w K mg base CX0 2 fN fdN ["self", "top", "bottom"] (spRInit CR)) (bN : Binds K fdN ["self", "top", "bottom"] []) :
    FnOk P w K mg base CX0 4 f fd ["_law_pair_here"] (spMkRatio CR) := by
  refine F.ok scRatio (fun vs H Q E h => ?_) (fun cdv A outer s H vs Q E hr h => ?_)
  · obtain ⟨q, t, b, rfl, _⟩ := h
    rfl
  · obtain ⟨p, t, b, rfl, hp, b0, bb, q⟩ := h
    refine ⟨_, pss_one (ps_ret (pe_make M G hr (by rfl) T.gl bN .nil pass0 (pa_cons (pe_ix ix_tup (pv 0) pe_int (fun _ _ => rfl)) (pa_cons (pe_ix ix_tup (pv 0) pe_int (fun _ _ => rfl)) pa_nil)))), ?_⟩
    exact ⟨_, rfl, p, _, _, _, rfl, rfl, .of hp, at0 _ _, _, rfl, p, _, _, _, rfl, rfl, .of hp, at1 _ _, fun x dx nx nd ne => ⟨x, dx, t, b, rfl, upd_same, b0, bb, fun H' hx bu => ⟨rfl, q x H' ⟨dx, hx⟩ (made_same nx nd bu)⟩⟩⟩
end
end K36

set_option Elab.async false
set_option linter.all false
set_option maxRecDepth 100000
set_option maxHeartbeats 4000000
set_option pp.maxSteps 500
namespace K36
open PySem PySem.Spec PyProof.Rows L2 Ux TL
abbrev sIntText : Stmt := top 17
abbrev sRatText : Stmt := top 18
abbrev sRStr : Stmt := inClass (top 19) 13
abbrev sRRepr : Stmt := inClass (top 19) 14
def W10 (n : Int) : Prop := n.natAbs < 10 ^ 10
def ctext (t b : Int) : Str := if b = 1 then toString t else toString t ++ "/" ++ toString b
def spIntText : Sp := fun vs H Q _ => ∃ n : Int, vs = [.int n] ∧ W10 n ∧ ∀ H', Same H H' → Q (.str (toString n)) H'
def spRatText (CR : Addr) : Sp := fun vs H Q _ => ∃ (a : Addr) (t b : Int), vs = [.ref a] ∧ RatAt CR H a t b ∧ W10 t ∧ W10 b ∧ ∀ H', Same H H' → Q (.str (ctext t b)) H'
theorem ofS_app (a b : String) : Str.ofString (a ++ b) = Str.ofString a ++ Str.ofString b := by
  refine ext_tl ?_
  rw [tl_append, Str.ofString_eq_toList, Str.ofString_eq_toList, Str.ofString_eq_toList, tl_mk, tl_mk, tl_mk, String.toList_append, List.map_append]
theorem join_one (x : Str) : Txt.join "" [x] = x := by
  have e0 : Txt.join "" [x] = Str.join "" [x] := StrLaws.glued_eq_join _ _
  rw [e0]
  rfl
theorem join_two (x y : Str) : Txt.join "" [x, y] = x ++ y := by
  have e0 : Txt.join "" [x, y] = Str.join "" [x, y] := StrLaws.glued_eq_join _ _
  rw [e0]
  show x ++ "" ++ y = x ++ y
  refine ext_tl ?_
  have e : tl ("" : Str) = [] := by decide +kernel
  rw [tl_append, tl_append, tl_append, e, List.append_nil]
theorem text_pos (n : Int) (h : 0 ≤ n) : Txt.join "" [(toString (if n < 0 then -n else n) : Str)] = (toString n : Str) := by
  rw [if_neg (by omega), join_one]
theorem text_neg (n : Int) (h : n < 0) : Txt.join "" [("-" : Str), (toString (if n < 0 then -n else n) : Str)] = (toString n : Str) := by
  rw [if_pos h, join_two]
  obtain ⟨k, rfl⟩ : ∃ k : Nat, n = Int.negSucc k := by
    cases n with
    | ofNat n => exact absurd h (by simp)
    | negSucc k => exact ⟨k, rfl⟩
  show Str.ofString "-" ++ Str.ofString (toString (-(Int.negSucc k))) = Str.ofString (toString (Int.negSucc k))
  have e0 : toString (Int.negSucc k) = "-" ++ toString (((k + 1 : Nat)) : Int) := rfl
  rw [e0, ofS_app]
  rfl
theorem text_len {n : Int} (h : W10 n) : (toString n : Str).length ≤ 12 := by
  show (Str.ofString (toString n)).length ≤ 12
  have q := int_text_length_le10 (a := n) (k := 10) (by decide) h
  rw [PySem.ofString_length]
  omega
theorem log2_w {n : Int} (h : W10 n) : n.natAbs.log2 < 1920 := by
  unfold W10 at h
  by_cases z : n.natAbs = 0
  · rw [z]
    decide
  · have q := Nat.log2_self_le z
    have : n.natAbs.log2 < 40 := by
      refine Nat.lt_of_not_le fun c => ?_
      have q2 : 2 ^ 40 ≤ 2 ^ n.natAbs.log2 := Nat.pow_le_pow_right (by decide) c
      have q3 : (10 : Nat) ^ 10 < 2 ^ 40 := by decide
      omega
    omega
theorem app_len {x y : Str} {m n : Nat} (h : x.length ≤ m) (k : y.length ≤ n) : (x ++ y).length ≤ m + n := by
  rw [PySem.Str.length_append]
  omega
theorem fit2 {n m : Nat} (h : n ≤ m) (k : m ≤ 100000) : n ≤ sizeLine := by
  rw [sizeLine_eq]
  omega
theorem ctext_len {t b : Int} (h : W10 t) (k : W10 b) : (ctext t b).length ≤ 30 := by
  unfold ctext
  split
  · exact Nat.le_trans (text_len h) (by decide)
  · exact Nat.le_trans (app_len (app_len (text_len h) (show (Str.ofString "/").length ≤ 1 by decide)) (text_len k)) (by decide)
theorem empty_app (x : Str) : Str.empty ++ x = x := by
  show Str.mk (#[] ++ x.cps) = x
  rw [Array.empty_append]
section
variable {P : Program} {w : World} {K : PySem.W.Frag} {mg : Str → Option Value} {base : Heap} {CR : Addr}
theorem scIntText : FnScope ["number", "pieces", "rest", "low"] ["number"] (defScope sIntText) := ⟨rfl, rfl, rfl, by decide +kernel, rfl, by decide +kernel, by decide +kernel⟩
theorem ok_intText {f : Addr} {fd : FuncData} (F : Fun K "integer_text" "integer_text" sIntText f fd) (B : Bn mg) (cb : ∃ t, mg "CHUNK_BASE" = some (.int 1000000000000000000000000000000000000000000000000000000000000 t)) : FnOk P w K mg base CX0 1 f fd ["number"] spIntText := by
  refine F.ok scIntText (fun vs H Q E h => ?_) (fun cdv A outer s H vs Q E hr h => ?_)
  · obtain ⟨n, rfl, _⟩ := h
    rfl
  · obtain ⟨n, rfl, hn, q⟩ := h
    obtain ⟨ct, cb⟩ := cb
    refine ⟨_, pss_cons (ps_set (i := 1) scIntText.nd rfl (Or.inl rfl) (pe_lst pa_nil))
      (pss_cons (ps_set (i := 2) scIntText.nd rfl (Or.inl rfl) (pe_callB call_abs (by rfl) B.fabs (by decide +kernel) (pa_cons (pv 0) pa_nil)))
      (pss_cons (ps_while PassesOwn.never (pt_cmpR op_ge (pv 2) (pe_glob (v := .int 1000000000000000000000000000000000000000000000000000000000000) (by rfl) cb ⟨_, rfl⟩) (nomark _)) pss_never)
      (pss_cons (ps_expr (pe_bm PySem.F.plainAttrs_list PySem.F.slot_list_append PySem.F.type_list_append mt_append (pv 1) (pa_cons (pe_callTy call_str_int (by rfl) B.tstr (by decide +kernel) (pa_cons (pv 2) pa_nil)) pa_nil)))
      (pss_cons (ps_if (pt_cmpR op_lt (pv 0) pe_int (nomark _)) (pss_one (ps_expr (pe_bm PySem.F.plainAttrs_list PySem.F.slot_list_append PySem.F.type_list_append mt_append (pv 1) (pa_cons pe_str pa_nil)))) pss_nil)
      (pss_one (ps_ret (pe_join pe_str (pe_revL (pv 1))))))))), ?_⟩
    refine ⟨(by show 0 ≤ sizeLine; decide), fun p hp => ?_⟩
    refine ⟨_, rfl, _, rfl, ?_⟩
    refine while_by (fun σ H' => σ = [some (.int n), some (.ref p), some (.int (if n < 0 then -n else n)), none] ∧ H' = upd H p (.lst [])) (fun _ _ => 0) ⟨rfl, rfl⟩ ?_ ?_
    · rintro σ H' ⟨rfl, rfl⟩
      refine ⟨_, rfl, _, _, rfl, rfl, _, rfl, ?_⟩
      have nb : ¬ (1000000000000000000000000000000000000000000000000000000000000 : Int) ≤ (if n < 0 then -n else n) := by
        have w10 := hn
        unfold W10 at w10
        have e10 : (10 : Nat) ^ 10 = 10000000000 := by decide
        rw [e10] at w10
        split <;> omega
      rw [decide_eq_false nb]
      refine iteF ?_
      have hp1 : upd H p (.lst []) p = some (.lst []) := upd_same
      have wab : W10 (if n < 0 then -n else n) := by
        unfold W10 at hn ⊢
        split <;> omega
      refine ⟨_, rfl, .inl ⟨rfl, _, SqL.of hp1⟩, _, rfl, _, rfl, log2_w wab, p, _, _, rfl, rfl, hp1, (by show 0 < sizeLine; decide), ?_⟩
      have hp2 : upd (upd H p (.lst [])) p (.lst ([] ++ [V.str (toString (if n < 0 then -n else n))])) p = some (.lst [V.str (toString (if n < 0 then -n else n))]) := upd_same
      refine ⟨_, rfl, _, _, rfl, rfl, _, rfl, ?_⟩
      have sm : ∀ o, Same H (upd (upd H p (.lst [])) p o) := fun o => by
        rw [upd_upd]
        exact same_upd hp
      have tl := text_len wab
      by_cases neg : n < 0
      · rw [decide_eq_true neg]
        refine iteT ⟨_, rfl, .inl ⟨rfl, _, SqL.of hp2⟩, p, _, _, rfl, rfl, hp2, (by show 1 < sizeLine; decide), ?_⟩
        refine ⟨⟨_, rfl⟩, _, rfl, p, _, rfl, .of upd_same, fun p2 hp3 => ?_⟩
        refine ⟨_, p2, [("-" : Str), (toString (if n < 0 then -n else n) : Str)], rfl, rfl, .inl (.of upd_same), ?_, ?_⟩
        · show ([("-" : Str).length, (toString (if n < 0 then -n else n) : Str).length]).sum + 2 * ("" : Str).length ≤ 16777216
          have e1 : ("-" : Str).length = 1 := by decide
          have e2 : ("" : Str).length = 0 := by decide
          simp only [List.sum_cons, List.sum_nil, e1, e2]
          omega
        · rw [text_neg n neg]
          refine q _ fun c o e => ?_
          have nc := ne_of_none e hp
          have e1 : (upd (upd (upd H p (.lst [])) p (.lst ([] ++ [V.str (toString (if n < 0 then -n else n))]))) p (.lst ([V.str (toString (if n < 0 then -n else n))] ++ [V.str "-"]))) c = some o := by
            rw [upd_ne nc, upd_ne nc, upd_ne nc]
            exact e
          rw [upd_ne (ne_of_none e1 hp3)]
          exact e1
      · rw [decide_eq_false neg]
        refine iteF ?_
        refine ⟨⟨_, rfl⟩, _, rfl, p, _, rfl, .of hp2, fun p2 hp3 => ?_⟩
        refine ⟨_, p2, [(toString (if n < 0 then -n else n) : Str)], rfl, rfl, .inl (.of upd_same), ?_, ?_⟩
        · show ([(toString (if n < 0 then -n else n) : Str).length]).sum + 1 * ("" : Str).length ≤ 16777216
          have e2 : ("" : Str).length = 0 := by decide
          simp only [List.sum_cons, List.sum_nil, e2]
          omega
        · rw [text_pos n (by omega)]
          refine q _ fun c o e => ?_
          have nc := ne_of_none e hp
          have e1 : (upd (upd H p (.lst [])) p (.lst ([] ++ [V.str (toString (if n < 0 then -n else n))]))) c = some o := by
            rw [upd_ne nc, upd_ne nc]
            exact e
          rw [upd_ne (ne_of_none e1 hp3)]
          exact e1
    · rintro σ H' Q1 Q2 hq ⟨x, hx, i, j, e1, e2, k, e3, z⟩
      exact ⟨x, hx, i, j, e1, e2, k, e3, hq _ _ z⟩
theorem scRatText : FnScope ["ratio"] ["ratio"] (defScope sRatText) := ⟨rfl, rfl, rfl, by decide +kernel, rfl, by decide +kernel, by decide +kernel⟩
theorem ok_ratText {f fI : Addr} {fd fdI : FuncData} (F : Fun K "ratio_text" "ratio_text" sRatText f fd) (T : RT K mg CR) (D : Dn K mg "integer_text" fI) (G : FnOk P w K mg base CX0 1 fI fdI ["number"] spIntText) (bI : Binds K fdI ["number"] []) : FnOk P w K mg base CX0 2 f fd ["ratio"] (spRatText CR) := by
  refine F.ok scRatText (fun vs H Q E h => ?_) (fun cdv A outer s H vs Q E hr h => ?_)
  · obtain ⟨a, t, b, rfl, _⟩ := h
    rfl
  · obtain ⟨a, t, b, rfl, ra, wt, wb, q⟩ := h
    refine ⟨_, pss_cons (ps_if (pt_cmpR op_eq (pe_fld (pv 0) rfl) pe_int (nomark _)) (pss_one (ps_ret (pe_call G hr (by rfl) D.gl D.kp bI .nil pass0 (pa_cons (pe_fld (pv 0) rfl) pa_nil)))) pss_nil)
      (pss_one (ps_ret (pe_joined (PJ.cons (pe_fmt (pe_call G hr (by rfl) D.gl D.kp bI .nil pass0 (pa_cons (pe_fld (pv 0) rfl) pa_nil))) (PJ.cons pe_str (PJ.cons (pe_fmt (pe_call G hr (by rfl) D.gl D.kp bI .nil pass0 (pa_cons (pe_fld (pv 0) rfl) pa_nil))) PJ.nil)))))), ?_⟩
    obtain ⟨dx, ha⟩ := id ra
    refine ⟨_, rfl, a, CR, dx, _, _, rfl, ha, T.cl, T.nB, rf_bot t b, rfl, _, rfl, ?_⟩
    by_cases e1 : (V.int b) = V.int 1
    · rw [decide_eq_true e1]
      have eb : b = 1 := V.int.inj e1
      refine iteT ⟨_, rfl, a, CR, dx, _, _, rfl, ha, T.cl, T.nT, rf_top t b, t, rfl, wt, fun H1 s1 => ?_⟩
      have z := q H1 s1
      unfold ctext at z
      rw [if_pos eb] at z
      exact z
    · rw [decide_eq_false e1]
      have nb : ¬ b = 1 := fun z => e1 (by rw [z])
      refine iteF ⟨_, rfl, a, CR, dx, _, _, rfl, ha, T.cl, T.nT, rf_top t b, t, rfl, wt, fun H1 s1 => .inl ⟨_, rfl, fit2 (text_len wt) (by decide), _, rfl, ?_, ?_⟩⟩
      · rw [empty_app]
        exact fit2 (text_len wt) (by decide)
      · rw [empty_app]
        refine ⟨_, rfl, fit2 (app_len (text_len wt) (show (Str.ofString "/").length ≤ 1 by decide)) (by decide), ?_⟩
        refine ⟨_, rfl, a, CR, dx, _, _, rfl, s1 _ _ ha, T.cl, T.nB, rf_bot t b, b, rfl, wb, fun H2 s2 => .inl ⟨_, rfl, fit2 (text_len wb) (by decide), _, rfl, ?_, ?_⟩⟩
        · exact fit2 (app_len (app_len (text_len wt) (show (Str.ofString "/").length ≤ 1 by decide)) (text_len (n := b) wb)) (by decide)
        · have z := q H2 (s1.trans s2)
          unfold ctext at z
          rw [if_neg nb] at z
          exact z
theorem scRStr : FnScope ["self"] ["self"] (defScope sRStr) := ⟨rfl, rfl, rfl, by decide +kernel, rfl, by decide +kernel, by decide +kernel⟩
theorem ok_rstr {f fI : Addr} {fd fdI : FuncData} (F : Fun K "__str__" "Ratio.__str__" sRStr f fd) (D : Dn K mg "ratio_text" fI) (G : FnOk P w K mg base CX0 2 fI fdI ["ratio"] (spRatText CR)) (bI : Binds K fdI ["ratio"] []) : FnOk P w K mg base CX0 3 f fd ["self"] (spRatText CR) := by
  refine F.ok scRStr (fun vs H Q E h => ?_) (fun cdv A outer s H vs Q E hr h => ?_)
  · obtain ⟨a, t, b, rfl, _⟩ := h
    rfl
  · obtain ⟨a, t, b, rfl, ra, wt, wb, q⟩ := h
    refine ⟨_, pss_one (ps_ret (pe_joined1 (pe_fmt (pe_call G hr (by rfl) D.gl D.kp bI .nil pass0 (pa_cons (pv 0) pa_nil))))), ?_⟩
    exact ⟨_, rfl, a, t, b, rfl, ra, wt, wb, fun H1 s1 => .inl ⟨_, rfl, fit2 (ctext_len wt wb) (by decide), q H1 s1⟩⟩
theorem scRRepr : FnScope ["self"] ["self"] (defScope sRRepr) := ⟨rfl, rfl, rfl, by decide +kernel, rfl, by decide +kernel, by decide +kernel⟩
def spRRepr (CR : Addr) : Sp := fun vs H Q _ => ∃ (a : Addr) (t b : Int), vs = [.ref a] ∧ RatAt CR H a t b ∧ W10 t ∧ W10 b ∧ ∀ H', Same H H' → Q (.str ("Ratio(" ++ ctext t b ++ ")")) H'
theorem ok_rrepr {f fS : Addr} {fd fdS : FuncData} (F : Fun K "__repr__" "Ratio.__repr__" sRRepr f fd) (M : OwnM K CR "__str__" fS) (N : FmO K CR) (G : FnOk P w K mg base CX0 3 fS fdS ["self"] (spRatText CR)) (bS : Binds K fdS ["self"] []) : FnOk P w K mg base CX0 5 f fd ["self"] (spRRepr CR) := by
  refine F.ok scRRepr (fun vs H Q E h => ?_) (fun cdv A outer s H vs Q E hr h => ?_)
  · obtain ⟨a, t, b, rfl, _⟩ := h
    rfl
  · obtain ⟨a, t, b, rfl, ra, wt, wb, q⟩ := h
    obtain ⟨dx, ha⟩ := id ra
    refine ⟨_, pss_one (ps_ret (pe_joined (PJ.cons pe_str (PJ.cons (pe_fmtO (X := Cx.nox _) M N G bS hr (pv 0)) (PJ.cons pe_str PJ.nil))))), ?_⟩
    have l1 : (Str.ofString "Ratio(").length ≤ 6 := by decide
    have l2 : (Str.ofString ")").length ≤ 1 := by decide
    have l0 : Str.empty.length ≤ 0 := by decide
    have lc := ctext_len wt wb
    refine ⟨_, rfl, fit2 (app_len l0 l1) (by decide), _, rfl, a, dx, _, rfl, ha, a, t, b, rfl, ra, wt, wb, fun H1 s1 => ⟨_, rfl, _, rfl, fit2 (app_len (app_len l0 l1) lc) (by decide), _, rfl, fit2 (app_len (app_len (app_len l0 l1) lc) l2) (by decide), ?_⟩⟩
    rw [empty_app]
    exact q H1 s1
end
abbrev sPairText : Stmt := top 37
def spPairText : Sp := fun vs H Q _ => ∃ (q : Addr) (t b : Int), vs = [.ref q] ∧ TupI H q t b ∧ W10 t ∧ W10 b ∧ Q (.str (ctext t b)) H
section
variable {P : Program} {w : World} {K : PySem.W.Frag} {mg : Str → Option Value} {base : Heap} {CR CI fI : Addr}
theorem scPairText : FnScope ["_law_pair_here"] ["_law_pair_here"] (defScope sPairText) := ⟨rfl, rfl, rfl, by decide +kernel, rfl, by decide +kernel, by decide +kernel⟩
theorem ok_pairText {f : Addr} {fd : FuncData} (F : Fun K "_law_pair_text" "_law_pair_text" sPairText f fd) (B : Bn mg) : FnOk P w K mg base CX0 1 f fd ["_law_pair_here"] spPairText := by
  refine F.ok scPairText (fun vs H Q E h => ?_) (fun cdv A outer s H vs Q E hr h => ?_)
  · obtain ⟨q, t, b, rfl, _⟩ := h
    rfl
  · obtain ⟨q0, t, b, rfl, pa, wt, wb, q⟩ := h
    refine ⟨_, pss_one (ps_ret (pe_ifExp (pt_cmpR op_eq (pe_ix ix_tup (pv 0) pe_int (fun _ _ => rfl)) pe_int (nomark _)) (pe_callTy call_str_int (by rfl) B.tstr (by decide +kernel) (pa_cons (pe_ix ix_tup (pv 0) pe_int (fun _ _ => rfl)) pa_nil))
      (pe_op op_add_str (pe_op op_add_str (pe_callTy call_str_int (by rfl) B.tstr (by decide +kernel) (pa_cons (pe_ix ix_tup (pv 0) pe_int (fun _ _ => rfl)) pa_nil)) pe_str) (pe_callTy call_str_int (by rfl) B.tstr (by decide +kernel) (pa_cons (pe_ix ix_tup (pv 0) pe_int (fun _ _ => rfl)) pa_nil))))), ?_⟩
    refine ⟨_, rfl, q0, _, 1, _, rfl, rfl, .of pa, rfl, rfl, _, rfl, ?_⟩
    unfold ctext at q
    by_cases e : b = 1
    · rw [if_pos e] at q
      rw [decide_eq_true (show V.int b = V.int 1 by rw [e])]
      exact iteT ⟨_, rfl, q0, _, 0, _, rfl, rfl, .of pa, rfl, _, rfl, log2_w wt, q⟩
    · rw [if_neg e] at q
      rw [decide_eq_false (fun z => e (V.int.inj z) : ¬ V.int b = V.int 1)]
      refine iteF ⟨_, rfl, q0, _, 0, _, rfl, rfl, .of pa, rfl, _, rfl, log2_w wt, _, _, rfl, rfl, ?_, _, rfl, q0, _, 1, _, rfl, rfl, .of pa, rfl, _, rfl, log2_w wb, _, _, rfl, rfl, ?_, q⟩
      · have := text_len wt
        exact fit2 (m := 20) (by show _ + 1 ≤ 20; omega) (by decide)
      · have h1 := text_len wt
        have h2 := text_len (n := b) wb
        have h3 : ((toString t : Str) ++ ("/" : Str)).length = (toString t : Str).length + 1 := PySem.Str.length_append _ _
        rw [h3]
        exact fit2 (m := 40) (by omega) (by decide)
end
end K36

set_option Elab.async false
set_option linter.all false
set_option maxRecDepth 100000
set_option maxHeartbeats 1000000
namespace K36
open PySem PySem.Spec PyProof.Rows L2 Ux
/-! ### fractions in lowest terms, as pairs -/
abbrev PQ := Int × Int
def pl (p q : PQ) : PQ := (nT (p.1 * q.2 + q.1 * p.2) (p.2 * q.2), nB (p.1 * q.2 + q.1 * p.2) (p.2 * q.2))
def cr (p q : PQ) : PQ := (nT (p.1 * q.1) (p.2 * q.2), nB (p.1 * q.1) (p.2 * q.2))
def zz : PQ := (0, 1)
structure Ok (n : Nat) (p : PQ) : Prop where
  pos : 0 < p.2
  g : Nat.gcd p.1.natAbs p.2.natAbs = 1
  t : Bd n p.1
  b : Bd n p.2
theorem Ok.le {n m : Nat} {p : PQ} (h : Ok n p) (l : n ≤ m) : Ok m p := ⟨h.pos, h.g, h.t.le l, h.b.le l⟩
theorem Ok.low {n : Nat} {p : PQ} (h : Ok n p) : nT p.1 p.2 = p.1 ∧ nB p.1 p.2 = p.2 := n_low h.pos h.g
theorem Ok.lowP {n : Nat} {p : PQ} (h : Ok n p) : ((nT p.1 p.2, nB p.1 p.2) : PQ) = p := by rw [h.low.1, h.low.2]
theorem Ok.ne {n : Nat} {p : PQ} (h : Ok n p) : p.2 ≠ 0 := by have := h.pos; omega
theorem ok_n {n : Nat} {t b : Int} (hb : 0 < b) (k1 : Bd n t) (k2 : Bd n b) : Ok n (nT t b, nB t b) :=
  have z : b ≠ 0 := by omega
  ⟨nB_pos z, n_cop z, Nat.lt_of_le_of_lt (n_abs z).1 k1, Nat.lt_of_le_of_lt (n_abs z).2 k2⟩
theorem Ok.pl {n m : Nat} {p q : PQ} (h : Ok n p) (k : Ok m q) : Ok (n + m + 1) (pl p q) :=
  ok_n (Int.mul_pos h.pos k.pos) (by
    have h1 := h.t.mul k.b
    have h2 : Bd (n + m) (q.1 * p.2) := by rw [Nat.add_comm]; exact k.t.mul h.b
    exact h1.add h2) (Bd.le (n := n + m) (h.b.mul k.b) (by omega))
theorem Ok.cr {n m : Nat} {p q : PQ} (h : Ok n p) (k : Ok m q) : Ok (n + m) (cr p q) := ok_n (Int.mul_pos h.pos k.pos) (h.t.mul k.t) (h.b.mul k.b)
theorem cg_scale {t b k : Int} (hk : 0 < k) : cg (t * k) (b * k) = cg t b * k := by
  unfold cg
  have e : ((Nat.gcd (t * k).natAbs (b * k).natAbs : Nat) : Int) = ((Nat.gcd t.natAbs b.natAbs : Nat) : Int) * k := by
    rw [Int.natAbs_mul, Int.natAbs_mul, Nat.gcd_mul_right, Int.natCast_mul, Int.natAbs_of_nonneg (Int.le_of_lt hk)]
  rw [e]
  by_cases h : b < 0
  · rw [if_pos h, if_pos (Int.mul_neg_of_neg_of_pos h hk), Int.neg_mul]
  · rw [if_neg h, if_neg (Int.not_lt.mpr (Int.mul_nonneg (Int.not_lt.mp h) (Int.le_of_lt hk)))]
theorem n_scale {t b k : Int} (hk : 0 < k) : nT (t * k) (b * k) = nT t b ∧ nB (t * k) (b * k) = nB t b := by
  unfold nT nB
  rw [cg_scale hk]
  refine ⟨?_, ?_⟩
  · rw [Int.mul_comm t k, Int.mul_comm (cg t b) k]
    exact Int.mul_fdiv_mul_of_pos _ _ hk
  · rw [Int.mul_comm b k, Int.mul_comm (cg t b) k]
    exact Int.mul_fdiv_mul_of_pos _ _ hk
/-- equal fractions have the same lowest terms -/
theorem n_eq {t b t2 b2 : Int} (hb : 0 < b) (hb2 : 0 < b2) (e : t * b2 = t2 * b) : nT t b = nT t2 b2 ∧ nB t b = nB t2 b2 := by
  have h1 := n_scale (t := t) (b := b) hb2
  have h2 := n_scale (t := t2) (b := b2) hb
  rw [e, Int.mul_comm b b2] at h1
  exact ⟨h1.1.symm.trans h2.1, h1.2.symm.trans h2.2⟩
theorem n_zero {b : Int} (hb : 0 < b) : nT 0 b = 0 ∧ nB 0 b = 1 := by
  have h := n_eq (t := 0) (b := b) (t2 := 0) (b2 := 1) hb (by decide) (by rw [Int.zero_mul, Int.zero_mul])
  exact ⟨h.1.trans (n_one 0).1, h.2.trans (n_one 0).2⟩
/-- the lowest terms are the same fraction -/
theorem n_cross {t b : Int} (hb : 0 < b) : nT t b * b = t * nB t b := by
  have z : b ≠ 0 := by omega
  obtain ⟨k, l, e1, e2⟩ := parts t b
  have h1 := fdiv_cg (t := t) (b := b) (x := t) z e1
  have h2 := fdiv_cg (t := t) (b := b) (x := b) z e2
  unfold nT nB
  rw [h1, h2]
  generalize hg : ((Nat.gcd t.natAbs b.natAbs : Nat) : Int) = g at *
  rw [e2]
  show sg (g * l) * k * (g * l) = t * (sg (g * l) * l)
  rw [e1]
  simp only [Int.mul_assoc, Int.mul_left_comm, Int.mul_comm]
theorem cr_zero {n : Nat} {q : PQ} (k : Ok n q) : cr zz q = zz := by
  unfold cr zz
  have h := n_zero (b := 1 * q.2) (by have := k.pos; omega)
  rw [Int.zero_mul, h.1, h.2]
theorem zero_cr {n : Nat} {q : PQ} (k : Ok n q) : cr q zz = zz := by
  unfold cr zz
  have h := n_zero (b := q.2 * 1) (by have := k.pos; omega)
  rw [Int.mul_zero, h.1, h.2]
theorem pl_zero {n : Nat} {q : PQ} (k : Ok n q) : pl q zz = q := by
  unfold pl zz
  show ((nT (q.1 * 1 + 0 * q.2) (q.2 * 1), nB (q.1 * 1 + 0 * q.2) (q.2 * 1)) : PQ) = q
  rw [Int.mul_one, Int.mul_one, Int.zero_mul, Int.add_zero]
  exact k.lowP
theorem zero_pl {n : Nat} {q : PQ} (k : Ok n q) : pl zz q = q := by
  unfold pl zz
  show ((nT (0 * q.2 + q.1 * 1) (1 * q.2), nB (0 * q.2 + q.1 * 1) (1 * q.2)) : PQ) = q
  rw [Int.mul_one, Int.one_mul, Int.zero_mul, Int.zero_add]
  exact k.lowP
def ng (q : PQ) : PQ := (-q.1, q.2)
theorem Ok.ng {n : Nat} {p : PQ} (h : Ok n p) : Ok n (ng p) := ⟨h.pos, by show Nat.gcd (-p.1).natAbs _ = 1; rw [Int.natAbs_neg]; exact h.g, h.t.neg, h.b⟩
theorem cr_ng {n : Nat} {q : PQ} (k : Ok n q) : cr (-1, 1) q = ng q := by
  unfold cr
  show ((nT (-1 * q.1) (1 * q.2), nB (-1 * q.1) (1 * q.2)) : PQ) = ng q
  rw [Int.one_mul, Int.neg_one_mul]
  exact k.ng.lowP
theorem pl_ng {n : Nat} {q : PQ} (k : Ok n q) : pl q (ng q) = zz := by
  unfold pl
  show ((nT (q.1 * q.2 + -q.1 * q.2) (q.2 * q.2), nB (q.1 * q.2 + -q.1 * q.2) (q.2 * q.2)) : PQ) = zz
  have e : q.1 * q.2 + -q.1 * q.2 = 0 := by rw [Int.neg_mul]; omega
  have h := n_zero (b := q.2 * q.2) (Int.mul_pos k.pos k.pos)
  rw [e, h.1, h.2]
  rfl
theorem ok_zz : Ok 1 zz := ⟨by decide, by decide, by unfold Bd; decide, by unfold Bd; decide⟩
/-- q / m, in lowest terms -/
def dv (q : PQ) (m : Int) : PQ := (nT q.1 (q.2 * m), nB q.1 (q.2 * m))
/-- q * m -/
def ml (q : PQ) (m : Int) : PQ := (nT (q.1 * m) q.2, nB (q.1 * m) q.2)
theorem ml_dv {n : Nat} {q : PQ} (k : Ok n q) {m : Int} (hm : 0 < m) : ml (dv q m) m = q := by
  have hb : 0 < q.2 * m := Int.mul_pos k.pos hm
  have z : q.2 * m ≠ 0 := by omega
  have h := n_cross (t := q.1) (b := q.2 * m) hb
  have hB := nB_pos (t := q.1) z
  have e := n_eq (t := nT q.1 (q.2 * m) * m) (b := nB q.1 (q.2 * m)) (t2 := q.1) (b2 := q.2) hB k.pos (by rw [← h, Int.mul_assoc, Int.mul_comm m])
  unfold ml dv
  show ((nT (nT q.1 (q.2 * m) * m) (nB q.1 (q.2 * m)), nB (nT q.1 (q.2 * m) * m) (nB q.1 (q.2 * m))) : PQ) = q
  rw [e.1, e.2]
  exact k.lowP
theorem dv_ne {n : Nat} {q : PQ} (k : Ok n q) {m : Int} (hm : 0 < m) (h : q.1 ≠ 0) : (dv q m).1 ≠ 0 := fun z => by
  have hb : 0 < q.2 * m := Int.mul_pos k.pos hm
  have h2 := n_cross (t := q.1) (b := q.2 * m) hb
  have z1 : nT q.1 (q.2 * m) = 0 := z
  have hB := nB_pos (t := q.1) (b := q.2 * m) (by omega)
  rw [z1, Int.zero_mul] at h2
  rcases Int.mul_eq_zero.mp h2.symm with c | c
  · exact h c
  · omega
end K36

set_option Elab.async false
set_option linter.all false
set_option maxRecDepth 100000
set_option maxHeartbeats 1000000
namespace K36
open PySem PySem.Spec PyProof.Rows L2 Ux
/-! ### lists of fractions: values, slopes, integrals -/
def hor (x : PQ) : List PQ → PQ
  | [] => zz
  | w :: ws => pl (cr (hor x ws) x) w
def slp (ps : List PQ) : List PQ := (ps.mapIdx fun k w => ml w (k : Nat)).tail
def dvs (ps : List PQ) : List PQ := ps.mapIdx fun k w => dv w ((k : Nat) + 1)
def itg (ps : List PQ) : List PQ := zz :: dvs ps
def Zs (ps qs : List PQ) : Prop := ∃ z, ps = qs ++ List.replicate z zz
def Oks (n : Nat) (ps : List PQ) : Prop := ∀ p ∈ ps, Ok n p
theorem Oks.le {n m : Nat} {ps : List PQ} (h : Oks n ps) (l : n ≤ m) : Oks m ps := fun p hp => (h p hp).le l
theorem hor_ok {n m : Nat} {x : PQ} (hx : Ok m x) : ∀ {ps : List PQ}, Oks n ps → Ok (ps.length * (n + m + 1) + 1) (hor x ps)
  | [], _ => Ok.le ok_zz (by show 1 ≤ 0 * _ + 1; omega)
  | w :: ws, h => by
    have h1 := hor_ok hx (ps := ws) fun p hp => h p (List.mem_cons_of_mem _ hp)
    exact ((h1.cr hx).pl (h w List.mem_cons_self)).le (by simp only [List.length_cons, Nat.add_mul]; omega)
theorem ml_zz (k : Int) : ml zz k = zz := by
  unfold ml zz
  have h := n_zero (b := 1) (by decide)
  rw [Int.zero_mul, h.1, h.2]
theorem dv_zz {k : Int} (hk : 0 < k) : dv zz k = zz := by
  unfold dv zz
  have h := n_zero (b := 1 * k) (by omega)
  show ((nT 0 (1 * k), nB 0 (1 * k)) : PQ) = (0, 1)
  rw [h.1, h.2]
theorem hor_zs {m : Nat} {x : PQ} (hx : Ok m x) : ∀ z, hor x (List.replicate z zz) = zz
  | 0 => rfl
  | z + 1 => by
    show pl (cr (hor x (List.replicate z zz)) x) zz = zz
    rw [hor_zs hx z, cr_zero hx, pl_zero ok_zz]
theorem hor_Z {m : Nat} {x : PQ} (hx : Ok m x) {ps qs : List PQ} (h : Zs ps qs) : hor x ps = hor x qs := by
  obtain ⟨z, rfl⟩ := h
  induction qs with
  | nil => exact hor_zs hx z
  | cons w ws ih =>
    show pl (cr (hor x (ws ++ List.replicate z zz)) x) w = pl (cr (hor x ws) x) w
    rw [ih]
theorem mapI_zs (f : Nat → PQ → PQ) (hf : ∀ k, f k zz = zz) (z : Nat) : (List.replicate z zz).mapIdx f = List.replicate z zz := by
  refine List.ext_getElem? fun i => ?_
  rw [List.getElem?_mapIdx, List.getElem?_replicate]
  split
  · exact congrArg some (hf i)
  · rfl
theorem mapI_Z (f : Nat → PQ → PQ) (hf : ∀ k, f k zz = zz) {ps qs : List PQ} (h : Zs ps qs) : Zs (ps.mapIdx f) (qs.mapIdx f) := by
  obtain ⟨z, rfl⟩ := h
  refine ⟨z, ?_⟩
  rw [List.mapIdx_append, mapI_zs _ (fun k => hf _)]
theorem tail_Z {ps qs : List PQ} (h : Zs ps qs) : Zs ps.tail qs.tail := by
  obtain ⟨z, rfl⟩ := h
  cases qs with
  | nil =>
    cases z with
    | zero => exact ⟨0, rfl⟩
    | succ z => exact ⟨z, rfl⟩
  | cons w ws => exact ⟨z, rfl⟩
theorem slp_Z {ps qs : List PQ} (h : Zs ps qs) : Zs (slp ps) (slp qs) := tail_Z (mapI_Z _ (fun k => ml_zz _) h)
theorem dvs_Z {ps qs : List PQ} (h : Zs ps qs) : Zs (dvs ps) (dvs qs) := mapI_Z _ (fun k => dv_zz (by omega)) h
theorem itg_Z {ps qs : List PQ} (h : Zs ps qs) : Zs (itg ps) (itg qs) := by
  obtain ⟨z, e⟩ := dvs_Z h
  exact ⟨z, by unfold itg; rw [e]; rfl⟩
def slps : Nat → List PQ → List PQ
  | 0, ps => ps
  | n + 1, ps => slps n (slp ps)
theorem slps_Z : ∀ (n : Nat) {ps qs : List PQ}, Zs ps qs → Zs (slps n ps) (slps n qs)
  | 0, _, _, h => h
  | n + 1, _, _, h => slps_Z n (slp_Z h)
theorem slp_len (ps : List PQ) : (slp ps).length = ps.length - 1 := by
  unfold slp
  rw [List.length_tail, List.length_mapIdx]
theorem slps_nil : ∀ n, slps n [] = []
  | 0 => rfl
  | n + 1 => slps_nil n
theorem slps_min : ∀ (n : Nat) (ps : List PQ), slps (min n ps.length) ps = slps n ps
  | 0, ps => by rw [Nat.zero_min]
  | n + 1, [] => by
    rw [List.length_nil, Nat.min_zero, slps_nil, slps_nil]
  | n + 1, w :: ws => by
    have e : min (n + 1) (w :: ws).length = min n (slp (w :: ws)).length + 1 := by
      rw [slp_len, List.length_cons]
      omega
    rw [e]
    exact slps_min n (slp (w :: ws))
/-- without zeros at the end -/
def st : List PQ → List PQ
  | [] => []
  | w :: ws => match st ws with
    | [] => if w.1 = 0 then [] else [w]
    | v :: vs => w :: v :: vs
theorem st_Z : ∀ {ps : List PQ}, (∀ p ∈ ps, p.1 = 0 → p = zz) → Zs ps (st ps)
  | [], _ => ⟨0, rfl⟩
  | w :: ws, h => by
    obtain ⟨z, e⟩ := st_Z (ps := ws) fun p hp => h p (List.mem_cons_of_mem _ hp)
    unfold st
    cases hs : st ws with
    | nil =>
      rw [hs] at e
      by_cases hw : w.1 = 0
      · refine ⟨z + 1, ?_⟩
        show w :: ws = (if w.1 = 0 then [] else [w]) ++ _
        rw [if_pos hw, h w List.mem_cons_self hw, e]
        rfl
      · refine ⟨z, ?_⟩
        show w :: ws = (if w.1 = 0 then [] else [w]) ++ _
        rw [if_neg hw, e]
        rfl
    | cons v vs =>
      rw [hs] at e
      exact ⟨z, by rw [e]; rfl⟩
theorem st_zeros : ∀ {ps : List PQ}, (∀ p ∈ ps, p.1 = 0) → st ps = []
  | [], _ => rfl
  | w :: ws, h => by
    unfold st
    rw [st_zeros fun p hp => h p (List.mem_cons_of_mem _ hp)]
    show (if w.1 = 0 then ([] : List PQ) else [w]) = []
    rw [if_pos (h w List.mem_cons_self)]
theorem st_app : ∀ {ps zs : List PQ}, (∀ p ∈ zs, p.1 = 0) → st (ps ++ zs) = st ps
  | [], zs, h => st_zeros h
  | w :: ws, zs, h => by
    show (match st (ws ++ zs) with | [] => if w.1 = 0 then ([] : List PQ) else [w] | v :: vs => w :: v :: vs) = _
    rw [st_app h]
    rfl
/-- a list that ends in no zero -/
theorem st_self : ∀ {ps : List PQ} {w : PQ}, w.1 ≠ 0 → st (ps ++ [w]) = ps ++ [w]
  | [], w, h => by
    show (if w.1 = 0 then ([] : List PQ) else [w]) = [w]
    rw [if_neg h]
  | v :: vs, w, h => by
    show (match st (vs ++ [w]) with | [] => if v.1 = 0 then ([] : List PQ) else [v] | u :: us => v :: u :: us) = v :: (vs ++ [w])
    rw [st_self h]
    cases vs <;> rfl
theorem st_take {ps : List PQ} {e : Nat} (he : e ≤ ps.length) (h0 : ∀ i p, ps[i]? = some p → e ≤ i → p.1 = 0) (h1 : ∀ p, 0 < e → ps[e - 1]? = some p → p.1 ≠ 0) : ps.take e = st ps := by
  have hz : ∀ p ∈ ps.drop e, p.1 = 0 := fun p hp => by
    obtain ⟨i, hi⟩ := List.getElem?_of_mem hp
    rw [List.getElem?_drop] at hi
    exact h0 _ p hi (by omega)
  have e1 : st ps = st (ps.take e) := by
    have z := st_app (ps := ps.take e) hz
    rw [List.take_append_drop] at z
    exact z
  rw [e1]
  cases e with
  | zero => rfl
  | succ n =>
    have hn : n < ps.length := he
    have e2 : ps.take (n + 1) = ps.take n ++ [ps[n]] := by rw [List.take_succ, List.getElem?_eq_getElem hn]; rfl
    rw [e2, st_self (h1 _ (by omega) (by rw [Nat.add_sub_cancel]; exact List.getElem?_eq_getElem hn))]
theorem st_cases (ps : List PQ) : st ps = [] ∨ ∃ qs w, st ps = qs ++ [w] ∧ w.1 ≠ 0 := by
  induction ps with
  | nil => exact .inl rfl
  | cons v vs ih =>
    rcases ih with h | ⟨qs, w, h, hw⟩
    · unfold st
      rw [h]
      by_cases z : v.1 = 0
      · exact .inl (if_pos z)
      · exact .inr ⟨[], v, if_neg z, z⟩
    · refine .inr ⟨v :: qs, w, ?_, hw⟩
      unfold st
      rw [h]
      cases qs <;> rfl
theorem st_mem {ps : List PQ} {p : PQ} (h : p ∈ st ps) : p ∈ ps := by
  induction ps with
  | nil => exact h
  | cons v vs ih =>
    unfold st at h
    cases hs : st vs with
    | nil =>
      rw [hs] at h
      by_cases z : v.1 = 0
      · have h' : p ∈ (if v.1 = 0 then ([] : List PQ) else [v]) := h
        rw [if_pos z] at h'
        cases h'
      · have h' : p ∈ (if v.1 = 0 then ([] : List PQ) else [v]) := h
        rw [if_neg z] at h'
        cases List.mem_singleton.mp h'
        exact List.mem_cons_self
    | cons u us =>
      rw [hs] at h ih
      rcases List.mem_cons.mp h with e | e
      · rw [e]; exact List.mem_cons_self
      · exact List.mem_cons_of_mem _ (ih e)
theorem st_idem (ps : List PQ) : st (st ps) = st ps := by
  rcases st_cases ps with h | ⟨qs, w, h, hw⟩
  · rw [h]; rfl
  · rw [h]; exact st_self hw
theorem st_len (ps : List PQ) : (st ps).length ≤ ps.length := by
  induction ps with
  | nil => exact Nat.le_refl _
  | cons v vs ih =>
    unfold st
    cases hs : st vs with
    | nil =>
      show (if v.1 = 0 then ([] : List PQ) else [v]).length ≤ _
      split
      · exact Nat.zero_le _
      · show 1 ≤ _; simp
    | cons u us =>
      rw [hs] at ih
      simp only [List.length_cons] at ih ⊢
      omega
theorem zero_zz {n : Nat} {p : PQ} (h : Ok n p) (z : p.1 = 0) : p = zz := by
  have g := h.g
  rw [z] at g
  have e : p.2.natAbs = 1 := by simpa using g
  have q := h.pos
  have e2 : p.2 = 1 := by omega
  exact Prod.ext z e2
theorem Oks.strip {n : Nat} {ps : List PQ} (h : Oks n ps) : Oks n (K36.st ps) := fun p hp => h p (st_mem hp)
theorem Oks.Z {n : Nat} {ps : List PQ} (h : Oks n ps) : Zs ps (K36.st ps) := st_Z fun p hp z => zero_zz (h p hp) z
theorem hor_st {n m : Nat} {x : PQ} {ps : List PQ} (hx : Ok m x) (h : Oks n ps) : hor x (st ps) = hor x ps := (hor_Z hx h.Z).symm
theorem bdK {k : Nat} (h : k ≤ 15) : Bd 4 (k : Int) := by
  unfold Bd
  rw [Int.natAbs_natCast]
  omega
theorem Oks.slp {n : Nat} {ps : List PQ} (h : Oks n ps) (l : ps.length ≤ 15) : Oks (n + 4) (slp ps) := fun p hp => by
  have hp := List.mem_of_mem_tail hp
  obtain ⟨i, hi, e⟩ := List.mem_mapIdx.mp hp
  subst e
  have k := h _ (List.getElem_mem hi)
  exact ok_n k.pos (k.t.mul (bdK (by omega))) (k.b.le (by omega))
theorem Oks.dvs {n : Nat} {ps : List PQ} (h : Oks n ps) (l : ps.length ≤ 14) : Oks (n + 4) (dvs ps) := fun p hp => by
  obtain ⟨i, hi, e⟩ := List.mem_mapIdx.mp hp
  subst e
  have k := h _ (List.getElem_mem hi)
  have b4 : Bd 4 ((i : Int) + 1) := by exact_mod_cast bdK (k := i + 1) (by omega)
  exact ok_n (Int.mul_pos k.pos (by omega)) (k.t.le (by omega)) (k.b.mul b4)
theorem Oks.itg {n : Nat} {ps : List PQ} (h : Oks n ps) (l : ps.length ≤ 14) : Oks (n + 4) (itg ps) := fun p hp => by
  rcases List.mem_cons.mp hp with e | e
  · rw [e]; exact ok_zz.le (by omega)
  · exact h.dvs l p e
theorem Oks.slps {n : Nat} : ∀ (k : Nat) {ps : List PQ}, Oks n ps → ps.length ≤ 15 → Oks (n + 4 * k) (slps k ps)
  | 0, ps, h, _ => h
  | k + 1, ps, h, l => by
    have z := Oks.slps k (h.slp l) (by rw [slp_len]; omega)
    exact Oks.le z (by omega)
/-- the slope of the integral -/
theorem slp_int {n : Nat} {ps : List PQ} (h : Oks n ps) (c : PQ) : slp (c :: dvs ps) = ps := by
  unfold slp dvs
  rw [List.mapIdx_cons, List.tail_cons]
  refine List.ext_getElem? fun i => ?_
  rw [List.getElem?_mapIdx, List.getElem?_mapIdx]
  cases e : ps[i]? with
  | none => rfl
  | some q =>
    show some (ml (dv q ((i : Int) + 1)) ((i + 1 : Nat) : Int)) = some q
    have k := h q (List.mem_of_getElem? e)
    have := ml_dv k (m := (i : Int) + 1) (by omega)
    rw [show (((i + 1 : Nat) : Int)) = (i : Int) + 1 by omega, this]
theorem st_int {n : Nat} {ps : List PQ} (h : Oks n ps) (he : ps = st ps) (hn : ps ≠ []) (c : PQ) : st (c :: dvs ps) = c :: dvs ps := by
  rcases st_cases ps with z | ⟨qs, w, z, hw⟩
  · exact absurd (he.trans z) hn
  · have e := he.trans z
    have k := h w (by rw [e]; exact List.mem_append_right _ List.mem_cons_self)
    have e2 : dvs ps = dvs qs ++ [dv w ((qs.length : Int) + 1)] := by
      unfold dvs
      rw [e, List.mapIdx_append]
      show _ ++ [dv w (((0 + qs.length : Nat) : Int) + 1)] = _
      rw [Nat.zero_add]
    rw [e2, ← List.cons_append]
    exact st_self (dv_ne k (by omega) hw)
end K36

set_option Elab.async false
set_option linter.all false
set_option maxRecDepth 100000
set_option maxHeartbeats 4000000
set_option pp.maxSteps 500
namespace K36
open PySem PySem.Spec PyProof.Rows L2 Ux
abbrev sStrip : Stmt := top 21
abbrev sSlw : Stmt := top 22
/-- further built-ins that still stand -/
structure Bk (mg : Str → Option Value) : Prop where
  fenum : mg "enumerate" = none
  fmin : mg "min" = none
  fsorted : mg "sorted" = none
  tdict : mg "dict" = none
/-- what a list of such objects may ask of one: it is told by its own object, which is no list -/
class Mn (R : Hp → Addr → PQ → Prop) : Prop where
  mono : ∀ {H H' : Hp} {r : Addr} {p : PQ}, R H r p → (∀ o, H r = some o → (∀ xs, o ≠ .lst xs) → H' r = some o) → R H' r p
def RatP (CR : Addr) : Hp → Addr → PQ → Prop := fun H r p => RatAt CR H r p.1 p.2
def TupP : Hp → Addr → PQ → Prop := fun H r p => TupI H r p.1 p.2
instance (CR : Addr) : Mn (RatP CR) := ⟨fun ⟨dx, h⟩ k => ⟨dx, k _ h fun xs z => by cases z⟩⟩
instance : Mn TupP := ⟨fun h k => k _ h fun xs z => by cases z⟩
/-- addresses and their fractions -/
structure LsAt (R : Hp → Addr → PQ → Prop) (H : Hp) (rs : List Addr) (ps : List PQ) : Prop where
  len : rs.length = ps.length
  at_ : ∀ (i : Nat) (r : Addr) (p : PQ), rs[i]? = some r → ps[i]? = some p → R H r p
abbrev RatsAt (CR : Addr) : Hp → List Addr → List PQ → Prop := LsAt (RatP CR)
abbrev TupsAt : Hp → List Addr → List PQ → Prop := LsAt TupP
section
variable {R : Hp → Addr → PQ → Prop} {H H' : Hp} {rs : List Addr} {ps : List PQ} {r : Addr} {p : PQ}
theorem LsAt.same [m : Mn R] (h : LsAt R H rs ps) (s : Same H H') : LsAt R H' rs ps := ⟨h.len, fun i r p a b => m.mono (h.at_ i r p a b) fun o e _ => s _ _ e⟩
theorem LsAt.nil : LsAt R H [] [] := ⟨rfl, fun i r p a _ => by cases a⟩
theorem LsAt.get (h : LsAt R H rs ps) {i : Nat} (hi : i < ps.length) : ∃ r p, rs[i]? = some r ∧ ps[i]? = some p ∧ R H r p := by
  have hr : i < rs.length := by rw [h.len]; exact hi
  exact ⟨rs[i], ps[i], List.getElem?_eq_getElem hr, List.getElem?_eq_getElem hi, h.at_ i _ _ (List.getElem?_eq_getElem hr) (List.getElem?_eq_getElem hi)⟩
theorem LsAt.take (h : LsAt R H rs ps) (n : Nat) : LsAt R H (rs.take n) (ps.take n) :=
  ⟨by rw [List.length_take, List.length_take, h.len], fun i r p a b => by
    rw [List.getElem?_take] at a b
    by_cases hi : i < n
    · rw [if_pos hi] at a b
      exact h.at_ i r p a b
    · rw [if_neg hi] at a
      cases a⟩
theorem LsAt.tail (h : LsAt R H rs ps) : LsAt R H rs.tail ps.tail :=
  ⟨by rw [List.length_tail, List.length_tail, h.len], fun i r p a b => by
    rw [List.getElem?_tail] at a b
    exact h.at_ (i + 1) r p a b⟩
theorem LsAt.app {rs2 : List Addr} {ps2 : List PQ} (h : LsAt R H rs ps) (k : LsAt R H rs2 ps2) : LsAt R H (rs ++ rs2) (ps ++ ps2) :=
  ⟨by rw [List.length_append, List.length_append, h.len, k.len], fun i r' p' a b => by
    by_cases c : i < rs.length
    · rw [List.getElem?_append_left c] at a
      rw [List.getElem?_append_left (by rw [← h.len]; exact c)] at b
      exact h.at_ i r' p' a b
    · rw [List.getElem?_append_right (by omega)] at a
      rw [List.getElem?_append_right (by rw [← h.len]; omega), ← h.len] at b
      exact k.at_ _ r' p' a b⟩
theorem LsAt.cons (h : LsAt R H rs ps) (k : R H r p) : LsAt R H (r :: rs) (p :: ps) :=
  ⟨by rw [List.length_cons, List.length_cons, h.len], fun i r' p' a b => by
    cases i with
    | zero =>
      cases Option.some.inj a
      cases Option.some.inj b
      exact k
    | succ i => exact h.at_ i r' p' a b⟩
theorem LsAt.one (k : R H r p) : LsAt R H [r] [p] := LsAt.nil.cons k
theorem LsAt.but [m : Mn R] {D : Addr} {xs : List V} (h : LsAt R H rs ps) (hD : H D = some (.lst xs)) (s : ∀ b o, H b = some o → b ≠ D → H' b = some o) : LsAt R H' rs ps :=
  ⟨h.len, fun i r p a b => m.mono (h.at_ i r p a b) fun o e n => s _ _ e fun z => by rw [z, hD] at e; exact n _ (Option.some.inj e).symm⟩
theorem Same.put {C : Addr} {o : HO} (s : Same H H') (hC : H C = none) : Same H (upd H' C o) := fun x u e => (upd_ne (ne_of_none e hC)).trans (s x u e)
/-- a comprehension's new list at C, i items long -/
structure Acc (R : Hp → Addr → PQ → Prop) (H0 : Hp) (C : Addr) (ps : List PQ) (i : Nat) (H : Hp) : Prop where
  ex : ∃ us : List Addr, H C = some (.lst (us.map V.ref)) ∧ LsAt R H us (ps.take i)
  sm : Same H0 H
theorem Acc.zero {C : Addr} (hC : H C = none) : Acc R H C ps 0 (upd H C (.lst [])) := ⟨⟨[], upd_same, by rw [List.take_zero]; exact LsAt.nil⟩, same_upd hC⟩
theorem Acc.step [m : Mn R] {H0 K : Hp} {C : Addr} {i : Nat} (a : Acc R H0 C ps i H) (hC : H0 C = none) (s : Same H K) (hr : R K r p) (e : ps[i]? = some p) (hi : i < 1000) :
    ∃ acc, K C = some (.lst acc) ∧ acc.length < sizeLine ∧ Acc R H0 C ps (i + 1) (upd K C (.lst (acc ++ [.ref r]))) := by
  obtain ⟨⟨us, hu, ul⟩, s0⟩ := a
  have hK := s _ _ hu
  have mv : ∀ b o, K b = some o → b ≠ C → upd K C (.lst (us.map V.ref ++ [.ref r])) b = some o := fun b o e n => (upd_ne n).trans e
  refine ⟨_, hK, ?_, ⟨us ++ [r], by rw [upd_same, List.map_append]; rfl, ?_⟩, Same.put (s0.trans s) hC⟩
  · rw [List.length_map, ul.len]
    exact small1000 (by have := List.length_take_le i ps; omega)
  · rw [List.take_add_one, e]
    exact ((ul.same s).app (LsAt.one hr)).but hK mv
theorem Acc.done [m : Mn R] {H0 : Hp} {C : Addr} {n : Nat} (a : Acc R H0 C ps n H) (h : ps.length ≤ n) : ∃ us : List Addr, H C = some (.lst (us.map V.ref)) ∧ LsAt R H us ps := by
  obtain ⟨⟨us, hu, ul⟩, _⟩ := a
  rw [List.take_of_length_le h] at ul
  exact ⟨us, hu, ul⟩
end
/-- Ratio(t, b), made -/
theorem rat_made {CR : Addr} {H : Hp} {Qn : Hp → Prop} {E : XK} {x dx : Addr} {vs : List V} {t b : Int} (e : vs = [.ref x, .int t, .int b]) (nx : H x = none) (nd : H dx = none) (hb : b ≠ 0) (bd : Bd 8000 b) (k : ∀ H1, RatAt CR H1 x (nT t b) (nB t b) → Same H H1 → Qn H1) :
    spRInit CR vs (upd (upd H dx (.own x)) x (.ins CR dx [])) (fun v H' => v = .non ∧ Qn H') E :=
  ⟨x, dx, t, b, e, upd_same, hb, bd, fun H1 hx bu => ⟨rfl, k H1 ⟨dx, hx⟩ (made_same nx nd bu)⟩⟩
theorem map_at {rs : List Addr} {i : Nat} {r : Addr} (h : rs[i]? = some r) : (rs.map V.ref)[i]? = some (.ref r) := by rw [List.getElem?_map, h]; rfl
theorem map_of {rs : List Addr} {i : Nat} {x : V} (h : (rs.map V.ref)[i]? = some x) : ∃ r, rs[i]? = some r ∧ x = .ref r := by
  rw [List.getElem?_map] at h
  cases e : rs[i]? with
  | none => rw [e] at h; cases h
  | some r => rw [e] at h; exact ⟨r, rfl, (Option.some.inj h).symm⟩
theorem cut_to (xs : List V) (e : Nat) (h : e ≤ xs.length) : cutV xs none (some (e : Int)) = xs.take e := by
  unfold cutV
  rw [HT.sIx_none, HT.sIx_nat, List.drop_zero, Nat.sub_zero, Nat.min_eq_left h]
theorem cut_tail (xs : List V) : cutV xs (some 1) none = xs.tail := by
  unfold cutV
  have e : HT.sIx xs.length 0 (some 1) = min 1 xs.length := HT.sIx_nat _ _ 1
  rw [HT.sIx_none, e]
  cases xs with
  | nil => rfl
  | cons x xs =>
    have e2 : min 1 (x :: xs).length = 1 := by rw [List.length_cons]; omega
    rw [e2]
    show (List.drop 1 (x :: xs)).take (xs.length + 1 - 1) = xs
    rw [List.drop_one, List.tail_cons, Nat.add_sub_cancel, List.take_length]
theorem and_true {a b : Prop} (h : a) (k : b) : a ∧ b := ⟨h, k⟩
/-- without_last_zeros -/
def spStrip (K : PySem.W.Frag) (CR : Addr) : Sp := fun vs H Q _ => ∃ (l : Addr) (rs : List Addr) (ps : List PQ), vs = [.ref l] ∧ SqL K H l (rs.map V.ref) ∧ RatsAt CR H rs ps ∧ ∀ (p : Addr) (qs : List Addr) (H' : Hp), H' p = some (.lst (qs.map V.ref)) → RatsAt CR H' qs (st ps) → H p = none → Same H H' → Q (.ref p) H'
/-- slope_worths -/
def spSlw (K : PySem.W.Frag) (CR : Addr) : Sp := fun vs H Q _ => ∃ (l : Addr) (rs : List Addr) (ps : List PQ), vs = [.ref l] ∧ SqL K H l (rs.map V.ref) ∧ RatsAt CR H rs ps ∧ Oks 1000 ps ∧ ps.length ≤ 1000 ∧ ∀ (p : Addr) (qs : List Addr) (H' : Hp), H' p = some (.lst (qs.map V.ref)) → RatsAt CR H' qs (slp ps) → Same H H' → Q (.ref p) H'
theorem bd1 : Bd 2000 1 := Bd.of (m := 1) (by decide) (by decide +kernel)
theorem g1i (i : Int) : Nat.gcd i.natAbs (1 : Int).natAbs = 1 := Nat.gcd_one_right _
theorem bdS {i n : Nat} (h : i < 1024) (hn : 10 ≤ n) : Bd n ((i : Nat) : Int) := by
  unfold Bd
  rw [Int.natAbs_natCast]
  exact Nat.lt_of_lt_of_le (show i < 2 ^ 10 from h) (Nat.pow_le_pow_right (by decide) hn)
section
variable {P : Program} {w : World} {K : PySem.W.Frag} {mg : Str → Option Value} {base : Heap} {CR CI fI : Addr}
theorem scStrip : FnScope ["worths", "end"] ["worths"] (defScope sStrip) := ⟨rfl, rfl, rfl, by decide +kernel, rfl, by decide +kernel, by decide +kernel⟩
theorem ok_strip {f : Addr} {fd : FuncData} (F : Fun K "without_last_zeros" "without_last_zeros" sStrip f fd) (B : Bn mg) (T : RT K mg CR) : FnOk P w K mg base CX0 1 f fd ["worths"] (spStrip K CR) := by
  refine F.ok scStrip (fun vs H Q E h => ?_) (fun cdv A outer s H vs Q E hr h => ?_)
  · obtain ⟨l, rs, ps, rfl, _⟩ := h
    rfl
  · obtain ⟨l, rs, ps, rfl, hl, ra, q⟩ := h
    refine ⟨_, pss_cons (ps_set (i := 1) scStrip.nd rfl (Or.inl rfl) (pe_callB call_len (by rfl) B.flen (by decide +kernel) (pa_cons (pv 0) pa_nil)))
      (pss_cons (ps_while PassesOwn.never (PW.pt (pw_and (pt_cmpR op_gt (pv 1) pe_int (nomark _)) (pw_and1 (pt_cmpR op_eq (pe_fld (pe_ix ix_list (pv 0) (pe_op op_sub (pv 1) pe_int) (fun _ _ => rfl)) rfl) pe_int (nomark _))))) (pss_one (ps_aug (i := 1) scStrip.nd rfl (Or.inl rfl) pe_int ip_sub)))
      (pss_one (ps_ret (pe_slice sl_list (pv 0) po_none (po_some (pv 1)))))), ?_⟩
    refine ⟨_, rfl, .ref l, (rs.map V.ref).length, rfl, .inl ⟨_, hl, rfl⟩, ?_⟩
    rw [List.length_map, ra.len]
    refine ⟨fun m σ H' => ∃ e : Nat, m = e ∧ σ = [some (.ref l), some (.int (e : Int))] ∧ H' = H ∧ e ≤ ps.length ∧ ∀ i p, ps[i]? = some p → e ≤ i → p.1 = 0, ⟨_, ps.length, rfl, rfl, rfl, Nat.le_refl _, fun i p hp hi => by
      have := (List.getElem?_eq_some_iff.mp hp).1
      omega⟩, ?_⟩
    rintro e σ H' ⟨_, rfl, rfl, rfl, he, h0⟩
    have fin : ∀ (h1 : ∀ p, 0 < e → ps[e - 1]? = some p → p.1 ≠ 0), tRet (tSl (rSlL K) (tVar 0) tNoPart (tPart (tVar 1))) { nx := fun _ H' => Q .non H', rt := Q } [some (.ref l), some (.int (e : Int))] H' := fun h1 => by
      refine ⟨_, rfl, _, rfl, _, rfl, l, _, rfl, hl, fun p hp => ?_⟩
      have z := ra.take e
      rw [st_take he h0 h1] at z
      refine q p (rs.take e) _ ?_ (z.same (same_upd hp)) hp (same_upd hp)
      rw [upd_same, cut_to _ _ (by rw [List.length_map, ra.len]; exact he), List.map_take]
    by_cases c : 0 < e
    · refine ⟨_, rfl, _, _, rfl, rfl, _, rfl, ?_⟩
      rw [decide_eq_true (show (0 : Int) < (e : Int) by omega)]
      refine iteT ?_
      obtain ⟨r, p, e1, e2, dx, hr⟩ := ra.get (i := e - 1) (by omega)
      refine ⟨_, rfl, _, rfl, _, _, rfl, rfl, l, _, _, _, rfl, rfl, hl, ?_, r, CR, dx, _, _, rfl, hr, T.cl, T.nT, rf_top _ _, rfl, _, rfl, ?_⟩
      · have := atI_nat (map_at e1)
        rwa [show (((e - 1 : Nat)) : Int) = (e : Int) - 1 by omega] at this
      rw [dec_int]
      by_cases c2 : p.1 = 0
      · rw [decide_eq_true c2]
        refine iteT ⟨fun σ' H1 => ∃ e' : Nat, e' < e ∧ σ' = [some (.ref l), some (.int (e' : Int))] ∧ H1 = H' ∧ e' ≤ ps.length ∧ ∀ i p, ps[i]? = some p → e' ≤ i → p.1 = 0, fun σ' H1 ⟨e', l', z⟩ => ⟨e', l', e', rfl, z⟩, _, rfl, _, _, rfl, rfl, e - 1, by omega, ?_, rfl, by omega, fun i p' hp hi => ?_⟩
        · show [some (V.ref l), some (V.int ((e : Int) - 1))] = _
          rw [show (((e - 1 : Nat)) : Int) = (e : Int) - 1 by omega]
        · by_cases c3 : e ≤ i
          · exact h0 i p' hp c3
          · have : i = e - 1 := by omega
            rw [this, e2] at hp
            cases hp
            exact c2
      · rw [decide_eq_false c2]
        refine iteF (fin fun p' _ hp => ?_)
        rw [e2] at hp
        cases hp
        exact c2
    · refine ⟨_, rfl, _, _, rfl, rfl, _, rfl, ?_⟩
      rw [decide_eq_false (show ¬ (0 : Int) < (e : Int) by omega)]
      exact iteF (fin fun p z => absurd z c)
theorem scSlw : FnScope ["worths", "power", "worth"] ["worths"] (defScope sSlw) := ⟨rfl, rfl, rfl, by decide +kernel, rfl, by decide +kernel, by decide +kernel⟩
theorem ok_slw {f fM : Addr} {fd fdM : FuncData} (F : Fun K "slope_worths" "slope_worths" sSlw f fd) (B2 : Bk mg) (M : BinM K CR "mul" fM) (N : BinI K CR "mul") (G : FnOk P w K mg base CX0 5 fM fdM ["self", "other"] (spBin CR fMul gMul)) (bM : Binds K fdM ["self", "other"] []) : FnOk P w K mg base CX0 6 f fd ["worths"] (spSlw K CR) := by
  refine F.ok scSlw (fun vs H Q E h => ?_) (fun cdv A outer s H vs Q E hr h => ?_)
  · obtain ⟨l, rs, ps, rfl, _⟩ := h
    rfl
  · obtain ⟨l, rs, ps, rfl, hl, ra, ok, le, q⟩ := h
    refine ⟨_, pss_one (ps_ret (pe_slice sl_list (pe_lc (own := [("power", 1), ("worth", 2)]) (g := gTup K 2 (gCons (gName 1) (gCons (gName 2) gNil))) (te := tOp (rBinI CR (spBin CR fMul gMul)) (tVar 2) (tVar 1)) rfl scSlw.nd (pi_enum (by rfl) B2.fenum (pa_cons (pv 0) pa_nil)) (blkOk_by (own := [("power", 1), ("worth", 2)]) (N := ["worths", "power", "worth"]) (sc := defScope sSlw) (by decide +kernel))
        (fun _ _ _ _ _ => pg_tup (n := 2) rfl (pgs_cons (pg_name (i := 1) scSlw.nd rfl (Or.inl rfl) (hf := Or.inr rfl)) (pgs_cons (pg_name (i := 2) scSlw.nd rfl (Or.inl rfl) (hf := Or.inr rfl)) pgs_nil))) (fun _ _ _ _ _ => pts_nil)
        (fun _ _ _ _ _ => pe_op (op_binI (op := .Mult) M N G bM hr) (pv 2) (pv 1))) (po_some pe_int) po_none)), ?_⟩
    have len : (rs.map V.ref).length = ps.length := by rw [List.length_map, ra.len]
    refine ⟨_, rfl, l, _, rfl, hl, fun C hC => lc_it (walk_enum (xs := rs.map V.ref)) (Acc (RatP CR) H C (ps.mapIdx fun k w => ml w (k : Nat))) (.zero hC) (fun i H' _ a => SqL.ext hl a.sm) ?_ ?_⟩
    · rintro i x H0 H1 hi a ⟨T, y, z, rfl, nT, rfl, ey, ez⟩
      cases Option.some.inj ey
      rw [len] at hi
      obtain ⟨r, p, e1, e2, hr⟩ := ra.get hi
      have ez2 := (map_at e1).symm.trans ez
      cases Option.some.inj ez2
      have sT := same_upd (o := .tup [V.int (i : Nat), .ref r]) nT
      obtain ⟨dx, hr2⟩ : RatAt CR _ r p.1 p.2 := RatAt.same hr (a.sm.trans sT)
      have k := ok p (List.mem_of_getElem? e2)
      have hi2 : Bd 2000 ((i : Nat) : Int) := bdS (by omega) (by decide)
      refine ⟨T, _, rfl, SqT.of upd_same, rfl, _, _, rfl, _, _, rfl, rfl, rfl, ?_⟩
      refine ⟨_, rfl, _, rfl, r, dx, _, ((i : Nat) : Int), rfl, rfl, hr2, r, .int (i : Nat), p.1, p.2, (i : Nat), 1, rfl, ⟨dx, hr2⟩, .inr ⟨rfl, rfl⟩, k.t.le (by decide), k.b.le (by decide), hi2, bd1, k.pos, by decide, k.g, g1i _, fun v K1 rv sv => ⟨v, rfl, ?_⟩⟩
      refine a.step hC (sT.trans sv) (p := ml p (i : Nat)) ?_ (by rw [List.getElem?_mapIdx, e2]; rfl) (by omega)
      have e3 : fMul p.1 p.2 (i : Nat) 1 = p.1 * (i : Nat) := rfl
      have e4 : gMul p.1 p.2 (i : Nat) 1 = p.2 := Int.mul_one _
      rw [e3, e4] at rv
      exact rv
    · intro H1 a
      obtain ⟨us, hu, ul⟩ := a.done (by rw [List.length_mapIdx, len]; exact Nat.le_refl _)
      refine ⟨1, rfl, C, _, rfl, .of hu, fun p hp => ?_⟩
      have sp := same_upd (o := .lst (us.tail.map V.ref)) hp
      rw [cut_tail]
      have et : (us.map V.ref).tail = us.tail.map V.ref := by cases us <;> rfl
      rw [et]
      exact q p us.tail _ upd_same (ul.tail.same sp) (a.sm.trans sp)
end
end K36

set_option Elab.async false
set_option linter.all false
set_option maxRecDepth 100000
set_option maxHeartbeats 4000000
set_option pp.maxSteps 500
namespace K36
open PySem PySem.Spec PyProof.Rows L2 Ux
abbrev sCInit : Stmt := inClass (top 23) 0
abbrev sCWor : Stmt := inClass (top 23) 1
abbrev sCDeg : Stmt := inClass (top 23) 2
abbrev sCSlo : Stmt := inClass (top 23) 3
abbrev sCInt : Stmt := inClass (top 23) 4
abbrev sCCall : Stmt := inClass (top 23) 5
abbrev sCEq : Stmt := inClass (top 23) 6
abbrev sCStr : Stmt := inClass (top 23) 7
abbrev sCRep : Stmt := inClass (top 23) 8
structure CT (K : PySem.W.Frag) (mg : Str → Option Value) (CC : Addr) : Prop where
  cl : Cls K CC
  nW : NoAttr K CC "_worths"
  gl : mg "Curve" = some (.ref CC)
  ha : PySem.W.findIn K (.ref CC) "__class__" = some (some (.builtin "object.__class__"))
  hn : PySem.W.specialIn K (.builtin "object.__class__") "__get__" = some (some (.builtin "getset_descriptor.__get__"))
  ht : PySem.W.takesIn K (.builtin "object.__class__") = some true
  hm : PySem.W.mroIn K CC (.type "object") = some true
  kC : PySem.W.kitOne K (.ref CC) (.ref CC) = some true
  kS : PySem.W.kitOne K (.type "str") (.ref CC) = some false
  f1 : PySem.W.notFirst K CC (.ref CC) = true
  fS : PySem.W.notFirst K CC (.type "str") = true
def cf (L : Addr) : List (Str × V) := putF "_worths" (.ref L) []
theorem cf_w (L : Addr) : (cf L).lookup ("_worths" : Str) = some (.ref L) := by
  unfold cf
  rw [lookup_putF, if_pos rfl]
theorem cf_no (L : Addr) {m : Str} (h : ¬ (m = "_worths")) : (cf L).lookup m = none := by
  unfold cf
  rw [lookup_putF, if_neg h]
  rfl
/-- a curve: its Ratios and their fractions -/
structure CurAt (CC CR : Addr) (H : Hp) (c : Addr) (rs : List Addr) (ps : List PQ) : Prop where
  ex : ∃ dx L, H c = some (.ins CC dx (cf L)) ∧ H L = some (.lst (rs.map V.ref))
  ls : RatsAt CR H rs ps
theorem CurAt.same {CC CR : Addr} {H H' : Hp} {c : Addr} {rs : List Addr} {ps : List PQ} (h : CurAt CC CR H c rs ps) (s : Same H H') : CurAt CC CR H' c rs ps := by
  obtain ⟨⟨dx, L, h1, h2⟩, h3⟩ := h
  exact ⟨⟨dx, L, s _ _ h1, s _ _ h2⟩, h3.same s⟩
/-- numbers as they are handed in -/
structure NsAt (CR : Addr) (H : Hp) (xs : List V) (ps : List PQ) : Prop where
  len : xs.length = ps.length
  at_ : ∀ (i : Nat) (x : V) (p : PQ), xs[i]? = some x → ps[i]? = some p → NumV CR H x p.1 p.2
theorem NsAt.same {CR : Addr} {H H' : Hp} {xs : List V} {ps : List PQ} (h : NsAt CR H xs ps) (s : Same H H') : NsAt CR H' xs ps := ⟨h.len, fun i x p a b => (h.at_ i x p a b).same s⟩
theorem NsAt.ofR {CR : Addr} {H : Hp} {rs : List Addr} {ps : List PQ} (h : RatsAt CR H rs ps) : NsAt CR H (rs.map V.ref) ps :=
  ⟨by rw [List.length_map, h.len], fun i x p a b => by
    obtain ⟨r, e, rfl⟩ := map_of a
    exact .inl ⟨r, rfl, h.at_ i r p e b⟩⟩
theorem none_of {H H1 : Hp} {L : Addr} (n : H1 L = none) (s : Same H H1) : H L = none := by
  cases q : H L with
  | none => rfl
  | some o => rw [s _ _ q] at n; cases n
def spCInit (K : PySem.W.Frag) (CR CC : Addr) : Sp := fun vs H Q _ => ∃ (c dx l : Addr) (xs : List V) (ps : List PQ), vs = [.ref c, .ref l] ∧ H c = some (.ins CC dx []) ∧ SqL K H l xs ∧ NsAt CR H xs ps ∧ ps.length ≤ 900 ∧
  ∀ (L : Addr) (rs : List Addr) (H' : Hp), H' c = some (.ins CC dx (cf L)) → H' L = some (.lst (rs.map V.ref)) → RatsAt CR H' rs (st ps) → H L = none → But c H H' → Q .non H'
def spCWor (CR CC : Addr) : Sp := fun vs H Q _ => ∃ (c : Addr) (rs : List Addr) (ps : List PQ), vs = [.ref c] ∧ CurAt CC CR H c rs ps ∧ ∀ (l : Addr) (H' : Hp), H' l = some (.lst (rs.map V.ref)) → H l = none → Same H H' → Q (.ref l) H'
def spCDeg (CR CC : Addr) : Sp := fun vs H Q _ => ∃ (c : Addr) (rs : List Addr) (ps : List PQ), vs = [.ref c] ∧ CurAt CC CR H c rs ps ∧ Q (.int ((ps.length : Int) - 1)) H
def spCCall (CR CC : Addr) : Sp := fun vs H Q _ => ∃ (c : Addr) (y : V) (rs : List Addr) (ps : List PQ) (x : PQ) (n m : Nat), vs = [.ref c, y] ∧ CurAt CC CR H c rs ps ∧ NumV CR H y x.1 x.2 ∧ Ok m x ∧ Oks n ps ∧ ps.length * (n + m + 1) + 1 + m ≤ 1990 ∧
  ∀ (t : Addr) (H' : Hp), RatAt CR H' t (hor x ps).1 (hor x ps).2 → Same H H' → Q (.ref t) H'
section
variable {P : Program} {w : World} {K : PySem.W.Frag} {mg : Str → Option Value} {base : Heap} {CR CC CI fI : Addr}
theorem scCInit : FnScope ["self", "worths", "worth"] ["self", "worths"] (defScope sCInit) := ⟨rfl, rfl, rfl, by decide +kernel, rfl, by decide +kernel, by decide +kernel⟩
theorem ok_cinit {f fZ fO : Addr} {fd fdZ fdO : FuncData} (F : Fun K "__init__" "Curve.__init__" sCInit f fd) (C : CT K mg CC) (DZ : Dn K mg "without_last_zeros" fZ) (GZ : FnOk P w K mg base CX0 1 fZ fdZ ["worths"] (spStrip K CR)) (bZ : Binds K fdZ ["worths"] [])
    (DO : Dn K mg "ratio_of" fO) (GO : FnOk P w K mg base CX0 4 fO fdO ["number"] (spRatioOf CR)) (bO : Binds K fdO ["number"] []) : FnOk P w K mg base CX0 5 f fd ["self", "worths"] (spCInit K CR CC) := by
  refine F.ok scCInit (fun vs H Q E h => ?_) (fun cdv A outer s H vs Q E hr h => ?_)
  · obtain ⟨c, dx, l, xs, ps, rfl, _⟩ := h
    rfl
  · obtain ⟨c, dx, l, xs, ps, rfl, hc, hl, na, le, q⟩ := h
    have r1 : Room 1 _ := hr.mono (by decide)
    refine ⟨_, pss_one (ps_fld (pv 0) (pe_call GZ r1 (by rfl) DZ.gl DZ.kp bZ .nil pass0 (pa_cons (pe_lc (own := [("worth", 2)]) (g := gName 2) (te := tCall (spRatioOf CR) [] E0 (tCons (tVar 2) tNil)) rfl scCInit.nd (pi_list (pv 1)) (blkOk_by (own := [("worth", 2)]) (N := ["self", "worths", "worth"]) (sc := defScope sCInit) (by decide +kernel))
      (fun _ _ _ _ _ => pg_name (i := 2) scCInit.nd rfl (Or.inl rfl) (hf := Or.inr rfl)) (fun _ _ _ _ _ => pts_nil) (fun _ _ _ _ _ => pe_call GO hr (by rfl) DO.gl DO.kp bO .nil pass0 (pa_cons (pv 2) pa_nil))) pa_nil)) rfl), ?_⟩
    refine ⟨_, rfl, l, rfl, ⟨_, hl⟩, fun C0 hC => lc_list (xs := xs) (Acc (RatP CR) H C0 ps) (.zero hC) (fun i H' _ a => SqL.ext hl a.sm) ?_ ?_⟩
    · rintro i x H1 hx a
      refine ⟨rfl, ?_⟩
      have hi := (List.getElem?_eq_some_iff.mp hx).1
      have hi2 : i < ps.length := by rw [← na.len]; exact hi
      have e2 : ps[i]? = some ps[i] := List.getElem?_eq_getElem hi2
      exact ⟨_, rfl, x, ps[i].1, ps[i].2, rfl, (na.at_ i x _ hx e2).same a.sm, fun v K1 rv sv => a.step hC sv rv e2 (by omega)⟩
    · intro H1 a
      obtain ⟨us, hu, ul⟩ := a.done (by rw [na.len]; exact Nat.le_refl _)
      refine ⟨C0, us, ps, rfl, .of hu, ul, fun L rs H2 hL hR nL s2 => ?_⟩
      have S := a.sm.trans s2
      have hc2 := S _ _ hc
      refine ⟨_, rfl, c, CC, dx, [], rfl, hc2, C.cl, C.nW, (by show 0 < 1000; decide), ?_⟩
      have nLc : L ≠ c := fun z => by rw [z, hc2] at hL; cases hL
      have mv : ∀ b o, H2 b = some o → b ≠ c → (upd H2 c (.ins CC dx (cf L))) b = some o := fun b o e n => (upd_ne n).trans e
      refine q L rs _ upd_same (mv _ _ hL nLc) ⟨hR.len, fun i r p a' b => ?_⟩ (none_of nL a.sm) fun b o e n => mv b o (S _ _ e) n
      obtain ⟨d, e⟩ := hR.at_ i r p a' b
      exact ⟨d, mv _ _ e fun z => by
        rw [z, hc2] at e
        have e3 := (HO.ins.inj (Option.some.inj e)).2.2
        have e4 := rf_top p.1 p.2
        rw [← e3] at e4
        cases e4⟩
theorem scCWor : FnScope ["self"] ["self"] (defScope sCWor) := ⟨rfl, rfl, rfl, by decide +kernel, rfl, by decide +kernel, by decide +kernel⟩
theorem ok_cwor {f : Addr} {fd : FuncData} (F : Fun K "worths" "Curve.worths" sCWor f fd) (B : Bn mg) (C : CT K mg CC) : FnOk P w K mg base CX0 1 f fd ["self"] (spCWor CR CC) := by
  refine F.ok scCWor (fun vs H Q E h => ?_) (fun cdv A outer s H vs Q E hr h => ?_)
  · obtain ⟨c, rs, ps, rfl, _⟩ := h
    rfl
  · obtain ⟨c, rs, ps, rfl, ⟨⟨dx, L, hc, hL⟩, ra⟩, q⟩ := h
    refine ⟨_, pss_one (ps_ret (pe_callTy call_list_of (by rfl) B.tlist (by decide +kernel) (pa_cons (pe_fld (pv 0) rfl) pa_nil))), ?_⟩
    exact ⟨_, rfl, c, CC, dx, _, _, rfl, hc, C.cl, C.nW, cf_w L, L, _, rfl, .inl (.of hL), fun p hp => q p _ upd_same hp (same_upd hp)⟩
theorem scCDeg : FnScope ["self"] ["self"] (defScope sCDeg) := ⟨rfl, rfl, rfl, by decide +kernel, rfl, by decide +kernel, by decide +kernel⟩
theorem ok_cdeg {f : Addr} {fd : FuncData} (F : Fun K "degree_of" "Curve.degree_of" sCDeg f fd) (B : Bn mg) (C : CT K mg CC) : FnOk P w K mg base CX0 1 f fd ["self"] (spCDeg CR CC) := by
  refine F.ok scCDeg (fun vs H Q E h => ?_) (fun cdv A outer s H vs Q E hr h => ?_)
  · obtain ⟨c, rs, ps, rfl, _⟩ := h
    rfl
  · obtain ⟨c, rs, ps, rfl, ⟨⟨dx, L, hc, hL⟩, ra⟩, q⟩ := h
    refine ⟨_, pss_one (ps_ret (pe_op op_sub (pe_callB call_len (by rfl) B.flen (by decide +kernel) (pa_cons (pe_fld (pv 0) rfl) pa_nil)) pe_int)), ?_⟩
    refine ⟨_, rfl, c, CC, dx, _, _, rfl, hc, C.cl, C.nW, cf_w L, .ref L, (rs.map V.ref).length, rfl, .inl ⟨_, .of hL, rfl⟩, _, _, rfl, rfl, ?_⟩
    rw [List.length_map, ra.len]
    exact q
theorem hor_drop {x : PQ} {ps : List PQ} {k : Nat} {p : PQ} (e : ps[k]? = some p) : hor x (ps.drop k) = pl (cr (hor x (ps.drop (k + 1))) x) p := by
  have hk := (List.getElem?_eq_some_iff.mp e).1
  rw [List.drop_eq_getElem_cons hk]
  rw [List.getElem?_eq_getElem hk] at e
  cases Option.some.inj e
  rfl
theorem mul_any {n m : Nat} {H : Hp} {Q : VK} {t : Addr} {y : V} {a x : PQ} (T : RT K mg CR) (rt : RatAt CR H t a.1 a.2) (ny : NumV CR H y x.1 x.2) (oa : Ok n a) (ox : Ok m x) (hn : n ≤ 2000) (hm : m ≤ 2000) (k : ∀ p H', RatAt CR H' p (cr a x).1 (cr a x).2 → Same H H' → Q (.ref p) H') :
    rBinO K CR (spBin CR fMul gMul) (.ref t) y H Q ∨ rBinI CR (spBin CR fMul gMul) (.ref t) y H Q := by
  obtain ⟨dt, ht⟩ := id rt
  rcases id ny with ⟨r, rfl, ry⟩ | ⟨rfl, e⟩
  · exact .inl ⟨t, dt, _, rfl, ht, ry.ty T, t, .ref r, a.1, a.2, x.1, x.2, rfl, rt, ny, oa.t.le hn, oa.b.le hn, ox.t.le hm, ox.b.le hm, oa.pos, ox.pos, oa.g, ox.g, fun v K1 rv sv => ⟨v, rfl, k v K1 rv sv⟩⟩
  · exact .inr ⟨t, dt, _, x.1, rfl, rfl, ht, t, .int x.1, a.1, a.2, x.1, x.2, rfl, rt, ny, oa.t.le hn, oa.b.le hn, ox.t.le hm, ox.b.le hm, oa.pos, ox.pos, oa.g, ox.g, fun v K1 rv sv => ⟨v, rfl, k v K1 rv sv⟩⟩
theorem add_R {n m : Nat} {H : Hp} {Q : VK} {t r : Addr} {a x : PQ} (T : RT K mg CR) (rt : RatAt CR H t a.1 a.2) (rr : RatAt CR H r x.1 x.2) (oa : Ok n a) (ox : Ok m x) (hn : n ≤ 2000) (hm : m ≤ 2000) (k : ∀ p H', RatAt CR H' p (pl a x).1 (pl a x).2 → Same H H' → Q (.ref p) H') :
    rBinO K CR (spBin CR fAdd gMul) (.ref t) (.ref r) H Q := by
  obtain ⟨dt, ht⟩ := id rt
  exact ⟨t, dt, _, rfl, ht, rr.ty T, t, .ref r, a.1, a.2, x.1, x.2, rfl, rt, .inl ⟨r, rfl, rr⟩, oa.t.le hn, oa.b.le hn, ox.t.le hm, ox.b.le hm, oa.pos, ox.pos, oa.g, ox.g, fun v K1 rv sv => ⟨v, rfl, k v K1 rv sv⟩⟩
theorem scCCall : FnScope ["self", "place", "total", "worth"] ["self", "place"] (defScope sCCall) := ⟨rfl, rfl, rfl, by decide +kernel, rfl, by decide +kernel, by decide +kernel⟩
theorem ok_ccall {f fi fA fU : Addr} {fd fdi fdA fdU : FuncData} {d1 : List Value} (F : Fun K "__call__" "Curve.__call__" sCCall f fd) (C : CT K mg CC) (T : RT K mg CR) (M : Mk K CR fi) (GI : FnOk P w K mg base CX0 2 fi fdi ["self", "top", "bottom"] (spRInit CR)) (bR1 : Binds K fdi ["self", "top", "bottom"] d1) (vR1 : Vals [V.int 1] d1)
    (MA : BinM K CR "add" fA) (GA : FnOk P w K mg base CX0 5 fA fdA ["self", "other"] (spBin CR fAdd gMul)) (bA : Binds K fdA ["self", "other"] [])
    (MU : BinM K CR "mul" fU) (NU : BinI K CR "mul") (GU : FnOk P w K mg base CX0 5 fU fdU ["self", "other"] (spBin CR fMul gMul)) (bU : Binds K fdU ["self", "other"] []) :
    FnOk P w K mg base CX0 6 f fd ["self", "place"] (spCCall CR CC) := by
  refine F.ok scCCall (fun vs H Q E h => ?_) (fun cdv A outer s H vs Q E hr h => ?_)
  · obtain ⟨c, y, rs, ps, x, n, m, rfl, _⟩ := h
    rfl
  · obtain ⟨c, y, rs, ps, x, n, m, rfl, cu, ny, ox, op, le, q⟩ := h
    have r3 : Room 3 _ := hr.mono (by decide)
    refine ⟨_, pss_cons (ps_set (i := 2) scCCall.nd rfl (Or.inl rfl) (pe_make M GI r3 (by rfl) T.gl bR1 vR1 pass0 (pa_cons pe_int pa_nil)))
      (pss_cons (ps_for PassesOwn.never rfl (pi_list (pe_revL (pe_fld (pv 0) rfl))) (pg_name (i := 3) scCCall.nd rfl (Or.inl rfl))
        (pss_one (ps_set (i := 2) scCCall.nd rfl (Or.inl rfl) (pe_op (op_binO (op := .Add) MA GA bA hr) (pe_op (op_any (op_binO (op := .Mult) MU GU bU hr) (op_binI (op := .Mult) MU NU GU bU hr)) (pv 2) (pv 1)) (pv 3)))))
      (pss_one (ps_ret (pv 2)))), ?_⟩
    obtain ⟨dx, L, hc, hL⟩ := cu.ex
    refine fun z dz nz nd ne => rat_made (t := 0) (b := 1) rfl nz nd (by decide) (Bd.of (m := 1) (by decide) (by decide +kernel)) fun H1 rz s1 => ?_
    rw [(n_one 0).1, (n_one 0).2] at rz
    refine ⟨_, rfl, c, CC, dx, _, _, rfl, s1 _ _ hc, C.cl, C.nW, cf_w L, L, _, rfl, .of (s1 _ _ hL), fun p hp => ?_⟩
    have sp := same_upd (o := .lst (rs.map V.ref).reverse) hp
    refine ⟨p, rfl, ⟨_, .of upd_same⟩, for_list (xs := (rs.map V.ref).reverse) (fun i σ H' => ∃ (t : Addr) (x3 : Option V), σ = [some (.ref c), some y, some (.ref t), x3] ∧ RatAt CR H' t (hor x (ps.drop (ps.length - i))).1 (hor x (ps.drop (ps.length - i))).2 ∧ Same (upd H1 p (.lst (rs.map V.ref).reverse)) H') ⟨z, none, rfl, ?_, Same.refl _⟩ (fun i σ H' _ ⟨_, _, _, _, sx⟩ => .of (sx _ _ upd_same)) ?_ ?_⟩
    · rw [Nat.sub_zero, List.drop_length]
      exact rz.same sp
    · rintro i v σ H0 hv ⟨t, x3, rfl, rt, s0⟩
      have hi := (List.getElem?_eq_some_iff.mp hv).1
      rw [List.length_reverse, List.length_map, cu.ls.len] at hi
      rw [List.getElem?_reverse (by rw [List.length_map, cu.ls.len]; exact hi), List.length_map, cu.ls.len] at hv
      obtain ⟨r, er, rfl⟩ := map_of hv
      have e2 : ps[ps.length - 1 - i]? = some ps[ps.length - 1 - i] := List.getElem?_eq_getElem (by omega)
      have S := (s1.trans sp).trans s0
      have rr : RatAt CR H0 r (ps[ps.length - 1 - i]).1 (ps[ps.length - 1 - i]).2 := RatAt.same (cu.ls.at_ _ r _ er e2) S
      have ow := op _ (List.mem_of_getElem? e2)
      have oh := hor_ok (n := n) ox (ps := ps.drop (ps.length - i)) fun p' hp' => op p' (List.mem_of_mem_drop hp')
      have hh := hor_drop (x := x) e2
      rw [show ps.length - 1 - i + 1 = ps.length - i by omega] at hh
      have bl : (ps.drop (ps.length - i)).length * (n + m + 1) + 1 + m ≤ 1990 := by
        refine Nat.le_trans ?_ le
        have : (ps.drop (ps.length - i)).length ≤ ps.length := by rw [List.length_drop]; omega
        have := Nat.mul_le_mul_right (n + m + 1) this
        omega
      have bn : n ≤ 1990 := by
        have : 1 * (n + m + 1) ≤ ps.length * (n + m + 1) := Nat.mul_le_mul_right _ (by omega)
        omega
      refine ⟨_, rfl, _, rfl, mul_any T rt (ny.same S) oh ox (by omega) (by omega) fun u K1 ru su => ⟨_, rfl, add_R T ru (rr.same su) (oh.cr ox) ow (by omega) (by omega) fun u2 K2 ru2 su2 => ?_⟩⟩
      refine ⟨u2, some (.ref r), rfl, ?_, (s0.trans su).trans su2⟩
      rw [show ps.length - (i + 1) = ps.length - 1 - i by omega, hh]
      exact ru2
    · rintro σ H0 ⟨t, x3, rfl, rt, s0⟩
      rw [List.length_reverse, List.length_map, cu.ls.len, Nat.sub_self, List.drop_zero] at rt
      exact ⟨_, rfl, q t H0 rt ((s1.trans sp).trans s0)⟩
end
end K36

set_option Elab.async false
set_option linter.all false
set_option maxRecDepth 100000
set_option maxHeartbeats 4000000
/-! A lambda without parameters held as a value: in a tuple, in a list; a def called with such a value. -/
namespace Ux
open PySem PySem.Spec PyProof.Rows L2 LamX
/-- a lambda of the text, and what its body is read as -/
structure LamD where
  params : Arguments
  body : Expr
  scope : Scope
  t : XK → TE
/-- its function object at f, made where the cells are cl -/
def LamO (cl : List (Str × Addr)) (q : Str) (d : LamD) (f c' : Addr) : HO := .ext fun h => ∃ pm ctv : Value, h.get? f = some (PySem.W.kla_obj "<lambda>" q d.params d.body d.scope (cloFrom cl d.scope.names []) pm c' ctv)
structure LamAt (cl : List (Str × Addr)) (q : Str) (H : Hp) (d : LamD) (f c' : Addr) : Prop where
  fn : H f = some (LamO cl q d f c')
  co : H c' = some (CodeO c' q)
theorem lamO_ne {cl : List (Str × Addr)} {q : Str} {d : LamD} {f c' : Addr} (ps : Array Value) : LamO cl q d f c' ≠ .tbl ps := fun z => by
  unfold LamO at z
  cases z
/-- tuples and what is told by one object are kept -/
structure Kp (H H' : Hp) : Prop where
  tup : ∀ b xs, H b = some (.tup xs) → H' b = some (.tup xs)
  ext : ∀ b φ, H b = some (.ext φ) → H' b = some (.ext φ)
theorem Kp.of {H H' : Hp} (e : ∀ b o, H b = some o → H' b = some o) : Kp H H' := ⟨fun b xs => e b _, fun b φ => e b _⟩
theorem Kp.ofN {H H' : Hp} (e : ExtN H H') : Kp H H' := ⟨fun b xs h => e b _ h (fun _ z => by cases z), fun b φ h => e b _ h (fun _ z => by cases z)⟩
theorem Kp.trans {H H1 H2 : Hp} (a : Kp H H1) (b : Kp H1 H2) : Kp H H2 := ⟨fun c xs h => b.tup _ _ (a.tup _ _ h), fun c φ h => b.ext _ _ (a.ext _ _ h)⟩
theorem Kp.but {H H' : Hp} {c : Addr} {xs : List V} (hc : H c = some (.lst xs)) (e : ∀ b o, H b = some o → b ≠ c → H' b = some o) : Kp H H' :=
  ⟨fun b ys h => e b _ h (fun z => by rw [z, hc] at h; cases h), fun b φ h => e b _ h (fun z => by rw [z, hc] at h; cases h)⟩
theorem LamAt.kp {cl : List (Str × Addr)} {q : Str} {H H' : Hp} {d : LamD} {f c' : Addr} (l : LamAt cl q H d f c') (k : Kp H H') : LamAt cl q H' d f c' := ⟨k.ext _ _ l.fn, k.ext _ _ l.co⟩
section
variable {X : Cx} {pins : List (Addr × Obj)} {σ : L2.St} {H : Hp} {s : Shared}
theorem lam_track {h' : Heap} {tk : Nat} {d : LamD} {c' : Addr} {pm ctv : Value} {q : Str} {cl : List (Str × Addr)} {s1 : Shared} (I : Inv X pins σ H s1) (ho : s1.heap = h') :
    Inv X pins σ (upd H h'.objs.size (LamO cl q d h'.objs.size c')) { s1 with heap := h'.push (PySem.W.kla_obj "<lambda>" q d.params d.body d.scope (cloFrom cl d.scope.names []) pm c' ctv), toks := tk } := by
  subst ho
  exact I.laid (fun b u e => Heap.get?_push_of_some _ e) (Nat.le_refl _) ⟨⟨pm, ctv, Heap.get?_push_size _ rfl⟩, ⟨_, Heap.get?_push_size _ rfl⟩, fun h1 h2 ⟨p, v, e⟩ st => ⟨p, v, st _ e⟩⟩
def tLamV (T : List (Addr × Str)) (cl : List (Str × Addr)) (q : Str) (d : LamD) : TE := fun σ H Q => Tabs T H ∧ ∀ (H1 : Hp) (f c' : Addr), ExtN H H1 → Tabs T H1 → LamAt cl q H1 d f c' → Q (.ref f) H1
theorem pe_lamV {T : List (Addr × Str)} {c P : Addr} {params : Arguments} {body : Expr} {scope : Scope} {lpos : Pos} (t : XK → TE) (TB : TabB X.base X.mg c P) (hcode : X.env.code = .ref c)
    (hm : (P, X.env.qual ++ "<lambda>") ∈ T) (hu : ∀ p ∈ T, p.1 = P → p.2 = X.env.qual ++ "<lambda>") (L : LamS X.env.scope scope) (hdef : defaultsOf params X.env = ([], [])) :
    PE X (.Lambda params body scope lpos) (tLamV T X.env.cells (X.env.qual ++ "<lambda>") ⟨params, body, scope, t⟩) := by
  refine ⟨fun pins s σ H Q I h => ?_⟩
  obtain ⟨hT, h⟩ := h
  obtain ⟨ps, hP, htr, ha⟩ := hT _ hm
  refine PySem.W.kla_eval hdef ?_
  have bP := TB.bm.keeps I.bk
  have hP2 : s.heap.get? P = some { cls := .none, data := .fields ps } := I.hok P _ hP
  have fin : ∀ (f c' : Addr) (H1 : Hp) (s' : Shared), Inv X pins σ H1 s' → ExtN H H1 → Tabs T H1 → LamAt X.env.cells (X.env.qual ++ "<lambda>") H1 ⟨params, body, scope, t⟩ f c' → ∃ (v : V) (H' : Hp), Inv X pins σ H' s' ∧ L2.RelV v (.ref f) ∧ Q v H' :=
    fun f c' H1 s' I1 e1 t1 l1 => ⟨.ref f, H1, I1, rfl, h H1 f c' e1 t1 l1⟩
  cases hcd : codeAmong lpos ps.toList with
  | none =>
    refine PySem.W.kla_makeFunction (mg := X.mg) (c := c) (P := P) (ps := ps) (closure_ok (L.has I.ok)) I.ok.glob (I.mod.glob.keeps I.bk) hcode (TB.code.keeps I.bk) hP2 htr hcd TB.gP bP fun c' ctv h' tk hx hge hlt hrec htb => ?_
    obtain ⟨c2, oc, vs, tok, e2, hoc, hd, hv⟩ := hrec
    cases e2
    have nC : H c' = none := I.hok.fresh hge
    have I1 := inv_table (t' := s.toks) (more := #[rawInt lpos.line, rawInt lpos.col, .ref c']) (h' := h') I hP (fun b o hb e => hx b o hb e) htb hge ⟨oc, vs, tok, hoc, hd, hv⟩
    have I2 := lam_track (tk := tk) (d := ⟨params, body, scope, t⟩) (c' := c') (pm := (X.mg "__name__").getD .none) (ctv := ctv) (q := X.env.qual ++ "<lambda>") (cl := X.env.cells) I1 rfl
    have hE : ExtN H (upd (upd H P (.tbl (ps ++ #[rawInt lpos.line, rawInt lpos.col, .ref c']))) c' (CodeO c' (X.env.qual ++ "<lambda>"))) := fun b o e n => by
      have b1 := ne_of_none e nC
      have b2 : b ≠ P := fun z => n ps (by rw [z, hP] at e; exact (Option.some.inj e).symm)
      rw [upd_ne b1, upd_ne b2, e]
    have eL : (ps ++ #[rawInt lpos.line, rawInt lpos.col, .ref c']).toList = ps.toList ++ [rawInt lpos.line, rawInt lpos.col, .ref c'] := by simp
    have nF : (upd (upd H P (.tbl (ps ++ #[rawInt lpos.line, rawInt lpos.col, .ref c']))) c' (CodeO c' (X.env.qual ++ "<lambda>"))) h'.objs.size = none := I1.hok.fresh (Nat.le_refl _)
    have T1 : Tabs T (upd (upd H P (.tbl (ps ++ #[rawInt lpos.line, rawInt lpos.col, .ref c']))) c' (CodeO c' (X.env.qual ++ "<lambda>"))) := fun p hp => by
      by_cases hb : p.1 = P
      · have hq := hu p hp hb
        rw [hq, hb]
        refine ⟨_, (upd_ne (ne_of_none hP nC)).trans upd_same, eL ▸ PySem.TriplesOk_snoc _ _ _ _ htr, fun p' cv hcv => ?_⟩
        rw [eL] at hcv
        rcases among_app _ htr hcv with z | z
        · obtain ⟨c0, w1, w2⟩ := ha p' cv z
          exact ⟨c0, w1, hE _ _ w2 codeO_ne⟩
        · exact ⟨c', z, upd_same⟩
      · obtain ⟨ps', a1, a2, a3⟩ := hT p hp
        refine ⟨ps', ((upd_ne (ne_of_none a1 nC)).trans (upd_ne hb)).trans a1, a2, fun p' cv hcv => ?_⟩
        obtain ⟨c0, w1, w2⟩ := a3 p' cv hcv
        exact ⟨c0, w1, hE _ _ w2 codeO_ne⟩
    have sm : ∀ b o, (upd (upd H P (.tbl (ps ++ #[rawInt lpos.line, rawInt lpos.col, .ref c']))) c' (CodeO c' (X.env.qual ++ "<lambda>"))) b = some o → (upd (upd (upd H P (.tbl (ps ++ #[rawInt lpos.line, rawInt lpos.col, .ref c']))) c' (CodeO c' (X.env.qual ++ "<lambda>"))) h'.objs.size (LamO X.env.cells (X.env.qual ++ "<lambda>") ⟨params, body, scope, t⟩ h'.objs.size c')) b = some o :=
      fun b o e => (upd_ne (ne_of_none e nF)).trans e
    exact fin _ c' _ _ I2 (hE.trans (ExtN.of sm)) (T1.ext sm) ⟨upd_same, sm _ _ upd_same⟩
  | some cv =>
    obtain ⟨c', e, hco⟩ := ha lpos cv hcd
    subst e
    refine PySem.W.kla_makeFunctionHit (mg := X.mg) (c := c) (P := P) (ps := ps) (closure_ok (L.has I.ok)) I.ok.glob (I.mod.glob.keeps I.bk) hcode (TB.code.keeps I.bk) hP2 htr hcd bP fun ctv h' tk hx hsz => ?_
    have I1 : Inv X pins σ H { s with heap := h', toks := s.toks } := I.kept hx
    have I2 := lam_track (tk := tk) (d := ⟨params, body, scope, t⟩) (c' := c') (pm := (X.mg "__name__").getD .none) (ctv := ctv) (q := X.env.qual ++ "<lambda>") (cl := X.env.cells) I1 rfl
    have nF : H h'.objs.size = none := I1.hok.fresh (Nat.le_refl _)
    have sm : ∀ b o, H b = some o → (upd H h'.objs.size (LamO X.env.cells (X.env.qual ++ "<lambda>") ⟨params, body, scope, t⟩ h'.objs.size c')) b = some o := fun b o e => (upd_ne (ne_of_none e nF)).trans e
    exact fin _ c' _ _ I2 (ExtN.of sm) (hT.ext sm) ⟨upd_same, sm _ _ hco⟩
/-- what is asked of a lambda that is called -/
structure LamOk (X : Cx) (k : Nat) (d : LamD) : Prop where
  L : LamS X.env.scope d.scope
  bind : ∀ (q : Str) (cl : List (Str × Addr)) (pm cv ctv : Value), bindArgs (PySem.W.kla_fn "<lambda>" q d.params d.body d.scope cl pm cv ctv) ⟨[], []⟩ = pure []
  body : ∀ (A : Around) (outer : List Env) (s : Shared) (H : Hp) (E : XK) (f c' : Addr), Room k (A.deeper (lamEnv X d.scope s.heap.objs.size f c')) → PE (lamCx X A outer s H E d.scope f c') d.body (d.t E)
/-- x() in the def that got it, the function object told -/
theorem pe_actV {CXg : CXT} {Eg : XK} {Ng : List Str} {qg : Str} {sg : Scope} {g f c' : Addr} {cdg : Value} {k i : Nat} {a : Str} {pn : List (Addr × Obj)} {xe : Value → Shared → Prop} {W : WX} {E : XK} {d : LamD} {p1 p2 : Pos}
    (I : Inv X pins σ H s) (D : LamOk X k d) (tk : Takes ((cxOf CXg X.prog X.w X.K X.mg X.base Ng qg sg g cdg X.A X.stack s H Eg).tr pn xe) W) (hW : ∀ cls dd σ' H', E cls dd H' → W cls dd σ' H')
    (hr : Room (k + 1) (X.A.deeper (envOfC qg sg s.heap.objs.size g cdg))) (hN : Ng[i]? = some a) (hv : Vis sg a) (hd : (a == ("__debug__" : Str)) = false := by decide) (hcd : (a == ("__classdict__" : Str)) = false := by decide) :
    PE ((cxOf CXg X.prog X.w X.K X.mg X.base Ng qg sg g cdg X.A X.stack s H Eg).tr pn xe) (.Call (.Name a p1) [] [] p2)
      (fun σZ HZ Q => σZ[i]? = some (some (.ref f)) ∧ HZ c' = some (CodeO c' (X.env.qual ++ "<lambda>")) ∧ HZ f = some (LamO X.env.cells (X.env.qual ++ "<lambda>") d f c') ∧ d.t E σ HZ Q) := by
  refine ⟨fun pinsZ sZ σZ HZ Q IZ h => ?_⟩
  obtain ⟨hs, hc, hf, ht⟩ := h
  refine wpAny_Call_Name_kw (thn ((pe_var (pos := p1) (i := i) hN hv hd hcd).run pinsZ sZ σZ HZ (fun v H1 => v = .ref f ∧ H1 = HZ) IZ ⟨.ref f, hs, rfl, rfl⟩) fun u s1 ⟨v, H1, I1, r1, q1⟩ => ?_)
  obtain ⟨rfl, eH⟩ := q1
  rw [eH] at I1
  obtain rfl : u = Value.ref f := r1
  obtain ⟨⟨pm, ctv, of1⟩, _, _⟩ := I1.hok f _ hf
  refine PySem.W.callWith_F0 ⟨_, _, _, _, of1⟩ ?_
  have un : Un (frs X.stack) [] H HZ s.heap s1.heap := I1.base
  obtain ⟨⟨oc, vs, tok, hoc, hdc, hvc⟩, _, _⟩ := I1.hok c' _ hc
  have rc : codeAny (model X.prog X.w) (X.A.deeper (envOfC qg sg s.heap.objs.size g cdg)) (.call (.ref f) ⟨[], []⟩) (CR (L2.CX X.prog X.w) (envOfC qg sg s.heap.objs.size g cdg :: X.stack) X.prog X.w HZ s1 Q E) s1 := by
    refine PySem.W.kla_callFunE hr.depth of1 rfl D.L.co D.L.gen rfl ⟨c', oc, vs, tok, rfl, hoc, hdc, hvc⟩ ?_
    rw [D.bind]
    refine wpAny_pure (wpAny_newFunctionEnv (fun y hy => (D.L.own y hy).2) (fun y hy => absurd hy (by simp)) (fun h₁ hns hsb => ⟨I1.nolimit.fresh _ hsb, ?_⟩) D.L.kind)
    show codeAny _ _ (.expr d.body (lamEnv X d.scope s1.heap.objs.size f c')) _ _
    have kp2 : ∀ b o, s1.heap.get? b = some o → h₁.get? b = some o := fun b o e => hsb.extBut b o (Nat.ne_of_lt (Heap.lt_size e)) (Heap.get?_push_of_some _ e)
    have J : Inv (lamCx X (X.A.deeper (envOfC qg sg s.heap.objs.size g cdg)) (envOfC qg sg s.heap.objs.size g cdg :: X.stack) s1 HZ E d.scope f c') [] σ HZ { s1 with heap := h₁, toks := s1.toks + ([] : List (Str × Value)).length } := lam_start2 I D.L I1.env0 hr.hd un hns kp2
    refine PySem.W.kla_codeExpr (wpAny_mono ((D.body _ _ s1 HZ E f c' (hr.deeper _)).run [] _ _ HZ Q J ht) (fun v s' ⟨w', H', J', rv, q⟩ => ⟨w', H', J'.os, J'.bare, J'.base, J'.hok, rv, q⟩) fun e s' hq => hq)
  have hx : Passes (L2.CX X.prog X.w) ((cxOf CXg X.prog X.w X.K X.mg X.base Ng qg sg g cdg X.A X.stack s H Eg).tr pn xe) E := passes_call tk hW
  refine wpAny_call (codeAny_mono rc fun r s' hq => ?_)
  rcases r with e | (_ | _ | _ | u)
  · exact hx pinsZ σZ HZ s1 e s' I1 hq
  · exact False.elim hq
  · exact False.elim hq
  · exact False.elim hq
  · exact I1.after hq
def tLamCall (cl : List (Str × Addr)) (q : Str) (TT : (XK → Hp → VK → Prop) → Hp → VK → Prop) (ds : List LamD) (te : TE) : TE := fun σ H Q => te σ H fun v H1 => ∃ (f c' : Addr) (d : LamD), d ∈ ds ∧ v = .ref f ∧ LamAt cl q H1 d f c' ∧
  TT (fun E H' Q' => H' f = some (LamO cl q d f c') ∧ d.t E σ H' Q') H1 Q
/-- x(y), where y is one of some lambdas -/
theorem pe_lamval {ds : List LamD} {te : TE} {TT : (XK → Hp → VK → Prop) → Hp → VK → Prop} {x a y : Str} {g : Addr} {k : Nat} {pg : Arguments} {bg : List Stmt} {sg : Scope} {dV kV doc pm cdv ct oc : Value} {an od : Option Addr} {osl : Array (Option Value)} {Ng : List Str} {p py pos : Pos}
    (hg : Gl X x) (hm : X.mg x = some (.ref g)) (hk : PySem.W.keepIn X.K (.ref g) = true) (lk : X.K.lookup g = some ⟨oc, od, .func (PySem.W.fnOf x x pg bg sg dV kV doc pm an cdv ct), osl⟩) (hcg : PySem.W.codeIn X.K cdv x = true)
    (hb : L2.Binds X.K (PySem.W.fnOf x x pg bg sg dV kV doc pm an cdv ct) [a] []) (Sg : FnScope Ng [a] sg) (hNg : Ng[0]? = some a) (hva : Vis sg a) (hG : GivesTo X Ng x sg g cdv bg a (X.env.qual ++ "<lambda>") TT) (hr : Room (k + 2) X.A)
    (hds : ∀ d ∈ ds, LamOk X k d) (he : PE X (.Name y py) te) (hdb : (x == ("__debug__" : Str)) = false := by decide) (hd : (a == ("__debug__" : Str)) = false := by decide) (hcd : (a == ("__classdict__" : Str)) = false := by decide) :
    PE X (.Call (.Name x p) [.Name y py] [] pos) (tLamCall X.env.cells (X.env.qual ++ "<lambda>") TT ds te) := by
  refine ⟨fun pins s σ H Q I h => ?_⟩
  refine wpAny_Call_Name_kw (ld_glob I hg hm ?_ hdb)
  refine PySem.W.callWith_K (h₀ := X.base) I.ok.mod.kin hk ?_ (by rfl) (by rfl)
  show wpAny _ _ (spliced ((false, eval (.Name y py) X.env) :: backTo pos (starEach [] X.env))) _ _ s
  refine Calls.spliced_cons (thn (he.run pins s σ H _ I h) fun u s' ⟨v, H1, I1, rv, hq⟩ => ?_)
  obtain ⟨f, c', d, hmem, rfl, la, htt⟩ := hq
  obtain rfl : u = Value.ref f := rv
  refine Calls.spliced_nil ⟨I1.kIn, ?_⟩
  have rc : codeAny (model X.prog X.w) X.A (.call (.ref g) ⟨[.ref f], []⟩) (CR C8.CX0 X.stack X.prog X.w H1 s' Q C8.E0) s' := by
    refine run_ofS (N := Ng) (ps := [a]) (us := [.ref f]) (vs := [.ref f]) lk hcg Sg hr I1.env0 (hb s' [.ref f] I1.kIn rfl) (.cons rfl .nil) rfl fun hr2 => ?_
    obtain ⟨t', ht', hq'⟩ := hG f c' s' H1 Q (fun E H' Q' => H' f = some (LamO X.env.cells (X.env.qual ++ "<lambda>") d f c') ∧ d.t E σ H' Q') (fun W pn xe E p1 p2 tk hW => pe_actV (i := 0) I1 (hds d hmem) tk hW hr2 hNg hva hd hcd) la.co htt
    exact ⟨t', ht'.nox, hq'⟩
  refine wpAny_call (codeAny_mono rc fun r s2 hq => ?_)
  rcases r with e | (_ | _ | _ | u)
  · exact (show False from hq).elim
  · exact False.elim hq
  · exact False.elim hq
  · exact False.elim hq
  · exact I1.after hq
end
/-! ### a list of pairs of a lambda and a text -/
def tPairs (T : List (Addr × Str)) (cl : List (Str × Addr)) (q : Str) : List (LamD × Str) → TA
  | [] => tNil
  | (d, w) :: r => tCons (tTup (tCons (tLamV T cl q d) (tCons (tC (.str w)) tNil))) (tPairs T cl q r)
def Prs (cl : List (Str × Addr)) (q : Str) (H : Hp) : List Addr → List (LamD × Str) → Prop
  | [], [] => True
  | t :: ts, (d, w) :: r => (∃ f c' : Addr, H t = some (.tup [.ref f, .str w]) ∧ LamAt cl q H d f c') ∧ Prs cl q H ts r
  | _, _ => False
theorem Prs.kp {cl : List (Str × Addr)} {q : Str} {H H' : Hp} (k : Kp H H') : ∀ {ts : List Addr} {ds : List (LamD × Str)}, Prs cl q H ts ds → Prs cl q H' ts ds
  | [], [], _ => True.intro
  | t :: ts, (d, w) :: r, h => by
    obtain ⟨⟨f, c', h1, h2⟩, h3⟩ := h
    exact ⟨⟨f, c', k.tup _ _ h1, h2.kp k⟩, h3.kp k⟩
  | [], _ :: _, h => h.elim
  | _ :: _, [], h => h.elim
theorem Prs.at {cl : List (Str × Addr)} {q : Str} {H : Hp} : ∀ {ts : List Addr} {ds : List (LamD × Str)}, Prs cl q H ts ds → ts.length = ds.length ∧ ∀ (i : Nat) (d : LamD) (w : Str), ds[i]? = some (d, w) → ∃ t f c' : Addr, ts[i]? = some t ∧ H t = some (.tup [.ref f, .str w]) ∧ LamAt cl q H d f c'
  | [], [], _ => ⟨rfl, fun i d w e => by cases e⟩
  | t :: ts, (d, w) :: r, h => by
    obtain ⟨⟨f, c', h1, h2⟩, h3⟩ := h
    have z := h3.at
    refine ⟨by simp [z.1], fun i d' w' e => ?_⟩
    cases i with
    | zero =>
      cases e
      exact ⟨t, f, c', rfl, h1, h2⟩
    | succ j => exact z.2 j d' w' e
  | [], _ :: _, h => h.elim
  | _ :: _, [], h => h.elim
theorem pairs_of {T : List (Addr × Str)} {cl : List (Str × Addr)} {q : Str} {σ : L2.St} : ∀ (ds : List (LamD × Str)) {H : Hp} {Q : List V → Hp → Prop}, Tabs T H → (∀ (H1 : Hp) (ts : List Addr), ExtN H H1 → Tabs T H1 → Prs cl q H1 ts ds → Q (ts.map V.ref) H1) → tPairs T cl q ds σ H Q
  | [], H, Q, hT, h => h H [] (ExtN.refl H) hT True.intro
  | (d, w) :: r, H, Q, hT, h => by
    refine ⟨hT, fun H1 f c' e1 T1 la => ⟨(by show 2 ≤ sizeLine; decide), fun t nt => ?_⟩⟩
    have sm : ∀ b o, H1 b = some o → (upd H1 t (.tup [.ref f, .str w])) b = some o := fun b o e => (upd_ne (ne_of_none e nt)).trans e
    refine pairs_of r (T1.ext sm) fun H3 ts e3 T3 pr => h H3 (t :: ts) (e1.trans ((ExtN.of sm).trans e3)) T3 ⟨⟨f, c', e3 _ _ upd_same (fun _ z => by cases z), (la.kp (Kp.of sm)).kp (Kp.ofN e3)⟩, pr⟩
end Ux

set_option Elab.async false
set_option linter.all false
set_option maxRecDepth 100000
set_option maxHeartbeats 4000000
/-! A lambda with one parameter that has a default, held as a value and called without arguments. -/
namespace Ux
open PySem PySem.Spec PySem.Calls PyProof.Rows L2 LamX PySem.W
/-- the function object of a lambda whose defaults stand in a tuple -/
abbrev ldFn (q : Str) (params : Arguments) (body : Expr) (scope : Scope) (cl : List (Str × Addr)) (pm cdv ct dV : Value) : FuncData := { PySem.W.kla_fn "<lambda>" q params body scope cl pm cdv ct with defaults := dV }
abbrev ldObj (q : Str) (params : Arguments) (body : Expr) (scope : Scope) (cl : List (Str × Addr)) (pm : Value) (cv : Value) (ct dV : Value) : Obj := { cls := .type "function", data := .func (ldFn q params body scope cl pm cv ct dV) }
section
variable {M : Model} {A : Around} {E : Value → Shared → Prop} {s : Shared} {q : Str} {params : Arguments} {body : Expr} {scope : Scope} {env : Env} {c P : Addr} {ps : Array Value} {pos : Pos} {fl : Nat} {mg : Str → Option Value} {clos : List (Str × Addr)} {Q : Value → Shared → Prop} {dV : Value}
theorem ld_miss (hcl : closureFor scope env = pure clos) (hge : env.globals = mainGlobals) (hg : s.heap.Ns mainGlobals mg) (hcode : env.code = .ref c) (C : CodeHd s.heap c P) (hP : s.heap.get? P = some (tabObj ps)) (ht : TriplesOk ps.toList) (hnf : codeAmong pos ps.toList = none) (hgP : mainGlobals ≠ P) (hb : s.heap.BuiltinsAt mg P)
    (h : ∀ c' ctv h' tk, Heap.ExtBut P s.heap h' → s.heap.objs.size ≤ c' → c' < h'.objs.size → h'.CodeRec (.ref c') q → h'.get? P = some (tabObj (ps ++ #[rawInt pos.line, rawInt pos.col, .ref c'])) → Q (.ref h'.objs.size) { s with heap := h'.push (ldObj q params body scope clos ((mg "__name__").getD .none) (.ref c') ctv dV), toks := tk }) :
    wpAny M A (makeTail "<lambda>" q params (.expr body) scope env dV .none none pos fl) Q E s := by
  obtain ⟨bm, ob, b1, b2, _, b4, b5, b6, b7, b8⟩ := hb
  unfold makeTail; rw [hcl, hge]; refine wpAny_bind (wpAny_pure ?_)
  cases clos with
  | nil =>
    simp only [List.isEmpty_nil, if_true]; refine wpAny_bind (wpAny_pure ?_)
    refine wpAny_bind (wpAny_functionCodeX hcode (C.code hP ht) (C.tab hP) hnf fun c' h' tk hx hge' hlt _ hrec htb _ => ?_); have hg' := hg.extBut hx hgP
    refine wpAny_bind (wpAny_builtinsFor hg' b1 b2 (hx _ _ b4 b5) b6 b7 b8 (wpAny_bind (wpAny_nsGet hg' (wpAny_bind (wpAny_pure (wpAny_newObj_type (h c' .none h' tk hx hge' hlt hrec htb.2) (by size_fits)))))))
  | cons z r =>
    simp only [List.isEmpty_cons, Bool.false_eq_true, if_false]; refine wpAny_bind (wpAny_newTextTuple ?_)
    refine wpAny_bind (wpAny_functionCodeX hcode ((C.keeps fun b o e => Heap.get?_push_of_some _ e).code (Heap.get?_push_of_some _ hP) ht) ((C.keeps fun b o e => Heap.get?_push_of_some _ e).tab (Heap.get?_push_of_some _ hP)) hnf fun c' h' tk hx hge' hlt _ hrec htb _ => ?_); have hg' := (hg.push _).extBut hx hgP
    have hx2 : Heap.ExtBut P s.heap h' := fun b o n e => hx b o n (Heap.get?_push_of_some _ e); have hge2 : s.heap.objs.size ≤ c' := Nat.le_trans (by rw [Heap.size_push]; omega) hge'
    refine wpAny_bind (wpAny_builtinsFor hg' b1 b2 (hx2 _ _ b4 b5) b6 b7 b8 (wpAny_bind (wpAny_nsGet hg' (wpAny_bind (wpAny_pure (wpAny_newObj_type (h c' _ h' tk hx2 hge2 hlt hrec htb.2) (by size_fits)))))))
theorem ld_hit {cv : Value} (hcl : closureFor scope env = pure clos) (hge : env.globals = mainGlobals) (hg : s.heap.Ns mainGlobals mg) (hcode : env.code = .ref c) (C : CodeHd s.heap c P) (hP : s.heap.get? P = some (tabObj ps)) (ht : TriplesOk ps.toList) (hf : codeAmong pos ps.toList = some cv) (hb : s.heap.BuiltinsAt mg P)
    (h : ∀ (ctv : Value) (h' : Heap) (tk : Tok), (∀ b o, s.heap.get? b = some o → h'.get? b = some o) → s.heap.objs.size ≤ h'.objs.size → Q (.ref h'.objs.size) { s with heap := h'.push (ldObj q params body scope clos ((mg "__name__").getD .none) cv ctv dV), toks := tk }) :
    wpAny M A (makeTail "<lambda>" q params (.expr body) scope env dV .none none pos fl) Q E s := by
  obtain ⟨bm, ob, b1, b2, _, b4, b5, b6, b7, b8⟩ := hb
  unfold makeTail; rw [hcl, hge]; refine wpAny_bind (wpAny_pure ?_)
  cases clos with
  | nil =>
    simp only [List.isEmpty_nil, if_true]; refine wpAny_bind (wpAny_pure (wpAny_bind (wpAny_functionCode_hit hcode (C.code hP ht) hf ?_)))
    refine wpAny_bind (wpAny_builtinsFor hg b1 b2 b5 b6 b7 b8 (wpAny_bind (wpAny_nsGet hg (wpAny_bind (wpAny_pure (wpAny_newObj_type (h .none s.heap s.toks (fun _ _ e => e) (Nat.le_refl _)) (by size_fits)))))))
  | cons z r =>
    simp only [List.isEmpty_cons, Bool.false_eq_true, if_false]; refine wpAny_bind (wpAny_newTextTuple ?_)
    refine wpAny_bind (wpAny_functionCode_hit hcode ((C.keeps fun b o e => Heap.get?_push_of_some _ e).code (Heap.get?_push_of_some _ hP) ht) hf ?_)
    have sz : ∀ oT : Obj, s.heap.objs.size ≤ (s.heap.push oT).objs.size := fun oT => by rw [Heap.size_push]; omega
    refine wpAny_bind (wpAny_builtinsFor (hg.push _) b1 b2 (Heap.get?_push_of_some _ b5) b6 b7 b8 (wpAny_bind (wpAny_nsGet (hg.push _) (wpAny_bind (wpAny_pure (wpAny_newObj_type (h _ _ s.toks (fun b o e => Heap.get?_push_of_some _ e) (sz _)) (by size_fits)))))))
/-- the expression: the default first, then its tuple, then the function -/
theorem ld_eval {x : Sem Value} (hdef : defaultsOf params env = ([x], [])) (hk : params.kwonlyargs = [])
    (h : wpAny M A x (fun v s1 => wpAny M A (makeTail "<lambda>" (env.qual ++ "<lambda>") params (.expr body) scope env (.ref s1.heap.objs.size) .none none pos pos.line) Q E { s1 with heap := s1.heap.push { cls := .type "tuple", data := .seq #[v] } }) E s) :
    wpAny M A (eval (.Lambda params body scope pos) env) Q E s := by
  rw [arm_eval_Lambda, hdef]
  show wpAny M A (do let dv ← evalAll [x]; let kdv ← holding dv (evalAllOpt []); makeFunction "<lambda>" (env.qual ++ "<lambda>") params (.expr body) scope env dv kdv [] pos pos.line) Q E s
  refine wpAny_bind ?_
  show wpAny M A (do let v ← x; return v :: (← holding [v] (evalAll []))) _ E s
  refine wpAny_bind (wpAny_mono h (fun v s1 hv => ?_) fun e s1 he => he)
  refine wpAny_bind (wpAny_holding (wpAny_pure (wpAny_pure (wpAny_bind (wpAny_holding (wpAny_pure ?_))))))
  rw [makeFunction_eq, hk]
  simp only [List.zip_nil_left, List.filterMap_nil, List.isEmpty_nil, List.isEmpty_cons, if_true, pure_bind, Bool.false_eq_true, if_false]
  exact wpAny_bind (wpAny_newTextTuple hv)
end
end Ux

set_option Elab.async false
set_option linter.all false
set_option maxRecDepth 100000
set_option maxHeartbeats 4000000
namespace Ux
open PySem PySem.Spec PyProof.Rows L2 LamX
/-- a lambda with one parameter x, its default dv -/
structure LamE where
  params : Arguments
  body : Expr
  scope : Scope
  t : XK → TE
  x : Str
  dv : V
def LamOE (cl : List (Str × Addr)) (q : Str) (d : LamE) (f c' T : Addr) : HO := .ext fun h => ∃ pm ctv : Value, h.get? f = some (ldObj q d.params d.body d.scope (cloFrom cl d.scope.names []) pm (.ref c') ctv (.ref T))
structure LamAtE (cl : List (Str × Addr)) (q : Str) (H : Hp) (d : LamE) (f c' T : Addr) : Prop where
  fn : H f = some (LamOE cl q d f c' T)
  co : H c' = some (CodeO c' q)
  df : H T = some (.tup [d.dv])
theorem LamAtE.kp {cl : List (Str × Addr)} {q : Str} {H H' : Hp} {d : LamE} {f c' T : Addr} (l : LamAtE cl q H d f c' T) (k : Kp H H') : LamAtE cl q H' d f c' T := ⟨k.ext _ _ l.fn, k.ext _ _ l.co, k.tup _ _ l.df⟩
/-- its names: one parameter that is no name of the frame around it, captured ones, globals -/
structure LamSE (N : List Str) (sc scope : Scope) (x : Str) : Prop where
  kind : scope.kind = .function
  co : scope.isCoroutine = false
  gen : scope.isGenerator = false
  own : ∀ y ∈ scope.names, y.2 ≠ .cell ∧ (y.2 = .local → y.1 ∉ N)
  par : scope.names.lookup x = some .local
  free : ∀ y ∈ scope.names, y.2 = .free → sc.names.lookup y.1 = some .cell ∨ sc.names.lookup y.1 = some .free
def lamSEB (N : List Str) (sc scope : Scope) (x : Str) : Bool :=
  decide (scope.kind = .function) && (!scope.isCoroutine && (!scope.isGenerator && (decide (scope.names.lookup x = some .local) && scope.names.all fun y => !decide (y.2 = .cell) && ((!decide (y.2 = .local) || !decide (y.1 ∈ N)) && (!decide (y.2 = .free) || (decide (sc.names.lookup y.1 = some .cell) || decide (sc.names.lookup y.1 = some .free)))))))
theorem lamSE_by {N : List Str} {sc scope : Scope} {x : Str} (h : lamSEB N sc scope x = true) : LamSE N sc scope x := by
  unfold lamSEB at h
  simp only [Bool.and_eq_true, Bool.or_eq_true, Bool.not_eq_true', decide_eq_true_eq, decide_eq_false_iff_not, List.all_eq_true] at h
  obtain ⟨h1, h2, h3, h5, h4⟩ := h
  refine ⟨h1, h2, h3, fun y hy => ⟨(h4 y hy).1, fun e => ((h4 y hy).2.1).elim (fun z => absurd e z) id⟩, h5, fun y hy e => ?_⟩
  rcases (h4 y hy).2.2 with z | z | z
  · exact absurd e z
  · exact .inl z
  · exact .inr z
section
variable {X : Cx} {pins : List (Addr × Obj)} {σ : L2.St} {H HZ : Hp} {s s1 : Shared}
theorem LamSE.has {scope : Scope} {x : Str} (L : LamSE X.N X.env.scope scope x) (ok : X.Ok) : ∀ y ∈ scope.names, y.2 = .free → ∃ c, X.env.cells.lookup y.1 = some c := fun y hy e => (L.free y hy e).elim (fun k => ok.has _ (.inl k)) fun k => ok.has _ (.inr k)
theorem lam_startE {A : Around} {outer : List Env} {E : XK} {scope : Scope} {x : Str} {f c' : Addr} {h₁ : Heap} {tk : Nat} {m1 : Str → Option Value} (I : Inv X pins σ H s) (L : LamSE X.N X.env.scope scope x) (e0 : Env0 X.prog X.w X.K X.mg X.base A outer s1 HZ) (hd : A.handled = none)
    (un : Un (frs X.stack) [] H HZ s.heap s1.heap) (hns : h₁.Ns s1.heap.objs.size m1) (kp : ∀ b o, s1.heap.get? b = some o → h₁.get? b = some o) :
    Inv (lamCx X A outer s1 HZ E scope f c') [] σ HZ { s1 with heap := h₁, toks := tk } := by
  have hfree := L.has I.ok
  have cm : ∀ {y c}, (cloFrom X.env.cells scope.names []).lookup y = some c → X.env.cells.lookup y = some c := fun {y c} e => by
    rcases cloFrom_mem (PySem.mem_of_lookup e) with hm | ⟨h1, h2⟩
    · cases hm
    · obtain ⟨c1, hc⟩ := hfree _ h1 rfl
      replace hc : X.env.cells.lookup y = some c1 := hc
      have e2 : c = c1 := by rw [h2, hc] <;> rfl
      exact e2 ▸ hc
  have look : ∀ {y}, scope.names.lookup y = some .free → ∃ c, (cloFrom X.env.cells scope.names []).lookup y = some c := fun {y} hl => by
    have hy : (y, NameKind.free) ∈ scope.names := PySem.mem_of_lookup hl; exact mem_lookup (cloFrom_has (cells := X.env.cells) (acc := []) hy)
  have cellK : ∀ {c : Addr} {v : Option Value}, H c = none → s.heap.IsCell c v → h₁.IsCell c v := fun {c v} n ⟨o, ho, hd⟩ => by
    obtain ⟨sl, q⟩ := un.any ho n (by simp); exact ⟨_, kp _ _ q, hd⟩
  have noA : ∀ b : Addr, b ∉ (lamCx X A outer s1 HZ E scope f c').ex := fun b z => absurd (show b ∈ ([] : List Addr) from z) (by simp)
  refine ⟨⟨e0.mod, L.kind, rfl, rfl, Nat.le_refl _, fun y z c e1 e2 => I.ok.inj y z c (cm e1) (cm e2), fun y hy => ?_, fun y c z _ => ?_, fun _ => hd, Around.frames_deeper e0.frames, .inr ⟨rfl, rfl⟩, fun b z => absurd z (noA b), e0.bs, e0.bsz, fun b _ _ => noA b, fun b z => absurd z (noA b), e0.funs, e0.frf⟩,
    rfl, e0.bare, Un.kept kp, ⟨_, hns, fun i y v e1 e2 e3 => ?_⟩, fun y c e => ?_, e0.hok.fresh (Nat.le_refl _), fun y c e => ?_, fun q hq => absurd (show q ∈ ([] : List (Addr × Obj)) ++ [] from hq) (by simp), e0.hok.kept kp, I.len⟩
  · replace hy : scope.names.lookup y = some .cell ∨ scope.names.lookup y = some .free := hy
    exact hy.elim (fun hy => absurd rfl (L.own _ (PySem.mem_of_lookup hy)).1) look
  · cases (show false = true from z)
  · replace e3 : Vis scope y := e3
    rcases e3 with k | k | k
    · exact absurd (List.mem_of_getElem? (show X.N[i]? = some y from e1)) ((L.own _ (PySem.mem_of_lookup k)).2 rfl)
    · exact absurd rfl (L.own _ (PySem.mem_of_lookup k)).1
    · obtain ⟨m, hn, hl⟩ := I.loc
      obtain ⟨w', r, q⟩ := hl i y v e1 e2 ((L.free _ (PySem.mem_of_lookup k) rfl).elim (fun k => .inr (.inl k)) fun k => .inr (.inr k))
      obtain ⟨c2, h2⟩ := look k
      have c1 := cm h2
      refine ⟨w', r, .inr ⟨.inr k, c2, h2, ?_⟩⟩
      rcases q with ⟨k', _⟩ | ⟨_, c3, e', z⟩
      · replace k' : X.env.scope.names.lookup y = some .local := k'
        rcases L.free _ (PySem.mem_of_lookup k) rfl with k2 | k2 <;> rw [show X.env.scope.names.lookup y = _ from k2] at k' <;> cases k'
      · rw [c1] at e'
        cases e'
        exact cellK (I.freeC y _ c1) z
  · obtain ⟨w', z⟩ := I.cell y c (cm e); exact ⟨w', cellK (I.freeC y c (cm e)) z⟩
  · obtain ⟨v, o, ho, hd⟩ := I.cell y c (cm e); exact un.free c o ho (I.freeC y c (cm e)) (by simp)
end
end Ux

set_option Elab.async false
set_option linter.all false
set_option maxRecDepth 100000
set_option maxHeartbeats 4000000
namespace Ux
open PySem PySem.Spec PyProof.Rows L2 LamX
theorem lamOE_ne {cl : List (Str × Addr)} {q : Str} {d : LamE} {f c' T : Addr} (ps : Array Value) : LamOE cl q d f c' T ≠ .tbl ps := fun z => by
  unfold LamOE at z
  cases z
section
variable {X : Cx} {pins : List (Addr × Obj)} {σ : L2.St} {H : Hp} {s : Shared}
theorem lam_trackE {h' : Heap} {tk : Nat} {d : LamE} {c' T : Addr} {pm ctv : Value} {q : Str} {cl : List (Str × Addr)} {s1 : Shared} (I : Inv X pins σ H s1) (ho : s1.heap = h') :
    Inv X pins σ (upd H h'.objs.size (LamOE cl q d h'.objs.size c' T)) { s1 with heap := h'.push (ldObj q d.params d.body d.scope (cloFrom cl d.scope.names []) pm (.ref c') ctv (.ref T)), toks := tk } := by
  subst ho
  exact I.laid (fun b u e => Heap.get?_push_of_some _ e) (Nat.le_refl _) ⟨⟨pm, ctv, Heap.get?_push_size _ rfl⟩, ⟨_, Heap.get?_push_size _ rfl⟩, fun h1 h2 ⟨p, v, e⟩ st => ⟨p, v, st _ e⟩⟩
def tLamVE (Tb : List (Addr × Str)) (cl : List (Str × Addr)) (q : Str) (d : LamE) : TE := fun σ H Q => Tabs Tb H ∧ ∀ (H1 : Hp) (f c' T : Addr), ExtN H H1 → Tabs Tb H1 → LamAtE cl q H1 d f c' T → Q (.ref f) H1
/-- lambda x = e: body, where e is plain -/
theorem pe_lamVE {Tb : List (Addr × Str)} {c P : Addr} {params : Arguments} {body e : Expr} {scope : Scope} {lpos : Pos} {dv : V} (t : XK → TE) (x : Str) (TB : TabB X.base X.mg c P) (hcode : X.env.code = .ref c)
    (hm : (P, X.env.qual ++ "<lambda>") ∈ Tb) (hu : ∀ p ∈ Tb, p.1 = P → p.2 = X.env.qual ++ "<lambda>") (L : LamSE X.N X.env.scope scope x) (hdef : defaultsOf params X.env = ([eval e X.env], [])) (hk : params.kwonlyargs = []) (he : PE X e (tC dv)) :
    PE X (.Lambda params body scope lpos) (tLamVE Tb X.env.cells (X.env.qual ++ "<lambda>") ⟨params, body, scope, t, x, dv⟩) := by
  refine ⟨fun pins s0 σ H0 Q I0 h => ?_⟩
  obtain ⟨hT0, h⟩ := h
  refine ld_eval hdef hk (wpAny_mono (he.run pins s0 σ H0 (fun v H1 => v = dv ∧ H1 = H0) I0 ⟨rfl, rfl⟩) (fun u sa hq => ?_) fun e' s' hx => hx)
  obtain ⟨v, Ha, Ia, rv, ev, eH⟩ := hq
  subst ev
  rw [eH] at Ia
  have nT : H0 sa.heap.objs.size = none := Ia.hok.fresh (Nat.le_refl _)
  have I := Ia.laid (a := sa.heap.objs.size) (o := .tup [v]) (h' := sa.heap.push { cls := .type "tuple", data := .seq #[u] }) (t' := sa.toks) (fun b w e => Heap.get?_push_of_some _ e) (Nat.le_refl _)
    ⟨(by show 1 ≤ sizeLine; decide), [u], .cons rv .nil, _, Heap.get?_push_size _ rfl, rfl, 0, rfl⟩
  have sT : ∀ b o, H0 b = some o → (upd H0 sa.heap.objs.size (.tup [v])) b = some o := fun b o e => (upd_ne (ne_of_none e nT)).trans e
  have dT : (upd H0 sa.heap.objs.size (.tup [v])) sa.heap.objs.size = some (.tup [v]) := upd_same
  have hT := hT0.ext sT
  generalize hTT : sa.heap.objs.size = TT at *
  generalize hH : upd H0 TT (.tup [v]) = H at *
  obtain ⟨ps, hP, htr, ha⟩ := hT _ hm
  have bP := TB.bm.keeps I.bk; have hP2 := I.hok P _ hP
  have fin : ∀ (f c' : Addr) (H1 : Hp) (s' : Shared), Inv X pins σ H1 s' → ExtN H H1 → Tabs Tb H1 → LamAtE X.env.cells (X.env.qual ++ "<lambda>") H1 ⟨params, body, scope, t, x, v⟩ f c' TT → ∃ (v : V) (H' : Hp), Inv X pins σ H' s' ∧ L2.RelV v (.ref f) ∧ Q v H' :=
    fun f c' H1 s' I1 e1 t1 l1 => ⟨.ref f, H1, I1, rfl, h H1 f c' TT ((ExtN.of sT).trans e1) t1 l1⟩
  cases hcd : codeAmong lpos ps.toList with
  | none =>
    refine ld_miss (mg := X.mg) (c := c) (P := P) (ps := ps) (closure_ok (L.has I.ok)) I.ok.glob (I.mod.glob.keeps I.bk) hcode (TB.code.keeps I.bk) hP2 htr hcd TB.gP bP fun c' ctv h' tk hx hge hlt hrec htb => ?_
    obtain ⟨c2, oc, vs, tok, e2, hoc, hd, hv⟩ := hrec
    cases e2
    have nC : H c' = none := I.hok.fresh hge; have I1 := inv_table (t' := sa.toks) (more := #[rawInt lpos.line, rawInt lpos.col, .ref c']) (h' := h') I hP (fun b o hb e => hx b o hb e) htb hge ⟨oc, vs, tok, hoc, hd, hv⟩
    have I2 := lam_trackE (tk := tk) (d := ⟨params, body, scope, t, x, v⟩) (c' := c') (T := TT) (pm := (X.mg "__name__").getD .none) (ctv := ctv) (q := X.env.qual ++ "<lambda>") (cl := X.env.cells) I1 rfl
    have hE : ExtN H (upd (upd H P (.tbl (ps ++ #[rawInt lpos.line, rawInt lpos.col, .ref c']))) c' (CodeO c' (X.env.qual ++ "<lambda>"))) := fun b o e n => by
      have b1 := ne_of_none e nC
      have b2 : b ≠ P := fun z => n ps (by rw [z, hP] at e; exact (Option.some.inj e).symm)
      rw [upd_ne b1, upd_ne b2, e]
    have eL : (ps ++ #[rawInt lpos.line, rawInt lpos.col, .ref c']).toList = ps.toList ++ [rawInt lpos.line, rawInt lpos.col, .ref c'] := by simp
    generalize hHc : upd (upd H P (.tbl (ps ++ #[rawInt lpos.line, rawInt lpos.col, .ref c']))) c' (CodeO c' (X.env.qual ++ "<lambda>")) = Hc at *
    have nF : Hc h'.objs.size = none := I1.hok.fresh (Nat.le_refl _)
    have cC : Hc c' = some (CodeO c' (X.env.qual ++ "<lambda>")) := by rw [← hHc]; exact upd_same
    have T1 : Tabs Tb Hc := fun p hp => by
      by_cases hb : p.1 = P
      · rw [hu p hp hb, hb]
        refine ⟨ps ++ #[rawInt lpos.line, rawInt lpos.col, .ref c'], by rw [← hHc]; exact (upd_ne (ne_of_none hP nC)).trans upd_same, eL ▸ PySem.TriplesOk_snoc _ _ _ _ htr, fun p' cv hcv => ?_⟩
        rw [eL] at hcv
        exact (among_app _ htr hcv).elim (fun z => let ⟨c0, w1, w2⟩ := ha p' cv z; ⟨c0, w1, hE _ _ w2 codeO_ne⟩) fun z => ⟨c', z, cC⟩
      · obtain ⟨ps', a1, a2, a3⟩ := hT p hp; refine ⟨ps', by rw [← hHc]; exact ((upd_ne (ne_of_none a1 nC)).trans (upd_ne hb)).trans a1, a2, fun p' cv hcv => ?_⟩
        exact let ⟨c0, w1, w2⟩ := a3 p' cv hcv; ⟨c0, w1, hE _ _ w2 codeO_ne⟩
    have sm : ∀ b o, Hc b = some o → (upd Hc h'.objs.size (LamOE X.env.cells (X.env.qual ++ "<lambda>") ⟨params, body, scope, t, x, v⟩ h'.objs.size c' TT)) b = some o := fun b o e => (upd_ne (ne_of_none e nF)).trans e
    exact fin _ c' _ _ I2 (hE.trans (ExtN.of sm)) (T1.ext sm) ⟨upd_same, sm _ _ cC, sm _ _ (hE _ _ dT fun _ z => by cases z)⟩
  | some cv =>
    obtain ⟨c', e, hco⟩ := ha lpos cv hcd
    subst e
    refine ld_hit (mg := X.mg) (c := c) (P := P) (ps := ps) (closure_ok (L.has I.ok)) I.ok.glob (I.mod.glob.keeps I.bk) hcode (TB.code.keeps I.bk) hP2 htr hcd bP fun ctv h' tk hx hsz => ?_
    have I1 : Inv X pins σ H { sa with heap := h', toks := sa.toks } := I.kept hx
    have I2 := lam_trackE (tk := tk) (d := ⟨params, body, scope, t, x, v⟩) (c' := c') (T := TT) (pm := (X.mg "__name__").getD .none) (ctv := ctv) (q := X.env.qual ++ "<lambda>") (cl := X.env.cells) I1 rfl
    have nF : H h'.objs.size = none := I1.hok.fresh (Nat.le_refl _)
    have sm : ∀ b o, H b = some o → (upd H h'.objs.size (LamOE X.env.cells (X.env.qual ++ "<lambda>") ⟨params, body, scope, t, x, v⟩ h'.objs.size c' TT)) b = some o := fun b o e => (upd_ne (ne_of_none e nF)).trans e
    exact fin _ c' _ _ I2 (ExtN.of sm) (hT.ext sm) ⟨upd_same, sm _ _ hco, sm _ _ dT⟩
/-- what is asked of such a lambda that is called -/
structure LamOkE (X : Cx) (k : Nat) (d : LamE) : Prop where
  L : LamSE X.N X.env.scope d.scope d.x
  bind : ∀ (q : Str) (cl : List (Str × Addr)) (pm cv ctv : Value) (T : Addr) (v : Value), ∃ kk, bindArgs (ldFn q d.params d.body d.scope cl pm cv ctv (.ref T)) ⟨[], []⟩ = seqItems? (.ref T) >>= kk ∧ kk (some #[v]) = pure [(d.x, v)]
  body : ∀ (A : Around) (outer : List Env) (s : Shared) (H : Hp) (E : XK) (f c' : Addr), Room k (A.deeper (lamEnv X d.scope s.heap.objs.size f c')) → PE (lamCx X A outer s H E d.scope f c') d.body (d.t E)
theorem pe_actE {CXg : CXT} {Eg : XK} {Ng : List Str} {qg : Str} {sg : Scope} {g f c' T : Addr} {cdg : Value} {k i : Nat} {a : Str} {pn : List (Addr × Obj)} {xe : Value → Shared → Prop} {W : WX} {E : XK} {d : LamE} {p1 p2 : Pos}
    (I : Inv X pins σ H s) (D : LamOkE X k d) (tk : Takes ((cxOf CXg X.prog X.w X.K X.mg X.base Ng qg sg g cdg X.A X.stack s H Eg).tr pn xe) W) (hW : ∀ cls dd σ' H', E cls dd H' → W cls dd σ' H')
    (hr : Room (k + 1) (X.A.deeper (envOfC qg sg s.heap.objs.size g cdg))) (hN : Ng[i]? = some a) (hv : Vis sg a) (hd : (a == ("__debug__" : Str)) = false := by decide) (hcd : (a == ("__classdict__" : Str)) = false := by decide) :
    PE ((cxOf CXg X.prog X.w X.K X.mg X.base Ng qg sg g cdg X.A X.stack s H Eg).tr pn xe) (.Call (.Name a p1) [] [] p2)
      (fun σZ HZ Q => σZ[i]? = some (some (.ref f)) ∧ HZ c' = some (CodeO c' (X.env.qual ++ "<lambda>")) ∧ LamAtE X.env.cells (X.env.qual ++ "<lambda>") HZ d f c' T ∧ d.t E σ HZ Q) := by
  refine ⟨fun pinsZ sZ σZ HZ Q IZ h => ?_⟩
  obtain ⟨hs, hc, la, ht⟩ := h
  refine wpAny_Call_Name_kw (thn ((pe_var (pos := p1) (i := i) hN hv hd hcd).run pinsZ sZ σZ HZ (fun v H1 => v = .ref f ∧ H1 = HZ) IZ ⟨.ref f, hs, rfl, rfl⟩) fun u s1 ⟨v, H1, I1, r1, q1⟩ => ?_)
  obtain ⟨rfl, eH⟩ := q1
  rw [eH] at I1
  obtain rfl : u = Value.ref f := r1
  obtain ⟨⟨pm, ctv, of1⟩, _, _⟩ := I1.hok f _ la.fn
  obtain ⟨_, its, rT, ot, hot, _, nn, hdt⟩ := I1.hok T _ la.df
  obtain ⟨dvu, rfl, rd⟩ := vals1 rT
  refine PySem.W.callWith_F0 ⟨_, _, _, _, of1⟩ ?_
  have un : Un (frs X.stack) [] H HZ s.heap s1.heap := I1.base
  obtain ⟨⟨oc, vs, tok, hoc, hdc, hvc⟩, _, _⟩ := I1.hok c' _ hc
  have rc : codeAny (model X.prog X.w) (X.A.deeper (envOfC qg sg s.heap.objs.size g cdg)) (.call (.ref f) ⟨[], []⟩) (CR (L2.CX X.prog X.w) (envOfC qg sg s.heap.objs.size g cdg :: X.stack) X.prog X.w HZ s1 Q E) s1 := by
    refine PySem.W.kla_callFunE hr.depth of1 rfl D.L.co D.L.gen rfl ⟨c', oc, vs, tok, rfl, hoc, hdc, hvc⟩ ?_
    obtain ⟨kk, e1, e2⟩ := D.bind (X.env.qual ++ "<lambda>") (cloFrom X.env.cells d.scope.names []) pm (.ref c') ctv T dvu
    rw [e1]
    refine wpAny_bind (wpAny_seqItems hot hdt ?_)
    show wpAny _ _ (kk (some #[dvu])) _ _ _
    rw [e2]
    refine wpAny_pure (wpAny_newFunctionEnv (fun y hy => (D.L.own y hy).1) (fun y hy => by cases List.mem_singleton.mp hy; exact D.L.par) (fun h₁ hns hsb => ⟨I1.nolimit.fresh _ hsb, ?_⟩) D.L.kind)
    show codeAny _ _ (.expr d.body (lamEnv X d.scope s1.heap.objs.size f c')) _ _
    have kp2 : ∀ b o, s1.heap.get? b = some o → h₁.get? b = some o := fun b o e => hsb.extBut b o (Nat.ne_of_lt (Heap.lt_size e)) (Heap.get?_push_of_some _ e)
    have J := lam_startE (E := E) (f := f) (c' := c') (tk := s1.toks + [(d.x, dvu)].length) I D.L I1.env0 hr.hd un hns kp2
    refine PySem.W.kla_codeExpr (wpAny_mono ((D.body _ _ s1 HZ E f c' (hr.deeper _)).run [] _ _ HZ Q J ht) (fun v s' ⟨w', H', J', rv, q⟩ => ⟨w', H', J'.os, J'.bare, J'.base, J'.hok, rv, q⟩) fun e s' hq => hq)
  have hx : Passes (L2.CX X.prog X.w) ((cxOf CXg X.prog X.w X.K X.mg X.base Ng qg sg g cdg X.A X.stack s H Eg).tr pn xe) E := passes_call tk hW
  refine wpAny_call (codeAny_mono rc fun r s' hq => ?_)
  rcases r with e | (_ | _ | _ | u)
  · exact hx pinsZ σZ HZ s1 e s' I1 hq
  · exact False.elim hq
  · exact False.elim hq
  · exact False.elim hq
  · exact I1.after hq
end
end Ux

set_option Elab.async false
set_option linter.all false
set_option maxRecDepth 100000
set_option maxHeartbeats 4000000
namespace Ux
open PySem PySem.Spec PyProof.Rows L2 LamX
/-- x(y), where y is one of some lambdas, with a default or without -/
def tLamCallM (cl : List (Str × Addr)) (q : Str) (TT : (XK → Hp → VK → Prop) → Hp → VK → Prop) (ds : List LamD) (es : List LamE) (te : TE) : TE := fun σ H Q => te σ H fun v H1 =>
  (∃ (f c' : Addr) (d : LamD), d ∈ ds ∧ v = .ref f ∧ LamAt cl q H1 d f c' ∧ TT (fun E H' Q' => H' f = some (LamO cl q d f c') ∧ d.t E σ H' Q') H1 Q) ∨
  ∃ (f c' T : Addr) (d : LamE), d ∈ es ∧ v = .ref f ∧ LamAtE cl q H1 d f c' T ∧ TT (fun E H' Q' => LamAtE cl q H' d f c' T ∧ d.t E σ H' Q') H1 Q
theorem pe_lamvalM {X : Cx} {ds : List LamD} {es : List LamE} {te : TE} {TT : (XK → Hp → VK → Prop) → Hp → VK → Prop} {x a y : Str} {g : Addr} {k : Nat} {pg : Arguments} {bg : List Stmt} {sg : Scope} {dV kV doc pm cdv ct oc : Value} {an od : Option Addr} {osl : Array (Option Value)} {Ng : List Str} {p py pos : Pos}
    (hg : Gl X x) (hm : X.mg x = some (.ref g)) (hk : PySem.W.keepIn X.K (.ref g) = true) (lk : X.K.lookup g = some ⟨oc, od, .func (PySem.W.fnOf x x pg bg sg dV kV doc pm an cdv ct), osl⟩) (hcg : PySem.W.codeIn X.K cdv x = true)
    (hb : L2.Binds X.K (PySem.W.fnOf x x pg bg sg dV kV doc pm an cdv ct) [a] []) (Sg : FnScope Ng [a] sg) (hNg : Ng[0]? = some a) (hva : Vis sg a) (hG : GivesTo X Ng x sg g cdv bg a (X.env.qual ++ "<lambda>") TT) (hr : Room (k + 2) X.A)
    (hds : ∀ d ∈ ds, LamOk X k d) (hes : ∀ d ∈ es, LamOkE X k d) (he : PE X (.Name y py) te) (hdb : (x == ("__debug__" : Str)) = false := by decide) (hd : (a == ("__debug__" : Str)) = false := by decide) (hcd : (a == ("__classdict__" : Str)) = false := by decide) :
    PE X (.Call (.Name x p) [.Name y py] [] pos) (tLamCallM X.env.cells (X.env.qual ++ "<lambda>") TT ds es te) := by
  refine ⟨fun pins s σ H Q I h => wpAny_Call_Name_kw (ld_glob I hg hm ?_ hdb)⟩
  refine PySem.W.callWith_K (h₀ := X.base) I.ok.mod.kin hk (show wpAny _ _ (spliced ((false, eval (.Name y py) X.env) :: backTo pos (starEach [] X.env))) _ _ s from ?_) (by rfl) (by rfl)
  refine Calls.spliced_cons (thn (he.run pins s σ H _ I h) fun u s' ⟨v, H1, I1, rv, hq⟩ => ?_)
  rcases hq with ⟨f, c', d, hmem, rfl, la, htt⟩ | ⟨f, c', T, d, hmem, rfl, la, htt⟩
  · obtain rfl : u = Value.ref f := rv
    refine Calls.spliced_nil ⟨I1.kIn, wpAny_call (codeAny_mono (run_ofS (CX := C8.CX0) (E := C8.E0) (Q := Q) (N := Ng) (ps := [a]) (us := [.ref f]) (vs := [.ref f]) lk hcg Sg hr I1.env0 (hb s' [.ref f] I1.kIn rfl) (.cons rfl .nil) rfl fun hr2 => ?_) fun r s2 hq => ?_)⟩
    · obtain ⟨t', ht', hq'⟩ := hG f c' s' H1 Q (fun E H' Q' => H' f = some (LamO X.env.cells (X.env.qual ++ "<lambda>") d f c') ∧ d.t E σ H' Q') (fun W pn xe E p1 p2 tk hW => pe_actV (i := 0) I1 (hds d hmem) tk hW hr2 hNg hva hd hcd) la.co htt
      exact ⟨t', ht'.nox, hq'⟩
    · rcases r with e | (_ | _ | _ | u)
      · exact (show False from hq).elim
      · exact False.elim hq
      · exact False.elim hq
      · exact False.elim hq
      · exact I1.after hq
  · obtain rfl : u = Value.ref f := rv
    refine Calls.spliced_nil ⟨I1.kIn, wpAny_call (codeAny_mono (run_ofS (CX := C8.CX0) (E := C8.E0) (Q := Q) (N := Ng) (ps := [a]) (us := [.ref f]) (vs := [.ref f]) lk hcg Sg hr I1.env0 (hb s' [.ref f] I1.kIn rfl) (.cons rfl .nil) rfl fun hr2 => ?_) fun r s2 hq => ?_)⟩
    · obtain ⟨t', ht', hq'⟩ := hG f c' s' H1 Q (fun E H' Q' => LamAtE X.env.cells (X.env.qual ++ "<lambda>") H' d f c' T ∧ d.t E σ H' Q') (fun W pn xe E p1 p2 tk hW => pe_actE (i := 0) (T := T) I1 (hes d hmem) tk hW hr2 hNg hva hd hcd) la.co htt
      exact ⟨t', ht'.nox, hq'⟩
    · rcases r with e | (_ | _ | _ | u)
      · exact (show False from hq).elim
      · exact False.elim hq
      · exact False.elim hq
      · exact False.elim hq
      · exact I1.after hq
end Ux

set_option Elab.async false
set_option linter.all false
set_option maxRecDepth 100000
set_option maxHeartbeats 4000000
/-! A list comprehension whose element knows the frame around its block, and calls lambdas of that frame. -/
namespace Ux
open PySem PySem.Spec PyProof.Rows L2 LamX
/-- the block was entered at s, H from the frame of X, whose names hold σ -/
def BlkIn (X : Cx) (σ : L2.St) (H : Hp) (s : Shared) (fp : List Addr) : Prop := ∃ pins, Inv X pins σ H s ∧ ∀ b ∈ fp, FpOk X pins H b
section
variable {X : Cx} {pins : List (Addr × Obj)} {σ σ' : L2.St} {H H' : Hp} {s s' : Shared} {scope : Scope} {ce : Env} {fp : List Addr}
/-- what the frame around holds, told from within the block -/
theorem BlkIn.back (B : BlkIn X σ H s fp) (J : Inv (X.blk s H scope ce fp) pins σ' H' s') : ∃ p, Inv X p σ H' s' := by
  obtain ⟨p, I, f⟩ := B
  exact ⟨p, I.call' (ch := fp) J.os J.base J.hok J.bare fun b hb => let ⟨_, e1, _, e3, e4, e5⟩ := f b hb; ⟨e3, e1, e4, e5⟩⟩
theorem pe_lcI {elt tg iter : Expr} {own : List (Str × Nat)} {pos : Pos} {wi : TI} {g : TG} {te : L2.St → TE} (hc : X.calm = true) (hN : X.N.Nodup) (hi : PI X tg iter wi) (ok : BlkOk X.N X.env.scope scope own)
    (hg : ∀ s H C cl fp, PG (X.blk s H scope (compEnvC scope cl C X.env) fp) tg g)
    (he : ∀ σ s H C cl fp, BlkIn X σ H s fp → PE (X.blk s H scope (compEnvC scope cl C X.env) fp) elt (te σ)) (hs : ∀ x, foldedSetIterable iter X.env x = pure x := by intro _; rfl) :
    PE X (.ListComp elt [⟨tg, iter, [], 0⟩] scope pos) (fun σ => tLc wi g tYes (te σ) (own.map (·.2)) σ) := by
  refine ⟨fun p0 s0 σ H0 Q I0 h => ?_⟩
  rw [eval_ListComp]
  refine wpAny_comprehension_free rfl hs (closure_ok fun y hy e => (ok.free y hy e).elim (fun k => I0.ok.has _ (.inl k)) fun k => I0.ok.has _ (.inr k)) ok.kind (fun y hy e => (ok.uniq y hy).trans (by rw [e]))
    (thn (hi.run p0 s0 σ H0 _ I0 h) fun _ _ hx => thn hx fun _ sA ⟨it, fp, tn, J, HA, e, IA, T, stA, fA, q⟩ => ?_)
  subst e
  refine wpAny_newObj_type (newEnv_comp ?_) (by show 0 ≤ sizeLine; decide)
  obtain ⟨W, ⟨m0, w0⟩, turn⟩ := q _ (IA.hok.fresh (Nat.le_refl _))
  have IB := IA.laid (a := sA.heap.objs.size) (o := .lst []) (h' := sA.heap.push { cls := .type "list", data := .seq ([] : List Value).toArray }) (t' := sA.toks) (fun b o e => Heap.get?_push_of_some _ e) (Nat.le_refl _)
    ⟨Nat.zero_le _, [], 0, .nil, Heap.get?_push_size _ rfl⟩
  have lt : ∀ b ∈ fp, b < sA.heap.objs.size := fun b hb => let ⟨o, e, _⟩ := T.obj _ _ stA b hb; Heap.lt_size e
  have stB : tn 0 (sA.heap.push { cls := .type "list", data := .seq ([] : List Value).toArray }) := T.keep _ _ _ stA fun b _ o e => Heap.get?_push_of_some _ e
  have fB : ∀ b ∈ fp, FpOk X p0 (upd HA sA.heap.objs.size (.lst [])) b ∧ b < (sA.heap.push { cls := .type "list", data := .seq ([] : List Value).toArray }).objs.size := fun b hb =>
    ⟨⟨(upd_ne (Nat.ne_of_lt (lt b hb))).trans (fA b hb).1, (fA b hb).2⟩, by rw [Heap.size_push]; exact Nat.lt_succ_of_lt (lt b hb)⟩
  generalize hD : sA.heap.objs.size = D at *
  generalize hHB : upd HA D (.lst []) = HB at *
  generalize hsB : ({ sA with heap := sA.heap.push { cls := .type "list", data := .seq ([] : List Value).toArray } } : Shared) = sB at *
  have hB : sA.heap.push { cls := .type "list", data := .seq ([] : List Value).toArray } = sB.heap := by rw [← hsB]
  rw [hB] at stB fB
  have up : ∀ {pz : List (Addr × Obj)} {σz : L2.St} {Hz : Hp} {sz : Shared} {ce : Env}, Inv (X.blk sB HB scope ce fp) pz σz Hz sz → Inv X p0 σ Hz sz := fun z =>
    IB.call' (ch := fp) z.os z.base z.hok z.bare fun b hb => let ⟨⟨_, e1, _, e3, e4, e5⟩, _⟩ := fB b hb; ⟨e3, e1, e4, e5⟩
  have J0 := block_start IB ok hN fB
  have eP := he σ sB HB sB.heap.objs.size (cellsFrom (sB.heap.objs.size + 1) scope.names (cloFrom X.env.cells scope.names [])) fp ⟨p0, IB, fun b hb => (fB b hb).1⟩
  have gP := hg sB HB sB.heap.objs.size (cellsFrom (sB.heap.objs.size + 1) scope.names (cloFrom X.env.cells scope.names [])) fp
  refine (show codeAny _ _ (.compStart _ 0 _ _ (compEnvC scope (cellsFrom (sB.heap.objs.size + 1) scope.names (cloFrom X.env.cells scope.names [])) sB.heap.objs.size X.env)) (compPost _ _ X.xe none (EP X p0 σ Q) (.ref D) sB.heap.objs.size) { sB with heap := pushCells (sB.heap.push { cls := .type "dict", data := .dict #[] }) scope.names } from ?_)
  generalize hce : compEnvC scope (cellsFrom (sB.heap.objs.size + 1) scope.names (cloFrom X.env.cells scope.names [])) sB.heap.objs.size X.env = ce at J0 eP gP ⊢
  have cL : ce.locals = sB.heap.objs.size := by rw [← hce]; rfl
  generalize hsC : ({ sB with heap := pushCells (sB.heap.push { cls := .type "dict", data := .dict #[] }) scope.names } : Shared) = sC at J0 ⊢
  have stC : tn 0 sC.heap := by rw [← hsC]; exact T.keep _ _ _ stB fun b _ o e => pushCells_keeps _ _ _ _ (Heap.get?_push_of_some _ e)
  have fk : ∀ {σz : L2.St} {Hz : Hp} {sz : Shared}, Inv (X.blk sB HB scope ce fp) [] σz Hz sz → (∀ b ∈ fp, Hz b = none) → ∀ b ∈ fp, FpOk (X.blk sB HB scope ce fp) [] Hz b := fun z n b hb =>
    ⟨n b hb, (z.ok.exf b hb).1, z.ok.exfs b hb, .inl hb, fun x c e => (z.ok.exf b hb).2 x c e, fun p hp => absurd (show p ∈ ([] : List (Addr × Obj)) ++ [] from hp) (by simp)⟩
  have loop : codeAny (model X.prog X.w) X.A (.compLoop (.ListComp elt [⟨tg, iter, [], 0⟩] scope pos) 0 (.ref it) (.ref D) ce) (compPost (model X.prog X.w) X.A X.xe none (EP X p0 σ Q) (.ref D) sB.heap.objs.size) sC := by
    refine compLoop_any (fun n sz => ∃ i Hz, (Inv (X.blk sB HB scope ce fp) [] (wipe σ (own.map (·.2))) Hz sz ∧ W i n Hz) ∧ tn i sz.heap ∧ ∀ b ∈ fp, Hz b = none) ?_ m0 ⟨0, HB, ⟨J0, w0⟩, stC, fun b hb => (fB b hb).1.1⟩
    rintro n sz ⟨i, Hz, ⟨Jz, wz⟩, tz, nz⟩
    rcases turn i n Hz wz with ⟨stop, qz⟩ | ⟨go, Nx, less, step⟩
    · refine thnF (T.done (X.blk sB HB scope ce fp) rfl rfl rfl hc i [] sz _ Hz (fun _ _ => False) Jz (fk Jz nz) tz stop) fun r sy ⟨er, Jy⟩ => ?_
      subst er
      have nC : Hz sB.heap.objs.size = none := cL ▸ Jy.free
      obtain ⟨m, hm, _⟩ := Jy.loc
      obtain ⟨f0, f1, _, f3, f4, f5⟩ := IB.fpOk (Nat.le_refl _) nC
      exact ⟨m, cL ▸ hm, fun h'' sb => ⟨.ref D, Hz, (up Jy).turned (t' := sy.toks) (fun b o hb e => (sb.2 b hb).trans e) f0 f1 f3 f4 f5, rfl, qz⟩⟩
    · refine thnF (T.item (X.blk sB HB scope ce fp) rfl rfl rfl hc i [] sz _ Hz (fun _ _ => False) Jz (fk Jz nz) tz go) fun r sy ⟨u, er, hy⟩ => ?_
      subst er
      refine thnF hy fun _ sx ⟨x, Hx, Jx, rx, yx, tx, nx⟩ => ?_
      refine thnF (gP.run _ sx _ Hx x u _ (Jx.pinned (fk Jx nx) (T.obj _ _ tx)) rx (step x Hx yx)) fun _ sw ⟨σw, Hw, Jw, hw, qw⟩ => ?_
      refine thnF ((pts_nil (X := X.blk sB HB scope ce fp)).run _ sw σw Hw _ Jw qw) fun b sv ⟨Hv, Jv, qv⟩ => ?_
      have fin : ∀ {sl : Shared} {Hl : Hp}, Inv (X.blk sB HB scope ce fp) ([] ++ pinsAt fp sx.heap) σw Hl sl → Nx Hl → ∃ m, m < n ∧ ∃ i Hk, (Inv (X.blk sB HB scope ce fp) [] (wipe σ (own.map (·.2))) Hk sl ∧ W i m Hk) ∧ tn i sl.heap ∧ ∀ b ∈ fp, Hk b = none := fun {sl Hl} Jl nl => by
        obtain ⟨m, hm, wm⟩ := less Hl nl
        have pinned : ∀ b ∈ fp, ∀ o, sx.heap.get? b = some o → sl.heap.get? b = some o ∧ Hl b = none := fun b hb o e => let z := Jl.pin (b, o) (List.mem_append_right _ (List.mem_append_right _ (mem_pinsAt hb e))); ⟨z.1, z.2.1⟩
        refine ⟨m, hm, i + 1, Hl, ⟨(Jl.unpinned (pins := [])).weak (by rw [← hw, wipe_length]) (fun j v e => (wipe_some (hw ▸ e)).1), wm⟩, T.keep _ _ _ tx fun b hb o e => (pinned b hb o e).1, fun b hb => ?_⟩
        obtain ⟨o, e, _⟩ := T.obj _ _ tx b hb
        exact (pinned b hb o e).2
      cases b with
      | false => exact fin Jv qv
      | true =>
        refine thnF (eP.run _ sv σw Hv _ Jv qv) fun z su ⟨y, Hu, Ju, ry, acc, hD', hz, nu⟩ => ?_
        exact app_ok (X := X.blk sB HB scope ce fp) Ju hD' hz ry fun st Jt => fin Jt nu
  exact codeAny_compStart_list loop (T.self X.A 0 _ _ _ stC loop)
end
end Ux

set_option Elab.async false
set_option linter.all false
set_option maxRecDepth 100000
set_option maxHeartbeats 4000000
namespace Ux
open PySem PySem.Spec PyProof.Rows L2 LamX
/-- x(y) in a block, where y is one of some lambdas of the frame around: that frame's names hold σ0 -/
def tLamCallB (cl : List (Str × Addr)) (q : Str) (TT : (XK → Hp → VK → Prop) → Hp → VK → Prop) (ds : List LamD) (es : List LamE) (te : TE) (σ0 : L2.St) : TE := fun σ H Q => te σ H fun v H1 =>
  (∃ (f c' : Addr) (d : LamD), d ∈ ds ∧ v = .ref f ∧ LamAt cl q H1 d f c' ∧ TT (fun E H' Q' => H' f = some (LamO cl q d f c') ∧ d.t E σ0 H' Q') H1 Q) ∨
  ∃ (f c' T : Addr) (d : LamE), d ∈ es ∧ v = .ref f ∧ LamAtE cl q H1 d f c' T ∧ TT (fun E H' Q' => LamAtE cl q H' d f c' T ∧ d.t E σ0 H' Q') H1 Q
theorem pe_lamvalB {X : Cx} {σ0 : L2.St} {H0 : Hp} {s0 : Shared} {fp : List Addr} {scope : Scope} {ce : Env} {ds : List LamD} {es : List LamE} {te : TE} {TT : (XK → Hp → VK → Prop) → Hp → VK → Prop} {x a y : Str} {g : Addr} {k : Nat} {pg : Arguments} {bg : List Stmt} {sg : Scope} {dV kV doc pm cdv ct oc : Value} {an od : Option Addr} {osl : Array (Option Value)} {Ng : List Str} {p py pos : Pos}
    (B : BlkIn X σ0 H0 s0 fp) (hg : Gl (X.blk s0 H0 scope ce fp) x) (hm : X.mg x = some (.ref g)) (hk : PySem.W.keepIn X.K (.ref g) = true) (lk : X.K.lookup g = some ⟨oc, od, .func (PySem.W.fnOf x x pg bg sg dV kV doc pm an cdv ct), osl⟩) (hcg : PySem.W.codeIn X.K cdv x = true)
    (hb : L2.Binds X.K (PySem.W.fnOf x x pg bg sg dV kV doc pm an cdv ct) [a] []) (Sg : FnScope Ng [a] sg) (hNg : Ng[0]? = some a) (hva : Vis sg a) (hG : GivesTo X Ng x sg g cdv bg a (X.env.qual ++ "<lambda>") TT) (hr : Room (k + 2) X.A)
    (hds : ∀ d ∈ ds, LamOk X k d) (hes : ∀ d ∈ es, LamOkE X k d) (he : PE (X.blk s0 H0 scope ce fp) (.Name y py) te) (hdb : (x == ("__debug__" : Str)) = false := by decide) (hd : (a == ("__debug__" : Str)) = false := by decide) (hcd : (a == ("__classdict__" : Str)) = false := by decide) :
    PE (X.blk s0 H0 scope ce fp) (.Call (.Name x p) [.Name y py] [] pos) (tLamCallB X.env.cells (X.env.qual ++ "<lambda>") TT ds es te σ0) := by
  refine ⟨fun pins s σ H Q I h => wpAny_Call_Name_kw (ld_glob I hg hm ?_ hdb)⟩
  refine PySem.W.callWith_K (h₀ := X.base) I.ok.mod.kin hk (show wpAny _ _ (spliced ((false, eval (.Name y py) ce) :: backTo pos (starEach [] ce))) _ _ s from ?_) (by rfl) (by rfl)
  refine Calls.spliced_cons (thn (he.run pins s σ H _ I h) fun u s' ⟨v, H1, I1, rv, hq⟩ => ?_)
  obtain ⟨pX, IX⟩ := B.back I1
  rcases hq with ⟨f, c', d, hmem, rfl, la, htt⟩ | ⟨f, c', T, d, hmem, rfl, la, htt⟩
  · obtain rfl : u = Value.ref f := rv
    refine Calls.spliced_nil ⟨I1.kIn, wpAny_call (codeAny_mono (run_ofS (CX := C8.CX0) (E := C8.E0) (Q := Q) (outer := X.stack) (base := X.base) (mg := X.mg) (N := Ng) (ps := [a]) (us := [.ref f]) (vs := [.ref f]) lk hcg Sg hr IX.env0 (hb s' [.ref f] IX.kIn rfl) (.cons rfl .nil) rfl fun hr2 => ?_) fun r s2 hq => ?_)⟩
    · obtain ⟨t', ht', hq'⟩ := hG f c' s' H1 Q (fun E H' Q' => H' f = some (LamO X.env.cells (X.env.qual ++ "<lambda>") d f c') ∧ d.t E σ0 H' Q') (fun W pn xe E p1 p2 tk hW => pe_actV (i := 0) IX (hds d hmem) tk hW hr2 hNg hva hd hcd) la.co htt
      exact ⟨t', ht'.nox, hq'⟩
    · rcases r with e | (_ | _ | _ | u)
      · exact (show False from hq).elim
      · exact False.elim hq
      · exact False.elim hq
      · exact False.elim hq
      · exact I1.after hq
  · obtain rfl : u = Value.ref f := rv
    refine Calls.spliced_nil ⟨I1.kIn, wpAny_call (codeAny_mono (run_ofS (CX := C8.CX0) (E := C8.E0) (Q := Q) (outer := X.stack) (base := X.base) (mg := X.mg) (N := Ng) (ps := [a]) (us := [.ref f]) (vs := [.ref f]) lk hcg Sg hr IX.env0 (hb s' [.ref f] IX.kIn rfl) (.cons rfl .nil) rfl fun hr2 => ?_) fun r s2 hq => ?_)⟩
    · obtain ⟨t', ht', hq'⟩ := hG f c' s' H1 Q (fun E H' Q' => LamAtE X.env.cells (X.env.qual ++ "<lambda>") H' d f c' T ∧ d.t E σ0 H' Q') (fun W pn xe E p1 p2 tk hW => pe_actE (i := 0) (T := T) IX (hes d hmem) tk hW hr2 hNg hva hd hcd) la.co htt
      exact ⟨t', ht'.nox, hq'⟩
    · rcases r with e | (_ | _ | _ | u)
      · exact (show False from hq).elim
      · exact False.elim hq
      · exact False.elim hq
      · exact False.elim hq
      · exact I1.after hq
end Ux

set_option Elab.async false
set_option linter.all false
set_option maxRecDepth 100000
set_option maxHeartbeats 4000000
/-! == of two lists of different lengths -/
namespace Ux
open PySem PySem.Spec PySem.Calls PySem.SeqAt PyProof.Rows GQ AutoSeq1
theorem list_ne {prog : Program} {w : World} {A : Around} {R : Result → Shared → Prop} {s : Shared} {l b : Addr} {i1 i2 : Array Value} {n1 n2 : Nat} (h1 : s.heap.get? l = some { cls := .type "list", data := .seq i1 n1 }) (h2 : s.heap.get? b = some { cls := .type "list", data := .seq i2 n2 }) (hne : i1.size ≠ i2.size)
    (fin : R (.ok (.ret (.bool false))) s) : wpAny (model prog w) A.in1 (Builtin.«list.__eq__» ⟨[.ref l, .ref b], []⟩) (FinOf prog w A R) (fun e s' => R (.error e) s') s := by
  obtain ⟨hp, g, d, tk, os⟩ := s
  have f3 := AutoSeq1.sub_list_list
  have hb : (i1.size != i2.size) = true := by simp [hne]
  wp_walk using wpAny_loadPart' h1, wpAny_loadPart' h2
  exact fin
end Ux
namespace Ux
open PySem PySem.Spec PyProof.Rows L2
section
variable {X : Cx}
def rLenNe : R2 := fun x y H Q => ∃ (a b : Addr) (xs ys : List V), x = .ref a ∧ y = .ref b ∧ H a = some (.lst xs) ∧ H b = some (.lst ys) ∧ xs.length ≠ ys.length ∧ Q (.bl false) H
theorem op_lenNe (hu : X.A.units < cLine) : OpR X (compareOp .Eq) rLenNe := by
  intro pins s σ H x y v u Q I rx ry h
  obtain ⟨a, b, xs, ys, rfl, rfl, ha, hb, hne, q⟩ := h
  obtain rfl : v = Value.ref a := rx
  obtain rfl : u = Value.ref b := ry
  obtain ⟨_, i1, n1, r1, e1⟩ := I.hok a _ ha
  obtain ⟨_, i2, n2, r2, e2⟩ := I.hok b _ hb
  have l1 := r1.length
  have l2 := r2.length
  show wpAny (model X.prog X.w) X.A (richCompare .Eq (.ref a) (.ref b)) (EP X pins σ Q) X.xe s
  refine wpAny_richCompare_same_room (op := .Eq) ⟨_, e1, rfl⟩ ⟨_, e2, rfl⟩ F.slot_list_eq (GQ.call_here F.slot_list_eq ⟨_, e1, rfl⟩ F.entry_list_eq (F.args_list_eq_2 _ _) ?_) hu
  exact list_ne e1 e2 (by rw [List.size_toArray, List.size_toArray]; omega) ⟨(fun x => nomatch x), .bl false, H, I, rfl, q⟩
end
end Ux

set_option Elab.async false
set_option linter.all false
set_option maxRecDepth 100000
set_option maxHeartbeats 4000000
set_option pp.maxSteps 600
/-! Dicts whose keys are tuples: {(..): v}, list(d.items()), dict(d); sorted(()). -/
namespace Ux
open PySem PySem.Spec PySem.Calls PyProof.Rows
section
variable {prog : Program} {w : World} {A : Around} {E : Value → Shared → Prop} {s : Shared} {r d : Addr} {es : Array DictEntry} {ep : Nat}
theorem list_items_raw {Q : Value → Shared → Prop} (hh : A.handled = none) (hv : s.heap.IsItemsView r d) (hm : DT.Raw s.heap d es ep) (hn : es.size ≤ sizeLine)
    (hQ : ∀ h' tk acc c as, (∀ b o, s.heap.get? b = some o → h'.get? b = some o) → h'.get? s.heap.objs.size = some { cls := .type "list", dict := none, data := .seq acc c, slots := #[] } → as.length = es.size → DT.Made es s.heap.objs.size h' as →
      acc.toList = as.map Value.ref → Q (.ref s.heap.objs.size) { s with heap := h', toks := tk }) :
    wpAny (model prog w) A (call (.type "list") [.ref r]) Q E s := by
  refine callType_codes (Q₁ := fun obj s₁ => obj = .ref s.heap.objs.size ∧ s₁ = { s with heap := s.heap.push { cls := .type "list", data := .seq #[] } }) PySem.F.called_list (PySem.F.typeCall_list_1 _) PySem.F.entry_list_init
    (code_list_new _ ⟨rfl, rfl⟩) fun obj s₁ h₁ => ?_
  obtain ⟨rfl, rfl⟩ := h₁
  have hS : (s.heap.push { cls := .type "list", data := .seq #[] }).get? s.heap.objs.size = some { cls := .type "list", data := .seq #[] } := Heap.get?_push_size _ rfl
  have hr : r < s.heap.objs.size := let ⟨_, ho, _⟩ := hv; Heap.lt_size ho
  have hd : d < s.heap.objs.size := hm.lt
  refine ⟨⟨_, hS, rfl⟩, PySem.F.args_list_init_2 _ _, ?_⟩
  show wpAny _ _ (do let old ← Builtin.List.listItems (.ref s.heap.objs.size); Builtin.List.listUpdate (.ref s.heap.objs.size) (fun _ => #[]); letGo old.toList.reverse; Builtin.List.listExtendWith (.ref s.heap.objs.size) (.ref r) .none) _ _ _
  refine wpAny_bind ?_
  unfold Builtin.List.listItems
  refine wpAny_bind (wpAny_seqItems hS rfl (wpAny_pure ?_))
  show wpAny _ _ (updateSeq s.heap.objs.size (fun _ => #[]) >>= fun _ => letGo (#[] : Array Value).toList.reverse >>= fun _ => Builtin.List.listExtendWith (.ref s.heap.objs.size) (.ref r) .none) _ _ _
  refine wpAny_bind (wpAny_updateSeq hS rfl ?_)
  have hS2 := Heap.get?_update_self (Obj.mapSeq (fun _ => (#[] : Array Value))) hS rfl
  have up : ∀ b o, s.heap.get? b = some o → ((s.heap.push { cls := .type "list", data := .seq #[] }).update s.heap.objs.size (Obj.mapSeq (fun _ => (#[] : Array Value)))).get? b = some o :=
    fun b o e => (Heap.get?_update_other _ _ (Ne.symm (Nat.ne_of_lt (Heap.lt_size e)))).trans (Heap.get?_push_of_some _ e)
  refine wpAny_bind (wpAny_letGo ?_)
  refine DT.extI (A := A.in1) (R := wants (fun r s₂ => r = .none ∧ Q (.ref s.heap.objs.size) s₂) E) (s := { s with heap := (s.heap.push { cls := .type "list", data := .seq #[] }).update s.heap.objs.size (Obj.mapSeq (fun _ => (#[] : Array Value))) }) (es := es) (ep := ep) hh (let ⟨o, ho, x⟩ := hv; ⟨o, up r o ho, x⟩) (hm.at' fun o e => up d o e) s.heap.objs.size (Nat.ne_of_gt hr) (Nat.ne_of_lt hd) .none _ hS2 (fun h' tk acc c as hk hS' hl hG hacc => ?_) hn
  exact ⟨rfl, hQ h' tk acc c as (fun b o e => hk b o (Nat.ne_of_lt (Heap.lt_size e)) (up b o e)) hS' hl (hG.low (Nat.le_of_lt (Heap.lt_size hS2))) hacc⟩
theorem dict_copyT {K : Type} [DecidableEq K] {knd : HeapKind prog w K} {o : Addr} {more : List (K × Addr × Value)} {Q : Value → Shared → Prop} (hu : knd.room A.in1.in1) (hoS : (o == sysModules) = false) (ho : s.heap.DictOfH knd o more) (hst : ∀ y ∈ more, knd.is (s.heap.push { cls := .type "dict", data := .dict #[] }) y.1 y.2.1) (hty : ∀ x ∈ more, s.TypeIs (.ref x.2.1) "tuple") (hl : more.length ≤ 1)
    (h : ∀ h', h'.DictOfH knd s.heap.objs.size more → Heap.SameBut s.heap.objs.size (s.heap.push { cls := .type "dict", data := .dict #[] }) h' → Q (.ref s.heap.objs.size) { s with heap := h' }) :
    wpAny (model prog w) A (call (.type "dict") [.ref o]) Q E s := by
  refine callType_codes (Q₁ := fun obj s₁ => obj = .ref s.heap.objs.size ∧ s₁ = { s with heap := s.heap.push { cls := .type "dict", data := .dict #[] } }) F.kt_called_dict (F.kt_typeCall_dict_1 _) F.entry_dict_init (kt_code_dict_new _ ⟨rfl, rfl⟩) ?_
  rintro obj s₁ ⟨rfl, rfl⟩
  have hnew : (s.heap.push { cls := .type "dict", data := .dict #[] }).DictOfH knd s.heap.objs.size [] := Heap.DictOfH.new s.heap
  have ho' : (s.heap.push { cls := .type "dict", data := .dict #[] }).DictOfH knd o more := ho.at' (fun ob e => Heap.get?_push_of_some _ e) hst
  have hdo : s.heap.objs.size ≠ o := fun e => absurd ho.lt_size (by rw [e]; exact Nat.lt_irrefl _)
  refine ⟨hnew.typeIs, F.args_dict_init_2 _ _, ?_⟩
  unfold Builtin.«dict.__init__»
  refine wpAny_bind ?_
  unfold Builtin.Dict.selfAndRest
  refine wpAny_bind (wpAny_notOrdered_dict hnew.typeIs ?_)
  show wpAny _ _ (pure (s.heap.objs.size, [Value.ref o])) _ _ _
  refine wpAny_pure ?_
  show wpAny _ _ (Builtin.Dict.updateFrom "dict.__init__" s.heap.objs.size (.ref o) [] .none) _ _ _
  refine updateFrom_dictH (A := A.in1) (R := wants (fun r s₂ => r = .none ∧ Q (.ref s.heap.objs.size) s₂) E) (s := { s with heap := s.heap.push { cls := .type "dict", data := .dict #[] } }) (d := s.heap.objs.size) (o := o) (kvs := []) (more := more) .none hu hdo hoS hnew ho' (.inr ⟨fun x hx => ?_, ?_⟩) (by rw [sizeLine_eq, List.length_nil]; omega) fun h' hd' _ hs' => ?_
  · obtain ⟨ob, e, c⟩ := hty x hx
    exact ⟨ob, Heap.get?_push_of_some _ e, c⟩
  · cases more with
    | nil => exact List.nodup_nil
    | cons x more =>
      cases more with
      | nil => simp
      | cons _ _ => simp at hl
  · rw [storedAllH_nil_of_nodup more ho.nodup] at hd'
    exact ⟨rfl, h h' hd' hs'⟩
theorem sorted_tup0 {a : Addr} {o : Obj} {n : Nat} {Q : Value → Shared → Prop} (ho : s.heap.get? a = some o) (hc : o.cls = .type "tuple") (hd : o.data = .seq #[] n)
    (h : ∀ h' : Heap, (∀ b o', s.heap.get? b = some o' → h'.get? b = some o') → ∀ (h2 : Heap) (m : Nat), (∀ b o', h'.get? b = some o' → h2.get? b = some o') → h2.get? h'.objs.size = some { cls := .type "list", data := .seq #[] m } → Q (.ref h'.objs.size) { s with heap := h2 }) : wpAny (model prog w) A (call (.builtin "sorted") [.ref a]) Q E s := by
  refine call_function_entry kind_sorted plain_sorted entry_sorted (args_sorted1 _) ?_
  unfold Builtin.«sorted»
  refine wpAny_bind (m := checkCount "sorted" 1 1 _) (wpAny_pure ?_)
  refine wpAny_bind (wpAny_collect_seq a (.inr rfl) ho hc hd (fun h' hk => ?_) (by rw [sizeLine_eq]; exact Nat.zero_le _))
  refine wpAny_bind (wpAny_newList ?_)
  have hoL : (h'.push (seqObj "list" #[] 0)).get? h'.objs.size = some (seqObj "list" #[] 0) := Heap.get?_push_size _ rfl
  refine wpAny_bind (wpAny_holding (wpAny_call_entry slot_list_sort ⟨_, hoL, rfl⟩ entry_list_sort (list_sort_tree (s := { s with heap := h'.push (seqObj "list" #[] 0) }) (vs := []) (ns := []) hoL .nil (by decide) fun out ns' a1 a2 a3 => ⟨_, rfl, ?_⟩) (args_list_sort _)))
  have e0 : ns' = [] := by simpa using a2
  subst e0
  have e1 : out = #[] := by
    cases out with
    | mk l =>
      cases l with
      | nil => rfl
      | cons x l => cases a1
  subst e1
  obtain ⟨ep, he'⟩ := sortedHeap_at (vs := []) (out := #[]) hoL
  refine wpAny_pure ⟨_, rfl, h h' hk _ ep (fun b o' e => ?_) he'⟩
  have hb : b < h'.objs.size := Heap.lt_size e
  rw [sortedHeap_old (Nat.ne_of_lt hb) (by rw [size_push']; exact Nat.lt_succ_of_lt hb)]
  exact Heap.get?_push_of_some _ e
end
end Ux

set_option Elab.async false
set_option linter.all false
set_option maxRecDepth 100000
set_option maxHeartbeats 4000000
set_option pp.maxSteps 600
/-! The same as rules. -/
namespace Ux
open PySem PySem.Spec PyProof.Rows L2
def dispQ (p : Addr) (Q : VK) : List (V × V) → Hp → Prop
  | [(x, y)], H2 => H2 p = some (.dT []) ∧ ∃ (b : Addr) (ks : List L2.Key), x = .ref b ∧ H2 b = some (.tup (ks.map kV)) ∧ Q (.ref p) (upd H2 p (.dT [(ks, y)]))
  | _, _ => False
/-- {k: v}, k a tuple -/
def tDisp1 (tk tv : TE) : TE := fun σ H Q => ∀ p, H p = none → tk σ (upd H p (.dT [])) fun x H1 => tv σ H1 fun y H2 => H2 p = some (.dT []) ∧ ∃ (b : Addr) (ks : List L2.Key), x = .ref b ∧ H2 b = some (.tup (ks.map kV)) ∧ Q (.ref p) (upd H2 p (.dT [(ks, y)]))
section
variable {X : Cx} {k v e : Expr} {tk tv te : TE} {p apos cpos pos : Pos}
theorem pe_disp1 (hu : X.A.units < cLine) (hk : PE X k tk) (hv : PE X v tv) : PE X (.Dict [some k] [v] pos) (tDisp1 tk tv) := by
  refine ⟨fun pins s σ H Q I q => ?_⟩
  have hn := I.hok.fresh (Nat.le_refl s.heap.objs.size)
  have I1 := I.laid (a := s.heap.objs.size) (o := .dT []) (h' := s.heap.push { cls := .type "dict", data := .dict #[] }) (t' := s.toks) (fun _ _ q => Heap.get?_push_of_some _ q) (Nat.le_refl _) (dt_empty s.heap I.big)
  have run := (pps_cons hk hv (pps_nil (X := X) (pos := pos))).run pins { s with heap := s.heap.push { cls := .type "dict", data := .dict #[] } } σ _ (dispQ s.heap.objs.size Q) I1 (q _ hn)
  rw [arm_eval_Dict, zip_pairTrees [some k] [v] X.env pos rfl rfl, dictDisplay_pairs _ (by simp [pairTrees]) (by simp [pairTrees])]
  refine wpAny_bind (wpAny_standAt (wpAny_bind (wpAny_subDictH (knd := tupleKind (mixKind X.prog X.w)) (Q := fun d s' => wpAny (model X.prog X.w) X.A (pure (Value.ref d)) (EP X pins σ Q) X.xe s') hu (by simp [pairTrees]) (thn run fun vs s2 ⟨ps, H2, I2, rel, qq⟩ => ?_))))
  cases rel with
  | nil => exact False.elim qq
  | @cons pr ur ps us r rr =>
    cases rr with
    | cons _ _ => exact False.elim qq
    | nil =>
      obtain ⟨x, y⟩ := pr
      obtain ⟨u1, u2⟩ := ur
      obtain ⟨hp, b, ks, rfl, hb, qq⟩ := qq
      obtain ⟨r1, r2⟩ := r
      obtain rfl : u1 = Value.ref b := r1
      obtain ⟨_, hd, xs, rk, dd⟩ := dt_of I2.hok hp
      cases rk
      refine ⟨[(ks, b, u2)], ⟨rfl, rfl, key_of I2.hok hb, trivial⟩, dd, fun h' tk dd' hs => wpAny_pure ⟨.ref s.heap.objs.size, _, ?_, rfl, qq⟩⟩
      obtain ⟨q, es, ep, hq, h2, h3, h4, _, h5⟩ := dd'
      refine d_write I2 (by rw [hp]; exact True.intro) hs ⟨q, hq⟩ ⟨by rw [sizeLine_eq]; simp, hd, [(ks, b, u2)], .cons ⟨rfl, ?_, r2⟩ .nil, q, es, ep, hq, h2, h3, h4, h5⟩
      show upd H2 _ _ b = _
      rw [upd_ne (ne_of hb hp (fun z => nomatch z))]
      exact hb
/-- dict(d), d with at most one key, a tuple -/
theorem call_dict1 (hu : X.A.units + 2 < cLine) : CallR X (.type "dict") (fun xs H Q => ∃ (a : Addr) (kvs : List (List L2.Key × V)), xs = [.ref a] ∧ H a = some (.dT kvs) ∧ kvs.length ≤ 1 ∧ ∀ p, H p = none → Q (.ref p) (upd H p (.dT kvs))) := by
  intro pins s σ H xs us Q I r q
  obtain ⟨a, kvs, rfl, hd, hl, q⟩ := q
  obtain rfl := Vals.ref1 r
  obtain ⟨z, lo, ws, rel, dd⟩ := dt_of I.hok hd
  have isT : ∀ y ∈ ws, H y.2.1 = some (.tup (y.1.map kV)) := fun y hy => by
    obtain ⟨j, hj⟩ := List.mem_iff_getElem?.mp hy
    obtain ⟨q', _, e1, h2, _⟩ := L2.DX.pget rel hj
    rw [← e1]
    exact h2
  have hn := I.hok.fresh (Nat.le_refl s.heap.objs.size)
  have I1 : Inv X pins σ H { s with heap := s.heap.push { cls := .type "dict", data := .dict #[] } } := I.kept (t' := s.toks) fun b ob q => Heap.get?_push_of_some _ q
  refine dict_copyT (knd := tupleKind (mixKind X.prog X.w)) (by show X.A.units + 1 + 1 < cLine; omega) lo dd (fun y hy => ?_) (fun y hy => ?_) (by rw [← Paired.length rel]; exact hl) fun h' d' hs => ?_
  · exact key_of I1.hok (isT y hy)
  · obtain ⟨_, its, r, o, h1, h2, n, h3⟩ := (show ObjOk X.prog X.w H s.heap y.2.1 (.tup (y.1.map kV)) from I.hok _ _ (isT y hy))
    exact ⟨o, h1, h2⟩
  have hm : (s.heap.objs.size == sysModules) = false := beq_eq_false_iff_ne.mpr (Nat.ne_of_gt I.big)
  obtain ⟨q', es, ep, hq, h2, h3, h4, _, h5⟩ := d'
  refine ⟨.ref s.heap.objs.size, upd H s.heap.objs.size (.dT kvs), I.laid (t' := s.toks) (fun b u e => (hs.2 b (Nat.ne_of_lt (Heap.lt_size e))).trans (Heap.get?_push_of_some _ e)) (Nat.le_refl _) ⟨z, hm, ws, rel.keeps fun c ys ec => ?_, q', es, ep, hq, h2, h3, h4, h5⟩, rfl, q _ hn⟩
  rw [upd_ne (ne_of_none ec hn)]
  exact ec
/-- sorted(()) -/
theorem call_sorted0 : CallR X (.builtin "sorted") (fun vs H Q => ∃ a, vs = [.ref a] ∧ H a = some (.tup []) ∧ ∀ p, H p = none → Q (.ref p) (upd H p (.lst []))) := by
  intro pins s σ H vs us Q I r h
  obtain ⟨a, rfl, ha, q⟩ := h
  obtain rfl := Vals.ref1 r
  obtain ⟨_, its, rv, o, h1, h2, n, h3⟩ := (show ObjOk X.prog X.w H s.heap a (.tup []) from I.hok _ _ ha)
  cases rv
  refine sorted_tup0 h1 h2 h3 fun h' hk hh m hk2 hl => ?_
  have I1 : Inv X pins σ H { s with heap := h' } := I.kept (t' := s.toks) hk
  exact ⟨.ref h'.objs.size, upd H h'.objs.size (.lst []), I1.laid (t' := s.toks) hk2 (Nat.le_refl _) ⟨Nat.zero_le _, [], m, .nil, hl⟩, rfl, q _ (I1.hok.fresh (Nat.le_refl _))⟩
/-- list(d.items()), the keys tuples -/
def tListItemsT (te : TE) : TE := fun σ H Q => te σ H fun x H1 => ∃ (d : Addr) (kvs : List (List L2.Key × V)), x = .ref d ∧ H1 d = some (.dT kvs) ∧
  ∀ (H' : Hp) (p : Addr) (ts : List Addr), (∀ b o, H1 b = some o → H' b = some o) → H1 p = none → H' p = some (.lst (ts.map V.ref)) →
    Paired (fun (t : Addr) (q : List L2.Key × V) => ∃ kq, H1 kq = some (.tup (q.1.map kV)) ∧ H' t = some (.tup [.ref kq, q.2])) ts kvs → Q (.ref p) H'
theorem paired_of {α β : Type} {F : α → β → Prop} : ∀ {xs : List α} {ys : List β}, xs.length = ys.length → (∀ (j : Nat) (x : α) (y : β), xs[j]? = some x → ys[j]? = some y → F x y) → Paired F xs ys
  | [], [], _, _ => .nil
  | [], _ :: _, h, _ => by cases h
  | _ :: _, [], h, _ => by cases h
  | x :: xs, y :: ys, h, g => .cons (g 0 x y rfl rfl) (paired_of (Nat.succ.inj h) fun j a b ha hb => g (j + 1) a b ha hb)
theorem pe_listItemsT (hc : X.calm = true) (he : PE X e te) (hg : Gl X "list") (hm : X.mg "list" = none) (hv : bootBuiltins "list" = some (.type "list")) (hbase : attributeBase e "items" X.env (eval e X.env) = eval e X.env := by rfl) (hline : (apos.endLine == cpos.line) = true := by rfl)
    (hs : starEach [.Call (.Attribute e "items" apos) [] [] cpos] X.env = (false, eval (.Call (.Attribute e "items" apos) [] [] cpos) X.env) :: starEach [] X.env := by rfl) :
    PE X (.Call (.Name "list" p) [.Call (.Attribute e "items" apos) [] [] cpos] [] pos) (tListItemsT te) := by
  refine ⟨fun pins s σ H Q I hq => ?_⟩
  refine wpAny_Call_Name_kw (ld_blt I hg hm hv ?_)
  refine PyProof.Rows.callWith_type1 ?_ hs rfl
  rw [hs]
  show wpAny _ _ (spliced ((false, eval (.Call (.Attribute e "items" apos) [] [] cpos) X.env) :: backTo pos (starEach [] X.env))) _ _ s
  refine Calls.spliced_cons ?_
  refine wpAny_Call_method (T := "dict") (id := "dict.items") hbase rfl hline F.plainAttrs_dict F.slot_dict_items F.type_dict_items (thn (he.run pins s σ H _ I hq) fun u s1 ⟨x, H1, I1, rx, d, kvs, ex, hd, q⟩ => ?_)
  subst ex
  obtain rfl : u = Value.ref d := rx
  obtain ⟨hz, hs0, ws, rel, o, es, ep, ho, hx, hdat, hes, his, hnd⟩ := dt_of I1.hok hd
  have raw : DT.Raw s1.heap d es ep := ⟨o, ho, hx, hdat⟩
  have le : es.size = ws.length := size_of_entries hes
  have lk : kvs.length = ws.length := Paired.length rel
  refine ⟨raw.typeIs, fun o' e' => ?_, ?_⟩
  · cases e'
    exact ⟨o, ho, hx.2.1⟩
  have I2 : Inv X pins σ H1 { s1 with heap := s1.heap.push { cls := .type "dict_items", data := .fields #[.ref d] } } := I1.kept (t' := s1.toks) fun b ob q => Heap.get?_push_of_some _ q
  show wpAny _ _ (callWith cpos (.builtin "dict.items") [.ref d] [] []) _ X.xe s1
  refine Calls.callWith_builtin rfl (PySem.evalArgs_none ?_)
  refine DT.callItems hs0 raw ?_
  refine Calls.spliced_nil ?_
  refine list_items_raw (es := es) (ep := ep) (I1.ok.hd hc) ⟨_, Heap.get?_push_size _ rfl, rfl, rfl⟩ (raw.push _) (by omega) fun h' tk acc c as hk hS hl hG hacc => ?_
  generalize hs2 : ({ s1 with heap := s1.heap.push { cls := .type "dict_items", data := .fields #[.ref d] } } : Shared) = s2 at I2
  have eh : s2.heap = s1.heap.push { cls := .type "dict_items", data := .fields #[.ref d] } := by rw [← hs2]
  have es2 : ∀ h tk, ({ s1 with heap := h, toks := tk } : Shared) = { s2 with heap := h, toks := tk } := fun h tk => by rw [← hs2]
  rw [← eh] at hk hS hG
  have newS : H1 s2.heap.objs.size = none := I2.hok.fresh (Nat.le_refl _)
  have nd : as.Nodup := List.Pairwise.imp (fun {a b} (h : a < b) => Nat.ne_of_lt h) hG.rise
  have lka : as.length = kvs.length := by omega
  have I3 : Inv X pins σ (upd H1 s2.heap.objs.size (.lst (as.map V.ref))) { s2 with heap := h', toks := tk } := I2.laid (t' := tk) hk (Nat.le_refl _) ⟨by rw [List.length_map]; omega, acc.toList, c, by rw [hacc]; exact LiI.vals_refs as, by rw [Array.toArray_toList]; exact hS⟩
  obtain ⟨H2, I4, g, qt⟩ := L2.DX.takeT (P := fun b vs => ∃ (j : Nat) (q : List L2.Key × V) (kq : Addr), as[j]? = some b ∧ kvs[j]? = some q ∧ vs = [.ref kq, q.2] ∧ H1 kq = some (.tup (q.1.map kV))) I2 as _ I3 nd fun b hb => by
    have lo := hG.above b hb
    obtain ⟨j, hj⟩ := List.mem_iff_getElem?.mp hb
    obtain ⟨en, he1, he2⟩ := hG.pairs j b hj
    rw [entry_at hes j] at he1
    cases hxj : ws[j]? with
    | none => rw [hxj] at he1; cases he1
    | some y =>
      rw [hxj] at he1
      cases Option.some.inj he1
      obtain ⟨q', eq1, r1, r2, r3⟩ := L2.DX.pget rel hxj
      refine ⟨Nat.le_of_lt lo, ?_, _, ⟨j, q', y.2.1, hj, eq1, rfl, r2⟩, fun H2 => ⟨by show 2 ≤ sizeLine; decide, [.ref y.2.1, y.2.2], .cons rfl (.cons r3 .nil), ⟨_, he2, rfl, _, rfl⟩⟩⟩
      rw [upd_ne (Nat.ne_of_gt lo)]
      exact I2.hok.fresh (Nat.le_of_lt lo)
  refine ⟨.ref s2.heap.objs.size, H2, I4, rfl, q H2 _ as (fun b u e => g b u ?_) newS (g _ _ upd_same) (paired_of lka fun j t q' ht hq' => ?_)⟩
  · rw [upd_ne (ne_of_none e newS)]
    exact e
  · obtain ⟨vs, ⟨i, q2, kq, e1, e2, rfl, e4⟩, e5⟩ := qt t (List.mem_of_getElem? ht)
    have ij : i = j := (List.getElem?_inj (List.getElem?_eq_some_iff.mp e1).1 nd).mp (e1.trans ht.symm)
    subst ij
    cases Option.some.inj (e2.symm.trans hq')
    exact ⟨kq, e4, e5⟩
end
end Ux

set_option Elab.async false
set_option linter.all false
set_option maxRecDepth 100000
set_option maxHeartbeats 4000000
set_option pp.maxSteps 600
/-! A list comprehension whose element may raise: the exception leaves the def. -/
namespace Ux
open PySem PySem.Spec PyProof.Rows L2
section
variable {M : Model} {A : Around} {E : Value → Shared → Prop} {s : Shared} {Z : Obj → Prop} {base : Heap} {env : Env} {outer l : List Env} {L e : Addr}
/-- in flight over the frames l, whichever frame it was noted at -/
def AirZ (base : Heap) (l : List Env) (e : Addr) (Z : Obj → Prop) (h : Heap) : Prop := base.StaysIn h ∧ base.get? e = none ∧ h.FunFrames base l ∧ ∃ fl, HandSPX.TracedZ h base e Z fl
theorem AirZ.flying (x : HandSPX.FlyingZ base l e Z s.heap) : AirZ base l e Z s.heap := ⟨x.1, x.2.1, x.2.2.1, _, x.2.2.2⟩
theorem AirZ.held (x : HandSPX.HeldZ base l e Z L s.heap) : AirZ base l e Z s.heap := ⟨x.1, x.2.1, x.2.2.1, _, x.2.2.2⟩
/-- noted by a frame -/
theorem air_noted {Q : Unit → Shared → Prop} (hZ : HandSPX.Steady Z) (hfr : A.frames = some (env :: outer)) (hf : env.frame = some L) (hx : AirZ base (env :: outer) e Z s.heap)
    (hQ : ∀ h', HandSPX.HeldZ base (env :: outer) e Z L h' → s.heap.UpToSlots h' → Q () { s with heap := h' }) : wpAny M A (noteFrame (.ref e) env) Q E s := by
  obtain ⟨st, ne, ff, fl, tr⟩ := hx
  obtain ⟨oe, vs, T, oT, ts, he, hz, hd, h1, hnT, hTe, hT, hdT, h3⟩ := id tr
  unfold noteFrame
  simp only [hf]
  refine wpAny_bind (wpAny_field he hd h1 ?_)
  rw [if_pos (show (Value.ref T != Value.none) = true from by simp)]
  refine wpAny_bind (wpAny_field hT hdT h3 ?_)
  by_cases hb : (fl == rawInt L) = true
  · rw [if_pos hb]
    have ef : fl = rawInt L := eq_of_beq hb
    rw [ef] at tr
    exact wpAny_pure (hQ s.heap ⟨st, ne, ff, tr⟩ (Heap.UpToSlots.refl _))
  · rw [if_neg hb]
    refine wpAny_bind (wpAny_setField hT hdT (Array.getElem?_eq_some_iff.mp h3).1 ?_)
    have other : ∀ b, b ≠ T → (s.heap.update T (Obj.mapFields (·.setIfInBounds 3 Value.none))).get? b = s.heap.get? b := fun b hb => Heap.get?_update_other _ _ (Ne.symm hb)
    have noT : ∀ b o, s.heap.get? b = some o → (∀ vs, o.data ≠ .fields vs) → b ≠ T := fun b o hb hnf q => by
      rw [q, hT] at hb
      cases hb
      exact hnf ts hdT
    refine HandSPX.wpAny_entryZ hZ hfr (ff.of_keeps fun b o hb hnf => ⟨o, (other b (noT b o hb hnf)).trans hb, rfl⟩) hf ((other e (Ne.symm hTe)).trans he)
      (fun b o hbo => (other b fun q => by rw [q, hnT] at hbo; cases hbo).trans (st b o hbo)) ne hd (Array.getElem?_eq_some_iff.mp h1).1 hz fun h' hN => ?_
    obtain ⟨x1, x2, x3, x4⟩ := hN
    exact hQ h' ⟨x1, ne, x2, x3⟩ fun b o hb hnf => x4 b o ((other b (noT b o hb hnf)).trans hb) hnf
/-- it leaves a frame -/
theorem air_leaves {Q : Unit → Shared → Prop} (hZ : HandSPX.Steady Z) (hfr : A.frames = some (env :: outer)) (hf : env.frame = some L) (hx : AirZ base (env :: outer) e Z s.heap)
    (hQ : ∀ h', HandSPX.FlyingZ base outer e Z h' → s.heap.UpToSlots h' → Q () { s with heap := h' }) : wpAny M A (leaving env (.ref e)) Q E s := by
  unfold leaving
  refine wpAny_bind (air_noted hZ hfr hf hx fun h1 hh up => ?_)
  refine HandSPX.landsZ (s := { s with heap := h1 }) hh fun h2 hfl k => ?_
  obtain ⟨k1, k2, ⟨_, _, k3⟩, k4⟩ := hfl
  exact hQ h2 ⟨k1, k2, k3, k4⟩ (up.trans k)
theorem sky_noted {B : Heap} {L' : Addr} {Q : Unit → Shared → Prop} (hZ : HandSPX.Steady Z) (hfr : A.frames = some (env :: outer)) (hf : env.frame = some L) (x : Sky B (env :: outer) e Z L' s.heap)
    (hQ : ∀ h', HandSPX.HeldZ B (env :: outer) e Z L h' → s.heap.UpToSlots h' → Q () { s with heap := h' }) : wpAny M A (noteFrame (.ref e) env) Q E s := by
  rcases x with ⟨hB, hn, hl, oe, vs, he, hz, hd, h1⟩ | fl | hh
  · exact HandSPX.look_newZ hZ hfr hl hf he hB hn hd h1 hz hQ
  · exact air_noted hZ hfr hf (.flying fl) hQ
  · exact air_noted hZ hfr hf (.held hh) hQ
end
/-- an exception in the air of X, whichever frame it was noted at -/
def XA (X : Cx) (E : XK) (u : Value) (s' : Shared) : Prop :=
  ∃ (a : Addr) (B : Heap) (sI : Shared) (pins : List (Addr × Obj)) (σ : L2.St) (H : Hp) (cls : Value) (d : Option Addr),
    u = .ref a ∧ Inv X pins σ H sI ∧ (∀ b o, sI.heap.get? b = some o → b ∉ frs X.stack → B.get? b = some o) ∧ sI.heap.UpToSlots s'.heap ∧
      AirZ B X.stack a (Zc cls d) s'.heap ∧ H a = none ∧ s'.os = sI.os ∧ AllBare s'.gens ∧ E cls d H
section
variable {X : Cx} {E : XK} {s' : Shared}
theorem XA.leave (hs : X.stack = X.env :: X.outer) (hf : X.env.frame = some X.env.locals) (hex : X.ex = []) {E₁ : Value → Shared → Prop} {u : Value} (x : XA X E u s') :
    wpAny (model X.prog X.w) X.A (leaving X.env u) (fun _ s'' => L2.CX X.prog X.w X.outer X.H_0 X.s_0 E u s'') E₁ s' := by
  obtain ⟨a, B, sI, pins, σ, H, cls, d, rfl, I, nb, up, air, na, os, ag, w⟩ := x
  have hfr : X.A.frames = some (X.env :: X.outer) := by rw [I.ok.frames, hs]
  have nst : ∀ b o, X.s_0.heap.get? b = some o → b ∉ X.fs → b ∉ frs X.stack := fun b o e hb hm => by
    rcases List.mem_cons.mp (I.stkSub b hm) with z | z
    · have h1 := Heap.lt_size e
      have h2 := I.ok.above
      rw [z] at h1
      exact absurd (Nat.lt_of_lt_of_le h1 h2) (Nat.lt_irrefl _)
    · exact hb z
  have nex : ∀ b, b ∉ X.ex := fun b hb => by rw [hex] at hb; cases hb
  rw [hs] at air
  refine air_leaves Zc.steady hfr hf air fun h' fl up' => ?_
  refine ⟨a, B, H, cls, d, rfl, fl, I.inGround nb, ⟨fun b o e n hb => nb b o (I.base.keep b o e n hb (nex b)) (nst b o e hb), fun b o e hb => ?_, fun b o e n => I.base.free b o e n (nex b), fun b o e hb => ?_, I.base.tups, I.base.frzs, I.base.tbls⟩, na, os.trans I.os, ag, w⟩
  · obtain ⟨_, o₀, e₀, hnf⟩ := I.ok.funs.mem hb
    cases Option.some.inj (e.symm.trans e₀)
    obtain ⟨sl, e1⟩ := I.base.slot b o e (I.ok.frf b hb) hb (nex b)
    obtain ⟨sl2, e2⟩ := up b _ e1 hnf
    obtain ⟨sl3, e3⟩ := up' b _ e2 hnf
    exact ⟨sl3, e3⟩
  · obtain ⟨o', e1⟩ := I.base.there b o e (nex b)
    exact ⟨o', nb b o' e1 (nst b o e hb)⟩
end
theorem funs_but {h h' base : Heap} {C : Addr} (hs : Heap.SameBut C h h') : ∀ {l : List Env}, h.FunFrames base l → C ∉ frs l → h'.FunFrames base l
  | [], _, _ => trivial
  | env :: l, x, n => by
    obtain ⟨hk, ⟨L, o, hf, hb, ho, hd⟩, hr⟩ := x
    have nL : L ≠ C := fun z => n (List.mem_filterMap.mpr ⟨env, List.mem_cons_self, by rw [hf, z]⟩)
    exact ⟨hk, ⟨L, o, hf, hb, (hs.2 L nL).trans ho, hd⟩, funs_but hs hr fun z => n (by
      obtain ⟨e, he, q⟩ := List.mem_filterMap.mp z
      exact List.mem_filterMap.mpr ⟨e, List.mem_cons_of_mem _ he, q⟩)⟩
theorem hide_ne {h : Heap} {C b : Addr} {o : Obj} (e : (PySem.W.hideAll h [C]).get? b = some o) : b ≠ C := fun z => by
  rw [z, PySem.W.hideAll_none [C] List.mem_cons_self] at e
  cases e
/-- the block's context, with a wish about exceptions -/
abbrev blkX (X : Cx) (s : Shared) (H : Hp) (scope : Scope) (ce : Env) (fp : List Addr) (xe : Value → Shared → Prop) : Cx := { X.blk s H scope ce fp with xe := xe }
section
variable {X : Cx} {E : XK} {s' : Shared}
theorem inv_to {xe : Value → Shared → Prop} {pins : List (Addr × Obj)} {σ : L2.St} {H : Hp} {s : Shared} (I : Inv X pins σ H s) : Inv { X with xe := xe } pins σ H s :=
  ⟨⟨I.ok.mod, I.ok.kind, I.ok.glob, I.ok.blt, I.ok.above, I.ok.inj, I.ok.has, I.ok.cab, I.ok.hd, I.ok.frames, I.ok.stk, I.ok.exf, I.ok.bs, I.ok.bsz, I.ok.noex, I.ok.exfs, I.ok.funs, I.ok.frf⟩, I.os, I.bare, I.base, I.loc, I.cell, I.free, I.freeC, I.pin, I.hok, I.len⟩
theorem inv_of {xe : Value → Shared → Prop} {pins : List (Addr × Obj)} {σ : L2.St} {H : Hp} {s : Shared} (I : Inv { X with xe := xe } pins σ H s) : Inv X pins σ H s :=
  ⟨⟨I.ok.mod, I.ok.kind, I.ok.glob, I.ok.blt, I.ok.above, I.ok.inj, I.ok.has, I.ok.cab, I.ok.hd, I.ok.frames, I.ok.stk, I.ok.exf, I.ok.bs, I.ok.bsz, I.ok.noex, I.ok.exfs, I.ok.funs, I.ok.frf⟩, I.os, I.bare, I.base, I.loc, I.cell, I.free, I.freeC, I.pin, I.hok, I.len⟩
theorem xe_of {xe : Value → Shared → Prop} {W : WX} {u : Value} (x : XE { X with xe := xe } W u s') : XE X W u s' := by
  obtain ⟨a, B, sI, pins, σ, H, cls, d, e, I, r⟩ := x
  exact ⟨a, B, sI, pins, σ, H, cls, d, e, inv_of I, r⟩
/-- the exception flies out of the block: noted, the block's names let go, passed on -/
theorem blk_raises {pins : List (Addr × Obj)} {σ : L2.St} {HB : Hp} {sB : Shared} {scope : Scope} {ce : Env} {fp : List Addr} {u : Value} {Qf : Value → Shared → Prop} {acc : Value} {E₁ E₂ : Value → Shared → Prop} (IB : Inv X pins σ HB sB) (fB : ∀ b ∈ fp, FpOk X pins HB b)
    (hxe : X.xe = fun e s' => wpAny (model X.prog X.w) X.A (leaving X.env e) (fun _ s'' => L2.CX X.prog X.w X.outer X.H_0 X.s_0 E e s'') E₁ s') (hst : X.stack = X.env :: X.outer) (hfm : X.env.frame = some X.env.locals) (hex : X.ex = [])
    (hce : ce.frame = X.env.frame) (cL : ce.locals = sB.heap.objs.size) (x : XE (X.blk sB HB scope ce fp) (fun cls d _ H => E cls d H) u s') :
    wpAny (model X.prog X.w) X.A (noteFrame u ce) (fun _ s'' => compPost (model X.prog X.w) X.A X.xe none Qf acc sB.heap.objs.size (.error u) s'') E₂ s' := by
  obtain ⟨a, B, sI, pz, σz, H, cls, d, rfl, I, nb, up, sky, na, os, ag, w⟩ := x
  have hfr : X.A.frames = some (X.env :: X.outer) := by rw [IB.ok.frames, hst]
  have sky : Sky B X.stack a (Zc cls d) ce.locals s'.heap := sky
  rw [hst] at sky
  have nb : ∀ b o, sI.heap.get? b = some o → b ∉ frs X.stack → B.get? b = some o := nb
  have en : noteFrame (.ref a) ce = noteFrame (.ref a) X.env := by
    unfold noteFrame PySem.frameOf
    rw [hce]
  rw [en]
  refine sky_noted Zc.steady hfr hfm sky fun h1 hh up1 => ?_
  obtain ⟨m, hm, _⟩ := I.loc
  have hm : sI.heap.Ns ce.locals m := hm
  have nC : H ce.locals = none := I.free
  rw [cL] at hm nC
  have up2 := up.trans up1
  refine ⟨m, up2.ns hm, fun h2 sb cenv _ => ?_⟩
  have IX : Inv X pins σ H sI := IB.call' (ch := fp) I.os I.base I.hok I.bare fun b hb => let ⟨_, e1, _, e3, e4, e5⟩ := fB b hb; ⟨e3, e1, e4, e5⟩
  obtain ⟨f0, f1, _, f3, f4, f5⟩ := IB.fpOk (Nat.le_refl _) nC
  generalize hC : sB.heap.objs.size = C at *
  have IY : Inv X pins σ H { sI with heap := PySem.W.hideAll sI.heap [C] } := IX.turned (t' := sI.toks) (fun b o hb e => PySem.W.hideAll_get [C] e fun z => hb (List.mem_singleton.mp z)) nC f1 f3 f4 f5
  have nF : C ∉ frs X.stack := fun z => by
    obtain ⟨_, o, e, _⟩ := IB.stack.mem z
    exact absurd (Heap.lt_size e) (by rw [hC]; exact Nat.lt_irrefl _)
  obtain ⟨oC, _, _, eC, _⟩ := id hm
  have bC := nb C oC eC nF
  obtain ⟨st1, na1, ff1, oe, vs, T, oT, ts, he, hz, hd, hv1, hnT, hTe, hT, hdT, h3⟩ := hh
  have aC : a ≠ C := fun z => by rw [z, bC] at na1; cases na1
  have TC : T ≠ C := fun z => by rw [z, bC] at hnT; cases hnT
  have gone : ∀ {b}, B.get? b = none → (PySem.W.hideAll B [C]).get? b = none := fun {b} e => by
    cases q : (PySem.W.hideAll B [C]).get? b with
    | none => rfl
    | some o => rw [PySem.W.of_hideAll _ q] at e; cases e
  have st2 : (PySem.W.hideAll B [C]).StaysIn h2 := fun b o e => (sb.2 b (hide_ne e)).trans (st1 b o (PySem.W.of_hideAll _ e))
  have ff2 : h2.FunFrames (PySem.W.hideAll B [C]) (X.env :: X.outer) := by
    refine funFrames_none (funs_but sb ff1 (by rw [← hst]; exact nF)) fun b hb => gone ?_
    exact (ff1.mem hb).1
  have tr2 : HandSPX.TracedZ h2 (PySem.W.hideAll B [C]) a (Zc cls d) (rawInt X.env.locals) := ⟨oe, vs, T, oT, ts, (sb.2 a aC).trans he, hz, hd, hv1, gone hnT, hTe, (sb.2 T TC).trans hT, hdT, h3⟩
  unfold PySem.passOn
  refine wpAny_bind (wpAny_field ((sb.2 a aC).trans he) hd hv1 ?_)
  rw [if_neg (show ¬ ((Value.ref T == Value.none) = true) from by simp)]
  refine wpAny_bind (HandSPX.setFlight_anyZ st2 ff2 tr2 fun h4 k1 k2 k3 k4 => wpAny_throw ?_)
  rw [hxe]
  refine XA.leave hst hfm hex ⟨a, PySem.W.hideAll B [C], { sI with heap := PySem.W.hideAll sI.heap [C] }, pins, σ, H, cls, d, rfl, IY, fun b o e hb => ?_, fun b o e hnf => ?_, ⟨k1, gone na1, by rw [hst]; exact k2, _, k3⟩, na, os, ag, w⟩
  · exact PySem.W.hideAll_get [C] (nb b o (PySem.W.of_hideAll _ e) hb) fun z => hide_ne e (List.mem_singleton.mp z)
  · obtain ⟨sl, e1⟩ := up2 b o (PySem.W.of_hideAll _ e) hnf
    obtain ⟨sl2, e2⟩ := k4 b _ ((sb.2 b (hide_ne e)).trans e1) hnf
    exact ⟨sl2, e2⟩
theorem pe_lcX {Er : XK} {E₁ : Value → Shared → Prop} {elt tg iter : Expr} {scope : Scope} {own : List (Str × Nat)} {pos : Pos} {wi : TI} {g : TG} {te : TE}
    (hxe : X.xe = fun e s' => wpAny (model X.prog X.w) X.A (leaving X.env e) (fun _ s'' => L2.CX X.prog X.w X.outer X.H_0 X.s_0 Er e s'') E₁ s') (hst : X.stack = X.env :: X.outer) (hfm : X.env.frame = some X.env.locals) (hex : X.ex = []) (hc : X.calm = true) (hN : X.N.Nodup) (hi : PI X tg iter wi) (ok : BlkOk X.N X.env.scope scope own)
    (hg : ∀ s H C cl fp xe, PG (blkX X s H scope (compEnvC scope cl C X.env) fp xe) tg g)
    (he : ∀ s H C cl fp xe, Takes (blkX X s H scope (compEnvC scope cl C X.env) fp xe) (fun cls d _ H => Er cls d H) → PE (blkX X s H scope (compEnvC scope cl C X.env) fp xe) elt te) (hs : ∀ x, foldedSetIterable iter X.env x = pure x := by intro _; rfl) :
    PE X (.ListComp elt [⟨tg, iter, [], 0⟩] scope pos) (tLc wi g tYes te (own.map (·.2))) := by
  refine ⟨fun p0 s0 σ H0 Q I0 h => ?_⟩
  rw [eval_ListComp]
  refine wpAny_comprehension_free rfl hs (closure_ok fun y hy e => (ok.free y hy e).elim (fun k => I0.ok.has _ (.inl k)) fun k => I0.ok.has _ (.inr k)) ok.kind (fun y hy e => (ok.uniq y hy).trans (by rw [e]))
    (thn (hi.run p0 s0 σ H0 _ I0 h) fun _ _ hx => thn hx fun _ sA ⟨it, fp, tn, J, HA, e, IA, T, stA, fA, q⟩ => ?_)
  subst e
  refine wpAny_newObj_type (newEnv_comp ?_) (by show 0 ≤ sizeLine; decide)
  obtain ⟨W, ⟨m0, w0⟩, turn⟩ := q _ (IA.hok.fresh (Nat.le_refl _))
  have IB := IA.laid (a := sA.heap.objs.size) (o := .lst []) (h' := sA.heap.push { cls := .type "list", data := .seq ([] : List Value).toArray }) (t' := sA.toks) (fun b o e => Heap.get?_push_of_some _ e) (Nat.le_refl _)
    ⟨Nat.zero_le _, [], 0, .nil, Heap.get?_push_size _ rfl⟩
  have lt : ∀ b ∈ fp, b < sA.heap.objs.size := fun b hb => let ⟨o, e, _⟩ := T.obj _ _ stA b hb; Heap.lt_size e
  have stB : tn 0 (sA.heap.push { cls := .type "list", data := .seq ([] : List Value).toArray }) := T.keep _ _ _ stA fun b _ o e => Heap.get?_push_of_some _ e
  have fB : ∀ b ∈ fp, FpOk X p0 (upd HA sA.heap.objs.size (.lst [])) b ∧ b < (sA.heap.push { cls := .type "list", data := .seq ([] : List Value).toArray }).objs.size := fun b hb =>
    ⟨⟨(upd_ne (Nat.ne_of_lt (lt b hb))).trans (fA b hb).1, (fA b hb).2⟩, by rw [Heap.size_push]; exact Nat.lt_succ_of_lt (lt b hb)⟩
  generalize hD : sA.heap.objs.size = D at *
  generalize hHB : upd HA D (.lst []) = HB at *
  generalize hsB : ({ sA with heap := sA.heap.push { cls := .type "list", data := .seq ([] : List Value).toArray } } : Shared) = sB at *
  have hB : sA.heap.push { cls := .type "list", data := .seq ([] : List Value).toArray } = sB.heap := by rw [← hsB]
  rw [hB] at stB fB
  have up : ∀ {pz : List (Addr × Obj)} {σz : L2.St} {Hz : Hp} {sz : Shared} {ce : Env}, Inv (X.blk sB HB scope ce fp) pz σz Hz sz → Inv X p0 σ Hz sz := fun z =>
    IB.call' (ch := fp) z.os z.base z.hok z.bare fun b hb => let ⟨⟨_, e1, _, e3, e4, e5⟩, _⟩ := fB b hb; ⟨e3, e1, e4, e5⟩
  have J0 := block_start IB ok hN fB
  have eP := he sB HB sB.heap.objs.size (cellsFrom (sB.heap.objs.size + 1) scope.names (cloFrom X.env.cells scope.names [])) fp (fun u s' => XE (X.blk sB HB scope (compEnvC scope (cellsFrom (sB.heap.objs.size + 1) scope.names (cloFrom X.env.cells scope.names [])) sB.heap.objs.size X.env) fp) (fun cls d _ H => Er cls d H) u s') fun u s' x => xe_of x
  have gP := hg sB HB sB.heap.objs.size (cellsFrom (sB.heap.objs.size + 1) scope.names (cloFrom X.env.cells scope.names [])) fp (fun u s' => XE (X.blk sB HB scope (compEnvC scope (cellsFrom (sB.heap.objs.size + 1) scope.names (cloFrom X.env.cells scope.names [])) sB.heap.objs.size X.env) fp) (fun cls d _ H => Er cls d H) u s')
  refine (show codeAny _ _ (.compStart _ 0 _ _ (compEnvC scope (cellsFrom (sB.heap.objs.size + 1) scope.names (cloFrom X.env.cells scope.names [])) sB.heap.objs.size X.env)) (compPost _ _ X.xe none (EP X p0 σ Q) (.ref D) sB.heap.objs.size) { sB with heap := pushCells (sB.heap.push { cls := .type "dict", data := .dict #[] }) scope.names } from ?_)
  generalize hce : compEnvC scope (cellsFrom (sB.heap.objs.size + 1) scope.names (cloFrom X.env.cells scope.names [])) sB.heap.objs.size X.env = ce at J0 eP gP ⊢
  have cL : ce.locals = sB.heap.objs.size := by rw [← hce]; rfl
  have cF : ce.frame = X.env.frame := by rw [← hce]; rfl
  have conv : ∀ u s', XE (X.blk sB HB scope ce fp) (fun cls d _ H => Er cls d H) u s' → notedBy (model X.prog X.w) X.A ce (fun e s' => compPost (model X.prog X.w) X.A X.xe none (EP X p0 σ Q) (.ref D) sB.heap.objs.size (.error e) s') u s' :=
    fun u s' x => blk_raises IB (fun b hb => (fB b hb).1) hxe hst hfm hex cF cL x
  generalize hsC : ({ sB with heap := pushCells (sB.heap.push { cls := .type "dict", data := .dict #[] }) scope.names } : Shared) = sC at J0 ⊢
  have stC : tn 0 sC.heap := by rw [← hsC]; exact T.keep _ _ _ stB fun b _ o e => pushCells_keeps _ _ _ _ (Heap.get?_push_of_some _ e)
  have fk : ∀ {σz : L2.St} {Hz : Hp} {sz : Shared}, Inv (X.blk sB HB scope ce fp) [] σz Hz sz → (∀ b ∈ fp, Hz b = none) → ∀ b ∈ fp, FpOk (X.blk sB HB scope ce fp) [] Hz b := fun z n b hb =>
    ⟨n b hb, (z.ok.exf b hb).1, z.ok.exfs b hb, .inl hb, fun x c e => (z.ok.exf b hb).2 x c e, fun p hp => absurd (show p ∈ ([] : List (Addr × Obj)) ++ [] from hp) (by simp)⟩
  have loop : codeAny (model X.prog X.w) X.A (.compLoop (.ListComp elt [⟨tg, iter, [], 0⟩] scope pos) 0 (.ref it) (.ref D) ce) (compPost (model X.prog X.w) X.A X.xe none (EP X p0 σ Q) (.ref D) sB.heap.objs.size) sC := by
    refine compLoop_any (fun n sz => ∃ i Hz, (Inv (X.blk sB HB scope ce fp) [] (wipe σ (own.map (·.2))) Hz sz ∧ W i n Hz) ∧ tn i sz.heap ∧ ∀ b ∈ fp, Hz b = none) ?_ m0 ⟨0, HB, ⟨J0, w0⟩, stC, fun b hb => (fB b hb).1.1⟩
    rintro n sz ⟨i, Hz, ⟨Jz, wz⟩, tz, nz⟩
    rcases turn i n Hz wz with ⟨stop, qz⟩ | ⟨go, Nx, less, step⟩
    · refine thnF (T.done (X.blk sB HB scope ce fp) rfl rfl rfl hc i [] sz _ Hz (fun _ _ => False) Jz (fk Jz nz) tz stop) fun r sy ⟨er, Jy⟩ => ?_
      subst er
      have nC : Hz sB.heap.objs.size = none := cL ▸ Jy.free
      obtain ⟨m, hm, _⟩ := Jy.loc
      obtain ⟨f0, f1, _, f3, f4, f5⟩ := IB.fpOk (Nat.le_refl _) nC
      exact ⟨m, cL ▸ hm, fun h'' sb => ⟨.ref D, Hz, (up Jy).turned (t' := sy.toks) (fun b o hb e => (sb.2 b hb).trans e) f0 f1 f3 f4 f5, rfl, qz⟩⟩
    · refine thnF (T.item (X.blk sB HB scope ce fp) rfl rfl rfl hc i [] sz _ Hz (fun _ _ => False) Jz (fk Jz nz) tz go) fun r sy ⟨u, er, hy⟩ => ?_
      subst er
      refine thnF hy fun _ sx ⟨x, Hx, Jx, rx, yx, tx, nx⟩ => ?_
      refine wpAny_mono (gP.run _ sx _ Hx x u _ (inv_to (Jx.pinned (fk Jx nx) (T.obj _ _ tx))) rx (step x Hx yx)) (fun _ sw ⟨σw, Hw, Jw', hw, qw⟩ => ?_) conv
      have Jw : Inv (X.blk sB HB scope ce fp) ([] ++ pinsAt fp sx.heap) σw Hw sw := inv_of Jw'
      refine thnF ((pts_nil (X := X.blk sB HB scope ce fp)).run _ sw σw Hw _ Jw qw) fun b sv ⟨Hv, Jv, qv⟩ => ?_
      have fin : ∀ {sl : Shared} {Hl : Hp}, Inv (X.blk sB HB scope ce fp) ([] ++ pinsAt fp sx.heap) σw Hl sl → Nx Hl → ∃ m, m < n ∧ ∃ i Hk, (Inv (X.blk sB HB scope ce fp) [] (wipe σ (own.map (·.2))) Hk sl ∧ W i m Hk) ∧ tn i sl.heap ∧ ∀ b ∈ fp, Hk b = none := fun {sl Hl} Jl nl => by
        obtain ⟨m, hm, wm⟩ := less Hl nl
        have pinned : ∀ b ∈ fp, ∀ o, sx.heap.get? b = some o → sl.heap.get? b = some o ∧ Hl b = none := fun b hb o e => let z := Jl.pin (b, o) (List.mem_append_right _ (List.mem_append_right _ (mem_pinsAt hb e))); ⟨z.1, z.2.1⟩
        refine ⟨m, hm, i + 1, Hl, ⟨(Jl.unpinned (pins := [])).weak (by rw [← hw, wipe_length]) (fun j v e => (wipe_some (hw ▸ e)).1), wm⟩, T.keep _ _ _ tx fun b hb o e => (pinned b hb o e).1, fun b hb => ?_⟩
        obtain ⟨o, e, _⟩ := T.obj _ _ tx b hb
        exact (pinned b hb o e).2
      cases b with
      | false => exact fin Jv qv
      | true =>
        refine wpAny_mono (eP.run _ sv σw Hv _ (inv_to Jv) qv) (fun z su ⟨y, Hu, Ju', ry, acc, hD', hz, nu⟩ => ?_) conv
        have Ju : Inv (X.blk sB HB scope ce fp) ([] ++ pinsAt fp sx.heap) σw Hu su := inv_of Ju'
        exact app_ok (X := X.blk sB HB scope ce fp) Ju hD' hz ry fun st Jt => fin Jt nu
  exact codeAny_compStart_list loop (T.self X.A 0 _ _ _ stC loop)
end
end Ux

set_option Elab.async false
set_option linter.all false
set_option maxRecDepth 100000
set_option maxHeartbeats 4000000
/-! A def handed a lambda as it is written; an instance called with keywords alone. -/
namespace Ux
open PySem PySem.Spec PyProof.Rows L2 LamX
theorem pe_lamvalL {X : Cx} {ds : List LamD} {es : List LamE} {te : TE} {TT : (XK → Hp → VK → Prop) → Hp → VK → Prop} {x a : Str} {g : Addr} {k : Nat} {pg : Arguments} {bg : List Stmt} {sg : Scope} {dV kV doc pm cdv ct oc : Value} {an od : Option Addr} {osl : Array (Option Value)} {Ng : List Str} {p pos lpos : Pos} {lps : Arguments} {lb : Expr} {lsc : Scope}
    (hg : Gl X x) (hm : X.mg x = some (.ref g)) (hk : PySem.W.keepIn X.K (.ref g) = true) (lk : X.K.lookup g = some ⟨oc, od, .func (PySem.W.fnOf x x pg bg sg dV kV doc pm an cdv ct), osl⟩) (hcg : PySem.W.codeIn X.K cdv x = true)
    (hb : L2.Binds X.K (PySem.W.fnOf x x pg bg sg dV kV doc pm an cdv ct) [a] []) (Sg : FnScope Ng [a] sg) (hNg : Ng[0]? = some a) (hva : Vis sg a) (hG : GivesTo X Ng x sg g cdv bg a (X.env.qual ++ "<lambda>") TT) (hr : Room (k + 2) X.A)
    (hds : ∀ d ∈ ds, LamOk X k d) (hes : ∀ d ∈ es, LamOkE X k d) (he : PE X (.Lambda lps lb lsc lpos) te) (hdb : (x == ("__debug__" : Str)) = false := by decide) (hd : (a == ("__debug__" : Str)) = false := by decide) (hcd : (a == ("__classdict__" : Str)) = false := by decide) :
    PE X (.Call (.Name x p) [.Lambda lps lb lsc lpos] [] pos) (tLamCallM X.env.cells (X.env.qual ++ "<lambda>") TT ds es te) := by
  refine ⟨fun pins s σ H Q I h => wpAny_Call_Name_kw (ld_glob I hg hm ?_ hdb)⟩
  refine PySem.W.callWith_K (h₀ := X.base) I.ok.mod.kin hk (show wpAny _ _ (spliced ((false, eval (.Lambda lps lb lsc lpos) X.env) :: backTo pos (starEach [] X.env))) _ _ s from ?_) (by rfl) (by rfl)
  refine Calls.spliced_cons (thn (he.run pins s σ H _ I h) fun u s' ⟨v, H1, I1, rv, hq⟩ => ?_)
  rcases hq with ⟨f, c', d, hmem, rfl, la, htt⟩ | ⟨f, c', T, d, hmem, rfl, la, htt⟩
  · obtain rfl : u = Value.ref f := rv
    refine Calls.spliced_nil ⟨I1.kIn, wpAny_call (codeAny_mono (run_ofS (CX := C8.CX0) (E := C8.E0) (Q := Q) (N := Ng) (ps := [a]) (us := [.ref f]) (vs := [.ref f]) lk hcg Sg hr I1.env0 (hb s' [.ref f] I1.kIn rfl) (.cons rfl .nil) rfl fun hr2 => ?_) fun r s2 hq => ?_)⟩
    · obtain ⟨t', ht', hq'⟩ := hG f c' s' H1 Q (fun E H' Q' => H' f = some (LamO X.env.cells (X.env.qual ++ "<lambda>") d f c') ∧ d.t E σ H' Q') (fun W pn xe E p1 p2 tk hW => pe_actV (i := 0) I1 (hds d hmem) tk hW hr2 hNg hva hd hcd) la.co htt
      exact ⟨t', ht'.nox, hq'⟩
    · rcases r with e | (_ | _ | _ | u)
      · exact (show False from hq).elim
      · exact False.elim hq
      · exact False.elim hq
      · exact False.elim hq
      · exact I1.after hq
  · obtain rfl : u = Value.ref f := rv
    refine Calls.spliced_nil ⟨I1.kIn, wpAny_call (codeAny_mono (run_ofS (CX := C8.CX0) (E := C8.E0) (Q := Q) (N := Ng) (ps := [a]) (us := [.ref f]) (vs := [.ref f]) lk hcg Sg hr I1.env0 (hb s' [.ref f] I1.kIn rfl) (.cons rfl .nil) rfl fun hr2 => ?_) fun r s2 hq => ?_)⟩
    · obtain ⟨t', ht', hq'⟩ := hG f c' s' H1 Q (fun E H' Q' => LamAtE X.env.cells (X.env.qual ++ "<lambda>") H' d f c' T ∧ d.t E σ H' Q') (fun W pn xe E p1 p2 tk hW => pe_actE (i := 0) (T := T) I1 (hes d hmem) tk hW hr2 hNg hva hd hcd) la.co htt
      exact ⟨t', ht'.nox, hq'⟩
    · rcases r with e | (_ | _ | _ | u)
      · exact (show False from hq).elim
      · exact False.elim hq
      · exact False.elim hq
      · exact False.elim hq
      · exact I1.after hq
end Ux
namespace Ux
open PySem PySem.Spec PyProof.Rows L2 StX
section
variable {X : Cx} {CX : CXT} {k : Nat} {C : Addr} {sp : Sp} {E : XK} {fe : Expr} {tf : TE} {tk : TA} {pos : Pos} {kws : List Keyword} {ks ps : List Str} {fd : FuncData} {gg : List Value → List Value → List Value} {gV : List V → List V → List V}
theorem callO_kws {M : Model} {A : Around} {E : Value → Shared → Prop} {s : Shared} {a : Addr} {pos : Pos} {Q : Value → Shared → Prop} {kws : List (Option Str × Sem Value)} (hall : kws.all (·.1.isSome) = true) (hplain : kws.any (·.1.isNone) = false)
    (h : wpAny M A (evalAll (kws.map (·.2))) (fun zs s₁ => (∃ C ox od, PySem.W.InstAt s₁.heap a ox C od ∧ ox.data = .plain) ∧ wpAny M A (call (.ref a) ([] ++ []) ((kws.filterMap (·.1)).zip zs)) Q E s₁) E s) : wpAny M A (callWith pos (.ref a) [] [] kws) Q E s := by
  unfold callWith
  refine wpAny_bind (wpAny_holding (evalArgs_kw_nil hall (wpAny_mono h (fun zs s₁ h₁ => wpAny_bind (wpAny_standAt ?_)) fun _ _ y => y)))
  obtain ⟨⟨C, ox, od, J, hd⟩, h₁⟩ := h₁
  have L := PySem.W.kco_keeper (M := M) J hd
  simp only [hplain, List.any_nil, Bool.or_false]
  refine wpAny_bind (L.here ?_)
  have tail : ∀ {t : Sem Value}, wpAny M A t Q E s₁ → wpAny M A (t >>= fun r => holding [r] point >>= fun _ => pure r) Q E s₁ :=
    fun ht => wpAny_bind (wpAny_mono ht (fun r s₂ hr => wpAny_bind (wpAny_holding (wpAny_point (wpAny_pure hr)))) fun _ _ y => y)
  exact tail (wpAny_operateT h₁)
/-- f(k = e, ..), f an expression that gives an instance of C -/
def tCallOK (X : Cx) (C : Addr) (sp : Sp) (gV : List V → List V → List V) (E : XK) (tf : TE) (tk : TA) : TE := fun σ H Q => tf σ H fun y H1 => ∃ a, y = V.ref a ∧ tk σ H1 fun zs H2 => InsC X H2 a C ∧ sp (gV [.ref a] zs) H2 Q E
theorem pe_callOK {g : Addr} (hf : PE X fe tf) (c : CallO X.K C g) (F : FnOk X.prog X.w X.K X.mg X.base CX k g fd ps sp) (hr : Room k X.A) (hb : KBinds X.K fd ps ks gg gV) (hx : Passes CX X E) (hkw : PK X kws tk)
    (hall : (backToKw pos (keywordEach kws X.env)).all (·.1.isSome) = true := by rfl) (hks : (backToKw pos (keywordEach kws X.env)).filterMap (·.1) = ks := by rfl)
    (ht : eval (.Call fe [] kws pos) X.env = (do callWith pos (← eval fe X.env) [] (backTo pos (starEach [] X.env)) (backToKw pos (keywordEach kws X.env))) := by rfl)
    (hpl : (backToKw pos (keywordEach kws X.env)).any (·.1.isNone) = false := by rfl) : PE X (.Call fe [] kws pos) (tCallOK X C sp gV E tf tk) := by
  refine ⟨fun pins s σ H Q I h => ?_⟩
  rw [ht]
  refine wpAny_bind (thn (hf.run pins s σ H _ I h) fun u s1 ⟨y, H1, I1, ry, a, ey, q⟩ => ?_)
  subst ey
  obtain rfl : u = Value.ref a := ry
  show wpAny _ _ (callWith pos (.ref a) [] [] (backToKw pos (keywordEach kws X.env))) _ _ _
  refine callO_kws hall hpl (thn (hkw.run pos pins s1 σ H1 _ I1 q) fun ws s2 ⟨zs, H2, I2, rz, hi, q2⟩ => ?_)
  obtain ⟨ox, od, J, hd⟩ := insC_at I2 hi
  refine ⟨⟨C, ox, od, J, hd⟩, ?_⟩
  rw [hks]
  have hl := F.len _ _ _ _ q2
  have r2 := hb.rel (vs := [V.ref a]) (us := [Value.ref a]) (.cons rfl .nil) rz
  have hl2 : (gg [.ref a] ws).length = ps.length := by rw [← r2.length]; exact hl
  refine wpAny_call (PySem.W.kco_code I2.kIn J hd c.at_ c.fn c.fi (codeAny_mono (F.run X.A X.stack s2 H2 ⟨[.ref a], ks.zip ws⟩ (gg [.ref a] ws) (gV [.ref a] zs) Q E hr I2.env0 (hb.to s2 [.ref a] ws I2.kIn hl2) r2 q2) fun r s' hq => ?_))
  cases r with
  | error e => exact hx pins σ H2 s2 e s' I2 hq
  | ok fl =>
    cases fl with
    | ret u => exact I2.after hq
    | next => exact False.elim hq
    | brk => exact False.elim hq
    | cont => exact False.elim hq
end
end Ux

set_option Elab.async false
set_option linter.all false
set_option maxRecDepth 100000
set_option maxHeartbeats 4000000
set_option pp.maxSteps 600
namespace K36
open PySem PySem.Spec PyProof.Rows L2 Ux
/-- no whole number -/
def NotInt (K : PySem.W.Frag) (H : Hp) (v : V) : Prop := ∃ t b1 b2, TyX K H v t ∧ PySem.W.kitOne K t (.type "int") = some b1 ∧ PySem.W.kitOne K t (.type "bool") = some b2 ∧ (b1 && !b2) = false
abbrev RaisesN (CI : Addr) (v : V) (H : Hp) (E : XK) : Prop := ∀ d H', Same H H' → H' d = some (.xd (inFs v)) → E (.ref CI) (some d) H'
theorem slps_succ : ∀ (n : Nat) (ps : List PQ), slps (n + 1) ps = slp (slps n ps)
  | 0, _ => rfl
  | n + 1, ps => slps_succ n (slp ps)
theorem slps_le : ∀ (n : Nat) (ps : List PQ), (slps n ps).length ≤ ps.length
  | 0, _ => Nat.le_refl _
  | n + 1, ps => Nat.le_trans (slps_le n (slp ps)) (by rw [slp_len]; omega)
theorem curve_madeL {K : PySem.W.Frag} {CR CC : Addr} {H : Hp} {Qn : Hp → Prop} {E : XK} {x dx l : Addr} {vs : List V} {xs : List V} {ps : List PQ} (e : vs = [.ref x, .ref l]) (nx : H x = none) (nd : H dx = none) (hl : SqL K H l xs) (na : NsAt CR H xs ps) (le : ps.length ≤ 900)
    (k : ∀ L rs H1, H L = none → H1 x = some (.ins CC dx (cf L)) → H1 L = some (.lst (rs.map V.ref)) → RatsAt CR H1 rs (st ps) → Same H H1 → Qn H1) : spCInit K CR CC vs (upd (upd H dx (.own x)) x (.ins CC dx [])) (fun v H' => v = .non ∧ Qn H') E := by
  have s0 : Same H (upd (upd H dx (.own x)) x (.ins CC dx [])) := made_same nx nd But.refl
  exact ⟨x, dx, l, xs, ps, e, upd_same, SqL.ext hl s0, na.same s0, le, fun L rs H' hx hL ra nL bu => ⟨rfl, k L rs H' (none_of nL s0) hx hL ra (made_same nx nd bu)⟩⟩
theorem curve_made {K : PySem.W.Frag} {CR CC : Addr} {H : Hp} {Qn : Hp → Prop} {E : XK} {x dx l : Addr} {vs : List V} {xs : List V} {ps : List PQ} (e : vs = [.ref x, .ref l]) (nx : H x = none) (nd : H dx = none) (hl : SqL K H l xs) (na : NsAt CR H xs ps) (le : ps.length ≤ 900)
    (k : ∀ rs H1, CurAt CC CR H1 x rs (st ps) → Same H H1 → Qn H1) : spCInit K CR CC vs (upd (upd H dx (.own x)) x (.ins CC dx [])) (fun v H' => v = .non ∧ Qn H') E :=
  curve_madeL e nx nd hl na le fun L rs H1 _ hx hL ra s => k rs H1 ⟨⟨dx, L, hx, hL⟩, ra⟩ s
def spCSlo (K : PySem.W.Frag) (CR CC CI : Addr) : Sp := fun vs H Q E =>
  (∃ (c : Addr) (rs : List Addr) (ps : List PQ) (t : Nat) (n : Nat), vs = [.ref c, .int (t : Int)] ∧ CurAt CC CR H c rs ps ∧ Oks n ps ∧ n ≤ 900 ∧ ps.length ≤ 15 ∧ ∀ (c2 : Addr) (rs2 : List Addr) (H' : Hp), CurAt CC CR H' c2 rs2 (st (slps t ps)) → Same H H' → Q (.ref c2) H') ∨
  ∃ (c : Addr) (y : V), vs = [.ref c, y] ∧ Adm K H y ∧ (NotInt K H y ∨ ∃ i : Int, y = .int i ∧ i < 0) ∧ RaisesN CI y H E
section
variable {P : Program} {w : World} {K : PySem.W.Frag} {mg : Str → Option Value} {base : Heap} {CR CC CI fI : Addr}
theorem scCSlo : FnScope ["self", "times", "worths", "_"] ["self", "times"] (defScope sCSlo) := ⟨rfl, rfl, rfl, by decide +kernel, rfl, by decide +kernel, by decide +kernel⟩
theorem ok_cslo {f fN fS fi : Addr} {fd fdN fdS fdi fdI : FuncData} {dvs : List V} (F : FunD K "slope_curve" "Curve.slope_curve" (defArgs sCSlo) (defBody sCSlo) (defScope sCSlo) dvs [] f fd) (B : Bn mg) (B2 : Bk mg) (C : CT K mg CC) (I : IN K mg CI fI) (GI : FnOk P w K mg base CX0 2 fI fdI ["self", "given"] (spI_InvalidNumber K)) (bN : Binds K fdI ["self", "given"] [])
    (D : Dn K mg "is_integer" fN) (G : FnOk P w K mg base CX0 1 fN fdN ["value"] (spIsInt K)) (bI : Binds K fdN ["value"] []) (DS : Dn K mg "slope_worths" fS) (GS : FnOk P w K mg base CX0 6 fS fdS ["worths"] (spSlw K CR)) (bS : Binds K fdS ["worths"] [])
    (M : Mk K CC fi) (GC : FnOk P w K mg base CX0 5 fi fdi ["self", "worths"] (spCInit K CR CC)) (bC : Binds K fdi ["self", "worths"] []) : FnOk P w K mg base (L2.CX P w) 7 f fd ["self", "times"] (spCSlo K CR CC CI) := by
  refine F.ok scCSlo (fun vs H Q E h => ?_) (fun cdv A outer s H vs Q E hr h => ?_)
  · obtain ⟨c, rs, ps, t, n, rfl, _⟩ | ⟨c, y, rfl, _⟩ := h <;> rfl
  · have r1 : Room 1 _ := hr.mono (by decide)
    have r3 : Room 3 _ := hr.mono (by decide)
    have r6 : Room 6 _ := hr.mono (by decide)
    refine ⟨_, pss_cons (ps_if (PW.pt (pw_or (pt_not (pt_val (pe_call G r1 (by rfl) D.gl D.kp bI .nil pass0 (pa_cons (pv 1) pa_nil)))) (pw_or1 (pt_cmpR op_lt (pv 1) pe_int (nomark _))))) (pss_one (ps_raise rfl (takes_of rfl rfl rfl rfl) (pmk_oex I.ox I.ini I.ty GI r3 bN .nil pass0 (by rfl) I.gl (pa_cons (pv 1) pa_nil)))) pss_nil)
      (pss_cons (ps_set (i := 2) scCSlo.nd rfl (Or.inl rfl) (pe_fld (pv 0) rfl))
      (pss_cons (ps_for (passes_of rfl) rfl (pi_range1 (by rfl) B.frange (pa_cons (pe_callB (call_min2 rfl) (by rfl) B2.fmin (by decide +kernel) (pa_cons (pv 1) (pa_cons (pe_callB call_len (by rfl) B.flen (by decide +kernel) (pa_cons (pv 2) pa_nil)) pa_nil))) pa_nil)) (pg_name (i := 3) scCSlo.nd rfl (Or.inl rfl))
        (pss_one (ps_set (i := 2) scCSlo.nd rfl (Or.inl rfl) (pe_call GS r6 (by rfl) DS.gl DS.kp bS .nil pass0 (pa_cons (pv 2) pa_nil)))))
      (pss_one (ps_ret (pe_make M GC r6 (by rfl) C.gl bC .nil pass0 (pa_cons (pv 2) pa_nil)))))), ?_⟩
    obtain ⟨c, rs, ps, t, n, rfl, cu, ok, n9, le, q⟩ | ⟨c, y, rfl, ad, ⟨ty, b1, b2, h1, h2, h3, h4⟩ | ⟨i, rfl, hi⟩, k⟩ := h
    · refine ⟨_, rfl, _, _, true, false, rfl, .base (.int _), kit_ty (by decide +kernel), kit_ty (by decide +kernel), _, rfl, iteF ?_⟩
      refine ⟨_, rfl, _, _, rfl, rfl, _, rfl, ?_⟩
      rw [decide_eq_false (show ¬ (t : Int) < 0 by omega)]
      obtain ⟨dx, L, hc, hL⟩ := cu.ex
      refine iteF ⟨_, rfl, c, CC, dx, _, _, rfl, hc, C.cl, C.nW, cf_w L, ?_⟩
      refine ⟨_, rfl, _, rfl, .ref L, (rs.map V.ref).length, rfl, .inl ⟨_, .of hL, rfl⟩, _, _, rfl, ?_⟩
      have em : (if (((rs.map V.ref).length : Nat) : Int) < (t : Int) then (((rs.map V.ref).length : Nat) : Int) else (t : Int)) = ((min t ps.length : Nat) : Int) := by
        rw [List.length_map, cu.ls.len]
        split <;> omega
      rw [em]
      refine ⟨_, rfl, by omega, by omega, ?_⟩
      rw [Int.toNat_natCast]
      refine for_range (fun i σ H' => ∃ (l : Addr) (qs : List Addr) (x : Option V), σ = [some (.ref c), some (.int (t : Int)), some (.ref l), x] ∧ H' l = some (.lst (qs.map V.ref)) ∧ RatsAt CR H' qs (slps i ps) ∧ Same H H') ⟨L, rs, none, rfl, hL, cu.ls, Same.refl _⟩ ?_ ?_
      · rintro i σ H' hi ⟨l, qs, x, rfl, hl, ra, s1⟩
        have oi := ok.slps i le
        refine ⟨_, rfl, l, qs, slps i ps, rfl, .of hl, ra, oi.le (by omega), ?_, fun p us H2 hp rp s2 => ⟨p, us, _, rfl, hp, by rw [slps_succ]; exact rp, s1.trans s2⟩⟩
        have := slps_le i ps
        omega
      · rintro σ H' ⟨l, qs, x, rfl, hl, ra, s1⟩
        rw [slps_min] at ra
        refine ⟨_, rfl, fun z dz nz nd ne => curve_made rfl nz nd (.of hl) (.ofR ra) ?_ fun us H2 cu2 s2 => q z us H2 cu2 (s1.trans s2)⟩
        have := slps_le t ps
        omega
    · exact ⟨_, rfl, _, _, b1, b2, rfl, h1, h2, h3, false, congrArg V.bl h4, iteT (in_made I rfl ad k)⟩
    · refine ⟨_, rfl, _, _, true, false, rfl, .base (.int _), kit_ty (by decide +kernel), kit_ty (by decide +kernel), _, rfl, iteF ?_⟩
      refine ⟨_, rfl, _, _, rfl, rfl, _, rfl, ?_⟩
      rw [decide_eq_true hi]
      exact iteT (in_made I rfl ad k)
end
end K36

set_option Elab.async false
set_option linter.all false
set_option maxRecDepth 100000
set_option maxHeartbeats 4000000
set_option pp.maxSteps 600
namespace K36
open PySem PySem.Spec PyProof.Rows L2 Ux
def nInt : List Str := ["self", "begin", "worths", "raised", "power", "worth"]
def inte (x : PQ) (ps : List PQ) : List PQ := ng (hor x (itg ps)) :: dvs ps
def spCInt (CR CC : Addr) : Sp := fun vs H Q _ => ∃ (c : Addr) (y : V) (rs : List Addr) (ps : List PQ) (x : PQ) (n m : Nat), vs = [.ref c, y] ∧ CurAt CC CR H c rs ps ∧ NumV CR H y x.1 x.2 ∧ Ok m x ∧ m ≤ 20 ∧ Oks n ps ∧ n ≤ 60 ∧ ps.length ≤ 14 ∧
  ∀ (c2 : Addr) (rs2 : List Addr) (H' : Hp), CurAt CC CR H' c2 rs2 (st (inte x ps)) → Same H H' → Q (.ref c2) H'
section
variable {P : Program} {w : World} {K : PySem.W.Frag} {mg : Str → Option Value} {base : Heap} {CR CC CI fI : Addr}
theorem scCInt : FnScope nInt ["self", "begin"] (defScope sCInt) := ⟨rfl, rfl, rfl, by decide +kernel, rfl, by decide +kernel, by decide +kernel⟩
theorem rf_no (t b : Int) : (rf t b).lookup ("over" : Str) = none := by
  unfold rf
  rw [lookup_putF, if_neg (by decide +kernel), lookup_putF, if_neg (by decide +kernel)]
  rfl
theorem dvs_len (ps : List PQ) : (dvs ps).length = ps.length := by unfold dvs; rw [List.length_mapIdx]
theorem over_1 {p : PQ} {k : Int} : (nT (fOver p.1 p.2 k 1) (gOver p.1 p.2 k 1), nB (fOver p.1 p.2 k 1) (gOver p.1 p.2 k 1)) = dv p k := by
  unfold fOver gOver dv
  rw [Int.mul_one]
theorem ok_cint {f fi fr fO fC fG : Addr} {fd fdi fdr fdO fdC fdG : FuncData} {dvs' d1 : List Value} {dvs0 : List V} (F : FunD K "integral_curve" "Curve.integral_curve" (defArgs sCInt) (defBody sCInt) (defScope sCInt) dvs0 [] f fd) (B : Bn mg) (B2 : Bk mg) (C : CT K mg CC) (T : RT K mg CR)
    (MR : Mk K CR fr) (GR : FnOk P w K mg base CX0 2 fr fdr ["self", "top", "bottom"] (spRInit CR)) (bR1 : Binds K fdr ["self", "top", "bottom"] d1) (vR1 : Vals [V.int 1] d1)
    (MO : Meth K CR "over" fO) (GO : FnOk P w K mg base (L2.CX P w) 5 fO fdO ["self", "other"] (spOver K CR CI)) (bO : Binds K fdO ["self", "other"] [])
    (CO : StX.CallO K CC fC) (GC : FnOk P w K mg base CX0 6 fC fdC ["self", "place"] (spCCall CR CC)) (bCC : Binds K fdC ["self", "place"] [])
    (MN : OwnM K CR "__neg__" fG) (GN : FnOk P w K mg base CX0 4 fG fdG ["self"] (spUn CR fun t => -t)) (bN : Binds K fdG ["self"] [])
    (M : Mk K CC fi) (GI : FnOk P w K mg base CX0 5 fi fdi ["self", "worths"] (spCInit K CR CC)) (bC : Binds K fdi ["self", "worths"] []) : FnOk P w K mg base CX0 7 f fd ["self", "begin"] (spCInt CR CC) := by
  refine F.ok scCInt (fun vs H Q E h => ?_) (fun cdv A outer s H vs Q E hr h => ?_)
  · obtain ⟨c, y, rs, ps, x, n, m, rfl, _⟩ := h
    rfl
  · have r3 : Room 3 _ := hr.mono (by decide)
    have r4 : Room 4 _ := hr.mono (by decide)
    have r5 : Room 5 _ := hr.mono (by decide)
    have r6 : Room 6 _ := hr.mono (by decide)
    refine ⟨_, pss_cons (ps_set (i := 2) scCInt.nd rfl (Or.inl rfl) (pe_lst (pa_cons (pe_make MR GR r3 (by rfl) T.gl bR1 vR1 pass0 (pa_cons pe_int pa_nil)) (StX.pa_star (pe_lc (own := [("power", 4), ("worth", 5)]) (g := gTup K 2 (gCons (gName 4) (gCons (gName 5) gNil))) (te := tMeth CR "over" (spOver K CR CI) [] E0 (tVar 5) (tCons (tOp (rI0 fun i j => .int (i + j)) (tVar 4) (fun _ H Q => Q (.int 1) H)) tNil)) rfl scCInt.nd (pi_enum (by rfl) B2.fenum (pa_cons (pe_fld (pv 0) rfl) pa_nil)) (blkOk_by (own := [("power", 4), ("worth", 5)]) (N := nInt) (sc := defScope sCInt) (by decide +kernel))
        (fun _ _ _ _ _ => pg_tup (n := 2) rfl (pgs_cons (pg_name (i := 4) scCInt.nd rfl (Or.inl rfl) (hf := Or.inr rfl)) (pgs_cons (pg_name (i := 5) scCInt.nd rfl (Or.inl rfl) (hf := Or.inr rfl)) pgs_nil))) (fun _ _ _ _ _ => pts_nil)
        (fun _ _ _ _ _ => pe_meth (E := E0) (pv 5) T.cl MO GO r5 bO .nil passL (pa_cons (pe_op op_add (pv 4) pe_int) pa_nil))) pa_nil))))
      (pss_cons (ps_set (i := 3) scCInt.nd rfl (Or.inl rfl) (pe_make M GI r6 (by rfl) C.gl bC .nil pass0 (pa_cons (pv 2) pa_nil)))
      (pss_one (ps_ret (pe_make M GI r6 (by rfl) C.gl bC .nil pass0 (pa_cons (pe_lst (pa_cons (pe_un (un_negO MN GN bN r4) (StX.pe_callO (E := E0) (pv 3) CO (GC.raw bCC .nil) r6 pass0 (pa_cons (pv 1) pa_nil))) (StX.pa_star (pe_slice sl_list (pv 2) (po_some pe_int) po_none) pa_nil))) pa_nil))))), ?_⟩
    obtain ⟨c, y, rs, ps, x, n, m, rfl, cu, ny, ox, hm, ok, hn, le, q⟩ := h
    obtain ⟨dx, L, hc, hL⟩ := cu.ex
    have lr : (rs.map V.ref).length = ps.length := by rw [List.length_map, cu.ls.len]
    refine fun z dz nz nd ne => rat_made (t := 0) (b := 1) rfl nz nd (by decide) (Bd.of (m := 1) (by decide) (by decide +kernel)) fun H1 rz s1 => ?_
    rw [(n_one 0).1, (n_one 0).2] at rz
    refine ⟨_, rfl, c, CC, dx, _, _, rfl, s1 _ _ hc, C.cl, C.nW, cf_w L, L, _, rfl, .of (s1 _ _ hL), fun C0 hC => lc_it (walk_enum (xs := rs.map V.ref)) (Acc (RatP CR) H1 C0 (dvs ps)) (.zero hC) (fun i H' _ a => SqL.ext (.of (s1 _ _ hL)) a.sm) ?_ ?_⟩
    · rintro i v H0 H2 hi a ⟨Tt, u, u2, rfl, nT', rfl, ey, ez⟩
      cases Option.some.inj ey
      rw [lr] at hi
      obtain ⟨r, p, e1, e2, hr⟩ := cu.ls.get hi
      have ez2 := (map_at e1).symm.trans ez
      cases Option.some.inj ez2
      have sT := same_upd (o := .tup [V.int (i : Nat), .ref r]) nT'
      have S := (s1.trans a.sm).trans sT
      obtain ⟨dr, hr2⟩ : RatAt CR _ r p.1 p.2 := RatAt.same hr S
      have k := ok p (List.mem_of_getElem? e2)
      have hi2 : Bd 2000 (((i : Nat) : Int) + 1) := by
        have := bdS (i := i + 1) (n := 2000) (by omega) (by decide)
        rwa [show (((i + 1 : Nat)) : Int) = (i : Int) + 1 by omega] at this
      refine ⟨Tt, _, rfl, SqT.of upd_same, rfl, _, _, rfl, _, _, rfl, rfl, rfl, ?_⟩
      refine ⟨_, rfl, r, dr, _, rfl, hr2, rf_no p.1 p.2, _, rfl, _, _, rfl, rfl, ?_⟩
      refine .inl ⟨r, .int ((i : Nat) + 1), p.1, p.2, (i : Nat) + 1, 1, rfl, ⟨dr, hr2⟩, .inr ⟨rfl, rfl⟩, k.t.le (by omega), k.b.le (by omega), hi2, bd1, k.pos, by omega, fun v K1 rv sv => ?_⟩
      refine a.step hC (sT.trans sv) (p := dv p ((i : Nat) + 1)) ?_ (by unfold dvs; rw [List.getElem?_mapIdx, e2]; rfl) (by omega)
      have e3 := over_1 (p := p) (k := (i : Nat) + 1)
      show RatAt CR _ v (dv p ((i : Nat) + 1)).1 (dv p ((i : Nat) + 1)).2
      rw [← e3]
      exact rv
    · intro H2 a
      obtain ⟨us, hu, ul⟩ := a.done (by rw [dvs_len, lr]; exact Nat.le_refl _)
      have lu : us.length = ps.length := by rw [ul.len, dvs_len]
      refine ⟨C0, us.map V.ref, rfl, .inr (.of hu), ?_, fun p hp => ?_⟩
      · show (V.ref z :: (us.map V.ref ++ [])).length ≤ sizeLine
        rw [List.length_cons, List.append_nil, List.length_map, lu]
        exact small1000 (by omega)
      have s2 := (s1.trans a.sm).trans (same_upd (o := .lst (V.ref z :: (us.map V.ref ++ []))) hp)
      have hW : upd H2 p (.lst (V.ref z :: (us.map V.ref ++ []))) p = some (.lst ((z :: us).map V.ref)) := by rw [upd_same, List.append_nil]; rfl
      have rW : RatsAt CR (upd H2 p (.lst (V.ref z :: (us.map V.ref ++ [])))) (z :: us) (itg ps) := (ul.same (same_upd hp)).cons (rz.same (a.sm.trans (same_upd hp)))
      generalize upd H2 p (.lst (V.ref z :: (us.map V.ref ++ []))) = H3 at hW rW s2
      have li : (itg ps).length ≤ 15 := by show (dvs ps).length + 1 ≤ 15; rw [dvs_len]; omega
      have oi := ok.itg le
      refine ⟨_, rfl, fun z2 dz2 nz2 nd2 ne2 => curve_made rfl nz2 nd2 (.of hW) (.ofR rW) (by omega) fun qs H4 cu2 s4 => ?_⟩
      obtain ⟨dx2, L2', hc2, hL2⟩ := id cu2.ex
      have ls : (st (itg ps)).length ≤ 15 := Nat.le_trans (st_len _) li
      have bd : (st (itg ps)).length * (n + 4 + m + 1) + 1 + m ≤ 1990 := by
        have e1 : (st (itg ps)).length * (n + 4 + m + 1) ≤ 15 * 85 := Nat.mul_le_mul ls (by omega)
        omega
      refine ⟨_, rfl, z2, rfl, _, rfl, .inr ⟨dx2, _, hc2⟩, z2, y, qs, st (itg ps), x, n + 4, m, rfl, cu2, ny.same (s2.trans s4), ox, oi.strip, bd, fun t5 H5 r5' s5 => ?_⟩
      rw [hor_st ox oi] at r5'
      obtain ⟨d5, h5⟩ := id r5'
      have oh := hor_ok ox oi
      have ob : (itg ps).length * (n + 4 + m + 1) + 1 ≤ 1990 := by
        have e1 : (itg ps).length * (n + 4 + m + 1) ≤ 15 * 85 := Nat.mul_le_mul li (by omega)
        omega
      refine ⟨t5, d5, _, rfl, h5, t5, _, _, rfl, r5', oh.b.le (by omega), oh.pos, fun t6 H6 r6' s6 => ?_⟩
      have on := oh.ng
      have r6'' : RatAt CR H6 t6 (ng (hor x (itg ps))).1 (ng (hor x (itg ps))).2 := by
        have e2 := on.low
        unfold ng at e2 ⊢
        rw [e2.1, e2.2] at r6'
        exact r6'
      have S6 := (s4.trans s5).trans s6
      refine ⟨_, rfl, 1, rfl, p, _, rfl, .of (S6 _ _ hW), fun p7 hp7 => ?_⟩
      have s7 := same_upd (o := .lst (us.map V.ref)) hp7
      have et : cutV ((z :: us).map V.ref) (some 1) none = us.map V.ref := by rw [cut_tail]; rfl
      rw [et]
      refine ⟨p7, us.map V.ref, rfl, .inr (.of upd_same), ?_, fun p8 hp8 => ?_⟩
      · show (V.ref t6 :: (us.map V.ref ++ [])).length ≤ sizeLine
        rw [List.length_cons, List.append_nil, List.length_map, lu]
        exact small1000 (by omega)
      have s8 := s7.trans (same_upd (o := .lst (V.ref t6 :: (us.map V.ref ++ []))) hp8)
      refine fun z9 dz9 nz9 nd9 ne9 => curve_made (ps := inte x ps) rfl nz9 nd9 (.of (xs := (t6 :: us).map V.ref) (by rw [upd_same, List.append_nil]; rfl)) (.ofR ?_) ?_ fun qs9 H9 cu9 s9 => ?_
      · exact ((rW.tail).same (S6.trans s8)).cons (RatAt.same r6'' s8)
      · show (dvs ps).length + 1 ≤ 900
        rw [dvs_len]
        omega
      · exact q z9 qs9 H9 cu9 (((s2.trans S6).trans s8).trans s9)
end
end K36

set_option Elab.async false
set_option linter.all false
set_option maxRecDepth 100000
set_option maxHeartbeats 4000000
set_option pp.maxSteps 600
namespace K36
open PySem PySem.Spec PyProof.Rows L2 Ux
/-- the text of a curve -/
def curS (ps : List PQ) : Str := Txt.join " " (ps.map fun p => ctext p.1 p.2)
theorem w10_of {n : Nat} {i : Int} (h : Bd n i) (hn : n ≤ 33) : W10 i := by
  have h1 : i.natAbs < 2 ^ 33 := h.le hn
  have h2 : (2 : Nat) ^ 33 < 10 ^ 10 := by decide
  unfold W10
  omega
theorem sum_le (B : Nat) : ∀ ys : List Str, (∀ y ∈ ys, y.length ≤ B) → (ys.map (·.length)).sum ≤ ys.length * B
  | [], _ => by simp
  | y :: ys, h => by
    rw [List.map_cons, List.sum_cons, List.length_cons, Nat.succ_mul]
    have := sum_le B ys fun z hz => h z (List.mem_cons_of_mem _ hz)
    have := h y List.mem_cons_self
    omega
theorem ct_le {n : Nat} {ps : List PQ} (h : Oks n ps) (hn : n ≤ 33) : ∀ y ∈ (ps.map fun p => ctext p.1 p.2), y.length ≤ 30 := fun y hy => by
  obtain ⟨p, hp, rfl⟩ := List.mem_map.mp hy
  have k := h p hp
  exact ctext_len (w10_of k.t hn) (w10_of k.b hn)
theorem join_len (sep : Str) : ∀ ys : List Str, (Str.join sep ys).length ≤ (ys.map (·.length)).sum + ys.length * sep.length
  | [] => by simp [Str.join, Str.empty, Str.length]
  | [x] => by simp [Str.join]
  | x :: y :: ys => by
    have ih := join_len sep (y :: ys)
    have e : Str.join sep (x :: y :: ys) = x ++ sep ++ Str.join sep (y :: ys) := rfl
    rw [e, PySem.Str.length_append, PySem.Str.length_append, List.map_cons, List.sum_cons, List.length_cons, Nat.succ_mul]
    omega
theorem curS_len {n : Nat} {ps : List PQ} (h : Oks n ps) (hn : n ≤ 33) (l : ps.length ≤ 20) : (curS ps).length ≤ 1000 := by
  unfold curS
  have e0 : Txt.join " " (ps.map fun p => ctext p.1 p.2) = Str.join " " (ps.map fun p => ctext p.1 p.2) := StrLaws.glued_eq_join _ _
  rw [e0]
  have h1 := join_len " " (ps.map fun p => ctext p.1 p.2)
  have h2 := sum_le 30 _ (ct_le h hn)
  rw [List.length_map] at h1 h2
  have h3 : (Str.ofString " ").length = 1 := by decide
  have h4 : ps.length * 30 ≤ 20 * 30 := Nat.mul_le_mul_right _ l
  have h5 : ps.length * (Str.ofString " ").length ≤ 20 * 1 := by rw [h3]; exact Nat.mul_le_mul_right _ l
  omega
def spCEq (CR CC : Addr) : Sp := fun vs H Q _ => ∃ (a : Addr) (y : V) (rs : List Addr) (ps : List PQ), vs = [.ref a, y] ∧ CurAt CC CR H a rs ps ∧
  ((∃ (b : Addr) (rs2 : List Addr) (qs : List PQ), y = .ref b ∧ CurAt CC CR H b rs2 qs ∧ ((ps = qs ∧ ∀ H', Same H H' → Q (.bl true) H') ∨ (ps.length ≠ qs.length ∧ Q (.bl false) H))) ∨ ∃ z, y = .str z ∧ Q (.bl false) H)
def spCStr (CR CC : Addr) (f : List PQ → Str) : Sp := fun vs H Q _ => ∃ (c : Addr) (rs : List Addr) (ps : List PQ) (n : Nat), vs = [.ref c] ∧ CurAt CC CR H c rs ps ∧ Oks n ps ∧ n ≤ 33 ∧ ps.length ≤ 20 ∧ ∀ H', Same H H' → Q (.str (f ps)) H'
/-- two equal fractions -/
def EqR (CR : Addr) : Addr → Addr → Hp → Prop := fun a b H => ∃ p : PQ, RatAt CR H a p.1 p.2 ∧ RatAt CR H b p.1 p.2
section
variable {P : Program} {w : World} {K : PySem.W.Frag} {mg : Str → Option Value} {base : Heap} {CR CC CI fI : Addr}
theorem eqR_mon (CR : Addr) : Mon (DIns CR (EqR CR)) := mon_ins fun a b H H' e ⟨p, h1, h2⟩ => ⟨p, RatAt.same h1 e, RatAt.same h2 e⟩
theorem req_eq {k : Nat} {f : Addr} {fd : FuncData} {ps : List Str} (G : FnOk P w K mg base CX0 k f fd ps (spREq CR)) : FnOk P w K mg base CX0 k f fd ps (spEq (EqR CR)) := G.imp fun vs H Q E ⟨a, b, e, ⟨p, h1, h2⟩, q⟩ =>
  ⟨a, b, _, _, _, _, e, h1, h2, by rw [decide_eq_true rfl, decide_eq_true rfl]; exact q H Ext.rfl'⟩
theorem prs_eq {H : Hp} {rs rs2 : List Addr} {ps : List PQ} (h : RatsAt CR H rs ps) (h2 : RatsAt CR H rs2 ps) : Prs (DIns CR (EqR CR)) (rs.map V.ref) (rs2.map V.ref) H := by
  refine ⟨by rw [List.length_map, List.length_map, h.len, h2.len], fun i x y ex ey => ?_⟩
  obtain ⟨r, er, rfl⟩ := map_of ex
  obtain ⟨r2, er2, rfl⟩ := map_of ey
  have hi : i < ps.length := by rw [← h.len]; exact (List.getElem?_eq_some_iff.mp er).1
  have e := List.getElem?_eq_getElem hi
  obtain ⟨dx, a1⟩ := h.at_ i r _ er e
  obtain ⟨dy, a2⟩ := h2.at_ i r2 _ er2 e
  exact ⟨r, r2, dx, dy, _, _, rfl, rfl, a1, a2, ps[i], ⟨dx, a1⟩, ⟨dy, a2⟩⟩
theorem scCEq : FnScope ["self", "other"] ["self", "other"] (defScope sCEq) := ⟨rfl, rfl, rfl, by decide +kernel, rfl, by decide +kernel, by decide +kernel⟩
theorem ok_ceq {f fE : Addr} {fd fdE : FuncData} (F : Fun K "__eq__" "Curve.__eq__" sCEq f fd) (B : Bn mg) (C : CT K mg CC) (T : RT K mg CR) (ME : OwnM K CR "__eq__" fE) (GE : FnOk P w K mg base CX0 2 fE fdE ["self", "other"] (spREq CR)) (bE : Binds K fdE ["self", "other"] []) : FnOk P w K mg base CX0 5 f fd ["self", "other"] (spCEq CR CC) := by
  refine F.ok scCEq (fun vs H Q E h => ?_) (fun cdv A outer s H vs Q E hr h => ?_)
  · obtain ⟨a, y, rs, ps, rfl, _⟩ := h
    rfl
  · obtain ⟨a, y, rs, ps, rfl, cu, h⟩ := h
    have r3 : Room 3 _ := hr.mono (by decide)
    refine ⟨_, pss_one (ps_ret (pe_and (pe_callB call_isi (by rfl) B.isin (by decide +kernel) (pa_cons (pv 1) (pa_cons (pe_glob (v := .ref CC) (by rfl) C.gl rfl) pa_nil))) (pe_one (pe_cmpR (op_any (op_eqG (rcG_list (eqR_mon CR) (eqG_ins (CX := CX0) (E := E0) (req_eq GE) ME.at_ ME.fn bE pass0)) r3) (op_lenNe hr.units0)) (pe_fld (pv 0) rfl) (pe_fld (pv 1) rfl) (nomark _))))), ?_⟩
    obtain ⟨dx, L, hc, hL⟩ := cu.ex
    rcases h with ⟨b, rs2, qs, rfl, cu2, h⟩ | ⟨z, rfl, q⟩
    · obtain ⟨dy, L2', hc2, hL2⟩ := cu2.ex
      refine ⟨_, rfl, _, _, _, _, true, rfl, .own _, .base (.ins hc2 C.cl C.ha C.hn C.ht C.hm), C.kC, true, rfl, iteT ?_⟩
      refine ⟨_, rfl, a, CC, dx, _, _, rfl, hc, C.cl, C.nW, cf_w L, _, rfl, b, CC, dy, _, _, rfl, hc2, C.cl, C.nW, cf_w L2', ?_⟩
      rcases h with ⟨rfl, q⟩ | ⟨ne, q⟩
      · exact .inl ⟨⟨L, L2', _, _, rfl, rfl, hL, hL2, prs_eq cu.ls cu2.ls⟩, fun H' e => q H' e⟩
      · exact .inr ⟨L, L2', _, _, rfl, rfl, hL, hL2, by rw [List.length_map, List.length_map, cu.ls.len, cu2.ls.len]; exact ne, q⟩
    · exact ⟨_, rfl, _, _, _, _, false, rfl, .own _, .base (.str _), C.kS, false, rfl, iteF q⟩
theorem scCStr : FnScope ["self", "worth"] ["self"] (defScope sCStr) := ⟨rfl, rfl, rfl, by decide +kernel, rfl, by decide +kernel, by decide +kernel⟩
theorem ok_cstr {f fS : Addr} {fd fdS : FuncData} (F : Fun K "__str__" "Curve.__str__" sCStr f fd) (B : Bn mg) (C : CT K mg CC) (MS : OwnM K CR "__str__" fS) (GS : FnOk P w K mg base CX0 3 fS fdS ["self"] (spRatText CR)) (bS : Binds K fdS ["self"] []) : FnOk P w K mg base CX0 6 f fd ["self"] (spCStr CR CC curS) := by
  refine F.ok scCStr (fun vs H Q E h => ?_) (fun cdv A outer s H vs Q E hr h => ?_)
  · obtain ⟨c, rs, ps, n, rfl, _⟩ := h
    rfl
  · obtain ⟨c, rs, ps, n, rfl, cu, ok, hn, le, q⟩ := h
    refine ⟨_, pss_one (ps_ret (pe_join pe_str (pe_lc (own := [("worth", 1)]) (g := gName 1) rfl scCStr.nd (pi_list (pe_fld (pv 0) rfl)) (blkOk_by (own := [("worth", 1)]) (N := ["self", "worth"]) (sc := defScope sCStr) (by decide +kernel))
      (fun _ _ _ _ _ => pg_name (i := 1) scCStr.nd rfl (Or.inl rfl) (hf := Or.inr rfl)) (fun _ _ _ _ _ => pts_nil) (fun _ _ _ _ _ => pe_callTy (call_strO MS GS bS hr) (by rfl) B.tstr (by decide +kernel) (pa_cons (pv 1) pa_nil))))), ?_⟩
    obtain ⟨dx, L, hc, hL⟩ := cu.ex
    have lr : (rs.map V.ref).length = ps.length := by rw [List.length_map, cu.ls.len]
    refine ⟨⟨_, rfl⟩, _, rfl, c, CC, dx, _, _, rfl, hc, C.cl, C.nW, cf_w L, L, rfl, ⟨_, .of hL⟩, fun C0 hC => lc_list (xs := rs.map V.ref) (fun i H' => H' C0 = some (.lst (((ps.take i).map fun p => ctext p.1 p.2).map V.str)) ∧ Same H H') ⟨by rw [List.take_zero]; exact upd_same, same_upd hC⟩ (fun i H' _ a => SqL.ext (.of hL) a.2) ?_ ?_⟩
    · rintro i x H1 hx ⟨a1, a2⟩
      refine ⟨rfl, ?_⟩
      have hi := (List.getElem?_eq_some_iff.mp hx).1
      rw [lr] at hi
      obtain ⟨r, p, e1, e2, hr2⟩ := cu.ls.get hi
      have ex := (map_at e1).symm.trans hx
      cases Option.some.inj ex
      obtain ⟨dr, hr3⟩ : RatAt CR H1 r p.1 p.2 := RatAt.same hr2 a2
      have k := ok p (List.mem_of_getElem? e2)
      refine ⟨_, rfl, r, dr, _, rfl, hr3, r, p.1, p.2, rfl, ⟨dr, hr3⟩, w10_of k.t hn, w10_of k.b hn, fun H2 s2 => ⟨_, rfl, _, s2 _ _ a1, ?_, ?_, ?_⟩⟩
      · rw [List.length_map, List.length_map]
        exact small1000 (by have := List.length_take_le i ps; omega)
      · rw [upd_same, List.take_add_one, e2, List.map_append, List.map_append]
        rfl
      · exact Same.put (a2.trans s2) hC
    · rintro H1 ⟨a1, a2⟩
      rw [lr, List.take_length] at a1
      refine ⟨_, C0, _, rfl, rfl, .inl (.of a1), ?_, q H1 a2⟩
      have h2 := sum_le 30 _ (ct_le ok hn)
      rw [List.length_map] at h2 ⊢
      have h3 : (Str.ofString " ").length = 1 := by decide
      have h4 : ps.length * 30 ≤ 20 * 30 := Nat.mul_le_mul_right _ le
      have h5 : ps.length * (Str.ofString " ").length ≤ 20 * 1 := by rw [h3]; exact Nat.mul_le_mul_right _ le
      omega
theorem scCRep : FnScope ["self"] ["self"] (defScope sCRep) := ⟨rfl, rfl, rfl, by decide +kernel, rfl, by decide +kernel, by decide +kernel⟩
theorem ok_crep {f fS : Addr} {fd fdS : FuncData} (F : Fun K "__repr__" "Curve.__repr__" sCRep f fd) (M : OwnM K CC "__str__" fS) (N : FmO K CC) (G : FnOk P w K mg base CX0 6 fS fdS ["self"] (spCStr CR CC curS)) (bS : Binds K fdS ["self"] []) : FnOk P w K mg base CX0 8 f fd ["self"] (spCStr CR CC fun ps => "Curve(" ++ curS ps ++ ")") := by
  refine F.ok scCRep (fun vs H Q E h => ?_) (fun cdv A outer s H vs Q E hr h => ?_)
  · obtain ⟨c, rs, ps, n, rfl, _⟩ := h
    rfl
  · obtain ⟨c, rs, ps, n, rfl, cu, ok, hn, le, q⟩ := h
    obtain ⟨dx, L, hc, hL⟩ := cu.ex
    refine ⟨_, pss_one (ps_ret (pe_joined (PJ.cons pe_str (PJ.cons (pe_fmtO (X := Cx.nox _) M N G bS hr (pv 0)) (PJ.cons pe_str PJ.nil))))), ?_⟩
    have l1 : (Str.ofString "Curve(").length ≤ 6 := by decide
    have l2 : (Str.ofString ")").length ≤ 1 := by decide
    have l0 : Str.empty.length ≤ 0 := by decide
    have lc := curS_len ok hn le
    refine ⟨_, rfl, fit2 (app_len l0 l1) (by decide), _, rfl, c, dx, _, rfl, hc, c, rs, ps, n, rfl, cu, ok, hn, le, fun H1 s1 => ⟨_, rfl, _, rfl, fit2 (app_len (app_len l0 l1) lc) (by decide), _, rfl, fit2 (app_len (app_len (app_len l0 l1) lc) l2) (by decide), ?_⟩⟩
    rw [empty_app]
    exact q H1 s1
end
end K36

set_option Elab.async false
set_option linter.all false
set_option maxRecDepth 100000
set_option maxHeartbeats 4000000
set_option pp.maxSteps 600
namespace K36
open PySem PySem.Spec PyProof.Rows L2 Ux
abbrev sFrac : Stmt := top 38
abbrev sSum : Stmt := top 39
abbrev sTimes : Stmt := top 40
abbrev sSteep : Stmt := top 41
abbrev sCurAt : Stmt := top 42
theorem ru1 {k : Nat} {A : Around} (r : Room k A) : A.units + 1 < cLine := by have := r.units; omega
theorem ru2 {k : Nat} {A : Around} (r : Room k A) : A.units + 2 < cLine := by have := r.units; omega
/-- a dict of worths by tags: nothing, or one worth without tags -/
def DAt (H : Hp) (d : Addr) : Option PQ → Prop
  | none => H d = some (.dT [])
  | some p => ∃ t, H d = some (.dT [([], .ref t)]) ∧ TupI H t p.1 p.2
theorem DAt.same {H H' : Hp} {d : Addr} : ∀ {o : Option PQ}, DAt H d o → Same H H' → DAt H' d o
  | none, h, s => s _ _ h
  | some p, ⟨t, h1, h2⟩, s => ⟨t, s _ _ h1, s _ _ h2⟩
def OkO (n : Nat) (o : Option PQ) : Prop := ∀ p, o = some p → Ok n p
def spFrac : Sp := fun vs H Q _ => ∃ (b : Addr) (n : Nat), vs = [.ref b] ∧ BagAt H b n ∧ n ≤ 900000000 ∧ ∀ (p : Addr) (q : PQ) (H' : Hp), TupI H' p q.1 q.2 → Ok 3 q → BagAt H' b (n + 3) → Bt b H H' → Q (.ref p) H'
def spSum : Sp := fun vs H Q _ => ∃ (a b : Addr) (o : Option PQ) (q : PQ), vs = [.ref a, .ref b] ∧ DAt H a o ∧ DAt H b (some q) ∧ OkO 2000 o ∧ Ok 2000 q ∧ ∀ (d : Addr) (H' : Hp), DAt H' d (some (pl (o.getD zz) q)) → H d = none → Same H H' → Q (.ref d) H'
def spTimes : Sp := fun vs H Q _ => ∃ (a b : Addr) (o : Option PQ) (x : PQ) (n m : Nat), vs = [.ref a, .ref b] ∧ DAt H a o ∧ DAt H b (some x) ∧ OkO n o ∧ Ok m x ∧ n + m ≤ 2000 ∧ ∀ (d : Addr) (H' : Hp), DAt H' d (o.map fun p => cr p x) → H d = none → Same H H' → Q (.ref d) H'
def horO (x : PQ) (ps : List PQ) : Option PQ := match ps with
  | [] => none
  | ps => some (hor x ps)
def spCurAt (K : PySem.W.Frag) : Sp := fun vs H Q _ => ∃ (l d : Addr) (rs : List Addr) (ps : List PQ) (x : PQ) (n m : Nat), vs = [.ref l, .ref d] ∧ SqL K H l (rs.map V.ref) ∧ TupsAt H rs ps ∧ DAt H d (some x) ∧ Ok m x ∧ Oks n ps ∧ ps.length * (n + m + 1) + 1 + m ≤ 1990 ∧ ∀ (e : Addr) (H' : Hp), DAt H' e (horO x ps) → Same H H' → Q (.ref e) H'
section
variable {P : Program} {w : World} {K : PySem.W.Frag} {mg : Str → Option Value} {base : Heap}
theorem scFrac : FnScope ["_law_bag_here"] ["_law_bag_here"] (defScope sFrac) := ⟨rfl, rfl, rfl, by decide +kernel, rfl, by decide +kernel, by decide +kernel⟩
theorem bd_small {i : Int} {n : Nat} (h : i.natAbs < 2 ^ n) : Bd n i := h
theorem ok_frac {f fP fL : Addr} {fd fdP fdL : FuncData} (F : Fun K "_law_fraction" "_law_fraction" sFrac f fd) (DP : Dn K mg "_law_pull" fP) (GP : FnOk P w K mg base CX0 1 fP fdP ["_law_bag_here", "_law_many"] spPull) (bP : Binds K fdP ["_law_bag_here", "_law_many"] [])
    (DL : Dn K mg "_law_low" fL) (GL : FnOk P w K mg base CX0 1 fL fdL ["_law_top", "_law_bottom"] spLow) (bL : Binds K fdL ["_law_top", "_law_bottom"] []) : FnOk P w K mg base CX0 2 f fd ["_law_bag_here"] spFrac := by
  refine F.ok scFrac (fun vs H Q E h => ?_) (fun cdv A outer s H vs Q E hr h => ?_)
  · obtain ⟨b, n, rfl, _⟩ := h
    rfl
  · obtain ⟨b, n, rfl, B0, hn, q⟩ := h
    refine ⟨_, pss_one (ps_ret (pe_call GL hr (by rfl) DL.gl DL.kp bL .nil pass0 (pa_cons (pe_op op_sub (pe_call GP hr (by rfl) DP.gl DP.kp bP .nil pass0 (pa_cons (pv 0) (pa_cons pe_int pa_nil))) pe_int) (pa_cons (pe_op op_add pe_int (pe_op op_mulW (pe_call GP hr (by rfl) DP.gl DP.kp bP .nil pass0 (pa_cons (pv 0) (pa_cons pe_int pa_nil))) (pe_call GP hr (by rfl) DP.gl DP.kp bP .nil pass0 (pa_cons (pv 0) (pa_cons pe_int pa_nil))))) pa_nil)))), ?_⟩
    refine ⟨_, rfl, b, 13, n, rfl, by decide, by decide, B0, by omega, fun r1 H1 l1 u1 B1 b1 => ⟨_, _, rfl, rfl, _, rfl, b, 4, n + 1, rfl, by decide, by decide, B1, by omega, fun r2 H2 l2 u2 B2 b2 => ⟨_, rfl, b, 2, n + 2, rfl, by decide, by decide, B2, by omega, fun r3 H3 l3 u3 B3 b3 => ?_⟩⟩⟩
    have k1 : Bd 3 (r1 - 6) := by unfold Bd; omega
    have k2 : Bd 3 r2 := by unfold Bd; omega
    have k3 : Bd 3 r3 := by unfold Bd; omega
    have k4 : 0 < 1 + r2 * r3 ∧ 1 + r2 * r3 ≤ 4 := by
      rcases (show r3 = 0 ∨ r3 = 1 by omega) with rfl | rfl
      · rw [Int.mul_zero]; omega
      · rw [Int.mul_one]; omega
    have k5 : Bd 3 (1 + r2 * r3) := by unfold Bd; omega
    refine ⟨_, _, rfl, rfl, wide_mul k2 k3 (by decide) (by decide) (by decide), _, _, rfl, rfl, _, _, rfl, by omega, k5.le (by decide), fun p H4 tp s4 => q p (nT (r1 - 6) (1 + r2 * r3), nB (r1 - 6) (1 + r2 * r3)) H4 tp (ok_n k4.1 k1 k5) (B3.same s4) ⟨fun x o e ne => s4 _ _ (((b1.trans b2).trans b3).1 x o e ne), fun l r e => let ⟨r', e'⟩ := ((b1.trans b2).trans b3).2 l r e; ⟨r', s4 _ _ e'⟩⟩⟩
theorem OkO.get {n : Nat} {o : Option PQ} (h : OkO n o) (hn : 1 ≤ n) : Ok n (o.getD zz) := by
  cases o with
  | none => exact ok_zz.le hn
  | some p => exact h p rfl
/-- a dict's one worth, as read with (0, 1) in its stead -/
theorem dget_one {H : Hp} {kvs : List (List L2.Key × V)} {o : Option PQ} {p0 : Addr} (hk : (o = none ∧ kvs = []) ∨ ∃ p t, o = some p ∧ kvs = [([], .ref t)] ∧ TupI H t p.1 p.2) (h0 : H p0 = some (.tup [.int 0, .int 1])) :
    ∃ r, (valV kvs ([] : List L2.Key)).getD (.ref p0) = .ref r ∧ TupI H r (o.getD zz).1 (o.getD zz).2 := by
  rcases hk with ⟨rfl, rfl⟩ | ⟨p, t, rfl, rfl, ht⟩
  · exact ⟨p0, rfl, h0⟩
  · exact ⟨t, rfl, ht⟩
theorem dput_one {H : Hp} {kvs : List (List L2.Key × V)} {o : Option PQ} {v : V} (hk : (o = none ∧ kvs = []) ∨ ∃ p t, o = some p ∧ kvs = [([], .ref t)] ∧ TupI H t p.1 p.2) : putK kvs ([] : List L2.Key) v = [([], v)] ∧ kvs.length ≤ 1 := by
  rcases hk with ⟨rfl, rfl⟩ | ⟨p, t, rfl, rfl, ht⟩
  · exact ⟨rfl, by decide⟩
  · exact ⟨rfl, Nat.le_refl _⟩
theorem hk_same {H H' : Hp} {kvs : List (List L2.Key × V)} {o : Option PQ} (hk : (o = none ∧ kvs = []) ∨ ∃ p t, o = some p ∧ kvs = [([], .ref t)] ∧ TupI H t p.1 p.2) (s : Same H H') : (o = none ∧ kvs = []) ∨ ∃ p t, o = some p ∧ kvs = [([], .ref t)] ∧ TupI H' t p.1 p.2 := by
  rcases hk with h | ⟨p, t, h1, h2, h3⟩
  · exact .inl h
  · exact .inr ⟨p, t, h1, h2, s _ _ h3⟩
theorem scSum : FnScope ["_law_one", "_law_other", "_law_found", "_law_tags", "_law_worth"] ["_law_one", "_law_other"] (defScope sSum) := ⟨rfl, rfl, rfl, by decide +kernel, rfl, by decide +kernel, by decide +kernel⟩
theorem vList : bootBuiltins ("list" : Str) = some (.type "list") := by decide +kernel
theorem ok_sum {f fP : Addr} {fd fdP : FuncData} (F : Fun K "_law_sum" "_law_sum" sSum f fd) (B : Bn mg) (B2 : Bk mg) (DP : Dn K mg "_law_plus" fP) (GP : FnOk P w K mg base CX0 2 fP fdP ["_law_one", "_law_other"] (spTwo fAdd gMul)) (bP : Binds K fdP ["_law_one", "_law_other"] []) : FnOk P w K mg base CX0 3 f fd ["_law_one", "_law_other"] spSum := by
  refine F.ok scSum (fun vs H Q E h => ?_) (fun cdv A outer s H vs Q E hr h => ?_)
  · obtain ⟨a, b, o, q, rfl, _⟩ := h
    rfl
  · obtain ⟨a, b, o, q, rfl, ha, hb, oo, oq, k⟩ := h
    refine ⟨_, pss_cons (ps_set (i := 2) scSum.nd rfl (Or.inl rfl) (pe_callTy (call_dict1 (ru2 hr)) (by rfl) B2.tdict (by decide +kernel) (pa_cons (pv 0) pa_nil)))
      (pss_cons (ps_for PassesOwn.never rfl (pi_list (pe_listItemsT rfl (pv 1) (by rfl) B.tlist vList)) (pg_tup (n := 2) rfl (pgs_cons (pg_name (i := 3) scSum.nd rfl (Or.inl rfl)) (pgs_cons (pg_name (i := 4) scSum.nd rfl (Or.inl rfl)) pgs_nil)))
        (pss_one (ps_dput (ru1 hr) (pv 2) (pv 3) (pe_call GP hr (by rfl) DP.gl DP.kp bP .nil pass0 (pa_cons (pe_dget2 (ru1 hr) (pv 2) (pv 3) (pe_tup (pa_cons pe_int (pa_cons pe_int pa_nil))) ⟨rfl, rfl, rfl, rfl⟩) (pa_cons (pv 4) pa_nil))) (by rfl))))
      (pss_one (ps_ret (pv 2)))), ?_⟩
    obtain ⟨kvs, ek, hk⟩ : ∃ kvs, H a = some (.dT kvs) ∧ ((o = none ∧ kvs = []) ∨ ∃ p t, o = some p ∧ kvs = [([], .ref t)] ∧ TupI H t p.1 p.2) := by
      cases o with
      | none => exact ⟨_, ha, .inl ⟨rfl, rfl⟩⟩
      | some p =>
        obtain ⟨t, h1, h2⟩ := ha
        exact ⟨_, h1, .inr ⟨p, t, rfl, rfl, h2⟩⟩
    obtain ⟨tb, hb1, hb2⟩ := hb
    refine ⟨_, rfl, a, kvs, rfl, ek, by rcases hk with ⟨_, rfl⟩ | ⟨_, _, _, rfl, _⟩ <;> simp, fun d hd => ?_⟩
    have s1 := same_upd (o := .dT kvs) hd
    refine ⟨_, rfl, b, _, rfl, s1 _ _ hb1, fun H2 p ts s2 hp hpl pr => ?_⟩
    cases pr with
    | @cons t1 q1 ts1 qs1 r1 rr =>
      cases rr
      obtain ⟨kq, hkq, ht1⟩ := r1
      have hd2 : H2 d = some (.dT kvs) := s2 _ _ upd_same
      refine ⟨p, rfl, ⟨_, .of hpl⟩, for_list (xs := [V.ref t1]) (fun i σ H' => (i = 0 → ∃ x3 x4, σ = [some (.ref a), some (.ref b), some (.ref d), x3, x4] ∧ H' = H2) ∧ (i = 1 → ∃ x3 x4, σ = [some (.ref a), some (.ref b), some (.ref d), x3, x4] ∧ DAt H' d (some (pl (o.getD zz) q)) ∧ Same H H') ∧ SqL K H' p [V.ref t1]) ⟨fun _ => ⟨none, none, rfl, rfl⟩, fun z => absurd z (by decide), .of hpl⟩ (fun i σ H' _ z => z.2.2) ?_ ?_⟩
      · rintro i v σ H' hv ⟨z0, _, _⟩
        have hi := (List.getElem?_eq_some_iff.mp hv).1
        have hi0 : i = 0 := by simpa using hi
        subst hi0
        cases Option.some.inj hv
        obtain ⟨x3, x4, rfl, rfl⟩ := z0 rfl
        refine ⟨t1, _, rfl, SqT.of ht1, rfl, _, _, rfl, _, _, rfl, rfl, ?_⟩
        have sA := s1.trans s2
        refine ⟨_, rfl, d, rfl, .inr ⟨kvs, .inl hd2⟩, _, rfl, (by show 2 ≤ sizeLine; decide), fun p0 hp0 => ?_⟩
        have s3 := same_upd (o := .tup [V.int 0, .int 1]) hp0
        refine ⟨_, DGet.t (k := []) (s3 _ _ hd2) (s3 _ _ (s2 _ _ hkq)), ?_⟩
        obtain ⟨r, er, hr2⟩ := dget_one (hk_same hk (sA.trans s3)) upd_same
        rw [er]
        have oo2 := oo.get (by decide)
        refine ⟨_, rfl, r, tb, _, _, _, _, rfl, hr2, s3 _ _ (sA _ _ hb2), oo2.t, oo2.b, oq.t, oq.b, oo2.pos, oq.pos, fun r2 H4 rt s4 => ?_⟩
        obtain ⟨ep, el⟩ := dput_one (v := .ref r2) hk
        have hd4 := s4 _ _ (s3 _ _ hd2)
        refine ⟨_, rfl, _, rfl, d, _, rfl, DPut.t (k := []) hd4 (s4 _ _ (s3 _ _ (s2 _ _ hkq))) (by rw [sizeLine_eq]; omega), ?_⟩
        rw [ep]
        have nr : r2 ≠ d := fun z => by have z2 : H4 r2 = _ := rt; rw [z, hd4] at z2; cases z2
        have np : p ≠ d := fun z => by rw [z, hd2] at hpl; cases hpl
        refine ⟨fun z => absurd z (by decide), fun _ => ⟨_, _, rfl, ⟨r2, upd_same, (upd_ne nr).trans rt⟩, Same.put ((sA.trans s3).trans s4) hd⟩, .of ?_⟩
        exact (upd_ne np).trans (s4 _ _ (s3 _ _ hpl))
      · rintro σ H' ⟨_, z1, _⟩
        obtain ⟨x3, x4, rfl, da, sm⟩ := z1 rfl
        exact ⟨_, rfl, k d H' da hd sm⟩
theorem scTimes : FnScope ["_law_one", "_law_other", "_law_found", "_law_tags", "_law_worth", "_law_more", "_law_late", "_law_tag", "_law_key"] ["_law_one", "_law_other"] (defScope sTimes) := ⟨rfl, rfl, rfl, by decide +kernel, rfl, by decide +kernel, by decide +kernel⟩
theorem ok_times {f fP fC : Addr} {fd fdP fdC : FuncData} (F : Fun K "_law_times" "_law_times" sTimes f fd) (B : Bn mg) (B2 : Bk mg) (DP : Dn K mg "_law_plus" fP) (GP : FnOk P w K mg base CX0 2 fP fdP ["_law_one", "_law_other"] (spTwo fAdd gMul)) (bP : Binds K fdP ["_law_one", "_law_other"] [])
    (DC : Dn K mg "_law_cross" fC) (GC : FnOk P w K mg base CX0 2 fC fdC ["_law_one", "_law_other"] (spTwo fMul gMul)) (bC : Binds K fdC ["_law_one", "_law_other"] []) : FnOk P w K mg base CX0 3 f fd ["_law_one", "_law_other"] spTimes := by
  refine F.ok scTimes (fun vs H Q E h => ?_) (fun cdv A outer s H vs Q E hr h => ?_)
  · obtain ⟨a, b, o, x, n, m, rfl, _⟩ := h
    rfl
  · obtain ⟨a, b, o, x, n, m, rfl, ha, hb, oo, ox, le, k⟩ := h
    refine ⟨_, pss_cons (ps_set (i := 2) scTimes.nd rfl (Or.inl rfl) pe_dnewT)
      (pss_cons (ps_for PassesOwn.never rfl (pi_list (pe_listItemsT rfl (pv 0) (by rfl) B.tlist vList)) (pg_tup (n := 2) rfl (pgs_cons (pg_name (i := 3) scTimes.nd rfl (Or.inl rfl)) (pgs_cons (pg_name (i := 4) scTimes.nd rfl (Or.inl rfl)) pgs_nil)))
        (pss_one (ps_for PassesOwn.never rfl (pi_list (pe_listItemsT rfl (pv 1) (by rfl) B.tlist vList)) (pg_tup (n := 2) rfl (pgs_cons (pg_name (i := 5) scTimes.nd rfl (Or.inr rfl)) (pgs_cons (pg_name (i := 6) scTimes.nd rfl (Or.inl rfl)) pgs_nil)))
          (pss_one (ps_if (pt_cmpR (op_eqD hr.units) (pe_lc (own := [("_law_tag", 7)]) (g := gName 7) (tt := tTest (tOp (rIn K false) (tVar 7) (tVar 5))) (te := tVar 7) rfl scTimes.nd (pi_tup (pv 3)) (blkOk_by (own := [("_law_tag", 7)]) (N := ["_law_one", "_law_other", "_law_found", "_law_tags", "_law_worth", "_law_more", "_law_late", "_law_tag", "_law_key"]) (sc := defScope sTimes) (by decide +kernel))
              (fun _ _ _ _ _ => pg_name (i := 7) scTimes.nd rfl (Or.inl rfl) (hf := Or.inr rfl)) (fun _ _ _ _ _ => pts_one (pt_cmpR op_in_seq (pv 7) (pv 5) (by rfl))) (fun _ _ _ _ _ => pv 7)) (pe_lst pa_nil) (nomark _))
            (pss_cons (ps_set (i := 8) scTimes.nd rfl (Or.inl rfl) (pe_tupleOf (by rfl) B.ttuple (pe_callB call_sorted0 (by rfl) B2.fsorted (by decide +kernel) (pa_cons (pe_op op_catA (pv 3) (pv 5)) pa_nil))))
            (pss_one (ps_dput (ru1 hr) (pv 2) (pv 8) (pe_call GP hr (by rfl) DP.gl DP.kp bP .nil pass0 (pa_cons (pe_dget2 (ru1 hr) (pv 2) (pv 8) (pe_tup (pa_cons pe_int (pa_cons pe_int pa_nil))) ⟨rfl, rfl, rfl, rfl⟩) (pa_cons (pe_call GC hr (by rfl) DC.gl DC.kp bC .nil pass0 (pa_cons (pv 4) (pa_cons (pv 6) pa_nil))) pa_nil))) (by rfl)))) pss_nil)))))
      (pss_one (ps_ret (pv 2)))), ?_⟩
    obtain ⟨kvs, ek, hk⟩ : ∃ kvs, H a = some (.dT kvs) ∧ ((o = none ∧ kvs = []) ∨ ∃ p t, o = some p ∧ kvs = [([], .ref t)] ∧ TupI H t p.1 p.2) := by
      cases o with
      | none => exact ⟨_, ha, .inl ⟨rfl, rfl⟩⟩
      | some p =>
        obtain ⟨t, h1, h2⟩ := ha
        exact ⟨_, h1, .inr ⟨p, t, rfl, rfl, h2⟩⟩
    obtain ⟨tb, hb1, hb2⟩ := hb
    refine fun d hd => ?_
    have s1 := same_upd (o := .dT []) hd
    refine ⟨_, rfl, a, _, rfl, s1 _ _ ek, fun H2 p ts s2 hp hpl pr => ?_⟩
    have sA := s1.trans s2
    have hd2 : H2 d = some (.dT []) := s2 _ _ upd_same
    refine ⟨p, rfl, ⟨_, .of hpl⟩, ?_⟩
    rcases hk with ⟨rfl, rfl⟩ | ⟨q, t, rfl, rfl, ht⟩
    · cases pr
      refine for_list (xs := []) (fun i σ H' => σ = [some (.ref a), some (.ref b), some (.ref d), none, none, none, none, none, none] ∧ H' = H2) ⟨rfl, rfl⟩ (fun i σ H' _ z => by rw [z.2]; exact .of hpl) (fun i v σ H' hv _ => by cases hv) ?_
      rintro σ H' ⟨rfl, rfl⟩
      exact ⟨_, rfl, k d H' hd2 hd sA⟩
    · cases pr with
      | @cons t1 q1 ts1 qs1 r1 rr =>
        cases rr
        obtain ⟨kq, hkq, ht1⟩ := r1
        refine for_list (xs := [V.ref t1]) (fun i σ H' => (i = 0 → σ = [some (.ref a), some (.ref b), some (.ref d), none, none, none, none, none, none] ∧ H' = H2) ∧ (i = 1 → σ[2]? = some (some (.ref d)) ∧ DAt H' d (some (cr q x)) ∧ Same H H') ∧ SqL K H' p [V.ref t1]) ⟨fun _ => ⟨rfl, rfl⟩, fun z => absurd z (by decide), .of hpl⟩ (fun i σ H' _ z => z.2.2) ?_ ?_
        · rintro i v σ H' hv ⟨z0, _, _⟩
          have hi := (List.getElem?_eq_some_iff.mp hv).1
          have hi0 : i = 0 := by simpa using hi
          subst hi0
          cases Option.some.inj hv
          obtain ⟨rfl, rfl⟩ := z0 rfl
          refine ⟨t1, _, rfl, SqT.of ht1, rfl, _, _, rfl, _, _, rfl, rfl, ?_⟩
          refine ⟨_, rfl, b, _, rfl, sA _ _ hb1, fun H3 p2 ts2 s3 hp2 hpl2 pr2 => ?_⟩
          cases pr2 with
          | @cons t2 q2 ts2 qs2 r2 rr2 =>
            cases rr2
            obtain ⟨kq2, hkq2, ht2⟩ := r2
            refine ⟨p2, rfl, ⟨_, .of hpl2⟩, for_list (xs := [V.ref t2]) (fun i σ H' => (i = 0 → σ = [some (.ref a), some (.ref b), some (.ref d), some (.ref kq), some (.ref t), none, none, none, none] ∧ H' = H3) ∧ (i = 1 → σ[2]? = some (some (.ref d)) ∧ DAt H' d (some (cr q x)) ∧ Same H H' ∧ SqL K H' p [V.ref t1]) ∧ SqL K H' p2 [V.ref t2]) ⟨fun _ => ⟨rfl, rfl⟩, fun z => absurd z (by decide), .of hpl2⟩ (fun i σ H' _ z => z.2.2) ?_ ?_⟩
            · rintro i v σ H4 hv ⟨z0, _, _⟩
              have hi := (List.getElem?_eq_some_iff.mp hv).1
              have hi0 : i = 0 := by simpa using hi
              subst hi0
              cases Option.some.inj hv
              obtain ⟨rfl, rfl⟩ := z0 rfl
              refine ⟨t2, _, rfl, SqT.of ht2, rfl, _, _, rfl, _, _, rfl, rfl, ?_⟩
              have hkq3 := s3 _ _ (s2 _ _ hkq)
              have hkq4 := s3 _ _ hkq2
              refine ⟨_, rfl, kq, rfl, ⟨_, .of hkq3⟩, fun D hD => lc_tup (xs := []) (fun i H' => H' = upd H4 D (.lst [])) rfl (fun i H' _ e => by rw [e]; exact .of (same_upd hD _ _ hkq3)) (fun i x H' hx _ => by cases hx) ?_⟩
              rintro H5 rfl
              refine ⟨Nat.zero_le _, fun D2 hD2 => ?_⟩
              have s5 := (same_upd (o := .lst []) hD).trans (same_upd (o := .lst []) hD2)
              refine ⟨_, _, .lst (.of (same_upd hD2 _ _ upd_same)) .nil, .lst (.of upd_same) .nil, rfl, rfl, _, rfl, ?_⟩
              rw [show PyData.eqv (.list []) (.list []) = true by decide]
              refine iteT ⟨_, rfl, _, rfl, kq, kq2, [], [], rfl, rfl, .of (s5 _ _ hkq3), .of (s5 _ _ hkq4), Nat.zero_le _, fun _ => ?_, fun z => absurd rfl z, fun z => absurd rfl z⟩
              refine ⟨kq2, rfl, s5 _ _ hkq4, fun p5 hp5 => .inl ⟨p5, [], rfl, .of upd_same, fun p6 hp6 => ?_⟩⟩
              have s6 := s5.trans ((same_upd (o := .lst []) hp5).trans (same_upd (o := .tup []) hp6))
              have hd6 := s6 _ _ (s3 _ _ hd2)
              refine ⟨_, rfl, d, rfl, .inr ⟨[], .inl hd6⟩, _, rfl, (by show 2 ≤ sizeLine; decide), fun p0 hp0 => ?_⟩
              have s7 := s6.trans (same_upd (o := .tup [V.int 0, .int 1]) hp0)
              refine ⟨_, DGet.t (k := []) (s7 _ _ (s3 _ _ hd2)) (same_upd hp0 _ _ upd_same), ?_⟩
              have oq := oo q rfl
              have S7 := (sA.trans s3).trans s7
              refine ⟨_, rfl, _, rfl, t, tb, q.1, q.2, x.1, x.2, rfl, S7 _ _ ht, S7 _ _ hb2, oq.t.le (by omega), oq.b.le (by omega), ox.t.le (by omega), ox.b.le (by omega), oq.pos, ox.pos, fun r1 H8 rt1 s8 => ?_⟩
              have oc := oq.cr ox
              have oc2 := oc.le le
              refine ⟨p0, r1, 0, 1, (cr q x).1, (cr q x).2, rfl, s8 _ _ upd_same, rt1, ok_zz.t.le (by decide), ok_zz.b.le (by decide), oc2.t, oc2.b, by decide, oc2.pos, fun r2 H9 rt2 s9 => ?_⟩
              have S9 := (s7.trans s8).trans s9
              have hd9 := S9 _ _ (s3 _ _ hd2)
              refine ⟨_, rfl, _, rfl, d, _, rfl, DPut.t (k := []) hd9 (s9 _ _ (s8 _ _ (same_upd hp0 _ _ upd_same))) (by rw [sizeLine_eq]; decide), ?_⟩
              have nr : r2 ≠ d := fun z => by have z2 : H9 r2 = _ := rt2; rw [z, hd9] at z2; cases z2
              have np : p ≠ d := fun z => by rw [z, hd2] at hpl; cases hpl
              have np2 : p2 ≠ d := fun z => by rw [z, s3 _ _ hd2] at hpl2; cases hpl2
              have ez : pl zz (cr q x) = cr q x := zero_pl oc
              refine ⟨fun z => absurd z (by decide), fun _ => ⟨rfl, ⟨r2, upd_same, (upd_ne nr).trans ?_⟩, Same.put ((sA.trans s3).trans S9) hd, .of ((upd_ne np).trans (S9 _ _ (s3 _ _ hpl)))⟩, .of ((upd_ne np2).trans (S9 _ _ hpl2))⟩
              have z2 : H9 r2 = some (.tup [.int (pl zz (cr q x)).1, .int (pl zz (cr q x)).2]) := rt2
              rw [ez] at z2
              exact z2
            · rintro σ H4 ⟨_, z1, _⟩
              obtain ⟨e1, e2, e3, e4⟩ := z1 rfl
              exact ⟨fun z => absurd z (by decide), fun _ => ⟨e1, e2, e3⟩, e4⟩
        · rintro σ H' ⟨_, z1, _⟩
          obtain ⟨e1, e2, e3⟩ := z1 rfl
          exact ⟨_, e1, k d H' e2 hd e3⟩
end
end K36

set_option Elab.async false
set_option linter.all false
set_option maxRecDepth 100000
set_option maxHeartbeats 4000000
set_option pp.maxSteps 600
namespace K36
open PySem PySem.Spec PyProof.Rows L2 Ux
def spSteep (K : PySem.W.Frag) : Sp := fun vs H Q _ => ∃ (l : Addr) (rs : List Addr) (ps : List PQ) (o : Int) (n : Nat), vs = [.ref l, .int o] ∧ SqL K H l (rs.map V.ref) ∧ TupsAt H rs ps ∧ Oks n ps ∧ n ≤ 900 ∧ ps.length ≤ 14 ∧ -1 ≤ o ∧ o ≤ 100 ∧
  ∀ (e : Addr) (qs : List Addr) (H' : Hp), H' e = some (.lst (qs.map V.ref)) → TupsAt H' qs (if o = -1 then itg ps else slps o.toNat ps) → Same H H' → Q (.ref e) H'
theorem horO_get (x : PQ) (ps : List PQ) : (horO x ps).getD zz = hor x ps := by cases ps <;> rfl
theorem horO_ok {n m : Nat} {x : PQ} (hx : Ok m x) {ps : List PQ} (h : Oks n ps) : OkO (ps.length * (n + m + 1) + 1) (horO x ps) := fun p e => by
  have k := hor_ok hx h
  cases ps with
  | nil => cases e
  | cons a ps =>
    cases Option.some.inj e
    exact k
theorem horO_some {x : PQ} {ps : List PQ} (h : 0 < ps.length) : horO x ps = some (hor x ps) := by
  cases ps with
  | nil => cases h
  | cons a ps => rfl
theorem opt_cr {m : Nat} {x : PQ} (ox : Ok m x) {ps : List PQ} : ((horO x ps).map fun p => cr p x).getD zz = cr (hor x ps) x := by
  cases ps with
  | nil => exact (cr_zero ox).symm
  | cons a ps => rfl
section
variable {P : Program} {w : World} {K : PySem.W.Frag} {mg : Str → Option Value} {base : Heap}
theorem scCurAt : FnScope ["_law_shape", "_law_place", "_law_found", "_law_worth"] ["_law_shape", "_law_place"] (defScope sCurAt) := ⟨rfl, rfl, rfl, by decide +kernel, rfl, by decide +kernel, by decide +kernel⟩
theorem ok_curAt {f fS fT : Addr} {fd fdS fdT : FuncData} (F : Fun K "_law_curve_at" "_law_curve_at" sCurAt f fd) (DS : Dn K mg "_law_sum" fS) (GS : FnOk P w K mg base CX0 3 fS fdS ["_law_one", "_law_other"] spSum) (bS : Binds K fdS ["_law_one", "_law_other"] [])
    (DT : Dn K mg "_law_times" fT) (GT : FnOk P w K mg base CX0 3 fT fdT ["_law_one", "_law_other"] spTimes) (bT : Binds K fdT ["_law_one", "_law_other"] []) : FnOk P w K mg base CX0 4 f fd ["_law_shape", "_law_place"] (spCurAt K) := by
  refine F.ok scCurAt (fun vs H Q E h => ?_) (fun cdv A outer s H vs Q E hr h => ?_)
  · obtain ⟨l, d, rs, ps, x, n, m, rfl, _⟩ := h
    rfl
  · obtain ⟨l, d, rs, ps, x, n, m, rfl, hl, ra, hd, ox, op, le, k⟩ := h
    refine ⟨_, pss_cons (ps_set (i := 2) scCurAt.nd rfl (Or.inl rfl) pe_dnewT)
      (pss_cons (ps_for PassesOwn.never rfl (pi_list (pe_revL (pv 0))) (pg_name (i := 3) scCurAt.nd rfl (Or.inl rfl))
        (pss_one (ps_set (i := 2) scCurAt.nd rfl (Or.inl rfl) (pe_call GS hr (by rfl) DS.gl DS.kp bS .nil pass0 (pa_cons (pe_call GT hr (by rfl) DT.gl DT.kp bT .nil pass0 (pa_cons (pv 2) (pa_cons (pv 1) pa_nil))) (pa_cons (pe_disp1 hr.units0 (pe_tup pa_nil) (pv 3)) pa_nil))))))
      (pss_one (ps_ret (pv 2)))), ?_⟩
    refine fun d0 hd0 => ?_
    have s1 := same_upd (o := .dT []) hd0
    refine ⟨_, rfl, l, _, rfl, SqL.ext hl s1, fun p hp => ?_⟩
    have sp := same_upd (o := .lst (rs.map V.ref).reverse) hp
    have S1 := s1.trans sp
    refine ⟨p, rfl, ⟨_, .of upd_same⟩, for_list (xs := (rs.map V.ref).reverse) (fun i σ H' => ∃ (e : Addr) (x3 : Option V), σ = [some (.ref l), some (.ref d), some (.ref e), x3] ∧ DAt H' e (horO x (ps.drop (ps.length - i))) ∧ Same H H' ∧ SqL K H' p (rs.map V.ref).reverse) ⟨d0, none, rfl, ?_, S1, .of upd_same⟩ (fun i σ H' _ ⟨_, _, _, _, _, sx⟩ => sx) ?_ ?_⟩
    · rw [Nat.sub_zero, List.drop_length]
      exact sp _ _ upd_same
    · rintro i v σ H0 hv ⟨e, x3, rfl, de, s0, hs0⟩
      have hi := (List.getElem?_eq_some_iff.mp hv).1
      rw [List.length_reverse, List.length_map, ra.len] at hi
      rw [List.getElem?_reverse (by rw [List.length_map, ra.len]; exact hi), List.length_map, ra.len] at hv
      obtain ⟨r, er, rfl⟩ := map_of hv
      have e2 : ps[ps.length - 1 - i]? = some ps[ps.length - 1 - i] := List.getElem?_eq_getElem (by omega)
      have rr : TupI H0 r (ps[ps.length - 1 - i]).1 (ps[ps.length - 1 - i]).2 := s0 _ _ (ra.at_ _ r _ er e2)
      have ow := op _ (List.mem_of_getElem? e2)
      have od : Oks n (ps.drop (ps.length - i)) := fun p' hp' => op p' (List.mem_of_mem_drop hp')
      have oh := horO_ok ox od
      have oh2 := hor_ok ox od
      have hh := hor_drop (x := x) e2
      rw [show ps.length - 1 - i + 1 = ps.length - i by omega] at hh
      have bl : (ps.drop (ps.length - i)).length * (n + m + 1) + 1 + m ≤ 1990 := by
        refine Nat.le_trans ?_ le
        have : (ps.drop (ps.length - i)).length ≤ ps.length := by rw [List.length_drop]; omega
        have := Nat.mul_le_mul_right (n + m + 1) this
        omega
      have bn : n ≤ 1990 := by
        have : 1 * (n + m + 1) ≤ ps.length * (n + m + 1) := Nat.mul_le_mul_right _ (by omega)
        omega
      refine ⟨_, rfl, _, rfl, e, d, _, x, _, m, rfl, de, hd.same s0, oh, ox, by omega, fun d2 H2 dd2 n2 s2 => ?_⟩
      refine fun p3 hp3 => ⟨Nat.zero_le _, fun p4 hp4 => ⟨_, rfl, ?_⟩⟩
      have hp3' : upd (upd H2 p3 (.dT [])) p4 (.tup []) p3 = some (.dT []) := same_upd hp4 _ _ upd_same
      refine ⟨hp3', p4, [], rfl, upd_same, ?_⟩
      have s5 : Same H2 (upd (upd (upd H2 p3 (.dT [])) p4 (.tup [])) p3 (.dT [([], .ref r)])) := Same.put ((same_upd hp3).trans (same_upd hp4)) hp3
      have oo : OkO 2000 ((horO x (ps.drop (ps.length - i))).map fun p => cr p x) := fun p' ep => by
        obtain ⟨p'', e3, rfl⟩ := Option.map_eq_some_iff.mp ep
        exact ((oh p'' e3).cr ox).le (by omega)
      refine ⟨d2, p3, _, _, rfl, dd2.same s5, ⟨r, upd_same, s5 _ _ (s2 _ _ rr)⟩, oo, ow.le (by omega), fun d6 H6 dd6 n6 s6 => ?_⟩
      have S6 := (s2.trans s5).trans s6
      refine ⟨d6, _, rfl, ?_, s0.trans S6, SqL.ext hs0 S6⟩
      rw [opt_cr ox, ← hh] at dd6
      rw [show ps.length - (i + 1) = ps.length - 1 - i by omega, horO_some (by rw [List.length_drop]; omega)]
      exact dd6
    · rintro σ H0 ⟨e, x3, rfl, de, s0, _⟩
      rw [List.length_reverse, List.length_map, ra.len, Nat.sub_self, List.drop_zero] at de
      exact ⟨_, rfl, k e H0 de s0⟩
def nSteep : List Str := ["_law_shape", "_law_order", "_law_found", "_law_again", "_law_k"]
abbrev tI (i : Int) : TE := fun _ H Q => Q (.int i) H
theorem scSteep : FnScope nSteep ["_law_shape", "_law_order"] (defScope sSteep) := ⟨rfl, rfl, rfl, by decide +kernel, rfl, by decide +kernel, by decide +kernel⟩
theorem tup_low {t b : Int} {H : Hp} {p : Addr} {q : PQ} (h : TupI H p (nT t b) (nB t b)) (e : q = (nT t b, nB t b)) : TupI H p q.1 q.2 := by rw [e]; exact h
theorem ok_steep {f fL : Addr} {fd fdL : FuncData} (F : Fun K "_law_steep" "_law_steep" sSteep f fd) (B : Bn mg) (DL : Dn K mg "_law_low" fL) (GL : FnOk P w K mg base CX0 1 fL fdL ["_law_top", "_law_bottom"] spLow) (bL : Binds K fdL ["_law_top", "_law_bottom"] []) : FnOk P w K mg base CX0 2 f fd ["_law_shape", "_law_order"] (spSteep K) := by
  refine F.ok scSteep (fun vs H Q E h => ?_) (fun cdv A outer s H vs Q E hr h => ?_)
  · obtain ⟨l, rs, ps, o, n, rfl, _⟩ := h
    rfl
  · obtain ⟨l, rs, ps, o, n, rfl, hl, ra, op, n9, le, o1, o2, k⟩ := h
    refine ⟨_, pss_cons (ps_if (pt_cmpR op_eq (pv 1) (pe_un un_neg pe_int) (nomark _))
        (pss_one (ps_ret (pe_op op_cat (pe_lst (pa_cons (pe_tup (pa_cons pe_int (pa_cons pe_int pa_nil))) pa_nil))
          (pe_lc (own := [("_law_k", 4)]) (g := gName 4) (te := tCall spLow [] E0 (tCons (tOp (rIxT K) (tOp (rIxL K) (tVar 0) (tVar 4)) (tI 0)) (tCons (tOp (rI CMulW fun i j => .int (i * j)) (tOp (rIxT K) (tOp (rIxL K) (tVar 0) (tVar 4)) (tI 1)) (tOp (rI0 fun i j => .int (i + j)) (tVar 4) (tI 1))) tNil))) rfl scSteep.nd
            (pi_range1 rfl B.frange (pa_cons (pe_callB call_len (by rfl) B.flen (by decide +kernel) (pa_cons (pv 0) pa_nil)) pa_nil)) (blkOk_by (own := [("_law_k", 4)]) (N := nSteep) (sc := defScope sSteep) (by decide +kernel))
            (fun _ _ _ _ _ => pg_name (i := 4) scSteep.nd rfl (Or.inl rfl) (hf := Or.inr rfl)) (fun _ _ _ _ _ => pts_nil)
            (fun _ _ _ _ _ => pe_call GL hr (by rfl) DL.gl DL.kp bL .nil pass0 (pa_cons (pe_ix ix_tup (pe_ix ix_list (pv 0) (pv 4) (fun _ _ => rfl)) pe_int (fun _ _ => rfl)) (pa_cons (pe_op op_mulW (pe_ix ix_tup (pe_ix ix_list (pv 0) (pv 4) (fun _ _ => rfl)) pe_int (fun _ _ => rfl)) (pe_op op_add (pv 4) pe_int)) pa_nil))))))) pss_nil)
      (pss_cons (ps_set (i := 2) scSteep.nd rfl (Or.inr rfl) (pe_callTy call_list_of (by rfl) B.tlist (by decide +kernel) (pa_cons (pv 0) pa_nil)))
      (pss_cons (ps_for PassesOwn.never rfl (pi_range1 rfl B.frange (pa_cons (pv 1) pa_nil)) (pg_name (i := 3) scSteep.nd rfl (Or.inl rfl))
        (pss_one (ps_set (i := 2) scSteep.nd rfl (Or.inr rfl) (pe_slice sl_list (pe_lc (own := [("_law_k", 4)]) (g := gName 4) (te := tCall spLow [] E0 (tCons (tOp (rI CMulW fun i j => .int (i * j)) (tOp (rIxT K) (tOp (rIxL K) (tVar 2) (tVar 4)) (tI 0)) (tVar 4)) (tCons (tOp (rIxT K) (tOp (rIxL K) (tVar 2) (tVar 4)) (tI 1)) tNil))) rfl scSteep.nd
            (pi_range1 rfl B.frange (pa_cons (pe_callB call_len (by rfl) B.flen (by decide +kernel) (pa_cons (pv 2) pa_nil)) pa_nil)) (blkOk_by (own := [("_law_k", 4)]) (N := nSteep) (sc := defScope sSteep) (by decide +kernel))
            (fun _ _ _ _ _ => pg_name (i := 4) scSteep.nd rfl (Or.inl rfl) (hf := Or.inr rfl)) (fun _ _ _ _ _ => pts_nil)
            (fun _ _ _ _ _ => pe_call GL hr (by rfl) DL.gl DL.kp bL .nil pass0 (pa_cons (pe_op op_mulW (pe_ix ix_tup (pe_ix ix_list (pv 2) (pv 4) (fun _ _ => rfl)) pe_int (fun _ _ => rfl)) (pv 4)) (pa_cons (pe_ix ix_tup (pe_ix ix_list (pv 2) (pv 4) (fun _ _ => rfl)) pe_int (fun _ _ => rfl)) pa_nil)))) (po_some pe_int) po_none))))
      (pss_one (ps_ret (pv 2))))), ?_⟩
    refine ⟨_, rfl, _, rfl, rfl, _, rfl, ?_⟩
    have lr : (rs.map V.ref).length = ps.length := by rw [List.length_map, ra.len]
    rw [dec_int]
    by_cases c : o = -1
    · rw [decide_eq_true c]
      rw [if_pos c] at k
      refine iteT ⟨(by show 2 ≤ sizeLine; decide), fun p0 hp0 => ⟨(by show 1 ≤ sizeLine; decide), fun p1 hp1 => ?_⟩⟩
      have s1 := (same_upd (o := .tup [V.int 0, .int 1]) hp0).trans (same_upd (o := .lst [V.ref p0]) hp1)
      have hp1' : upd (upd H p0 (.tup [V.int 0, .int 1])) p1 (.lst [V.ref p0]) p1 = some (.lst [V.ref p0]) := upd_same
      have hp0' : upd (upd H p0 (.tup [V.int 0, .int 1])) p1 (.lst [V.ref p0]) p0 = some (.tup [V.int 0, .int 1]) := same_upd hp1 _ _ upd_same
      generalize upd (upd H p0 (.tup [V.int 0, .int 1])) p1 (.lst [V.ref p0]) = H1 at s1 hp1' hp0'
      refine ⟨_, rfl, .ref l, (rs.map V.ref).length, rfl, .inl ⟨_, SqL.ext hl s1, rfl⟩, _, rfl, by omega, by omega, ?_⟩
      rw [Int.toNat_natCast, lr]
      refine fun D hD => lc_range (Acc TupP H1 D (dvs ps)) (.zero hD) ?_ ?_
      · rintro i H' hi a
        rw [Int.zero_add]
        refine ⟨rfl, ?_⟩
        obtain ⟨r, q, e1, e2, hr2⟩ := ra.get hi
        have k1 := op q (List.mem_of_getElem? e2)
        have S := s1.trans a.sm
        have ht : TupI H' r q.1 q.2 := S _ _ hr2
        have bi : Bd 10 ((i : Int) + 1) := by
          have := bdS (i := i + 1) (n := 10) (by omega) (by decide)
          rwa [show (((i + 1 : Nat)) : Int) = (i : Int) + 1 by omega] at this
        have b9 : Bd 900 q.2 := k1.b.le n9
        have hne : q.2 * ((i : Int) + 1) ≠ 0 := Int.mul_ne_zero k1.ne (by omega)
        refine ⟨_, rfl, _, rfl, l, _, (i : Int), _, rfl, rfl, SqL.ext hl S, atI_nat (map_at e1), r, _, _, _, rfl, rfl, .of ht, at0 _ _, _, rfl, _, rfl, l, _, (i : Int), _, rfl, rfl, SqL.ext hl S, atI_nat (map_at e1), r, _, _, _, rfl, rfl, .of ht, at1 _ _, _, rfl, _, _, rfl, rfl, _, _, rfl, rfl, wide_mul b9 bi (by decide) (by decide) (by decide), _, _, rfl, hne, (b9.mul bi).le (by decide), fun v H2 tv s2 => ?_⟩
        exact a.step hD s2 (p := dv q ((i : Nat) + 1)) tv (by unfold dvs; rw [List.getElem?_mapIdx, e2]; rfl) (by omega)
      · intro H2 a
        obtain ⟨us, hu, ul⟩ := a.done (by rw [dvs_len]; exact Nat.le_refl _)
        have lu : us.length = ps.length := by rw [ul.len, dvs_len]
        refine ⟨p1, D, _, _, rfl, rfl, a.sm _ _ hp1', hu, ?_, fun p2 hp2 => ?_⟩
        · rw [List.length_map, lu, sizeLine_eq]
          show 1 + ps.length ≤ _
          omega
        · have s2 := same_upd (o := .lst ([V.ref p0] ++ us.map V.ref)) hp2
          refine k p2 (p0 :: us) _ upd_same ?_ ((s1.trans a.sm).trans s2)
          exact (ul.same s2).cons (s2 _ _ (a.sm _ _ hp0'))
    · rw [decide_eq_false c]
      rw [if_neg c] at k
      refine iteF ⟨_, rfl, l, _, rfl, .inl hl, fun e0 he0 => ?_⟩
      have s1 := same_upd (o := .lst (rs.map V.ref)) he0
      refine ⟨_, rfl, _, rfl, by omega, by omega, ?_⟩
      refine for_range (fun i σ H' => ∃ (e : Addr) (qs : List Addr) (x3 : Option V), σ = [some (.ref l), some (.int o), some (.ref e), x3, none] ∧ H' e = some (.lst (qs.map V.ref)) ∧ TupsAt H' qs (slps i ps) ∧ Same H H') ⟨e0, rs, none, rfl, upd_same, ra.same s1, s1⟩ ?_ ?_
      · rintro j σ H1 hj ⟨e, qs, x3, rfl, he, rq, sm⟩
        have ok := op.slps j (by omega)
        have hle := slps_le j ps
        have lq : (qs.map V.ref).length = (slps j ps).length := by rw [List.length_map, rq.len]
        refine ⟨_, rfl, .ref e, (qs.map V.ref).length, rfl, .inl ⟨_, .of he, rfl⟩, _, rfl, by omega, by omega, ?_⟩
        rw [Int.toNat_natCast, lq]
        refine fun D hD => lc_range (Acc TupP H1 D ((slps j ps).mapIdx fun k w => ml w (k : Nat))) (.zero hD) ?_ ?_
        · rintro i H' hi a
          rw [Int.zero_add]
          refine ⟨rfl, ?_⟩
          obtain ⟨r, q, e1, e2, hr2⟩ := rq.get hi
          have k1 := ok q (List.mem_of_getElem? e2)
          have ht : TupI H' r q.1 q.2 := a.sm _ _ hr2
          have he2 := a.sm _ _ he
          have bi : Bd 10 (i : Int) := bdS (by omega) (by decide)
          have b9 : Bd 1400 q.1 := k1.t.le (by omega)
          refine ⟨_, rfl, _, rfl, e, _, (i : Int), _, rfl, rfl, .of he2, atI_nat (map_at e1), r, _, _, _, rfl, rfl, .of ht, at0 _ _, _, rfl, _, _, rfl, rfl, wide_mul b9 bi (by decide) (by decide) (by decide), _, rfl, _, rfl, e, _, (i : Int), _, rfl, rfl, .of he2, atI_nat (map_at e1), r, _, _, _, rfl, rfl, .of ht, at1 _ _, _, _, rfl, k1.ne, k1.b.le (by omega), fun v H2 tv s2 => ?_⟩
          exact a.step hD s2 (p := ml q (i : Nat)) tv (by rw [List.getElem?_mapIdx, e2]; rfl) (by omega)
        · intro H2 a
          obtain ⟨us, hu, ul⟩ := a.done (by rw [List.length_mapIdx]; exact Nat.le_refl _)
          refine ⟨1, rfl, D, _, rfl, .of hu, fun p hp => ?_⟩
          have sp := same_upd (o := .lst (us.tail.map V.ref)) hp
          rw [cut_tail]
          have et : (us.map V.ref).tail = us.tail.map V.ref := by cases us <;> rfl
          rw [et]
          refine ⟨p, us.tail, _, rfl, upd_same, ?_, (sm.trans a.sm).trans sp⟩
          rw [slps_succ]
          exact ul.tail.same sp
      · rintro σ H1 ⟨e, qs, x3, rfl, he, rq, sm⟩
        exact ⟨_, rfl, k e qs H1 he rq sm⟩
end
end K36

set_option Elab.async false
set_option linter.all false
set_option maxRecDepth 100000
set_option maxHeartbeats 4000000
set_option pp.maxSteps 500
namespace K36
open PySem PySem.Spec PyProof.Rows L2 Ux
def spRInit2 (K : PySem.W.Frag) (CR CI : Addr) : Sp := fun vs H Q E => ∃ (p dx : Addr), H p = some (.ins CR dx []) ∧
  ((∃ t b : Int, vs = [.ref p, .int t, .int b] ∧ b ≠ 0 ∧ Bd 8000 b ∧ ∀ H', H' p = some (.ins CR dx (rf (nT t b) (nB t b))) → But p H H' → Q .non H') ∨
   (∃ v w : V, vs = [.ref p, v, w] ∧ NotInt K H v ∧ Adm K H v ∧ RaisesN CI v H E) ∨ (∃ (t : Int) (w : V), vs = [.ref p, .int t, w] ∧ NotInt K H w ∧ Adm K H w ∧ RaisesN CI w H E) ∨ ∃ t : Int, vs = [.ref p, .int t, .int 0] ∧ Adm K H (.int 0) ∧ RaisesN CI (.int 0) H E)
section
variable {P : Program} {w : World} {K : PySem.W.Frag} {mg : Str → Option Value} {base : Heap} {CR CI fI : Addr}
theorem ok_rinit2 {f fN : Addr} {fd fdN fdI : FuncData} {dvs : List V} (F : FunD K "__init__" "Ratio.__init__" (defArgs sRInit) (defBody sRInit) (defScope sRInit) dvs [] f fd) (T : RT K mg CR) (gcd : mg "gcd" = some (.builtin "math.gcd")) (I : IN K mg CI fI) (GI : FnOk P w K mg base CX0 2 fI fdI ["self", "given"] (spI_InvalidNumber K)) (bN : Binds K fdI ["self", "given"] [])
    (D : Dn K mg "is_integer" fN) (G : FnOk P w K mg base CX0 1 fN fdN ["value"] (spIsInt K)) (bI : Binds K fdN ["value"] []) :
    FnOk P w K mg base (L2.CX P w) 4 f fd ["self", "top", "bottom"] (spRInit2 K CR CI) := by
  refine F.ok scRInit (fun vs H Q E h => ?_) (fun cdv A outer s H vs Q E hr h => ?_)
  · obtain ⟨p, dx, hp, ⟨t, b, rfl, _⟩ | ⟨v, w, rfl, _⟩ | ⟨t, w, rfl, _⟩ | ⟨t, rfl, _⟩⟩ := h <;> rfl
  · have r1 : Room 1 _ := hr.mono (by decide)
    refine ⟨_, pss_cons (ps_if (pt_not (pt_val (pe_call G r1 (by rfl) D.gl D.kp bI .nil pass0 (pa_cons (pv 1) pa_nil)))) (pss_one (ps_raise rfl (takes_of rfl rfl rfl rfl) (pmk_oex I.ox I.ini I.ty GI hr bN .nil pass0 (by rfl) I.gl (pa_cons (pv 1) pa_nil)))) pss_nil)
      (pss_cons (ps_if (PW.pt (pw_or (pt_not (pt_val (pe_call G r1 (by rfl) D.gl D.kp bI .nil pass0 (pa_cons (pv 2) pa_nil)))) (pw_or1 (pt_cmpR op_eq (pv 2) pe_int (nomark _))))) (pss_one (ps_raise rfl (takes_of rfl rfl rfl rfl) (pmk_oex I.ox I.ini I.ty GI hr bN .nil pass0 (by rfl) I.gl (pa_cons (pv 2) pa_nil)))) pss_nil)
      (pss_cons (ps_set (i := 3) scRInit.nd rfl (Or.inl rfl) (pe_callBfun cr_gcd (by rfl) gcd (pa_cons (pv 1) (pa_cons (pv 2) pa_nil))))
      (C8.pss_cut (ps_if (pt_cmpR op_lt (pv 2) pe_int (nomark _)) (pss_one (ps_set (i := 3) scRInit.nd rfl (Or.inl rfl) (pe_un un_neg (pv 3)))) pss_nil)
      (pss_cons (ps_fld (pv 0) (pe_op op_fdivX (pv 1) (pv 3)) rfl)
      (pss_one (ps_fld (pv 0) (pe_op op_fdivX (pv 2) (pv 3)) rfl)))))), ?_⟩
    obtain ⟨p, dx, hp, ⟨t, b, rfl, b0, bb, q⟩ | ⟨v, w, rfl, ⟨ty, b1, b2, h1, h2, h3, h4⟩, ad, k⟩ | ⟨t, w, rfl, ⟨ty, b1, b2, h1, h2, h3, h4⟩, ad, k⟩ | ⟨t, rfl, ad, k⟩⟩ := h
    · refine ⟨_, rfl, _, _, true, false, rfl, .base (.int _), kit_ty (by decide +kernel), kit_ty (by decide +kernel), _, rfl, iteF ?_⟩
      refine ⟨_, rfl, _, _, true, false, rfl, .base (.int _), kit_ty (by decide +kernel), kit_ty (by decide +kernel), _, rfl, iteF ?_⟩
      have nb : ¬ (V.int b) = V.int 0 := fun z => b0 (V.int.inj z)
      refine ⟨_, rfl, rfl, _, rfl, ?_⟩
      rw [decide_eq_false nb]
      refine iteF ?_
      refine ⟨_, rfl, _, rfl, t, b, rfl, ?_⟩
      refine ⟨fun σ H' => σ = [some (.ref p), some (.int t), some (.int b), some (.int (cg t b))] ∧ H' = H, ?_, ?_⟩
      · refine ⟨_, rfl, _, _, rfl, rfl, _, rfl, ?_⟩
        by_cases hn : b < 0
        · rw [decide_eq_true hn]
          refine iteT ⟨_, rfl, _, rfl, ?_⟩
          unfold cg
          rw [if_pos hn]
          exact ⟨rfl, rfl⟩
        · rw [decide_eq_false hn]
          refine iteF ?_
          unfold cg
          rw [if_neg hn]
          exact ⟨rfl, rfl⟩
      · rintro σ H' ⟨rfl, rfl⟩
        have c0 := cg_ne (t := t) b0
        have c1 : (cg t b).natAbs.log2 < 9000 := by
          refine Nat.lt_of_lt_of_le (Bd.log (n := 8000) ?_ (by decide)) (by decide)
          unfold Bd
          rw [cg_abs]
          exact Nat.lt_of_le_of_lt (Nat.le_of_dvd (by omega) (Nat.gcd_dvd_right _ _)) bb
        refine ⟨_, rfl, _, rfl, _, _, rfl, rfl, ⟨c0, c1⟩, _, rfl, p, CR, dx, [], rfl, hp, T.cl, T.nT, (by show 0 < 1000; decide), ?_⟩
        refine ⟨_, rfl, _, rfl, _, _, rfl, rfl, ⟨c0, c1⟩, _, rfl, p, CR, dx, _, rfl, upd_same, T.cl, T.nB, (by show 1 < 1000; decide), ?_⟩
        exact q _ upd_same ((But.refl.upd).upd)
    · exact ⟨_, rfl, _, _, b1, b2, rfl, h1, h2, h3, false, congrArg V.bl h4, iteT (in_made I rfl ad k)⟩
    · refine ⟨_, rfl, _, _, true, false, rfl, .base (.int _), kit_ty (by decide +kernel), kit_ty (by decide +kernel), _, rfl, iteF ?_⟩
      exact ⟨_, rfl, _, _, b1, b2, rfl, h1, h2, h3, false, congrArg V.bl h4, iteT (in_made I rfl ad k)⟩
    · refine ⟨_, rfl, _, _, true, false, rfl, .base (.int _), kit_ty (by decide +kernel), kit_ty (by decide +kernel), _, rfl, iteF ?_⟩
      refine ⟨_, rfl, _, _, true, false, rfl, .base (.int _), kit_ty (by decide +kernel), kit_ty (by decide +kernel), _, rfl, iteF ?_⟩
      refine ⟨_, rfl, rfl, _, rfl, ?_⟩
      rw [decide_eq_true rfl]
      exact iteT (in_made I rfl ad k)
/-- ratio_of, refusing -/
def spRatioOf2 (K : PySem.W.Frag) (CR CI : Addr) : Sp := fun vs H Q E =>
  (∃ (y : V) (t b : Int), vs = [y] ∧ NumV CR H y t b ∧ ∀ (p : Addr) (H' : Hp), RatAt CR H' p t b → Same H H' → Q (.ref p) H') ∨
  ∃ y, vs = [y] ∧ (∀ H', Same H H' → NotNum K CR H' y) ∧ Adm K H y ∧ RaisesN CI y H E
theorem ok_ratioOf2 {f fN : Addr} {fd fdN : FuncData} {ds : List Value} (F : Fun K "ratio_of" "ratio_of" sRatioOf f fd) (B : Bn mg) (T : RT K mg CR) (M : Mk K CR fN) (G : FnOk P w K mg base (L2.CX P w) 4 fN fdN ["self", "top", "bottom"] (spRInit2 K CR CI)) (vD : Vals [V.int 1] ds) (bN : Binds K fdN ["self", "top", "bottom"] ds) :
    FnOk P w K mg base (L2.CX P w) 6 f fd ["number"] (spRatioOf2 K CR CI) := by
  refine F.okX scRatioOf (fun vs H Q E h => ?_) (fun cdv A outer s H vs Q E hr h => ?_)
  · obtain ⟨y, t, b, rfl, _⟩ | ⟨y, rfl, _⟩ := h <;> rfl
  · refine ⟨_, pss_cons (ps_if (pt_val (pe_callB call_isi (by rfl) B.isin (by decide +kernel) (pa_cons (pv 0) (pa_cons (pe_glob (v := .ref CR) (by rfl) T.gl rfl) pa_nil)))) (pss_one (ps_ret (pv 0))) pss_nil)
      (pss_one (ps_ret (pe_make M G hr (by rfl) T.gl bN vD (passes_call (takes_of rfl rfl rfl rfl) fun _ _ _ _ z => z) (pa_cons (pv 0) pa_nil)))), ?_⟩
    obtain ⟨y, t, b, rfl, nv, q⟩ | ⟨y, rfl, nn, ad, k⟩ := h
    · rcases nv with ⟨r, rfl, ra⟩ | ⟨rfl, rfl⟩
      · exact ⟨_, rfl, _, _, _, _, true, rfl, .own _, ra.ty T, T.kR, true, rfl, iteT ⟨_, rfl, q r H ra (Same.refl _)⟩⟩
      · refine ⟨_, rfl, _, _, _, _, false, rfl, .own _, .base (.int _), T.kI, false, rfl, iteF ⟨_, rfl, fun z dz nz nd ne => ⟨z, dz, upd_same, .inl ⟨t, 1, rfl, by decide, Bd.of (m := 1) (by decide) (by decide +kernel), fun H' hz bu => ⟨rfl, q z H' ?_ (made_same nz nd bu)⟩⟩⟩⟩⟩
        rw [(n_one t).1, (n_one t).2] at hz
        exact ⟨dz, hz⟩
    · obtain ⟨ty0, b10, b20, h10, h20, _⟩ := nn H (Same.refl _)
      refine ⟨_, rfl, _, _, _, _, false, rfl, .own _, h10, h20, false, rfl, iteF ⟨_, rfl, fun z dz nz nd ne => ?_⟩⟩
      have sn : Same H (upd (upd H dz (.own z)) z (.ins CR dz [])) := made_same nz nd But.refl
      obtain ⟨ty, b1, b2, h1, h2, h3, h4, h5⟩ := nn _ sn
      exact ⟨z, dz, upd_same, .inr (.inl ⟨y, .int 1, rfl, ⟨ty, b1, b2, h1, h3, h4, h5⟩, ad.same sn, fun d H' s2 hd => k d H' (sn.trans s2) hd⟩)⟩
/-- Curve.__init__, refusing -/
def spCInit2 (K : PySem.W.Frag) (CR CC CI : Addr) : Sp := fun vs H _ E => ∃ (c dx l : Addr) (xs : List V) (j : Nat) (y : V), vs = [.ref c, .ref l] ∧ H c = some (.ins CC dx []) ∧ SqL K H l xs ∧ xs[j]? = some y ∧ j < 1000 ∧
  (∀ (i : Nat) (x : V), i < j → xs[i]? = some x → ∃ p : PQ, NumV CR H x p.1 p.2) ∧ (∀ H', Same H H' → NotNum K CR H' y) ∧ Adm K H y ∧ RaisesN CI y H E
theorem ok_cinit2 {f fZ fO : Addr} {fd fdZ fdO : FuncData} (F : Fun K "__init__" "Curve.__init__" sCInit f fd) (DZ : Dn K mg "without_last_zeros" fZ) (GZ : FnOk P w K mg base CX0 1 fZ fdZ ["worths"] (spStrip K CR)) (bZ : Binds K fdZ ["worths"] [])
    (DO : Dn K mg "ratio_of" fO) (GO : FnOk P w K mg base (L2.CX P w) 6 fO fdO ["number"] (spRatioOf2 K CR CI)) (bO : Binds K fdO ["number"] []) : FnOk P w K mg base (L2.CX P w) 7 f fd ["self", "worths"] (spCInit2 K CR CC CI) := by
  refine F.okX scCInit (fun vs H Q E h => ?_) (fun cdv A outer s H vs Q E hr h => ?_)
  · obtain ⟨c, dx, l, xs, j, y, rfl, _⟩ := h
    rfl
  · obtain ⟨c, dx, l, xs, j, y, rfl, hc, hl, hy, hj, na, nn, ad, k⟩ := h
    have r1 : Room 1 _ := hr.mono (by decide)
    refine ⟨_, pss_one (ps_fld (pv 0) (pe_call GZ r1 (by rfl) DZ.gl DZ.kp bZ .nil pass0 (pa_cons (pe_lcX (Er := E) (own := [("worth", 2)]) (g := gName 2) (te := tCall (spRatioOf2 K CR CI) [] E (tCons (tVar 2) tNil)) rfl rfl rfl rfl rfl scCInit.nd (pi_list (pv 1)) (blkOk_by (own := [("worth", 2)]) (N := ["self", "worths", "worth"]) (sc := defScope sCInit) (by decide +kernel))
      (fun _ _ _ _ _ _ => pg_name (i := 2) scCInit.nd rfl (Or.inl rfl) (hf := Or.inr rfl)) (fun _ _ _ _ _ _ tk => pe_call GO hr (by rfl) DO.gl DO.kp bO .nil (passes_call tk fun _ _ _ _ z => z) (pa_cons (pv 2) pa_nil))) pa_nil)) rfl), ?_⟩
    refine ⟨_, rfl, l, rfl, ⟨_, hl⟩, fun C0 hC => lc_list (xs := xs) (fun i H' => i ≤ j ∧ Same H H' ∧ ∃ ys, H' C0 = some (.lst ys) ∧ ys.length ≤ i) ⟨Nat.zero_le _, same_upd hC, [], upd_same, Nat.le_refl _⟩ (fun i H' _ a => SqL.ext hl a.2.1) ?_ ?_⟩
    · rintro i x H1 hx ⟨a1, a2, ys, a3, a4⟩
      refine ⟨rfl, ?_⟩
      by_cases hi : i = j
      · subst hi
        cases Option.some.inj (hx.symm.trans hy)
        exact ⟨_, rfl, .inr ⟨_, rfl, fun H' s2 => nn H' (a2.trans s2), ad.same a2, fun d H' s2 hd => k d H' (a2.trans s2) hd⟩⟩
      · obtain ⟨p, nv⟩ := na i x (by omega) hx
        refine ⟨_, rfl, .inl ⟨x, p.1, p.2, rfl, nv.same a2, fun v K1 rv sv => ⟨ys, sv _ _ a3, small1000 (by omega), by omega, Same.put (a2.trans sv) hC, _, upd_same, by rw [List.length_append]; show ys.length + 1 ≤ i + 1; omega⟩⟩⟩
    · rintro H1 ⟨a1, _⟩
      have := (List.getElem?_eq_some_iff.mp hy).1
      omega
end
end K36

set_option Elab.async false
set_option linter.all false
set_option maxRecDepth 100000
set_option maxHeartbeats 1000000
set_option pp.maxSteps 500
namespace K36
open PySem PySem.Spec PyProof.Rows L2 Ux
abbrev sLaw : Stmt := top 43
abbrev nLaw : List Str := ["_law_script", "_law_bag_here", "_law_pairs", "_law_k", "_law_handed", "_law_pair_here", "_law_kept", "_law_curve", "_law_due", "_law_text", "_law_again", "_law_found", "_law_one", "_law_place", "_law_begin", "_law_times_here", "_law_at", "_law_start", "_law_whole", "_law_area", "_law_values", "_law_order", "_law_odd", "_law_late"]
theorem scLaw : FnScope nLaw ["_law_script"] (defScope sLaw) := ⟨rfl, rfl, rfl, by decide +kernel, rfl, by decide +kernel, by decide +kernel⟩
def qn : Str := (envOfC "law" (defScope sLaw) 0 0 .none).qual ++ "<lambda>"
/-! ### lists of fractions as data -/
def pds (ps : List PQ) : List PyData := ps.map fun p => .tuple [.int p.1, .int p.2]
theorem pds_dp {K : PySem.W.Frag} {H : Hp} : ∀ {rs : List Addr} {ps : List PQ}, TupsAt H rs ps → DpAll K H (rs.map V.ref) (pds ps)
  | [], [], _ => .nil
  | [], _ :: _, h => by cases h.len
  | _ :: _, [], h => by cases h.len
  | r :: rs, p :: ps, h => .cons (.tup (.of (h.at_ 0 r p rfl rfl)) (.cons (.int _) (.cons (.int _) .nil))) (pds_dp ⟨Nat.succ.inj h.len, fun i a b ha hb => h.at_ (i + 1) a b ha hb⟩)
theorem pds_lay : ∀ ps : List PQ, PyData.canLayAll0 (pds ps) = true
  | [] => rfl
  | p :: ps => by
    show (PyData.canLay0 (.tuple [.int p.1, .int p.2]) && PyData.canLayAll0 (pds ps)) = true
    rw [pds_lay ps]
    rfl
theorem pds_depth : ∀ ps : List PQ, PyData.depthAll (pds ps) ≤ 1
  | [] => Nat.zero_le _
  | p :: ps => by
    show max (PyData.depth (.tuple [.int p.1, .int p.2])) (PyData.depthAll (pds ps)) ≤ 1
    have := pds_depth ps
    have e : PyData.depth (.tuple [.int p.1, .int p.2]) = 1 := rfl
    omega
theorem pds_shaped (ps : List PQ) : SeqAt.shaped (.list (pds ps)) = true := by
  unfold SeqAt.shaped
  have e1 : (PyData.list (pds ps)).canLay0 = true := pds_lay ps
  have e2 : (PyData.list (pds ps)).depth = PyData.depthAll (pds ps) + 1 := rfl
  have := pds_depth ps
  rw [e1, e2, decide_eq_true (by omega)]
  rfl
theorem pds_self (ps : List PQ) : PyData.eqv (.list (pds ps)) (.list (pds ps)) = true := SeqAt.eqv_refl _ (pds_lay ps)
theorem pds_nil (ps : List PQ) : PyData.eqv (.list (pds ps)) (.list []) = decide (ps = []) := by cases ps <;> rfl
theorem cut_last (xs : List V) : cutV xs none (some (-1)) = xs.take (xs.length - 1) := by
  unfold cutV
  rw [HT.sIx_none, List.drop_zero, Nat.sub_zero]
  have e : HT.sIx xs.length xs.length (some (-1)) = xs.length - 1 := by
    show (if (-1 : Int) < 0 then ((-1 : Int) + (xs.length : Int)).toNat else min (-1 : Int).toNat xs.length) = _
    rw [if_pos (by decide)]
    omega
  rw [e]
/-! ### the lambdas -/
def whys : List Expr := match List.getD (defBody sLaw) 21 (Stmt.Pass ⟨0, 0, 0, 0⟩) with
  | Stmt.Return (some (.Call _ (.List es _ :: _) _ _)) _ => es
  | _ => []
def lamX (i : Nat) : Expr := match List.getD whys i (Expr.Constant .none 0 ⟨0, 0, 0, 0⟩) with
  | .Call _ (e :: _) _ _ => e
  | e => e
def lamPa (i : Nat) : Arguments := match lamX i with
  | .Lambda p _ _ _ => p
  | _ => defArgs sLaw
def lamBo (i : Nat) : Expr := match lamX i with
  | .Lambda _ b _ _ => b
  | e => e
def lamSc (i : Nat) : Scope := match lamX i with
  | .Lambda _ _ s _ => s
  | _ => defScope sLaw
/-- the odd values -/
def OddN (H : Hp) (v : V) : Prop := v = .non ∨ v = .str "1" ∨ v = .str "0" ∨ v = .bl true ∨ ∃ l, v = .ref l ∧ H l = some (.lst [.int 1])
theorem OddN.kept {H H' : Hp} {v : V} (h : OddN H v) (s : ∀ b o, H b = some o → (∀ ps, o ≠ .tbl ps) → H' b = some o) : OddN H' v := by
  rcases h with h | h | h | h | ⟨l, e, h⟩
  · exact .inl h
  · exact .inr (.inl h)
  · exact .inr (.inr (.inl h))
  · exact .inr (.inr (.inr (.inl h)))
  · exact .inr (.inr (.inr (.inr ⟨l, e, s _ _ h (fun ps z => by cases z)⟩)))
theorem OddN.same {H H' : Hp} {v : V} (h : OddN H v) (s : Same H H') : OddN H' v := h.kept fun b o e _ => s b o e
theorem OddN.notInt {K : PySem.W.Frag} {H : Hp} {v : V} (h : OddN H v) : NotInt K H v := by
  rcases h with rfl | rfl | rfl | rfl | ⟨l, rfl, h⟩
  · exact ⟨_, false, false, .base .non, kit_ty (by decide +kernel), kit_ty (by decide +kernel), rfl⟩
  · exact ⟨_, false, false, .base (.str _), kit_ty (by decide +kernel), kit_ty (by decide +kernel), rfl⟩
  · exact ⟨_, false, false, .base (.str _), kit_ty (by decide +kernel), kit_ty (by decide +kernel), rfl⟩
  · exact ⟨_, true, true, .base (.bl _), kit_ty (by decide +kernel), kit_ty (by decide +kernel), rfl⟩
  · exact ⟨_, false, false, .base (.lst h), kit_ty (by decide +kernel), kit_ty (by decide +kernel), rfl⟩
theorem OddN.notNum {K : PySem.W.Frag} {mg : Str → Option Value} {CR : Addr} {H : Hp} {v : V} (T : RT K mg CR) (kL : PySem.W.kitOne K (.type "list") (.ref CR) = some false) (h : OddN H v) : NotNum K CR H v := by
  rcases h with rfl | rfl | rfl | rfl | ⟨l, rfl, h⟩
  · exact ⟨_, false, false, .base .non, T.kN, kit_ty (by decide +kernel), kit_ty (by decide +kernel), rfl⟩
  · exact ⟨_, false, false, .base (.str _), T.kS, kit_ty (by decide +kernel), kit_ty (by decide +kernel), rfl⟩
  · exact ⟨_, false, false, .base (.str _), T.kS, kit_ty (by decide +kernel), kit_ty (by decide +kernel), rfl⟩
  · exact ⟨_, true, true, .base (.bl _), T.kB, kit_ty (by decide +kernel), kit_ty (by decide +kernel), rfl⟩
  · exact ⟨_, false, false, .base (.lst h), kL, kit_ty (by decide +kernel), kit_ty (by decide +kernel), rfl⟩
theorem OddN.adm {K : PySem.W.Frag} {H : Hp} {v : V} (h : OddN H v) : Adm K H v := by
  rcases h with rfl | rfl | rfl | rfl | ⟨l, rfl, h⟩
  · exact .non
  · exact .str (by decide +kernel)
  · exact .str (by decide +kernel)
  · exact .yes
  · exact .lst h
def tl0 (K : PySem.W.Frag) (CR CC CI : Addr) (E : XK) : TE := tMake CC (spCInit2 K CR CC CI) [] E (tCons (tLst (tCons (tC (.int 1)) (tCons (tVar 22) (tCons (tC .non) tNil)))) tNil)
def tl1 (K : PySem.W.Frag) (CR CC CI : Addr) (E : XK) : TE := tMeth CC "slope_curve" (spCSlo K CR CC CI) [] E (tVar 7) (tCons (tVar 23) tNil)
structure LamH (X : Cx) (CR CC CI fi fs : Addr) (fdi fds : FuncData) : Prop where
  N : X.N = nLaw
  sc : X.env.scope = defScope sLaw
  gC : X.mg "Curve" = some (.ref CC)
  cC : Cls X.K CC
  M : Mk X.K CC fi
  G : FnOk X.prog X.w X.K X.mg X.base (L2.CX X.prog X.w) 7 fi fdi ["self", "worths"] (spCInit2 X.K CR CC CI)
  b : Binds X.K fdi ["self", "worths"] []
  MS : Meth X.K CC "slope_curve" fs
  GS : FnOk X.prog X.w X.K X.mg X.base (L2.CX X.prog X.w) 7 fs fds ["self", "times"] (spCSlo X.K CR CC CI)
  bS : Binds X.K fds ["self", "times"] []
def d0 (K : PySem.W.Frag) (CR CC CI : Addr) : LamD := ⟨lamPa 0, lamBo 0, lamSc 0, tl0 K CR CC CI⟩
def d1 (K : PySem.W.Frag) (CR CC CI : Addr) : LamE := ⟨lamPa 1, lamBo 1, lamSc 1, tl1 K CR CC CI, "_law_a", .int 0⟩
theorem sc1 : lamSEB nLaw (defScope sLaw) (lamSc 1) "_law_a" = true := by decide +kernel
section
variable {X : Cx} {CR CC CI fi fs : Addr} {fdi fds : FuncData}
theorem lo0 (h : LamH X CR CC CI fi fs fdi fds) : LamOk X 8 (d0 X.K CR CC CI) := by
  obtain ⟨hN, hsc, gC, cC, M, G, b, MS, GS, bS⟩ := h
  refine ⟨LamX.lamS_by (by rw [hsc]; rfl), fun _ _ _ _ _ => rfl, fun A outer s H E f c hr => ?_⟩
  show PE (LamX.lamCx X A outer s H E (lamSc 0) f c) (lamBo 0) (tMake CC (spCInit2 X.K CR CC CI) [] E (tCons (tLst (tCons (tC (.int 1)) (tCons (tVar 22) (tCons (tC .non) tNil)))) tNil))
  exact pe_make (E := E) M G hr (by rfl) gC b .nil (passes_call (takes_of rfl rfl rfl rfl) fun _ _ _ _ z => z) (pa_cons (pe_lst (pa_cons pe_int (pa_cons (pv 22 (by show X.N[22]? = _; rw [hN]; rfl)) (pa_cons pe_non pa_nil)))) pa_nil)
theorem lo1 (h : LamH X CR CC CI fi fs fdi fds) : LamOkE X 8 (d1 X.K CR CC CI) := by
  obtain ⟨hN, hsc, gC, cC, M, G, b, MS, GS, bS⟩ := h
  refine ⟨lamSE_by (by rw [hsc, hN]; exact sc1), fun _ _ _ _ _ _ _ => ⟨_, rfl, rfl⟩, fun A outer s H E f c hr => ?_⟩
  show PE (LamX.lamCx X A outer s H E (lamSc 1) f c) (lamBo 1) (tMeth CC "slope_curve" (spCSlo X.K CR CC CI) [] E (tVar 7) (tCons (tVar 23) tNil))
  exact pe_meth (E := E) (pv 7 (by show X.N[7]? = _; rw [hN]; rfl)) cC MS GS (hr.mono (by decide)) bS .nil (passes_call (takes_of rfl rfl rfl rfl) fun _ _ _ _ z => z) (pa_cons (pv 23 (by show X.N[23]? = _; rw [hN]; rfl)) pa_nil)
end
end K36

set_option Elab.async false
set_option linter.all false
set_option maxRecDepth 100000
set_option maxHeartbeats 1000000
set_option pp.maxSteps 500
namespace K36
open PySem PySem.Spec PyProof.Rows L2 Ux
/-! ### the values -/
section
variable {P : List PQ} {x b : PQ}
theorem v_slope (t : Nat) (h : Oks 3 P) (l : P.length ≤ 14) (hx : Ok 3 x) : hor x (st (slps t (st P))) = hor x (slps t P) := by
  have hS := h.strip
  have lS : (st P).length ≤ 14 := Nat.le_trans (st_len P) l
  rw [hor_st hx (hS.slps t (by omega))]
  exact (hor_Z hx (slps_Z t h.Z)).symm
theorem inte_ok (h : Oks 3 P) (l : P.length ≤ 14) (hb : Ok 3 b) : Oks 1000 (inte b P) := fun p hp => by
  rcases List.mem_cons.mp hp with rfl | hp
  · have k := (hor_ok hb (h.itg l)).ng
    refine k.le ?_
    have e : (itg P).length ≤ 15 := by show (dvs P).length + 1 ≤ 15; rw [dvs_len]; omega
    have := Nat.mul_le_mul_right (3 + 4 + 3 + 1) e
    omega
  · exact (h.dvs l p hp).le (by decide)
theorem hor_itg (hx : Ok 3 x) (h : Oks 3 P) (l : P.length ≤ 14) : hor x (itg P) = cr (hor x (dvs P)) x := pl_zero ((hor_ok hx (h.dvs l)).cr hx)
theorem v_int (h : Oks 3 P) (l : P.length ≤ 14) (hx : Ok 3 x) (hb : Ok 3 b) : hor x (st (inte b (st P))) = pl (hor x (itg P)) (cr (-1, 1) (hor b (itg P))) := by
  have hS := h.strip
  have lS : (st P).length ≤ 14 := Nat.le_trans (st_len P) l
  rw [hor_st hx (inte_ok hS lS hb)]
  show pl (cr (hor x (dvs (st P))) x) (ng (hor b (itg (st P)))) = _
  rw [← hor_Z hx (dvs_Z h.Z), ← hor_Z hb (itg_Z h.Z), hor_itg hx h l, cr_ng (hor_ok hb (h.itg l))]
theorem v_int0 (h : Oks 3 P) (l : P.length ≤ 14) (hb : Ok 3 b) : hor b (st (inte b (st P))) = zz := by
  rw [v_int h l hb hb, cr_ng (hor_ok hb (h.itg l))]
  exact pl_ng (hor_ok hb (h.itg l))
theorem st_le1 {ps : List PQ} (h : ps.length ≤ 1) : slp ps = [] := by
  have e := slp_len ps
  cases q : slp ps with
  | nil => rfl
  | cons a r =>
    rw [q, List.length_cons] at e
    omega
/-- the slope of an integral -/
theorem v_back (h : Oks 3 P) (b : PQ) : st (slps 1 (st (inte b (st P)))) = st P := by
  show st (slp (st (inte b (st P)))) = st P
  by_cases e : st P = []
  · rw [e]
    have l1 : (st (inte b [])).length ≤ 1 := st_len _
    rw [st_le1 l1]
    rfl
  · have hS := h.strip
    have e2 : st P = st (st P) := (st_idem P).symm
    show st (slp (st (ng (hor b (itg (st P))) :: dvs (st P)))) = st P
    rw [st_int hS e2 e, slp_int hS, st_idem]
end
theorem zs_zero (z : Nat) : ∀ p ∈ List.replicate z zz, p.1 = 0 := fun p hp => by rw [(List.mem_replicate.mp hp).2]; rfl
theorem oks_app {n z : Nat} {P : List PQ} (h : Oks n P) (hn : 1 ≤ n) : Oks n (P ++ List.replicate z zz) := fun p hp => by
  rcases List.mem_append.mp hp with hp | hp
  · exact h p hp
  · rw [(List.mem_replicate.mp hp).2]
    exact ok_zz.le hn
/-! ### the heap of the law -/
theorem bag_ne {H : Hp} {b L : Addr} {n : Nat} {rs : List Addr} (B : BagAt H b n) (h : H L = some (.lst (rs.map V.ref))) : L ≠ b := fun z => by
  obtain ⟨l, ns, p, g, s', c, hb, _⟩ := B
  rw [z, hb] at h
  have e := HO.lst.inj (Option.some.inj h)
  have e2 : (BagL l p g s' c)[1]? = (rs.map V.ref)[1]? := by rw [e]
  rw [List.getElem?_map] at e2
  cases q : rs[1]? with
  | none => rw [q] at e2; cases e2
  | some r => rw [q] at e2; cases e2
theorem But.ls {R : Hp → Addr → PQ → Prop} [Mn R] {H H' : Hp} {b : Addr} {n : Nat} {rs : List Addr} {ps : List PQ} (h : LsAt R H rs ps) (B : BagAt H b n) (f : But b H H') : LsAt R H' rs ps := by
  obtain ⟨xs, hb⟩ := B.lst
  exact h.but hb f
theorem CurAt.but {CC CR : Addr} {H H' : Hp} {b c : Addr} {n : Nat} {rs : List Addr} {ps : List PQ} (h : CurAt CC CR H c rs ps) (B : BagAt H b n) (f : But b H H') : CurAt CC CR H' c rs ps := by
  obtain ⟨⟨dx, L, h1, h2⟩, h3⟩ := h
  obtain ⟨xs, hb⟩ := B.lst
  exact ⟨⟨dx, L, f _ _ h1 fun z => (by rw [z, hb] at h1; cases h1), f _ _ h2 (bag_ne B h2)⟩, But.ls h3 B f⟩
theorem NsAt.but {CR : Addr} {H H' : Hp} {b : Addr} {n : Nat} {xs : List V} {ps : List PQ} (h : NsAt CR H xs ps) (B : BagAt H b n) (f : But b H H') : NsAt CR H' xs ps :=
  ⟨h.len, fun i x p a e => by
    rcases h.at_ i x p a e with ⟨r, e1, dx, hr⟩ | q
    · refine .inl ⟨r, e1, dx, f _ _ hr fun z => ?_⟩
      obtain ⟨xs, hb⟩ := B.lst
      rw [z, hb] at hr
      cases hr
    · exact .inr q⟩
theorem Tabs.but {T : List (Addr × Str)} {H H' : Hp} {b : Addr} {xs : List V} (t : LamX.Tabs T H) (hb : H b = some (.lst xs)) (s : But b H H') : LamX.Tabs T H' := fun p hp => by
  obtain ⟨ps, h1, h2, h3⟩ := t p hp
  refine ⟨ps, s _ _ h1 fun e => ?_, h2, fun pos cv hc => ?_⟩
  · rw [e, hb] at h1
    cases h1
  · obtain ⟨c, e1, e2⟩ := h3 pos cv hc
    refine ⟨c, e1, s _ _ e2 fun e => ?_⟩
    rw [e, hb] at e2
    cases e2
theorem Tabs.same {T : List (Addr × Str)} {H H' : Hp} (t : LamX.Tabs T H) (s : Same H H') : LamX.Tabs T H' := LamX.Tabs.ext t s
/-- what stands from the curve's making on -/
structure Fx (CR CC PT : Addr) (H : Hp) (b : Addr) (n : Nat) (lp : Addr) (rp : List Addr) (P : List PQ) (lk : Addr) (xs : List V) (PA : List PQ) (c : Addr) (rs : List Addr) (S : List PQ) : Prop where
  B : BagAt H b n
  T : LamX.Tabs [(PT, qn)] H
  hp : H lp = some (.lst (rp.map V.ref))
  rp : TupsAt H rp P
  hk : H lk = some (.lst xs)
  nk : lk ≠ b
  na : NsAt CR H xs PA
  cu : CurAt CC CR H c rs S
section
variable {CR CC PT b lp lk c : Addr} {H H' : Hp} {n m : Nat} {rp rs : List Addr} {P PA S : List PQ} {xs : List V}
theorem Fx.same (F : Fx CR CC PT H b n lp rp P lk xs PA c rs S) (s : Same H H') : Fx CR CC PT H' b n lp rp P lk xs PA c rs S :=
  ⟨F.B.same s, Tabs.same F.T s, s _ _ F.hp, F.rp.same s, s _ _ F.hk, F.nk, F.na.same s, F.cu.same s⟩
theorem Fx.but (F : Fx CR CC PT H b n lp rp P lk xs PA c rs S) (B : BagAt H' b m) (f : But b H H') : Fx CR CC PT H' b m lp rp P lk xs PA c rs S := by
  obtain ⟨ys, hb⟩ := F.B.lst
  exact ⟨B, Tabs.but F.T hb f, f _ _ F.hp (bag_ne F.B F.hp), But.ls F.rp F.B f, f _ _ F.hk F.nk, F.nk, F.na.but F.B f, F.cu.but F.B f⟩
end
/-- the law's numbers -/
structure Nu (P : List PQ) (z : Nat) (PA S : List PQ) : Prop where
  ok : Oks 3 P
  len : P.length ≤ 7
  pa : PA = P ++ List.replicate z zz
  z2 : z ≤ 2
  s : S = st P
theorem Nu.lenS {P PA S : List PQ} {z : Nat} (N : Nu P z PA S) : S.length ≤ 7 := by rw [N.s]; exact Nat.le_trans (st_len P) N.len
theorem Nu.okS {P PA S : List PQ} {z : Nat} (N : Nu P z PA S) : Oks 3 S := by rw [N.s]; exact N.ok.strip
theorem Nu.stPA {P PA S : List PQ} {z : Nat} (N : Nu P z PA S) : st PA = S := by rw [N.pa, N.s]; exact st_app (zs_zero z)
theorem Nu.lenPA {P PA S : List PQ} {z : Nat} (N : Nu P z PA S) : PA.length ≤ 9 := by
  have := N.len
  have := N.z2
  rw [N.pa, List.length_append, List.length_replicate]
  omega
def g11 {α : Type} (us ws : List α) : List α := match us, ws with
  | [a], [b] => [a, b]
  | _, _ => []
theorem kb11 {K : PySem.W.Frag} {fd : FuncData} {x y : Str} (h : ∀ (s : Shared) (a b : Value), BindsTo s fd ⟨[a], [y].zip [b]⟩ ([x, y].zip [a, b])) : KBinds K fd [x, y] [y] g11 g11 := by
  refine ⟨fun s us ws _ hl => ?_, fun {vs us zs ws} r1 r2 => ?_⟩
  · match us, ws, hl with
    | [a], [b], _ => exact h s a b
  · cases r1 with
    | nil => exact .nil
    | cons e1 r1 =>
      cases r1 with
      | cons _ _ => cases r2 <;> exact .nil
      | nil =>
        cases r2 with
        | nil => exact .nil
        | cons e2 r2 =>
          cases r2 with
          | cons _ _ => exact .nil
          | nil => exact .cons e1 (.cons e2 .nil)

theorem kb_of {K : PySem.W.Frag} {fd : FuncData} {x y : Str} (h : KBn K fd [x, y] 1 [y] (fun us ws => us ++ ws) (fun vs zs => vs ++ zs)) : KBinds K fd [x, y] [y] g11 g11 := by
  refine ⟨fun s us ws X hl => ?_, fun {vs us zs ws} r1 r2 => ?_⟩
  · match us, ws, hl with
    | [a], [b], _ => exact h.to s [a] [b] X rfl rfl
  · cases r1 with
    | nil => exact .nil
    | cons e1 r1 =>
      cases r1 with
      | cons _ _ => cases r2 <;> exact .nil
      | nil =>
        cases r2 with
        | nil => exact .nil
        | cons e2 r2 =>
          cases r2 with
          | nil => exact .cons e1 (.cons e2 .nil)
          | cons _ _ => exact .nil
/-- the error InvalidNumber, told -/
structure INk (K : PySem.W.Frag) (C1 C2 CI : Addr) : Prop where
  ex : PySem.W.exmAny K (.ref CI) [.ref C1, .ref C2] = some true
  xf : XfC K CI
  no : ∀ f ∈ fieldNames, PySem.W.findIn K (.ref CI) f = some none
theorem told_in {K : PySem.W.Frag} {C1 C2 CI : Addr} (T : INk K C1 C2 CI) {H H' : Hp} {Q : VK} {v : V} {d : Addr} (s : Same H H') (hd : H' d = some (.xd (inFs v))) (k : ∀ (t : Addr) (H' : Hp), H' t = some (.tup [.str "InvalidNumber", v]) → Same H H' → Q (.ref t) H') : Told K C1 C2 Q (.ref CI) (some d) H' := by
  refine ⟨CI, d, inFs v, "InvalidNumber", rfl, rfl, hd, T.ex, T.xf, T.no, rfl, ?_⟩
  have e1 : inV (.str "InvalidNumber") [.str "InvalidName", .str "InvalidNumber"] = true := by decide +kernel
  unfold fieldF
  rw [e1, if_pos rfl]
  exact ⟨v, rfl, fun t H2 ht s2 => k t H2 ht (s.trans s2)⟩
/-- the bag with its list told -/
def BagF (l : Addr) (H : Hp) (b : Addr) (n : Nat) : Prop := ∃ (ns : List Int) (p : Nat) (g s c : Int), H b = some (.lst (BagL l p g s c)) ∧ H l = some (.lst (ns.map V.int)) ∧ b ≠ l ∧ 0 ≤ g ∧ 0 ≤ s ∧ s < 2147483549 ∧ 0 ≤ c ∧ c ≤ n
theorem BagF.at_ {l : Addr} {H : Hp} {b : Addr} {n : Nat} (h : BagF l H b n) : BagAt H b n := by
  obtain ⟨ns, p, g, s, c, z⟩ := h
  exact ⟨l, ns, p, g, s, c, z⟩
theorem BagAt.fix {H : Hp} {b : Addr} {n : Nat} (h : BagAt H b n) : ∃ l, BagF l H b n := by
  obtain ⟨l, ns, p, g, s, c, z⟩ := h
  exact ⟨l, ns, p, g, s, c, z⟩
theorem BagF.same {l : Addr} {H H' : Hp} {b : Addr} {n : Nat} (h : BagF l H b n) (k : Same H H') : BagF l H' b n := by
  obtain ⟨ns, p, g, s, c, h1, h2, z⟩ := h
  exact ⟨ns, p, g, s, c, k _ _ h1, k _ _ h2, z⟩
theorem BagF.bt {l : Addr} {H H' : Hp} {b : Addr} {n m : Nat} (h : BagF l H b n) (B : BagAt H' b m) (f : Bt b H H') : BagF l H' b m := by
  obtain ⟨ns, p, g, s, c, h1, _⟩ := h
  obtain ⟨r', e⟩ := f.2 l _ h1
  obtain ⟨l', ns', p', g', s', c', k1, k2, k3⟩ := B
  have ee := HO.lst.inj (Option.some.inj (k1.symm.trans e))
  cases (List.cons.inj ee).1
  exact ⟨ns', p', g', s', c', k1, k2, k3⟩
theorem BagF.upd {l : Addr} {H : Hp} {b D : Addr} {n : Nat} {o : HO} (h : BagF l H b n) (n1 : b ≠ D) (n2 : l ≠ D) : BagF l (upd H D o) b n := by
  obtain ⟨ns, p, g, s, c, h1, h2, z⟩ := h
  exact ⟨ns, p, g, s, c, (upd_ne n1).trans h1, (upd_ne n2).trans h2, z⟩
theorem BagF.new {l : Addr} {H : Hp} {b D : Addr} {n : Nat} (h : BagF l H b n) (hD : H D = none) : b ≠ D ∧ l ≠ D := by
  obtain ⟨ns, p, g, s, c, h1, h2, z⟩ := h
  exact ⟨ne_of_none h1 hD, ne_of_none h2 hD⟩
/-- the list of numbers handed in, half made at D -/
structure Hh (CR PT l b D lp : Addr) (rp : List Addr) (P : List PQ) (us : List V) (i n : Nat) (H : Hp) : Prop where
  hD : H D = some (.lst us)
  na : NsAt CR H us (P.take i)
  hp : H lp = some (.lst (rp.map V.ref))
  rp : TupsAt H rp P
  bag : BagF l H b n
  tab : LamX.Tabs [(PT, qn)] H
theorem NsAt.cons1 {CR : Addr} {H : Hp} {us : List V} {ps : List PQ} {y : V} {q : PQ} (h : NsAt CR H us ps) (k : NumV CR H y q.1 q.2) : NsAt CR H (us ++ [y]) (ps ++ [q]) :=
  ⟨by rw [List.length_append, List.length_append, h.len]; rfl, fun i x p a e => by
    by_cases c : i < us.length
    · rw [List.getElem?_append_left c] at a
      rw [List.getElem?_append_left (by rw [← h.len]; exact c)] at e
      exact h.at_ i x p a e
    · rw [List.getElem?_append_right (by omega)] at a
      rw [List.getElem?_append_right (by rw [← h.len]; omega), ← h.len] at e
      cases z : i - us.length with
      | zero =>
        rw [z] at a e
        cases Option.some.inj a
        cases Option.some.inj e
        exact k
      | succ j =>
        rw [z] at a
        cases a⟩
theorem NsAt.atD {CR : Addr} {H H' : Hp} {D : Addr} {ys xs : List V} {ps : List PQ} (h : NsAt CR H xs ps) (hD : H D = some (.lst ys)) (f : ∀ b o, H b = some o → b ≠ D → H' b = some o) : NsAt CR H' xs ps :=
  ⟨h.len, fun i x p a e => by
    rcases h.at_ i x p a e with ⟨r, e1, dx, hr⟩ | q
    · refine .inl ⟨r, e1, dx, f _ _ hr fun z => ?_⟩
      rw [z, hD] at hr
      cases hr
    · exact .inr q⟩
section
variable {CR PT l b D lp : Addr} {rp : List Addr} {P : List PQ} {us : List V} {i n m : Nat} {H H' : Hp}
theorem Hh.same (h : Hh CR PT l b D lp rp P us i n H) (s : Same H H') : Hh CR PT l b D lp rp P us i n H' := ⟨s _ _ h.hD, h.na.same s, s _ _ h.hp, h.rp.same s, h.bag.same s, Tabs.same h.tab s⟩
theorem Hh.bt (h : Hh CR PT l b D lp rp P us i n H) (nD : b ≠ D) (B : BagAt H' b m) (f : Bt b H H') : Hh CR PT l b D lp rp P us i m H' := by
  obtain ⟨ys, hb⟩ := h.bag.at_.lst
  exact ⟨f.1 _ _ h.hD (Ne.symm nD), h.na.but h.bag.at_ f.1, f.1 _ _ h.hp (bag_ne h.bag.at_ h.hp), But.ls h.rp h.bag.at_ f.1, h.bag.bt B f, Tabs.but h.tab hb f.1⟩
theorem Hh.snoc {y : V} {q : PQ} (h : Hh CR PT l b D lp rp P us i n H) (k : NumV CR H y q.1 q.2) (e : P[i]? = some q) (n1 : b ≠ D) (n2 : l ≠ D) (n3 : lp ≠ D) : Hh CR PT l b D lp rp P (us ++ [y]) (i + 1) n (upd H D (.lst (us ++ [y]))) := by
  have mv : ∀ b o, H b = some o → b ≠ D → upd H D (.lst (us ++ [y])) b = some o := fun b o e n => (upd_ne n).trans e
  refine ⟨upd_same, ?_, mv _ _ h.hp n3, h.rp.but h.hD mv, h.bag.upd n1 n2, Tabs.but h.tab h.hD mv⟩
  rw [List.take_add_one, e]
  exact (h.na.cons1 k).atD h.hD mv
end
theorem NsAt.zeros {CR : Addr} {H : Hp} {us : List V} {ps : List PQ} (h : NsAt CR H us ps) : ∀ z : Nat, NsAt CR H (us ++ List.replicate z (V.int 0)) (ps ++ List.replicate z zz)
  | 0 => by rw [List.replicate_zero, List.replicate_zero, List.append_nil, List.append_nil]; exact h
  | z + 1 => by
    rw [List.replicate_succ', List.replicate_succ', ← List.append_assoc, ← List.append_assoc]
    exact (NsAt.zeros h z).cons1 (.inr ⟨rfl, rfl⟩)
theorem flat_one (z : Nat) (v : V) : (List.replicate z [v]).flatten = List.replicate z v := by
  induction z with
  | zero => rfl
  | succ z ih => rw [List.replicate_succ, List.flatten_cons, ih, List.replicate_succ]; rfl
theorem BagF.le {l : Addr} {H : Hp} {b : Addr} {n m : Nat} (h : BagF l H b n) (k : n ≤ m) : BagF l H b m := by
  obtain ⟨ns, p, g, s', c', k1, k2, k3, k4, k5, k6, k7, k8⟩ := h
  exact ⟨ns, p, g, s', c', k1, k2, k3, k4, k5, k6, k7, by omega⟩
/-- d.get((), (0, 1)) -/
theorem dget_r {H1 : Hp} {e : Addr} {o : Option PQ} (d : DAt H1 e o) : IsD H1 e ∧ ∀ k0 p0 : Addr, H1 k0 = none → (upd H1 k0 (.tup [])) p0 = none → ∃ (ov : Option V) (r : Addr), DGet (upd (upd H1 k0 (.tup [])) p0 (.tup [V.int 0, .int 1])) e (.ref k0) ov ∧ ov.getD (.ref p0) = .ref r ∧
    TupI (upd (upd H1 k0 (.tup [])) p0 (.tup [V.int 0, .int 1])) r (o.getD zz).1 (o.getD zz).2 ∧ Same H1 (upd (upd H1 k0 (.tup [])) p0 (.tup [V.int 0, .int 1])) := by
  obtain ⟨kvs, ek, hk⟩ : ∃ kvs, H1 e = some (.dT kvs) ∧ ((o = none ∧ kvs = []) ∨ ∃ p t, o = some p ∧ kvs = [([], .ref t)] ∧ TupI H1 t p.1 p.2) := by
    cases o with
    | none => exact ⟨_, d, .inl ⟨rfl, rfl⟩⟩
    | some p =>
      obtain ⟨t, h1, h2⟩ := d
      exact ⟨_, h1, .inr ⟨p, t, rfl, rfl, h2⟩⟩
  refine ⟨.inr ⟨kvs, .inl ek⟩, fun k0 p0 hk0 hp0 => ?_⟩
  have s0 := same_upd (o := .tup []) hk0
  have s1 := same_upd (o := .tup [V.int 0, .int 1]) hp0
  obtain ⟨r, er, hr2⟩ := dget_one (hk_same hk (s0.trans s1)) upd_same
  exact ⟨_, r, DGet.t (k := []) (s1 _ _ (s0 _ _ ek)) (s1 _ _ upd_same), er, hr2, s0.trans s1⟩
/-- {(): e} -/
theorem disp_r {H : Hp} {q : PQ} {t p3 p4 : Addr} (ht : TupI H t q.1 q.2) (hp3 : H p3 = none) (hp4 : (upd H p3 (.dT [])) p4 = none) :
    upd (upd H p3 (.dT [])) p4 (.tup []) p3 = some (.dT []) ∧ DAt (upd (upd (upd H p3 (.dT [])) p4 (.tup [])) p3 (.dT [([], .ref t)])) p3 (some q) ∧ Same H (upd (upd (upd H p3 (.dT [])) p4 (.tup [])) p3 (.dT [([], .ref t)])) := by
  have s5 : Same H (upd (upd (upd H p3 (.dT [])) p4 (.tup [])) p3 (.dT [([], .ref t)])) := Same.put ((same_upd hp3).trans (same_upd hp4)) hp3
  exact ⟨same_upd hp4 _ _ upd_same, ⟨t, upd_same, s5 _ _ ht⟩, s5⟩
theorem inte_ok7 {P : List PQ} {b : PQ} (h : Oks 3 P) (l : P.length ≤ 7) (hb : Ok 3 b) : Oks 89 (inte b P) := fun p hp => by
  rcases List.mem_cons.mp hp with rfl | hp
  · have k := (hor_ok hb (h.itg (by omega))).ng
    refine k.le ?_
    have e : (itg P).length ≤ 8 := by show (dvs P).length + 1 ≤ 8; rw [dvs_len]; omega
    have := Nat.mul_le_mul_right (3 + 4 + 3 + 1) e
    omega
  · exact (h.dvs (by omega) p hp).le (by decide)
theorem inte_len {P : List PQ} {b : PQ} (l : P.length ≤ 7) : (st (inte b P)).length ≤ 8 := by
  refine Nat.le_trans (st_len _) ?_
  show (dvs P).length + 1 ≤ 8
  rw [dvs_len]
  omega
theorem bd_of {l n m : Nat} (h1 : l ≤ 8) (h2 : n ≤ 100) (h3 : m ≤ 10) : l * (n + m + 1) + 1 + m ≤ 1990 := by
  have := Nat.mul_le_mul h1 (show n + m + 1 ≤ 111 by omega)
  omega
theorem oks_slps {S : List PQ} {t : Nat} (h : Oks 3 S) (l : S.length ≤ 7) (ht : t < 10) : Oks 40 (st (slps t S)) ∧ (st (slps t S)).length ≤ 8 := by
  refine ⟨((h.slps t (by omega)).le (by omega)).strip, ?_⟩
  have h1 := st_len (slps t S)
  have h2 := slps_le t S
  omega
theorem CurAt.extN {CC CR : Addr} {H H' : Hp} {c : Addr} {rs : List Addr} {ps : List PQ} (h : CurAt CC CR H c rs ps) (e : LamX.ExtN H H') : CurAt CC CR H' c rs ps := by
  obtain ⟨⟨dx, L, h1, h2⟩, h3⟩ := h
  exact ⟨⟨dx, L, e _ _ h1 (fun ps z => by cases z), e _ _ h2 (fun ps z => by cases z)⟩, h3.len, fun i r p a b => by
    obtain ⟨d, hr⟩ := h3.at_ i r p a b
    exact ⟨d, e _ _ hr (fun ps z => by cases z)⟩⟩
/-- what is handed to slope_curve -/
def Late (H : Hp) (u : V) : Prop := OddN H u ∨ u = .int (-1)
theorem Late.kept {H H' : Hp} {v : V} (h : Late H v) (s : ∀ b o, H b = some o → (∀ ps, o ≠ .tbl ps) → H' b = some o) : Late H' v := h.imp (fun z => z.kept s) id
theorem Late.same {H H' : Hp} {v : V} (h : Late H v) (s : Same H H') : Late H' v := h.kept fun b o e _ => s b o e
theorem Late.adm {K : PySem.W.Frag} {H : Hp} {v : V} (h : Late H v) : Adm K H v := by
  rcases h with h | rfl
  · exact h.adm
  · exact .int (by decide)
theorem Late.like {H : Hp} {v : V} (h : Late H v) : Like H 2 v v := by
  rcases h with (rfl | rfl | rfl | rfl | ⟨l, rfl, h⟩) | rfl
  · exact .inl ⟨rfl, .inl rfl⟩
  · exact .inl ⟨rfl, .inr (.inr (.inr ⟨_, rfl⟩))⟩
  · exact .inl ⟨rfl, .inr (.inr (.inr ⟨_, rfl⟩))⟩
  · exact .inl ⟨rfl, .inr (.inl ⟨_, rfl⟩)⟩
  · refine .inr ⟨l, l, _, _, rfl, rfl, .inr ⟨h, h⟩, rfl, (by show 1 ≤ 1000; decide), fun k x y hx hy => ?_⟩
    have xy : x = y := Option.some.inj (hx.symm.trans hy)
    subst xy
    rcases k with _ | k
    · cases Option.some.inj hx
      exact .inl ⟨rfl, .inr (.inr (.inl ⟨_, rfl⟩))⟩
    · cases hx
  · exact .inl ⟨rfl, .inr (.inr (.inl ⟨_, rfl⟩))⟩
theorem like_pair {H : Hp} {t1 t2 : Addr} {v : V} {x : Str} (h1 : H t1 = some (.tup [.str x, v])) (h2 : H t2 = some (.tup [.str x, v])) (l : Like H 2 v v) : Like H 3 (.ref t1) (.ref t2) := by
  refine .inr ⟨t1, t2, _, _, rfl, rfl, .inl ⟨h1, h2⟩, rfl, (by show 2 ≤ 1000; decide), fun k x y hx hy => ?_⟩
  rcases k with _ | _ | k
  · cases Option.some.inj hx
    cases Option.some.inj hy
    exact .inl ⟨rfl, .inr (.inr (.inr ⟨_, rfl⟩))⟩
  · cases Option.some.inj hx
    cases Option.some.inj hy
    exact l
  · cases hx
end K36

set_option Elab.async false
set_option linter.all false
set_option maxRecDepth 100000
set_option maxHeartbeats 4000000
set_option pp.maxSteps 600
namespace K36
open PySem PySem.Spec PyProof.Rows L2 Ux
abbrev te2 (K : PySem.W.Frag) (CR : Addr) : TE := tIf (tOr (tTest (tOp (rI0 fun i j => .bl (decide (j < i))) (tOp (rIxT K) (tVar 5) (tI 1)) (tI 1))) (tTest (tOp rEq (tCall spPull [] E0 (tCons (tVar 1) (tCons (tI 2) tNil))) (tI 0)))) (tCall (spMkRatio CR) [] E0 (tCons (tVar 5) tNil)) (tOp (rIxT K) (tVar 5) (tI 0))
def spLaw (K : PySem.W.Frag) (PT : Addr) : Sp := fun vs H Q _ => ∃ (a : Addr) (ns : List Int), vs = [.ref a] ∧ SqL K H a (ns.map V.int) ∧ ns.length ≤ 63 ∧ H PT = some (.tbl #[]) ∧ ∀ H', Q (.bl true) H'
section
variable {P : Program} {w : World} {K : PySem.W.Frag} {mg : Str → Option Value} {base : Heap} {CR CC CI C1 C2 c PT : Addr}
theorem ok_law {f fBg fP fO fS fPl fCr fPr fRt fPt fFr fSt fCa fF gW fi fWo fDg pDg fSc fRc fSl fIn fCl fEc fEr : Addr} {fdBg fdP fdO fdS fdPl fdCr fdPr fdRt fdPt fdFr fdSt fdCa fdF fdi fdWo fdDg fdSc fdRc fdSl fdIn fdCl fdEc fdEr : FuncData} {d1' : List Value}
    {oc kV doc pm ct ocW kVW dcW pmW cdW ctW : Value} {od an odW anW : Option Addr} {osl slW : Array (Option Value)}
    (lk : K.lookup f = some ⟨oc, od, .func (PySem.W.fnOf "law" "law" (defArgs sLaw) (defBody sLaw) (defScope sLaw) .none kV doc pm an (.ref c) ct), osl⟩) (hcd : PySem.W.codeIn K (.ref c) "law" = true)
    (lkW : K.lookup gW = some ⟨ocW, odW, .func (PySem.W.fnOf "_law_why" "_law_why" (defArgs sWhy) (defBody sWhy) (defScope sWhy) .none kVW dcW pmW anW cdW ctW), slW⟩) (ccW : PySem.W.codeIn K cdW "_law_why" = true) (DW : Dn K mg "_law_why" gW)
    (bW : Binds K (PySem.W.fnOf "_law_why" "_law_why" (defArgs sWhy) (defBody sWhy) (defScope sWhy) .none kVW dcW pmW anW cdW ctW) ["_law_ask"] [])
    (TB : LamX.TabB base mg c PT) (m1 : mg "SlopeError" = some (.ref C1)) (m2 : mg "Missing" = some (.ref C2)) (DF : Dn K mg "_law_field" fF) (GF : FnQ P w K mg base 2 fF fdF ["_law_e"] (spFieldE K)) (bF : Binds K fdF ["_law_e"] [])
    (B : Bn mg) (T : RT K mg CR) (C : CT K mg CC) (TI : INk K C1 C2 CI) (kL : PySem.W.kitOne K (.type "list") (.ref CR) = some false) (nfS : PySem.W.notFirst K CC (.type "str") = true)
    (DBg : Dn K mg "_law_bag" fBg) (GBg : FnOk P w K mg base CX0 1 fBg fdBg ["_law_script"] (spBag K)) (bBg : Binds K fdBg ["_law_script"] [])
    (DP : Dn K mg "_law_pull" fP) (GP : FnOk P w K mg base CX0 1 fP fdP ["_law_bag_here", "_law_many"] spPull) (bP : Binds K fdP ["_law_bag_here", "_law_many"] [])
    (DO : Dn K mg "_law_of" fO) (GO : FnOk P w K mg base CX0 2 fO fdO ["_law_bag_here", "_law_things"] spOf) (bO : Binds K fdO ["_law_bag_here", "_law_things"] [])
    (DS : Dn K mg "_law_same" fS) (GS : FnOk P w K mg base CX0 4 fS fdS ["_law_found", "_law_due"] (spSame 4)) (bS : Binds K fdS ["_law_found", "_law_due"] [])
    (DPl : Dn K mg "_law_plus" fPl) (GPl : FnOk P w K mg base CX0 2 fPl fdPl ["_law_one", "_law_other"] (spTwo fAdd gMul)) (bPl : Binds K fdPl ["_law_one", "_law_other"] [])
    (DCr : Dn K mg "_law_cross" fCr) (GCr : FnOk P w K mg base CX0 2 fCr fdCr ["_law_one", "_law_other"] (spTwo fMul gMul)) (bCr : Binds K fdCr ["_law_one", "_law_other"] [])
    (DPr : Dn K mg "_law_pair" fPr) (GPr : FnOk P w K mg base CX0 1 fPr fdPr ["_law_found"] (spPair CR)) (bPr : Binds K fdPr ["_law_found"] [])
    (DRt : Dn K mg "_law_ratio" fRt) (GRt : FnOk P w K mg base CX0 4 fRt fdRt ["_law_pair_here"] (spMkRatio CR)) (bRt : Binds K fdRt ["_law_pair_here"] [])
    (DPt : Dn K mg "_law_pair_text" fPt) (GPt : FnOk P w K mg base CX0 1 fPt fdPt ["_law_pair_here"] spPairText) (bPt : Binds K fdPt ["_law_pair_here"] [])
    (DFr : Dn K mg "_law_fraction" fFr) (GFr : FnOk P w K mg base CX0 2 fFr fdFr ["_law_bag_here"] spFrac) (bFr : Binds K fdFr ["_law_bag_here"] [])
    (DSt : Dn K mg "_law_steep" fSt) (GSt : FnOk P w K mg base CX0 2 fSt fdSt ["_law_shape", "_law_order"] (spSteep K)) (bSt : Binds K fdSt ["_law_shape", "_law_order"] [])
    (DCa : Dn K mg "_law_curve_at" fCa) (GCa : FnOk P w K mg base CX0 4 fCa fdCa ["_law_shape", "_law_place"] (spCurAt K)) (bCa : Binds K fdCa ["_law_shape", "_law_place"] [])
    (MC : Mk K CC fi) (GIc : FnOk P w K mg base CX0 5 fi fdi ["self", "worths"] (spCInit K CR CC)) (bC : Binds K fdi ["self", "worths"] [])
    (MWo : Meth K CC "worths" fWo) (GWo : FnOk P w K mg base CX0 1 fWo fdWo ["self"] (spCWor CR CC)) (bWo : Binds K fdWo ["self"] [])
    (HDg : PropOf K CC "degree_of" pDg fDg) (GDg : FnOk P w K mg base CX0 1 fDg fdDg ["self"] (spCDeg CR CC)) (bDg : Binds K fdDg ["self"] [])
    (MSc : OwnM K CC "__str__" fSc) (GSc : FnOk P w K mg base CX0 6 fSc fdSc ["self"] (spCStr CR CC curS)) (bSc : Binds K fdSc ["self"] [])
    (MRc : OwnM K CC "__repr__" fRc) (GRc : FnOk P w K mg base CX0 8 fRc fdRc ["self"] (spCStr CR CC fun ps => "Curve(" ++ curS ps ++ ")")) (bRc : Binds K fdRc ["self"] [])
    (MSl : Meth K CC "slope_curve" fSl) (GSl : FnOk P w K mg base (L2.CX P w) 7 fSl fdSl ["self", "times"] (spCSlo K CR CC CI)) (bSl : Binds K fdSl ["self", "times"] []) (bSl0 : Binds K fdSl ["self", "times"] d1') (vSl0 : Vals [V.int 1] d1') (kSl : KBinds K fdSl ["self", "times"] ["times"] g11 g11)
    (MIn : Meth K CC "integral_curve" fIn) (GIn : FnOk P w K mg base CX0 7 fIn fdIn ["self", "begin"] (spCInt CR CC)) (bIn : Binds K fdIn ["self", "begin"] []) (kIn : KBinds K fdIn ["self", "begin"] ["begin"] g11 g11)
    (CO : StX.CallO K CC fCl) (GCl : FnOk P w K mg base CX0 6 fCl fdCl ["self", "place"] (spCCall CR CC)) (bCl : Binds K fdCl ["self", "place"] []) (kCl : KBinds K fdCl ["self", "place"] ["place"] g11 g11)
    (MEc : OwnM K CC "__eq__" fEc) (NEc : NeO K CC) (GEc : FnOk P w K mg base CX0 5 fEc fdEc ["self", "other"] (spCEq CR CC)) (bEc : Binds K fdEc ["self", "other"] [])
    (MEr : OwnM K CR "__eq__" fEr) (NEr : NeO K CR) (GEr : FnOk P w K mg base CX0 2 fEr fdEr ["self", "other"] (spREq CR)) (bEr : Binds K fdEr ["self", "other"] [])
    (GI2 : FnOk P w K mg base (L2.CX P w) 7 fi fdi ["self", "worths"] (spCInit2 K CR CC CI)) :
    FnOk P w K mg base CX0 11 f (PySem.W.fnOf "law" "law" (defArgs sLaw) (defBody sLaw) (defScope sLaw) .none kV doc pm an (.ref c) ct) ["_law_script"] (spLaw K PT) := by
  refine fn_of lk hcd scLaw (fun vs H Q E h => ?_) (fun A outer s H vs Q E hr h => ?_)
  · obtain ⟨a, ns, rfl, _⟩ := h
    rfl
  · obtain ⟨a, ns, rfl, hS, hlen, hP, q⟩ := h
    have r1 : Room 1 _ := hr.mono (by decide)
    have r2 : Room 2 _ := hr.mono (by decide)
    have r3 : Room 3 _ := hr.mono (by decide)
    have r4 : Room 4 _ := hr.mono (by decide)
    have r5 : Room 5 _ := hr.mono (by decide)
    have r6 : Room 6 _ := hr.mono (by decide)
    have r7 : Room 7 _ := hr.mono (by decide)
    have r8 : Room 8 _ := hr.mono (by decide)
    have r9 : Room 9 _ := hr.mono (by decide)
    have LH : LamH (cxOf CX0 P w K mg base nLaw "law" (defScope sLaw) f (.ref c) A outer s H E).nox CR CC CI fi fSl fdi fdSl := ⟨rfl, rfl, C.gl, C.cl, MC, GI2, bC, MSl, GSl, bSl⟩
    refine ⟨_, PSs.nox (pss_cons (ps_set (i := 1) scLaw.nd rfl (Or.inr rfl) (pe_call GBg r1 (by rfl) DBg.gl DBg.kp bBg .nil pass0 (pa_cons (pv 0) pa_nil)))
      (C8.pss_cut (ps_set (i := 2) scLaw.nd rfl (Or.inr rfl) (pe_lc (own := [("_law_k", 3)]) (g := gName 3) (te := tCall spFrac [] E0 (tCons (tVar 1) tNil)) rfl scLaw.nd (pi_range1 rfl B.frange (pa_cons (pe_call GP r1 (by rfl) DP.gl DP.kp bP .nil pass0 (pa_cons (pv 1) (pa_cons pe_int pa_nil))) pa_nil)) (blkOk_by (own := [("_law_k", 3)]) (N := nLaw) (sc := defScope sLaw) (by decide +kernel)) (fun _ _ _ _ _ => pg_name (i := 3) scLaw.nd rfl (Or.inl rfl) (hf := Or.inr rfl)) (fun _ _ _ _ _ => pts_nil) (fun _ _ _ _ _ => (pe_call GFr r2 (by rfl) DFr.gl DFr.kp bFr .nil pass0 (pa_cons (pv 1) pa_nil)))))
      (C8.pss_cut (ps_set (i := 4) scLaw.nd rfl (Or.inl rfl) (pe_op op_cat (pe_lc (own := [("_law_pair_here", 5)]) (g := gName 5) (te := (te2 K CR)) rfl scLaw.nd (pi_list (pv 2)) (blkOk_by (own := [("_law_pair_here", 5)]) (N := nLaw) (sc := defScope sLaw) (by decide +kernel)) (fun _ _ _ _ _ => pg_name (i := 5) scLaw.nd rfl (Or.inl rfl) (hf := Or.inr rfl)) (fun _ _ _ _ _ => pts_nil) (fun _ _ _ _ _ => (pe_ifExp (PW.pt (pw_or (pt_cmpR op_gt (pe_ix ix_tup (pv 5) pe_int (fun _ _ => rfl)) pe_int (nomark _)) (pw_or1 (pt_cmpR op_eq (pe_call GP r1 (by rfl) DP.gl DP.kp bP .nil pass0 (pa_cons (pv 1) (pa_cons pe_int pa_nil))) pe_int (nomark _))))) (pe_call GRt r4 (by rfl) DRt.gl DRt.kp bRt .nil pass0 (pa_cons (pv 5) pa_nil)) (pe_ix ix_tup (pv 5) pe_int (fun _ _ => rfl))))) (pe_op op_rep (pe_lst (pa_cons pe_int pa_nil)) (pe_call GP r1 (by rfl) DP.gl DP.kp bP .nil pass0 (pa_cons (pv 1) (pa_cons pe_int pa_nil))))))
      (C8.pss_cut (ps_set (i := 6) scLaw.nd rfl (Or.inl rfl) (pe_callTy call_list_of (by rfl) B.tlist (by decide +kernel) (pa_cons (pv 4) pa_nil)))
      (C8.pss_cut (ps_set (i := 7) scLaw.nd rfl (Or.inr rfl) (pe_make MC GIc r6 (by rfl) C.gl bC .nil pass0 (pa_cons (pv 4) pa_nil)))
      (C8.pss_cut (ps_expr (pe_bm PySem.F.plainAttrs_list PySem.F.slot_list_append PySem.F.type_list_append mt_append (pv 4) (pa_cons pe_int pa_nil)))
      (C8.pss_cut (ps_set (i := 8) scLaw.nd rfl (Or.inl rfl) (pe_callTy call_list_of (by rfl) B.tlist (by decide +kernel) (pa_cons (pv 2) pa_nil)))
      (C8.pss_cut (ps_while PassesOwn.never (PW.pt (pw_and (pt_cmpR (op_neD hr.units) (pv 8) (pe_lst pa_nil) (nomark _)) (pw_and1 (pt_cmpR op_eq (pe_ix ix_tup (pe_ix ix_list (pv 8) (pe_op op_sub (pe_callB call_len (by rfl) B.flen (by decide +kernel) (pa_cons (pv 8) pa_nil)) pe_int) (fun _ _ => rfl)) pe_int (fun _ _ => rfl)) pe_int (nomark _))))) (pss_one (ps_set (i := 8) scLaw.nd rfl (Or.inl rfl) (pe_slice sl_list (pv 8) po_none (po_some (pe_un un_neg pe_int))))))
      (C8.pss_cut (ps_set (i := 9) scLaw.nd rfl (Or.inl rfl) (pe_join pe_str (pe_lc (own := [("_law_pair_here", 5)]) (g := gName 5) (te := tCall spPairText [] E0 (tCons (tVar 5) tNil)) rfl scLaw.nd (pi_list (pv 8)) (blkOk_by (own := [("_law_pair_here", 5)]) (N := nLaw) (sc := defScope sLaw) (by decide +kernel)) (fun _ _ _ _ _ => pg_name (i := 5) scLaw.nd rfl (Or.inl rfl) (hf := Or.inr rfl)) (fun _ _ _ _ _ => pts_nil) (fun _ _ _ _ _ => (pe_call GPt r1 (by rfl) DPt.gl DPt.kp bPt .nil pass0 (pa_cons (pv 5) pa_nil))))))
      (C8.pss_cut (ps_for PassesOwn.never rfl (pi_range1 rfl B.frange (pa_cons pe_int pa_nil)) (pg_name (i := 10) scLaw.nd rfl (Or.inl rfl)) (C8.pss_cut (ps_set (i := 11) scLaw.nd rfl (Or.inl rfl) (pe_meth0 (E := E0) (pv 7) C.cl MWo GWo r1 bWo .nil pass0))
      (C8.pss_cut (ps_if (PW.pt (pw_or (pt_cmpR (op_neD hr.units) (pe_lc (own := [("_law_one", 12)]) (g := gName 12) (te := tCall (spPair CR) [] E0 (tCons (tVar 12) tNil)) rfl scLaw.nd (pi_list (pv 11)) (blkOk_by (own := [("_law_one", 12)]) (N := nLaw) (sc := defScope sLaw) (by decide +kernel)) (fun _ _ _ _ _ => pg_name (i := 12) scLaw.nd rfl (Or.inl rfl) (hf := Or.inr rfl)) (fun _ _ _ _ _ => pts_nil) (fun _ _ _ _ _ => (pe_call GPr r1 (by rfl) DPr.gl DPr.kp bPr .nil pass0 (pa_cons (pv 12) pa_nil)))) (pv 8) (nomark _)) (pw_or1 (pt_not (pt_val (pe_call GS r4 (by rfl) DS.gl DS.kp bS .nil pass0 (pa_cons (pe_lst (pa_cons (pe_prop (E := E0) (pv 7) C.cl HDg GDg r2 bDg .nil pass0 rfl) (pa_cons (pe_callTy (call_strO MSc GSc bSc r8) (by rfl) B.tstr (by decide +kernel) (pa_cons (pv 7) pa_nil)) (pa_cons (pe_callB (call_reprO MRc GRc bRc r9) (by rfl) B.frepr (by decide +kernel) (pa_cons (pv 7) pa_nil)) pa_nil)))) (pa_cons (pe_lst (pa_cons (pe_op op_sub (pe_callB call_len (by rfl) B.flen (by decide +kernel) (pa_cons (pv 8) pa_nil)) pe_int) (pa_cons (pv 9) (pa_cons (pe_op op_add_str (pe_op op_add_str pe_str (pv 9)) pe_str) pa_nil)))) pa_nil)))))))) (pss_one (ps_ret pe_bl)) pss_nil)
      (pss_one (ps_expr (pe_bm PySem.F.plainAttrs_list PySem.F.slot_list_append PySem.F.type_list_append mt_append (pv 11) (pa_cons pe_non pa_nil)))))))
      (C8.pss_cut (ps_par3 (i := 13) (j := 14) (l := 15) rfl scLaw.nd rfl rfl rfl (by decide) (by decide) (by decide) rfl rfl rfl (pa_cons (pe_call GFr r2 (by rfl) DFr.gl DFr.kp bFr .nil pass0 (pa_cons (pv 1) pa_nil)) (pa_cons (pe_call GFr r2 (by rfl) DFr.gl DFr.kp bFr .nil pass0 (pa_cons (pv 1) pa_nil)) (pa_cons (pe_call GP r1 (by rfl) DP.gl DP.kp bP .nil pass0 (pa_cons (pv 1) (pa_cons pe_int pa_nil))) pa_nil))) rfl)
      (C8.pss_cut (ps_asg (pe_tup (pa_cons (pe_disp1 hr.units0 (pe_tup pa_nil) (pv 13)) (pa_cons (pe_disp1 hr.units0 (pe_tup pa_nil) (pv 14)) pa_nil))) (pg_tup rfl (pgs_cons (pg_name (i := 16) scLaw.nd rfl (Or.inr rfl)) (pgs_cons (pg_name (i := 17) scLaw.nd rfl (Or.inl rfl)) pgs_nil))))
      (C8.pss_cut (ps_set (i := 18) scLaw.nd rfl (Or.inl rfl) (pe_call GSt r2 (by rfl) DSt.gl DSt.kp bSt .nil pass0 (pa_cons (pv 2) (pa_cons (pe_un un_neg pe_int) pa_nil))))
      (C8.pss_cut (ps_set (i := 19) scLaw.nd rfl (Or.inl rfl) (pe_call GPl r2 (by rfl) DPl.gl DPl.kp bPl .nil pass0 (pa_cons (pe_dget2 (ru1 hr) (pe_call GCa r4 (by rfl) DCa.gl DCa.kp bCa .nil pass0 (pa_cons (pv 18) (pa_cons (pv 16) pa_nil))) (pe_tup pa_nil) (pe_tup (pa_cons pe_int (pa_cons pe_int pa_nil))) ⟨rfl, rfl, rfl, rfl⟩) (pa_cons (pe_call GCr r2 (by rfl) DCr.gl DCr.kp bCr .nil pass0 (pa_cons (pe_tup (pa_cons (pe_un un_neg pe_int) (pa_cons pe_int pa_nil))) (pa_cons (pe_dget2 (ru1 hr) (pe_call GCa r4 (by rfl) DCa.gl DCa.kp bCa .nil pass0 (pa_cons (pv 18) (pa_cons (pv 17) pa_nil))) (pe_tup pa_nil) (pe_tup (pa_cons pe_int (pa_cons pe_int pa_nil))) ⟨rfl, rfl, rfl, rfl⟩) pa_nil))) pa_nil))))
      (C8.pss_cut (ps_set (i := 11) scLaw.nd rfl (Or.inl rfl) (pe_lst (pa_cons (StX.pe_callO (E := E0) (pv 7) CO (GCl.raw bCl .nil) r6 pass0 (pa_cons (pe_call GRt r4 (by rfl) DRt.gl DRt.kp bRt .nil pass0 (pa_cons (pv 13) pa_nil)) pa_nil)) (pa_cons (StX.pe_callO (E := E0) (pe_meth (E := E0) (pv 7) C.cl MSl GSl r7 bSl .nil passL (pa_cons (pv 15) pa_nil)) CO (GCl.raw bCl .nil) r6 pass0 (pa_cons (pe_call GRt r4 (by rfl) DRt.gl DRt.kp bRt .nil pass0 (pa_cons (pv 13) pa_nil)) pa_nil)) (pa_cons (pe_callOK (E := E0) (pe_meth0 (E := E0) (pv 7) C.cl MSl GSl r7 bSl0 vSl0 passL) CO GCl r6 kCl pass0 (pk_cons (pe_call GRt r4 (by rfl) DRt.gl DRt.kp bRt .nil pass0 (pa_cons (pv 13) pa_nil)) pk_nil)) (pa_cons (StX.pe_callO (E := E0) (pe_meth (E := E0) (pv 7) C.cl MIn GIn r7 bIn .nil pass0 (pa_cons (pe_call GRt r4 (by rfl) DRt.gl DRt.kp bRt .nil pass0 (pa_cons (pv 14) pa_nil)) pa_nil)) CO (GCl.raw bCl .nil) r6 pass0 (pa_cons (pe_call GRt r4 (by rfl) DRt.gl DRt.kp bRt .nil pass0 (pa_cons (pv 13) pa_nil)) pa_nil)) (pa_cons (StX.pe_callO (E := E0) (pe_methK0 (E := E0) (pv 7) C.cl MIn GIn r7 kIn pass0 (pk_cons (pe_call GRt r4 (by rfl) DRt.gl DRt.kp bRt .nil pass0 (pa_cons (pv 14) pa_nil)) pk_nil)) CO (GCl.raw bCl .nil) r6 pass0 (pa_cons (pe_call GRt r4 (by rfl) DRt.gl DRt.kp bRt .nil pass0 (pa_cons (pv 14) pa_nil)) pa_nil)) (pa_cons (StX.pe_callO (E := E0) (pv 7) CO (GCl.raw bCl .nil) r6 pass0 (pa_cons pe_int pa_nil)) pa_nil))))))))
      (C8.pss_cut (ps_setLc (i := 20) (own := [("_law_order", 21)]) (g := gName 21) (te := tDGet2 (tCall (spCurAt K) [] E0 (tCons (tCall (spSteep K) [] E0 (tCons (tVar 2) (tCons (tVar 21) tNil))) (tCons (tVar 16) tNil))) (tTup tNil) (tTup (tCons (tI 0) (tCons (tI 1) tNil)))) rfl scLaw.nd rfl rfl (sw_true rfl rfl rfl rfl) (pi_list (pe_lst (pa_cons pe_int (pa_cons (pv 15) (pa_cons pe_int pa_nil))))) (blkOk_by (own := [("_law_order", 21)]) (N := nLaw) (sc := defScope sLaw) (by decide +kernel)) (fun _ _ _ _ _ => pg_name (i := 21) scLaw.nd rfl (Or.inl rfl) (hf := Or.inr rfl)) (fun _ _ _ _ _ => pts_nil) (fun _ _ _ _ _ => (pe_dget2 (ru1 hr) (pe_call GCa r4 (by rfl) DCa.gl DCa.kp bCa .nil pass0 (pa_cons (pe_call GSt r2 (by rfl) DSt.gl DSt.kp bSt .nil pass0 (pa_cons (pv 2) (pa_cons (pv 21) pa_nil))) (pa_cons (pv 16) pa_nil))) (pe_tup pa_nil) (pe_tup (pa_cons pe_int (pa_cons pe_int pa_nil))) ⟨rfl, rfl, rfl, rfl⟩)))
      (C8.pss_cut (ps_if (pt_cmpR (op_neD hr.units) (pe_lc (own := [("_law_one", 12)]) (g := gName 12) (te := tCall (spPair CR) [] E0 (tCons (tVar 12) tNil)) rfl scLaw.nd (pi_list (pv 11)) (blkOk_by (own := [("_law_one", 12)]) (N := nLaw) (sc := defScope sLaw) (by decide +kernel)) (fun _ _ _ _ _ => pg_name (i := 12) scLaw.nd rfl (Or.inl rfl) (hf := Or.inr rfl)) (fun _ _ _ _ _ => pts_nil) (fun _ _ _ _ _ => (pe_call GPr r1 (by rfl) DPr.gl DPr.kp bPr .nil pass0 (pa_cons (pv 12) pa_nil)))) (pe_op op_cat (pv 20) (pe_lst (pa_cons (pv 19) (pa_cons (pe_tup (pa_cons pe_int (pa_cons pe_int pa_nil))) (pa_cons (pe_dget2 (ru1 hr) (pe_call GCa r4 (by rfl) DCa.gl DCa.kp bCa .nil pass0 (pa_cons (pv 2) (pa_cons (pe_disp1 hr.units0 (pe_tup pa_nil) (pe_tup (pa_cons pe_int (pa_cons pe_int pa_nil)))) pa_nil))) (pe_tup pa_nil) (pe_tup (pa_cons pe_int (pa_cons pe_int pa_nil))) ⟨rfl, rfl, rfl, rfl⟩) pa_nil))))) (nomark _)) (pss_one (ps_ret pe_bl)) pss_nil)
      (C8.pss_cut (ps_if (PW.pt (pw_or (pt_cmpR (op_neO MEc NEc GEc bEc r6) (pe_meth (E := E0) (pe_meth (E := E0) (pv 7) C.cl MIn GIn r7 bIn .nil pass0 (pa_cons pe_int pa_nil)) C.cl MSl GSl r7 bSl .nil passL (pa_cons pe_int pa_nil)) (pv 7) (nomark _)) (pw_or (pt_cmpR (op_neO MEc NEc GEc bEc r6) (pe_make MC GIc r6 (by rfl) C.gl bC .nil pass0 (pa_cons (pv 6) pa_nil)) (pv 7) (nomark _)) (pw_or (pt_cmpR (op_eqO MEc GEc bEc r5) (pv 7) (pv 9) (nomark _)) (pw_or1 (pt_cmpR (op_eqO MEc GEc bEc r5) (pe_make MC GIc r6 (by rfl) C.gl bC .nil pass0 (pa_cons (pe_op op_cat (pv 6) (pe_lst (pa_cons pe_int pa_nil))) pa_nil)) (pv 7) (nomark _))))))) (pss_one (ps_ret pe_bl)) pss_nil)
      (C8.pss_cut (ps_if (pt_cmpR (op_neO MEr NEr GEr bEr r3) (StX.pe_callO (E := E0) (pe_methK0 (E := E0) (pv 7) C.cl MSl GSl r7 kSl passL (pk_cons (pv 15) pk_nil)) CO (GCl.raw bCl .nil) r6 pass0 (pa_cons (pe_call GRt r4 (by rfl) DRt.gl DRt.kp bRt .nil pass0 (pa_cons (pv 13) pa_nil)) pa_nil)) (StX.pe_callO (E := E0) (pe_meth (E := E0) (pv 7) C.cl MSl GSl r7 bSl .nil passL (pa_cons (pv 15) pa_nil)) CO (GCl.raw bCl .nil) r6 pass0 (pa_cons (pe_call GRt r4 (by rfl) DRt.gl DRt.kp bRt .nil pass0 (pa_cons (pv 13) pa_nil)) pa_nil)) (nomark _)) (pss_one (ps_ret pe_bl)) pss_nil)
      (C8.pss_cut (ps_set (i := 22) scLaw.nd rfl (Or.inr rfl) (pe_call GO r2 (by rfl) DO.gl DO.kp bO .nil pass0 (pa_cons (pv 1) (pa_cons (pe_lst (pa_cons pe_non (pa_cons pe_bl (pa_cons pe_str (pa_cons (pe_lst (pa_cons pe_int pa_nil)) pa_nil))))) pa_nil))))
      (C8.pss_cut (ps_set (i := 23) scLaw.nd rfl (Or.inr rfl) (pe_call GO r2 (by rfl) DO.gl DO.kp bO .nil pass0 (pa_cons (pv 1) (pa_cons (pe_lst (pa_cons (pe_un un_neg pe_int) (pa_cons pe_non (pa_cons pe_bl (pa_cons pe_str pa_nil))))) pa_nil))))
      (pss_one (ps_ret (pe_call GS r4 (by rfl) DS.gl DS.kp bS .nil pass0 (pa_cons (pe_lst (pa_cons (pe_lamvalL (TT := TTwhy K C1 C2) (ds := [d0 K CR CC CI]) (es := []) (k := 8) (by rfl) DW.gl DW.kp lkW ccW bW scWhy rfl (.inl rfl) (why_gives r3 DF GF bF m1 m2) hr (fun d hd => by cases List.mem_singleton.mp hd; exact lo0 LH) (fun d hd => by cases hd) (pe_lamV (T := [(PT, qn)]) (c := c) (P := PT) (tl0 K CR CC CI) TB rfl (List.mem_singleton.mpr rfl) (fun p hp _ => congrArg Prod.snd (List.mem_singleton.mp hp)) (LamX.lamS_by (by rfl)) rfl)) (pa_cons (pe_lamvalL (TT := TTwhy K C1 C2) (ds := []) (es := [d1 K CR CC CI]) (k := 8) (by rfl) DW.gl DW.kp lkW ccW bW scWhy rfl (.inl rfl) (why_gives r3 DF GF bF m1 m2) hr (fun d hd => by cases hd) (fun d hd => by cases List.mem_singleton.mp hd; exact lo1 LH) (pe_lamVE (Tb := [(PT, qn)]) (c := c) (P := PT) (tl1 K CR CC CI) "_law_a" TB rfl (List.mem_singleton.mpr rfl) (fun p hp _ => congrArg Prod.snd (List.mem_singleton.mp hp)) (lamSE_by sc1) rfl rfl pe_int)) pa_nil))) (pa_cons (pe_lst (pa_cons (pe_tup (pa_cons pe_str (pa_cons (pv 22) pa_nil))) (pa_cons (pe_tup (pa_cons pe_str (pa_cons (pv 23) pa_nil))) pa_nil))) pa_nil)))))))))))))))))))))))))), ?_⟩
    refine ⟨_, rfl, a, ns, rfl, hS, fun b H1 B1 nb s1 => ?_⟩
    have T1 : LamX.Tabs [(PT, qn)] H1 := fun p hp => by
      cases List.mem_singleton.mp hp
      exact LamX.TabS.nil (s1 _ _ hP)
    clear hS hlen hP s1 nb
    refine ⟨fun σ H' => ∃ (lp : Addr) (rp : List Addr) (P : List PQ), σ = [some (.ref a), some (.ref b), some (.ref lp), none, none, none, none, none, none, none, none, none, none, none, none, none, none, none, none, none, none, none, none, none] ∧ H' lp = some (.lst (rp.map V.ref)) ∧ TupsAt H' rp P ∧ Oks 3 P ∧ P.length ≤ 7 ∧ BagAt H' b 100 ∧ LamX.Tabs [(PT, qn)] H', ?_, ?_⟩
    · obtain ⟨l, F1⟩ := B1.fix
      refine ⟨_, rfl, b, 8, 0, rfl, by decide, by decide, B1, by omega, fun r H2 r0 r8 B2 f2 => ⟨_, rfl, by omega, by omega, fun D hD => ?_⟩⟩
      obtain ⟨ys, hb⟩ := B1.lst
      have F2 := F1.bt B2 f2
      have T2 := Tabs.but T1 hb f2.1
      obtain ⟨n1, n2⟩ := F2.new hD
      have sD := same_upd (o := .lst []) hD
      refine lc_range (n := r.toNat) (fun i H' => ∃ qs : List PQ, (∃ us : List Addr, H' D = some (.lst (us.map V.ref)) ∧ TupsAt H' us qs) ∧ qs.length = i ∧ BagF l H' b (1 + 3 * i) ∧ LamX.Tabs [(PT, qn)] H' ∧ Oks 3 qs) ⟨[], ⟨[], upd_same, LsAt.nil⟩, rfl, F2.same sD, Tabs.same T2 sD, fun p hp => by cases hp⟩ ?_ ?_
      · rintro i H' hi ⟨qs, ⟨us, hu, ul⟩, ql, Fi, Ti, oi⟩
        refine ⟨rfl, _, rfl, b, 1 + 3 * i, rfl, Fi.at_, by omega, fun p q0 H3 tp oq B3 f3 => ?_⟩
        have hu3 := f3.1 _ _ hu (Ne.symm n1)
        obtain ⟨zs, hz⟩ := Fi.at_.lst
        have mv : ∀ b o, H3 b = some o → b ≠ D → upd H3 D (.lst (us.map V.ref ++ [.ref p])) b = some o := fun b o e n => (upd_ne n).trans e
        refine ⟨_, hu3, small1000 (by rw [List.length_map, ul.len]; omega), qs ++ [q0], ⟨us ++ [p], by rw [upd_same, List.map_append]; rfl, ?_⟩, by rw [List.length_append, ql]; rfl, ?_, ?_, fun x hx => ?_⟩
        · exact ((But.ls ul Fi.at_ f3.1).app (LsAt.one tp)).but hu3 mv
        · rw [show 1 + 3 * (i + 1) = 1 + 3 * i + 3 by omega]
          exact (Fi.bt B3 f3).upd n1 n2
        · exact Tabs.but (Tabs.but Ti hz f3.1) hu3 mv
        · rcases List.mem_append.mp hx with hx | hx
          · exact oi x hx
          · cases List.mem_singleton.mp hx
            exact oq
      · rintro H' ⟨qs, ⟨us, hu, ul⟩, ql, Fi, Ti, oi⟩
        exact ⟨D, us, qs, rfl, hu, ul, oi, by omega, Fi.at_.more (by omega), Ti⟩
    · clear B1 T1 H1
      rintro σ H0 ⟨lp, rp, P, rfl, hp, tp, op, lP, B0, T0⟩
      refine ⟨fun σ H' => ∃ (lh l : Addr) (xs : List V) (z : Nat), σ = [some (.ref a), some (.ref b), some (.ref lp), none, some (.ref lh), none, none, none, none, none, none, none, none, none, none, none, none, none, none, none, none, none, none, none] ∧ H' lh = some (.lst xs) ∧ lh ≠ b ∧ lh ≠ lp ∧ NsAt CR H' xs (P ++ List.replicate z zz) ∧ z ≤ 2 ∧ H' lp = some (.lst (rp.map V.ref)) ∧ TupsAt H' rp P ∧ (BagF l H' b 200 ∧ l ≠ lh) ∧ LamX.Tabs [(PT, qn)] H', ?_, ?_⟩
      · obtain ⟨l, F0⟩ := B0.fix
        have lr : (rp.map V.ref).length = P.length := by rw [List.length_map, tp.len]
        refine ⟨_, rfl, lp, rfl, ⟨_, .of hp⟩, fun D hD => ?_⟩
        obtain ⟨n1, n2⟩ := F0.new hD
        have n3 : lp ≠ D := ne_of_none hp hD
        have sD := same_upd (o := .lst []) hD
        refine lc_list (xs := rp.map V.ref) (fun i H' => ∃ us : List V, Hh CR PT l b D lp rp P us i (100 + i) H') ⟨[], upd_same, ⟨rfl, fun i x p a e => by cases a⟩, sD _ _ hp, tp.same sD, F0.same sD, Tabs.same T0 sD⟩ (fun i H' _ ⟨us, h⟩ => .of h.hp) ?_ ?_
        · rintro i x H1 hx ⟨us, h⟩
          refine ⟨rfl, ?_⟩
          have hi := (List.getElem?_eq_some_iff.mp hx).1
          rw [lr] at hi
          obtain ⟨r, q0, e1, e2, ht⟩ := h.rp.get hi
          have ex := (map_at e1).symm.trans hx
          cases Option.some.inj ex
          have oq := op q0 (List.mem_of_getElem? e2)
          have ht : TupI H1 r q0.1 q0.2 := ht
          have fin : ∀ (y : V) (H3 : Hp) (m : Nat), m ≤ 100 + (i + 1) → Hh CR PT l b D lp rp P us i m H3 → NumV CR H3 y q0.1 q0.2 → ∃ acc, H3 D = some (.lst acc) ∧ acc.length < sizeLine ∧ ∃ us', Hh CR PT l b D lp rp P us' (i + 1) (100 + (i + 1)) (upd H3 D (.lst (acc ++ [y]))) := fun y H3 m hm h3 nv => by
            have z := h3.snoc nv e2 n1 n2 n3
            have ln := h3.na.len
            rw [List.length_take] at ln
            refine ⟨us, h3.hD, small1000 (by omega), us ++ [y], z.hD, z.na, z.hp, z.rp, ?_, z.tab⟩
            obtain ⟨ns, p, g, s', c', k1, k2, k3, k4, k5, k6, k7, k8⟩ := z.bag
            exact ⟨ns, p, g, s', c', k1, k2, k3, k4, k5, k6, k7, by omega⟩
          have mk : ∀ (H2 : Hp) (m : Nat), m ≤ 100 + (i + 1) → Hh CR PT l b D lp rp P us i m H2 → TupI H2 r q0.1 q0.2 → tCall (spMkRatio CR) [] E0 (tCons (tVar 5) tNil) [some (.ref a), some (.ref b), some (.ref lp), none, none, some (.ref r), none, none, none, none, none, none, none, none, none, none, none, none, none, none, none, none, none, none] H2 (fun y H4 => ∃ acc, H4 D = some (.lst acc) ∧ acc.length < sizeLine ∧ ∃ us', Hh CR PT l b D lp rp P us' (i + 1) (100 + (i + 1)) (upd H4 D (.lst (acc ++ [y])))) := fun H2 m hm h2 t2 =>
            ⟨_, rfl, r, q0.1, q0.2, rfl, t2, oq.ne, oq.b.le (by decide), fun v H3 rv s3 => fin _ H3 m hm (h2.same s3) (.inl ⟨v, rfl, by rw [oq.low.1, oq.low.2] at rv; exact rv⟩)⟩
          refine ⟨_, rfl, r, _, _, _, rfl, rfl, .of ht, at1 _ _, _, _, rfl, rfl, _, rfl, ?_⟩
          by_cases h1 : 1 < q0.2
          · rw [decide_eq_true h1]
            exact iteT (iteT (mk H1 _ (by omega) h ht))
          · rw [decide_eq_false h1]
            have q2 : q0.2 = 1 := by have := oq.pos; omega
            refine iteF ⟨_, rfl, b, 2, 100 + i, rfl, by decide, by decide, h.bag.at_, by omega, fun r2 H3 l2 u2 B3 f3 => ?_⟩
            have h3 := h.bt n1 B3 f3
            have t3 : TupI H3 r q0.1 q0.2 := f3.1 _ _ ht fun z => (by
              obtain ⟨ys, hb⟩ := h.bag.at_.lst
              rw [TupI, z, hb] at ht
              cases ht)
            refine ⟨rfl, _, rfl, ?_⟩
            rw [dec_int]
            by_cases h0 : r2 = 0
            · rw [decide_eq_true h0]
              exact iteT (mk H3 _ (by omega) h3 t3)
            · rw [decide_eq_false h0]
              exact iteF ⟨_, rfl, r, _, _, _, rfl, rfl, .of t3, at0 _ _, fin _ H3 _ (by omega) h3 (.inr ⟨rfl, q2⟩)⟩
        · rintro H1 ⟨us, h⟩
          rw [lr] at h
          have na := h.na
          rw [List.take_length] at na
          refine ⟨(by show 1 ≤ sizeLine; decide), fun p1 hp1 => ?_⟩
          have s1 := same_upd (o := .lst [V.int 0]) hp1
          have h1 := h.same s1
          have n1p := (h.bag.new hp1).1
          refine ⟨_, rfl, b, 3, _, rfl, by decide, by decide, h1.bag.at_, by omega, fun r H3 r0 r3 B3 f3 => ?_⟩
          have h3 := h1.bt n1 B3 f3
          have na3 := (na.same s1).but h1.bag.at_ f3.1
          refine ⟨p1, r, [V.int 0], rfl, rfl, f3.1 _ _ upd_same (Ne.symm n1p), by omega, by omega, by rw [sizeLine_eq]; show 1 * r.toNat ≤ _; omega, fun p2 hp2 => ?_⟩
          rw [flat_one]
          have s2 := same_upd (o := .lst (List.replicate r.toNat (V.int 0))) hp2
          have ln := na.len
          refine ⟨D, p2, _, _, rfl, rfl, s2 _ _ h3.hD, upd_same, by rw [List.length_replicate, sizeLine_eq]; omega, fun p3 hp3 => ?_⟩
          have s3 := s2.trans (same_upd (o := .lst (us ++ List.replicate r.toNat (V.int 0))) hp3)
          have h4 := h3.same s3
          have nb3 : b ≠ p3 := ((h3.bag.same s2).new hp3).1
          exact ⟨p3, l, _, r.toNat, rfl, upd_same, Ne.symm nb3, Ne.symm (ne_of_none (s2 _ _ h3.hp) hp3), (na3.same s3).zeros r.toNat, by omega, h4.hp, h4.rp, ⟨h4.bag.le (by omega), ((h3.bag.same s2).new hp3).2⟩, h4.tab⟩
      · clear B0 T0 hp tp H0
        rintro σ H0 ⟨lh, l, xs, z, rfl, hh, nh, nhp, na, hz, hp, tp, ⟨B0, nl⟩, T0⟩
        have N : Nu P z (P ++ List.replicate z zz) (st P) := ⟨op, lP, rfl, hz, rfl⟩
        generalize hPA : P ++ List.replicate z zz = PA at na N
        refine ⟨fun σ H' => ∃ (lk : Addr), σ = [some (.ref a), some (.ref b), some (.ref lp), none, some (.ref lh), none, some (.ref lk), none, none, none, none, none, none, none, none, none, none, none, none, none, none, none, none, none] ∧ H' lk = some (.lst xs) ∧ lk ≠ b ∧ lk ≠ lh ∧ Same H0 H', ?_, ?_⟩
        · refine ⟨_, rfl, lh, xs, rfl, .inl (.of hh), fun lk hk => ⟨lk, rfl, upd_same, ?_, Ne.symm (ne_of_none hh hk), same_upd hk⟩⟩
          exact Ne.symm (B0.new hk).1
        · rintro σ H1 ⟨lk, rfl, hk, nk, nkh, s1⟩
          have hh1 := s1 _ _ hh
          have na1 := na.same s1
          have B1 := B0.same s1
          have T1 := Tabs.same T0 s1
          have hp1 := s1 _ _ hp
          have tp1 := tp.same s1
          clear hh na B0 T0 hp tp s1 H0
          refine ⟨fun σ H' => ∃ (c L : Addr) (rs : List Addr), σ = [some (.ref a), some (.ref b), some (.ref lp), none, some (.ref lh), none, some (.ref lk), some (.ref c), none, none, none, none, none, none, none, none, none, none, none, none, none, none, none, none] ∧ (∃ dx, H' c = some (.ins CC dx (cf L))) ∧ H' L = some (.lst (rs.map V.ref)) ∧ RatsAt CR H' rs (st P) ∧ L ≠ lh ∧ Same H1 H', ?_, ?_⟩
          · refine ⟨_, rfl, fun x dx nx nd ne => curve_madeL rfl nx nd (.of hh1) na1 (by have := N.lenPA; omega) fun L rs H2 nL hc hL ra s2 => ?_⟩
            rw [N.stPA] at ra
            exact ⟨x, L, rs, rfl, ⟨dx, hc⟩, hL, ra, Ne.symm (ne_of_none hh1 nL), s2⟩
          · rintro σ H2 ⟨c, L, rs, rfl, ⟨dx, hc⟩, hL, ra, nL, s2⟩
            refine ⟨fun σ H' => σ = [some (.ref a), some (.ref b), some (.ref lp), none, some (.ref lh), none, some (.ref lk), some (.ref c), none, none, none, none, none, none, none, none, none, none, none, none, none, none, none, none] ∧ Fx CR CC PT H' b 200 lp rp P lk xs PA c rs (st P), ?_, ?_⟩
            · have hh2 := s2 _ _ hh1
              have mv : ∀ b o, H2 b = some o → b ≠ lh → upd H2 lh (.lst (xs ++ [V.int 5])) b = some o := fun b o e n => (upd_ne n).trans e
              refine ⟨_, rfl, .inl ⟨rfl, _, SqL.of hh2⟩, lh, xs, .int 5, rfl, rfl, hh2, small1000 (by have := na1.len; have := N.lenPA; omega), rfl, ?_⟩
              refine ⟨((B1.same s2).upd (Ne.symm nh) nl).at_, Tabs.but (Tabs.same T1 s2) hh2 mv, mv _ _ (s2 _ _ hp1) (Ne.symm nhp), (tp1.same s2).but hh2 mv, mv _ _ (s2 _ _ hk) nkh, nk, (na1.same s2).atD hh2 mv, ⟨⟨dx, L, mv _ _ hc fun e => (by rw [e, hh2] at hc; cases hc), mv _ _ hL nL⟩, ra.but hh2 mv⟩⟩
            · clear hh1 na1 B1 T1 hp1 tp1 hk hc hL ra nL s2 H1 H2 nl nkh nhp nh nk
              rintro σ H0 ⟨rfl, F0⟩
              refine ⟨fun σ H' => ∃ (ld : Addr), σ = [some (.ref a), some (.ref b), some (.ref lp), none, some (.ref lh), none, some (.ref lk), some (.ref c), some (.ref ld), none, none, none, none, none, none, none, none, none, none, none, none, none, none, none] ∧ H' ld = some (.lst (rp.map V.ref)) ∧ Fx CR CC PT H' b 200 lp rp P lk xs PA c rs (st P), ?_, ?_⟩
              · exact ⟨_, rfl, lp, _, rfl, .inl (.of F0.hp), fun ld hd => ⟨ld, rfl, upd_same, F0.same (same_upd hd)⟩⟩
              · clear F0 H0
                rintro σ H0 ⟨ld0, rfl, hd0, F0⟩
                refine ⟨fun σ H' => ∃ (ld : Addr) (rd : List Addr), σ = [some (.ref a), some (.ref b), some (.ref lp), none, some (.ref lh), none, some (.ref lk), some (.ref c), some (.ref ld), none, none, none, none, none, none, none, none, none, none, none, none, none, none, none] ∧ H' ld = some (.lst (rd.map V.ref)) ∧ TupsAt H' rd (st P) ∧ Fx CR CC PT H' b 200 lp rp P lk xs PA c rs (st P), ?_, ?_⟩
                · refine ⟨fun m σ H' => ∃ (e : Nat) (ld : Addr), m = e ∧ σ = [some (.ref a), some (.ref b), some (.ref lp), none, some (.ref lh), none, some (.ref lk), some (.ref c), some (.ref ld), none, none, none, none, none, none, none, none, none, none, none, none, none, none, none] ∧ H' ld = some (.lst ((rp.take e).map V.ref)) ∧ e ≤ P.length ∧ (∀ i p, P[i]? = some p → e ≤ i → p.1 = 0) ∧ Fx CR CC PT H' b 200 lp rp P lk xs PA c rs (st P), ⟨_, P.length, ld0, rfl, rfl, ?_, Nat.le_refl _, fun i p hp hi => ?_, F0⟩, ?_⟩
                  · rw [← F0.rp.len, List.take_length]
                    exact hd0
                  · have := (List.getElem?_eq_some_iff.mp hp).1
                    omega
                  rintro e σ H1 ⟨_, ld, rfl, rfl, hd, he, h0, F1⟩
                  have td := F1.rp.take e
                  have fin : ∀ (h1 : ∀ p, 0 < e → P[e - 1]? = some p → p.1 ≠ 0) (H2 : Hp), Same H1 H2 → ∃ (ld' : Addr) (rd : List Addr), ([some (.ref a), some (.ref b), some (.ref lp), none, some (.ref lh), none, some (.ref lk), some (.ref c), some (.ref ld), none, none, none, none, none, none, none, none, none, none, none, none, none, none, none] : L2.St) = [some (.ref a), some (.ref b), some (.ref lp), none, some (.ref lh), none, some (.ref lk), some (.ref c), some (.ref ld'), none, none, none, none, none, none, none, none, none, none, none, none, none, none, none] ∧ H2 ld' = some (.lst (rd.map V.ref)) ∧ TupsAt H2 rd (st P) ∧ Fx CR CC PT H2 b 200 lp rp P lk xs PA c rs (st P) := fun h1 H2 s2 => by
                    refine ⟨ld, rp.take e, rfl, s2 _ _ hd, ?_, F1.same s2⟩
                    rw [← st_take he h0 h1]
                    exact td.same s2
                  refine ⟨_, rfl, Nat.zero_le _, fun p1 hp1 => ?_⟩
                  have s1 := same_upd (o := .lst []) hp1
                  refine ⟨_, _, .lst (.of (s1 _ _ hd)) (pds_dp (td.same s1)), .lst (.of upd_same) .nil, pds_shaped _, rfl, _, rfl, ?_⟩
                  rw [pds_nil]
                  by_cases c0 : e = 0
                  · subst c0
                    rw [List.take_zero, decide_eq_true rfl]
                    exact iteF (iteF (fin (fun p z => absurd z (by decide)) _ s1))
                  · have n0 : ¬ P.take e = [] := fun z => by
                      have := congrArg List.length z
                      rw [List.length_take, List.length_nil] at this
                      omega
                    rw [decide_eq_false n0]
                    obtain ⟨r, p, e1, e2, hr2⟩ := td.get (i := e - 1) (by rw [List.length_take]; omega)
                    have e3 : P[e - 1]? = some p := by
                      rw [List.getElem?_take, if_pos (by omega)] at e2
                      exact e2
                    have lt : ((rp.take e).map V.ref).length = e := by rw [List.length_map, List.length_take, F1.rp.len]; omega
                    have hr3 : TupI H1 r p.1 p.2 := hr2
                    refine iteT ⟨_, rfl, _, rfl, .ref ld, ((rp.take e).map V.ref).length, rfl, .inl ⟨_, .of (s1 _ _ hd), rfl⟩, _, _, rfl, rfl, ld, _, _, _, rfl, rfl, .of (s1 _ _ hd), ?_, r, _, _, _, rfl, rfl, .of (s1 _ _ hr3), at0 _ _, rfl, _, rfl, ?_⟩
                    · have := atI_nat (map_at e1)
                      rw [lt]
                      rwa [show (((e - 1 : Nat)) : Int) = (e : Int) - 1 by omega] at this
                    rw [dec_int]
                    by_cases c2 : p.1 = 0
                    · rw [decide_eq_true c2]
                      refine iteT ⟨fun σ' H2 => ∃ (e' : Nat) (ld' : Addr), e' < e ∧ σ' = [some (.ref a), some (.ref b), some (.ref lp), none, some (.ref lh), none, some (.ref lk), some (.ref c), some (.ref ld'), none, none, none, none, none, none, none, none, none, none, none, none, none, none, none] ∧ H2 ld' = some (.lst ((rp.take e').map V.ref)) ∧ e' ≤ P.length ∧ (∀ i p, P[i]? = some p → e' ≤ i → p.1 = 0) ∧ Fx CR CC PT H2 b 200 lp rp P lk xs PA c rs (st P), fun σ' H2 ⟨e', ld', l', z⟩ => ⟨e', l', e', ld', rfl, z⟩, _, rfl, _, rfl, _, rfl, ld, _, rfl, .of (s1 _ _ hd), fun p2 hp2 => ?_⟩
                      have s2 := s1.trans (same_upd (o := .lst (cutV ((rp.take e).map V.ref) none (some (-1)))) hp2)
                      refine ⟨e - 1, p2, by omega, rfl, ?_, by omega, fun i p' hp' hi => ?_, F1.same s2⟩
                      · rw [upd_same, cut_last, lt, ← List.map_take, List.take_take, Nat.min_eq_left (by omega)]
                      · by_cases c3 : e ≤ i
                        · exact h0 i p' hp' c3
                        · have : i = e - 1 := by omega
                          rw [this, e3] at hp'
                          cases hp'
                          exact c2
                    · rw [decide_eq_false c2]
                      refine iteF (fin (fun p' _ hp' => ?_) _ s1)
                      rw [e3] at hp'
                      cases hp'
                      exact c2
                · clear F0 hd0 H0
                  rintro σ H0 ⟨ld, rd, rfl, hd, td, F0⟩
                  refine ⟨fun σ H' => σ = [some (.ref a), some (.ref b), some (.ref lp), none, some (.ref lh), none, some (.ref lk), some (.ref c), some (.ref ld), some (.str (curS (st P))), none, none, none, none, none, none, none, none, none, none, none, none, none, none] ∧ Same H0 H', ?_, ?_⟩
                  · have ld7 := N.lenS
                    refine ⟨⟨_, rfl⟩, _, rfl, ld, rfl, ⟨_, .of hd⟩, fun C0 hC => lc_list (xs := rd.map V.ref) (fun i H' => H' C0 = some (.lst ((((st P).take i).map fun p => ctext p.1 p.2).map V.str)) ∧ Same H0 H') ⟨by rw [List.take_zero]; exact upd_same, same_upd hC⟩ (fun i H' _ a => SqL.ext (.of hd) a.2) ?_ ?_⟩
                    · rintro i x H1 hx ⟨a1, a2⟩
                      refine ⟨rfl, ?_⟩
                      have hi := (List.getElem?_eq_some_iff.mp hx).1
                      rw [List.length_map, td.len] at hi
                      obtain ⟨r, p, e1, e2, hr2⟩ := td.get hi
                      cases Option.some.inj ((map_at e1).symm.trans hx)
                      have k := N.okS p (List.mem_of_getElem? e2)
                      refine ⟨_, rfl, r, p.1, p.2, rfl, a2 _ _ hr2, w10_of k.t (by decide), w10_of k.b (by decide), _, a1, ?_, ?_, Same.put a2 hC⟩
                      · rw [List.length_map, List.length_map]
                        exact small1000 (by have := List.length_take_le i (st P); omega)
                      · rw [upd_same, List.take_add_one, e2, List.map_append, List.map_append]
                        rfl
                    · rintro H1 ⟨a1, a2⟩
                      rw [List.length_map, td.len, List.take_length] at a1
                      refine ⟨_, C0, _, rfl, rfl, .inl (.of a1), ?_, rfl, a2⟩
                      have h2 := sum_le 30 _ (ct_le N.okS (by decide))
                      rw [List.length_map] at h2 ⊢
                      have h3 : (Str.ofString " ").length = 1 := by decide
                      have h4 : (st P).length * 30 ≤ 7 * 30 := Nat.mul_le_mul_right _ ld7
                      have h5 : (st P).length * (Str.ofString " ").length ≤ 7 * 1 := by rw [h3]; exact Nat.mul_le_mul_right _ ld7
                      omega
                  · rintro σ H1 ⟨rfl, s1⟩
                    replace hd := s1 _ _ hd
                    replace td := td.same s1
                    replace F0 := F0.same s1
                    clear s1 H0
                    refine ⟨fun σ H' => ∃ x10 x11 : Option V, σ = [some (.ref a), some (.ref b), some (.ref lp), none, some (.ref lh), none, some (.ref lk), some (.ref c), some (.ref ld), some (.str (curS (st P))), x10, x11, none, none, none, none, none, none, none, none, none, none, none, none] ∧ Same H1 H', ?_, ?_⟩
                    · refine ⟨2, rfl, by decide, by decide, for_range (n := 2) (fun i σ H' => ∃ x10 x11 : Option V, σ = [some (.ref a), some (.ref b), some (.ref lp), none, some (.ref lh), none, some (.ref lk), some (.ref c), some (.ref ld), some (.str (curS (st P))), x10, x11, none, none, none, none, none, none, none, none, none, none, none, none] ∧ Same H1 H') ⟨none, none, rfl, Same.refl _⟩ ?_ fun σ H' z => z⟩
                      rintro i σ H2 hi ⟨x10, x11, rfl, s1⟩
                      obtain ⟨dx, L, hc, hL⟩ := F0.cu.ex
                      refine ⟨fun σ H' => ∃ lw : Addr, σ = [some (.ref a), some (.ref b), some (.ref lp), none, some (.ref lh), none, some (.ref lk), some (.ref c), some (.ref ld), some (.str (curS (st P))), some (.int (0 + (i : Int))), some (.ref lw), none, none, none, none, none, none, none, none, none, none, none, none] ∧ H' lw = some (.lst (rs.map V.ref)) ∧ H2 lw = none ∧ Same H2 H', ?_, ?_⟩
                      · exact ⟨_, rfl, c, dx, _, rfl, s1 _ _ hc, cf_no L (by decide +kernel), c, rs, _, rfl, F0.cu.same s1, fun l H3 hl nl s2 => ⟨l, rfl, hl, nl, s2⟩⟩
                      rintro σ H3 ⟨lw, rfl, hw, nw, s2⟩
                      have F3 := F0.same (s1.trans s2)
                      have hc3 := s2 _ _ (s1 _ _ hc)
                      have hd3 := s2 _ _ (s1 _ _ hd)
                      have td3 := td.same (s1.trans s2)
                      have lc7 := N.lenS
                      refine ⟨fun σ H' => σ = [some (.ref a), some (.ref b), some (.ref lp), none, some (.ref lh), none, some (.ref lk), some (.ref c), some (.ref ld), some (.str (curS (st P))), some (.int (0 + (i : Int))), some (.ref lw), none, none, none, none, none, none, none, none, none, none, none, none] ∧ Same H3 H', ?_, ?_⟩
                      · have lr : (rs.map V.ref).length = (st P).length := by rw [List.length_map, F3.cu.ls.len]
                        refine ⟨_, rfl, lw, rfl, ⟨_, .of hw⟩, fun D hD => lc_list (xs := rs.map V.ref) (Acc TupP H3 D (st P)) (.zero hD) (fun i H' _ a => .of (a.sm _ _ hw)) ?_ ?_⟩
                        · rintro j x H4 hx a
                          refine ⟨rfl, ?_⟩
                          have hi := (List.getElem?_eq_some_iff.mp hx).1
                          rw [lr] at hi
                          obtain ⟨r, p, e1, e2, hr2⟩ := F3.cu.ls.get hi
                          cases Option.some.inj ((map_at e1).symm.trans hx)
                          exact ⟨_, rfl, r, p.1, p.2, rfl, RatAt.same hr2 a.sm, fun t H5 tp s5 => a.step hD s5 (p := p) tp e2 (by omega)⟩
                        · rintro H4 a
                          obtain ⟨us, hu, ul⟩ := a.done (by rw [lr]; exact Nat.le_refl _)
                          have S4 := a.sm
                          refine ⟨_, rfl, _, _, .lst (.of hu) (pds_dp ul), .lst (.of (S4 _ _ hd3)) (pds_dp (td3.same S4)), pds_shaped _, pds_shaped _, _, rfl, ?_⟩
                          rw [pds_self]
                          have lcS := curS_len N.okS (by decide) (by omega)
                          refine iteF ⟨_, rfl, c, dx, _, rfl, S4 _ _ hc3, c, rs, _, rfl, F3.cu.same S4, ?_⟩
                          refine ⟨_, rfl, c, dx, _, rfl, S4 _ _ hc3, c, rs, _, 3, rfl, F3.cu.same S4, N.okS, by decide, by omega, fun H5 s5 => ⟨_, rfl, ?_⟩⟩
                          refine ⟨_, rfl, c, dx, _, rfl, s5 _ _ (S4 _ _ hc3), c, rs, _, 3, rfl, F3.cu.same (S4.trans s5), N.okS, by decide, by omega, fun H6 s6 => ⟨_, rfl, ?_⟩⟩
                          have S6 := (S4.trans s5).trans s6
                          refine ⟨(by show 3 ≤ sizeLine; decide), fun p1 hp1 => ?_⟩
                          have s7 := same_upd (o := .lst [V.int (((st P).length : Int) - 1), .str (curS (st P)), .str ("Curve(" ++ curS (st P) ++ ")")]) hp1
                          have l1 : (Str.ofString "Curve(").length ≤ 6 := by decide
                          have l2 : (Str.ofString ")").length ≤ 1 := by decide
                          have l3 := app_len l1 lcS
                          refine ⟨_, rfl, .ref ld, (rd.map V.ref).length, rfl, .inl ⟨_, .of (s7 _ _ (S6 _ _ hd3)), rfl⟩, _, _, rfl, rfl, _, rfl, _, rfl, _, _, rfl, rfl, fit2 (m := 2000) (by omega) (by decide), _, _, rfl, rfl, fit2 (m := 2000) (by omega) (by decide), (by show 3 ≤ sizeLine; decide), fun p2 hp2 => ?_⟩
                          rw [List.length_map, td.len]
                          refine ⟨.ref p1, .ref p2, rfl, .inr ⟨p1, p2, _, _, rfl, rfl, .inr ⟨same_upd hp2 _ _ upd_same, upd_same⟩, rfl, (by show 3 ≤ 1000; decide), fun k x y hx hy => ?_⟩, fun H7 s8 => ⟨_, rfl, iteF ⟨rfl, ((S6.trans s7).trans (same_upd hp2)).trans s8⟩⟩⟩
                          have xy : x = y := Option.some.inj (hx.symm.trans hy)
                          subst xy
                          rcases k with _ | _ | _ | k
                          · cases Option.some.inj hx
                            exact .inl ⟨rfl, .inr (.inr (.inl ⟨_, rfl⟩))⟩
                          · cases Option.some.inj hx
                            exact .inl ⟨rfl, .inr (.inr (.inr ⟨_, rfl⟩))⟩
                          · cases Option.some.inj hx
                            exact .inl ⟨rfl, .inr (.inr (.inr ⟨_, rfl⟩))⟩
                          · cases hx
                      rintro σ H4 ⟨rfl, s4⟩
                      refine ⟨_, rfl, .inl ⟨rfl, _, SqL.of (s4 _ _ hw)⟩, lw, _, .non, rfl, rfl, s4 _ _ hw, small1000 (by rw [List.length_map, F3.cu.ls.len]; omega), ?_⟩
                      exact ⟨_, _, rfl, Same.put ((s1.trans s2).trans s4) (none_of nw s1)⟩
                    · rintro σ H0 ⟨x10, x11, rfl, s1⟩
                      replace F0 := F0.same s1
                      clear hd td s1 H1
                      refine ⟨fun σ H' => ∃ (pa pb : Addr) (x y : PQ) (t : Nat), σ = [some (.ref a), some (.ref b), some (.ref lp), none, some (.ref lh), none, some (.ref lk), some (.ref c), some (.ref ld), some (.str (curS (st P))), x10, x11, none, some (.ref pa), some (.ref pb), some (.int (t : Int)), none, none, none, none, none, none, none, none] ∧ TupI H' pa x.1 x.2 ∧ TupI H' pb y.1 y.2 ∧ Ok 3 x ∧ Ok 3 y ∧ t < 10 ∧ Fx CR CC PT H' b 300 lp rp P lk xs PA c rs (st P), ?_, ?_⟩
                      · refine ⟨_, rfl, b, 200, rfl, F0.B, by omega, fun p1 x H1 t1 o1 B1 f1 => ⟨_, rfl, b, 203, rfl, B1, by omega, fun p2 y H2 t2 o2 B2 f2 => ⟨_, rfl, b, 10, 206, rfl, by decide, by decide, B2, by omega, fun r H3 r0 r10 B3 f3 => ⟨_, _, _, rfl, ?_⟩⟩⟩⟩
                        obtain ⟨ys1, hb1⟩ := B1.lst
                        obtain ⟨ys2, hb2⟩ := B2.lst
                        have m1 : TupI H3 p1 x.1 x.2 := f3.1 _ _ (f2.1 _ _ t1 fun z => (by rw [TupI, z, hb1] at t1; cases t1)) fun z => (by
                          have q : H2 p1 = _ := f2.1 _ _ t1 fun z => (by rw [TupI, z, hb1] at t1; cases t1)
                          rw [z, hb2] at q
                          cases q)
                        have m2 : TupI H3 p2 y.1 y.2 := f3.1 _ _ t2 fun z => (by rw [TupI, z, hb2] at t2; cases t2)
                        refine ⟨p1, p2, x, y, r.toNat, ?_, m1, m2, o1, o2, by omega, F0.but (B3.more (by omega)) ((f1.trans f2).trans f3).1⟩
                        rw [Int.toNat_of_nonneg r0]
                        rfl
                      · clear F0 H0
                        rintro σ H0 ⟨pa, pb, x, y, t, rfl, hx, hy, ox, oy, ht, F0⟩
                        refine ⟨fun σ H' => ∃ (da db : Addr), σ = [some (.ref a), some (.ref b), some (.ref lp), none, some (.ref lh), none, some (.ref lk), some (.ref c), some (.ref ld), some (.str (curS (st P))), x10, x11, none, some (.ref pa), some (.ref pb), some (.int (t : Int)), some (.ref da), some (.ref db), none, none, none, none, none, none] ∧ DAt H' da (some x) ∧ DAt H' db (some y) ∧ Same H0 H', ?_, ?_⟩
                        · refine fun da hda => ⟨Nat.zero_le _, fun k1 hk1 => ⟨_, rfl, (disp_r hx hda hk1).1, k1, [], rfl, upd_same, ?_⟩⟩
                          obtain ⟨_, d1, s1⟩ := disp_r hx hda hk1
                          generalize upd (upd (upd H0 da (.dT [])) k1 (.tup [])) da (.dT [([], .ref pa)]) = H1 at d1 s1 ⊢
                          have hy1 : TupI H1 pb y.1 y.2 := s1 _ _ hy
                          refine fun db hdb => ⟨Nat.zero_le _, fun k2 hk2 => ⟨_, rfl, (disp_r hy1 hdb hk2).1, k2, [], rfl, upd_same, ?_⟩⟩
                          obtain ⟨_, d2, s2⟩ := disp_r hy1 hdb hk2
                          generalize upd (upd (upd H1 db (.dT [])) k2 (.tup [])) db (.dT [([], .ref pb)]) = H2 at d2 s2 ⊢
                          refine ⟨(by show 2 ≤ sizeLine; decide), fun T3 hT => ?_⟩
                          have s3 := same_upd (o := .tup [V.ref da, .ref db]) hT
                          exact ⟨T3, _, rfl, .of upd_same, rfl, _, _, rfl, _, _, rfl, rfl, da, db, rfl, (d1.same s2).same s3, d2.same s3, (s1.trans s2).trans s3⟩
                        · rintro σ H1 ⟨da, db, rfl, d1, d2, s1⟩
                          replace F0 := F0.same s1
                          replace hx : TupI H1 pa x.1 x.2 := s1 _ _ hx
                          replace hy : TupI H1 pb y.1 y.2 := s1 _ _ hy
                          clear s1 H0
                          refine ⟨fun σ H' => ∃ (lw : Addr) (qs : List Addr), σ = [some (.ref a), some (.ref b), some (.ref lp), none, some (.ref lh), none, some (.ref lk), some (.ref c), some (.ref ld), some (.str (curS (st P))), x10, x11, none, some (.ref pa), some (.ref pb), some (.int (t : Int)), some (.ref da), some (.ref db), some (.ref lw), none, none, none, none, none] ∧ H' lw = some (.lst (qs.map V.ref)) ∧ TupsAt H' qs (itg P) ∧ Same H1 H', ?_, ?_⟩
                          · refine ⟨_, rfl, _, rfl, lp, rp, P, -1, 3, rfl, .of F0.hp, F0.rp, N.ok, by decide, by have := N.len; omega, by decide, by decide, fun e qs H2 he tq s2 => ?_⟩
                            rw [if_pos rfl] at tq
                            exact ⟨e, qs, rfl, he, tq, s2⟩
                          · rintro σ H0 ⟨lw, qs, rfl, hw, tq, s1⟩
                            replace F0 := F0.same s1
                            replace hx : TupI H0 pa x.1 x.2 := s1 _ _ hx
                            replace hy : TupI H0 pb y.1 y.2 := s1 _ _ hy
                            replace d1 := d1.same s1
                            replace d2 := d2.same s1
                            clear s1 H1
                            have li : (itg P).length ≤ 8 := by
                              have := N.len
                              show (dvs P).length + 1 ≤ 8
                              rw [dvs_len]
                              omega
                            have oi : Oks 7 (itg P) := N.ok.itg (by have := N.len; omega)
                            have bi : ∀ m, m ≤ 10 → (itg P).length * (7 + m + 1) + 1 + m ≤ 1990 := fun m hm => by
                              have := Nat.mul_le_mul li (show 7 + m + 1 ≤ 18 by omega)
                              omega
                            refine ⟨fun σ H' => ∃ (ar : Addr), σ = [some (.ref a), some (.ref b), some (.ref lp), none, some (.ref lh), none, some (.ref lk), some (.ref c), some (.ref ld), some (.str (curS (st P))), x10, x11, none, some (.ref pa), some (.ref pb), some (.int (t : Int)), some (.ref da), some (.ref db), some (.ref lw), some (.ref ar), none, none, none, none] ∧ TupI H' ar (pl (hor x (itg P)) (cr (-1, 1) (hor y (itg P)))).1 (pl (hor x (itg P)) (cr (-1, 1) (hor y (itg P)))).2 ∧ Same H0 H', ?_, ?_⟩
                            · have ohx := (hor_ok ox oi).le (m := 200) (by have := bi 3 (by decide); have := Nat.mul_le_mul li (Nat.le_refl (7 + 3 + 1)); omega)
                              have ohy := (hor_ok oy oi).le (m := 200) (by have := bi 3 (by decide); have := Nat.mul_le_mul li (Nat.le_refl (7 + 3 + 1)); omega)
                              refine ⟨_, rfl, _, rfl, lw, da, qs, itg P, x, 7, 3, rfl, .of hw, tq, d1, ox, oi, bi 3 (by decide), fun e H1 de s1 => ⟨e, rfl, (dget_r de).1, Nat.zero_le _, fun k0 hk0 => ⟨(by show 2 ≤ sizeLine; decide), fun p0 hp0 => ?_⟩⟩⟩
                              obtain ⟨ov, r, gg, er, hr, s2⟩ := (dget_r de).2 k0 p0 hk0 hp0
                              refine ⟨ov, gg, ?_⟩
                              rw [er]
                              clear er gg
                              generalize upd (upd H1 k0 (.tup [])) p0 (.tup [V.int 0, .int 1]) = H2 at hr s2 ⊢
                              rw [horO_get] at hr
                              have S2 := s1.trans s2
                              refine ⟨_, rfl, (by show 2 ≤ sizeLine; decide), fun pm hpm => ?_⟩
                              have s3 := same_upd (o := .tup [V.int (-1), .int 1]) hpm
                              have S3 := S2.trans s3
                              refine ⟨_, rfl, _, rfl, lw, db, qs, itg P, y, 7, 3, rfl, .of (S3 _ _ hw), tq.same S3, d2.same S3, oy, oi, bi 3 (by decide), fun e2 H4 de2 s4 => ⟨e2, rfl, (dget_r de2).1, Nat.zero_le _, fun k0 hk0 => ⟨(by show 2 ≤ sizeLine; decide), fun p0 hp0 => ?_⟩⟩⟩
                              obtain ⟨ov, r2, gg, er, hr2, s5⟩ := (dget_r de2).2 k0 p0 hk0 hp0
                              refine ⟨ov, gg, ?_⟩
                              rw [er]
                              clear er gg
                              generalize upd (upd H4 k0 (.tup [])) p0 (.tup [V.int 0, .int 1]) = H5 at hr2 s5 ⊢
                              rw [horO_get] at hr2
                              have S5 := s4.trans s5
                              have om : Ok 3 ((-1, 1) : PQ) := ⟨by decide, by decide, by unfold Bd; decide, by unfold Bd; decide⟩
                              refine ⟨pm, r2, -1, 1, _, _, rfl, S5 _ _ upd_same, hr2, om.t.le (by decide), om.b.le (by decide), ohy.t.le (by decide), ohy.b.le (by decide), by decide, ohy.pos, fun r3 H6 hr3 s6 => ?_⟩
                              have oc := om.cr ohy
                              refine ⟨r, r3, _, _, (cr (-1, 1) (hor y (itg P))).1, (cr (-1, 1) (hor y (itg P))).2, rfl, s6 _ _ (S5 _ _ (s3 _ _ hr)), hr3, ohx.t.le (by decide), ohx.b.le (by decide), oc.t.le (by decide), oc.b.le (by decide), ohx.pos, oc.pos, fun r4 H7 hr4 s7 => ?_⟩
                              exact ⟨r4, rfl, hr4, ((S3.trans S5).trans s6).trans s7⟩
                            · rintro σ H1 ⟨ar, rfl, ha, s1⟩
                              replace F0 := F0.same s1
                              replace hx : TupI H1 pa x.1 x.2 := s1 _ _ hx
                              replace hy : TupI H1 pb y.1 y.2 := s1 _ _ hy
                              replace d1 := d1.same s1
                              clear s1 hw tq d2 H0
                              refine ⟨fun σ H' => ∃ (lf : Addr) (rf : List Addr), σ = [some (.ref a), some (.ref b), some (.ref lp), none, some (.ref lh), none, some (.ref lk), some (.ref c), some (.ref ld), some (.str (curS (st P))), x10, some (.ref lf), none, some (.ref pa), some (.ref pb), some (.int (t : Int)), some (.ref da), some (.ref db), some (.ref lw), some (.ref ar), none, none, none, none] ∧ H' lf = some (.lst (rf.map V.ref)) ∧ RatsAt CR H' rf [hor x P, hor x (slps t P), hor x (slps 1 P), pl (hor x (itg P)) (cr (-1, 1) (hor y (itg P))), zz, hor (3, 1) P] ∧ Same H1 H', ?_, ?_⟩
                              · obtain ⟨dx, L, hc, hL⟩ := F0.cu.ex
                                have lS := N.lenS
                                have oS := N.okS
                                have l14 : P.length ≤ 14 := by have := N.len; omega
                                have S0 : Same H1 H1 := Same.refl _
                                refine ⟨_, rfl, c, rfl, _, rfl, pa, x.1, x.2, rfl, hx, ox.ne, ox.b.le (by decide), fun v1 G1 r1 s1 => ?_⟩
                                rw [ox.low.1, ox.low.2] at r1
                                refine ⟨.inr ⟨dx, _, s1 _ _ hc⟩, c, .ref v1, rs, st P, x, 3, 3, rfl, F0.cu.same s1, .inl ⟨v1, rfl, r1⟩, ox, oS, bd_of (by omega) (by decide) (by decide), fun u0 G2 q0 s2 => ?_⟩
                                rw [hor_st ox N.ok] at q0
                                have S2 := s1.trans s2
                                refine ⟨_, rfl, c, dx, _, rfl, S2 _ _ hc, cf_no L (by decide +kernel), _, rfl, .inl ⟨c, rs, st P, t, 3, rfl, F0.cu.same S2, oS, by decide, by omega, fun c3 rs3 G3 cu3 s3 => ?_⟩⟩
                                have S3 := S2.trans s3
                                obtain ⟨dx3, L3, hc3, _⟩ := cu3.ex
                                refine ⟨c3, rfl, _, rfl, pa, x.1, x.2, rfl, S3 _ _ hx, ox.ne, ox.b.le (by decide), fun v4 G4 r4 s4 => ?_⟩
                                rw [ox.low.1, ox.low.2] at r4
                                refine ⟨.inr ⟨dx3, _, s4 _ _ hc3⟩, c3, .ref v4, rs3, _, x, 40, 3, rfl, cu3.same s4, .inl ⟨v4, rfl, r4⟩, ox, (oks_slps oS lS ht).1, bd_of (oks_slps oS lS ht).2 (by decide) (by decide), fun u1 G5 q1 s5 => ?_⟩
                                rw [v_slope t N.ok l14 ox] at q1
                                have S5 := (S3.trans s4).trans s5
                                refine ⟨_, rfl, c, dx, _, rfl, S5 _ _ hc, cf_no L (by decide +kernel), .inl ⟨c, rs, st P, 1, 3, rfl, F0.cu.same S5, oS, by decide, by omega, fun c6 rs6 G6 cu6 s6 => ?_⟩⟩
                                have S6 := S5.trans s6
                                obtain ⟨dx6, L6, hc6, _⟩ := cu6.ex
                                refine ⟨c6, rfl, _, rfl, pa, x.1, x.2, rfl, S6 _ _ hx, ox.ne, ox.b.le (by decide), fun v7 G7 r7 s7 => ?_⟩
                                rw [ox.low.1, ox.low.2] at r7
                                refine ⟨.inr ⟨dx6, _, s7 _ _ hc6⟩, c6, .ref v7, rs6, _, x, 40, 3, rfl, cu6.same s7, .inl ⟨v7, rfl, r7⟩, ox, (oks_slps oS lS (by decide)).1, bd_of (oks_slps oS lS (by decide)).2 (by decide) (by decide), fun u2 G8 q2 s8 => ?_⟩
                                rw [v_slope 1 N.ok l14 ox] at q2
                                have S8 := (S6.trans s7).trans s8
                                refine ⟨_, rfl, c, dx, _, rfl, S8 _ _ hc, cf_no L (by decide +kernel), _, rfl, pb, y.1, y.2, rfl, S8 _ _ hy, oy.ne, oy.b.le (by decide), fun v9 G9 r9 s9 => ?_⟩
                                rw [oy.low.1, oy.low.2] at r9
                                have S9 := S8.trans s9
                                refine ⟨c, .ref v9, rs, st P, y, 3, 3, rfl, F0.cu.same S9, .inl ⟨v9, rfl, r9⟩, oy, by decide, oS, by decide, by omega, fun c10 rs10 G10 cu10 s10 => ?_⟩
                                have S10 := S9.trans s10
                                obtain ⟨dx10, L10, hc10, _⟩ := cu10.ex
                                refine ⟨c10, rfl, _, rfl, pa, x.1, x.2, rfl, S10 _ _ hx, ox.ne, ox.b.le (by decide), fun v11 G11 r11 s11 => ?_⟩
                                rw [ox.low.1, ox.low.2] at r11
                                refine ⟨.inr ⟨dx10, _, s11 _ _ hc10⟩, c10, .ref v11, rs10, _, x, 89, 3, rfl, cu10.same s11, .inl ⟨v11, rfl, r11⟩, ox, (inte_ok7 oS lS oy).strip, bd_of (inte_len lS) (by decide) (by decide), fun u3 G12 q3 s12 => ?_⟩
                                rw [v_int N.ok l14 ox oy] at q3
                                have S12 := (S10.trans s11).trans s12
                                refine ⟨_, rfl, c, dx, _, rfl, S12 _ _ hc, cf_no L (by decide +kernel), _, rfl, pb, y.1, y.2, rfl, S12 _ _ hy, oy.ne, oy.b.le (by decide), fun v13 G13 r13 s13 => ?_⟩
                                rw [oy.low.1, oy.low.2] at r13
                                have S13 := S12.trans s13
                                refine ⟨c, .ref v13, rs, st P, y, 3, 3, rfl, F0.cu.same S13, .inl ⟨v13, rfl, r13⟩, oy, by decide, oS, by decide, by omega, fun c14 rs14 G14 cu14 s14 => ?_⟩
                                have S14 := S13.trans s14
                                obtain ⟨dx14, L14, hc14, _⟩ := cu14.ex
                                refine ⟨c14, rfl, _, rfl, pb, y.1, y.2, rfl, S14 _ _ hy, oy.ne, oy.b.le (by decide), fun v15 G15 r15 s15 => ?_⟩
                                rw [oy.low.1, oy.low.2] at r15
                                refine ⟨.inr ⟨dx14, _, s15 _ _ hc14⟩, c14, .ref v15, rs14, _, y, 89, 3, rfl, cu14.same s15, .inl ⟨v15, rfl, r15⟩, oy, (inte_ok7 oS lS oy).strip, bd_of (inte_len lS) (by decide) (by decide), fun u4 G16 q4 s16 => ?_⟩
                                rw [v_int0 N.ok l14 oy] at q4
                                have S16 := (S14.trans s15).trans s16
                                have o3 : Ok 3 ((3, 1) : PQ) := ⟨by decide, by decide, by unfold Bd; decide, by unfold Bd; decide⟩
                                refine ⟨_, rfl, c, rfl, .inr ⟨dx, _, S16 _ _ hc⟩, c, .int 3, rs, st P, (3, 1), 3, 3, rfl, F0.cu.same S16, .inr ⟨rfl, rfl⟩, o3, oS, bd_of (by omega) (by decide) (by decide), fun u5 G17 q5 s17 => ?_⟩
                                rw [hor_st o3 N.ok] at q5
                                refine ⟨(by show 6 ≤ sizeLine; decide), fun lf hlf => ⟨lf, [u0, u1, u2, u3, u4, u5], rfl, upd_same, ?_, (S16.trans s17).trans (same_upd hlf)⟩⟩
                                have sf := s17.trans (same_upd (o := .lst [V.ref u0, .ref u1, .ref u2, .ref u3, .ref u4, .ref u5]) hlf)
                                have k16 := sf
                                have k12 := (((s13.trans s14).trans s15).trans s16).trans sf
                                have k8 := (((s9.trans s10).trans s11).trans s12).trans k12
                                have k5 := ((s6.trans s7).trans s8).trans k8
                                have k2 := ((s3.trans s4).trans s5).trans k5
                                exact (((((LsAt.one (R := RatP CR) (show RatP CR _ u5 (hor (3, 1) P) from RatAt.same q5 (same_upd hlf))).cons (show RatP CR _ u4 zz from RatAt.same q4 k16)).cons (show RatP CR _ u3 _ from RatAt.same q3 k12)).cons (show RatP CR _ u2 _ from RatAt.same q2 k8)).cons (show RatP CR _ u1 _ from RatAt.same q1 k5)).cons (show RatP CR _ u0 _ from RatAt.same q0 k2)
                              · rintro σ H0 ⟨lf, rf, rfl, hf, rr, s1⟩
                                replace F0 := F0.same s1
                                replace hx : TupI H0 pa x.1 x.2 := s1 _ _ hx
                                replace hy : TupI H0 pb y.1 y.2 := s1 _ _ hy
                                replace d1 := d1.same s1
                                replace ha : TupI H0 ar _ _ := s1 _ _ ha
                                clear s1 H1
                                refine ⟨fun σ H' => ∃ (lv : Addr) (rv : List Addr), σ = [some (.ref a), some (.ref b), some (.ref lp), none, some (.ref lh), none, some (.ref lk), some (.ref c), some (.ref ld), some (.str (curS (st P))), x10, some (.ref lf), none, some (.ref pa), some (.ref pb), some (.int (t : Int)), some (.ref da), some (.ref db), some (.ref lw), some (.ref ar), some (.ref lv), none, none, none] ∧ H' lv = some (.lst (rv.map V.ref)) ∧ TupsAt H' rv [hor x P, hor x (slps t P), hor x (slps 1 P)] ∧ Same H0 H', ?_, ?_⟩
                                · have l14 : P.length ≤ 14 := by have := N.len; omega
                                  refine ⟨_, rfl, (by show 3 ≤ sizeLine; decide), fun pl hpl => ⟨pl, rfl, ⟨_, .of upd_same⟩, fun D hD => ?_⟩⟩
                                  have sp := same_upd (o := .lst [V.int 0, .int (t : Int), .int 1]) hpl
                                  refine lc_list (xs := [V.int 0, .int (t : Int), .int 1]) (Acc TupP (upd H0 pl (.lst [V.int 0, .int (t : Int), .int 1])) D [hor x P, hor x (slps t P), hor x (slps 1 P)]) (.zero hD) (fun i H' _ a => .of (a.sm _ _ upd_same)) ?_ ?_
                                  · rintro j v H1 hv a
                                    refine ⟨rfl, ?_⟩
                                    have key : ∃ o : Nat, v = .int (o : Int) ∧ o < 10 ∧ j < 3 ∧ ([hor x P, hor x (slps t P), hor x (slps 1 P)] : List PQ)[j]? = some (hor x (slps o P)) := by
                                      rcases j with _ | _ | _ | j
                                      · cases Option.some.inj hv
                                        exact ⟨0, rfl, by decide, by decide, rfl⟩
                                      · cases Option.some.inj hv
                                        exact ⟨t, rfl, ht, by decide, rfl⟩
                                      · cases Option.some.inj hv
                                        exact ⟨1, rfl, by decide, by decide, rfl⟩
                                      · cases hv
                                    obtain ⟨o, rfl, ho, hj, hV⟩ := key
                                    have S1 := sp.trans a.sm
                                    refine ⟨_, rfl, _, rfl, lp, rp, P, (o : Int), 3, rfl, .of (S1 _ _ F0.hp), F0.rp.same S1, N.ok, by decide, l14, by omega, by omega, fun e qs H2 he tq s2 => ?_⟩
                                    rw [if_neg (by omega), Int.toNat_natCast] at tq
                                    have lq := slps_le o P
                                    refine ⟨_, rfl, e, da, qs, slps o P, x, 40, 3, rfl, .of he, tq, (d1.same S1).same s2, ox, (N.ok.slps o (by omega)).le (by omega), bd_of (by have := N.len; omega) (by decide) (by decide), fun e2 H3 de s3 => ⟨e2, rfl, (dget_r de).1, Nat.zero_le _, fun k0 hk0 => ⟨(by show 2 ≤ sizeLine; decide), fun p0 hp0 => ?_⟩⟩⟩
                                    obtain ⟨ov, r, gg, er, hr, s4⟩ := (dget_r de).2 k0 p0 hk0 hp0
                                    refine ⟨ov, gg, ?_⟩
                                    rw [er]
                                    clear er gg
                                    generalize upd (upd H3 k0 (.tup [])) p0 (.tup [V.int 0, .int 1]) = H4 at hr s4 ⊢
                                    rw [horO_get] at hr
                                    exact a.step hD ((s2.trans s3).trans s4) (p := hor x (slps o P)) hr hV (by omega)
                                  · rintro H1 a
                                    obtain ⟨us, hu, ul⟩ := a.done (Nat.le_refl _)
                                    exact ⟨D, us, rfl, hu, ul, sp.trans a.sm⟩
                                · rintro σ H1 ⟨lv, rv, rfl, hv, tv, s1⟩
                                  replace F0 := F0.same s1
                                  replace hx : TupI H1 pa x.1 x.2 := s1 _ _ hx
                                  replace ha : TupI H1 ar _ _ := s1 _ _ ha
                                  replace hf := s1 _ _ hf
                                  replace rr := rr.same s1
                                  clear s1 d1 hy H0
                                  have o3 : Ok 3 ((3, 1) : PQ) := ⟨by decide, by decide, by unfold Bd; decide, by unfold Bd; decide⟩
                                  have lS := N.lenS
                                  have oS := N.okS
                                  refine ⟨fun σ H' => σ = [some (.ref a), some (.ref b), some (.ref lp), none, some (.ref lh), none, some (.ref lk), some (.ref c), some (.ref ld), some (.str (curS (st P))), x10, some (.ref lf), none, some (.ref pa), some (.ref pb), some (.int (t : Int)), some (.ref da), some (.ref db), some (.ref lw), some (.ref ar), some (.ref lv), none, none, none] ∧ Same H1 H', ?_, ?_⟩
                                  · have lr : (rf.map V.ref).length = 6 := by rw [List.length_map, rr.len]; rfl
                                    refine ⟨_, rfl, lf, rfl, ⟨_, .of hf⟩, fun D hD => lc_list (xs := rf.map V.ref) (Acc TupP H1 D [hor x P, hor x (slps t P), hor x (slps 1 P), pl (hor x (itg P)) (cr (-1, 1) (hor y (itg P))), zz, hor (3, 1) P]) (.zero hD) (fun i H' _ a => .of (a.sm _ _ hf)) ?_ ?_⟩
                                    · rintro j v H2 hv' a
                                      refine ⟨rfl, ?_⟩
                                      have hi := (List.getElem?_eq_some_iff.mp hv').1
                                      rw [lr] at hi
                                      obtain ⟨r, p, e1, e2, hr2⟩ := rr.get (i := j) hi
                                      cases Option.some.inj ((map_at e1).symm.trans hv')
                                      exact ⟨_, rfl, r, p.1, p.2, rfl, RatAt.same hr2 a.sm, fun t' H5 tp s5 => a.step hD s5 (p := p) tp e2 (by omega)⟩
                                    · rintro H2 a
                                      obtain ⟨us, hu, ul⟩ := a.done (by rw [lr]; exact Nat.le_refl _)
                                      have S2 := a.sm
                                      refine ⟨_, rfl, _, rfl, (by show 2 ≤ sizeLine; decide), fun p1 hp1 => ?_⟩
                                      have s3 := same_upd (o := .tup [V.int 0, .int 1]) hp1
                                      have z1 : TupI (upd H2 p1 (.tup [V.int 0, .int 1])) p1 zz.1 zz.2 := upd_same
                                      generalize upd H2 p1 (.tup [V.int 0, .int 1]) = H3 at s3 z1
                                      have S3 := S2.trans s3
                                      refine ⟨_, rfl, fun dd hdd => ⟨Nat.zero_le _, fun k1 hk1 => ⟨(by show 2 ≤ sizeLine; decide), fun t3 ht3 => ⟨same_upd ht3 _ _ (same_upd hk1 _ _ upd_same), k1, [], rfl, same_upd ht3 _ _ upd_same, ?_⟩⟩⟩⟩
                                      have s6 : Same H3 (upd (upd (upd (upd H3 dd (.dT [])) k1 (.tup [])) t3 (.tup [V.int 3, .int 1])) dd (.dT [([], .ref t3)])) := Same.put (((same_upd hdd).trans (same_upd hk1)).trans (same_upd ht3)) hdd
                                      have ntd : t3 ≠ dd := fun z => by
                                        have q : upd (upd H3 dd (.dT [])) k1 (.tup []) dd = some (.dT []) := same_upd hk1 _ _ upd_same
                                        rw [z, q] at ht3
                                        cases ht3
                                      have d6 : DAt (upd (upd (upd (upd H3 dd (.dT [])) k1 (.tup [])) t3 (.tup [V.int 3, .int 1])) dd (.dT [([], .ref t3)])) dd (some (3, 1)) := ⟨t3, upd_same, (upd_ne ntd).trans upd_same⟩
                                      generalize upd (upd (upd (upd H3 dd (.dT [])) k1 (.tup [])) t3 (.tup [V.int 3, .int 1])) dd (.dT [([], .ref t3)]) = H6 at s6 d6
                                      have S6 := S3.trans s6
                                      refine ⟨lp, dd, rp, P, (3, 1), 3, 3, rfl, .of (S6 _ _ F0.hp), F0.rp.same S6, d6, o3, N.ok, bd_of (by have := N.len; omega) (by decide) (by decide), fun e H7 de s7 => ⟨e, rfl, (dget_r de).1, Nat.zero_le _, fun k0 hk0 => ⟨(by show 2 ≤ sizeLine; decide), fun p0 hp0 => ?_⟩⟩⟩
                                      obtain ⟨ov, r, gg, er, hr, s8⟩ := (dget_r de).2 k0 p0 hk0 hp0
                                      refine ⟨ov, gg, ?_⟩
                                      rw [er]
                                      clear er gg
                                      generalize upd (upd H7 k0 (.tup [])) p0 (.tup [V.int 0, .int 1]) = H8 at hr s8 ⊢
                                      rw [horO_get] at hr
                                      have S8 := (s6.trans s7).trans s8
                                      refine ⟨(by show 3 ≤ sizeLine; decide), fun p5 hp5 => ?_⟩
                                      have s9 := same_upd (o := .lst [V.ref ar, .ref p1, .ref r]) hp5
                                      have hv9 := s9 _ _ (S8 _ _ (S3 _ _ hv))
                                      refine ⟨lv, p5, _, _, rfl, rfl, hv9, upd_same, by rw [List.length_map, tv.len, sizeLine_eq]; show 3 + 3 ≤ 16777216; decide, fun p6 hp6 => ?_⟩
                                      have s10 := s9.trans (same_upd (o := .lst (rv.map V.ref ++ [V.ref ar, .ref p1, .ref r])) hp6)
                                      have tt : TupsAt (upd (upd H8 p5 (.lst [V.ref ar, .ref p1, .ref r])) p6 (.lst (rv.map V.ref ++ [V.ref ar, .ref p1, .ref r]))) (rv ++ [ar, p1, r]) [hor x P, hor x (slps t P), hor x (slps 1 P), pl (hor x (itg P)) (cr (-1, 1) (hor y (itg P))), zz, hor (3, 1) P] :=
                                        ((tv.same ((S3.trans S8).trans s10)).app (((LsAt.one (R := TupP) (show TupP _ r (hor (3, 1) P) from s10 _ _ hr)).cons (show TupP _ p1 zz from s10 _ _ (S8 _ _ z1))).cons (show TupP _ ar _ from s10 _ _ (S8 _ _ (S3 _ _ ha)))))
                                      refine ⟨_, _, .lst (.of (s10 _ _ (S8 _ _ (s3 _ _ hu)))) (pds_dp (ul.same ((s3.trans S8).trans s10))), .lst (.of (by rw [upd_same, List.map_append]; rfl)) (pds_dp tt), pds_shaped _, pds_shaped _, _, rfl, ?_⟩
                                      rw [pds_self]
                                      exact iteF ⟨rfl, (S3.trans S8).trans s10⟩
                                  · rintro σ H0 ⟨rfl, s1⟩
                                    replace F0 := F0.same s1
                                    replace hx : TupI H0 pa x.1 x.2 := s1 _ _ hx
                                    clear s1 hf rr hv tv ha H1
                                    refine ⟨fun σ H' => σ = [some (.ref a), some (.ref b), some (.ref lp), none, some (.ref lh), none, some (.ref lk), some (.ref c), some (.ref ld), some (.str (curS (st P))), x10, some (.ref lf), none, some (.ref pa), some (.ref pb), some (.int (t : Int)), some (.ref da), some (.ref db), some (.ref lw), some (.ref ar), some (.ref lv), none, none, none] ∧ Same H0 H', ?_, ?_⟩
                                    · have o4 : Ok 3 ((4, 1) : PQ) := ⟨by decide, by decide, by unfold Bd; decide, by unfold Bd; decide⟩
                                      have tyC : ∀ (G : Hp) (z : Addr) (rs' : List Addr) (qs' : List PQ), CurAt CC CR G z rs' qs' → TyX K G (.ref z) (.ref CC) := fun G z rs' qs' h => by
                                        obtain ⟨⟨dz, Lz, hz, _⟩, _⟩ := h
                                        exact .base (.ins hz C.cl C.ha C.hn C.ht C.hm)
                                      obtain ⟨dx, L, hc, hL⟩ := F0.cu.ex
                                      refine ⟨_, rfl, c, dx, _, rfl, hc, cf_no L (by decide +kernel), c, .int 4, rs, st P, (4, 1), 3, 3, rfl, F0.cu, .inr ⟨rfl, rfl⟩, o4, by decide, oS, by decide, by omega, fun c1 rs1 G1 cu1 s1 => ?_⟩
                                      obtain ⟨dx1, L1, hc1, _⟩ := cu1.ex
                                      refine ⟨c1, dx1, _, rfl, hc1, cf_no L1 (by decide +kernel), .inl ⟨c1, rs1, _, 1, 89, rfl, cu1, (inte_ok7 oS lS o4).strip, by decide, by have := inte_len (b := (4, 1)) lS; omega, fun c2 rs2 G2 cu2 s2 => ⟨_, rfl, ?_⟩⟩⟩
                                      rw [v_back N.ok] at cu2
                                      have S2 := s1.trans s2
                                      obtain ⟨dx2, L2', hc2, _⟩ := cu2.ex
                                      refine ⟨c2, dx2, _, _, rfl, hc2, tyC _ _ _ _ (F0.cu.same S2), C.f1, c2, .ref c, rs2, st P, rfl, cu2, .inl ⟨c, rs, st P, rfl, F0.cu.same S2, .inl ⟨rfl, fun G3 s3 => ⟨true, rfl, _, rfl, iteF ?_⟩⟩⟩⟩
                                      have S3 := S2.trans s3
                                      refine ⟨_, rfl, fun x4 dx4 nx nd ne => curve_made rfl nx nd (.of (S3 _ _ F0.hk)) (F0.na.same S3) (by have := N.lenPA; omega) fun rs4 G4 cu4 s4 => ⟨_, rfl, ?_⟩⟩
                                      rw [N.stPA] at cu4
                                      have S4 := S3.trans s4
                                      obtain ⟨dz4, L4, hc4, _⟩ := cu4.ex
                                      refine ⟨x4, dz4, _, _, rfl, hc4, tyC _ _ _ _ (F0.cu.same S4), C.f1, x4, .ref c, rs4, st P, rfl, cu4, .inl ⟨c, rs, st P, rfl, F0.cu.same S4, .inl ⟨rfl, fun G5 s5 => ⟨true, rfl, _, rfl, iteF ?_⟩⟩⟩⟩
                                      have S5 := S4.trans s5
                                      refine ⟨_, rfl, _, rfl, c, dx, _, _, rfl, S5 _ _ hc, .base (.str _), nfS, c, .str _, rs, st P, rfl, F0.cu.same S5, .inr ⟨_, rfl, false, rfl, _, rfl, iteF ?_⟩⟩
                                      refine ⟨_, rfl, (by show 1 ≤ sizeLine; decide), fun p1 hp1 => ?_⟩
                                      have s6 := same_upd (o := .lst [V.int 1]) hp1
                                      have S6 := S5.trans s6
                                      refine ⟨lk, p1, xs, _, rfl, rfl, S6 _ _ F0.hk, upd_same, ?_, fun p2 hp2 => ?_⟩
                                      · have := F0.na.len
                                        have := N.lenPA
                                        rw [sizeLine_eq]
                                        show xs.length + 1 ≤ _
                                        omega
                                      have s7 := same_upd (o := .lst (xs ++ [V.int 1])) hp2
                                      have S7 := S6.trans s7
                                      refine fun x8 dx8 nx nd ne => curve_made (ps := PA ++ [(1, 1)]) rfl nx nd (.of upd_same) ((F0.na.same S7).cons1 (q := (1, 1)) (.inr ⟨rfl, rfl⟩)) ?_ fun rs8 G8 cu8 s8 => ⟨_, rfl, ?_⟩
                                      · have := N.lenPA
                                        rw [List.length_append]
                                        show PA.length + 1 ≤ 900
                                        omega
                                      rw [st_self (by decide)] at cu8
                                      have S8 := S7.trans s8
                                      obtain ⟨dz8, L8, hc8, _⟩ := cu8.ex
                                      refine ⟨x8, dz8, _, _, rfl, hc8, tyC _ _ _ _ (F0.cu.same S8), C.f1, x8, .ref c, rs8, _, rfl, cu8, .inl ⟨c, rs, st P, rfl, F0.cu.same S8, .inr ⟨fun e => ?_, false, rfl, _, rfl, iteF ⟨rfl, S8⟩⟩⟩⟩
                                      have h1 := st_len P
                                      have h2 : PA.length = P.length + z := by rw [N.pa, List.length_append, List.length_replicate]
                                      rw [List.length_append] at e
                                      have h3 : ([((1 : Int), (1 : Int))] : List PQ).length = 1 := rfl
                                      omega
                                    · rintro σ H1 ⟨rfl, s1⟩
                                      replace F0 := F0.same s1
                                      replace hx : TupI H1 pa x.1 x.2 := s1 _ _ hx
                                      clear s1 H0
                                      refine ⟨fun σ H' => σ = [some (.ref a), some (.ref b), some (.ref lp), none, some (.ref lh), none, some (.ref lk), some (.ref c), some (.ref ld), some (.str (curS (st P))), x10, some (.ref lf), none, some (.ref pa), some (.ref pb), some (.int (t : Int)), some (.ref da), some (.ref db), some (.ref lw), some (.ref ar), some (.ref lv), none, none, none] ∧ Same H1 H', ?_, ?_⟩
                                      · obtain ⟨dx, L, hc, hL⟩ := F0.cu.ex
                                        refine ⟨_, rfl, c, dx, _, rfl, hc, cf_no L (by decide +kernel), _, rfl, .inl ⟨c, rs, st P, t, 3, rfl, F0.cu, oS, by decide, by omega, fun c3 rs3 G3 cu3 s3 => ?_⟩⟩
                                        obtain ⟨dx3, L3, hc3, _⟩ := cu3.ex
                                        refine ⟨c3, rfl, _, rfl, pa, x.1, x.2, rfl, s3 _ _ hx, ox.ne, ox.b.le (by decide), fun v4 G4 r4 s4 => ?_⟩
                                        rw [ox.low.1, ox.low.2] at r4
                                        refine ⟨.inr ⟨dx3, _, s4 _ _ hc3⟩, c3, .ref v4, rs3, _, x, 40, 3, rfl, cu3.same s4, .inl ⟨v4, rfl, r4⟩, ox, (oks_slps oS lS ht).1, bd_of (oks_slps oS lS ht).2 (by decide) (by decide), fun u1 G5 q1 s5 => ?_⟩
                                        have S5 := (s3.trans s4).trans s5
                                        refine ⟨_, rfl, c, dx, _, rfl, S5 _ _ hc, cf_no L (by decide +kernel), _, rfl, .inl ⟨c, rs, st P, t, 3, rfl, F0.cu.same S5, oS, by decide, by omega, fun c6 rs6 G6 cu6 s6 => ?_⟩⟩
                                        obtain ⟨dx6, L6, hc6, _⟩ := cu6.ex
                                        refine ⟨c6, rfl, _, rfl, pa, x.1, x.2, rfl, s6 _ _ (S5 _ _ hx), ox.ne, ox.b.le (by decide), fun v7 G7 r7 s7 => ?_⟩
                                        rw [ox.low.1, ox.low.2] at r7
                                        refine ⟨.inr ⟨dx6, _, s7 _ _ hc6⟩, c6, .ref v7, rs6, _, x, 40, 3, rfl, cu6.same s7, .inl ⟨v7, rfl, r7⟩, ox, (oks_slps oS lS ht).1, bd_of (oks_slps oS lS ht).2 (by decide) (by decide), fun u2 G8 q2 s8 => ?_⟩
                                        have q1' := q1.same ((s6.trans s7).trans s8)
                                        obtain ⟨du1, hu1⟩ := id q1'
                                        refine ⟨u1, du1, _, _, rfl, hu1, q2.ty T, T.f1, u1, u2, _, _, _, _, rfl, q1', q2, _, rfl, ?_⟩
                                        rw [decide_eq_true rfl, decide_eq_true rfl]
                                        exact ⟨_, rfl, iteF ⟨rfl, ((S5.trans s6).trans s7).trans s8⟩⟩
                                      · rintro σ H0 ⟨rfl, s1⟩
                                        replace F0 := F0.same s1
                                        clear s1 hx H1
                                        refine ⟨fun σ H' => ∃ v : V, σ = [some (.ref a), some (.ref b), some (.ref lp), none, some (.ref lh), none, some (.ref lk), some (.ref c), some (.ref ld), some (.str (curS (st P))), x10, some (.ref lf), none, some (.ref pa), some (.ref pb), some (.int (t : Int)), some (.ref da), some (.ref db), some (.ref lw), some (.ref ar), some (.ref lv), none, some v, none] ∧ OddN H' v ∧ Fx CR CC PT H' b 301 lp rp P lk xs PA c rs (st P), ?_, ?_⟩
                                        · refine ⟨_, rfl, (by show 1 ≤ sizeLine; decide), fun l1 hl1 => ⟨(by show 4 ≤ sizeLine; decide), fun l2 hl2 => ?_⟩⟩
                                          have s1 := same_upd (o := .lst [V.int 1]) hl1
                                          have s2 := same_upd (o := .lst [V.non, .bl true, .str "1", .ref l1]) hl2
                                          have F2 := F0.same (s1.trans s2)
                                          obtain ⟨ys, hb⟩ := F0.B.lst
                                          have n1 : l1 ≠ b := Ne.symm (ne_of_none hb hl1)
                                          have n2 : l2 ≠ b := Ne.symm (ne_of_none (s1 _ _ hb) hl2)
                                          refine ⟨b, l2, 300, _, rfl, F2.B, by decide, n2, upd_same, by show 0 < 4; decide, by show 4 ≤ 1000; decide, fun i v H3 hv B3 f3 => ⟨v, rfl, ?_, F2.but B3 f3.1⟩⟩
                                          rcases i with _ | _ | _ | _ | i
                                          · cases Option.some.inj hv
                                            exact .inl rfl
                                          · cases Option.some.inj hv
                                            exact .inr (.inr (.inr (.inl rfl)))
                                          · cases Option.some.inj hv
                                            exact .inr (.inl rfl)
                                          · cases Option.some.inj hv
                                            exact .inr (.inr (.inr (.inr ⟨l1, rfl, f3.1 _ _ (s2 _ _ upd_same) n1⟩)))
                                          · cases hv
                                        · clear F0 H0
                                          rintro σ H0 ⟨v, rfl, ov, F0⟩
                                          refine ⟨fun σ H' => ∃ u : V, σ = [some (.ref a), some (.ref b), some (.ref lp), none, some (.ref lh), none, some (.ref lk), some (.ref c), some (.ref ld), some (.str (curS (st P))), x10, some (.ref lf), none, some (.ref pa), some (.ref pb), some (.int (t : Int)), some (.ref da), some (.ref db), some (.ref lw), some (.ref ar), some (.ref lv), none, some v, some u] ∧ Late H' u ∧ OddN H' v ∧ Fx CR CC PT H' b 302 lp rp P lk xs PA c rs (st P), ?_, ?_⟩
                                          · refine ⟨_, rfl, _, rfl, (by show 4 ≤ sizeLine; decide), fun l2 hl2 => ?_⟩
                                            have s2 := same_upd (o := .lst [V.int (-1), .non, .bl true, .str "0"]) hl2
                                            have F2 := F0.same s2
                                            obtain ⟨ys, hb⟩ := F0.B.lst
                                            have n2 : l2 ≠ b := Ne.symm (ne_of_none hb hl2)
                                            refine ⟨b, l2, 301, _, rfl, F2.B, by decide, n2, upd_same, by show 0 < 4; decide, by show 4 ≤ 1000; decide, fun i u H3 hv B3 f3 => ⟨u, rfl, ?_, ?_, F2.but B3 f3.1⟩⟩
                                            · rcases i with _ | _ | _ | _ | i
                                              · cases Option.some.inj hv
                                                exact .inr rfl
                                              · cases Option.some.inj hv
                                                exact .inl (.inl rfl)
                                              · cases Option.some.inj hv
                                                exact .inl (.inr (.inr (.inr (.inl rfl))))
                                              · cases Option.some.inj hv
                                                exact .inl (.inr (.inr (.inl rfl)))
                                              · cases hv
                                            · rcases ov with h | h | h | h | ⟨l, e, h⟩
                                              · exact .inl h
                                              · exact .inr (.inl h)
                                              · exact .inr (.inr (.inl h))
                                              · exact .inr (.inr (.inr (.inl h)))
                                              · refine .inr (.inr (.inr (.inr ⟨l, e, f3.1 _ _ (s2 _ _ h) fun w => ?_⟩)))
                                                obtain ⟨l', ns', p', g', s', c', k1, _⟩ := F0.B
                                                rw [w, k1] at h
                                                cases h
                                          · clear F0 ov H0
                                            rintro σ H0 ⟨u, rfl, lu, ov, F0⟩
                                            refine ⟨F0.T, fun H1 f0 c0 e1 T1 l0 => .inl ⟨f0, c0, d0 K CR CC CI, List.mem_singleton.mpr rfl, rfl, l0, l0.fn, ?_⟩⟩
                                            have ov1 : OddN H1 v := ov.kept e1
                                            have lu1 : Late H1 u := lu.kept e1
                                            have cu1 := F0.cu.extN e1
                                            clear F0 ov lu e1 H0
                                            refine ⟨_, rfl, (by show 3 ≤ sizeLine; decide), fun l3 hl3 x3 dx3 nx nd ne => ?_⟩
                                            have s3 := same_upd (o := .lst [V.int 1, v, .non]) hl3
                                            have sn := made_same (o1 := .own x3) (o2 := .ins CC dx3 []) nx nd But.refl
                                            have S3 := s3.trans sn
                                            refine ⟨x3, dx3, l3, [.int 1, v, .non], 1, v, rfl, upd_same, .of (sn _ _ upd_same), rfl, by decide, fun i y hi hy => ?_, fun H' s' => OddN.notNum T kL (ov1.same (S3.trans s')), (ov1.same S3).adm, fun d H' s' hd => ?_⟩
                                            · have i0 : i = 0 := by omega
                                              subst i0
                                              cases Option.some.inj hy
                                              exact ⟨(1, 1), .inr ⟨rfl, rfl⟩⟩
                                            refine told_in TI s' hd fun t1 H2 h1 s2 => ?_
                                            have S2 := S3.trans s2
                                            have ov2 := ov1.same S2
                                            have lu2 := lu1.same S2
                                            have cu2 := cu1.same S2
                                            refine ⟨Tabs.same T1 S2, fun H3 f1 c1 U1 e3 T3 l1 => .inr ⟨f1, c1, U1, d1 K CR CC CI, List.mem_singleton.mpr rfl, rfl, l1, l1, ?_⟩⟩
                                            have ov3 : OddN H3 v := ov2.kept e3
                                            have lu3 : Late H3 u := lu2.kept e3
                                            have cu3 := cu2.extN e3
                                            have h13 : H3 t1 = some (.tup [.str "InvalidNumber", v]) := e3 _ _ h1 (fun ps z => by cases z)
                                            clear ov1 lu1 cu1 S2 S3 ov2 lu2 cu2 h1
                                            obtain ⟨dx, L, hc, hL⟩ := cu3.ex
                                            refine ⟨_, rfl, c, dx, _, rfl, hc, cf_no L (by decide +kernel), _, rfl, .inr ⟨c, u, rfl, lu3.adm, ?_, fun d H' s' hd => ?_⟩⟩
                                            · rcases lu3 with h | h
                                              · exact .inl h.notInt
                                              · exact .inr ⟨-1, h, by decide⟩
                                            refine told_in TI s' hd fun t2 H4 h2 s4 => ?_
                                            have h14 := s4 _ _ h13
                                            have ov4 := ov3.same s4
                                            have lu4 := lu3.same s4
                                            refine ⟨(by show 2 ≤ sizeLine; decide), fun p1 hp1 => ?_⟩
                                            have k1 := same_upd (o := .lst [V.ref t1, .ref t2]) hp1
                                            have e1 : (upd H4 p1 (.lst [V.ref t1, .ref t2])) p1 = some (.lst [V.ref t1, .ref t2]) := upd_same
                                            generalize upd H4 p1 (.lst [V.ref t1, .ref t2]) = H5 at k1 e1 ⊢
                                            refine ⟨_, rfl, (by show 2 ≤ sizeLine; decide), fun p2 hp2 => ?_⟩
                                            have k2 := same_upd (o := .tup [V.str "InvalidNumber", v]) hp2
                                            have e2 : (upd H5 p2 (.tup [V.str "InvalidNumber", v])) p2 = some (.tup [V.str "InvalidNumber", v]) := upd_same
                                            generalize upd H5 p2 (.tup [V.str "InvalidNumber", v]) = H6 at k2 e2 ⊢
                                            refine ⟨_, rfl, (by show 2 ≤ sizeLine; decide), fun p3 hp3 => ?_⟩
                                            have k3 := same_upd (o := .tup [V.str "InvalidNumber", u]) hp3
                                            have e3' : (upd H6 p3 (.tup [V.str "InvalidNumber", u])) p3 = some (.tup [V.str "InvalidNumber", u]) := upd_same
                                            generalize upd H6 p3 (.tup [V.str "InvalidNumber", u]) = H7 at k3 e3' ⊢
                                            refine ⟨(by show 2 ≤ sizeLine; decide), fun p4 hp4 => ?_⟩
                                            have k4 := same_upd (o := .lst [V.ref p2, .ref p3]) hp4
                                            have K4 := ((k1.trans k2).trans k3).trans k4
                                            refine ⟨.ref p1, .ref p4, rfl, .inr ⟨p1, p4, _, _, rfl, rfl, .inr ⟨((k2.trans k3).trans k4) _ _ e1, upd_same⟩, rfl, (by show 2 ≤ 1000; decide), fun k x y hx hy => ?_⟩, fun H8 s8 => q _⟩
                                            rcases k with _ | _ | k
                                            · cases Option.some.inj hx
                                              cases Option.some.inj hy
                                              exact like_pair (K4 _ _ h14) ((k3.trans k4) _ _ e2) (Late.like (.inl (ov4.same K4)))
                                            · cases Option.some.inj hx
                                              cases Option.some.inj hy
                                              exact like_pair (K4 _ _ h2) (k4 _ _ e3') (Late.like (lu4.same K4))
                                            · cases hx
end
end K36

set_option Elab.async false
set_option linter.all false
set_option maxRecDepth 100000
set_option maxHeartbeats 8000000
set_option pp.maxSteps 400
namespace K36
open PySem PySem.Spec PyProof.Rows L2 Ux
def isB (a : Option (Option Value)) (v : Value) : Bool := decide (a = some (some v))
def isN (a : Option (Option Value)) : Bool := decide (a = some none)
theorem isB_of {a : Option (Option Value)} {v : Value} (h : isB a v = true) : a = some (some v) := of_decide_eq_true h
theorem isN_of {a : Option (Option Value)} (h : isN a = true) : a = some none := of_decide_eq_true h
/-- what every class of the text has -/
def chC (K : PySem.W.Frag) (C f : Addr) : Bool := PySem.W.plainGet K C Str.empty && (PySem.W.hasDictIn K C && (PySem.W.plainOver K C && (isB (PySem.W.findIn K (.ref C) "__setattr__") (.builtin "object.__setattr__") &&
  (isB (PySem.W.findIn K (.ref C) "__class__") (.builtin "object.__class__") && (decide (PySem.W.mroIn K C (.type "object") = some true) && (decide (PySem.W.kitOne K (.ref C) (.ref C) = some true) &&
  (PySem.W.makesIn K C && (isB (PySem.W.findIn K (.ref C) "__init__") (.ref f) && (PySem.W.isFn K (.ref f) && PySem.W.keepIn K (.ref C))))))))))
def chM (K : PySem.W.Frag) (C : Addr) (m : Str) (f : Addr) : Bool := isB (PySem.W.findIn K (.ref C) m) (.ref f) && PySem.W.isFn K (.ref f)
def chG (K : PySem.W.Frag) : Bool := isB (PySem.W.specialIn K (.builtin "object.__class__") "__get__") (.builtin "getset_descriptor.__get__") && decide (PySem.W.takesIn K (.builtin "object.__class__") = some true)
theorem cls_of {K : PySem.W.Frag} {C f : Addr} (h : chC K C f = true) : Cls K C ∧ PySem.W.findIn K (.ref C) "__class__" = some (some (.builtin "object.__class__")) ∧ PySem.W.mroIn K C (.type "object") = some true ∧ PySem.W.kitOne K (.ref C) (.ref C) = some true ∧ Mk K C f := by
  simp only [chC, Bool.and_eq_true] at h
  obtain ⟨h1, h2, h3, h4, h5, h6, h7, h8, h9, h10, h11⟩ := h
  exact ⟨⟨h1, h2, h3, isB_of h4⟩, isB_of h5, of_decide_eq_true h6, of_decide_eq_true h7, ⟨h8, isB_of h9, h10, h11⟩⟩
theorem own_of {K : PySem.W.Frag} {C : Addr} {m : Str} {f : Addr} (h : chM K C m f = true) : OwnM K C m f := ⟨isB_of (Bool.and_eq_true_iff.mp h).1, (Bool.and_eq_true_iff.mp h).2⟩
theorem same_zero {P : Program} {w : World} {K : PySem.W.Frag} {mg : Str → Option Value} {base : Heap} {f : Addr} {fd : FuncData} : FnOk P w K mg base CX0 0 f fd ["_law_found", "_law_due"] (spSame 0) :=
  ⟨fun _ _ _ _ h => by obtain ⟨_, _, rfl, z, _⟩ := h; exact z.elim, fun _ _ _ _ _ _ _ _ _ _ _ _ _ h => by obtain ⟨_, _, _, z, _⟩ := h; exact z.elim⟩
abbrev pR3 : List Str := ["self", "top", "bottom"]
theorem r_binds2 {K : PySem.W.Frag} {f : Addr} {fd : FuncData} (F : FunD K "__init__" "Ratio.__init__" (defArgs sRInit) (defBody sRInit) (defScope sRInit) [.int 1] [] f fd) : ∃ ds, Vals [V.int 1] ds ∧ Binds K fd ["self", "top", "bottom"] ds :=
  F.binds1 2 0 (by simp) rfl fun T kV doc pm an cdv ct us its h1 h2 => match us, its, h1, h2 with | [_, _], [_], _, _ => ⟨_, rfl, rfl⟩
theorem r_binds3 {K : PySem.W.Frag} {f : Addr} {fd : FuncData} (F : FunD K "__init__" "Ratio.__init__" (defArgs sRInit) (defBody sRInit) (defScope sRInit) [.int 1] [] f fd) : Binds K fd ["self", "top", "bottom"] [] := by
  obtain ⟨ds, v, b⟩ := F.binds1 (ps := ["self", "top", "bottom"]) 3 1 (by simp) rfl fun T kV doc pm an cdv ct us its h1 h2 => match us, its, h1, h2 with | [_, _, _], [_], _, _ => ⟨_, rfl, rfl⟩
  cases v
  exact b
def chR (K : PySem.W.Frag) (C fi fe fn fo fs : Addr) : Bool := chC K C fi && (isN (PySem.W.findIn K (.ref C) "top") && (isN (PySem.W.findIn K (.ref C) "bottom") && (decide (PySem.W.kitOne K (.type "int") (.ref C) = some false) && (decide (PySem.W.kitOne K (.type "NoneType") (.ref C) = some false) &&
  (decide (PySem.W.kitOne K (.type "str") (.ref C) = some false) && (decide (PySem.W.kitOne K (.type "bool") (.ref C) = some false) && (decide (PySem.W.kitOne K (.ref C) (.type "str") = some false) && (decide (PySem.W.kitOne K (.ref C) (.type "int") = some false) &&
  (PySem.W.notFirst K C (.ref C) && (chM K C "__eq__" fe && (isB (PySem.W.findIn K (.ref C) "__ne__") (.builtin "object.__ne__") && (chM K C "__neg__" fn && (chM K C "over" fo && (PySem.W.keepIn K (.ref fo) && (chM K C "__str__" fs && decide (PySem.W.kitOne K (.type "list") (.ref C) = some false))))))))))))))))
def chO (K : PySem.W.Frag) (C f1 f3 g3 : Addr) : Bool := PySem.W.selfFirst K C && (chM K C (PySem.dunder "add") f1 && (chM K C (PySem.dunder "mul") f3 && (isB (PySem.W.findIn K (.ref C) (dunderR "mul")) (.ref g3) &&
  ((PySem.W.findIn K (.type "int") (PySem.dunder "mul")).isSome && ((PySem.W.findIn K (.type "int") (dunderR "mul")).isSome && decide (PySem.W.subIn K (.type "int") (.ref C) = some false))))))
theorem op_of {K : PySem.W.Frag} {C f1 f3 g3 : Addr} (h : chO K C f1 f3 g3 = true) : BinM K C "add" f1 ∧ BinM K C "mul" f3 ∧ BinI K C "mul" := by
  simp only [chO, Bool.and_eq_true] at h
  obtain ⟨h1, h2, h3, h4, h6, h7, h8⟩ := h
  exact ⟨⟨h1, (own_of h2).at_, (own_of h2).fn⟩, ⟨h1, (own_of h3).at_, (own_of h3).fn⟩, ⟨⟨_, isB_of h4⟩, Option.isSome_iff_exists.mp h6, Option.isSome_iff_exists.mp h7, of_decide_eq_true h8⟩⟩
def chCu (K : PySem.W.Frag) (C fi fe fs fr fw fl fg fc aD : Addr) : Bool := chC K C fi && (isN (PySem.W.findIn K (.ref C) "_worths") && (decide (PySem.W.kitOne K (.type "str") (.ref C) = some false) && (PySem.W.notFirst K C (.ref C) && (PySem.W.notFirst K C (.type "str") && (chM K C "__eq__" fe &&
  (isB (PySem.W.findIn K (.ref C) "__ne__") (.builtin "object.__ne__") && (chM K C "__str__" fs && (chM K C "__repr__" fr && (isB (PySem.W.findIn K (.ref C) "__format__") (.builtin "object.__format__") && (chM K C "worths" fw && (PySem.W.keepIn K (.ref fw) && (chM K C "slope_curve" fl && (PySem.W.keepIn K (.ref fl) &&
  (chM K C "integral_curve" fg && (PySem.W.keepIn K (.ref fg) && (chM K C "__call__" fc && (PySem.W.fnIn K fc && (isB (PySem.W.specialIn K (.ref aD) "__get__") (.builtin "property.__get__") && decide (PySem.W.takesIn K (.ref aD) = some true)))))))))))))))))))
def chB (K : PySem.W.Frag) (C : Addr) (ini : String) : Bool :=
  isB (PySem.W.specialIn K (.ref C) "__getattribute__") (.builtin "type.__getattribute__") && (PySem.W.readsIn K C (.type "type") && PySem.W.handedIn (.builtin ini))
abbrev veB : List Value := [.type "ValueError", .type "Exception", .type "BaseException", .type "object"]
def chI (K : PySem.W.Frag) (C CS CM f : Addr) : Bool :=
  PySem.W.excInitIn K C veB "ValueError.__new__" && (PySem.W.excOver K C veB && (PySem.W.hasDictIn K C && (isB (PySem.W.findIn K (.ref C) "__setattr__") (.builtin "object.__setattr__") && (PySem.W.keepIn K (.ref C) && (isB (PySem.W.findIn K (.ref C) "__getattribute__") (.builtin "BaseException.__getattribute__") &&
  (isN (PySem.W.findIn K (.ref C) "__getattr__") && (decide (PySem.W.subIn K (.ref C) (.type "BaseException") = some true) && (fieldNames.all (fun x => isN (PySem.W.findIn K (.ref C) x)) && decide (PySem.W.exmAny K (.ref C) [.ref CS, .ref CM] = some true)))))))))
theorem rt_of {K : PySem.W.Frag} {mg : Str → Option Value} {C fi fe fn fo fs : Addr} (h : chR K C fi fe fn fo fs = true) (g : chG K = true) (gl : mg "Ratio" = some (.ref C)) : RT K mg C ∧ Mk K C fi ∧ OwnM K C "__eq__" fe ∧ NeO K C ∧ OwnM K C "__neg__" fn ∧ Meth K C "over" fo ∧ OwnM K C "__str__" fs ∧ PySem.W.kitOne K (.type "list") (.ref C) = some false := by
  simp only [chR, Bool.and_eq_true] at h
  obtain ⟨h0, n1, n2, h1, h2, h3, h4, h5, h6, h7, h8, h9, h10, h11, h12, h13, h14⟩ := h
  obtain ⟨c1, c2, c3, c4, c5⟩ := cls_of h0
  obtain ⟨g1, g2⟩ := Bool.and_eq_true_iff.mp g
  exact ⟨⟨c1, isN_of n1, isN_of n2, gl, c2, isB_of g1, of_decide_eq_true g2, c3, c4, of_decide_eq_true h1, of_decide_eq_true h2, of_decide_eq_true h3, of_decide_eq_true h4, of_decide_eq_true h5, of_decide_eq_true h6, h7⟩, c5, own_of h8, ⟨isB_of h9, c3⟩, own_of h10, ⟨(own_of h11).at_, (own_of h11).fn, h12⟩, own_of h13, of_decide_eq_true h14⟩
theorem ct_of {K : PySem.W.Frag} {mg : Str → Option Value} {C fi fe fs fr fw fl fg fc aD : Addr} (h : chCu K C fi fe fs fr fw fl fg fc aD = true) (g : chG K = true) (gl : mg "Curve" = some (.ref C)) : CT K mg C ∧ Mk K C fi ∧ OwnM K C "__eq__" fe ∧ NeO K C ∧ OwnM K C "__str__" fs ∧ OwnM K C "__repr__" fr ∧ FmO K C ∧ Meth K C "worths" fw ∧
    Meth K C "slope_curve" fl ∧ Meth K C "integral_curve" fg ∧ StX.CallO K C fc ∧ PySem.W.specialIn K (.ref aD) "__get__" = some (some (.builtin "property.__get__")) ∧ PySem.W.takesIn K (.ref aD) = some true ∧ PySem.W.notFirst K C (.type "str") = true := by
  simp only [chCu, Bool.and_eq_true] at h
  obtain ⟨h0, n1, h1, h2, h3, h4, h5, h6, h7, h8, h9, h10, h11, h12, h13, h14, h15, h16, h17, h18⟩ := h
  obtain ⟨c1, c2, c3, c4, c5⟩ := cls_of h0
  obtain ⟨g1, g2⟩ := Bool.and_eq_true_iff.mp g
  exact ⟨⟨c1, isN_of n1, gl, c2, isB_of g1, of_decide_eq_true g2, c3, c4, of_decide_eq_true h1, h2, h3⟩, c5, own_of h4, ⟨isB_of h5, c3⟩, own_of h6, own_of h7, ⟨isB_of h8, c3⟩, ⟨(own_of h9).at_, (own_of h9).fn, h10⟩, ⟨(own_of h11).at_, (own_of h11).fn, h12⟩, ⟨(own_of h13).at_, (own_of h13).fn, h14⟩,
    ⟨(own_of h15).at_, (own_of h15).fn, h16⟩, isB_of h17, of_decide_eq_true h18, h3⟩
theorem r_kSl {K : PySem.W.Frag} {f : Addr} {fd : FuncData} (F : FunD K "slope_curve" "Curve.slope_curve" (defArgs sCSlo) (defBody sCSlo) (defScope sCSlo) [.int 1] [] f fd) : KBinds K fd ["self", "times"] ["times"] g11 g11 := by
  obtain ⟨_, h⟩ := F.kbindsD (ps := ["self", "times"]) 1 ["times"] (fun {α : Type} (a b c : List α) => a ++ c) (by simp) (fun a b c => a.append c) fun T kV doc pm an cdv ct us its ws h1 h2 h3 => match us, its, ws, h1, h2, h3 with | [_], [_], [_], _, _, _ => ⟨_, rfl, rfl⟩
  exact kb_of h
theorem r_kIn {K : PySem.W.Frag} {f : Addr} {fd : FuncData} (F : FunD K "integral_curve" "Curve.integral_curve" (defArgs sCInt) (defBody sCInt) (defScope sCInt) [.int 0] [] f fd) : KBinds K fd ["self", "begin"] ["begin"] g11 g11 := by
  obtain ⟨_, h⟩ := F.kbindsD (ps := ["self", "begin"]) 1 ["begin"] (fun {α : Type} (a b c : List α) => a ++ c) (by simp) (fun a b c => a.append c) fun T kV doc pm an cdv ct us its ws h1 h2 h3 => match us, its, ws, h1, h2, h3 with | [_], [_], [_], _, _, _ => ⟨_, rfl, rfl⟩
  exact kb_of h
theorem r_bSl {K : PySem.W.Frag} {f : Addr} {fd : FuncData} (F : FunD K "slope_curve" "Curve.slope_curve" (defArgs sCSlo) (defBody sCSlo) (defScope sCSlo) [.int 1] [] f fd) : Binds K fd ["self", "times"] [] ∧ ∃ ds, Vals [V.int 1] ds ∧ Binds K fd ["self", "times"] ds := by
  refine ⟨?_, F.binds1 1 0 (by simp) rfl fun T kV doc pm an cdv ct us its h1 h2 => match us, its, h1, h2 with | [_], [_], _, _ => ⟨_, rfl, rfl⟩⟩
  obtain ⟨ds, v, b⟩ := F.binds1 (ps := ["self", "times"]) 2 1 (by simp) rfl fun T kV doc pm an cdv ct us its h1 h2 => match us, its, h1, h2 with | [_, _], [_], _, _ => ⟨_, rfl, rfl⟩
  cases v
  exact b
theorem r_bIn {K : PySem.W.Frag} {f : Addr} {fd : FuncData} (F : FunD K "integral_curve" "Curve.integral_curve" (defArgs sCInt) (defBody sCInt) (defScope sCInt) [.int 0] [] f fd) : Binds K fd ["self", "begin"] [] := by
  obtain ⟨ds, v, b⟩ := F.binds1 (ps := ["self", "begin"]) 2 1 (by simp) rfl fun T kV doc pm an cdv ct us its h1 h2 => match us, its, h1, h2 with | [_, _], [_], _, _ => ⟨_, rfl, rfl⟩
  cases v
  exact b
theorem all_mk {l : PySem.W.OpenLaw} {w : World} {K : PySem.W.Frag} {h : Heap} {mg : Str → Option Value} {fa CR CC CI CS CM cL PT g_sho g_isi g_isn g_rof g_itx g_rtx g_wlz g_slw g_bag g_pul g_lof g_sam g_lfi g_lot g_why g_low g_plu g_cro g_par g_lra g_ptx g_fra g_sum g_tim g_ste g_cat g_law g_req g_add g_mul g_neg g_ovr g_rst g_cin g_cwo g_ccl g_ceq g_cst g_crp g_rmu g_iin T_rin g_rin T_csl g_csl T_cig g_cig aD g_cdg : Addr} (X : K.In h) (G : h.Ns mainGlobals mg) (hfa : mg "law" = some (.ref fa)) (hPT : h.get? PT = some { cls := .none, data := .fields #[] }) (nPT : K.lookup PT = none) (hCH : PySem.W.CodeHd h cL PT)
    {tC : Tok} {restD : List Value}
    {od_sho an_sho : Option Addr} {sl_sho : Array (Option Value)} {oc_sho kV_sho dc_sho pm_sho cd_sho ct_sho : Value}
    {od_isi an_isi : Option Addr} {sl_isi : Array (Option Value)} {oc_isi kV_isi dc_isi pm_isi cd_isi ct_isi : Value}
    {od_isn an_isn : Option Addr} {sl_isn : Array (Option Value)} {oc_isn kV_isn dc_isn pm_isn cd_isn ct_isn : Value}
    {od_rof an_rof : Option Addr} {sl_rof : Array (Option Value)} {oc_rof kV_rof dc_rof pm_rof cd_rof ct_rof : Value}
    {od_itx an_itx : Option Addr} {sl_itx : Array (Option Value)} {oc_itx kV_itx dc_itx pm_itx cd_itx ct_itx : Value}
    {od_rtx an_rtx : Option Addr} {sl_rtx : Array (Option Value)} {oc_rtx kV_rtx dc_rtx pm_rtx cd_rtx ct_rtx : Value}
    {od_wlz an_wlz : Option Addr} {sl_wlz : Array (Option Value)} {oc_wlz kV_wlz dc_wlz pm_wlz cd_wlz ct_wlz : Value}
    {od_slw an_slw : Option Addr} {sl_slw : Array (Option Value)} {oc_slw kV_slw dc_slw pm_slw cd_slw ct_slw : Value}
    {od_bag an_bag : Option Addr} {sl_bag : Array (Option Value)} {oc_bag kV_bag dc_bag pm_bag cd_bag ct_bag : Value}
    {od_pul an_pul : Option Addr} {sl_pul : Array (Option Value)} {oc_pul kV_pul dc_pul pm_pul cd_pul ct_pul : Value}
    {od_lof an_lof : Option Addr} {sl_lof : Array (Option Value)} {oc_lof kV_lof dc_lof pm_lof cd_lof ct_lof : Value}
    {od_sam an_sam : Option Addr} {sl_sam : Array (Option Value)} {oc_sam kV_sam dc_sam pm_sam cd_sam ct_sam : Value}
    {od_lfi an_lfi : Option Addr} {sl_lfi : Array (Option Value)} {oc_lfi kV_lfi dc_lfi pm_lfi cd_lfi ct_lfi : Value}
    {od_lot an_lot : Option Addr} {sl_lot : Array (Option Value)} {oc_lot kV_lot dc_lot pm_lot cd_lot ct_lot : Value}
    {od_why an_why : Option Addr} {sl_why : Array (Option Value)} {oc_why kV_why dc_why pm_why cd_why ct_why : Value}
    {od_low an_low : Option Addr} {sl_low : Array (Option Value)} {oc_low kV_low dc_low pm_low cd_low ct_low : Value}
    {od_plu an_plu : Option Addr} {sl_plu : Array (Option Value)} {oc_plu kV_plu dc_plu pm_plu cd_plu ct_plu : Value}
    {od_cro an_cro : Option Addr} {sl_cro : Array (Option Value)} {oc_cro kV_cro dc_cro pm_cro cd_cro ct_cro : Value}
    {od_par an_par : Option Addr} {sl_par : Array (Option Value)} {oc_par kV_par dc_par pm_par cd_par ct_par : Value}
    {od_lra an_lra : Option Addr} {sl_lra : Array (Option Value)} {oc_lra kV_lra dc_lra pm_lra cd_lra ct_lra : Value}
    {od_ptx an_ptx : Option Addr} {sl_ptx : Array (Option Value)} {oc_ptx kV_ptx dc_ptx pm_ptx cd_ptx ct_ptx : Value}
    {od_fra an_fra : Option Addr} {sl_fra : Array (Option Value)} {oc_fra kV_fra dc_fra pm_fra cd_fra ct_fra : Value}
    {od_sum an_sum : Option Addr} {sl_sum : Array (Option Value)} {oc_sum kV_sum dc_sum pm_sum cd_sum ct_sum : Value}
    {od_tim an_tim : Option Addr} {sl_tim : Array (Option Value)} {oc_tim kV_tim dc_tim pm_tim cd_tim ct_tim : Value}
    {od_ste an_ste : Option Addr} {sl_ste : Array (Option Value)} {oc_ste kV_ste dc_ste pm_ste cd_ste ct_ste : Value}
    {od_cat an_cat : Option Addr} {sl_cat : Array (Option Value)} {oc_cat kV_cat dc_cat pm_cat cd_cat ct_cat : Value}
    {od_law an_law : Option Addr} {sl_law : Array (Option Value)} {oc_law kV_law dc_law pm_law ct_law : Value}
    {od_req an_req : Option Addr} {sl_req : Array (Option Value)} {oc_req kV_req dc_req pm_req cd_req ct_req : Value}
    {od_add an_add : Option Addr} {sl_add : Array (Option Value)} {oc_add kV_add dc_add pm_add cd_add ct_add : Value}
    {od_mul an_mul : Option Addr} {sl_mul : Array (Option Value)} {oc_mul kV_mul dc_mul pm_mul cd_mul ct_mul : Value}
    {od_neg an_neg : Option Addr} {sl_neg : Array (Option Value)} {oc_neg kV_neg dc_neg pm_neg cd_neg ct_neg : Value}
    {od_ovr an_ovr : Option Addr} {sl_ovr : Array (Option Value)} {oc_ovr kV_ovr dc_ovr pm_ovr cd_ovr ct_ovr : Value}
    {od_rst an_rst : Option Addr} {sl_rst : Array (Option Value)} {oc_rst kV_rst dc_rst pm_rst cd_rst ct_rst : Value}
    {od_cin an_cin : Option Addr} {sl_cin : Array (Option Value)} {oc_cin kV_cin dc_cin pm_cin cd_cin ct_cin : Value}
    {od_cwo an_cwo : Option Addr} {sl_cwo : Array (Option Value)} {oc_cwo kV_cwo dc_cwo pm_cwo cd_cwo ct_cwo : Value}
    {od_ccl an_ccl : Option Addr} {sl_ccl : Array (Option Value)} {oc_ccl kV_ccl dc_ccl pm_ccl cd_ccl ct_ccl : Value}
    {od_ceq an_ceq : Option Addr} {sl_ceq : Array (Option Value)} {oc_ceq kV_ceq dc_ceq pm_ceq cd_ceq ct_ceq : Value}
    {od_cst an_cst : Option Addr} {sl_cst : Array (Option Value)} {oc_cst kV_cst dc_cst pm_cst cd_cst ct_cst : Value}
    {od_crp an_crp : Option Addr} {sl_crp : Array (Option Value)} {oc_crp kV_crp dc_crp pm_crp cd_crp ct_crp : Value}
    {od_iin an_iin : Option Addr} {sl_iin : Array (Option Value)} {oc_iin kV_iin dc_iin pm_iin cd_iin ct_iin : Value}
    {od_rin an_rin : Option Addr} {sl_rin : Array (Option Value)} {oc_rin kV_rin dc_rin pm_rin cd_rin ct_rin : Value}
    {oT_rin : Value} {oD_rin : Option Addr} {nT_rin : Nat} {tk_rin : Tok} {sT_rin : Array (Option Value)}
    {od_csl an_csl : Option Addr} {sl_csl : Array (Option Value)} {oc_csl kV_csl dc_csl pm_csl cd_csl ct_csl : Value}
    {oT_csl : Value} {oD_csl : Option Addr} {nT_csl : Nat} {tk_csl : Tok} {sT_csl : Array (Option Value)}
    {od_cig an_cig : Option Addr} {sl_cig : Array (Option Value)} {oc_cig kV_cig dc_cig pm_cig cd_cig ct_cig : Value}
    {oT_cig : Value} {oD_cig : Option Addr} {nT_cig : Nat} {tk_cig : Tok} {sT_cig : Array (Option Value)}
    {od_cdg an_cdg : Option Addr} {sl_cdg : Array (Option Value)} {oc_cdg kV_cdg dc_cdg pm_cdg cd_cdg ct_cdg : Value}
    {nmI qI : Str} {NI : Addr} {bsI bmI : List Value} {snI : List Str} {subI : List Value} {abI : Bool} {colI : Option Bool} {ddI : Option Addr} {kI0 kI1 kI2 kI3 kI5 : Option Value}
    (aR : PySem.W.nsIn K mainGlobals "Ratio" = some (some (.ref CR))) (aC : PySem.W.nsIn K mainGlobals "Curve" = some (some (.ref CC))) (aI : PySem.W.nsIn K mainGlobals "InvalidNumber" = some (some (.ref CI))) (aS : PySem.W.nsIn K mainGlobals "SlopeError" = some (some (.ref CS))) (aM : PySem.W.nsIn K mainGlobals "Missing" = some (some (.ref CM))) (aGc : PySem.W.nsIn K mainGlobals "gcd" = some (some (.builtin "math.gcd"))) (aCb : PySem.W.nsIn K mainGlobals "CHUNK_BASE" = some (some (.int 1000000000000000000000000000000000000000000000000000000000000 tC)))
    (a_sho : PySem.W.nsIn K mainGlobals "shown" = some (some (.ref g_sho)))
    (l_sho : K.lookup g_sho = some ⟨oc_sho, od_sho, .func (PySem.W.fnOf "shown" "shown" (defArgs sShown) (defBody sShown) (defScope sShown) .none kV_sho dc_sho pm_sho an_sho cd_sho ct_sho), sl_sho⟩) (c_sho : PySem.W.codeIn K cd_sho "shown" = true) (k_sho : PySem.W.keepIn K (.ref g_sho) = true)
    (a_isi : PySem.W.nsIn K mainGlobals "is_integer" = some (some (.ref g_isi)))
    (l_isi : K.lookup g_isi = some ⟨oc_isi, od_isi, .func (PySem.W.fnOf "is_integer" "is_integer" (defArgs sIsInt) (defBody sIsInt) (defScope sIsInt) .none kV_isi dc_isi pm_isi an_isi cd_isi ct_isi), sl_isi⟩) (c_isi : PySem.W.codeIn K cd_isi "is_integer" = true) (k_isi : PySem.W.keepIn K (.ref g_isi) = true)
    (a_isn : PySem.W.nsIn K mainGlobals "is_number" = some (some (.ref g_isn)))
    (l_isn : K.lookup g_isn = some ⟨oc_isn, od_isn, .func (PySem.W.fnOf "is_number" "is_number" (defArgs sIsNum) (defBody sIsNum) (defScope sIsNum) .none kV_isn dc_isn pm_isn an_isn cd_isn ct_isn), sl_isn⟩) (c_isn : PySem.W.codeIn K cd_isn "is_number" = true) (k_isn : PySem.W.keepIn K (.ref g_isn) = true)
    (a_rof : PySem.W.nsIn K mainGlobals "ratio_of" = some (some (.ref g_rof)))
    (l_rof : K.lookup g_rof = some ⟨oc_rof, od_rof, .func (PySem.W.fnOf "ratio_of" "ratio_of" (defArgs sRatioOf) (defBody sRatioOf) (defScope sRatioOf) .none kV_rof dc_rof pm_rof an_rof cd_rof ct_rof), sl_rof⟩) (c_rof : PySem.W.codeIn K cd_rof "ratio_of" = true) (k_rof : PySem.W.keepIn K (.ref g_rof) = true)
    (a_itx : PySem.W.nsIn K mainGlobals "integer_text" = some (some (.ref g_itx)))
    (l_itx : K.lookup g_itx = some ⟨oc_itx, od_itx, .func (PySem.W.fnOf "integer_text" "integer_text" (defArgs sIntText) (defBody sIntText) (defScope sIntText) .none kV_itx dc_itx pm_itx an_itx cd_itx ct_itx), sl_itx⟩) (c_itx : PySem.W.codeIn K cd_itx "integer_text" = true) (k_itx : PySem.W.keepIn K (.ref g_itx) = true)
    (a_rtx : PySem.W.nsIn K mainGlobals "ratio_text" = some (some (.ref g_rtx)))
    (l_rtx : K.lookup g_rtx = some ⟨oc_rtx, od_rtx, .func (PySem.W.fnOf "ratio_text" "ratio_text" (defArgs sRatText) (defBody sRatText) (defScope sRatText) .none kV_rtx dc_rtx pm_rtx an_rtx cd_rtx ct_rtx), sl_rtx⟩) (c_rtx : PySem.W.codeIn K cd_rtx "ratio_text" = true) (k_rtx : PySem.W.keepIn K (.ref g_rtx) = true)
    (a_wlz : PySem.W.nsIn K mainGlobals "without_last_zeros" = some (some (.ref g_wlz)))
    (l_wlz : K.lookup g_wlz = some ⟨oc_wlz, od_wlz, .func (PySem.W.fnOf "without_last_zeros" "without_last_zeros" (defArgs sStrip) (defBody sStrip) (defScope sStrip) .none kV_wlz dc_wlz pm_wlz an_wlz cd_wlz ct_wlz), sl_wlz⟩) (c_wlz : PySem.W.codeIn K cd_wlz "without_last_zeros" = true) (k_wlz : PySem.W.keepIn K (.ref g_wlz) = true)
    (a_slw : PySem.W.nsIn K mainGlobals "slope_worths" = some (some (.ref g_slw)))
    (l_slw : K.lookup g_slw = some ⟨oc_slw, od_slw, .func (PySem.W.fnOf "slope_worths" "slope_worths" (defArgs sSlw) (defBody sSlw) (defScope sSlw) .none kV_slw dc_slw pm_slw an_slw cd_slw ct_slw), sl_slw⟩) (c_slw : PySem.W.codeIn K cd_slw "slope_worths" = true) (k_slw : PySem.W.keepIn K (.ref g_slw) = true)
    (a_bag : PySem.W.nsIn K mainGlobals "_law_bag" = some (some (.ref g_bag)))
    (l_bag : K.lookup g_bag = some ⟨oc_bag, od_bag, .func (PySem.W.fnOf "_law_bag" "_law_bag" (defArgs sBag) (defBody sBag) (defScope sBag) .none kV_bag dc_bag pm_bag an_bag cd_bag ct_bag), sl_bag⟩) (c_bag : PySem.W.codeIn K cd_bag "_law_bag" = true) (k_bag : PySem.W.keepIn K (.ref g_bag) = true)
    (a_pul : PySem.W.nsIn K mainGlobals "_law_pull" = some (some (.ref g_pul)))
    (l_pul : K.lookup g_pul = some ⟨oc_pul, od_pul, .func (PySem.W.fnOf "_law_pull" "_law_pull" (defArgs sPull) (defBody sPull) (defScope sPull) .none kV_pul dc_pul pm_pul an_pul cd_pul ct_pul), sl_pul⟩) (c_pul : PySem.W.codeIn K cd_pul "_law_pull" = true) (k_pul : PySem.W.keepIn K (.ref g_pul) = true)
    (a_lof : PySem.W.nsIn K mainGlobals "_law_of" = some (some (.ref g_lof)))
    (l_lof : K.lookup g_lof = some ⟨oc_lof, od_lof, .func (PySem.W.fnOf "_law_of" "_law_of" (defArgs sOf) (defBody sOf) (defScope sOf) .none kV_lof dc_lof pm_lof an_lof cd_lof ct_lof), sl_lof⟩) (c_lof : PySem.W.codeIn K cd_lof "_law_of" = true) (k_lof : PySem.W.keepIn K (.ref g_lof) = true)
    (a_sam : PySem.W.nsIn K mainGlobals "_law_same" = some (some (.ref g_sam)))
    (l_sam : K.lookup g_sam = some ⟨oc_sam, od_sam, .func (PySem.W.fnOf "_law_same" "_law_same" (defArgs sSame) (defBody sSame) (defScope sSame) .none kV_sam dc_sam pm_sam an_sam cd_sam ct_sam), sl_sam⟩) (c_sam : PySem.W.codeIn K cd_sam "_law_same" = true) (k_sam : PySem.W.keepIn K (.ref g_sam) = true)
    (a_lfi : PySem.W.nsIn K mainGlobals "_law_field" = some (some (.ref g_lfi)))
    (l_lfi : K.lookup g_lfi = some ⟨oc_lfi, od_lfi, .func (PySem.W.fnOf "_law_field" "_law_field" (defArgs sField) (defBody sField) (defScope sField) .none kV_lfi dc_lfi pm_lfi an_lfi cd_lfi ct_lfi), sl_lfi⟩) (c_lfi : PySem.W.codeIn K cd_lfi "_law_field" = true) (k_lfi : PySem.W.keepIn K (.ref g_lfi) = true)
    (a_lot : PySem.W.nsIn K mainGlobals "_law_other_field" = some (some (.ref g_lot)))
    (l_lot : K.lookup g_lot = some ⟨oc_lot, od_lot, .func (PySem.W.fnOf "_law_other_field" "_law_other_field" (defArgs sOtherField) (defBody sOtherField) (defScope sOtherField) .none kV_lot dc_lot pm_lot an_lot cd_lot ct_lot), sl_lot⟩) (c_lot : PySem.W.codeIn K cd_lot "_law_other_field" = true) (k_lot : PySem.W.keepIn K (.ref g_lot) = true)
    (a_why : PySem.W.nsIn K mainGlobals "_law_why" = some (some (.ref g_why)))
    (l_why : K.lookup g_why = some ⟨oc_why, od_why, .func (PySem.W.fnOf "_law_why" "_law_why" (defArgs sWhy) (defBody sWhy) (defScope sWhy) .none kV_why dc_why pm_why an_why cd_why ct_why), sl_why⟩) (c_why : PySem.W.codeIn K cd_why "_law_why" = true) (k_why : PySem.W.keepIn K (.ref g_why) = true)
    (a_low : PySem.W.nsIn K mainGlobals "_law_low" = some (some (.ref g_low)))
    (l_low : K.lookup g_low = some ⟨oc_low, od_low, .func (PySem.W.fnOf "_law_low" "_law_low" (defArgs sLow) (defBody sLow) (defScope sLow) .none kV_low dc_low pm_low an_low cd_low ct_low), sl_low⟩) (c_low : PySem.W.codeIn K cd_low "_law_low" = true) (k_low : PySem.W.keepIn K (.ref g_low) = true)
    (a_plu : PySem.W.nsIn K mainGlobals "_law_plus" = some (some (.ref g_plu)))
    (l_plu : K.lookup g_plu = some ⟨oc_plu, od_plu, .func (PySem.W.fnOf "_law_plus" "_law_plus" (defArgs sPlus) (defBody sPlus) (defScope sPlus) .none kV_plu dc_plu pm_plu an_plu cd_plu ct_plu), sl_plu⟩) (c_plu : PySem.W.codeIn K cd_plu "_law_plus" = true) (k_plu : PySem.W.keepIn K (.ref g_plu) = true)
    (a_cro : PySem.W.nsIn K mainGlobals "_law_cross" = some (some (.ref g_cro)))
    (l_cro : K.lookup g_cro = some ⟨oc_cro, od_cro, .func (PySem.W.fnOf "_law_cross" "_law_cross" (defArgs sCross) (defBody sCross) (defScope sCross) .none kV_cro dc_cro pm_cro an_cro cd_cro ct_cro), sl_cro⟩) (c_cro : PySem.W.codeIn K cd_cro "_law_cross" = true) (k_cro : PySem.W.keepIn K (.ref g_cro) = true)
    (a_par : PySem.W.nsIn K mainGlobals "_law_pair" = some (some (.ref g_par)))
    (l_par : K.lookup g_par = some ⟨oc_par, od_par, .func (PySem.W.fnOf "_law_pair" "_law_pair" (defArgs sPair) (defBody sPair) (defScope sPair) .none kV_par dc_par pm_par an_par cd_par ct_par), sl_par⟩) (c_par : PySem.W.codeIn K cd_par "_law_pair" = true) (k_par : PySem.W.keepIn K (.ref g_par) = true)
    (a_lra : PySem.W.nsIn K mainGlobals "_law_ratio" = some (some (.ref g_lra)))
    (l_lra : K.lookup g_lra = some ⟨oc_lra, od_lra, .func (PySem.W.fnOf "_law_ratio" "_law_ratio" (defArgs sRatio) (defBody sRatio) (defScope sRatio) .none kV_lra dc_lra pm_lra an_lra cd_lra ct_lra), sl_lra⟩) (c_lra : PySem.W.codeIn K cd_lra "_law_ratio" = true) (k_lra : PySem.W.keepIn K (.ref g_lra) = true)
    (a_ptx : PySem.W.nsIn K mainGlobals "_law_pair_text" = some (some (.ref g_ptx)))
    (l_ptx : K.lookup g_ptx = some ⟨oc_ptx, od_ptx, .func (PySem.W.fnOf "_law_pair_text" "_law_pair_text" (defArgs sPairText) (defBody sPairText) (defScope sPairText) .none kV_ptx dc_ptx pm_ptx an_ptx cd_ptx ct_ptx), sl_ptx⟩) (c_ptx : PySem.W.codeIn K cd_ptx "_law_pair_text" = true) (k_ptx : PySem.W.keepIn K (.ref g_ptx) = true)
    (a_fra : PySem.W.nsIn K mainGlobals "_law_fraction" = some (some (.ref g_fra)))
    (l_fra : K.lookup g_fra = some ⟨oc_fra, od_fra, .func (PySem.W.fnOf "_law_fraction" "_law_fraction" (defArgs sFrac) (defBody sFrac) (defScope sFrac) .none kV_fra dc_fra pm_fra an_fra cd_fra ct_fra), sl_fra⟩) (c_fra : PySem.W.codeIn K cd_fra "_law_fraction" = true) (k_fra : PySem.W.keepIn K (.ref g_fra) = true)
    (a_sum : PySem.W.nsIn K mainGlobals "_law_sum" = some (some (.ref g_sum)))
    (l_sum : K.lookup g_sum = some ⟨oc_sum, od_sum, .func (PySem.W.fnOf "_law_sum" "_law_sum" (defArgs sSum) (defBody sSum) (defScope sSum) .none kV_sum dc_sum pm_sum an_sum cd_sum ct_sum), sl_sum⟩) (c_sum : PySem.W.codeIn K cd_sum "_law_sum" = true) (k_sum : PySem.W.keepIn K (.ref g_sum) = true)
    (a_tim : PySem.W.nsIn K mainGlobals "_law_times" = some (some (.ref g_tim)))
    (l_tim : K.lookup g_tim = some ⟨oc_tim, od_tim, .func (PySem.W.fnOf "_law_times" "_law_times" (defArgs sTimes) (defBody sTimes) (defScope sTimes) .none kV_tim dc_tim pm_tim an_tim cd_tim ct_tim), sl_tim⟩) (c_tim : PySem.W.codeIn K cd_tim "_law_times" = true) (k_tim : PySem.W.keepIn K (.ref g_tim) = true)
    (a_ste : PySem.W.nsIn K mainGlobals "_law_steep" = some (some (.ref g_ste)))
    (l_ste : K.lookup g_ste = some ⟨oc_ste, od_ste, .func (PySem.W.fnOf "_law_steep" "_law_steep" (defArgs sSteep) (defBody sSteep) (defScope sSteep) .none kV_ste dc_ste pm_ste an_ste cd_ste ct_ste), sl_ste⟩) (c_ste : PySem.W.codeIn K cd_ste "_law_steep" = true) (k_ste : PySem.W.keepIn K (.ref g_ste) = true)
    (a_cat : PySem.W.nsIn K mainGlobals "_law_curve_at" = some (some (.ref g_cat)))
    (l_cat : K.lookup g_cat = some ⟨oc_cat, od_cat, .func (PySem.W.fnOf "_law_curve_at" "_law_curve_at" (defArgs sCurAt) (defBody sCurAt) (defScope sCurAt) .none kV_cat dc_cat pm_cat an_cat cd_cat ct_cat), sl_cat⟩) (c_cat : PySem.W.codeIn K cd_cat "_law_curve_at" = true) (k_cat : PySem.W.keepIn K (.ref g_cat) = true)
    (a_law : PySem.W.nsIn K mainGlobals "law" = some (some (.ref g_law)))
    (l_law : K.lookup g_law = some ⟨oc_law, od_law, .func (PySem.W.fnOf "law" "law" (defArgs sLaw) (defBody sLaw) (defScope sLaw) .none kV_law dc_law pm_law an_law (.ref cL) ct_law), sl_law⟩) (c_law : PySem.W.codeIn K (.ref cL) "law" = true) (k_law : PySem.W.keepIn K (.ref g_law) = true)
    (i_req : PySem.W.findIn K (.ref CR) "__eq__" = some (some (.ref g_req)))
    (l_req : K.lookup g_req = some ⟨oc_req, od_req, .func (PySem.W.fnOf "__eq__" "Ratio.__eq__" (defArgs sREq) (defBody sREq) (defScope sREq) .none kV_req dc_req pm_req an_req cd_req ct_req), sl_req⟩) (c_req : PySem.W.codeIn K cd_req "Ratio.__eq__" = true) (k_req : PySem.W.keepIn K (.ref g_req) = true)
    (i_add : PySem.W.findIn K (.ref CR) "__add__" = some (some (.ref g_add)))
    (l_add : K.lookup g_add = some ⟨oc_add, od_add, .func (PySem.W.fnOf "__add__" "Ratio.__add__" (defArgs sAdd) (defBody sAdd) (defScope sAdd) .none kV_add dc_add pm_add an_add cd_add ct_add), sl_add⟩) (c_add : PySem.W.codeIn K cd_add "Ratio.__add__" = true) (k_add : PySem.W.keepIn K (.ref g_add) = true)
    (i_mul : PySem.W.findIn K (.ref CR) "__mul__" = some (some (.ref g_mul)))
    (l_mul : K.lookup g_mul = some ⟨oc_mul, od_mul, .func (PySem.W.fnOf "__mul__" "Ratio.__mul__" (defArgs sMul) (defBody sMul) (defScope sMul) .none kV_mul dc_mul pm_mul an_mul cd_mul ct_mul), sl_mul⟩) (c_mul : PySem.W.codeIn K cd_mul "Ratio.__mul__" = true) (k_mul : PySem.W.keepIn K (.ref g_mul) = true)
    (i_neg : PySem.W.findIn K (.ref CR) "__neg__" = some (some (.ref g_neg)))
    (l_neg : K.lookup g_neg = some ⟨oc_neg, od_neg, .func (PySem.W.fnOf "__neg__" "Ratio.__neg__" (defArgs sNeg) (defBody sNeg) (defScope sNeg) .none kV_neg dc_neg pm_neg an_neg cd_neg ct_neg), sl_neg⟩) (c_neg : PySem.W.codeIn K cd_neg "Ratio.__neg__" = true) (k_neg : PySem.W.keepIn K (.ref g_neg) = true)
    (i_ovr : PySem.W.findIn K (.ref CR) "over" = some (some (.ref g_ovr)))
    (l_ovr : K.lookup g_ovr = some ⟨oc_ovr, od_ovr, .func (PySem.W.fnOf "over" "Ratio.over" (defArgs sOver) (defBody sOver) (defScope sOver) .none kV_ovr dc_ovr pm_ovr an_ovr cd_ovr ct_ovr), sl_ovr⟩) (c_ovr : PySem.W.codeIn K cd_ovr "Ratio.over" = true) (k_ovr : PySem.W.keepIn K (.ref g_ovr) = true)
    (i_rst : PySem.W.findIn K (.ref CR) "__str__" = some (some (.ref g_rst)))
    (l_rst : K.lookup g_rst = some ⟨oc_rst, od_rst, .func (PySem.W.fnOf "__str__" "Ratio.__str__" (defArgs sRStr) (defBody sRStr) (defScope sRStr) .none kV_rst dc_rst pm_rst an_rst cd_rst ct_rst), sl_rst⟩) (c_rst : PySem.W.codeIn K cd_rst "Ratio.__str__" = true) (k_rst : PySem.W.keepIn K (.ref g_rst) = true)
    (i_cin : PySem.W.findIn K (.ref CC) "__init__" = some (some (.ref g_cin)))
    (l_cin : K.lookup g_cin = some ⟨oc_cin, od_cin, .func (PySem.W.fnOf "__init__" "Curve.__init__" (defArgs sCInit) (defBody sCInit) (defScope sCInit) .none kV_cin dc_cin pm_cin an_cin cd_cin ct_cin), sl_cin⟩) (c_cin : PySem.W.codeIn K cd_cin "Curve.__init__" = true) (k_cin : PySem.W.keepIn K (.ref g_cin) = true)
    (i_cwo : PySem.W.findIn K (.ref CC) "worths" = some (some (.ref g_cwo)))
    (l_cwo : K.lookup g_cwo = some ⟨oc_cwo, od_cwo, .func (PySem.W.fnOf "worths" "Curve.worths" (defArgs sCWor) (defBody sCWor) (defScope sCWor) .none kV_cwo dc_cwo pm_cwo an_cwo cd_cwo ct_cwo), sl_cwo⟩) (c_cwo : PySem.W.codeIn K cd_cwo "Curve.worths" = true) (k_cwo : PySem.W.keepIn K (.ref g_cwo) = true)
    (i_ccl : PySem.W.findIn K (.ref CC) "__call__" = some (some (.ref g_ccl)))
    (l_ccl : K.lookup g_ccl = some ⟨oc_ccl, od_ccl, .func (PySem.W.fnOf "__call__" "Curve.__call__" (defArgs sCCall) (defBody sCCall) (defScope sCCall) .none kV_ccl dc_ccl pm_ccl an_ccl cd_ccl ct_ccl), sl_ccl⟩) (c_ccl : PySem.W.codeIn K cd_ccl "Curve.__call__" = true) (k_ccl : PySem.W.keepIn K (.ref g_ccl) = true)
    (i_ceq : PySem.W.findIn K (.ref CC) "__eq__" = some (some (.ref g_ceq)))
    (l_ceq : K.lookup g_ceq = some ⟨oc_ceq, od_ceq, .func (PySem.W.fnOf "__eq__" "Curve.__eq__" (defArgs sCEq) (defBody sCEq) (defScope sCEq) .none kV_ceq dc_ceq pm_ceq an_ceq cd_ceq ct_ceq), sl_ceq⟩) (c_ceq : PySem.W.codeIn K cd_ceq "Curve.__eq__" = true) (k_ceq : PySem.W.keepIn K (.ref g_ceq) = true)
    (i_cst : PySem.W.findIn K (.ref CC) "__str__" = some (some (.ref g_cst)))
    (l_cst : K.lookup g_cst = some ⟨oc_cst, od_cst, .func (PySem.W.fnOf "__str__" "Curve.__str__" (defArgs sCStr) (defBody sCStr) (defScope sCStr) .none kV_cst dc_cst pm_cst an_cst cd_cst ct_cst), sl_cst⟩) (c_cst : PySem.W.codeIn K cd_cst "Curve.__str__" = true) (k_cst : PySem.W.keepIn K (.ref g_cst) = true)
    (i_crp : PySem.W.findIn K (.ref CC) "__repr__" = some (some (.ref g_crp)))
    (l_crp : K.lookup g_crp = some ⟨oc_crp, od_crp, .func (PySem.W.fnOf "__repr__" "Curve.__repr__" (defArgs sCRep) (defBody sCRep) (defScope sCRep) .none kV_crp dc_crp pm_crp an_crp cd_crp ct_crp), sl_crp⟩) (c_crp : PySem.W.codeIn K cd_crp "Curve.__repr__" = true) (k_crp : PySem.W.keepIn K (.ref g_crp) = true)
    (i_rmu : PySem.W.findIn K (.ref CR) "__rmul__" = some (some (.ref g_rmu)))
    (i_iin : PySem.W.findIn K (.ref CI) "__init__" = some (some (.ref g_iin)))
    (l_iin : K.lookup g_iin = some ⟨oc_iin, od_iin, .func (PySem.W.fnOf "__init__" "InvalidNumber.__init__" (defArgs sI_InvalidNumber) (defBody sI_InvalidNumber) (defScope sI_InvalidNumber) .none kV_iin dc_iin pm_iin an_iin cd_iin ct_iin), sl_iin⟩) (c_iin : PySem.W.codeIn K cd_iin "InvalidNumber.__init__" = true) (k_iin : PySem.W.keepIn K (.ref g_iin) = true)
    (i_rin : PySem.W.findIn K (.ref CR) "__init__" = some (some (.ref g_rin)))
    (l_rin : K.lookup g_rin = some ⟨oc_rin, od_rin, .func (PySem.W.fnOf "__init__" "Ratio.__init__" (defArgs sRInit) (defBody sRInit) (defScope sRInit) (.ref T_rin) kV_rin dc_rin pm_rin an_rin cd_rin ct_rin), sl_rin⟩) (c_rin : PySem.W.codeIn K cd_rin "Ratio.__init__" = true) (k_rin : PySem.W.keepIn K (.ref g_rin) = true)
    (t_rin : K.lookup T_rin = some ⟨oT_rin, oD_rin, .seq [Value.int 1 tk_rin].toArray nT_rin, sT_rin⟩)
    (i_csl : PySem.W.findIn K (.ref CC) "slope_curve" = some (some (.ref g_csl)))
    (l_csl : K.lookup g_csl = some ⟨oc_csl, od_csl, .func (PySem.W.fnOf "slope_curve" "Curve.slope_curve" (defArgs sCSlo) (defBody sCSlo) (defScope sCSlo) (.ref T_csl) kV_csl dc_csl pm_csl an_csl cd_csl ct_csl), sl_csl⟩) (c_csl : PySem.W.codeIn K cd_csl "Curve.slope_curve" = true) (k_csl : PySem.W.keepIn K (.ref g_csl) = true)
    (t_csl : K.lookup T_csl = some ⟨oT_csl, oD_csl, .seq [Value.int 1 tk_csl].toArray nT_csl, sT_csl⟩)
    (i_cig : PySem.W.findIn K (.ref CC) "integral_curve" = some (some (.ref g_cig)))
    (l_cig : K.lookup g_cig = some ⟨oc_cig, od_cig, .func (PySem.W.fnOf "integral_curve" "Curve.integral_curve" (defArgs sCInt) (defBody sCInt) (defScope sCInt) (.ref T_cig) kV_cig dc_cig pm_cig an_cig cd_cig ct_cig), sl_cig⟩) (c_cig : PySem.W.codeIn K cd_cig "Curve.integral_curve" = true) (k_cig : PySem.W.keepIn K (.ref g_cig) = true)
    (t_cig : K.lookup T_cig = some ⟨oT_cig, oD_cig, .seq [Value.int 0 tk_cig].toArray nT_cig, sT_cig⟩)
    (iD : PySem.W.findIn K (.ref CC) "degree_of" = some (some (.ref aD))) (rD : PySem.W.recIn K aD "property" = some (.ref g_cdg :: restD))
    (l_cdg : K.lookup g_cdg = some ⟨oc_cdg, od_cdg, .func (PySem.W.fnOf "degree_of" "Curve.degree_of" (defArgs sCDeg) (defBody sCDeg) (defScope sCDeg) .none kV_cdg dc_cdg pm_cdg an_cdg cd_cdg ct_cdg), sl_cdg⟩) (c_cdg : PySem.W.codeIn K cd_cdg "Curve.degree_of" = true) (k_cdg : PySem.W.keepIn K (.ref g_cdg) = true)
    (z_isin : PySem.W.nsIn K mainGlobals "isinstance" = some none)
    (z_tstr : PySem.W.nsIn K mainGlobals "str" = some none)
    (z_tint : PySem.W.nsIn K mainGlobals "int" = some none)
    (z_tlist : PySem.W.nsIn K mainGlobals "list" = some none)
    (z_ttuple : PySem.W.nsIn K mainGlobals "tuple" = some none)
    (z_tbool : PySem.W.nsIn K mainGlobals "bool" = some none)
    (z_fabs : PySem.W.nsIn K mainGlobals "abs" = some none)
    (z_frepr : PySem.W.nsIn K mainGlobals "repr" = some none)
    (z_flen : PySem.W.nsIn K mainGlobals "len" = some none)
    (z_frange : PySem.W.nsIn K mainGlobals "range" = some none)
    (z_fzip : PySem.W.nsIn K mainGlobals "zip" = some none)
    (z_fall : PySem.W.nsIn K mainGlobals "all" = some none)
    (z_tve : PySem.W.nsIn K mainGlobals "ValueError" = some none)
    (z_tle : PySem.W.nsIn K mainGlobals "LookupError" = some none)
    (z_fenum : PySem.W.nsIn K mainGlobals "enumerate" = some none)
    (z_fmin : PySem.W.nsIn K mainGlobals "min" = some none)
    (z_fsorted : PySem.W.nsIn K mainGlobals "sorted" = some none)
    (z_tdict : PySem.W.nsIn K mainGlobals "dict" = some none)
    (lCI : K.lookup CI = some (excClassObj nmI qI CI NI bsI bmI true snI subI abI colI ddI kI0 kI1 kI2 kI3 kI5 "ValueError.__new__")) (tyI : PySem.W.typeIn K (.ref CI) = some (.type "type")) (tyF : PySem.W.typeIn K (.ref g_iin) = some (.type "function")) (vS : PySem.W.findCls K (.ref CS) (.type "type") "__init__" = some (.val (.builtin "ValueError.__init__")))
    (hRv : PySem.HandSPX.refsVE bmI = true) (hR : chR K CR g_rin g_req g_neg g_ovr g_rst = true) (hO : chO K CR g_add g_mul g_rmu = true) (hC : chCu K CC g_cin g_ceq g_cst g_crp g_cwo g_csl g_cig g_ccl aD = true) (hG : chG K = true) (hS : chB K CS "ValueError.__init__" = true) (hI : chI K CI CS CM g_iin = true) :
    LamX.LawAtS l w K CX0 11 63 "_law_script" mg fa h := by
  have e := hfa.symm.trans (PySem.W.mg_of X G a_law)
  cases e
  have gl : ∀ x v, PySem.W.nsIn K mainGlobals x = some (some v) → mg x = some v := fun x v z => PySem.W.mg_of X G z
  have B : Bn mg := ⟨PySem.W.mg_none_of X G z_isin, PySem.W.mg_none_of X G z_tstr, PySem.W.mg_none_of X G z_tint, PySem.W.mg_none_of X G z_tlist, PySem.W.mg_none_of X G z_ttuple, PySem.W.mg_none_of X G z_tbool, PySem.W.mg_none_of X G z_fabs, PySem.W.mg_none_of X G z_frepr, PySem.W.mg_none_of X G z_flen, PySem.W.mg_none_of X G z_frange, PySem.W.mg_none_of X G z_fzip, PySem.W.mg_none_of X G z_fall, PySem.W.mg_none_of X G z_tve, PySem.W.mg_none_of X G z_tle⟩
  have B2 : Bk mg := ⟨PySem.W.mg_none_of X G z_fenum, PySem.W.mg_none_of X G z_fmin, PySem.W.mg_none_of X G z_fsorted, PySem.W.mg_none_of X G z_tdict⟩
  obtain ⟨RTT, MkR, MEq, MNe, MNg, MOv, MSt, kLi⟩ := rt_of hR hG (gl _ _ aR)
  obtain ⟨MA, MU, NU⟩ := op_of hO
  obtain ⟨CTT, MkC, MEc, MNc, MSc, MRc, MFc, MWo, MSl, MIg, MCl, gD1, gD2, nfS⟩ := ct_of hC hG (gl _ _ aC)
  simp only [chI, Bool.and_eq_true] at hI
  obtain ⟨i1, i2, i3, i4, i5, i6, i7, i8, i9, i10⟩ := hI
  have noI : ∀ f ∈ fieldNames, PySem.W.findIn K (.ref CI) f = some none := fun f hf => isN_of (List.all_eq_true.mp i9 f hf)
  have EC : EcI K "ValueError.__init__" CI := ⟨_, _, _, ⟨PySem.F.excBase_ValueError, PySem.F.store_ValueError, i1, i2, i3, isB_of i4, i5, isB_of i6, isN_of i7, of_decide_eq_true i8⟩⟩
  have OX : OexC K CI := ⟨⟨_, _, _, _, _, _, _, _, _, _, _, _, _, _, _, lCI, hRv⟩, isB_of i4, of_decide_eq_true i8, tyI, i5⟩
  have ITT : IN K mg CI g_iin := ⟨gl _ _ aI, OX, EC, noI _ (by decide +kernel), noI _ (by decide +kernel), i_iin, tyF⟩
  have TKK : INk K CS CM CI := ⟨of_decide_eq_true i10, ⟨isB_of i6, isN_of i7, of_decide_eq_true i8, i3⟩, noI⟩
  obtain ⟨s1, s2, s3⟩ : PySem.W.specialIn K (.ref CS) "__getattribute__" = some (some (.builtin "type.__getattribute__")) ∧ PySem.W.readsIn K CS (.type "type") = true ∧ PySem.W.handedIn (.builtin "ValueError.__init__") = true := by
    simp only [chB, Bool.and_eq_true] at hS
    exact ⟨isB_of hS.1, hS.2.1, hS.2.2⟩
  have BSS : Bs K mg "SlopeError" "ValueError.__init__" CS := ⟨gl _ _ aS, s1, s2, vS, s3⟩
  have F_sho := fun_mk (st := sShown) l_sho c_sho k_sho
  have D_sho : Dn K mg "shown" g_sho := ⟨gl _ _ a_sho, k_sho⟩
  have b_sho := F_sho.binds (ps := ["value"]) fun _ _ _ _ _ _ us hl => match us, hl with | [_], _ => rfl
  have F_isi := fun_mk (st := sIsInt) l_isi c_isi k_isi
  have D_isi : Dn K mg "is_integer" g_isi := ⟨gl _ _ a_isi, k_isi⟩
  have b_isi := F_isi.binds (ps := ["value"]) fun _ _ _ _ _ _ us hl => match us, hl with | [_], _ => rfl
  have F_isn := fun_mk (st := sIsNum) l_isn c_isn k_isn
  have D_isn : Dn K mg "is_number" g_isn := ⟨gl _ _ a_isn, k_isn⟩
  have b_isn := F_isn.binds (ps := ["value"]) fun _ _ _ _ _ _ us hl => match us, hl with | [_], _ => rfl
  have F_rof := fun_mk (st := sRatioOf) l_rof c_rof k_rof
  have D_rof : Dn K mg "ratio_of" g_rof := ⟨gl _ _ a_rof, k_rof⟩
  have b_rof := F_rof.binds (ps := ["number"]) fun _ _ _ _ _ _ us hl => match us, hl with | [_], _ => rfl
  have F_itx := fun_mk (st := sIntText) l_itx c_itx k_itx
  have D_itx : Dn K mg "integer_text" g_itx := ⟨gl _ _ a_itx, k_itx⟩
  have b_itx := F_itx.binds (ps := ["number"]) fun _ _ _ _ _ _ us hl => match us, hl with | [_], _ => rfl
  have F_rtx := fun_mk (st := sRatText) l_rtx c_rtx k_rtx
  have D_rtx : Dn K mg "ratio_text" g_rtx := ⟨gl _ _ a_rtx, k_rtx⟩
  have b_rtx := F_rtx.binds (ps := ["ratio"]) fun _ _ _ _ _ _ us hl => match us, hl with | [_], _ => rfl
  have F_wlz := fun_mk (st := sStrip) l_wlz c_wlz k_wlz
  have D_wlz : Dn K mg "without_last_zeros" g_wlz := ⟨gl _ _ a_wlz, k_wlz⟩
  have b_wlz := F_wlz.binds (ps := ["worths"]) fun _ _ _ _ _ _ us hl => match us, hl with | [_], _ => rfl
  have F_slw := fun_mk (st := sSlw) l_slw c_slw k_slw
  have D_slw : Dn K mg "slope_worths" g_slw := ⟨gl _ _ a_slw, k_slw⟩
  have b_slw := F_slw.binds (ps := ["worths"]) fun _ _ _ _ _ _ us hl => match us, hl with | [_], _ => rfl
  have F_bag := fun_mk (st := sBag) l_bag c_bag k_bag
  have D_bag : Dn K mg "_law_bag" g_bag := ⟨gl _ _ a_bag, k_bag⟩
  have b_bag := F_bag.binds (ps := ["_law_script"]) fun _ _ _ _ _ _ us hl => match us, hl with | [_], _ => rfl
  have F_pul := fun_mk (st := sPull) l_pul c_pul k_pul
  have D_pul : Dn K mg "_law_pull" g_pul := ⟨gl _ _ a_pul, k_pul⟩
  have b_pul := F_pul.binds (ps := ["_law_bag_here", "_law_many"]) fun _ _ _ _ _ _ us hl => match us, hl with | [_, _], _ => rfl
  have F_lof := fun_mk (st := sOf) l_lof c_lof k_lof
  have D_lof : Dn K mg "_law_of" g_lof := ⟨gl _ _ a_lof, k_lof⟩
  have b_lof := F_lof.binds (ps := ["_law_bag_here", "_law_things"]) fun _ _ _ _ _ _ us hl => match us, hl with | [_, _], _ => rfl
  have F_sam := fun_mk (st := sSame) l_sam c_sam k_sam
  have D_sam : Dn K mg "_law_same" g_sam := ⟨gl _ _ a_sam, k_sam⟩
  have b_sam := F_sam.binds (ps := ["_law_found", "_law_due"]) fun _ _ _ _ _ _ us hl => match us, hl with | [_, _], _ => rfl
  have F_lfi := fun_mk (st := sField) l_lfi c_lfi k_lfi
  have D_lfi : Dn K mg "_law_field" g_lfi := ⟨gl _ _ a_lfi, k_lfi⟩
  have b_lfi := F_lfi.binds (ps := ["_law_e"]) fun _ _ _ _ _ _ us hl => match us, hl with | [_], _ => rfl
  have F_lot := fun_mk (st := sOtherField) l_lot c_lot k_lot
  have D_lot : Dn K mg "_law_other_field" g_lot := ⟨gl _ _ a_lot, k_lot⟩
  have b_lot := F_lot.binds (ps := ["_law_e"]) fun _ _ _ _ _ _ us hl => match us, hl with | [_], _ => rfl
  have F_why := fun_mk (st := sWhy) l_why c_why k_why
  have D_why : Dn K mg "_law_why" g_why := ⟨gl _ _ a_why, k_why⟩
  have b_why := F_why.binds (ps := ["_law_ask"]) fun _ _ _ _ _ _ us hl => match us, hl with | [_], _ => rfl
  have F_low := fun_mk (st := sLow) l_low c_low k_low
  have D_low : Dn K mg "_law_low" g_low := ⟨gl _ _ a_low, k_low⟩
  have b_low := F_low.binds (ps := ["_law_top", "_law_bottom"]) fun _ _ _ _ _ _ us hl => match us, hl with | [_, _], _ => rfl
  have F_plu := fun_mk (st := sPlus) l_plu c_plu k_plu
  have D_plu : Dn K mg "_law_plus" g_plu := ⟨gl _ _ a_plu, k_plu⟩
  have b_plu := F_plu.binds (ps := ["_law_one", "_law_other"]) fun _ _ _ _ _ _ us hl => match us, hl with | [_, _], _ => rfl
  have F_cro := fun_mk (st := sCross) l_cro c_cro k_cro
  have D_cro : Dn K mg "_law_cross" g_cro := ⟨gl _ _ a_cro, k_cro⟩
  have b_cro := F_cro.binds (ps := ["_law_one", "_law_other"]) fun _ _ _ _ _ _ us hl => match us, hl with | [_, _], _ => rfl
  have F_par := fun_mk (st := sPair) l_par c_par k_par
  have D_par : Dn K mg "_law_pair" g_par := ⟨gl _ _ a_par, k_par⟩
  have b_par := F_par.binds (ps := ["_law_found"]) fun _ _ _ _ _ _ us hl => match us, hl with | [_], _ => rfl
  have F_lra := fun_mk (st := sRatio) l_lra c_lra k_lra
  have D_lra : Dn K mg "_law_ratio" g_lra := ⟨gl _ _ a_lra, k_lra⟩
  have b_lra := F_lra.binds (ps := ["_law_pair_here"]) fun _ _ _ _ _ _ us hl => match us, hl with | [_], _ => rfl
  have F_ptx := fun_mk (st := sPairText) l_ptx c_ptx k_ptx
  have D_ptx : Dn K mg "_law_pair_text" g_ptx := ⟨gl _ _ a_ptx, k_ptx⟩
  have b_ptx := F_ptx.binds (ps := ["_law_pair_here"]) fun _ _ _ _ _ _ us hl => match us, hl with | [_], _ => rfl
  have F_fra := fun_mk (st := sFrac) l_fra c_fra k_fra
  have D_fra : Dn K mg "_law_fraction" g_fra := ⟨gl _ _ a_fra, k_fra⟩
  have b_fra := F_fra.binds (ps := ["_law_bag_here"]) fun _ _ _ _ _ _ us hl => match us, hl with | [_], _ => rfl
  have F_sum := fun_mk (st := sSum) l_sum c_sum k_sum
  have D_sum : Dn K mg "_law_sum" g_sum := ⟨gl _ _ a_sum, k_sum⟩
  have b_sum := F_sum.binds (ps := ["_law_one", "_law_other"]) fun _ _ _ _ _ _ us hl => match us, hl with | [_, _], _ => rfl
  have F_tim := fun_mk (st := sTimes) l_tim c_tim k_tim
  have D_tim : Dn K mg "_law_times" g_tim := ⟨gl _ _ a_tim, k_tim⟩
  have b_tim := F_tim.binds (ps := ["_law_one", "_law_other"]) fun _ _ _ _ _ _ us hl => match us, hl with | [_, _], _ => rfl
  have F_ste := fun_mk (st := sSteep) l_ste c_ste k_ste
  have D_ste : Dn K mg "_law_steep" g_ste := ⟨gl _ _ a_ste, k_ste⟩
  have b_ste := F_ste.binds (ps := ["_law_shape", "_law_order"]) fun _ _ _ _ _ _ us hl => match us, hl with | [_, _], _ => rfl
  have F_cat := fun_mk (st := sCurAt) l_cat c_cat k_cat
  have D_cat : Dn K mg "_law_curve_at" g_cat := ⟨gl _ _ a_cat, k_cat⟩
  have b_cat := F_cat.binds (ps := ["_law_shape", "_law_place"]) fun _ _ _ _ _ _ us hl => match us, hl with | [_, _], _ => rfl
  have F_req := fun_mk (st := sREq) l_req c_req k_req
  have b_req := F_req.binds (ps := ["self", "other"]) fun _ _ _ _ _ _ us hl => match us, hl with | [_, _], _ => rfl
  have F_add := fun_mk (st := sAdd) l_add c_add k_add
  have b_add := F_add.binds (ps := ["self", "other"]) fun _ _ _ _ _ _ us hl => match us, hl with | [_, _], _ => rfl
  have F_mul := fun_mk (st := sMul) l_mul c_mul k_mul
  have b_mul := F_mul.binds (ps := ["self", "other"]) fun _ _ _ _ _ _ us hl => match us, hl with | [_, _], _ => rfl
  have F_neg := fun_mk (st := sNeg) l_neg c_neg k_neg
  have b_neg := F_neg.binds (ps := ["self"]) fun _ _ _ _ _ _ us hl => match us, hl with | [_], _ => rfl
  have F_ovr := fun_mk (st := sOver) l_ovr c_ovr k_ovr
  have b_ovr := F_ovr.binds (ps := ["self", "other"]) fun _ _ _ _ _ _ us hl => match us, hl with | [_, _], _ => rfl
  have F_rst := fun_mk (st := sRStr) l_rst c_rst k_rst
  have b_rst := F_rst.binds (ps := ["self"]) fun _ _ _ _ _ _ us hl => match us, hl with | [_], _ => rfl
  have F_cin := fun_mk (st := sCInit) l_cin c_cin k_cin
  have b_cin := F_cin.binds (ps := ["self", "worths"]) fun _ _ _ _ _ _ us hl => match us, hl with | [_, _], _ => rfl
  have F_cwo := fun_mk (st := sCWor) l_cwo c_cwo k_cwo
  have b_cwo := F_cwo.binds (ps := ["self"]) fun _ _ _ _ _ _ us hl => match us, hl with | [_], _ => rfl
  have F_ccl := fun_mk (st := sCCall) l_ccl c_ccl k_ccl
  have b_ccl := F_ccl.binds (ps := ["self", "place"]) fun _ _ _ _ _ _ us hl => match us, hl with | [_, _], _ => rfl
  have F_ceq := fun_mk (st := sCEq) l_ceq c_ceq k_ceq
  have b_ceq := F_ceq.binds (ps := ["self", "other"]) fun _ _ _ _ _ _ us hl => match us, hl with | [_, _], _ => rfl
  have F_cst := fun_mk (st := sCStr) l_cst c_cst k_cst
  have b_cst := F_cst.binds (ps := ["self"]) fun _ _ _ _ _ _ us hl => match us, hl with | [_], _ => rfl
  have F_crp := fun_mk (st := sCRep) l_crp c_crp k_crp
  have b_crp := F_crp.binds (ps := ["self"]) fun _ _ _ _ _ _ us hl => match us, hl with | [_], _ => rfl
  have F_iin := fun_mk (st := sI_InvalidNumber) l_iin c_iin k_iin
  have b_iin := F_iin.binds (ps := ["self", "given"]) fun _ _ _ _ _ _ us hl => match us, hl with | [_, _], _ => rfl
  have F_cdg := fun_mk (st := sCDeg) l_cdg c_cdg k_cdg
  have b_cdg := F_cdg.binds (ps := ["self"]) fun _ _ _ _ _ _ us hl => match us, hl with | [_], _ => rfl
  have I_rin : FunD K "__init__" "Ratio.__init__" (defArgs sRInit) (defBody sRInit) (defScope sRInit) [.int 1] [] g_rin (PySem.W.fnOf "__init__" "Ratio.__init__" (defArgs sRInit) (defBody sRInit) (defScope sRInit) (.ref T_rin) kV_rin dc_rin pm_rin an_rin cd_rin ct_rin) :=
    ⟨⟨_, _, _, _, _, _, _, _, _, _, rfl, l_rin, c_rin, .inr ⟨by simp, T_rin, _, [Value.int 1 tk_rin], _, rfl, t_rin, rfl, .cons ⟨_, rfl⟩ .nil⟩, .inl rfl⟩, k_rin⟩
  have I_csl : FunD K "slope_curve" "Curve.slope_curve" (defArgs sCSlo) (defBody sCSlo) (defScope sCSlo) [.int 1] [] g_csl (PySem.W.fnOf "slope_curve" "Curve.slope_curve" (defArgs sCSlo) (defBody sCSlo) (defScope sCSlo) (.ref T_csl) kV_csl dc_csl pm_csl an_csl cd_csl ct_csl) :=
    ⟨⟨_, _, _, _, _, _, _, _, _, _, rfl, l_csl, c_csl, .inr ⟨by simp, T_csl, _, [Value.int 1 tk_csl], _, rfl, t_csl, rfl, .cons ⟨_, rfl⟩ .nil⟩, .inl rfl⟩, k_csl⟩
  have I_cig : FunD K "integral_curve" "Curve.integral_curve" (defArgs sCInt) (defBody sCInt) (defScope sCInt) [.int 0] [] g_cig (PySem.W.fnOf "integral_curve" "Curve.integral_curve" (defArgs sCInt) (defBody sCInt) (defScope sCInt) (.ref T_cig) kV_cig dc_cig pm_cig an_cig cd_cig ct_cig) :=
    ⟨⟨_, _, _, _, _, _, _, _, _, _, rfl, l_cig, c_cig, .inr ⟨by simp, T_cig, _, [Value.int 0 tk_cig], _, rfl, t_cig, rfl, .cons ⟨_, rfl⟩ .nil⟩, .inl rfl⟩, k_cig⟩
  obtain ⟨dR, vR, bR⟩ := r_binds2 I_rin
  have bR3 := r_binds3 I_rin
  obtain ⟨bSl, dSl, vSl, bSl0⟩ := r_bSl I_csl
  have kSl := r_kSl I_csl
  have bIg := r_bIn I_cig
  have kIg := r_kIn I_cig
  have kCl : KBinds K (PySem.W.fnOf "__call__" "Curve.__call__" (defArgs sCCall) (defBody sCCall) (defScope sCCall) .none kV_ccl dc_ccl pm_ccl an_ccl cd_ccl ct_ccl) ["self", "place"] ["place"] g11 g11 := kb11 fun s a b => .of_eq rfl
  have PFD : PropOf K CC "degree_of" aD g_cdg := ⟨iD, gD1, gD2, restD, rD⟩
  refine ⟨PySem.W.fnOf "law" "law" (defArgs sLaw) (defBody sLaw) (defScope sLaw) .none kV_law dc_law pm_law an_law (.ref cL) ct_law, [(cL, PT)], spLaw K PT, fun p hp => by cases List.mem_singleton.mp hp; exact hPT, fun p hp => by cases List.mem_singleton.mp hp; exact nPT, fun p hp => by cases List.mem_singleton.mp hp; exact hCH, fun s v => .of_eq rfl,
    fun H a ns hl _ hT hS => ⟨a, ns, rfl, hS, hl, hT _ (List.mem_singleton.mpr rfl), fun _ => rfl⟩, fun base _ _ hTB => ?_⟩
  have G_sho : FnOk l.prog w K mg base CX0 1 g_sho _ ["value"] (spShown K) := ok_shown F_sho B
  have G_iin : FnOk l.prog w K mg base CX0 2 g_iin _ ["self", "given"] (spI_InvalidNumber K) := okI_InvalidNumber F_iin BSS D_sho G_sho b_sho
  have G_isi : FnOk l.prog w K mg base CX0 1 g_isi _ ["value"] (spIsInt K) := ok_isInt F_isi B
  have G_isn : FnOk l.prog w K mg base CX0 2 g_isn _ ["value"] (spIsNum K CR) := ok_isNum F_isn B RTT D_isi G_isi b_isi
  have G_rin : FnOk l.prog w K mg base CX0 2 g_rin _ ["self", "top", "bottom"] (spRInit CR) := ok_rinit I_rin RTT (gl _ _ aGc) D_isi G_isi b_isi
  have G_ri4 : FnOk l.prog w K mg base (L2.CX l.prog w) 4 g_rin _ ["self", "top", "bottom"] (spRInit2 K CR CI) := ok_rinit2 I_rin RTT (gl _ _ aGc) ITT G_iin b_iin D_isi G_isi b_isi
  have G_rof : FnOk l.prog w K mg base CX0 4 g_rof _ ["number"] (spRatioOf CR) := ok_ratioOf F_rof B RTT MkR G_rin vR bR
  have G_ro6 : FnOk l.prog w K mg base (L2.CX l.prog w) 6 g_rof _ ["number"] (spRatioOf2 K CR CI) := ok_ratioOf2 F_rof B RTT MkR G_ri4 vR bR
  have G_add : FnOk l.prog w K mg base CX0 5 g_add _ ["self", "other"] (spBin CR fAdd gMul) := ok_add F_add RTT D_isn G_isn b_isn D_rof G_rof b_rof MkR G_rin bR3
  have G_mul : FnOk l.prog w K mg base CX0 5 g_mul _ ["self", "other"] (spBin CR fMul gMul) := ok_mul F_mul RTT D_isn G_isn b_isn D_rof G_rof b_rof MkR G_rin bR3
  have G_neg : FnOk l.prog w K mg base CX0 4 g_neg _ ["self"] (spUn CR (fun t => -t)) := ok_neg F_neg B RTT MkR G_rin bR3
  have G_ovr : FnOk l.prog w K mg base (L2.CX l.prog w) 5 g_ovr _ ["self", "other"] (spOver K CR CI) := ok_over F_ovr RTT D_isn G_isn b_isn D_rof G_rof b_rof MkR G_rin bR3 ITT G_iin b_iin
  have G_req : FnOk l.prog w K mg base CX0 2 g_req _ ["self", "other"] (spREq CR) := ok_req F_req B RTT D_isi G_isi b_isi
  have G_itx : FnOk l.prog w K mg base CX0 1 g_itx _ ["number"] spIntText := ok_intText F_itx B ⟨_, gl _ _ aCb⟩
  have G_rtx : FnOk l.prog w K mg base CX0 2 g_rtx _ ["ratio"] (spRatText CR) := ok_ratText F_rtx RTT D_itx G_itx b_itx
  have G_rst : FnOk l.prog w K mg base CX0 3 g_rst _ ["self"] (spRatText CR) := ok_rstr F_rst D_rtx G_rtx b_rtx
  have G_wlz : FnOk l.prog w K mg base CX0 1 g_wlz _ ["worths"] (spStrip K CR) := ok_strip F_wlz B RTT
  have G_slw : FnOk l.prog w K mg base CX0 6 g_slw _ ["worths"] (spSlw K CR) := ok_slw F_slw B2 MU NU G_mul b_mul
  have G_cin : FnOk l.prog w K mg base CX0 5 g_cin _ ["self", "worths"] (spCInit K CR CC) := ok_cinit F_cin CTT D_wlz G_wlz b_wlz D_rof G_rof b_rof
  have G_ci7 : FnOk l.prog w K mg base (L2.CX l.prog w) 7 g_cin _ ["self", "worths"] (spCInit2 K CR CC CI) := ok_cinit2 F_cin D_wlz G_wlz b_wlz D_rof G_ro6 b_rof
  have G_cwo : FnOk l.prog w K mg base CX0 1 g_cwo _ ["self"] (spCWor CR CC) := ok_cwor F_cwo B CTT
  have G_cdg : FnOk l.prog w K mg base CX0 1 g_cdg _ ["self"] (spCDeg CR CC) := ok_cdeg F_cdg B CTT
  have G_ccl : FnOk l.prog w K mg base CX0 6 g_ccl _ ["self", "place"] (spCCall CR CC) := ok_ccall F_ccl CTT RTT MkR G_rin bR vR MA G_add b_add MU NU G_mul b_mul
  have G_csl : FnOk l.prog w K mg base (L2.CX l.prog w) 7 g_csl _ ["self", "times"] (spCSlo K CR CC CI) := ok_cslo I_csl B B2 CTT ITT G_iin b_iin D_isi G_isi b_isi D_slw G_slw b_slw MkC G_cin b_cin
  have G_cig : FnOk l.prog w K mg base CX0 7 g_cig _ ["self", "begin"] (spCInt CR CC) := ok_cint (dvs' := []) I_cig B B2 CTT RTT MkR G_rin bR vR MOv G_ovr b_ovr MCl G_ccl b_ccl MNg G_neg b_neg MkC G_cin b_cin
  have G_ceq : FnOk l.prog w K mg base CX0 5 g_ceq _ ["self", "other"] (spCEq CR CC) := ok_ceq F_ceq B CTT RTT MEq G_req b_req
  have G_cst : FnOk l.prog w K mg base CX0 6 g_cst _ ["self"] (spCStr CR CC curS) := ok_cstr F_cst B CTT MSt G_rst b_rst
  have G_crp : FnOk l.prog w K mg base CX0 8 g_crp _ ["self"] (spCStr CR CC fun ps => "Curve(" ++ curS ps ++ ")") := ok_crep F_crp MSc MFc G_cst b_cst
  have S0 : FnOk l.prog w K mg base CX0 0 g_sam (PySem.W.fnOf "_law_same" "_law_same" (defArgs sSame) (defBody sSame) (defScope sSame) .none kV_sam dc_sam pm_sam an_sam cd_sam ct_sam) ["_law_found", "_law_due"] (spSame 0) := same_zero
  have S1 := ok_same_step F_sam B D_sam S0 b_sam
  have S2 := ok_same_step F_sam B D_sam S1 b_sam
  have S3 := ok_same_step F_sam B D_sam S2 b_sam
  have S4 := ok_same_step F_sam B D_sam S3 b_sam
  have G_bag : FnOk l.prog w K mg base CX0 1 g_bag _ ["_law_script"] (spBag K) := ok_bag F_bag B
  have G_pul : FnOk l.prog w K mg base CX0 1 g_pul _ ["_law_bag_here", "_law_many"] spPull := ok_pull F_pul B
  have G_lof : FnOk l.prog w K mg base CX0 2 g_lof _ ["_law_bag_here", "_law_things"] spOf := ok_of F_lof B D_pul G_pul b_pul
  have G_lot : FnQ l.prog w K mg base 1 g_lot _ ["_law_e"] (spOtherF K) := ok_otherField F_lot
  have G_lfi : FnQ l.prog w K mg base 2 g_lfi _ ["_law_e"] (spFieldE K) := ok_field F_lfi D_lot G_lot b_lot
  have G_low : FnOk l.prog w K mg base CX0 1 g_low _ ["_law_top", "_law_bottom"] spLow := ok_low F_low B
  have G_plu : FnOk l.prog w K mg base CX0 2 g_plu _ ["_law_one", "_law_other"] (spTwo fAdd gMul) := ok_plus F_plu D_low G_low b_low
  have G_cro : FnOk l.prog w K mg base CX0 2 g_cro _ ["_law_one", "_law_other"] (spTwo fMul gMul) := ok_cross F_cro D_low G_low b_low
  have G_par : FnOk l.prog w K mg base CX0 1 g_par _ ["_law_found"] (spPair CR) := ok_pair F_par B RTT
  have G_lra : FnOk l.prog w K mg base CX0 4 g_lra _ ["_law_pair_here"] (spMkRatio CR) := ok_ratio F_lra RTT MkR G_rin bR3
  have G_ptx : FnOk l.prog w K mg base CX0 1 g_ptx _ ["_law_pair_here"] spPairText := ok_pairText F_ptx B
  have G_fra : FnOk l.prog w K mg base CX0 2 g_fra _ ["_law_bag_here"] spFrac := ok_frac F_fra D_pul G_pul b_pul D_low G_low b_low
  have G_sum : FnOk l.prog w K mg base CX0 3 g_sum _ ["_law_one", "_law_other"] spSum := ok_sum F_sum B B2 D_plu G_plu b_plu
  have G_tim : FnOk l.prog w K mg base CX0 3 g_tim _ ["_law_one", "_law_other"] spTimes := ok_times F_tim B B2 D_plu G_plu b_plu D_cro G_cro b_cro
  have G_ste : FnOk l.prog w K mg base CX0 2 g_ste _ ["_law_shape", "_law_order"] (spSteep K) := ok_steep F_ste B D_low G_low b_low
  have G_cat : FnOk l.prog w K mg base CX0 4 g_cat _ ["_law_shape", "_law_place"] (spCurAt K) := ok_curAt F_cat D_sum G_sum b_sum D_tim G_tim b_tim
  exact ok_law l_law c_law l_why c_why D_why b_why (hTB _ (List.mem_singleton.mpr rfl)) (gl _ _ aS) (gl _ _ aM) D_lfi G_lfi b_lfi B RTT CTT TKK kLi nfS D_bag G_bag b_bag D_pul G_pul b_pul D_lof G_lof b_lof D_sam S4 b_sam D_plu G_plu b_plu D_cro G_cro b_cro D_par G_par b_par D_lra G_lra b_lra D_ptx G_ptx b_ptx D_fra G_fra b_fra D_ste G_ste b_ste D_cat G_cat b_cat
    MkC G_cin b_cin MWo G_cwo b_cwo PFD G_cdg b_cdg MSc G_cst b_cst MRc G_crp b_crp MSl G_csl bSl bSl0 vSl kSl MIg G_cig bIg kIg MCl G_ccl b_ccl kCl MEc MNc G_ceq b_ceq MEq MNe G_req b_req G_ci7
end K36

set_option Elab.async false
open PySem PySem.W PyProof.Rows
set_option maxRecDepth 100000 in
set_option maxHeartbeats 0 in
theorem PySem.Challenge.cw_unseenslopes_k36_curves_made_holds : PySem.Challenge.rw_unseenslopes_k36_curves_made.Holds := by
  w_on; o_law; k_head; (case hw => w_witness2)
  k_fill
  refine LamX.walk_ofTsE (l := PySem.Challenge.rw_unseenslopes_k36_curves_made) (n := 63) (k := 11) (x := "_law_script") (CX := fun _ => L2.CX0) rfl (by decide) rfl ⟨rfl, by decide, by decide⟩ ?F (fun _ _ _ _ _ z => z)
  case F =>
    intro w mg fa h Y G hmg
    have KX := PySem.W.km_in_of Y
    refine' ⟨_, KX, K36.all_mk (PT := 490) KX G hmg (PySem.W.km_tabs_of Y 490 (List.mem_singleton.mpr rfl)) ?np (PySem.W.codeHd_of_K KX ?ch) ?aR ?aC ?aI ?aS ?aM ?aGc ?aCb ?a_sho ?l_sho ?c_sho ?k_sho ?a_isi ?l_isi ?c_isi ?k_isi ?a_isn ?l_isn ?c_isn ?k_isn ?a_rof ?l_rof ?c_rof ?k_rof ?a_itx ?l_itx ?c_itx ?k_itx ?a_rtx ?l_rtx ?c_rtx ?k_rtx ?a_wlz ?l_wlz ?c_wlz ?k_wlz ?a_slw ?l_slw ?c_slw ?k_slw ?a_bag ?l_bag ?c_bag ?k_bag ?a_pul ?l_pul ?c_pul ?k_pul ?a_lof ?l_lof ?c_lof ?k_lof ?a_sam ?l_sam ?c_sam ?k_sam ?a_lfi ?l_lfi ?c_lfi ?k_lfi ?a_lot ?l_lot ?c_lot ?k_lot ?a_why ?l_why ?c_why ?k_why ?a_low ?l_low ?c_low ?k_low ?a_plu ?l_plu ?c_plu ?k_plu ?a_cro ?l_cro ?c_cro ?k_cro ?a_par ?l_par ?c_par ?k_par ?a_lra ?l_lra ?c_lra ?k_lra ?a_ptx ?l_ptx ?c_ptx ?k_ptx ?a_fra ?l_fra ?c_fra ?k_fra ?a_sum ?l_sum ?c_sum ?k_sum ?a_tim ?l_tim ?c_tim ?k_tim ?a_ste ?l_ste ?c_ste ?k_ste ?a_cat ?l_cat ?c_cat ?k_cat ?a_law ?l_law ?c_law ?k_law ?i_req ?l_req ?c_req ?k_req ?i_add ?l_add ?c_add ?k_add ?i_mul ?l_mul ?c_mul ?k_mul ?i_neg ?l_neg ?c_neg ?k_neg ?i_ovr ?l_ovr ?c_ovr ?k_ovr ?i_rst ?l_rst ?c_rst ?k_rst ?i_cin ?l_cin ?c_cin ?k_cin ?i_cwo ?l_cwo ?c_cwo ?k_cwo ?i_ccl ?l_ccl ?c_ccl ?k_ccl ?i_ceq ?l_ceq ?c_ceq ?k_ceq ?i_cst ?l_cst ?c_cst ?k_cst ?i_crp ?l_crp ?c_crp ?k_crp ?i_rmu ?i_iin ?l_iin ?c_iin ?k_iin ?i_rin ?l_rin ?c_rin ?k_rin ?t_rin ?i_csl ?l_csl ?c_csl ?k_csl ?t_csl ?i_cig ?l_cig ?c_cig ?k_cig ?t_cig ?iD ?rD ?l_cdg ?c_cdg ?k_cdg ?z_isin ?z_tstr ?z_tint ?z_tlist ?z_ttuple ?z_tbool ?z_fabs ?z_frepr ?z_flen ?z_frange ?z_fzip ?z_fall ?z_tve ?z_tle ?z_fenum ?z_fmin ?z_fsorted ?z_tdict ?lCI ?tyI ?tyF ?vS ?hRv ?hR ?hO ?hC ?hG ?hS ?hI⟩
    (case aR => k_is); (case aC => k_is); (case aI => k_is); (case aS => k_is); (case aM => k_is); (case aGc => k_is); (case aCb => k_is); (case a_sho => k_is); (case l_sho => k_is); (case c_sho => k_is); (case k_sho => k_is); (case a_isi => k_is); (case l_isi => k_is); (case c_isi => k_is); (case k_isi => k_is); (case a_isn => k_is); (case l_isn => k_is); (case c_isn => k_is); (case k_isn => k_is); (case a_rof => k_is); (case l_rof => k_is); (case c_rof => k_is); (case k_rof => k_is); (case a_itx => k_is); (case l_itx => k_is); (case c_itx => k_is); (case k_itx => k_is); (case a_rtx => k_is); (case l_rtx => k_is); (case c_rtx => k_is); (case k_rtx => k_is); (case a_wlz => k_is); (case l_wlz => k_is); (case c_wlz => k_is); (case k_wlz => k_is); (case a_slw => k_is); (case l_slw => k_is); (case c_slw => k_is); (case k_slw => k_is); (case a_bag => k_is); (case l_bag => k_is); (case c_bag => k_is); (case k_bag => k_is); (case a_pul => k_is); (case l_pul => k_is); (case c_pul => k_is); (case k_pul => k_is); (case a_lof => k_is); (case l_lof => k_is); (case c_lof => k_is); (case k_lof => k_is); (case a_sam => k_is); (case l_sam => k_is); (case c_sam => k_is); (case k_sam => k_is); (case a_lfi => k_is); (case l_lfi => k_is); (case c_lfi => k_is); (case k_lfi => k_is); (case a_lot => k_is); (case l_lot => k_is); (case c_lot => k_is); (case k_lot => k_is); (case a_why => k_is); (case l_why => k_is); (case c_why => k_is); (case k_why => k_is); (case a_low => k_is); (case l_low => k_is); (case c_low => k_is); (case k_low => k_is); (case a_plu => k_is); (case l_plu => k_is); (case c_plu => k_is); (case k_plu => k_is); (case a_cro => k_is); (case l_cro => k_is); (case c_cro => k_is); (case k_cro => k_is); (case a_par => k_is); (case l_par => k_is); (case c_par => k_is); (case k_par => k_is); (case a_lra => k_is); (case l_lra => k_is); (case c_lra => k_is); (case k_lra => k_is); (case a_ptx => k_is); (case l_ptx => k_is); (case c_ptx => k_is); (case k_ptx => k_is); (case a_fra => k_is); (case l_fra => k_is); (case c_fra => k_is); (case k_fra => k_is); (case a_sum => k_is); (case l_sum => k_is); (case c_sum => k_is); (case k_sum => k_is); (case a_tim => k_is); (case l_tim => k_is); (case c_tim => k_is); (case k_tim => k_is); (case a_ste => k_is); (case l_ste => k_is); (case c_ste => k_is); (case k_ste => k_is); (case a_cat => k_is); (case l_cat => k_is); (case c_cat => k_is); (case k_cat => k_is); (case a_law => k_is); (case l_law => k_is); (case c_law => k_is); (case k_law => k_is); (case i_req => k_is); (case l_req => k_is); (case c_req => k_is); (case k_req => k_is); (case i_add => k_is); (case l_add => k_is); (case c_add => k_is); (case k_add => k_is); (case i_mul => k_is); (case l_mul => k_is); (case c_mul => k_is); (case k_mul => k_is); (case i_neg => k_is); (case l_neg => k_is); (case c_neg => k_is); (case k_neg => k_is); (case i_ovr => k_is); (case l_ovr => k_is); (case c_ovr => k_is); (case k_ovr => k_is); (case i_rst => k_is); (case l_rst => k_is); (case c_rst => k_is); (case k_rst => k_is); (case i_cin => k_is); (case l_cin => k_is); (case c_cin => k_is); (case k_cin => k_is); (case i_cwo => k_is); (case l_cwo => k_is); (case c_cwo => k_is); (case k_cwo => k_is); (case i_ccl => k_is); (case l_ccl => k_is); (case c_ccl => k_is); (case k_ccl => k_is); (case i_ceq => k_is); (case l_ceq => k_is); (case c_ceq => k_is); (case k_ceq => k_is); (case i_cst => k_is); (case l_cst => k_is); (case c_cst => k_is); (case k_cst => k_is); (case i_crp => k_is); (case l_crp => k_is); (case c_crp => k_is); (case k_crp => k_is); (case i_rmu => k_is); (case i_iin => k_is); (case l_iin => k_is); (case c_iin => k_is); (case k_iin => k_is); (case i_rin => k_is); (case l_rin => k_is); (case c_rin => k_is); (case k_rin => k_is); (case t_rin => k_is); (case i_csl => k_is); (case l_csl => k_is); (case c_csl => k_is); (case k_csl => k_is); (case t_csl => k_is); (case i_cig => k_is); (case l_cig => k_is); (case c_cig => k_is); (case k_cig => k_is); (case t_cig => k_is); (case iD => k_is); (case rD => k_is); (case l_cdg => k_is); (case c_cdg => k_is); (case k_cdg => k_is); (case z_isin => k_is); (case z_tstr => k_is); (case z_tint => k_is); (case z_tlist => k_is); (case z_ttuple => k_is); (case z_tbool => k_is); (case z_fabs => k_is); (case z_frepr => k_is); (case z_flen => k_is); (case z_frange => k_is); (case z_fzip => k_is); (case z_fall => k_is); (case z_tve => k_is); (case z_tle => k_is); (case z_fenum => k_is); (case z_fmin => k_is); (case z_fsorted => k_is); (case z_tdict => k_is); (case lCI => k_is); (case tyI => k_is); (case tyF => k_is); (case vS => k_is)
    (case np => kernel_rfl); (case ch => kernel_rfl)
    (case hRv => kernel_rfl); (case hR => kernel_rfl); (case hO => kernel_rfl); (case hC => kernel_rfl); (case hG => kernel_rfl); (case hS => kernel_rfl); (case hI => kernel_rfl)
