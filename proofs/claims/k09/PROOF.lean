import PyProof.Rows.All
import Wide.All
import OpenK.AllK
import Wide.FinOn
import KE.KExcInit
import HandS.ForMost
import HandS.Exc
import HandS.ExcInit
import HandS.IsInst
import HandS.Defaults
import HandS.MakeKw
import HandS.FStr
import HandS.RaiseMore
import HandS.ExcIs
import KE.KExcIs
import PyProof.FactsAll.bool_1
import KE.KCallOwn
import PyProof.InstEq
import HandS.Property
import HandS.Gcd
import HandS.MakeKwOnly
import KE.KTryMore
import HandS.HotCalls
import HandS.ExcField
import KE.KFmtOwn
import HandS.Codes
import HandS.Walk
import KE.KOpsOwn
import HandS.Wide
import HandS.Lambda
import PyProof.DictUpdate
import PyProof.DictDisplay
import HandS.Star
import HandS.Conv
import HandS.More
import HandS.SetBool
import HandS.NoneIn
import HandS.Nested
import HandS.WordsExc
import HandS.Zip
import HandS.Style
import HandS.SetKeys
import HandS.DictComp
import HandS.ClsMeth
import HandS.HeadWalk
import KE.KNestM
import PySem.Challenge.RW_unseenslopes_k09_worlds_refused
set_option Elab.async false
set_option linter.all false
set_option maxRecDepth 100000
set_option maxHeartbeats 4000000
/-! Own error classes over any built-in base: called with keywords too, held as values, their fields. -/
namespace Ux
open PySem PySem.Calls PySem.W
open Builtin Builtin.ObjectAttr
section
variable {M : Model} {prog : Program} {w : World} {A : Around} {E : Value → Shared → Prop} {h : Heap} {g : Array GenState} {d : Drawn} {t : Nat} {os : OsState}
variable {nm q : Str} {C N : Addr} {bs bm bmB : List Value} {hdct : Bool} {sn : List Str} {sub : List Value} {ab : Bool} {col : Option Bool} {dd : Option Addr} {k0 k1 k2 k3 k5 : Option Value} {B newId initId : String}
/-- the class object as the built-in rules read it -/
abbrev ClsO (nm q : Str) (C N : Addr) (bs bm : List Value) (hdct : Bool) (sn : List Str) (sub : List Value) (ab : Bool) (col : Option Bool) (dd : Option Addr) (k0 k1 k2 k3 k5 : Option Value) (newId : String) : Obj := excClassObj nm q C N bs bm hdct sn sub ab col dd k0 k1 k2 k3 k5 newId
theorem kw_check (F : ExcBaseFacts B newId initId bmB) (hT : ∀ Y : String, bm.contains (.type Y) = bmB.contains (.type Y)) {rest : List Value} {kw : List (Str × Value)} {Q : Unit → Shared → Prop}
    (oc : h.get? C = some (ClsO nm q C N bs bm hdct sn sub ab col dd k0 k1 k2 k3 k5 newId)) (z : Q () ⟨h, g, d, t, os⟩) : wpAny M A (checkBuiltinCall newId ⟨.ref C :: rest, kw⟩) Q E ⟨h, g, d, t, os⟩ := by
  have inB : (Value.ref C :: bm).contains (.type B) = true := by rw [List.contains_cons, hT B, F.hasB, Bool.or_true]
  have star := F.noStar
  simp only [checkBuiltinCall, F.newKind, F.newSplit, F.newRow]
  repeat (first
    | refine wpAny_loadPart_at oc ?_
    | (refine wpAny_isSubtype_exc oc ?_; rw [inB])
    | refine wpAny_staticBase_exc oc ?_
    | refine wpAny_madeBy_exc oc ?_
    | simp only [bne_self_eq_false, Bool.false_eq_true, if_false]
    | wp_step)
  exact z
theorem kw_new {R : Result → Shared → Prop} (F : ExcBaseFacts B newId initId bmB) (hT : ∀ Y : String, bm.contains (.type Y) = bmB.contains (.type Y)) {rest : List Value} {kw : List (Str × Value)}
    (oc : h.get? C = some (ClsO nm q C N bs bm hdct sn sub ab col dd k0 k1 k2 k3 k5 newId)) (z : R (.ok (.ret (.ref (h.objs.size + 1)))) ⟨(h.push (kdv_tup rest)).push (excObj C h.objs.size none .none), g, d, t, os⟩) (hz : rest.length ≤ sizeLine) :
    codeAny (model prog w) A (.builtin newId ⟨.ref C :: rest, kw⟩) R ⟨h, g, d, t, os⟩ := by
  have ends := F.ends
  have inB : (Value.ref C :: bm).contains (.type B) = true := by rw [List.contains_cons, hT B, F.hasB, Bool.or_true]
  have inA : (Value.ref C :: bm).contains (.type "AttributeError") = false := by rw [List.contains_cons, hT _, F.noAttr]; rfl
  have inN : (Value.ref C :: bm).contains (.type "NameError") = false := by rw [List.contains_cons, hT _, F.noName]; rfl
  refine codeAny_builtinAt F.entry ?_
  unfold Builtin.«BaseException.__new__»
  refine wpAt_bind ?_
  show wpAt _ _ _ (stack >>= _) _ _ _
  refine wpAt_bind (wpAt_stack fun p below => wpAt_of_wpAny ?_)
  wp_walk
  refine wpAt_of_wpAny ?_
  rw [F.owner]
  repeat (first
    | with_reducible refine wpAny_madeHere_exc F.canon oc ?_
    | with_reducible refine wpAny_loadPart_at oc ?_
    | (with_reducible refine wpAny_isSubtype_exc oc ?_; first | rw [inB] | rw [inA] | rw [inN])
    | wp_step)
  show R _ _
  rw [Heap.size_push]
  exact z
theorem kw_typecall (F : ExcBaseFacts B newId initId bmB) (hT : ∀ Y : String, bm.contains (.type Y) = bmB.contains (.type Y)) {rest : List Value} {kw : List (Str × Value)} {fI : Addr} {Q : Fin → Shared → Prop}
    (oc : h.get? C = some (ClsO nm q C N bs bm hdct sn sub ab col dd k0 k1 k2 k3 k5 newId)) (li : Looks (model prog w) h (typeLookup (.ref C) "__init__") (some (.ref fI)))
    (lb : ∀ self, Looks (model prog w) h (bindSpecial (.ref fI) self) (.ref fI, [self])) (hz : rest.length ≤ sizeLine)
    (z : codeAny (model prog w) A (.call (.ref fI) ⟨.ref (h.objs.size + 1) :: rest, kw⟩) (fun r s' => match r with | .ok (.ret v) => v = .none ∧ Q (.done (.ret (.ref (h.objs.size + 1)))) s' | .ok _ => False | .error e => E e s')
      ⟨(h.push (kdv_tup rest)).push (excObj C h.objs.size none .none), g, d, t, os⟩) :
    wpAny (model prog w) A (Builtin.«type.__call__» ⟨.ref C :: rest, kw⟩) Q E ⟨h, g, d, t, os⟩ := by
  repeat (first
    | with_reducible refine wpAny_loadPart_at oc ?_
    | with_reducible refine wpAny_madeBy_exc oc ?_
    | wp_step)
  refine codeAny_call_builtin_code (Code.quiet_builtin _ F.quiet) (kw_check F hT oc ?_)
  refine kw_new F hT oc ?_ hz
  show wpAny _ _ _ _ _ _
  have stays : ∀ b o, h.get? b = some o → ((h.push (kdv_tup rest)).push (excObj C h.objs.size none .none)).get? b = some o := fun b o y => Heap.get?_push_of_some _ (Heap.get?_push_of_some _ y)
  have oc' := stays _ _ oc
  have made : ((h.push (kdv_tup rest)).push (excObj C h.objs.size none .none)).get? (h.objs.size + 1) = some (excObj C h.objs.size none .none) := by heap_get
  have inC : (Value.ref C :: bm).contains (.ref C) = true := by simp
  have i1 := li.keeps stays
  have b1 := (lb (.ref (h.objs.size + 1))).keeps stays
  unfold isInstance
  repeat (first
    | with_reducible refine wpAny_loadPart_at made ?_
    | (with_reducible refine wpAny_isSubtype_exc oc' ?_; rw [inC])
    | wp_step)
  show wpAny _ _ (typeLookup (.ref C) _) _ _ _
  refine i1.at ?_
  refine wpAny_holding (wpAny_bind (b1.at ?_))
  refine wpAny_bind (wpAny_call (codeAny_mono z fun r s' y => ?_))
  rcases r with e | (v | _ | _ | _) <;> first | exact y | exact y.elim | skip
  obtain ⟨rfl, y⟩ := y
  first
    | exact wpAny_pure (wpAny_pure y)
    | (wp_walk; exact y)
theorem kw_call {R : Result → Shared → Prop} (F : ExcBaseFacts B newId initId bmB) (hT : ∀ Y : String, bm.contains (.type Y) = bmB.contains (.type Y)) {rest : List Value} {kw : List (Str × Value)} {fI : Addr}
    (oc : h.get? C = some (ClsO nm q C N bs bm hdct sn sub ab col dd k0 k1 k2 k3 k5 newId)) (li : Looks (model prog w) h (typeLookup (.ref C) "__init__") (some (.ref fI)))
    (lb : ∀ self, Looks (model prog w) h (bindSpecial (.ref fI) self) (.ref fI, [self])) (hz : rest.length ≤ sizeLine)
    (z : codeAny (model prog w) (A.under (.builtin "type.__call__" ⟨.ref C :: rest, kw⟩)) (.call (.ref fI) ⟨.ref (h.objs.size + 1) :: rest, kw⟩) (InitBack (h.objs.size + 1) R)
      ⟨(h.push (kdv_tup rest)).push (excObj C h.objs.size none .none), g, d, t, os⟩) :
    codeAny (model prog w) A (.call (.ref C) ⟨rest, kw⟩) R ⟨h, g, d, t, os⟩ := by
  have f1 := tc_lookup
  have f2 := tc_bind (.ref C)
  have ty : (⟨h, g, d, t, os⟩ : Shared).TypeIs (.ref C) "type" := ⟨_, oc, rfl⟩
  refine codeAny_of_tree ?_
  show wpAny _ _ (callAny (.ref C) _) _ _ _
  repeat (any_goals (first
    | assumption
    | with_reducible refine wpAny_loadPart_at oc ?_
    | wp_step))
  refine ⟨rfl, ?_⟩
  refine codeAny_call_builtin_at (Code.quiet_builtin _ (by decide +kernel)) entry_typeCall (wpAny_check_type_call_sub oc (kw_typecall F hT oc li lb hz ?_))
  refine codeAny_mono z fun r s' y => ?_
  rcases r with e | (v | _ | _ | _) <;> exact y
end
end Ux

set_option Elab.async false
set_option linter.all false
set_option maxRecDepth 100000
set_option maxHeartbeats 4000000
namespace Ux
open PySem PySem.Calls PySem.W
section
variable {prog : Program} {w : World} {A : Around} {E : Value → Shared → Prop} {R : Result → Shared → Prop} {hp : Heap} {g : Array GenState} {d : Drawn} {t : Nat} {os : OsState}
variable {K : Frag} {B : String} {bmB : List Value} {name : Str} {tk : Tok} {v : Value} {x C : Addr}
theorem taker_of (n : findIn K (.ref C) name = some none) : takerIn K C name = some none := by
  unfold takerIn
  rw [n]
  rfl
/-- the first field of an exception -/
theorem put_first {t0 : Addr} (SF : StoreFacts B bmB "object.__setattr__" "object") (IN : K.In hp) (ex : hp.get? x = some (excObj C t0 none .none)) (ov : excOver K C bmB = true) (nf : findIn K (.ref C) name = some none) (hd : hasDictIn K C = true)
    (z : ∀ h' tk' dx, (∀ b o, b ≠ x → hp.get? b = some o → h'.get? b = some o) → hp.objs.size ≤ dx → dx ≠ x → h'.get? x = some (excObj C t0 (some dx) .none) → h'.Ns1 dx (fun y => if y = name then some v else none) → R (.ok (.ret .none)) ⟨h', g, d, tk', os⟩) :
    codeAny (model prog w) A (.call (.builtin "object.__setattr__") ⟨[.ref x, .str name tk, v], []⟩) R ⟨hp, g, d, t, os⟩ := by
  refine osa_openX (s := ⟨hp, g, d, t, os⟩) (od := none) SF IN ⟨ex, rfl, rfl, trivial⟩ ov (taker_of nf) fun b => ?_
  obtain ⟨cd, hc, hdc⟩ := any_some hd
  have lx := Heap.lt_size ex
  have nx : hp.objs.size ≠ x := Nat.ne_of_gt lx
  have ex1 : (hp.push (dictOf [] 0)).get? x = some (excObj C t0 none .none) := Heap.get?_push_of_some _ ex
  refine wpAny_bind (wpAny_pure (wpAny_bind (instanceDict_exc (s := ⟨hp, g, d, t, os⟩) ex (looks_clsIn IN hc) hdc ?_)))
  show wpAny _ _ (Builtin.ObjectAttr.storeInDict hp.objs.size (.str name tk) name v) _ _ _
  refine HandSPX.store_in_new ⟨_, #[], _, (Heap.get?_update_ne _ _ _ _ nx).trans (Heap.get?_push_at rfl rfl), rfl, fun e he => absurd he (by simp), fun _ => rfl⟩ fun h' tk' hn same => ?_
  refine z h' tk' hp.objs.size (fun b o nb ho => ?_) (Nat.le_refl _) nx ?_ hn
  · exact (same.2 b (Nat.ne_of_lt (Heap.lt_size ho))).trans ((Heap.get?_update_ne _ _ _ _ nb).trans (Heap.get?_push_of_some _ ho))
  · exact (same.2 x nx.symm).trans (Heap.get?_update_self _ ex1 rfl)
/-- a further one -/
theorem put_more {t0 dx : Addr} {m0 : Str → Option Value} {ns : List Str} (SF : StoreFacts B bmB "object.__setattr__" "object") (IN : K.In hp) (ex : hp.get? x = some (excObj C t0 (some dx) .none)) (hn : hp.Ns1 dx m0) (hw : Within m0 ns) (hz : ns.length ≤ 1000)
    (ov : excOver K C bmB = true) (nf : findIn K (.ref C) name = some none) (hd : hasDictIn K C = true)
    (z : ∀ h' tk', (∀ b o, b ≠ dx → hp.get? b = some o → h'.get? b = some o) → h'.Ns1 dx (fun y => if y = name then some v else m0 y) → R (.ok (.ret .none)) ⟨h', g, d, tk', os⟩) :
    codeAny (model prog w) A (.call (.builtin "object.__setattr__") ⟨[.ref x, .str name tk, v], []⟩) R ⟨hp, g, d, t, os⟩ := by
  obtain ⟨oD, _, _, hoD, _, _⟩ := hn.count hw
  refine osa_openX (s := ⟨hp, g, d, t, os⟩) (od := some oD) SF IN ⟨ex, rfl, rfl, hoD⟩ ov (taker_of nf) fun b => ?_
  obtain ⟨cd, hc, hdc⟩ := any_some hd
  refine wpAny_bind (wpAny_pure (wpAny_bind (wpAny_bind (wpAny_loadPart ex (wpAny_bind ((looks_clsIn IN hc).here ?_))))))
  rw [hdc]
  refine wpAny_pure (a := some dx) ?_
  exact OEX.store_in_old hn hw hz fun h' tk' hn' same => z h' tk' (fun b o nb ho => (same.2 b nb).trans ho) hn'
end
end Ux

namespace Ux
open PySem PySem.Spec PyProof.Rows L2
/-- what the written part says of an error class over the built-in B -/
structure Ec (K : PySem.W.Frag) (B newId initId : String) (bmB : List Value) (C : Addr) : Prop where
  FB : ExcBaseFacts B newId initId bmB
  SF : StoreFacts B bmB "object.__setattr__" "object"
  ini : PySem.W.excInitIn K C bmB newId = true
  ovr : PySem.W.excOver K C bmB = true
  hdc : PySem.W.hasDictIn K C = true
  sa : PySem.W.findIn K (.ref C) "__setattr__" = some (some (.builtin "object.__setattr__"))
  kc : PySem.W.keepIn K (.ref C) = true
  ga : PySem.W.findIn K (.ref C) "__getattribute__" = some (some (.builtin "BaseException.__getattribute__"))
  gg : PySem.W.findIn K (.ref C) "__getattr__" = some none
  exC : PySem.W.subIn K (.ref C) (.type "BaseException") = some true
section
variable {X : Cx} {pins : List (Addr × Obj)} {σ : L2.St} {H : Hp} {s : Shared} {a C dx : Addr} {f : Str} {y : V} {u : Value} {fs : List (Str × V)} {Q : Unit → Shared → Prop} {E : Value → Shared → Prop} {A : Around} {B newId initId : String} {bmB : List Value}
theorem not_own {c x : Addr} {o : HO} (e : H c = some o) (n : ∀ y, o ≠ .own y) (z : H x = some (.own a)) : x ≠ c := fun q => by
  rw [q, e] at z
  exact n _ (Option.some.inj z)
theorem est_first (T : Ec X.K B newId initId bmB C) (I : Inv X pins σ H s) (ea : H a = some (exo a C none)) (nf : PySem.W.findIn X.K (.ref C) f = some none) (r : RelV y u)
    (z : ∀ dx s', H dx = none → dx ≠ a → Inv X pins σ (upd (upd H dx (exd dx [(f, y)])) a (exo a C (some dx))) s' → Q () s') : wpAny (model X.prog X.w) A (setAttr (.ref a) f u) Q E s := by
  obtain ⟨t1, ho⟩ := exo_at I.hok ea
  obtain ⟨hp, g, d, t, os⟩ := s
  refine PySem.W.set_plain I.kIn (ox := PySem.W.excObj C t1 none .none) (od := none) ⟨ho, rfl, rfl, trivial⟩ T.sa ?_
  refine put_first T.SF I.kIn ho T.ovr nf T.hdc fun h' tk' dx keep lo ne hx hn => ?_
  have fr : H dx = none := I.hok.fresh lo
  have nd : ∀ {b : Addr} {o : Obj}, hp.get? b = some o → b ≠ dx := fun q => Nat.ne_of_lt (Nat.lt_of_lt_of_le (Heap.lt_size q) lo)
  have na : ∀ {b : Addr}, H b = none → b ≠ a := fun n q => by
    rw [q, ea] at n
    cases n
  have U : Un X.fs [] H (upd (upd H dx (exd dx [(f, y)])) a (exo a C (some dx))) hp h' := by
    refine ⟨fun b o q n _ _ => keep b o (na n) q, fun b o q n _ _ => ⟨o.slots, keep b o (na n) q⟩, fun b o q n _ => ?_, fun b o q _ => ?_, fun b xs q => ?_, fun b o v q => ?_, fun b ps q => ⟨#[], ?_⟩⟩
    · rw [upd_ne (na n), upd_ne (nd q)]
      exact n
    · by_cases hb : b = a
      · subst hb
        exact ⟨_, hx⟩
      · exact ⟨o, keep b o hb q⟩
    · rw [upd_ne (at_ne ea q exo_tup), upd_ne (ne_of_none q fr)]
      exact q
    · rw [upd_ne (at_ne ea q exo_frz), upd_ne (ne_of_none q fr)]
      exact q
    · rw [upd_ne (at_ne ea q exo_tbl), upd_ne (ne_of_none q fr), q]
      simp
  refine z dx _ fr ne (I.un (t' := tk') U fun b o q => ?_)
  by_cases hb : b = a
  · subst hb
    rw [upd_same] at q
    cases q
    exact exo_ok hx
  · rw [upd_ne hb] at q
    by_cases hd : b = dx
    · subst hd
      rw [upd_same] at q
      cases q
      exact exd_ok hn (relO_put (fs := []) r fun _ => True.intro)
    · rw [upd_ne hd] at q
      refine (I.hok b o q).stay (fun c v hc w => keep c v ?_ w) (fun c hc => ?_) (fun c xs hc => ?_)
      · rcases hc with hc | hc
        · rw [hc]
          exact hb
        · exact at_ne ea hc exo_own
      · rw [upd_ne (at_ne ea hc exo_own), upd_ne (ne_of_none hc fr)]
        exact hc
      · rw [upd_ne (at_ne ea hc exo_tup), upd_ne (ne_of_none hc fr)]
        exact hc
theorem est_more (T : Ec X.K B newId initId bmB C) (I : Inv X pins σ H s) (ea : H a = some (exo a C (some dx))) (ed : H dx = some (exd dx fs)) (hl : fs.length ≤ 900) (nf : PySem.W.findIn X.K (.ref C) f = some none) (r : RelV y u)
    (z : ∀ s', Inv X pins σ (upd H dx (exd dx ((f, y) :: fs))) s' → Q () s') : wpAny (model X.prog X.w) A (setAttr (.ref a) f u) Q E s := by
  obtain ⟨t1, ho⟩ := exo_at I.hok ea
  obtain ⟨mA, hns, rel⟩ := exd_at I.hok ed
  have hw := within_of rel
  obtain ⟨hp, g, d, t, os⟩ := s
  obtain ⟨oD, _, _, hoD, _, _⟩ := hns.count hw
  refine PySem.W.set_plain I.kIn (ox := PySem.W.excObj C t1 (some dx) .none) (od := some oD) ⟨ho, rfl, rfl, hoD⟩ T.sa ?_
  refine put_more T.SF I.kIn ho hns hw (by rw [List.length_map]; omega) T.ovr nf T.hdc fun h' tk' keep hn => ?_
  have there : ∃ o, h'.get? dx = some o := by
    obtain ⟨o, _, _, q, _⟩ := hn
    exact ⟨o, q⟩
  exact z _ (I.write (t' := tk') (x := dx) (e := dx) (o := exd dx ((f, y) :: fs)) (by rw [ed]; exact True.intro) (.inl rfl) keep there (exd_ok hn (relO_put r rel)))
/-- the base's __init__ on it: nothing of it is told -/
theorem base_init {us : List Value} {Q : Value → Shared → Prop} (T : Ec X.K B newId initId bmB C) (I : Inv X pins σ H s) (ea : H a = some (exo a C none)) (hl : us.length ≤ sizeLine) (z : ∀ s', Inv X pins σ H s' → Q .none s') :
    wpAny (model X.prog X.w) A (call (.builtin initId) (.ref a :: us)) Q E s := by
  obtain ⟨t1, ho⟩ := exo_at I.hok ea
  obtain ⟨nm, N, qn, bs, bm, hdct, sn, sub, ab, col, dd, k0, k1, k2, k3, k5, oc, hT⟩ := PySem.W.excInit_of I.kIn T.ini
  obtain ⟨hp, g, d, t, os⟩ := s
  refine wpAny_call (PySem.HandSPX.init_base T.FB hT oc ho hl fun h' t2 keep hx => ?_)
  have J := I.write (t' := t) (x := a) (e := a) (o := exo a C none) (by rw [ea]; exact True.intro) (.inl rfl) keep ⟨_, hx⟩ (exo_ok hx)
  have same : upd H a (exo a C none) = H := by
    funext b
    by_cases hb : b = a
    · rw [hb, upd_same, ea]
    · rw [upd_ne hb]
  rw [same] at J
  exact z _ J
end
/-- .. whatever the base's other facts -/
def EcI (K : PySem.W.Frag) (initId : String) (C : Addr) : Prop := ∃ (B newId : String) (bmB : List Value), Ec K B newId initId bmB C
def EcA (K : PySem.W.Frag) (C : Addr) : Prop := ∃ initId : String, EcI K initId C
/-! ### readings and rules -/
/-- Base.__init__(self, ..) -/
def tBI (K : PySem.W.Frag) (initId : String) (ta : TA) : TE := fun σ H Q => ta σ H fun vs H1 => ∃ (a C : Addr) (ws : List V), vs = .ref a :: ws ∧ ws.length ≤ 1000 ∧ EcI K initId C ∧ H1 a = some (exo a C none) ∧ Q .non H1
/-- self.f = e -/
def tEst (K : PySem.W.Frag) (f : Str) (to te : TE) : TS := fun D σ H => te σ H fun y H1 => to σ H1 fun x H2 => ∃ a C : Addr, x = .ref a ∧ EcA K C ∧ PySem.W.findIn K (.ref C) f = some none ∧
  ((H2 a = some (exo a C none) ∧ ∀ dx, H2 dx = none → dx ≠ a → D.nx σ (upd (upd H2 dx (exd dx [(f, y)])) a (exo a C (some dx)))) ∨
    ∃ (dx : Addr) (fs : List (Str × V)), H2 a = some (exo a C (some dx)) ∧ H2 dx = some (exd dx fs) ∧ fs.length ≤ 900 ∧ D.nx σ (upd H2 dx (exd dx ((f, y) :: fs))))
/-- e.f -/
def tEf (K : PySem.W.Frag) (f : Str) (to : TE) : TE := fun σ H Q => to σ H fun x H1 => ∃ (a C dx : Addr) (fs : List (Str × V)) (v : V), x = .ref a ∧ EcA K C ∧ PySem.W.findIn K (.ref C) f = some none ∧
  H1 a = some (exo a C (some dx)) ∧ H1 dx = some (exd dx fs) ∧ fs.lookup f = some v ∧ Q v H1
section
variable {X : Cx} {o e : Expr} {es : List Expr} {to te : TE} {ta : TA} {f x : Str} {p p' p1 p2 pos : Pos} {B newId initId : String} {bmB : List Value} {CB : Addr} {mc : Value}
theorem pe_bi {pl : Sem Bool} (hg : Gl X x) (hm : X.mg x = some (.ref CB)) (sg : PySem.W.specialIn X.K (.ref CB) "__getattribute__" = some (some (.builtin "type.__getattribute__"))) (rd : PySem.W.readsIn X.K CB mc = true)
    (vV : PySem.W.findCls X.K (.ref CB) mc "__init__" = some (.val (.builtin initId))) (vh : PySem.W.handedIn (.builtin initId) = true) (ha : PA X (e :: es) ta) (hdb : (x == ("__debug__" : Str)) = false := by decide)
    (hc : eval (.Call (.Attribute (.Name x p1) "__init__" p2) (e :: es) [] pos) X.env = (do
      let ov ← eval (.Name x p1) X.env
      standAt p2.atName
      let (f, first) ← holding [ov] (getMethod ov "__init__" pl)
      callWith pos f first (backTo pos (starEach (e :: es) X.env)) (backToKw pos (keywordEach [] X.env))) := by rfl)
    (he : starEach (e :: es) X.env = (false, eval e X.env) :: starEach es X.env := by rfl) (hpl : (backTo pos (starEach es X.env)).any (·.1) = false := by rfl) :
    PE X (.Call (.Attribute (.Name x p1) "__init__" p2) (e :: es) [] pos) (tBI X.K initId ta) := by
  refine ⟨fun pins s σ H Q I h => ?_⟩
  refine PySem.W.methodCall_KW (ld_glob I hg hm ?_ hdb) hc
  refine PySem.W.method_cls I.kIn sg (PySem.W.cls_value I.kIn rd vV vh ?_)
  show wpAny _ _ (callWith pos (Value.builtin initId) [] (backTo pos (starEach (e :: es) X.env)) []) _ _ _
  refine PyProof.Rows.callWith_method1 (thn (ha.run pos pins _ σ H _ (I.tok _) h) fun us s1 ⟨vs, H1, I1, r1, a, C, ws, ev, hl, T, ea, q⟩ => ?_) he hpl
  subst ev
  obtain ⟨_, _, _, T⟩ := T
  cases r1 with
  | @cons _ u0 _ ur ra rw' =>
    obtain rfl : u0 = Value.ref a := ra
    have hz : ur.length ≤ sizeLine := by
      rw [← Paired.length rw', sizeLine_eq]
      omega
    exact base_init T I1 ea hz fun s' J => ⟨.non, H1, J, rfl, q⟩
theorem ps_est (ho : PE X o to) (he : PE X e te) (hs : swapsWith e (some (.Attribute o f p')) pos.line X.env = pure false := by rfl) : PS X (.Assign [.Attribute o f p'] e pos) (tEst X.K f to te) := by
  refine ⟨fun pins s σ H D I h => ?_⟩
  refine plainObj_wpAny_Assign_Attribute (thn (he.run pins s σ H _ I h) fun v s1 ⟨y, H1, I1, r1, q1⟩ => thn (ho.run pins s1 σ H1 _ I1 q1) fun u s2 ⟨x, H2, I2, r2, a, C, ex, T, nf, q⟩ => ?_) hs
  subst ex
  obtain rfl : u = Value.ref a := r2
  obtain ⟨_, _, _, _, T⟩ := T
  rcases q with ⟨ea, q⟩ | ⟨dx, fs, ea, ed, hl, q⟩
  · exact est_first T I2 ea nf r1 fun dx s' n ne J => ⟨σ, _, J, q dx n ne⟩
  · exact est_more T I2 ea ed hl nf r1 fun s' J => ⟨σ, _, J, q⟩
theorem pe_ef (ho : PE X o to) (hb : attributeBase o f X.env (eval o X.env) = eval o X.env := by rfl) : PE X (.Attribute o f pos) (tEf X.K f to) := by
  refine ⟨fun pins s σ H Q I h => ?_⟩
  refine attr_of hb (thn (ho.run pins s σ H _ I h) fun u s1 hh => ?_)
  obtain ⟨x, H1, I1, rx, a, C, dx, fs, v, ex, T, nf, ea, ed, l, q⟩ := hh
  subst ex
  obtain rfl : u = Value.ref a := rx
  obtain ⟨_, _, _, _, T⟩ := T
  obtain ⟨t1, hoa⟩ := exo_at I1.hok ea
  obtain ⟨mA, hns, hr⟩ := exd_at I1.hok ed
  obtain ⟨od, hod, hl⟩ := lookIn_ns hns
  obtain ⟨u, hu, ru⟩ := RelO.some_of (v := v) (o := mA f) (by rw [← l]; exact hr f)
  have J : PySem.W.InstAt s1.heap a (PySem.W.excObj C t1 (some dx) .none) C (some od) := ⟨hoa, rfl, rfl, hod⟩
  exact HandSPX.exc_get I1.kIn J T.ga T.gg T.exC (PySem.W.findObj_own T.hdc nf rfl (by rw [hl, hu])) (handed_of ru) ⟨v, H1, I1.tok _, ru, q⟩
end
/-! ### an error made -/
/-- C(..) by values vs and keywords zs: a new error a, then __init__ by its promise -/
def tMkE (C : Addr) (n m : Nat) (sp : Sp) (gV : List V → List V → List V) (ta tk : TA) : TE := fun σ H Q => ta σ H fun vs H1 => tk σ H1 fun zs H2 => vs.length = n ∧ zs.length = m ∧ ∀ a, H2 a = none → sp (gV (.ref a :: vs) zs) (upd H2 a (exo a C none)) (fun v H3 => v = .non ∧ Q (.ref a) H3) (fun _ _ _ => False)
section
variable {X : Cx} {CX : CXT} {k n : Nat} {fI C : Addr} {fd : FuncData} {ps ks : List Str} {sp : Sp} {B newId initId : String} {bmB : List Value} {g : List Value → List Value → List Value} {gV : List V → List V → List V}
theorem run_mkE {pins : List (Addr × Obj)} {σ : L2.St} {H : Hp} {s : Shared} {Q : VK} {us ws : List Value} {vs zs : List V} (T : Ec X.K B newId initId bmB C) (iC : PySem.W.findIn X.K (.ref C) "__init__" = some (some (.ref fI))) (tI : PySem.W.typeIn X.K (.ref fI) = some (.type "function"))
    (F : FnOk X.prog X.w X.K X.mg X.base CX k fI fd ps sp) (hr : Room (k + 1) X.A) (hb : KBn X.K fd ps (n + 1) ks g gV) (hx : Passes CX X (fun _ _ _ => False)) (I : Inv X pins σ H s) (r : Vals vs us) (rz : Vals zs ws) (l1 : vs.length = n) (l2 : zs.length = ks.length) (hn : n ≤ 1000)
    (z : ∀ a, H a = none → sp (gV (.ref a :: vs) zs) (upd H a (exo a C none)) (fun v H3 => v = .non ∧ Q (.ref a) H3) (fun _ _ _ => False)) :
    wpAny (model X.prog X.w) X.A (call (.ref C) us (ks.zip ws)) (EP X pins σ Q) X.xe s := by
  obtain ⟨nm, N, qn, bs, bm, hdct, sn, sub, ab, col, dd, k0, k1, k2, k3, k5, oc, hT⟩ := PySem.W.excInit_of I.kIn T.ini
  obtain ⟨hp, gn, dr, tk, os⟩ := s
  have lo : hp.objs.size ≤ hp.objs.size + 1 := Nat.le_succ _
  have fr : H (hp.objs.size + 1) = none := I.hok.fresh lo
  have hq := z _ fr
  have kk : ∀ b o, hp.get? b = some o → ((hp.push (PySem.W.kdv_tup us)).push (PySem.W.excObj C hp.objs.size none .none)).get? b = some o := fun b o e => Heap.get?_push_of_some _ (Heap.get?_push_of_some _ e)
  have made : ((hp.push (PySem.W.kdv_tup us)).push (PySem.W.excObj C hp.objs.size none .none)).get? (hp.objs.size + 1) = some (PySem.W.excObj C hp.objs.size none .none) := by heap_get
  have I2 : Inv X pins σ (upd H (hp.objs.size + 1) (exo (hp.objs.size + 1) C none)) ⟨(hp.push (PySem.W.kdv_tup us)).push (PySem.W.excObj C hp.objs.size none .none), gn, dr, tk, os⟩ :=
    I.laid (t' := tk) (a := hp.objs.size + 1) (o := exo (hp.objs.size + 1) C none) kk lo (exo_ok made)
  have r1 : Vals (V.ref (hp.objs.size + 1) :: vs) (Value.ref (hp.objs.size + 1) :: us) := .cons rfl r
  have r2 := hb.rel r1 rz
  have e1 : (Value.ref (hp.objs.size + 1) :: us).length = n + 1 := r1.length.symm.trans (congrArg Nat.succ l1)
  have e2 : ws.length = ks.length := rz.length.symm.trans l2
  have hus : us.length ≤ sizeLine := by
    rw [← Paired.length r, l1, sizeLine_eq]
    omega
  refine wpAny_call (kw_call T.FB hT oc (PySem.W.looks_findIn I.kIn iC) (fun self => PySem.W.bind_fn I.kIn self tI) hus
    (codeAny_mono (F.run _ X.stack _ _ ⟨Value.ref (hp.objs.size + 1) :: us, ks.zip ws⟩ (g (Value.ref (hp.objs.size + 1) :: us) ws) _ _ (fun _ _ _ => False) (hr.make C us (ks.zip ws)) (I2.env0.make C us (ks.zip ws)) (hb.to _ (Value.ref (hp.objs.size + 1) :: us) ws I2.kIn e1 e2) r2 hq) fun r s' hq' => ?_))
  cases r with
  | error er => exact hx pins σ _ _ er s' I2 hq'
  | ok fl =>
    cases fl with
    | ret u =>
      obtain ⟨v, H', I3, rv, ev, q3⟩ := I2.after hq'
      subst ev
      exact ⟨rv, ⟨V.ref (hp.objs.size + 1), H', I3, rfl, q3⟩⟩
    | next => exact False.elim hq'
    | brk => exact False.elim hq'
    | cont => exact False.elim hq'
end
end Ux

set_option Elab.async false
set_option linter.all false
set_option maxRecDepth 100000
set_option maxHeartbeats 4000000
namespace Ux
open PySem PySem.Spec PyProof.Rows L2
section
variable {X : Cx} {CX : CXT} {k n : Nat} {fI C : Addr} {fd : FuncData} {ps ks : List Str} {sp : Sp} {B newId initId : String} {bmB : List Value} {g : List Value → List Value → List Value} {gV : List V → List V → List V}
variable {x : Str} {p pos : Pos} {e : Expr} {es : List Expr} {kws : List Keyword} {ta tk : TA}
theorem kbn_pos {K : PySem.W.Frag} {fd : FuncData} {ps : List Str} (hb : Binds K fd ps []) (n : Nat) (hn : ps.length = n) : KBn K fd ps n [] (fun us _ => us) (fun vs _ => vs) := by
  refine ⟨fun s us ws IN l1 l2 => ?_, fun r _ => r⟩
  have hz : ws = [] := List.length_eq_zero_iff.mp l2
  subst hz
  have z := hb s us IN (by rw [List.append_nil, l1, hn])
  rw [List.append_nil] at z
  exact z
theorem kbn_mk {K : PySem.W.Frag} {y qual : Str} {st : Stmt} {f : Addr} {fd : FuncData} (F : Fun K y qual st f fd) (n : Nat) (ks : List Str) (g : {α : Type} → List α → List α → List α)
    (hrel : ∀ {vs zs : List V} {us ws : List Value}, Vals vs us → Vals zs ws → Vals (g vs zs) (g us ws))
    (h : ∀ (kV doc pm : Value) (an : Option Addr) (cdv ct : Value) (us ws : List Value), us.length = n → ws.length = ks.length → bindArgs (PySem.W.fnOf y qual (defArgs st) (defBody st) (defScope st) .none kV doc pm an cdv ct) ⟨us, ks.zip ws⟩ = pure (ps.zip (g us ws))) : KBn K fd ps n ks (fun us ws => g us ws) (fun vs zs => g vs zs) := by
  obtain ⟨oc, od, kV, doc, pm, an, cdv, ct, osl, rfl, lk, hcd⟩ := F.ex
  exact ⟨fun s us ws _ l1 l2 => .of_eq (h kV doc pm an cdv ct us ws l1 l2), fun r z => hrel r z⟩
/-- C(e, ..) -/
theorem pe_mkE (T : Ec X.K B newId initId bmB C) (iC : PySem.W.findIn X.K (.ref C) "__init__" = some (some (.ref fI))) (tI : PySem.W.typeIn X.K (.ref fI) = some (.type "function")) (F : FnOk X.prog X.w X.K X.mg X.base CX k fI fd ps sp) (hr : Room (k + 1) X.A)
    (hb : KBn X.K fd ps (n + 1) [] g gV) (hx : Passes CX X (fun _ _ _ => False)) (hn : n ≤ 1000) (hg : Gl X x) (hm : X.mg x = some (.ref C)) (ha : PA X (e :: es) ta)
    (hdb : (x == ("__debug__" : Str)) = false := by decide) (he : starEach (e :: es) X.env = (false, eval e X.env) :: starEach es X.env := by rfl) (hpl : (backTo pos (starEach es X.env)).any (·.1) = false := by rfl) :
    PE X (.Call (.Name x p) (e :: es) [] pos) (tMkE C n 0 sp gV ta tNil) := by
  refine ⟨fun pins s σ H Q I h => ?_⟩
  refine wpAny_Call_Name_kw (ld_glob I hg hm ?_ hdb)
  refine PySem.W.callWith_K (h₀ := X.base) I.ok.mod.kin T.kc (thn (ha.run pos pins s σ H _ I h) fun us s1 hh => ?_) he hpl
  obtain ⟨vs, H1, I1, r1, l1, _, z⟩ := hh
  refine ⟨I1.kIn, ?_⟩
  exact run_mkE (ks := []) (ws := []) (zs := []) T iC tI F hr hb hx I1 r1 .nil l1 rfl hn z
/-- C() -/
theorem pe_mkE0 (T : Ec X.K B newId initId bmB C) (iC : PySem.W.findIn X.K (.ref C) "__init__" = some (some (.ref fI))) (tI : PySem.W.typeIn X.K (.ref fI) = some (.type "function")) (F : FnOk X.prog X.w X.K X.mg X.base CX k fI fd ps sp) (hr : Room (k + 1) X.A)
    (hb : KBn X.K fd ps 1 [] g gV) (hx : Passes CX X (fun _ _ _ => False)) (hg : Gl X x) (hm : X.mg x = some (.ref C)) (hdb : (x == ("__debug__" : Str)) = false := by decide) : PE X (.Call (.Name x p) [] [] pos) (tMkE C 0 0 sp gV tNil tNil) := by
  refine ⟨fun pins s σ H Q I h => ?_⟩
  refine wpAny_Call_Name_kw (ld_glob I hg hm ?_ hdb)
  obtain ⟨l1, l2, z⟩ := h
  exact PySem.W.callWith_K0 I.kIn T.kc (run_mkE (ks := []) (ws := []) (zs := []) (us := []) (vs := []) T iC tI F hr hb hx I .nil .nil rfl rfl (Nat.zero_le _) z)
/-- C(k = e, ..) -/
theorem pe_mkEK (T : Ec X.K B newId initId bmB C) (iC : PySem.W.findIn X.K (.ref C) "__init__" = some (some (.ref fI))) (tI : PySem.W.typeIn X.K (.ref fI) = some (.type "function")) (F : FnOk X.prog X.w X.K X.mg X.base CX k fI fd ps sp) (hr : Room (k + 1) X.A)
    (hb : KBn X.K fd ps 1 ks g gV) (hx : Passes CX X (fun _ _ _ => False)) (hg : Gl X x) (hm : X.mg x = some (.ref C)) (hkw : PK X kws tk)
    (hall : (backToKw pos (keywordEach kws X.env)).all (·.1.isSome) = true := by rfl) (hks : (backToKw pos (keywordEach kws X.env)).filterMap (·.1) = ks := by rfl) (hdb : (x == ("__debug__" : Str)) = false := by decide)
    (hpl : ((backTo pos (starEach [] X.env)).any (·.1) || (backToKw pos (keywordEach kws X.env)).any (·.1.isNone)) = false := by rfl) :
    PE X (.Call (.Name x p) [] kws pos) (tMkE C 0 ks.length sp gV tNil tk) := by
  refine ⟨fun pins s σ H Q I h => ?_⟩
  refine wpAny_Call_Name_kw (ld_glob I hg hm ?_ hdb)
  refine PySem.W.callWith_KW0 (h₀ := X.base) I.ok.mod.kin T.kc hall ?_ hpl
  refine thn (hkw.run pos pins s σ H _ I h) fun ws s2 hh => ?_
  obtain ⟨zs, H2, I2, rz, l1, l2, z⟩ := hh
  refine ⟨I2.kIn, ?_⟩
  rw [hks]
  exact run_mkE (us := []) (vs := []) T iC tI F hr hb hx I2 .nil rz rfl l2 (Nat.zero_le _) z
end
/-! ### isinstance of an error -/
structure Ei (K : PySem.W.Frag) (C : Addr) : Prop where
  cl : (PySem.W.clsIn K C).isSome = true
  hg : PySem.W.findIn K (.ref C) "__getattribute__" = some (some (.builtin "BaseException.__getattribute__"))
  hk : PySem.W.findIn K (.ref C) "__getattr__" = some none
  hs : PySem.W.subIn K (.ref C) (.type "BaseException") = some true
  ha : PySem.W.findIn K (.ref C) "__class__" = some (some (.builtin "object.__class__"))
  hn : PySem.W.specialIn K (.builtin "object.__class__") "__get__" = some (some (.builtin "getset_descriptor.__get__"))
  ht : PySem.W.takesIn K (.builtin "object.__class__") = some true
  hm : PySem.W.mroIn K C (.type "object") = some true
/-- isinstance(e, c), e an error with its dict -/
def rIsEr (K : PySem.W.Frag) : List V → Hp → VK → Prop := fun xs H Q => ∃ (a C dx : Addr) (fs : List (Str × V)) (c : V) (u : Value) (b : Bool), xs = [.ref a, c] ∧ ClsV c u ∧ Ei K C ∧ H a = some (exo a C (some dx)) ∧ H dx = some (exd dx fs) ∧ PySem.W.kitOne K (.ref C) u = some b ∧ Q (.bl b) H
theorem call_isEr {X : Cx} : CallR X (.builtin "isinstance") (rIsEr X.K) := by
  intro pins s σ H xs us Q I r h
  obtain ⟨a, C, dx, fs, c, u, b, rfl, kc, E, ea, ed, e, q⟩ := h
  obtain ⟨u1, u2, rfl, r1, r2⟩ := vals2 r
  cases (show u1 = Value.ref a from r1)
  have ec := kc.eq r2
  subst ec
  obtain ⟨t1, hoa⟩ := exo_at I.hok ea
  obtain ⟨mA, hns, hr⟩ := exd_at I.hok ed
  obtain ⟨od, hod, hl⟩ := lookIn_ns hns
  have J : PySem.W.InstAt s.heap a (PySem.W.excObj C t1 (some dx) .none) C (some od) := ⟨hoa, rfl, rfl, hod⟩
  exact PySem.W.kia_one (PySem.W.kitx_exc E.cl E.hg E.hk E.hs E.ha E.hn E.ht E.hm) I.kIn J e (fun z => nomatch z) fun tk => ⟨.bl b, H, I.tok tk, rfl, q⟩
/-! ### abs and str of a truth value -/
theorem abs_true {prog : Program} {w : World} {A : Around} {E : Value → Shared → Prop} {s : Shared} {Q : Value → Shared → Prop} (h : ∀ u tk, Q (.int 1 u) { s with toks := tk }) : wpAny (model prog w) A (call (.builtin "abs") [.bool true]) Q E s := by
  refine PySem.Calls.call_function_entry kind_abs plain_abs entry_abs (args_abs _) ?_
  unfold Builtin.«abs»
  refine wpAny_bind (m := oneArg "abs" _) (wpAny_pure ?_)
  refine wpAny_bind (m := callSpecial? (.bool true) (Str.ofString "__abs__")) (wpAny_callSpecial?_slot (name := Str.ofString "__abs__") (PySem.typeIs_bool s true) F.slot_bool_abs
    (wpAny_call_entry F.slot_bool_abs (PySem.typeIs_bool s true) entry_int_abs ?_ (args_int_abs _)))
  have h' := h s.toks (s.toks + 1)
  exact wpAny_ret_mkInt (wpAny_pure ⟨_, rfl, h'⟩)
theorem call_absT {X : Cx} : CallR X (.builtin "abs") (fun xs H Q => (∃ i, xs = [.int i] ∧ Q (.int (if i < 0 then -i else i)) H) ∨ (xs = [.bl true] ∧ Q (.int 1) H)) := by
  intro pins s σ H xs us Q I r h
  rcases h with ⟨i, rfl, q⟩ | ⟨rfl, q⟩
  · obtain ⟨u, rfl, t, rfl⟩ := vals1 r
    exact call_abs_int fun u tk => ⟨.int (if i < 0 then -i else i), H, I.tok _, ⟨_, rfl⟩, q⟩
  · obtain ⟨u, rfl, r1⟩ := vals1 r
    cases (show u = Value.bool true from r1)
    exact abs_true fun u tk => ⟨.int 1, H, I.tok _, ⟨_, rfl⟩, q⟩
theorem str_true {prog : Program} {w : World} {A : Around} {E : Value → Shared → Prop} {s : Shared} {Q : Value → Shared → Prop} (h : Q (.str "True" s.toks) { s with toks := s.toks + 1 }) : wpAny (model prog w) A (call (.type "str") [.bool true]) Q E s :=
  callType_new F.called_str (by decide) (F.typeCall_str_1 _) (F.newCall_str_1 _) (fun obj => F.args_object_init_2 obj _) F.entry_str_new
    (meets_str_new (S := fun _ R s => R (.ok (.ret (.str "True" s.toks))) { s with toks := s.toks + 1 }) fun _ _ _ _ s hq =>
      wpAny_strOf_gives rfl (PySem.typeIs_bool s true) F.slot_bool_str F.slot_bool_repr F.entry_bool_repr (F.args_bool_repr_1 _) (gives_bool_repr true) hq (hsz := by decide)) ⟨typeIs_str _ _ _, h⟩
theorem call_strT {X : Cx} : CallR X (.type "str") (fun xs H Q => (∃ i, xs = [.int i] ∧ i.natAbs.log2 < 1920 ∧ Q (.str (toString i)) H) ∨ (xs = [.bl true] ∧ Q (.str "True") H)) := by
  intro pins s σ H xs us Q I r h
  rcases h with ⟨i, rfl, hz, q⟩ | ⟨rfl, q⟩
  · obtain ⟨u, rfl, t, rfl⟩ := vals1 r
    exact PySem.P.str_of_int hz ⟨.str _, H, I.tok _, ⟨_, rfl⟩, q⟩
  · obtain ⟨u, rfl, r1⟩ := vals1 r
    cases (show u = Value.bool true from r1)
    exact str_true ⟨.str _, H, I.tok _, ⟨_, rfl⟩, q⟩
theorem call_reprS {X : Cx} : CallR X (.builtin "repr") (fun xs H Q => ∃ x, xs = [.str x] ∧ (reprText x).length ≤ sizeLine ∧ Q (.str (reprText x)) H) := by
  intro pins s σ H xs us Q I r h
  obtain ⟨x, rfl, hz, q⟩ := h
  obtain ⟨u, rfl, t, rfl⟩ := vals1 r
  exact PySem.P.repr_of_str (hsz := hz) ⟨.str _, H, I.tok _, ⟨_, rfl⟩, q⟩
end Ux

set_option Elab.async false
set_option linter.all false
set_option maxRecDepth 100000
set_option maxHeartbeats 4000000
/-! Own classes: str, repr, == and != by the text's own methods. -/
namespace Ux
open PySem PySem.Spec PyProof.Rows L2
section
variable {X : Cx} {pins : List (Addr × Obj)} {σ : L2.St} {H : Hp} {s : Shared} {k : Nat} {f C : Addr} {fd : FuncData} {ps : List Str} {sp : Sp}
theorem own_run {A' : Around} {us : List Value} {vs : List V} {Q : VK} {R : Value → Shared → Prop} {E' : Value → Shared → Prop} (F : FnOk X.prog X.w X.K X.mg X.base CX0 k f fd ps sp) (hr : Room k A') (e0 : Env0 X.prog X.w X.K X.mg X.base A' X.stack s H)
    (hb : Binds X.K fd ps []) (I : Inv X pins σ H s) (r : Vals vs us) (h : sp vs H Q (fun _ _ _ => False)) (z : ∀ u s', EP X pins σ Q u s' → R u s') : wpAny (model X.prog X.w) A' (call (.ref f) us) R E' s := by
  have hl : us.length = ps.length := r.length.symm.trans (F.len _ _ _ _ h)
  have b := hb s us I.kIn (by rw [List.append_nil]; exact hl)
  rw [List.append_nil] at b
  refine wpAny_call (codeAny_mono (F.run A' X.stack s H ⟨us, []⟩ us vs Q (fun _ _ _ => False) hr e0 b r h) fun r s' hq => ?_)
  cases r with
  | error e => exact False.elim hq
  | ok fl =>
    cases fl with
    | ret u => exact z u s' (I.after hq)
    | next => exact False.elim hq
    | brk => exact False.elim hq
    | cont => exact False.elim hq
/-- an own method by its name, on an instance -/
structure OwnM (K : PySem.W.Frag) (C : Addr) (m : Str) (f : Addr) : Prop where
  at_ : PySem.W.findIn K (.ref C) m = some (some (.ref f))
  fn : PySem.W.isFn K (.ref f) = true
/-- a text handed back -/
def rOwnS (C : Addr) (sp : Sp) : List V → Hp → VK → Prop := fun xs H Q => ∃ (a dx : Addr) (fs : List (Str × V)), xs = [.ref a] ∧ H a = some (.ins C dx fs) ∧ sp [.ref a] H (fun v H' => ∃ z, v = .str z ∧ Q (.str z) H') (fun _ _ _ => False)
theorem call_strO (M : OwnM X.K C "__str__" f) (F : FnOk X.prog X.w X.K X.mg X.base CX0 k f fd ["self"] sp) (hb : Binds X.K fd ["self"] []) (hr : Room (k + 2) X.A) : CallR X (.type "str") (rOwnS C sp) := by
  intro pins s σ H xs us Q I r h
  obtain ⟨a, dx, fs, rfl, ea, q⟩ := h
  obtain ⟨u, rfl, rx⟩ := vals1 r
  cases (show u = Value.ref a from rx)
  obtain ⟨mA, O, _⟩ := ins_get I.hok ea
  obtain ⟨od, J, _⟩ := O.look
  refine PySem.W.kso_call hr.in1.in1.units0 I.kIn J M.at_ M.fn (own_run F hr.in1.in1 I.env0.in1.in1 hb (vs := [.ref a]) I (.cons rfl .nil) q fun u s' hq => ?_)
  obtain ⟨v, H', I', rv, z, ev, q'⟩ := hq
  subst ev
  obtain ⟨t, rfl⟩ := rv
  exact ⟨.str z, H', I', ⟨t, rfl⟩, q'⟩
theorem call_reprO (M : OwnM X.K C "__repr__" f) (F : FnOk X.prog X.w X.K X.mg X.base CX0 k f fd ["self"] sp) (hb : Binds X.K fd ["self"] []) (hr : Room (k + 1) X.A) : CallR X (.builtin "repr") (rOwnS C sp) := by
  intro pins s σ H xs us Q I r h
  obtain ⟨a, dx, fs, rfl, ea, q⟩ := h
  obtain ⟨u, rfl, rx⟩ := vals1 r
  cases (show u = Value.ref a from rx)
  obtain ⟨mA, O, _⟩ := ins_get I.hok ea
  obtain ⟨od, J, _⟩ := O.look
  obtain ⟨m, hF⟩ := I.fr
  refine PySem.W.repr_K hr.in1.units0 hF I.ok.mod.kin J M.at_ M.fn (own_run F hr.in1 I.env0.in1 hb (vs := [.ref a]) I (.cons rfl .nil) q fun u s' hq => ?_)
  obtain ⟨v, H', I', rv, z, ev, q'⟩ := hq
  subst ev
  obtain ⟨t, rfl⟩ := rv
  exact ⟨.str z, H', I', ⟨t, rfl⟩, q'⟩
/-- o == y, o != y by o's own __eq__ -/
def rOwnEq (K : PySem.W.Frag) (C : Addr) (sp : Sp) (neg : Bool) : R2 := fun x y H Q => ∃ (a dx : Addr) (fs : List (Str × V)) (t : Value), x = .ref a ∧ H a = some (.ins C dx fs) ∧ TyX K H y t ∧ PySem.W.notFirst K C t = true ∧ sp [x, y] H (fun v H' => ∃ b, v = .bl b ∧ Q (.bl (b != neg)) H') (fun _ _ _ => False)
theorem op_eqO (M : OwnM X.K C "__eq__" f) (F : FnOk X.prog X.w X.K X.mg X.base CX0 k f fd ["self", "other"] sp) (hb : Binds X.K fd ["self", "other"] []) (hr : Room k X.A) : OpR X (compareOp .Eq) (rOwnEq X.K C sp false) := by
  intro pins s σ H x y v u Q I rx ry h
  obtain ⟨a, dx, fs, t, rfl, ea, ty, nf, q⟩ := h
  cases (show v = Value.ref a from rx)
  obtain ⟨mA, O, _⟩ := ins_get I.hok ea
  obtain ⟨od, J, _⟩ := O.look
  obtain ⟨m, hF⟩ := I.fr
  obtain ⟨P', Z, hp, _⟩ := kit_of I ry ty
  show wpAny (model X.prog X.w) X.A (richCompare .Eq (.ref a) u) (EP X pins σ Q) X.xe s
  refine PySem.W.cmp_K (op := .Eq) (tb := t) hr.units0 hF I.ok.mod.kin J (Z.ty _ _ I.kIn hp) nf M.at_ M.fn (own_run F hr I.env0 hb (vs := [.ref a, y]) I (.cons rfl (.cons ry .nil)) q fun w s' hq => ?_)
  obtain ⟨v, H', I', rv, b, ev, q'⟩ := hq
  subst ev
  cases (show w = Value.bool b from rv)
  have e : (b != false) = b := by cases b <;> rfl
  rw [e] at q'
  exact ⟨.bl b, H', I', rfl, q'⟩
/-- what != wants besides: the class keeps object's __ne__ -/
structure NeO (K : PySem.W.Frag) (C : Addr) : Prop where
  ne : PySem.W.findIn K (.ref C) "__ne__" = some (some (.builtin "object.__ne__"))
  ob : PySem.W.mroIn K C (.type "object") = some true
end
end Ux
namespace Ux
open PySem PySem.W
section
variable {prog : Program} {w : World} {M : Model} {A : Around} {E : Value → Shared → Prop} {s : Shared} {K : Frag} {x C L f : Addr} {h₀ : Heap} {m : Str → Option Value} {ox : Obj} {od : Option Obj} {tb b : Value}
theorem ifBound_bi {name : Str} {id : String} {args : List Value} {Q : Option Value → Shared → Prop} (IN : K.In s.heap) (I : InstAt s.heap x ox C od) (hs : findIn K (.ref C) name = some (some (.builtin id))) (hb : ∀ self, bindSpecial (.builtin id) self = pure (.builtin id, [self]))
    (hn : (Value.builtin id == Value.none) = false) (h : wpAny M A (call (.builtin id) (.ref x :: args)) (fun v => Q (some v)) E s) : wpAny M A (callSpecialIfBound? (.ref x) name args) Q E s := by
  simp only [callSpecialIfBound?, bindSpecialIfBound?]
  refine wpAny_holding (wpAny_bind (wpAny_bind (wpAny_bind (I.type.here ((looks_findIn IN hs).here ?_)))))
  simp only [hb]
  refine wpAny_bind (wpAny_askSetting (wpAny_ite ?_))
  have last : wpAny M A (call (.builtin id) ([.ref x] ++ args) >>= fun v => pure (some v)) Q E s := wpAny_bind (wpAny_mono h (fun v s' z => wpAny_pure z) fun _ _ z => z)
  split
  · exact wpAny_bind (wpAny_pure (wpAny_pure last))
  · exact wpAny_tryCatch (wpAny_bind (wpAny_pure (wpAny_pure last)))
/-- o != b where o has its own __eq__ and keeps object's __ne__ -/
theorem ne_own {Q : Value → Shared → Prop} (hu : A.units < cLine) (hu1 : A.in1.units < cLine) (IN : K.In s.heap) (I : InstAt s.heap x ox C od) (hb : Looks (model prog w) s.heap (typeOf b) tb) (hn : notFirst K C tb = true)
    (hne : findIn K (.ref C) "__ne__" = some (some (.builtin "object.__ne__"))) (hm : mroIn K C (.type "object") = some true) (hs : findIn K (.ref C) "__eq__" = some (some (.ref f))) (hf : isFn K (.ref f) = true)
    (h : wpAny (model prog w) A.in1 (call (.ref f) [.ref x, b]) (fun v s' => ∃ r, v = .bool r ∧ Q (.bool (!r)) s') E s) : wpAny (model prog w) A (richCompare .NotEq (.ref x) b) Q E s := by
  have SL := PySem.F.cmp_object.ne
  have one : wpAny (model prog w) A (tryCompare (.ref x) "__ne__" b) (fun r s' => ∃ v, r = some v ∧ Q v s') E s := by
    unfold tryCompare
    refine wpAny_bind (ifBound_bi IN I hne SL.bind rfl ?_)
    refine wpAny_call (codeAny_call_builtin SL.plain PySem.F.cmpEntry_ne (check_slot (i := "object.__ne__") (owner := "object") (n := "__ne__") PySem.F.cmpKind_ne PySem.F.cmpSplit_ne (I.type.andThen (looks_mroIn IN hm)) (PySem.F.cmpArgs_ne _ _) ?_))
    unfold Builtin.«object.__ne__»
    refine wpAny_bind (m := slotArgs "__ne__" 1 _) (wpAny_pure ?_)
    refine wpAny_bind (m := cRoomFor _ _) (wpAny_cRoomFor hu1 ?_)
    refine wpAny_bind (m := callSpecialIfBound? (.ref x) (Str.ofString "__eq__") _) (ifBound_K IN I hs hf (wpAny_mono h (fun v s' z => ?_) fun _ _ z => z))
    obtain ⟨r, rfl, q⟩ := z
    refine wpAny_bind (wpAny_truthy_bool ?_)
    exact wpAny_pure (wpAny_pure ⟨_, rfl, q⟩)
  have SN : (cmpInfo .NotEq).2.1 = ("__ne__" : Str) := rfl
  unfold richCompare
  simp only [oneThing_ref, cmpInfo_NotEq]
  refine wpAny_holding (wpAny_bind (wpAny_cRoomFor hu ?_))
  refine wpAny_bind (I.type.here (wpAny_bind (hb.here ?_)))
  split
  · rename_i q
    have e : subIn K tb (.ref C) = some false := by
      rcases Bool.or_eq_true_iff.mp hn with e | e
      · rw [beq_iff_eq.mp e] at q
        simp at q
      · exact beq_iff_eq.mp e
    refine wpAny_bind ((looks_subIn IN e).here ?_)
    simp only [Bool.false_eq_true, if_false]
    refine wpAny_bind (wpAny_mono one (fun r s' z => ?_) fun _ _ e => e)
    obtain ⟨v, rfl, hq⟩ := z
    exact wpAny_pure hq
  · refine wpAny_bind (wpAny_pure ?_)
    simp only [Bool.false_eq_true, if_false]
    refine wpAny_bind (wpAny_mono one (fun r s' z => ?_) fun _ _ e => e)
    obtain ⟨v, rfl, hq⟩ := z
    exact wpAny_pure hq
end
end Ux
namespace Ux
open PySem PySem.Spec PyProof.Rows L2
section
variable {X : Cx} {k : Nat} {f C : Addr} {fd : FuncData} {sp : Sp}
theorem op_neO (M : OwnM X.K C "__eq__" f) (N : NeO X.K C) (F : FnOk X.prog X.w X.K X.mg X.base CX0 k f fd ["self", "other"] sp) (hb : Binds X.K fd ["self", "other"] []) (hr : Room (k + 1) X.A) : OpR X (compareOp .NotEq) (rOwnEq X.K C sp true) := by
  intro pins s σ H x y v u Q I rx ry h
  obtain ⟨a, dx, fs, t, rfl, ea, ty, nf, q⟩ := h
  cases (show v = Value.ref a from rx)
  obtain ⟨mA, O, _⟩ := ins_get I.hok ea
  obtain ⟨od, J, _⟩ := O.look
  obtain ⟨P', Z, hp, _⟩ := kit_of I ry ty
  show wpAny (model X.prog X.w) X.A (richCompare .NotEq (.ref a) u) (EP X pins σ Q) X.xe s
  refine ne_own (tb := t) hr.units0 hr.in1.units0 I.kIn J (Z.ty _ _ I.kIn hp) nf N.ne N.ob M.at_ M.fn (own_run F hr.in1 I.env0.in1 hb (vs := [.ref a, y]) I (.cons rfl (.cons ry .nil)) q fun w s' hq => ?_)
  obtain ⟨v, H', I', rv, b, ev, q'⟩ := hq
  subst ev
  cases (show w = Value.bool b from rv)
  have e : (b != true) = !b := by cases b <;> rfl
  rw [e] at q'
  exact ⟨b, rfl, .bl (!b), H', I', rfl, q'⟩
end
end Ux

set_option Elab.async false
set_option linter.all false
set_option maxRecDepth 100000
set_option maxHeartbeats 4000000
namespace Ux
open PySem PySem.Spec PyProof.Rows L2
/-! ### try: .. except (A, B) as n: .., where every exception of the body is caught -/
/-- what such a clause wishes of an exception -/
def wAs2 (K : PySem.W.Frag) (C1 C2 : Addr) (len i : Nat) (ts : Addr → Value → Option Addr → TS) (D : Ends) : WX := fun cls d σ H =>
  PySem.W.exmAny K cls [.ref C1, .ref C2] = some true ∧ ∀ a, H a = none → σ.length = len →
    ts a cls d ⟨fun σ' H' => D.nx (σ'.set i none) H', D.rt, fun σ' H' => D.bk (σ'.set i none) H', fun σ' H' => D.ct (σ'.set i none) H'⟩ (σ.set i (some (.ref a))) H
theorem fly_push {B h : Heap} {l : List Env} {e : Addr} {Z : Obj → Prop} {o : Obj} (f : HandSPX.FlyingZ B l e Z h) : HandSPX.FlyingZ B l e Z (h.push o) := by
  obtain ⟨k1, k2, k3, oe, vs, T, oT, ts, a1, a2, a3, a4, a5, a6, a7, a8, a9⟩ := f
  have kp : ∀ {b u}, h.get? b = some u → (h.push o).get? b = some u := fun z => Heap.get?_push_of_some _ z
  exact ⟨fun b u z => kp (k1 b u z), k2, k3.of_keeps fun b u z _ => ⟨u, kp z, rfl⟩, oe, vs, T, oT, ts, kp a1, a2, a3, a4, a5, a6, kp a7, a8, a9⟩
section
variable {X : Cx} {x1 x2 n : Str} {C1 C2 : Addr} {i : Nat} {body suite : List Stmt} {b₀ : Stmt} {p1 p2 tpos pos pos' : Pos} {kk : Nat} {tb : WX → TS} {ts : Addr → Value → Option Addr → TS}
theorem ps_try_as2 (hs : X.stack = X.env :: X.outer) (hf : X.env.frame = some X.env.locals) (hN : X.N.Nodup) (hi : X.N[i]? = some n) (hln : X.env.kindOf n = some .local)
    (g1 : Gl X x1) (g2 : Gl X x2) (m1 : X.mg x1 = some (.ref C1)) (m2 : X.mg x2 = some (.ref C2)) (d1 : (x1 == ("__debug__" : Str)) = false) (d2 : (x2 == ("__debug__" : Str)) = false)
    (hb : ∀ (W : WX) (pn : List (Addr × Obj)) (xe : Value → Shared → Prop), Takes (X.tr pn xe) W → PassesOwn (model X.prog X.w) X.A X.env xe → PSs (X.tr pn xe) body (tb W))
    (hsu : ∀ (a : Addr) (oe : Obj) (cls : Value) (d : Option Addr) (pn : List (Addr × Obj)), Zc cls d oe → (∃ vs, oe.data = .fields vs) → PSs (X.suite a ((a, oe) :: pn)) (b₀ :: suite) (ts a cls d)) :
    PS X (.Try body [.ExceptHandler (some (.Tuple [.Name x1 p1, .Name x2 p2] kk tpos)) (some n) (b₀ :: suite) pos'] [] [] pos) (fun D σ H => tb (wAs2 X.K C1 C2 X.N.length i ts D) D σ H) := by
  constructor
  intro pins s σ H D I h
  have ok := I.ok
  have frm : X.A.frames = some (X.env :: X.outer) := ok.frames.trans (congrArg some hs)
  refine wpAny_Try_except (wpAny_mono ((hb (wAs2 X.K C1 C2 X.N.length i ts D) (X.pn ++ pins) (fun e s₁ => wpAny (model X.prog X.w) X.A (noteFrame e X.env) (fun _ s₂ => wpAny (model X.prog X.w) X.A (setFlight e none)
    (fun _ s₃ => wpAny (model X.prog X.w) X.A (handleBy e X.env [.ExceptHandler (some (.Tuple [.Name x1 p1, .Name x2 p2] kk tpos)) (some n) (b₀ :: suite) pos']) (SP X pins D) X.xe s₃) X.xe s₂) X.xe s₁)
    (fun u sx caught => ?_) PassesOwn.looking).run [] s σ H D (I.toTry _) h) (fun f sf done => ?_) (fun _ _ z => z))
  · obtain ⟨a, B, sI, pins', σc, Hc, cls, d, rfl, Jt, nb, up, sky, na, os, ag, hm, go⟩ := caught
    have J := Jt.ofTry ok
    rw [hs] at sky
    show wpAny (model X.prog X.w) X.A (noteFrame (.ref a) X.env) _ _ _
    refine Sky.land Zc.steady frm hf sky fun h1 fl1 up1 => ?_
    have J1 : Inv X pins σc Hc { sx with heap := h1 } := J.landed nb fl1.1 (up.trans up1) os ag
    obtain ⟨oe, vs, he, hz, hd⟩ := fl1.there
    have out : a ∉ frs (X.env :: X.outer) := fun m => by
      obtain ⟨_, o', e', hnf⟩ := fl1.2.2.1.mem m
      have q := Option.some.inj (he.symm.trans e')
      exact hnf vs (q ▸ hd)
    have nL : a ≠ X.env.locals := fun z => out (List.mem_filterMap.mpr ⟨X.env, List.mem_cons_self, hf.trans (congrArg some z.symm)⟩)
    have nF : a ∉ X.fs := fun m => by
      obtain ⟨e, h2, h3⟩ := List.mem_filterMap.mp m
      exact out (List.mem_filterMap.mpr ⟨e, List.mem_cons_of_mem _ h2, h3⟩)
    have S1 := J1.suite he hd na nL nF
    refine wpAny_handleBy_cons (codeAny_handlers_test ?_) (by intro q; cases q)
    have LT : PySem.W.Looks (model X.prog X.w) h1 (typeOf (.ref a)) cls := fun A Q E s k q => wpAny_typeOf_ref (k _ _ he) (hz.1.symm ▸ q)
    refine wpAny_Tuple (wpAny_items_cons (ld_glob (X := X.suite a ((a, oe) :: (X.pn ++ pins))) S1 g1 m1 ?_ d1))
    refine wpAny_items_cons (ld_glob (X := X.suite a ((a, oe) :: (X.pn ++ pins))) S1 g2 m2 ?_ d2)
    refine wpAny_items_nil ⟨(by show 2 ≤ sizeLine; decide), ?_⟩
    have kp : ∀ q o, h1.get? q = some o → (h1.push { cls := .type "tuple", data := .seq [Value.ref C1, Value.ref C2].toArray }).get? q = some o := fun _ _ z => Heap.get?_push_of_some _ z
    refine (PySem.W.exm_tup2 (J1.kIn.keeps kp) (LT.keeps kp) (Heap.get?_push_size h1 rfl) hm).here ?_
    refine codeAny_handlers_suite_as (HandSPX.lands_againZ (fly_push fl1) fun h2 fl2 up2 => ?_)
    have J2 : Inv X pins σc Hc { sx with heap := h2 } := J.landed nb fl2.1 (((up.trans up1).trans (Heap.UpToSlots.of_keeps kp)).trans up2) os ag
    obtain ⟨oe2, vs2, he2, hz2, hd2⟩ := fl2.there
    have S2 := J2.suite he2 hd2 na nL nF
    refine store_ok (X := X.suite a ((a, oe2) :: (X.pn ++ pins))) (v := .ref a) S2 hN hi (.inl hln) rfl (fun s3 S3 => ?_) (.inr hln)
    refine wpAny_mono ((hsu a oe2 cls d (X.pn ++ pins) hz2 ⟨_, hd2⟩).run [] s3 _ Hc _ S3 (go a na J.len)) (fun f s4 fin => ?_) (fun _ _ z => z.elim)
    have gone : ∀ {σ4 : L2.St} {H4 : Hp} {Q : Shared → Prop}, Inv (X.suite a ((a, oe2) :: (X.pn ++ pins))) [] σ4 H4 s4 → (∀ s5, Inv X pins (σ4.set i none) H4 s5 → Q s5) →
        wpAny (model X.prog X.w) X.A (do bindName X.env n .none; unbindBehindTheSuite X.env n pos') (fun _ s5 => Q s5) X.xe s4 := fun S4 q4 => gone_ok (S4.unsuite ok) hN hi hln q4
    cases f with
    | ret u =>
      obtain ⟨v4, σ4, H4, S4, r4, q4⟩ := fin
      exact gone S4 fun s5 J5 => ⟨_, _, _, J5, r4, q4⟩
    | next =>
      obtain ⟨σ4, H4, S4, q4⟩ := fin
      exact gone S4 fun s5 J5 => ⟨_, _, J5, q4⟩
    | brk =>
      obtain ⟨σ4, H4, S4, q4⟩ := fin
      exact gone S4 fun s5 J5 => ⟨_, _, J5, q4⟩
    | cont =>
      obtain ⟨σ4, H4, S4, q4⟩ := fin
      exact gone S4 fun s5 J5 => ⟨_, _, J5, q4⟩
  · cases f with
    | ret u =>
      obtain ⟨v, σ5, H5, J5, r, q⟩ := done
      exact ⟨v, σ5, H5, J5.ofTry ok, r, q⟩
    | next =>
      obtain ⟨σ5, H5, J5, q⟩ := done
      exact wpAny_execs_nil ⟨σ5, H5, J5.ofTry ok, q⟩
    | brk =>
      obtain ⟨σ5, H5, J5, q⟩ := done
      exact ⟨σ5, H5, J5.ofTry ok, q⟩
    | cont =>
      obtain ⟨σ5, H5, J5, q⟩ := done
      exact ⟨σ5, H5, J5.ofTry ok, q⟩
end
end Ux

set_option Elab.async false
set_option linter.all false
set_option maxRecDepth 100000
set_option maxHeartbeats 4000000
namespace Ux
open PySem PySem.Spec PyProof.Rows L2
/-! ### within an except suite: fields of the caught exception, defs that are handed it -/
/-- a caught exception: its class C, its dict dd -/
def Caught (p : Addr × Obj) (C dd : Addr) : Prop := Zc (.ref C) (some dd) p.2 ∧ ∃ vs, p.2.data = .fields vs
/-- e.f, e the exception of a pin -/
def tPf (a dd : Addr) (f : Str) (te : TE) : TE := fun σ H Q => te σ H fun x H1 => ∃ (fs : List (Str × V)) (v : V), x = .ref a ∧ H1 dd = some (.xd fs) ∧ fs.lookup f = some v ∧ Q v H1
section
variable {X : Cx} {C dd : Addr} {p : Addr × Obj} {e : Expr} {te : TE} {pos : Pos} {f : Str}
theorem pe_pf (T : XfC X.K C) (no : PySem.W.findIn X.K (.ref C) f = some none) (hp : p ∈ X.pn) (c : Caught p C dd) (he : PE X e te) (hb : attributeBase e f X.env (eval e X.env) = eval e X.env := by rfl) : PE X (.Attribute e f pos) (tPf p.1 dd f te) := by
  constructor
  intro pins s σ H Q I h
  refine attr_of hb (thn (he.run pins s σ H _ I h) fun u s1 got => ?_)
  obtain ⟨x, H1, I1, rx, fs, v, rfl, hx, l, q⟩ := got
  cases (show u = Value.ref p.1 from rx)
  obtain ⟨⟨z1, z2⟩, vs, hd⟩ := c
  have ok : ObjOk X.prog X.w H1 s1.heap dd (.xd fs) := I1.hok dd _ hx
  obtain ⟨mA, ns, rel⟩ := ok
  obtain ⟨od, ho, hl⟩ := lookIn_ns ns
  obtain ⟨w, hw, rw'⟩ := RelO.some_of (v := v) (o := mA f) (l ▸ rel f)
  have J : PySem.W.InstAt s1.heap p.1 p.2 C (some od) := ⟨(I1.pin p (List.mem_append_left _ hp)).1, z1, by unfold PySem.W.notCls; rw [hd] <;> rfl, by rw [z2]; exact ho⟩
  exact HandSPX.exc_get I1.kIn J T.ga T.gg T.exC (PySem.W.findObj_own T.hdC no rfl ((hl f).trans (congrArg some hw))) (handed_of rw') ⟨v, H1, I1.tok _, rw', q⟩
end
/-- what a def promises that is called while p's exception is handled -/
structure FnQ (P : Program) (w : World) (K : PySem.W.Frag) (mg : Str → Option Value) (base : Heap) (k : Nat) (f : Addr) (fd : FuncData) (ps : List Str) (sp : Addr × Obj → Sp) : Prop where
  len : ∀ p vs H Q E, sp p vs H Q E → vs.length = ps.length
  run : ∀ (A : Around) (outer : List Env) (s : Shared) (H : Hp) (args : Args) (us : List Value) (vs : List V) (Q : VK) (E : XK) (p : Addr × Obj), L2H.RoomH k A → L2H.PinOk outer H s p → Env0 P w K mg base A outer s H → BindsTo s fd args (ps.zip us) → Vals vs us → sp p vs H Q E →
    codeAny (model P w) A (.call (.ref f) args) (CR CX0 outer P w H s Q E) s
theorem Fun.okQ {P : Program} {w : World} {K : PySem.W.Frag} {mg : Str → Option Value} {base : Heap} {k : Nat} {f : Addr} {fd : FuncData} {x qual : Str} {st : Stmt} {N ps : List Str} {sp : Addr × Obj → Sp} (F : Fun K x qual st f fd) (S : FnScope N ps (defScope st))
    (len : ∀ p vs H Q E, sp p vs H Q E → vs.length = ps.length)
    (body : ∀ (cdv : Value) (A : Around) (outer : List Env) (s : Shared) (H : Hp) (vs : List V) (Q : VK) (E : XK) (p : Addr × Obj), L2H.RoomH k (A.deeper (envOfC qual (defScope st) s.heap.objs.size f cdv)) → sp p vs H Q E →
      ∃ t, PSs (L2H.cxH CX0 P w K mg base N qual (defScope st) f cdv A outer s H E p) (defBody st) t ∧ t { nx := fun _ H' => Q .non H', rt := Q } (L2.start N vs) H) :
    FnQ P w K mg base (k + 1) f fd ps sp := by
  obtain ⟨oc, od, kV, doc, pm, an, cdv, ct, osl, rfl, lk, hcd⟩ := F.ex
  refine ⟨len, fun A outer s H args us vs Q E p hr pin e0 hb r want => ?_⟩
  have kin : K.In s.heap := e0.mod.kin.keeps fun b o z => (e0.bs b o z).1
  have lim : s.heap.NoLimit := e0.mod.nolimit.keeps fun b o z => (e0.bs b o z).1
  have kinds : ∀ y ∈ ps.zip us, (defScope st).names.lookup y.1 = some .local ∨ ((defScope st).names.lookup y.1 = some .cell ∧ ((cellsFrom (s.heap.objs.size + 1) (defScope st).names []).lookup y.1).isSome = true) := by
    rintro ⟨n, v⟩ hy
    rcases S.par n (List.of_mem_zip hy).1 with z | z
    · exact .inl z
    · exact .inr ⟨z, PySem.W.cellsFrom_some _ _ _ (.inl z)⟩
  refine codeAny_call_function hr.depth (kin _ _ lk) rfl S.co S.gen rfl (PySem.W.codeRec_of kin hcd) (hb _ _ _ _ (wpAny_newFunctionEnv_cells S.kind kinds fun env he s1 inn => ?_))
  subst he
  obtain ⟨t, ht, hq⟩ := body cdv A outer s H vs Q E p (hr.deeper _) want
  have I := L2H.inv_startH (CX := CX0) (E := E) S pin e0 (len _ _ _ _ _ want) r inn
  refine ⟨lim.keeps inn.toInCall.keep, codeAny_func (wpAny_mono (ht.run [] s1 (L2.start N vs) H _ I hq) (fun fl s2 fin => ?_) fun _ _ z => z)⟩
  cases fl with
  | ret u =>
    obtain ⟨v, σ2, H2, J, rv, q⟩ := fin
    exact ⟨v, H2, J.os, J.bare, J.base, J.hok, rv, q⟩
  | next =>
    obtain ⟨σ2, H2, J, q⟩ := fin
    exact ⟨.non, H2, J.os, J.bare, J.base, J.hok, rfl, q⟩
  | brk =>
    obtain ⟨_, _, _, q⟩ := fin
    exact q.elim
  | cont =>
    obtain ⟨_, _, _, q⟩ := fin
    exact q.elim
/-- such a call, with one argument -/
def tCallQ (p : Addr × Obj) (sp : Addr × Obj → Sp) (t : TA) : TE := fun σ H Q => t σ H fun vs H1 => sp p vs H1 Q E0
section
variable {X : Cx} {k : Nat} {f : Addr} {fd : FuncData} {ps : List Str} {sp : Addr × Obj → Sp} {x : Str} {q pos : Pos} {e : Expr} {es : List Expr} {t : TA} {p : Addr × Obj}
theorem pe_callQ (F : FnQ X.prog X.w X.K X.mg X.base k f fd ps sp) (hr : L2H.RoomH k X.A) (hp : p ∈ X.pn) (hg : Gl X x) (hm : X.mg x = some (.ref f)) (hk : PySem.W.keepIn X.K (.ref f) = true) (hb : Binds X.K fd ps [])
    (ha : PA X (e :: es) t) (hdb : (x == ("__debug__" : Str)) = false := by decide) (he : starEach (e :: es) X.env = (false, eval e X.env) :: starEach es X.env := by rfl) (hpl : (backTo pos (starEach es X.env)).any (·.1) = false := by rfl) :
    PE X (.Call (.Name x q) (e :: es) [] pos) (tCallQ p sp t) := by
  constructor
  intro pins s σ H Q I h
  refine wpAny_Call_Name_kw (ld_glob I hg hm ?_ hdb)
  refine PySem.W.callWith_K (h₀ := X.base) I.ok.mod.kin hk (thn (ha.run pos pins s σ H _ I h) fun us s1 got => ?_) he hpl
  obtain ⟨vs, H1, I1, r, want⟩ := got
  refine ⟨I1.kIn, ?_⟩
  have b := hb s1 us I1.kIn (by rw [List.append_nil, ← r.length]; exact F.len _ _ _ _ _ want)
  rw [List.append_nil] at b
  obtain ⟨a1, a2, a3, a4, a5⟩ := I1.pin p (List.mem_append_left _ hp)
  refine wpAny_call (codeAny_mono (F.run X.A X.stack s1 H1 ⟨us, []⟩ us vs Q E0 p hr ⟨a1, a2, fun m => (List.mem_cons.mp (I1.stkSub p.1 m)).elim a3 a4, a5⟩ I1.env0 b r want) fun r2 s2 fin => ?_)
  cases r2 with
  | error e => exact pass0 (X := X) pins σ H1 s1 e s2 I1 fin
  | ok fl =>
    cases fl with
    | ret u => exact I1.after fin
    | next => exact fin.elim
    | brk => exact fin.elim
    | cont => exact fin.elim
end
end Ux

set_option Elab.async false
set_option linter.all false
set_option maxRecDepth 100000
set_option maxHeartbeats 4000000
namespace Ux
open PySem PySem.Spec PyProof.Rows L2
/-! ### C.m(..), m a staticmethod of an own class -/
structure StM (K : PySem.W.Frag) (C : Addr) (m : Str) (mc : Value) (p g : Addr) : Prop where
  sg : PySem.W.specialIn K (.ref C) "__getattribute__" = some (some (.builtin "type.__getattribute__"))
  rd : PySem.W.readsIn K C mc = true
  fc : PySem.W.findCls K (.ref C) mc m = some (.get (.builtin "staticmethod.__get__") (.ref p) .none (.ref C))
  rc : ∃ rest, PySem.W.recIn K p "staticmethod" = some (.ref g :: rest)
  kp : PySem.W.keepIn K (.ref g) = true
section
variable {X : Cx} {CX : CXT} {k : Nat} {C p g : Addr} {x m : Str} {mc : Value} {fd : FuncData} {ps : List Str} {sp : Sp} {dvs : List V} {ds : List Value} {E : XK} {e : Expr} {es : List Expr} {t : TA} {p1 p2 pos : Pos} {pl : Sem Bool}
theorem pe_smeth (hg : Gl X x) (hm : X.mg x = some (.ref C)) (S : StM X.K C m mc p g) (F : FnOk X.prog X.w X.K X.mg X.base CX k g fd ps sp) (hr : Room k X.A) (hb : Binds X.K fd ps ds) (hd : Vals dvs ds) (hx : Passes CX X E) (ha : PA X (e :: es) t)
    (hdb : (x == ("__debug__" : Str)) = false := by decide)
    (hc : eval (.Call (.Attribute (.Name x p1) m p2) (e :: es) [] pos) X.env = (do
      let ov ← eval (.Name x p1) X.env
      standAt p2.atName
      let (f, first) ← holding [ov] (getMethod ov m pl)
      callWith pos f first (backTo pos (starEach (e :: es) X.env)) (backToKw pos (keywordEach [] X.env))) := by rfl)
    (he : starEach (e :: es) X.env = (false, eval e X.env) :: starEach es X.env := by rfl) (hpl : (backTo pos (starEach es X.env)).any (·.1) = false := by rfl) :
    PE X (.Call (.Attribute (.Name x p1) m p2) (e :: es) [] pos) (tCall sp dvs E t) := by
  constructor
  intro pins s σ H Q I h
  obtain ⟨rest, rc⟩ := S.rc
  refine PySem.W.methodCall_KW (ld_glob I hg hm ?_ hdb) hc
  refine PySem.W.method_cls I.kIn S.sg (PySem.W.cls_bind I.kIn S.rd S.fc (wpAny_call (PySem.W.sm_get (s := { s with toks := s.toks + 1 }) I.kIn rc (PySem.W.handed_on rfl ?_))))
  show wpAny _ _ (callWith pos (Value.ref g) [] (backTo pos (starEach (e :: es) X.env)) []) _ _ _
  refine PySem.W.callWith_K (h₀ := X.base) I.ok.mod.kin S.kp (thn (ha.run pos pins _ σ H _ (I.tok _) h) fun us s1 got => ?_) he hpl
  obtain ⟨vs, H1, I1, r, q⟩ := got
  exact ⟨I1.kIn, run_fn F hr hb hd hx I1 r q⟩
end
end Ux

set_option Elab.async false
set_option linter.all false
set_option maxRecDepth 100000
set_option maxHeartbeats 4000000
namespace Ux
open PySem PySem.Spec PyProof.Rows L2
section
variable {X : Cx} {CX : CXT} {k : Nat} {C p g : Addr} {x m : Str} {mc : Value} {fd : FuncData} {ps ks : List Str} {sp : Sp} {E : XK} {kws : List Keyword} {tk : TA} {p1 p2 pos : Pos} {pl : Sem Bool} {gg : List Value → List Value → List Value} {gV : List V → List V → List V}
/-- C.m(k = v, ..), m a staticmethod of an own class -/
theorem pe_smethK (hg : Gl X x) (hm : X.mg x = some (.ref C)) (S : StM X.K C m mc p g) (F : FnOk X.prog X.w X.K X.mg X.base CX k g fd ps sp) (hr : Room k X.A) (hb : KBinds X.K fd ps ks gg gV) (hx : Passes CX X E) (hkw : PK X kws tk)
    (hall : (backToKw pos (keywordEach kws X.env)).all (·.1.isSome) = true := by rfl) (hks : (backToKw pos (keywordEach kws X.env)).filterMap (·.1) = ks := by rfl)
    (hdb : (x == ("__debug__" : Str)) = false := by decide)
    (hc : eval (.Call (.Attribute (.Name x p1) m p2) [] kws pos) X.env = (do
      let ov ← eval (.Name x p1) X.env
      standAt p2.atName
      let (f, first) ← holding [ov] (getMethod ov m pl)
      callWith pos f first (backTo pos (starEach [] X.env)) (backToKw pos (keywordEach kws X.env))) := by rfl)
    (hpl : ((backTo pos (starEach [] X.env)).any (·.1) || (backToKw pos (keywordEach kws X.env)).any (·.1.isNone)) = false := by rfl) :
    PE X (.Call (.Attribute (.Name x p1) m p2) [] kws pos) (fun σ H Q => tk σ H fun zs H2 => sp (gV [] zs) H2 Q E) := by
  constructor
  intro pins s σ H Q I h
  obtain ⟨rest, rc⟩ := S.rc
  refine PySem.W.methodCall_KW (ld_glob I hg hm ?_ hdb) hc
  refine PySem.W.method_cls I.kIn S.sg (PySem.W.cls_bind I.kIn S.rd S.fc (wpAny_call (PySem.W.sm_get (s := { s with toks := s.toks + 1 }) I.kIn rc (PySem.W.handed_on rfl ?_))))
  refine PySem.W.callWith_KW0 (h₀ := X.base) I.ok.mod.kin S.kp hall ?_ hpl
  refine thn (hkw.run pos pins _ σ H _ (I.tok _) h) fun ws s2 got => ?_
  obtain ⟨zs, H2, I2, rz, q2⟩ := got
  refine ⟨I2.kIn, ?_⟩
  rw [hks]
  exact run_fnk (us := []) (vs := []) F hr hb hx I2 .nil rz q2
end
end Ux

set_option Elab.async false
set_option linter.all false
set_option maxRecDepth 100000
set_option maxHeartbeats 4000000
namespace Ux
open PySem PySem.Spec PyProof.Rows L2
/-! ### {o} in an f-string by o's own __str__; the inner walk of a comprehension with two for -/
structure FmO (K : PySem.W.Frag) (C : Addr) : Prop where
  fm : PySem.W.findIn K (.ref C) "__format__" = some (some (.builtin "object.__format__"))
  ob : PySem.W.mroIn K C (.type "object") = some true
def tFmtO (C : Addr) (sp : Sp) (te : TE) : TE := fun σ H Q => te σ H fun x H1 => ∃ (a dx : Addr) (fs : List (Str × V)), x = .ref a ∧ H1 a = some (.ins C dx fs) ∧ sp [.ref a] H1 (fun v H' => ∃ z, v = .str z ∧ Q (.str z) H') (fun _ _ _ => False)
section
variable {X : Cx} {k : Nat} {f C : Addr} {fd : FuncData} {sp : Sp} {e : Expr} {te : TE} {pos : Pos}
theorem pe_fmtO (M : OwnM X.K C "__str__" f) (N : FmO X.K C) (F : FnOk X.prog X.w X.K X.mg X.base CX0 k f fd ["self"] sp) (hb : Binds X.K fd ["self"] []) (hr : Room (k + 1) X.A) (he : PE X e te) : PE X (.FormattedValue e (-1) none pos) (tFmtO C sp te) := by
  refine ⟨fun pins s σ H Q I h => ?_⟩
  refine wpAny_FormattedValue_plain (thn (he.run pins s σ H _ I h) fun v s1 hv => ?_)
  obtain ⟨x, H1, I1, r1, a, dx, fs, rfl, ea, q⟩ := hv
  cases (show v = Value.ref a from r1)
  obtain ⟨mA, O, _⟩ := ins_get I1.hok ea
  obtain ⟨od, J, _⟩ := O.look
  refine PySem.W.kfo_fieldS hr.in1.units0 I1.kIn J N.fm N.ob M.at_ M.fn (own_run F hr.in1 (I1.tok _).env0.in1 hb (vs := [.ref a]) (I1.tok _) (.cons rfl .nil) q fun u s' hq => ?_)
  obtain ⟨v, H', I', rv, z, ev, q'⟩ := hq
  subst ev
  obtain ⟨t, rfl⟩ := rv
  exact ⟨.str z, H', I', ⟨t, rfl⟩, q'⟩
end
theorem lc_in {K : PySem.W.Frag} {a : Addr} {xs : List V} {H4 : Hp} {Nx : Hp → Prop} {T : V → Hp → (Hp → Prop) → Prop} (Pv : Nat → Hp → Prop) (h0 : Pv 0 H4) (hl : ∀ i H, i ≤ xs.length → Pv i H → SqT K H a xs)
    (hs : ∀ i x H, xs[i]? = some x → Pv i H → T x H (Pv (i + 1))) (hd : ∀ H, Pv xs.length H → Nx H) :
    ∃ W : Nat → Nat → Hp → Prop, (∃ m, W 0 m H4) ∧ ∀ i m H, W i m H →
      ((Itt K a).stop i H ∧ Nx H) ∨ ((Itt K a).go i H ∧ ∃ N1 : Hp → Prop, (∀ H', N1 H' → ∃ m', m' < m ∧ W (i + 1) m' H') ∧ ∀ x H', (Itt K a).yld i H x H' → T x H' N1) := by
  refine ⟨fun i m H => m = xs.length - i ∧ i ≤ xs.length ∧ Pv i H, ⟨xs.length, by simp, Nat.zero_le _, h0⟩, ?_⟩
  rintro i m H ⟨rfl, hi, p⟩
  have q := hl i H hi p
  by_cases hlt : i < xs.length
  · refine .inr ⟨⟨xs, xs[i], q, by simp [hlt]⟩, Pv (i + 1), fun H' p' => ⟨xs.length - (i + 1), by omega, rfl, hlt, p'⟩, fun x H' y => ?_⟩
    obtain ⟨e, y⟩ := y
    subst e
    exact hs i x _ (y xs q) p
  · have e : i = xs.length := by omega
    subst e
    exact .inl ⟨⟨xs, q, Nat.le_refl _⟩, hd H p⟩
end Ux

set_option Elab.async false
set_option linter.all false
set_option maxRecDepth 100000
set_option maxHeartbeats 4000000
namespace Ux
open PySem PySem.Spec PyProof.Rows L2
section
variable {X : Cx} {CX : CXT} {k : Nat} {C p g : Addr} {x m : Str} {mc : Value} {fd : FuncData} {ps : List Str} {sp : Sp} {dvs : List V} {ds : List Value} {E : XK} {p1 p2 pos : Pos} {pl : Sem Bool}
/-- C.m(), m a staticmethod of an own class -/
theorem pe_smeth0 (hg : Gl X x) (hm : X.mg x = some (.ref C)) (S : StM X.K C m mc p g) (F : FnOk X.prog X.w X.K X.mg X.base CX k g fd ps sp) (hr : Room k X.A) (hb : Binds X.K fd ps ds) (hd : Vals dvs ds) (hx : Passes CX X E)
    (hdb : (x == ("__debug__" : Str)) = false := by decide)
    (hc : eval (.Call (.Attribute (.Name x p1) m p2) [] [] pos) X.env = (do
      let ov ← eval (.Name x p1) X.env
      standAt p2.atName
      let (f, first) ← holding [ov] (getMethod ov m pl)
      callWith pos f first (backTo pos (starEach [] X.env)) (backToKw pos (keywordEach [] X.env))) := by rfl) :
    PE X (.Call (.Attribute (.Name x p1) m p2) [] [] pos) (tCall sp dvs E tNil) := by
  constructor
  intro pins s σ H Q I h
  obtain ⟨rest, rc⟩ := S.rc
  refine PySem.W.methodCall_KW (ld_glob I hg hm ?_ hdb) hc
  refine PySem.W.method_cls I.kIn S.sg (PySem.W.cls_bind I.kIn S.rd S.fc (wpAny_call (PySem.W.sm_get (s := { s with toks := s.toks + 1 }) I.kIn rc (PySem.W.handed_on rfl ?_))))
  exact PySem.W.callWith_K0 (I.tok _).kIn S.kp (run_fn (us := []) F hr hb hd hx (I.tok _) .nil h)
end
end Ux

set_option Elab.async false
set_option linter.all false
set_option maxRecDepth 100000
set_option maxHeartbeats 4000000
namespace Ux
open PySem PySem.W
/-! ### own binary operators: the right side of the same class, an int, or the int on the left; own unary minus and abs; // by any divisor -/
section
variable {prog : Program} {w : World} {M : Model} {A : Around} {E : Value → Shared → Prop} {s : Shared} {K : Frag} {x C L f : Addr} {h₀ : Heap} {m : Str → Option Value} {ox : Obj} {od : Option Obj}
theorem intBin_ref {name : String} {g : Int → Int → Sem Fin} {refl : Bool} {i : Int} {t : Tok} {Q : Fin → Shared → Prop} (ho : s.heap.get? x = some ox) (np : ∀ j u, ox.data ≠ .prim (.int j u)) (h : Q (.done (.ret .notImplemented)) s) :
    wpAny M A (Builtin.Int.intBinary name g refl ⟨[.int i t, .ref x], []⟩) Q E s := by
  unfold Builtin.Int.intBinary
  refine wpAny_bind (m := slotArgs name 1 _) (wpAny_pure ?_)
  unfold Builtin.Int.intOfSelf
  refine wpAny_bind (wpAny_bind (m := asInt? (.int i t)) (wpAny_pure (wpAny_pure ?_)))
  refine wpAny_bind (m := asInt? (.ref x)) ?_
  unfold asInt?
  refine wpAny_bind (wpAny_load ho ?_)
  split
  · rename_i j u e
    exact absurd e (np j u)
  · refine wpAny_pure ?_
    exact wpAny_bind (wpAny_rule (wpAny_pure h))
theorem intSlot_ref {name : Str} {id nm : String} {g : Int → Int → Sem Fin} {i : Int} {t : Tok} {Q : Option Value → Shared → Prop} (h : Slot "int" name id) (hb : entryFor table id = some (Builtin.Int.intBinary nm g)) (ha : argsOk id ⟨[.int i t, .ref x], []⟩) (ho : s.heap.get? x = some ox) (np : ∀ j u, ox.data ≠ .prim (.int j u)) (hq : Q none s) :
    wpAny (model prog w) A (tryMethod (.int i t) name (.ref x)) Q E s :=
  wpAny_tryMethod_declines (typeIs_int s i t) h (wpAny_call_entry h (typeIs_int s i t) hb (intBin_ref ho np ⟨_, rfl, rfl, hq⟩) ha)
/-- i + x, x of a class with its own reflected method -/
theorem bin_refl {op : Operator} {nm sym idl : String} {g : Int → Int → Sem Fin} {n0 : String} {f' : Addr} {i : Int} {t : Tok} {Q : Value → Shared → Prop} (hi : op.info = (sym, nm)) (X : K.In s.heap) (I : InstAt s.heap x ox C od) (np : ∀ j u, ox.data ≠ .prim (.int j u)) (hc : selfFirst K C = true)
    (hs : findIn K (.ref C) (PySem.dunder nm) = some (some (.ref f'))) (hr : findIn K (.ref C) (dunderR nm) = some (some (.ref f))) (hf : isFn K (.ref f) = true) (hsub : subIn K (.ref C) (.type "int") = some false)
    (fills : fillsNumberSlot (.type "int") nm = pure true) (slot : Slot "int" (PySem.dunder nm) idl) (hb : entryFor table idl = some (Builtin.Int.intBinary n0 g)) (ha : argsOk idl ⟨[.int i t, .ref x], []⟩)
    (h : wpAny (model prog w) A (call (.ref f) [.ref x, .int i t]) (CmpBack Q) E s) : wpAny (model prog w) A (binaryOp op (.int i t) (.ref x)) Q E s := by
  obtain ⟨cd, rest, hcd, hm⟩ := ksp_first hc
  have one := ksp_try X I hr hf h
  have L3 : Looks (model prog w) s.heap (fillsNumberSlot (.ref C) nm) true := fills_K X hcd hm hs
  simp only [binaryOp, hi]
  refine wpAny_holding (wpAny_bind ?_)
  unfold binaryOp1
  refine wpAny_bind (wpAny_typeOf (typeIs_int s i t) (wpAny_bind (I.type.here (wpAny_bind (wpAny_of_eq fills ?_)))))
  have hne : (Value.type "int" == Value.ref C) = false := Bool.eq_false_iff.mpr fun q => by cases beq_iff_eq.mp q
  simp only [hne, Bool.false_eq_true, if_false]
  refine wpAny_bind (L3.here ?_)
  simp only [Bool.and_self, if_true]
  refine wpAny_bind ((looks_subIn X hsub).here ?_)
  have hpy : numberSlotInPython (.type "int") nm = pure false := rfl
  simp only [Bool.false_eq_true, if_false, pure_bind, Bool.not_false, Bool.and_self, if_true, hpy]
  refine wpAny_bind (intSlot_ref slot hb ha I.1 np ?_)
  dsimp only
  refine wpAny_bind (wpAny_mono one (fun r s' hr' => ?_) fun _ _ e => e)
  obtain ⟨v, rfl, hq⟩ := hr'
  exact wpAny_bind (wpAny_rule (wpAny_pure (wpAny_pure hq)))
end
end Ux
namespace Ux
open PySem PySem.Spec PyProof.Rows L2
/-- o op y by o's own method -/
structure BinM (K : PySem.W.Frag) (C : Addr) (nm : String) (f : Addr) : Prop where
  sf : PySem.W.selfFirst K C = true
  at_ : PySem.W.findIn K (.ref C) (PySem.dunder nm) = some (some (.ref f))
  fn : PySem.W.isFn K (.ref f) = true
/-- .. with an int on the right -/
structure BinI (K : PySem.W.Frag) (C : Addr) (nm : String) : Prop where
  rc : ∃ g : Addr, PySem.W.findIn K (.ref C) (dunderR nm) = some (some (.ref g))
  t1 : ∃ fo, PySem.W.findIn K (.type "int") (PySem.dunder nm) = some fo
  t2 : ∃ ro, PySem.W.findIn K (.type "int") (dunderR nm) = some ro
  sb : PySem.W.subIn K (.type "int") (.ref C) = some false
/-- .. with an int on the left -/
structure BinL (K : PySem.W.Frag) (C : Addr) (nm : String) (f : Addr) : Prop where
  sf : PySem.W.selfFirst K C = true
  lt : ∃ g : Addr, PySem.W.findIn K (.ref C) (PySem.dunder nm) = some (some (.ref g))
  at_ : PySem.W.findIn K (.ref C) (dunderR nm) = some (some (.ref f))
  fn : PySem.W.isFn K (.ref f) = true
  sb : PySem.W.subIn K (.ref C) (.type "int") = some false
/-- an object handed back -/
def Ob (Q : VK) : VK := fun v H => ∃ p, v = .ref p ∧ Q (.ref p) H
def rBinO (K : PySem.W.Frag) (C : Addr) (sp : Sp) : R2 := fun x y H Q => ∃ (a dx : Addr) (fs : List (Str × V)), x = .ref a ∧ H a = some (.ins C dx fs) ∧ TyX K H y (.ref C) ∧ sp [x, y] H (Ob Q) (fun _ _ _ => False)
def rBinI (C : Addr) (sp : Sp) : R2 := fun x y H Q => ∃ (a dx : Addr) (fs : List (Str × V)) (i : Int), x = .ref a ∧ y = .int i ∧ H a = some (.ins C dx fs) ∧ sp [x, y] H (Ob Q) (fun _ _ _ => False)
def rBinL (C : Addr) (sp : Sp) : R2 := fun x y H Q => ∃ (a dx : Addr) (fs : List (Str × V)) (i : Int), x = .int i ∧ y = .ref a ∧ H a = some (.ins C dx fs) ∧ sp [y, x] H (Ob Q) (fun _ _ _ => False)
section
variable {X : Cx} {k : Nat} {f C : Addr} {fd : FuncData} {sp : Sp} {op : Operator} {ps : List Str}
theorem ob_back {pins : List (Addr × Obj)} {σ : L2.St} {Q : VK} {u : Value} {s' : Shared} (hq : EP X pins σ (Ob Q) u s') : PySem.W.CmpBack (EP X pins σ Q) u s' := by
  obtain ⟨v, H', I', rv, p, ev, q'⟩ := hq
  subst ev
  cases (show u = Value.ref p from rv)
  exact ⟨.ref p, H', I', rfl, q'⟩
theorem op_binO (M : BinM X.K C op.info.2 f) (F : FnOk X.prog X.w X.K X.mg X.base CX0 k f fd ps sp) (hb : Binds X.K fd ps []) (hr : Room k X.A) : OpR X (binaryOp op) (rBinO X.K C sp) := by
  intro pins s σ H x y v u Q I rx ry h
  obtain ⟨a, dx, fs, rfl, ea, ty, q⟩ := h
  cases (show v = Value.ref a from rx)
  obtain ⟨mA, O, _⟩ := ins_get I.hok ea
  obtain ⟨od, J, _⟩ := O.look
  obtain ⟨m, hF⟩ := I.fr
  obtain ⟨P', Z, hp, _⟩ := kit_of I ry ty
  exact PySem.W.binop_K hF I.ok.mod.kin J (Z.ty _ _ I.kIn hp) M.sf M.at_ M.fn (own_run F hr I.env0 hb (vs := [.ref a, y]) I (.cons rfl (.cons ry .nil)) q fun u s' hq => ob_back hq)
theorem op_binI (M : BinM X.K C op.info.2 f) (N : BinI X.K C op.info.2) (F : FnOk X.prog X.w X.K X.mg X.base CX0 k f fd ps sp) (hb : Binds X.K fd ps []) (hr : Room k X.A) : OpR X (binaryOp op) (rBinI C sp) := by
  intro pins s σ H x y v u Q I rx ry h
  obtain ⟨a, dx, fs, i, rfl, rfl, ea, q⟩ := h
  cases (show v = Value.ref a from rx)
  obtain ⟨mA, O, _⟩ := ins_get I.hok ea
  obtain ⟨od, J, _⟩ := O.look
  obtain ⟨m, hF⟩ := I.fr
  obtain ⟨t, rfl⟩ := ry
  obtain ⟨g, rc⟩ := N.rc
  obtain ⟨fo, t1⟩ := N.t1
  obtain ⟨ro, t2⟩ := N.t2
  exact PySem.W.ksp_binT (T := "int") hF I.ok.mod.kin J rfl M.sf M.at_ M.fn rc (.inr ⟨g, rfl⟩) t1 t2 N.sb (own_run F hr I.env0 hb (vs := [.ref a, .int i]) I (.cons rfl (.cons ⟨t, rfl⟩ .nil)) q fun u s' hq => ob_back hq)
theorem op_binL {nm sym idl n0 : String} {g : Int → Int → Sem Fin} (hi : op.info = (sym, nm)) (M : BinL X.K C nm f) (F : FnOk X.prog X.w X.K X.mg X.base CX0 k f fd ps sp) (hb : Binds X.K fd ps []) (hr : Room k X.A)
    (fills : fillsNumberSlot (.type "int") nm = pure true) (slot : Slot "int" (PySem.dunder nm) idl) (he : entryFor table idl = some (Builtin.Int.intBinary n0 g)) (ha : ∀ a b, argsOk idl ⟨[a, b], []⟩) : OpR X (binaryOp op) (rBinL C sp) := by
  intro pins s σ H x y v u Q I rx ry h
  obtain ⟨a, dx, fs, i, rfl, rfl, ea, q⟩ := h
  cases (show u = Value.ref a from ry)
  obtain ⟨mA, O, _⟩ := ins_get I.hok ea
  obtain ⟨od, J, _⟩ := O.look
  obtain ⟨t, rfl⟩ := rx
  obtain ⟨g', lt⟩ := M.lt
  exact bin_refl hi I.kIn J (fun j u e => by cases e) M.sf lt M.at_ M.fn M.sb fills slot he (ha _ _) (own_run F hr I.env0 hb (vs := [.ref a, .int i]) I (.cons rfl (.cons ⟨t, rfl⟩ .nil)) q fun u s' hq => ob_back hq)
theorem op_addL (M : BinL X.K C "add" f) (F : FnOk X.prog X.w X.K X.mg X.base CX0 k f fd ps sp) (hb : Binds X.K fd ps []) (hr : Room k X.A) : OpR X (binaryOp .Add) (rBinL C sp) :=
  op_binL rfl M F hb hr PySem.F.fills_int_add PySem.F.slot_int_add PySem.F.entry_int_add PySem.F.args_int_add_2
theorem op_subL (M : BinL X.K C "sub" f) (F : FnOk X.prog X.w X.K X.mg X.base CX0 k f fd ps sp) (hb : Binds X.K fd ps []) (hr : Room k X.A) : OpR X (binaryOp .Sub) (rBinL C sp) :=
  op_binL rfl M F hb hr PySem.F.fills_int_sub PySem.F.slot_int_sub PySem.F.entry_int_sub PySem.F.args_int_sub_2
/-- -o by o's own __neg__ -/
def rOwnNeg (C : Addr) (sp : Sp) : V → Hp → VK → Prop := fun x H Q => ∃ (a dx : Addr) (fs : List (Str × V)), x = .ref a ∧ H a = some (.ins C dx fs) ∧ sp [.ref a] H Q (fun _ _ _ => False)
theorem un_negO (M : OwnM X.K C "__neg__" f) (F : FnOk X.prog X.w X.K X.mg X.base CX0 k f fd ["self"] sp) (hb : Binds X.K fd ["self"] []) (hr : Room k X.A) : UnR X (unaryOp .USub) (rOwnNeg C sp) := by
  intro pins s σ H x v Q I rx h
  obtain ⟨a, dx, fs, rfl, ea, q⟩ := h
  cases (show v = Value.ref a from rx)
  obtain ⟨mA, O, _⟩ := ins_get I.hok ea
  obtain ⟨od, J, _⟩ := O.look
  obtain ⟨m, hF⟩ := I.fr
  exact PySem.W.ksp_neg hF I.ok.mod.kin J M.at_ M.fn (own_run F hr I.env0 hb (vs := [.ref a]) I (.cons rfl .nil) q fun u s' hq => hq)
theorem op_any {f : Value → Value → Sem Value} {r1 r2 : R2} (h1 : OpR X f r1) (h2 : OpR X f r2) : OpR X f (fun x y H Q => r1 x y H Q ∨ r2 x y H Q) := by
  intro pins s σ H x y v u Q I rx ry h
  rcases h with h | h
  · exact h1 pins s σ H x y v u Q I rx ry h
  · exact h2 pins s σ H x y v u Q I rx ry h
/-- // by any divisor but 0, below 2 ^ 9000 -/
theorem op_fdivX : OpR X (binaryOp .FloorDiv) (rI (fun _ j => j ≠ 0 ∧ j.natAbs.log2 < 9000) fun i j => .int (i.fdiv j)) := opI fun _ _ _ _ _ _ _ hc q => floordiv_int hc.1 q (.inl (PyProof.noPylong_of_log2 hc.2))
end
end Ux

set_option Elab.async false
set_option linter.all false
set_option maxRecDepth 100000
set_option maxHeartbeats 4000000
namespace Ux
open PySem PySem.Spec PyProof.Rows L2
/-! ### abs(o) by o's own __abs__; o.m(k = e) -/
section
variable {X : Cx} {k : Nat} {f C : Addr} {fd : FuncData} {sp : Sp}
theorem call_absO (M : OwnM X.K C "__abs__" f) (F : FnOk X.prog X.w X.K X.mg X.base CX0 k f fd ["self"] sp) (hb : Binds X.K fd ["self"] []) (hr : Room (k + 1) X.A) : CallR X (.builtin "abs") (fun xs H Q => ∃ (a dx : Addr) (fs : List (Str × V)), xs = [.ref a] ∧ H a = some (.ins C dx fs) ∧ sp [.ref a] H (Ob Q) (fun _ _ _ => False)) := by
  intro pins s σ H xs us Q I r h
  obtain ⟨a, dx, fs, rfl, ea, q⟩ := h
  obtain ⟨u, rfl, rx⟩ := vals1 r
  cases (show u = Value.ref a from rx)
  obtain ⟨mA, O, _⟩ := ins_get I.hok ea
  obtain ⟨od, J, _⟩ := O.look
  refine PySem.Calls.call_function_entry kind_abs plain_abs entry_abs (args_abs _) ?_
  unfold Builtin.«abs»
  refine wpAny_bind (m := oneArg "abs" _) (wpAny_pure ?_)
  refine wpAny_bind (m := callSpecial? (.ref a) (Str.ofString "__abs__")) (PySem.W.special_fn I.kIn J M.at_ (beq_iff_eq.mp M.fn) (own_run F hr.in1 I.env0.in1 hb (vs := [.ref a]) I (.cons rfl .nil) q fun u s' hq => ?_))
  obtain ⟨v, H', I', rv, p, ev, q'⟩ := hq
  subst ev
  cases (show u = Value.ref p from rv)
  exact wpAny_pure ⟨_, rfl, .ref p, H', I', rfl, q'⟩
end
section
variable {X : Cx} {o : Expr} {m : Str} {pos apos : Pos} {ta : TE} {CX : CXT} {k : Nat} {f C : Addr} {fd : FuncData} {ps ks : List Str} {sp : Sp} {E : XK} {kws : List Keyword} {tk : TA} {gg : List Value → List Value → List Value} {gV : List V → List V → List V}
def tMethK0 (C : Addr) (m : Str) (sp : Sp) (gV : List V → List V → List V) (E : XK) (ta : TE) (tk : TA) : TE := fun σ H Q => ta σ H fun x H1 => ∃ a dx fs, x = .ref a ∧ H1 a = some (.ins C dx fs) ∧ fs.lookup m = none ∧ tk σ H1 fun zs H2 => sp (gV [x] zs) H2 Q E
theorem pe_methK0 {pl : Sem Bool} (he : PE X o ta) (c : Cls X.K C) (hm : Meth X.K C m f) (F : FnOk X.prog X.w X.K X.mg X.base CX k f fd ps sp) (hr : Room k X.A) (hb : KBinds X.K fd ps ks gg gV) (hx : Passes CX X E) (hkw : PK X kws tk)
    (hall : (backToKw pos (keywordEach kws X.env)).all (·.1.isSome) = true := by rfl) (hks : (backToKw pos (keywordEach kws X.env)).filterMap (·.1) = ks := by rfl)
    (ht : eval (.Call (.Attribute o m apos) [] kws pos) X.env = (do
      let ov ← eval o X.env
      standAt apos.atName
      let (f, first) ← holding [ov] (getMethod ov m pl)
      callWith pos f first (backTo pos (starEach [] X.env)) (backToKw pos (keywordEach kws X.env))) := by rfl)
    (hpl : ((backTo pos (starEach [] X.env)).any (·.1) || (backToKw pos (keywordEach kws X.env)).any (·.1.isNone)) = false := by rfl) :
    PE X (.Call (.Attribute o m apos) [] kws pos) (tMethK0 C m sp gV E ta tk) := by
  refine ⟨fun pins s σ H Q I h => ?_⟩
  refine PySem.W.methodCall_KW (pl := pl) (thn (he.run pins s σ H _ I h) fun u s1 ⟨x, H1, I1, rx, a, dx, fs, ex, ea, l, q⟩ => ?_) ht
  subst ex
  obtain rfl : u = Value.ref a := rx
  refine getmeth_ok I1 ea c hm l ?_
  refine PySem.W.callWith_KW0 (first := [.ref a]) (h₀ := X.base) I.ok.mod.kin hm.kp hall (thn (hkw.run pos pins s1 σ H1 _ I1 q) fun ws s2 got => ?_) hpl
  obtain ⟨zs, H2, I2, rz, q2⟩ := got
  refine ⟨I2.kIn, ?_⟩
  rw [hks]
  exact run_fnk (us := [.ref a]) (vs := [.ref a]) F hr hb hx I2 (.cons rfl .nil) rz q2
end
end Ux
/-! ### abs and str of False -/
namespace Ux
open PySem PySem.Spec PyProof.Rows L2
theorem abs_false {prog : Program} {w : World} {A : Around} {E : Value → Shared → Prop} {s : Shared} {Q : Value → Shared → Prop} (h : ∀ u tk, Q (.int 0 u) { s with toks := tk }) : wpAny (model prog w) A (call (.builtin "abs") [.bool false]) Q E s := by
  refine PySem.Calls.call_function_entry kind_abs plain_abs entry_abs (args_abs _) ?_
  unfold Builtin.«abs»
  refine wpAny_bind (m := oneArg "abs" _) (wpAny_pure ?_)
  refine wpAny_bind (m := callSpecial? (.bool false) (Str.ofString "__abs__")) (wpAny_callSpecial?_slot (name := Str.ofString "__abs__") (PySem.typeIs_bool s false) F.slot_bool_abs
    (wpAny_call_entry F.slot_bool_abs (PySem.typeIs_bool s false) entry_int_abs ?_ (args_int_abs _)))
  have h' := h s.toks (s.toks + 1)
  exact wpAny_ret_mkInt (wpAny_pure ⟨_, rfl, h'⟩)
theorem str_false {prog : Program} {w : World} {A : Around} {E : Value → Shared → Prop} {s : Shared} {Q : Value → Shared → Prop} (h : Q (.str "False" s.toks) { s with toks := s.toks + 1 }) : wpAny (model prog w) A (call (.type "str") [.bool false]) Q E s :=
  callType_new F.called_str (by decide) (F.typeCall_str_1 _) (F.newCall_str_1 _) (fun obj => F.args_object_init_2 obj _) F.entry_str_new
    (meets_str_new (S := fun _ R s => R (.ok (.ret (.str "False" s.toks))) { s with toks := s.toks + 1 }) fun _ _ _ _ s hq =>
      wpAny_strOf_gives rfl (PySem.typeIs_bool s false) F.slot_bool_str F.slot_bool_repr F.entry_bool_repr (F.args_bool_repr_1 _) (gives_bool_repr false) hq (hsz := by decide)) ⟨typeIs_str _ _ _, h⟩
theorem call_absB {X : Cx} : CallR X (.builtin "abs") (fun xs H Q => ((∃ i, xs = [.int i] ∧ Q (.int (if i < 0 then -i else i)) H) ∨ (xs = [.bl true] ∧ Q (.int 1) H)) ∨ (xs = [.bl false] ∧ Q (.int 0) H)) := by
  intro pins s σ H xs us Q I r h
  rcases h with h | ⟨rfl, q⟩
  · exact call_absT pins s σ H xs us Q I r h
  · obtain ⟨u, rfl, r1⟩ := vals1 r
    cases (show u = Value.bool false from r1)
    exact abs_false fun u tk => ⟨.int 0, H, I.tok _, ⟨_, rfl⟩, q⟩
theorem call_strB {X : Cx} : CallR X (.type "str") (fun xs H Q => ((∃ i, xs = [.int i] ∧ i.natAbs.log2 < 1920 ∧ Q (.str (toString i)) H) ∨ (xs = [.bl true] ∧ Q (.str "True") H)) ∨ (xs = [.bl false] ∧ Q (.str "False") H)) := by
  intro pins s σ H xs us Q I r h
  rcases h with h | ⟨rfl, q⟩
  · exact call_strT pins s σ H xs us Q I r h
  · obtain ⟨u, rfl, r1⟩ := vals1 r
    cases (show u = Value.bool false from r1)
    exact str_false ⟨.str _, H, I.tok _, ⟨_, rfl⟩, q⟩
end Ux

set_option Elab.async false
set_option linter.all false
set_option maxRecDepth 100000
set_option maxHeartbeats 4000000
/-! A lambda without parameters held as a value: in a tuple, in a list; a def called with such a value. -/
namespace Ux
open PySem PySem.Spec PyProof.Rows L2 LamX
/-- a lambda of the text, and what its body is read as -/
structure LamD where
  params : Arguments
  body : Expr
  scope : Scope
  t : XK → TE
/-- its function object at f, made where the cells are cl -/
def LamO (cl : List (Str × Addr)) (q : Str) (d : LamD) (f c' : Addr) : HO := .ext fun h => ∃ pm ctv : Value, h.get? f = some (PySem.W.kla_obj "<lambda>" q d.params d.body d.scope (cloFrom cl d.scope.names []) pm c' ctv)
structure LamAt (cl : List (Str × Addr)) (q : Str) (H : Hp) (d : LamD) (f c' : Addr) : Prop where
  fn : H f = some (LamO cl q d f c')
  co : H c' = some (CodeO c' q)
theorem lamO_ne {cl : List (Str × Addr)} {q : Str} {d : LamD} {f c' : Addr} (ps : Array Value) : LamO cl q d f c' ≠ .tbl ps := fun z => by
  unfold LamO at z
  cases z
/-- tuples and what is told by one object are kept -/
structure Kp (H H' : Hp) : Prop where
  tup : ∀ b xs, H b = some (.tup xs) → H' b = some (.tup xs)
  ext : ∀ b φ, H b = some (.ext φ) → H' b = some (.ext φ)
theorem Kp.of {H H' : Hp} (e : ∀ b o, H b = some o → H' b = some o) : Kp H H' := ⟨fun b xs => e b _, fun b φ => e b _⟩
theorem Kp.ofN {H H' : Hp} (e : ExtN H H') : Kp H H' := ⟨fun b xs h => e b _ h (fun _ z => by cases z), fun b φ h => e b _ h (fun _ z => by cases z)⟩
theorem Kp.trans {H H1 H2 : Hp} (a : Kp H H1) (b : Kp H1 H2) : Kp H H2 := ⟨fun c xs h => b.tup _ _ (a.tup _ _ h), fun c φ h => b.ext _ _ (a.ext _ _ h)⟩
theorem Kp.but {H H' : Hp} {c : Addr} {xs : List V} (hc : H c = some (.lst xs)) (e : ∀ b o, H b = some o → b ≠ c → H' b = some o) : Kp H H' :=
  ⟨fun b ys h => e b _ h (fun z => by rw [z, hc] at h; cases h), fun b φ h => e b _ h (fun z => by rw [z, hc] at h; cases h)⟩
theorem LamAt.kp {cl : List (Str × Addr)} {q : Str} {H H' : Hp} {d : LamD} {f c' : Addr} (l : LamAt cl q H d f c') (k : Kp H H') : LamAt cl q H' d f c' := ⟨k.ext _ _ l.fn, k.ext _ _ l.co⟩
section
variable {X : Cx} {pins : List (Addr × Obj)} {σ : L2.St} {H : Hp} {s : Shared}
theorem lam_track {h' : Heap} {tk : Nat} {d : LamD} {c' : Addr} {pm ctv : Value} {q : Str} {cl : List (Str × Addr)} {s1 : Shared} (I : Inv X pins σ H s1) (ho : s1.heap = h') :
    Inv X pins σ (upd H h'.objs.size (LamO cl q d h'.objs.size c')) { s1 with heap := h'.push (PySem.W.kla_obj "<lambda>" q d.params d.body d.scope (cloFrom cl d.scope.names []) pm c' ctv), toks := tk } := by
  subst ho
  exact I.laid (fun b u e => Heap.get?_push_of_some _ e) (Nat.le_refl _) ⟨⟨pm, ctv, Heap.get?_push_size _ rfl⟩, ⟨_, Heap.get?_push_size _ rfl⟩, fun h1 h2 ⟨p, v, e⟩ st => ⟨p, v, st _ e⟩⟩
def tLamV (T : List (Addr × Str)) (cl : List (Str × Addr)) (q : Str) (d : LamD) : TE := fun σ H Q => Tabs T H ∧ ∀ (H1 : Hp) (f c' : Addr), ExtN H H1 → Tabs T H1 → LamAt cl q H1 d f c' → Q (.ref f) H1
theorem pe_lamV {T : List (Addr × Str)} {c P : Addr} {params : Arguments} {body : Expr} {scope : Scope} {lpos : Pos} (t : XK → TE) (TB : TabB X.base X.mg c P) (hcode : X.env.code = .ref c)
    (hm : (P, X.env.qual ++ "<lambda>") ∈ T) (hu : ∀ p ∈ T, p.1 = P → p.2 = X.env.qual ++ "<lambda>") (L : LamS X.env.scope scope) (hdef : defaultsOf params X.env = ([], [])) :
    PE X (.Lambda params body scope lpos) (tLamV T X.env.cells (X.env.qual ++ "<lambda>") ⟨params, body, scope, t⟩) := by
  refine ⟨fun pins s σ H Q I h => ?_⟩
  obtain ⟨hT, h⟩ := h
  obtain ⟨ps, hP, htr, ha⟩ := hT _ hm
  refine PySem.W.kla_eval hdef ?_
  have bP := TB.bm.keeps I.bk
  have hP2 : s.heap.get? P = some { cls := .none, data := .fields ps } := I.hok P _ hP
  have fin : ∀ (f c' : Addr) (H1 : Hp) (s' : Shared), Inv X pins σ H1 s' → ExtN H H1 → Tabs T H1 → LamAt X.env.cells (X.env.qual ++ "<lambda>") H1 ⟨params, body, scope, t⟩ f c' → ∃ (v : V) (H' : Hp), Inv X pins σ H' s' ∧ L2.RelV v (.ref f) ∧ Q v H' :=
    fun f c' H1 s' I1 e1 t1 l1 => ⟨.ref f, H1, I1, rfl, h H1 f c' e1 t1 l1⟩
  cases hcd : codeAmong lpos ps.toList with
  | none =>
    refine PySem.W.kla_makeFunction (mg := X.mg) (c := c) (P := P) (ps := ps) (closure_ok (L.has I.ok)) I.ok.glob (I.mod.glob.keeps I.bk) hcode (TB.code.keeps I.bk) hP2 htr hcd TB.gP bP fun c' ctv h' tk hx hge hlt hrec htb => ?_
    obtain ⟨c2, oc, vs, tok, e2, hoc, hd, hv⟩ := hrec
    cases e2
    have nC : H c' = none := I.hok.fresh hge
    have I1 := inv_table (t' := s.toks) (more := #[rawInt lpos.line, rawInt lpos.col, .ref c']) (h' := h') I hP (fun b o hb e => hx b o hb e) htb hge ⟨oc, vs, tok, hoc, hd, hv⟩
    have I2 := lam_track (tk := tk) (d := ⟨params, body, scope, t⟩) (c' := c') (pm := (X.mg "__name__").getD .none) (ctv := ctv) (q := X.env.qual ++ "<lambda>") (cl := X.env.cells) I1 rfl
    have hE : ExtN H (upd (upd H P (.tbl (ps ++ #[rawInt lpos.line, rawInt lpos.col, .ref c']))) c' (CodeO c' (X.env.qual ++ "<lambda>"))) := fun b o e n => by
      have b1 := ne_of_none e nC
      have b2 : b ≠ P := fun z => n ps (by rw [z, hP] at e; exact (Option.some.inj e).symm)
      rw [upd_ne b1, upd_ne b2, e]
    have eL : (ps ++ #[rawInt lpos.line, rawInt lpos.col, .ref c']).toList = ps.toList ++ [rawInt lpos.line, rawInt lpos.col, .ref c'] := by simp
    have nF : (upd (upd H P (.tbl (ps ++ #[rawInt lpos.line, rawInt lpos.col, .ref c']))) c' (CodeO c' (X.env.qual ++ "<lambda>"))) h'.objs.size = none := I1.hok.fresh (Nat.le_refl _)
    have T1 : Tabs T (upd (upd H P (.tbl (ps ++ #[rawInt lpos.line, rawInt lpos.col, .ref c']))) c' (CodeO c' (X.env.qual ++ "<lambda>"))) := fun p hp => by
      by_cases hb : p.1 = P
      · have hq := hu p hp hb
        rw [hq, hb]
        refine ⟨_, (upd_ne (ne_of_none hP nC)).trans upd_same, eL ▸ PySem.TriplesOk_snoc _ _ _ _ htr, fun p' cv hcv => ?_⟩
        rw [eL] at hcv
        rcases among_app _ htr hcv with z | z
        · obtain ⟨c0, w1, w2⟩ := ha p' cv z
          exact ⟨c0, w1, hE _ _ w2 codeO_ne⟩
        · exact ⟨c', z, upd_same⟩
      · obtain ⟨ps', a1, a2, a3⟩ := hT p hp
        refine ⟨ps', ((upd_ne (ne_of_none a1 nC)).trans (upd_ne hb)).trans a1, a2, fun p' cv hcv => ?_⟩
        obtain ⟨c0, w1, w2⟩ := a3 p' cv hcv
        exact ⟨c0, w1, hE _ _ w2 codeO_ne⟩
    have sm : ∀ b o, (upd (upd H P (.tbl (ps ++ #[rawInt lpos.line, rawInt lpos.col, .ref c']))) c' (CodeO c' (X.env.qual ++ "<lambda>"))) b = some o → (upd (upd (upd H P (.tbl (ps ++ #[rawInt lpos.line, rawInt lpos.col, .ref c']))) c' (CodeO c' (X.env.qual ++ "<lambda>"))) h'.objs.size (LamO X.env.cells (X.env.qual ++ "<lambda>") ⟨params, body, scope, t⟩ h'.objs.size c')) b = some o :=
      fun b o e => (upd_ne (ne_of_none e nF)).trans e
    exact fin _ c' _ _ I2 (hE.trans (ExtN.of sm)) (T1.ext sm) ⟨upd_same, sm _ _ upd_same⟩
  | some cv =>
    obtain ⟨c', e, hco⟩ := ha lpos cv hcd
    subst e
    refine PySem.W.kla_makeFunctionHit (mg := X.mg) (c := c) (P := P) (ps := ps) (closure_ok (L.has I.ok)) I.ok.glob (I.mod.glob.keeps I.bk) hcode (TB.code.keeps I.bk) hP2 htr hcd bP fun ctv h' tk hx hsz => ?_
    have I1 : Inv X pins σ H { s with heap := h', toks := s.toks } := I.kept hx
    have I2 := lam_track (tk := tk) (d := ⟨params, body, scope, t⟩) (c' := c') (pm := (X.mg "__name__").getD .none) (ctv := ctv) (q := X.env.qual ++ "<lambda>") (cl := X.env.cells) I1 rfl
    have nF : H h'.objs.size = none := I1.hok.fresh (Nat.le_refl _)
    have sm : ∀ b o, H b = some o → (upd H h'.objs.size (LamO X.env.cells (X.env.qual ++ "<lambda>") ⟨params, body, scope, t⟩ h'.objs.size c')) b = some o := fun b o e => (upd_ne (ne_of_none e nF)).trans e
    exact fin _ c' _ _ I2 (ExtN.of sm) (hT.ext sm) ⟨upd_same, sm _ _ hco⟩
/-- what is asked of a lambda that is called -/
structure LamOk (X : Cx) (k : Nat) (d : LamD) : Prop where
  L : LamS X.env.scope d.scope
  bind : ∀ (q : Str) (cl : List (Str × Addr)) (pm cv ctv : Value), bindArgs (PySem.W.kla_fn "<lambda>" q d.params d.body d.scope cl pm cv ctv) ⟨[], []⟩ = pure []
  body : ∀ (A : Around) (outer : List Env) (s : Shared) (H : Hp) (E : XK) (f c' : Addr), Room k (A.deeper (lamEnv X d.scope s.heap.objs.size f c')) → PE (lamCx X A outer s H E d.scope f c') d.body (d.t E)
/-- x() in the def that got it, the function object told -/
theorem pe_actV {CXg : CXT} {Eg : XK} {Ng : List Str} {qg : Str} {sg : Scope} {g f c' : Addr} {cdg : Value} {k i : Nat} {a : Str} {pn : List (Addr × Obj)} {xe : Value → Shared → Prop} {W : WX} {E : XK} {d : LamD} {p1 p2 : Pos}
    (I : Inv X pins σ H s) (D : LamOk X k d) (tk : Takes ((cxOf CXg X.prog X.w X.K X.mg X.base Ng qg sg g cdg X.A X.stack s H Eg).tr pn xe) W) (hW : ∀ cls dd σ' H', E cls dd H' → W cls dd σ' H')
    (hr : Room (k + 1) (X.A.deeper (envOfC qg sg s.heap.objs.size g cdg))) (hN : Ng[i]? = some a) (hv : Vis sg a) (hd : (a == ("__debug__" : Str)) = false := by decide) (hcd : (a == ("__classdict__" : Str)) = false := by decide) :
    PE ((cxOf CXg X.prog X.w X.K X.mg X.base Ng qg sg g cdg X.A X.stack s H Eg).tr pn xe) (.Call (.Name a p1) [] [] p2)
      (fun σZ HZ Q => σZ[i]? = some (some (.ref f)) ∧ HZ c' = some (CodeO c' (X.env.qual ++ "<lambda>")) ∧ HZ f = some (LamO X.env.cells (X.env.qual ++ "<lambda>") d f c') ∧ d.t E σ HZ Q) := by
  refine ⟨fun pinsZ sZ σZ HZ Q IZ h => ?_⟩
  obtain ⟨hs, hc, hf, ht⟩ := h
  refine wpAny_Call_Name_kw (thn ((pe_var (pos := p1) (i := i) hN hv hd hcd).run pinsZ sZ σZ HZ (fun v H1 => v = .ref f ∧ H1 = HZ) IZ ⟨.ref f, hs, rfl, rfl⟩) fun u s1 ⟨v, H1, I1, r1, q1⟩ => ?_)
  obtain ⟨rfl, eH⟩ := q1
  rw [eH] at I1
  obtain rfl : u = Value.ref f := r1
  obtain ⟨⟨pm, ctv, of1⟩, _, _⟩ := I1.hok f _ hf
  refine PySem.W.callWith_F0 ⟨_, _, _, _, of1⟩ ?_
  have un : Un (frs X.stack) [] H HZ s.heap s1.heap := I1.base
  obtain ⟨⟨oc, vs, tok, hoc, hdc, hvc⟩, _, _⟩ := I1.hok c' _ hc
  have rc : codeAny (model X.prog X.w) (X.A.deeper (envOfC qg sg s.heap.objs.size g cdg)) (.call (.ref f) ⟨[], []⟩) (CR (L2.CX X.prog X.w) (envOfC qg sg s.heap.objs.size g cdg :: X.stack) X.prog X.w HZ s1 Q E) s1 := by
    refine PySem.W.kla_callFunE hr.depth of1 rfl D.L.co D.L.gen rfl ⟨c', oc, vs, tok, rfl, hoc, hdc, hvc⟩ ?_
    rw [D.bind]
    refine wpAny_pure (wpAny_newFunctionEnv (fun y hy => (D.L.own y hy).2) (fun y hy => absurd hy (by simp)) (fun h₁ hns hsb => ⟨I1.nolimit.fresh _ hsb, ?_⟩) D.L.kind)
    show codeAny _ _ (.expr d.body (lamEnv X d.scope s1.heap.objs.size f c')) _ _
    have kp2 : ∀ b o, s1.heap.get? b = some o → h₁.get? b = some o := fun b o e => hsb.extBut b o (Nat.ne_of_lt (Heap.lt_size e)) (Heap.get?_push_of_some _ e)
    have J : Inv (lamCx X (X.A.deeper (envOfC qg sg s.heap.objs.size g cdg)) (envOfC qg sg s.heap.objs.size g cdg :: X.stack) s1 HZ E d.scope f c') [] σ HZ { s1 with heap := h₁, toks := s1.toks + ([] : List (Str × Value)).length } := lam_start2 I D.L I1.env0 hr.hd un hns kp2
    refine PySem.W.kla_codeExpr (wpAny_mono ((D.body _ _ s1 HZ E f c' (hr.deeper _)).run [] _ _ HZ Q J ht) (fun v s' ⟨w', H', J', rv, q⟩ => ⟨w', H', J'.os, J'.bare, J'.base, J'.hok, rv, q⟩) fun e s' hq => hq)
  have hx : Passes (L2.CX X.prog X.w) ((cxOf CXg X.prog X.w X.K X.mg X.base Ng qg sg g cdg X.A X.stack s H Eg).tr pn xe) E := passes_call tk hW
  refine wpAny_call (codeAny_mono rc fun r s' hq => ?_)
  rcases r with e | (_ | _ | _ | u)
  · exact hx pinsZ σZ HZ s1 e s' I1 hq
  · exact False.elim hq
  · exact False.elim hq
  · exact False.elim hq
  · exact I1.after hq
def tLamCall (cl : List (Str × Addr)) (q : Str) (TT : (XK → Hp → VK → Prop) → Hp → VK → Prop) (ds : List LamD) (te : TE) : TE := fun σ H Q => te σ H fun v H1 => ∃ (f c' : Addr) (d : LamD), d ∈ ds ∧ v = .ref f ∧ LamAt cl q H1 d f c' ∧
  TT (fun E H' Q' => H' f = some (LamO cl q d f c') ∧ d.t E σ H' Q') H1 Q
/-- x(y), where y is one of some lambdas -/
theorem pe_lamval {ds : List LamD} {te : TE} {TT : (XK → Hp → VK → Prop) → Hp → VK → Prop} {x a y : Str} {g : Addr} {k : Nat} {pg : Arguments} {bg : List Stmt} {sg : Scope} {dV kV doc pm cdv ct oc : Value} {an od : Option Addr} {osl : Array (Option Value)} {Ng : List Str} {p py pos : Pos}
    (hg : Gl X x) (hm : X.mg x = some (.ref g)) (hk : PySem.W.keepIn X.K (.ref g) = true) (lk : X.K.lookup g = some ⟨oc, od, .func (PySem.W.fnOf x x pg bg sg dV kV doc pm an cdv ct), osl⟩) (hcg : PySem.W.codeIn X.K cdv x = true)
    (hb : L2.Binds X.K (PySem.W.fnOf x x pg bg sg dV kV doc pm an cdv ct) [a] []) (Sg : FnScope Ng [a] sg) (hNg : Ng[0]? = some a) (hva : Vis sg a) (hG : GivesTo X Ng x sg g cdv bg a (X.env.qual ++ "<lambda>") TT) (hr : Room (k + 2) X.A)
    (hds : ∀ d ∈ ds, LamOk X k d) (he : PE X (.Name y py) te) (hdb : (x == ("__debug__" : Str)) = false := by decide) (hd : (a == ("__debug__" : Str)) = false := by decide) (hcd : (a == ("__classdict__" : Str)) = false := by decide) :
    PE X (.Call (.Name x p) [.Name y py] [] pos) (tLamCall X.env.cells (X.env.qual ++ "<lambda>") TT ds te) := by
  refine ⟨fun pins s σ H Q I h => ?_⟩
  refine wpAny_Call_Name_kw (ld_glob I hg hm ?_ hdb)
  refine PySem.W.callWith_K (h₀ := X.base) I.ok.mod.kin hk ?_ (by rfl) (by rfl)
  show wpAny _ _ (spliced ((false, eval (.Name y py) X.env) :: backTo pos (starEach [] X.env))) _ _ s
  refine Calls.spliced_cons (thn (he.run pins s σ H _ I h) fun u s' ⟨v, H1, I1, rv, hq⟩ => ?_)
  obtain ⟨f, c', d, hmem, rfl, la, htt⟩ := hq
  obtain rfl : u = Value.ref f := rv
  refine Calls.spliced_nil ⟨I1.kIn, ?_⟩
  have rc : codeAny (model X.prog X.w) X.A (.call (.ref g) ⟨[.ref f], []⟩) (CR C8.CX0 X.stack X.prog X.w H1 s' Q C8.E0) s' := by
    refine run_ofS (N := Ng) (ps := [a]) (us := [.ref f]) (vs := [.ref f]) lk hcg Sg hr I1.env0 (hb s' [.ref f] I1.kIn rfl) (.cons rfl .nil) rfl fun hr2 => ?_
    obtain ⟨t', ht', hq'⟩ := hG f c' s' H1 Q (fun E H' Q' => H' f = some (LamO X.env.cells (X.env.qual ++ "<lambda>") d f c') ∧ d.t E σ H' Q') (fun W pn xe E p1 p2 tk hW => pe_actV (i := 0) I1 (hds d hmem) tk hW hr2 hNg hva hd hcd) la.co htt
    exact ⟨t', ht'.nox, hq'⟩
  refine wpAny_call (codeAny_mono rc fun r s2 hq => ?_)
  rcases r with e | (_ | _ | _ | u)
  · exact (show False from hq).elim
  · exact False.elim hq
  · exact False.elim hq
  · exact False.elim hq
  · exact I1.after hq
end
/-! ### a list of pairs of a lambda and a text -/
def tPairs (T : List (Addr × Str)) (cl : List (Str × Addr)) (q : Str) : List (LamD × Str) → TA
  | [] => tNil
  | (d, w) :: r => tCons (tTup (tCons (tLamV T cl q d) (tCons (tC (.str w)) tNil))) (tPairs T cl q r)
def Prs (cl : List (Str × Addr)) (q : Str) (H : Hp) : List Addr → List (LamD × Str) → Prop
  | [], [] => True
  | t :: ts, (d, w) :: r => (∃ f c' : Addr, H t = some (.tup [.ref f, .str w]) ∧ LamAt cl q H d f c') ∧ Prs cl q H ts r
  | _, _ => False
theorem Prs.kp {cl : List (Str × Addr)} {q : Str} {H H' : Hp} (k : Kp H H') : ∀ {ts : List Addr} {ds : List (LamD × Str)}, Prs cl q H ts ds → Prs cl q H' ts ds
  | [], [], _ => True.intro
  | t :: ts, (d, w) :: r, h => by
    obtain ⟨⟨f, c', h1, h2⟩, h3⟩ := h
    exact ⟨⟨f, c', k.tup _ _ h1, h2.kp k⟩, h3.kp k⟩
  | [], _ :: _, h => h.elim
  | _ :: _, [], h => h.elim
theorem Prs.at {cl : List (Str × Addr)} {q : Str} {H : Hp} : ∀ {ts : List Addr} {ds : List (LamD × Str)}, Prs cl q H ts ds → ts.length = ds.length ∧ ∀ (i : Nat) (d : LamD) (w : Str), ds[i]? = some (d, w) → ∃ t f c' : Addr, ts[i]? = some t ∧ H t = some (.tup [.ref f, .str w]) ∧ LamAt cl q H d f c'
  | [], [], _ => ⟨rfl, fun i d w e => by cases e⟩
  | t :: ts, (d, w) :: r, h => by
    obtain ⟨⟨f, c', h1, h2⟩, h3⟩ := h
    have z := h3.at
    refine ⟨by simp [z.1], fun i d' w' e => ?_⟩
    cases i with
    | zero =>
      cases e
      exact ⟨t, f, c', rfl, h1, h2⟩
    | succ j => exact z.2 j d' w' e
  | [], _ :: _, h => h.elim
  | _ :: _, [], h => h.elim
theorem pairs_of {T : List (Addr × Str)} {cl : List (Str × Addr)} {q : Str} {σ : L2.St} : ∀ (ds : List (LamD × Str)) {H : Hp} {Q : List V → Hp → Prop}, Tabs T H → (∀ (H1 : Hp) (ts : List Addr), ExtN H H1 → Tabs T H1 → Prs cl q H1 ts ds → Q (ts.map V.ref) H1) → tPairs T cl q ds σ H Q
  | [], H, Q, hT, h => h H [] (ExtN.refl H) hT True.intro
  | (d, w) :: r, H, Q, hT, h => by
    refine ⟨hT, fun H1 f c' e1 T1 la => ⟨(by show 2 ≤ sizeLine; decide), fun t nt => ?_⟩⟩
    have sm : ∀ b o, H1 b = some o → (upd H1 t (.tup [.ref f, .str w])) b = some o := fun b o e => (upd_ne (ne_of_none e nt)).trans e
    refine pairs_of r (T1.ext sm) fun H3 ts e3 T3 pr => h H3 (t :: ts) (e1.trans ((ExtN.of sm).trans e3)) T3 ⟨⟨f, c', e3 _ _ upd_same (fun _ z => by cases z), (la.kp (Kp.of sm)).kp (Kp.ofN e3)⟩, pr⟩
end Ux

set_option Elab.async false
set_option linter.all false
set_option maxRecDepth 100000
set_option maxHeartbeats 4000000
/-! A lambda with one parameter that has a default, held as a value and called without arguments. -/
namespace Ux
open PySem PySem.Spec PySem.Calls PyProof.Rows L2 LamX PySem.W
/-- the function object of a lambda whose defaults stand in a tuple -/
abbrev ldFn (q : Str) (params : Arguments) (body : Expr) (scope : Scope) (cl : List (Str × Addr)) (pm cdv ct dV : Value) : FuncData := { PySem.W.kla_fn "<lambda>" q params body scope cl pm cdv ct with defaults := dV }
abbrev ldObj (q : Str) (params : Arguments) (body : Expr) (scope : Scope) (cl : List (Str × Addr)) (pm : Value) (cv : Value) (ct dV : Value) : Obj := { cls := .type "function", data := .func (ldFn q params body scope cl pm cv ct dV) }
section
variable {M : Model} {A : Around} {E : Value → Shared → Prop} {s : Shared} {q : Str} {params : Arguments} {body : Expr} {scope : Scope} {env : Env} {c P : Addr} {ps : Array Value} {pos : Pos} {fl : Nat} {mg : Str → Option Value} {clos : List (Str × Addr)} {Q : Value → Shared → Prop} {dV : Value}
theorem ld_miss (hcl : closureFor scope env = pure clos) (hge : env.globals = mainGlobals) (hg : s.heap.Ns mainGlobals mg) (hcode : env.code = .ref c) (C : CodeHd s.heap c P) (hP : s.heap.get? P = some (tabObj ps)) (ht : TriplesOk ps.toList) (hnf : codeAmong pos ps.toList = none) (hgP : mainGlobals ≠ P) (hb : s.heap.BuiltinsAt mg P)
    (h : ∀ c' ctv h' tk, Heap.ExtBut P s.heap h' → s.heap.objs.size ≤ c' → c' < h'.objs.size → h'.CodeRec (.ref c') q → h'.get? P = some (tabObj (ps ++ #[rawInt pos.line, rawInt pos.col, .ref c'])) → Q (.ref h'.objs.size) { s with heap := h'.push (ldObj q params body scope clos ((mg "__name__").getD .none) (.ref c') ctv dV), toks := tk }) :
    wpAny M A (makeTail "<lambda>" q params (.expr body) scope env dV .none none pos fl) Q E s := by
  obtain ⟨bm, ob, b1, b2, _, b4, b5, b6, b7, b8⟩ := hb
  unfold makeTail; rw [hcl, hge]; refine wpAny_bind (wpAny_pure ?_)
  cases clos with
  | nil =>
    simp only [List.isEmpty_nil, if_true]; refine wpAny_bind (wpAny_pure ?_)
    refine wpAny_bind (wpAny_functionCodeX hcode (C.code hP ht) (C.tab hP) hnf fun c' h' tk hx hge' hlt _ hrec htb _ => ?_); have hg' := hg.extBut hx hgP
    refine wpAny_bind (wpAny_builtinsFor hg' b1 b2 (hx _ _ b4 b5) b6 b7 b8 (wpAny_bind (wpAny_nsGet hg' (wpAny_bind (wpAny_pure (wpAny_newObj_type (h c' .none h' tk hx hge' hlt hrec htb.2) (by size_fits)))))))
  | cons z r =>
    simp only [List.isEmpty_cons, Bool.false_eq_true, if_false]; refine wpAny_bind (wpAny_newTextTuple ?_)
    refine wpAny_bind (wpAny_functionCodeX hcode ((C.keeps fun b o e => Heap.get?_push_of_some _ e).code (Heap.get?_push_of_some _ hP) ht) ((C.keeps fun b o e => Heap.get?_push_of_some _ e).tab (Heap.get?_push_of_some _ hP)) hnf fun c' h' tk hx hge' hlt _ hrec htb _ => ?_); have hg' := (hg.push _).extBut hx hgP
    have hx2 : Heap.ExtBut P s.heap h' := fun b o n e => hx b o n (Heap.get?_push_of_some _ e); have hge2 : s.heap.objs.size ≤ c' := Nat.le_trans (by rw [Heap.size_push]; omega) hge'
    refine wpAny_bind (wpAny_builtinsFor hg' b1 b2 (hx2 _ _ b4 b5) b6 b7 b8 (wpAny_bind (wpAny_nsGet hg' (wpAny_bind (wpAny_pure (wpAny_newObj_type (h c' _ h' tk hx2 hge2 hlt hrec htb.2) (by size_fits)))))))
theorem ld_hit {cv : Value} (hcl : closureFor scope env = pure clos) (hge : env.globals = mainGlobals) (hg : s.heap.Ns mainGlobals mg) (hcode : env.code = .ref c) (C : CodeHd s.heap c P) (hP : s.heap.get? P = some (tabObj ps)) (ht : TriplesOk ps.toList) (hf : codeAmong pos ps.toList = some cv) (hb : s.heap.BuiltinsAt mg P)
    (h : ∀ (ctv : Value) (h' : Heap) (tk : Tok), (∀ b o, s.heap.get? b = some o → h'.get? b = some o) → s.heap.objs.size ≤ h'.objs.size → Q (.ref h'.objs.size) { s with heap := h'.push (ldObj q params body scope clos ((mg "__name__").getD .none) cv ctv dV), toks := tk }) :
    wpAny M A (makeTail "<lambda>" q params (.expr body) scope env dV .none none pos fl) Q E s := by
  obtain ⟨bm, ob, b1, b2, _, b4, b5, b6, b7, b8⟩ := hb
  unfold makeTail; rw [hcl, hge]; refine wpAny_bind (wpAny_pure ?_)
  cases clos with
  | nil =>
    simp only [List.isEmpty_nil, if_true]; refine wpAny_bind (wpAny_pure (wpAny_bind (wpAny_functionCode_hit hcode (C.code hP ht) hf ?_)))
    refine wpAny_bind (wpAny_builtinsFor hg b1 b2 b5 b6 b7 b8 (wpAny_bind (wpAny_nsGet hg (wpAny_bind (wpAny_pure (wpAny_newObj_type (h .none s.heap s.toks (fun _ _ e => e) (Nat.le_refl _)) (by size_fits)))))))
  | cons z r =>
    simp only [List.isEmpty_cons, Bool.false_eq_true, if_false]; refine wpAny_bind (wpAny_newTextTuple ?_)
    refine wpAny_bind (wpAny_functionCode_hit hcode ((C.keeps fun b o e => Heap.get?_push_of_some _ e).code (Heap.get?_push_of_some _ hP) ht) hf ?_)
    have sz : ∀ oT : Obj, s.heap.objs.size ≤ (s.heap.push oT).objs.size := fun oT => by rw [Heap.size_push]; omega
    refine wpAny_bind (wpAny_builtinsFor (hg.push _) b1 b2 (Heap.get?_push_of_some _ b5) b6 b7 b8 (wpAny_bind (wpAny_nsGet (hg.push _) (wpAny_bind (wpAny_pure (wpAny_newObj_type (h _ _ s.toks (fun b o e => Heap.get?_push_of_some _ e) (sz _)) (by size_fits)))))))
/-- the expression: the default first, then its tuple, then the function -/
theorem ld_eval {x : Sem Value} (hdef : defaultsOf params env = ([x], [])) (hk : params.kwonlyargs = [])
    (h : wpAny M A x (fun v s1 => wpAny M A (makeTail "<lambda>" (env.qual ++ "<lambda>") params (.expr body) scope env (.ref s1.heap.objs.size) .none none pos pos.line) Q E { s1 with heap := s1.heap.push { cls := .type "tuple", data := .seq #[v] } }) E s) :
    wpAny M A (eval (.Lambda params body scope pos) env) Q E s := by
  rw [arm_eval_Lambda, hdef]
  show wpAny M A (do let dv ← evalAll [x]; let kdv ← holding dv (evalAllOpt []); makeFunction "<lambda>" (env.qual ++ "<lambda>") params (.expr body) scope env dv kdv [] pos pos.line) Q E s
  refine wpAny_bind ?_
  show wpAny M A (do let v ← x; return v :: (← holding [v] (evalAll []))) _ E s
  refine wpAny_bind (wpAny_mono h (fun v s1 hv => ?_) fun e s1 he => he)
  refine wpAny_bind (wpAny_holding (wpAny_pure (wpAny_pure (wpAny_bind (wpAny_holding (wpAny_pure ?_))))))
  rw [makeFunction_eq, hk]
  simp only [List.zip_nil_left, List.filterMap_nil, List.isEmpty_nil, List.isEmpty_cons, if_true, pure_bind, Bool.false_eq_true, if_false]
  exact wpAny_bind (wpAny_newTextTuple hv)
end
end Ux

set_option Elab.async false
set_option linter.all false
set_option maxRecDepth 100000
set_option maxHeartbeats 4000000
namespace Ux
open PySem PySem.Spec PyProof.Rows L2 LamX
/-- a lambda with one parameter x, its default dv -/
structure LamE where
  params : Arguments
  body : Expr
  scope : Scope
  t : XK → TE
  x : Str
  dv : V
def LamOE (cl : List (Str × Addr)) (q : Str) (d : LamE) (f c' T : Addr) : HO := .ext fun h => ∃ pm ctv : Value, h.get? f = some (ldObj q d.params d.body d.scope (cloFrom cl d.scope.names []) pm (.ref c') ctv (.ref T))
structure LamAtE (cl : List (Str × Addr)) (q : Str) (H : Hp) (d : LamE) (f c' T : Addr) : Prop where
  fn : H f = some (LamOE cl q d f c' T)
  co : H c' = some (CodeO c' q)
  df : H T = some (.tup [d.dv])
theorem LamAtE.kp {cl : List (Str × Addr)} {q : Str} {H H' : Hp} {d : LamE} {f c' T : Addr} (l : LamAtE cl q H d f c' T) (k : Kp H H') : LamAtE cl q H' d f c' T := ⟨k.ext _ _ l.fn, k.ext _ _ l.co, k.tup _ _ l.df⟩
/-- its names: one parameter that is no name of the frame around it, captured ones, globals -/
structure LamSE (N : List Str) (sc scope : Scope) (x : Str) : Prop where
  kind : scope.kind = .function
  co : scope.isCoroutine = false
  gen : scope.isGenerator = false
  own : ∀ y ∈ scope.names, y.2 ≠ .cell ∧ (y.2 = .local → y.1 ∉ N)
  par : scope.names.lookup x = some .local
  free : ∀ y ∈ scope.names, y.2 = .free → sc.names.lookup y.1 = some .cell ∨ sc.names.lookup y.1 = some .free
def lamSEB (N : List Str) (sc scope : Scope) (x : Str) : Bool :=
  decide (scope.kind = .function) && (!scope.isCoroutine && (!scope.isGenerator && (decide (scope.names.lookup x = some .local) && scope.names.all fun y => !decide (y.2 = .cell) && ((!decide (y.2 = .local) || !decide (y.1 ∈ N)) && (!decide (y.2 = .free) || (decide (sc.names.lookup y.1 = some .cell) || decide (sc.names.lookup y.1 = some .free)))))))
theorem lamSE_by {N : List Str} {sc scope : Scope} {x : Str} (h : lamSEB N sc scope x = true) : LamSE N sc scope x := by
  unfold lamSEB at h
  simp only [Bool.and_eq_true, Bool.or_eq_true, Bool.not_eq_true', decide_eq_true_eq, decide_eq_false_iff_not, List.all_eq_true] at h
  obtain ⟨h1, h2, h3, h5, h4⟩ := h
  refine ⟨h1, h2, h3, fun y hy => ⟨(h4 y hy).1, fun e => ((h4 y hy).2.1).elim (fun z => absurd e z) id⟩, h5, fun y hy e => ?_⟩
  rcases (h4 y hy).2.2 with z | z | z
  · exact absurd e z
  · exact .inl z
  · exact .inr z
section
variable {X : Cx} {pins : List (Addr × Obj)} {σ : L2.St} {H HZ : Hp} {s s1 : Shared}
theorem LamSE.has {scope : Scope} {x : Str} (L : LamSE X.N X.env.scope scope x) (ok : X.Ok) : ∀ y ∈ scope.names, y.2 = .free → ∃ c, X.env.cells.lookup y.1 = some c := fun y hy e => (L.free y hy e).elim (fun k => ok.has _ (.inl k)) fun k => ok.has _ (.inr k)
theorem lam_startE {A : Around} {outer : List Env} {E : XK} {scope : Scope} {x : Str} {f c' : Addr} {h₁ : Heap} {tk : Nat} {m1 : Str → Option Value} (I : Inv X pins σ H s) (L : LamSE X.N X.env.scope scope x) (e0 : Env0 X.prog X.w X.K X.mg X.base A outer s1 HZ) (hd : A.handled = none)
    (un : Un (frs X.stack) [] H HZ s.heap s1.heap) (hns : h₁.Ns s1.heap.objs.size m1) (kp : ∀ b o, s1.heap.get? b = some o → h₁.get? b = some o) :
    Inv (lamCx X A outer s1 HZ E scope f c') [] σ HZ { s1 with heap := h₁, toks := tk } := by
  have hfree := L.has I.ok
  have cm : ∀ {y c}, (cloFrom X.env.cells scope.names []).lookup y = some c → X.env.cells.lookup y = some c := fun {y c} e => by
    rcases cloFrom_mem (PySem.mem_of_lookup e) with hm | ⟨h1, h2⟩
    · cases hm
    · obtain ⟨c1, hc⟩ := hfree _ h1 rfl
      replace hc : X.env.cells.lookup y = some c1 := hc
      have e2 : c = c1 := by rw [h2, hc] <;> rfl
      exact e2 ▸ hc
  have look : ∀ {y}, scope.names.lookup y = some .free → ∃ c, (cloFrom X.env.cells scope.names []).lookup y = some c := fun {y} hl => by
    have hy : (y, NameKind.free) ∈ scope.names := PySem.mem_of_lookup hl; exact mem_lookup (cloFrom_has (cells := X.env.cells) (acc := []) hy)
  have cellK : ∀ {c : Addr} {v : Option Value}, H c = none → s.heap.IsCell c v → h₁.IsCell c v := fun {c v} n ⟨o, ho, hd⟩ => by
    obtain ⟨sl, q⟩ := un.any ho n (by simp); exact ⟨_, kp _ _ q, hd⟩
  have noA : ∀ b : Addr, b ∉ (lamCx X A outer s1 HZ E scope f c').ex := fun b z => absurd (show b ∈ ([] : List Addr) from z) (by simp)
  refine ⟨⟨e0.mod, L.kind, rfl, rfl, Nat.le_refl _, fun y z c e1 e2 => I.ok.inj y z c (cm e1) (cm e2), fun y hy => ?_, fun y c z _ => ?_, fun _ => hd, Around.frames_deeper e0.frames, .inr ⟨rfl, rfl⟩, fun b z => absurd z (noA b), e0.bs, e0.bsz, fun b _ _ => noA b, fun b z => absurd z (noA b), e0.funs, e0.frf⟩,
    rfl, e0.bare, Un.kept kp, ⟨_, hns, fun i y v e1 e2 e3 => ?_⟩, fun y c e => ?_, e0.hok.fresh (Nat.le_refl _), fun y c e => ?_, fun q hq => absurd (show q ∈ ([] : List (Addr × Obj)) ++ [] from hq) (by simp), e0.hok.kept kp, I.len⟩
  · replace hy : scope.names.lookup y = some .cell ∨ scope.names.lookup y = some .free := hy
    exact hy.elim (fun hy => absurd rfl (L.own _ (PySem.mem_of_lookup hy)).1) look
  · cases (show false = true from z)
  · replace e3 : Vis scope y := e3
    rcases e3 with k | k | k
    · exact absurd (List.mem_of_getElem? (show X.N[i]? = some y from e1)) ((L.own _ (PySem.mem_of_lookup k)).2 rfl)
    · exact absurd rfl (L.own _ (PySem.mem_of_lookup k)).1
    · obtain ⟨m, hn, hl⟩ := I.loc
      obtain ⟨w', r, q⟩ := hl i y v e1 e2 ((L.free _ (PySem.mem_of_lookup k) rfl).elim (fun k => .inr (.inl k)) fun k => .inr (.inr k))
      obtain ⟨c2, h2⟩ := look k
      have c1 := cm h2
      refine ⟨w', r, .inr ⟨.inr k, c2, h2, ?_⟩⟩
      rcases q with ⟨k', _⟩ | ⟨_, c3, e', z⟩
      · replace k' : X.env.scope.names.lookup y = some .local := k'
        rcases L.free _ (PySem.mem_of_lookup k) rfl with k2 | k2 <;> rw [show X.env.scope.names.lookup y = _ from k2] at k' <;> cases k'
      · rw [c1] at e'
        cases e'
        exact cellK (I.freeC y _ c1) z
  · obtain ⟨w', z⟩ := I.cell y c (cm e); exact ⟨w', cellK (I.freeC y c (cm e)) z⟩
  · obtain ⟨v, o, ho, hd⟩ := I.cell y c (cm e); exact un.free c o ho (I.freeC y c (cm e)) (by simp)
end
end Ux

set_option Elab.async false
set_option linter.all false
set_option maxRecDepth 100000
set_option maxHeartbeats 4000000
namespace Ux
open PySem PySem.Spec PyProof.Rows L2 LamX
theorem lamOE_ne {cl : List (Str × Addr)} {q : Str} {d : LamE} {f c' T : Addr} (ps : Array Value) : LamOE cl q d f c' T ≠ .tbl ps := fun z => by
  unfold LamOE at z
  cases z
section
variable {X : Cx} {pins : List (Addr × Obj)} {σ : L2.St} {H : Hp} {s : Shared}
theorem lam_trackE {h' : Heap} {tk : Nat} {d : LamE} {c' T : Addr} {pm ctv : Value} {q : Str} {cl : List (Str × Addr)} {s1 : Shared} (I : Inv X pins σ H s1) (ho : s1.heap = h') :
    Inv X pins σ (upd H h'.objs.size (LamOE cl q d h'.objs.size c' T)) { s1 with heap := h'.push (ldObj q d.params d.body d.scope (cloFrom cl d.scope.names []) pm (.ref c') ctv (.ref T)), toks := tk } := by
  subst ho
  exact I.laid (fun b u e => Heap.get?_push_of_some _ e) (Nat.le_refl _) ⟨⟨pm, ctv, Heap.get?_push_size _ rfl⟩, ⟨_, Heap.get?_push_size _ rfl⟩, fun h1 h2 ⟨p, v, e⟩ st => ⟨p, v, st _ e⟩⟩
def tLamVE (Tb : List (Addr × Str)) (cl : List (Str × Addr)) (q : Str) (d : LamE) : TE := fun σ H Q => Tabs Tb H ∧ ∀ (H1 : Hp) (f c' T : Addr), ExtN H H1 → Tabs Tb H1 → LamAtE cl q H1 d f c' T → Q (.ref f) H1
/-- lambda x = e: body, where e is plain -/
theorem pe_lamVE {Tb : List (Addr × Str)} {c P : Addr} {params : Arguments} {body e : Expr} {scope : Scope} {lpos : Pos} {dv : V} (t : XK → TE) (x : Str) (TB : TabB X.base X.mg c P) (hcode : X.env.code = .ref c)
    (hm : (P, X.env.qual ++ "<lambda>") ∈ Tb) (hu : ∀ p ∈ Tb, p.1 = P → p.2 = X.env.qual ++ "<lambda>") (L : LamSE X.N X.env.scope scope x) (hdef : defaultsOf params X.env = ([eval e X.env], [])) (hk : params.kwonlyargs = []) (he : PE X e (tC dv)) :
    PE X (.Lambda params body scope lpos) (tLamVE Tb X.env.cells (X.env.qual ++ "<lambda>") ⟨params, body, scope, t, x, dv⟩) := by
  refine ⟨fun pins s0 σ H0 Q I0 h => ?_⟩
  obtain ⟨hT0, h⟩ := h
  refine ld_eval hdef hk (wpAny_mono (he.run pins s0 σ H0 (fun v H1 => v = dv ∧ H1 = H0) I0 ⟨rfl, rfl⟩) (fun u sa hq => ?_) fun e' s' hx => hx)
  obtain ⟨v, Ha, Ia, rv, ev, eH⟩ := hq
  subst ev
  rw [eH] at Ia
  have nT : H0 sa.heap.objs.size = none := Ia.hok.fresh (Nat.le_refl _)
  have I := Ia.laid (a := sa.heap.objs.size) (o := .tup [v]) (h' := sa.heap.push { cls := .type "tuple", data := .seq #[u] }) (t' := sa.toks) (fun b w e => Heap.get?_push_of_some _ e) (Nat.le_refl _)
    ⟨(by show 1 ≤ sizeLine; decide), [u], .cons rv .nil, _, Heap.get?_push_size _ rfl, rfl, 0, rfl⟩
  have sT : ∀ b o, H0 b = some o → (upd H0 sa.heap.objs.size (.tup [v])) b = some o := fun b o e => (upd_ne (ne_of_none e nT)).trans e
  have dT : (upd H0 sa.heap.objs.size (.tup [v])) sa.heap.objs.size = some (.tup [v]) := upd_same
  have hT := hT0.ext sT
  generalize hTT : sa.heap.objs.size = TT at *
  generalize hH : upd H0 TT (.tup [v]) = H at *
  obtain ⟨ps, hP, htr, ha⟩ := hT _ hm
  have bP := TB.bm.keeps I.bk; have hP2 := I.hok P _ hP
  have fin : ∀ (f c' : Addr) (H1 : Hp) (s' : Shared), Inv X pins σ H1 s' → ExtN H H1 → Tabs Tb H1 → LamAtE X.env.cells (X.env.qual ++ "<lambda>") H1 ⟨params, body, scope, t, x, v⟩ f c' TT → ∃ (v : V) (H' : Hp), Inv X pins σ H' s' ∧ L2.RelV v (.ref f) ∧ Q v H' :=
    fun f c' H1 s' I1 e1 t1 l1 => ⟨.ref f, H1, I1, rfl, h H1 f c' TT ((ExtN.of sT).trans e1) t1 l1⟩
  cases hcd : codeAmong lpos ps.toList with
  | none =>
    refine ld_miss (mg := X.mg) (c := c) (P := P) (ps := ps) (closure_ok (L.has I.ok)) I.ok.glob (I.mod.glob.keeps I.bk) hcode (TB.code.keeps I.bk) hP2 htr hcd TB.gP bP fun c' ctv h' tk hx hge hlt hrec htb => ?_
    obtain ⟨c2, oc, vs, tok, e2, hoc, hd, hv⟩ := hrec
    cases e2
    have nC : H c' = none := I.hok.fresh hge; have I1 := inv_table (t' := sa.toks) (more := #[rawInt lpos.line, rawInt lpos.col, .ref c']) (h' := h') I hP (fun b o hb e => hx b o hb e) htb hge ⟨oc, vs, tok, hoc, hd, hv⟩
    have I2 := lam_trackE (tk := tk) (d := ⟨params, body, scope, t, x, v⟩) (c' := c') (T := TT) (pm := (X.mg "__name__").getD .none) (ctv := ctv) (q := X.env.qual ++ "<lambda>") (cl := X.env.cells) I1 rfl
    have hE : ExtN H (upd (upd H P (.tbl (ps ++ #[rawInt lpos.line, rawInt lpos.col, .ref c']))) c' (CodeO c' (X.env.qual ++ "<lambda>"))) := fun b o e n => by
      have b1 := ne_of_none e nC
      have b2 : b ≠ P := fun z => n ps (by rw [z, hP] at e; exact (Option.some.inj e).symm)
      rw [upd_ne b1, upd_ne b2, e]
    have eL : (ps ++ #[rawInt lpos.line, rawInt lpos.col, .ref c']).toList = ps.toList ++ [rawInt lpos.line, rawInt lpos.col, .ref c'] := by simp
    generalize hHc : upd (upd H P (.tbl (ps ++ #[rawInt lpos.line, rawInt lpos.col, .ref c']))) c' (CodeO c' (X.env.qual ++ "<lambda>")) = Hc at *
    have nF : Hc h'.objs.size = none := I1.hok.fresh (Nat.le_refl _)
    have cC : Hc c' = some (CodeO c' (X.env.qual ++ "<lambda>")) := by rw [← hHc]; exact upd_same
    have T1 : Tabs Tb Hc := fun p hp => by
      by_cases hb : p.1 = P
      · rw [hu p hp hb, hb]
        refine ⟨ps ++ #[rawInt lpos.line, rawInt lpos.col, .ref c'], by rw [← hHc]; exact (upd_ne (ne_of_none hP nC)).trans upd_same, eL ▸ PySem.TriplesOk_snoc _ _ _ _ htr, fun p' cv hcv => ?_⟩
        rw [eL] at hcv
        exact (among_app _ htr hcv).elim (fun z => let ⟨c0, w1, w2⟩ := ha p' cv z; ⟨c0, w1, hE _ _ w2 codeO_ne⟩) fun z => ⟨c', z, cC⟩
      · obtain ⟨ps', a1, a2, a3⟩ := hT p hp; refine ⟨ps', by rw [← hHc]; exact ((upd_ne (ne_of_none a1 nC)).trans (upd_ne hb)).trans a1, a2, fun p' cv hcv => ?_⟩
        exact let ⟨c0, w1, w2⟩ := a3 p' cv hcv; ⟨c0, w1, hE _ _ w2 codeO_ne⟩
    have sm : ∀ b o, Hc b = some o → (upd Hc h'.objs.size (LamOE X.env.cells (X.env.qual ++ "<lambda>") ⟨params, body, scope, t, x, v⟩ h'.objs.size c' TT)) b = some o := fun b o e => (upd_ne (ne_of_none e nF)).trans e
    exact fin _ c' _ _ I2 (hE.trans (ExtN.of sm)) (T1.ext sm) ⟨upd_same, sm _ _ cC, sm _ _ (hE _ _ dT fun _ z => by cases z)⟩
  | some cv =>
    obtain ⟨c', e, hco⟩ := ha lpos cv hcd
    subst e
    refine ld_hit (mg := X.mg) (c := c) (P := P) (ps := ps) (closure_ok (L.has I.ok)) I.ok.glob (I.mod.glob.keeps I.bk) hcode (TB.code.keeps I.bk) hP2 htr hcd bP fun ctv h' tk hx hsz => ?_
    have I1 : Inv X pins σ H { sa with heap := h', toks := sa.toks } := I.kept hx
    have I2 := lam_trackE (tk := tk) (d := ⟨params, body, scope, t, x, v⟩) (c' := c') (T := TT) (pm := (X.mg "__name__").getD .none) (ctv := ctv) (q := X.env.qual ++ "<lambda>") (cl := X.env.cells) I1 rfl
    have nF : H h'.objs.size = none := I1.hok.fresh (Nat.le_refl _)
    have sm : ∀ b o, H b = some o → (upd H h'.objs.size (LamOE X.env.cells (X.env.qual ++ "<lambda>") ⟨params, body, scope, t, x, v⟩ h'.objs.size c' TT)) b = some o := fun b o e => (upd_ne (ne_of_none e nF)).trans e
    exact fin _ c' _ _ I2 (ExtN.of sm) (hT.ext sm) ⟨upd_same, sm _ _ hco, sm _ _ dT⟩
/-- what is asked of such a lambda that is called -/
structure LamOkE (X : Cx) (k : Nat) (d : LamE) : Prop where
  L : LamSE X.N X.env.scope d.scope d.x
  bind : ∀ (q : Str) (cl : List (Str × Addr)) (pm cv ctv : Value) (T : Addr) (v : Value), ∃ kk, bindArgs (ldFn q d.params d.body d.scope cl pm cv ctv (.ref T)) ⟨[], []⟩ = seqItems? (.ref T) >>= kk ∧ kk (some #[v]) = pure [(d.x, v)]
  body : ∀ (A : Around) (outer : List Env) (s : Shared) (H : Hp) (E : XK) (f c' : Addr), Room k (A.deeper (lamEnv X d.scope s.heap.objs.size f c')) → PE (lamCx X A outer s H E d.scope f c') d.body (d.t E)
theorem pe_actE {CXg : CXT} {Eg : XK} {Ng : List Str} {qg : Str} {sg : Scope} {g f c' T : Addr} {cdg : Value} {k i : Nat} {a : Str} {pn : List (Addr × Obj)} {xe : Value → Shared → Prop} {W : WX} {E : XK} {d : LamE} {p1 p2 : Pos}
    (I : Inv X pins σ H s) (D : LamOkE X k d) (tk : Takes ((cxOf CXg X.prog X.w X.K X.mg X.base Ng qg sg g cdg X.A X.stack s H Eg).tr pn xe) W) (hW : ∀ cls dd σ' H', E cls dd H' → W cls dd σ' H')
    (hr : Room (k + 1) (X.A.deeper (envOfC qg sg s.heap.objs.size g cdg))) (hN : Ng[i]? = some a) (hv : Vis sg a) (hd : (a == ("__debug__" : Str)) = false := by decide) (hcd : (a == ("__classdict__" : Str)) = false := by decide) :
    PE ((cxOf CXg X.prog X.w X.K X.mg X.base Ng qg sg g cdg X.A X.stack s H Eg).tr pn xe) (.Call (.Name a p1) [] [] p2)
      (fun σZ HZ Q => σZ[i]? = some (some (.ref f)) ∧ HZ c' = some (CodeO c' (X.env.qual ++ "<lambda>")) ∧ LamAtE X.env.cells (X.env.qual ++ "<lambda>") HZ d f c' T ∧ d.t E σ HZ Q) := by
  refine ⟨fun pinsZ sZ σZ HZ Q IZ h => ?_⟩
  obtain ⟨hs, hc, la, ht⟩ := h
  refine wpAny_Call_Name_kw (thn ((pe_var (pos := p1) (i := i) hN hv hd hcd).run pinsZ sZ σZ HZ (fun v H1 => v = .ref f ∧ H1 = HZ) IZ ⟨.ref f, hs, rfl, rfl⟩) fun u s1 ⟨v, H1, I1, r1, q1⟩ => ?_)
  obtain ⟨rfl, eH⟩ := q1
  rw [eH] at I1
  obtain rfl : u = Value.ref f := r1
  obtain ⟨⟨pm, ctv, of1⟩, _, _⟩ := I1.hok f _ la.fn
  obtain ⟨_, its, rT, ot, hot, _, nn, hdt⟩ := I1.hok T _ la.df
  obtain ⟨dvu, rfl, rd⟩ := vals1 rT
  refine PySem.W.callWith_F0 ⟨_, _, _, _, of1⟩ ?_
  have un : Un (frs X.stack) [] H HZ s.heap s1.heap := I1.base
  obtain ⟨⟨oc, vs, tok, hoc, hdc, hvc⟩, _, _⟩ := I1.hok c' _ hc
  have rc : codeAny (model X.prog X.w) (X.A.deeper (envOfC qg sg s.heap.objs.size g cdg)) (.call (.ref f) ⟨[], []⟩) (CR (L2.CX X.prog X.w) (envOfC qg sg s.heap.objs.size g cdg :: X.stack) X.prog X.w HZ s1 Q E) s1 := by
    refine PySem.W.kla_callFunE hr.depth of1 rfl D.L.co D.L.gen rfl ⟨c', oc, vs, tok, rfl, hoc, hdc, hvc⟩ ?_
    obtain ⟨kk, e1, e2⟩ := D.bind (X.env.qual ++ "<lambda>") (cloFrom X.env.cells d.scope.names []) pm (.ref c') ctv T dvu
    rw [e1]
    refine wpAny_bind (wpAny_seqItems hot hdt ?_)
    show wpAny _ _ (kk (some #[dvu])) _ _ _
    rw [e2]
    refine wpAny_pure (wpAny_newFunctionEnv (fun y hy => (D.L.own y hy).1) (fun y hy => by cases List.mem_singleton.mp hy; exact D.L.par) (fun h₁ hns hsb => ⟨I1.nolimit.fresh _ hsb, ?_⟩) D.L.kind)
    show codeAny _ _ (.expr d.body (lamEnv X d.scope s1.heap.objs.size f c')) _ _
    have kp2 : ∀ b o, s1.heap.get? b = some o → h₁.get? b = some o := fun b o e => hsb.extBut b o (Nat.ne_of_lt (Heap.lt_size e)) (Heap.get?_push_of_some _ e)
    have J := lam_startE (E := E) (f := f) (c' := c') (tk := s1.toks + [(d.x, dvu)].length) I D.L I1.env0 hr.hd un hns kp2
    refine PySem.W.kla_codeExpr (wpAny_mono ((D.body _ _ s1 HZ E f c' (hr.deeper _)).run [] _ _ HZ Q J ht) (fun v s' ⟨w', H', J', rv, q⟩ => ⟨w', H', J'.os, J'.bare, J'.base, J'.hok, rv, q⟩) fun e s' hq => hq)
  have hx : Passes (L2.CX X.prog X.w) ((cxOf CXg X.prog X.w X.K X.mg X.base Ng qg sg g cdg X.A X.stack s H Eg).tr pn xe) E := passes_call tk hW
  refine wpAny_call (codeAny_mono rc fun r s' hq => ?_)
  rcases r with e | (_ | _ | _ | u)
  · exact hx pinsZ σZ HZ s1 e s' I1 hq
  · exact False.elim hq
  · exact False.elim hq
  · exact False.elim hq
  · exact I1.after hq
end
end Ux

set_option Elab.async false
set_option linter.all false
set_option maxRecDepth 100000
set_option maxHeartbeats 4000000
namespace Ux
open PySem PySem.Spec PyProof.Rows L2 LamX
/-- x(y), where y is one of some lambdas, with a default or without -/
def tLamCallM (cl : List (Str × Addr)) (q : Str) (TT : (XK → Hp → VK → Prop) → Hp → VK → Prop) (ds : List LamD) (es : List LamE) (te : TE) : TE := fun σ H Q => te σ H fun v H1 =>
  (∃ (f c' : Addr) (d : LamD), d ∈ ds ∧ v = .ref f ∧ LamAt cl q H1 d f c' ∧ TT (fun E H' Q' => H' f = some (LamO cl q d f c') ∧ d.t E σ H' Q') H1 Q) ∨
  ∃ (f c' T : Addr) (d : LamE), d ∈ es ∧ v = .ref f ∧ LamAtE cl q H1 d f c' T ∧ TT (fun E H' Q' => LamAtE cl q H' d f c' T ∧ d.t E σ H' Q') H1 Q
theorem pe_lamvalM {X : Cx} {ds : List LamD} {es : List LamE} {te : TE} {TT : (XK → Hp → VK → Prop) → Hp → VK → Prop} {x a y : Str} {g : Addr} {k : Nat} {pg : Arguments} {bg : List Stmt} {sg : Scope} {dV kV doc pm cdv ct oc : Value} {an od : Option Addr} {osl : Array (Option Value)} {Ng : List Str} {p py pos : Pos}
    (hg : Gl X x) (hm : X.mg x = some (.ref g)) (hk : PySem.W.keepIn X.K (.ref g) = true) (lk : X.K.lookup g = some ⟨oc, od, .func (PySem.W.fnOf x x pg bg sg dV kV doc pm an cdv ct), osl⟩) (hcg : PySem.W.codeIn X.K cdv x = true)
    (hb : L2.Binds X.K (PySem.W.fnOf x x pg bg sg dV kV doc pm an cdv ct) [a] []) (Sg : FnScope Ng [a] sg) (hNg : Ng[0]? = some a) (hva : Vis sg a) (hG : GivesTo X Ng x sg g cdv bg a (X.env.qual ++ "<lambda>") TT) (hr : Room (k + 2) X.A)
    (hds : ∀ d ∈ ds, LamOk X k d) (hes : ∀ d ∈ es, LamOkE X k d) (he : PE X (.Name y py) te) (hdb : (x == ("__debug__" : Str)) = false := by decide) (hd : (a == ("__debug__" : Str)) = false := by decide) (hcd : (a == ("__classdict__" : Str)) = false := by decide) :
    PE X (.Call (.Name x p) [.Name y py] [] pos) (tLamCallM X.env.cells (X.env.qual ++ "<lambda>") TT ds es te) := by
  refine ⟨fun pins s σ H Q I h => wpAny_Call_Name_kw (ld_glob I hg hm ?_ hdb)⟩
  refine PySem.W.callWith_K (h₀ := X.base) I.ok.mod.kin hk (show wpAny _ _ (spliced ((false, eval (.Name y py) X.env) :: backTo pos (starEach [] X.env))) _ _ s from ?_) (by rfl) (by rfl)
  refine Calls.spliced_cons (thn (he.run pins s σ H _ I h) fun u s' ⟨v, H1, I1, rv, hq⟩ => ?_)
  rcases hq with ⟨f, c', d, hmem, rfl, la, htt⟩ | ⟨f, c', T, d, hmem, rfl, la, htt⟩
  · obtain rfl : u = Value.ref f := rv
    refine Calls.spliced_nil ⟨I1.kIn, wpAny_call (codeAny_mono (run_ofS (CX := C8.CX0) (E := C8.E0) (Q := Q) (N := Ng) (ps := [a]) (us := [.ref f]) (vs := [.ref f]) lk hcg Sg hr I1.env0 (hb s' [.ref f] I1.kIn rfl) (.cons rfl .nil) rfl fun hr2 => ?_) fun r s2 hq => ?_)⟩
    · obtain ⟨t', ht', hq'⟩ := hG f c' s' H1 Q (fun E H' Q' => H' f = some (LamO X.env.cells (X.env.qual ++ "<lambda>") d f c') ∧ d.t E σ H' Q') (fun W pn xe E p1 p2 tk hW => pe_actV (i := 0) I1 (hds d hmem) tk hW hr2 hNg hva hd hcd) la.co htt
      exact ⟨t', ht'.nox, hq'⟩
    · rcases r with e | (_ | _ | _ | u)
      · exact (show False from hq).elim
      · exact False.elim hq
      · exact False.elim hq
      · exact False.elim hq
      · exact I1.after hq
  · obtain rfl : u = Value.ref f := rv
    refine Calls.spliced_nil ⟨I1.kIn, wpAny_call (codeAny_mono (run_ofS (CX := C8.CX0) (E := C8.E0) (Q := Q) (N := Ng) (ps := [a]) (us := [.ref f]) (vs := [.ref f]) lk hcg Sg hr I1.env0 (hb s' [.ref f] I1.kIn rfl) (.cons rfl .nil) rfl fun hr2 => ?_) fun r s2 hq => ?_)⟩
    · obtain ⟨t', ht', hq'⟩ := hG f c' s' H1 Q (fun E H' Q' => LamAtE X.env.cells (X.env.qual ++ "<lambda>") H' d f c' T ∧ d.t E σ H' Q') (fun W pn xe E p1 p2 tk hW => pe_actE (i := 0) (T := T) I1 (hes d hmem) tk hW hr2 hNg hva hd hcd) la.co htt
      exact ⟨t', ht'.nox, hq'⟩
    · rcases r with e | (_ | _ | _ | u)
      · exact (show False from hq).elim
      · exact False.elim hq
      · exact False.elim hq
      · exact False.elim hq
      · exact I1.after hq
end Ux

set_option Elab.async false
set_option linter.all false
set_option maxRecDepth 100000
set_option maxHeartbeats 4000000
/-! A list comprehension whose element knows the frame around its block, and calls lambdas of that frame. -/
namespace Ux
open PySem PySem.Spec PyProof.Rows L2 LamX
/-- the block was entered at s, H from the frame of X, whose names hold σ -/
def BlkIn (X : Cx) (σ : L2.St) (H : Hp) (s : Shared) (fp : List Addr) : Prop := ∃ pins, Inv X pins σ H s ∧ ∀ b ∈ fp, FpOk X pins H b
section
variable {X : Cx} {pins : List (Addr × Obj)} {σ σ' : L2.St} {H H' : Hp} {s s' : Shared} {scope : Scope} {ce : Env} {fp : List Addr}
/-- what the frame around holds, told from within the block -/
theorem BlkIn.back (B : BlkIn X σ H s fp) (J : Inv (X.blk s H scope ce fp) pins σ' H' s') : ∃ p, Inv X p σ H' s' := by
  obtain ⟨p, I, f⟩ := B
  exact ⟨p, I.call' (ch := fp) J.os J.base J.hok J.bare fun b hb => let ⟨_, e1, _, e3, e4, e5⟩ := f b hb; ⟨e3, e1, e4, e5⟩⟩
theorem pe_lcI {elt tg iter : Expr} {own : List (Str × Nat)} {pos : Pos} {wi : TI} {g : TG} {te : L2.St → TE} (hc : X.calm = true) (hN : X.N.Nodup) (hi : PI X tg iter wi) (ok : BlkOk X.N X.env.scope scope own)
    (hg : ∀ s H C cl fp, PG (X.blk s H scope (compEnvC scope cl C X.env) fp) tg g)
    (he : ∀ σ s H C cl fp, BlkIn X σ H s fp → PE (X.blk s H scope (compEnvC scope cl C X.env) fp) elt (te σ)) (hs : ∀ x, foldedSetIterable iter X.env x = pure x := by intro _; rfl) :
    PE X (.ListComp elt [⟨tg, iter, [], 0⟩] scope pos) (fun σ => tLc wi g tYes (te σ) (own.map (·.2)) σ) := by
  refine ⟨fun p0 s0 σ H0 Q I0 h => ?_⟩
  rw [eval_ListComp]
  refine wpAny_comprehension_free rfl hs (closure_ok fun y hy e => (ok.free y hy e).elim (fun k => I0.ok.has _ (.inl k)) fun k => I0.ok.has _ (.inr k)) ok.kind (fun y hy e => (ok.uniq y hy).trans (by rw [e]))
    (thn (hi.run p0 s0 σ H0 _ I0 h) fun _ _ hx => thn hx fun _ sA ⟨it, fp, tn, J, HA, e, IA, T, stA, fA, q⟩ => ?_)
  subst e
  refine wpAny_newObj_type (newEnv_comp ?_) (by show 0 ≤ sizeLine; decide)
  obtain ⟨W, ⟨m0, w0⟩, turn⟩ := q _ (IA.hok.fresh (Nat.le_refl _))
  have IB := IA.laid (a := sA.heap.objs.size) (o := .lst []) (h' := sA.heap.push { cls := .type "list", data := .seq ([] : List Value).toArray }) (t' := sA.toks) (fun b o e => Heap.get?_push_of_some _ e) (Nat.le_refl _)
    ⟨Nat.zero_le _, [], 0, .nil, Heap.get?_push_size _ rfl⟩
  have lt : ∀ b ∈ fp, b < sA.heap.objs.size := fun b hb => let ⟨o, e, _⟩ := T.obj _ _ stA b hb; Heap.lt_size e
  have stB : tn 0 (sA.heap.push { cls := .type "list", data := .seq ([] : List Value).toArray }) := T.keep _ _ _ stA fun b _ o e => Heap.get?_push_of_some _ e
  have fB : ∀ b ∈ fp, FpOk X p0 (upd HA sA.heap.objs.size (.lst [])) b ∧ b < (sA.heap.push { cls := .type "list", data := .seq ([] : List Value).toArray }).objs.size := fun b hb =>
    ⟨⟨(upd_ne (Nat.ne_of_lt (lt b hb))).trans (fA b hb).1, (fA b hb).2⟩, by rw [Heap.size_push]; exact Nat.lt_succ_of_lt (lt b hb)⟩
  generalize hD : sA.heap.objs.size = D at *
  generalize hHB : upd HA D (.lst []) = HB at *
  generalize hsB : ({ sA with heap := sA.heap.push { cls := .type "list", data := .seq ([] : List Value).toArray } } : Shared) = sB at *
  have hB : sA.heap.push { cls := .type "list", data := .seq ([] : List Value).toArray } = sB.heap := by rw [← hsB]
  rw [hB] at stB fB
  have up : ∀ {pz : List (Addr × Obj)} {σz : L2.St} {Hz : Hp} {sz : Shared} {ce : Env}, Inv (X.blk sB HB scope ce fp) pz σz Hz sz → Inv X p0 σ Hz sz := fun z =>
    IB.call' (ch := fp) z.os z.base z.hok z.bare fun b hb => let ⟨⟨_, e1, _, e3, e4, e5⟩, _⟩ := fB b hb; ⟨e3, e1, e4, e5⟩
  have J0 := block_start IB ok hN fB
  have eP := he σ sB HB sB.heap.objs.size (cellsFrom (sB.heap.objs.size + 1) scope.names (cloFrom X.env.cells scope.names [])) fp ⟨p0, IB, fun b hb => (fB b hb).1⟩
  have gP := hg sB HB sB.heap.objs.size (cellsFrom (sB.heap.objs.size + 1) scope.names (cloFrom X.env.cells scope.names [])) fp
  refine (show codeAny _ _ (.compStart _ 0 _ _ (compEnvC scope (cellsFrom (sB.heap.objs.size + 1) scope.names (cloFrom X.env.cells scope.names [])) sB.heap.objs.size X.env)) (compPost _ _ X.xe none (EP X p0 σ Q) (.ref D) sB.heap.objs.size) { sB with heap := pushCells (sB.heap.push { cls := .type "dict", data := .dict #[] }) scope.names } from ?_)
  generalize hce : compEnvC scope (cellsFrom (sB.heap.objs.size + 1) scope.names (cloFrom X.env.cells scope.names [])) sB.heap.objs.size X.env = ce at J0 eP gP ⊢
  have cL : ce.locals = sB.heap.objs.size := by rw [← hce]; rfl
  generalize hsC : ({ sB with heap := pushCells (sB.heap.push { cls := .type "dict", data := .dict #[] }) scope.names } : Shared) = sC at J0 ⊢
  have stC : tn 0 sC.heap := by rw [← hsC]; exact T.keep _ _ _ stB fun b _ o e => pushCells_keeps _ _ _ _ (Heap.get?_push_of_some _ e)
  have fk : ∀ {σz : L2.St} {Hz : Hp} {sz : Shared}, Inv (X.blk sB HB scope ce fp) [] σz Hz sz → (∀ b ∈ fp, Hz b = none) → ∀ b ∈ fp, FpOk (X.blk sB HB scope ce fp) [] Hz b := fun z n b hb =>
    ⟨n b hb, (z.ok.exf b hb).1, z.ok.exfs b hb, .inl hb, fun x c e => (z.ok.exf b hb).2 x c e, fun p hp => absurd (show p ∈ ([] : List (Addr × Obj)) ++ [] from hp) (by simp)⟩
  have loop : codeAny (model X.prog X.w) X.A (.compLoop (.ListComp elt [⟨tg, iter, [], 0⟩] scope pos) 0 (.ref it) (.ref D) ce) (compPost (model X.prog X.w) X.A X.xe none (EP X p0 σ Q) (.ref D) sB.heap.objs.size) sC := by
    refine compLoop_any (fun n sz => ∃ i Hz, (Inv (X.blk sB HB scope ce fp) [] (wipe σ (own.map (·.2))) Hz sz ∧ W i n Hz) ∧ tn i sz.heap ∧ ∀ b ∈ fp, Hz b = none) ?_ m0 ⟨0, HB, ⟨J0, w0⟩, stC, fun b hb => (fB b hb).1.1⟩
    rintro n sz ⟨i, Hz, ⟨Jz, wz⟩, tz, nz⟩
    rcases turn i n Hz wz with ⟨stop, qz⟩ | ⟨go, Nx, less, step⟩
    · refine thnF (T.done (X.blk sB HB scope ce fp) rfl rfl rfl hc i [] sz _ Hz (fun _ _ => False) Jz (fk Jz nz) tz stop) fun r sy ⟨er, Jy⟩ => ?_
      subst er
      have nC : Hz sB.heap.objs.size = none := cL ▸ Jy.free
      obtain ⟨m, hm, _⟩ := Jy.loc
      obtain ⟨f0, f1, _, f3, f4, f5⟩ := IB.fpOk (Nat.le_refl _) nC
      exact ⟨m, cL ▸ hm, fun h'' sb => ⟨.ref D, Hz, (up Jy).turned (t' := sy.toks) (fun b o hb e => (sb.2 b hb).trans e) f0 f1 f3 f4 f5, rfl, qz⟩⟩
    · refine thnF (T.item (X.blk sB HB scope ce fp) rfl rfl rfl hc i [] sz _ Hz (fun _ _ => False) Jz (fk Jz nz) tz go) fun r sy ⟨u, er, hy⟩ => ?_
      subst er
      refine thnF hy fun _ sx ⟨x, Hx, Jx, rx, yx, tx, nx⟩ => ?_
      refine thnF (gP.run _ sx _ Hx x u _ (Jx.pinned (fk Jx nx) (T.obj _ _ tx)) rx (step x Hx yx)) fun _ sw ⟨σw, Hw, Jw, hw, qw⟩ => ?_
      refine thnF ((pts_nil (X := X.blk sB HB scope ce fp)).run _ sw σw Hw _ Jw qw) fun b sv ⟨Hv, Jv, qv⟩ => ?_
      have fin : ∀ {sl : Shared} {Hl : Hp}, Inv (X.blk sB HB scope ce fp) ([] ++ pinsAt fp sx.heap) σw Hl sl → Nx Hl → ∃ m, m < n ∧ ∃ i Hk, (Inv (X.blk sB HB scope ce fp) [] (wipe σ (own.map (·.2))) Hk sl ∧ W i m Hk) ∧ tn i sl.heap ∧ ∀ b ∈ fp, Hk b = none := fun {sl Hl} Jl nl => by
        obtain ⟨m, hm, wm⟩ := less Hl nl
        have pinned : ∀ b ∈ fp, ∀ o, sx.heap.get? b = some o → sl.heap.get? b = some o ∧ Hl b = none := fun b hb o e => let z := Jl.pin (b, o) (List.mem_append_right _ (List.mem_append_right _ (mem_pinsAt hb e))); ⟨z.1, z.2.1⟩
        refine ⟨m, hm, i + 1, Hl, ⟨(Jl.unpinned (pins := [])).weak (by rw [← hw, wipe_length]) (fun j v e => (wipe_some (hw ▸ e)).1), wm⟩, T.keep _ _ _ tx fun b hb o e => (pinned b hb o e).1, fun b hb => ?_⟩
        obtain ⟨o, e, _⟩ := T.obj _ _ tx b hb
        exact (pinned b hb o e).2
      cases b with
      | false => exact fin Jv qv
      | true =>
        refine thnF (eP.run _ sv σw Hv _ Jv qv) fun z su ⟨y, Hu, Ju, ry, acc, hD', hz, nu⟩ => ?_
        exact app_ok (X := X.blk sB HB scope ce fp) Ju hD' hz ry fun st Jt => fin Jt nu
  exact codeAny_compStart_list loop (T.self X.A 0 _ _ _ stC loop)
end
end Ux

set_option Elab.async false
set_option linter.all false
set_option maxRecDepth 100000
set_option maxHeartbeats 4000000
namespace Ux
open PySem PySem.Spec PyProof.Rows L2 LamX
/-- x(y) in a block, where y is one of some lambdas of the frame around: that frame's names hold σ0 -/
def tLamCallB (cl : List (Str × Addr)) (q : Str) (TT : (XK → Hp → VK → Prop) → Hp → VK → Prop) (ds : List LamD) (es : List LamE) (te : TE) (σ0 : L2.St) : TE := fun σ H Q => te σ H fun v H1 =>
  (∃ (f c' : Addr) (d : LamD), d ∈ ds ∧ v = .ref f ∧ LamAt cl q H1 d f c' ∧ TT (fun E H' Q' => H' f = some (LamO cl q d f c') ∧ d.t E σ0 H' Q') H1 Q) ∨
  ∃ (f c' T : Addr) (d : LamE), d ∈ es ∧ v = .ref f ∧ LamAtE cl q H1 d f c' T ∧ TT (fun E H' Q' => LamAtE cl q H' d f c' T ∧ d.t E σ0 H' Q') H1 Q
theorem pe_lamvalB {X : Cx} {σ0 : L2.St} {H0 : Hp} {s0 : Shared} {fp : List Addr} {scope : Scope} {ce : Env} {ds : List LamD} {es : List LamE} {te : TE} {TT : (XK → Hp → VK → Prop) → Hp → VK → Prop} {x a y : Str} {g : Addr} {k : Nat} {pg : Arguments} {bg : List Stmt} {sg : Scope} {dV kV doc pm cdv ct oc : Value} {an od : Option Addr} {osl : Array (Option Value)} {Ng : List Str} {p py pos : Pos}
    (B : BlkIn X σ0 H0 s0 fp) (hg : Gl (X.blk s0 H0 scope ce fp) x) (hm : X.mg x = some (.ref g)) (hk : PySem.W.keepIn X.K (.ref g) = true) (lk : X.K.lookup g = some ⟨oc, od, .func (PySem.W.fnOf x x pg bg sg dV kV doc pm an cdv ct), osl⟩) (hcg : PySem.W.codeIn X.K cdv x = true)
    (hb : L2.Binds X.K (PySem.W.fnOf x x pg bg sg dV kV doc pm an cdv ct) [a] []) (Sg : FnScope Ng [a] sg) (hNg : Ng[0]? = some a) (hva : Vis sg a) (hG : GivesTo X Ng x sg g cdv bg a (X.env.qual ++ "<lambda>") TT) (hr : Room (k + 2) X.A)
    (hds : ∀ d ∈ ds, LamOk X k d) (hes : ∀ d ∈ es, LamOkE X k d) (he : PE (X.blk s0 H0 scope ce fp) (.Name y py) te) (hdb : (x == ("__debug__" : Str)) = false := by decide) (hd : (a == ("__debug__" : Str)) = false := by decide) (hcd : (a == ("__classdict__" : Str)) = false := by decide) :
    PE (X.blk s0 H0 scope ce fp) (.Call (.Name x p) [.Name y py] [] pos) (tLamCallB X.env.cells (X.env.qual ++ "<lambda>") TT ds es te σ0) := by
  refine ⟨fun pins s σ H Q I h => wpAny_Call_Name_kw (ld_glob I hg hm ?_ hdb)⟩
  refine PySem.W.callWith_K (h₀ := X.base) I.ok.mod.kin hk (show wpAny _ _ (spliced ((false, eval (.Name y py) ce) :: backTo pos (starEach [] ce))) _ _ s from ?_) (by rfl) (by rfl)
  refine Calls.spliced_cons (thn (he.run pins s σ H _ I h) fun u s' ⟨v, H1, I1, rv, hq⟩ => ?_)
  obtain ⟨pX, IX⟩ := B.back I1
  rcases hq with ⟨f, c', d, hmem, rfl, la, htt⟩ | ⟨f, c', T, d, hmem, rfl, la, htt⟩
  · obtain rfl : u = Value.ref f := rv
    refine Calls.spliced_nil ⟨I1.kIn, wpAny_call (codeAny_mono (run_ofS (CX := C8.CX0) (E := C8.E0) (Q := Q) (outer := X.stack) (base := X.base) (mg := X.mg) (N := Ng) (ps := [a]) (us := [.ref f]) (vs := [.ref f]) lk hcg Sg hr IX.env0 (hb s' [.ref f] IX.kIn rfl) (.cons rfl .nil) rfl fun hr2 => ?_) fun r s2 hq => ?_)⟩
    · obtain ⟨t', ht', hq'⟩ := hG f c' s' H1 Q (fun E H' Q' => H' f = some (LamO X.env.cells (X.env.qual ++ "<lambda>") d f c') ∧ d.t E σ0 H' Q') (fun W pn xe E p1 p2 tk hW => pe_actV (i := 0) IX (hds d hmem) tk hW hr2 hNg hva hd hcd) la.co htt
      exact ⟨t', ht'.nox, hq'⟩
    · rcases r with e | (_ | _ | _ | u)
      · exact (show False from hq).elim
      · exact False.elim hq
      · exact False.elim hq
      · exact False.elim hq
      · exact I1.after hq
  · obtain rfl : u = Value.ref f := rv
    refine Calls.spliced_nil ⟨I1.kIn, wpAny_call (codeAny_mono (run_ofS (CX := C8.CX0) (E := C8.E0) (Q := Q) (outer := X.stack) (base := X.base) (mg := X.mg) (N := Ng) (ps := [a]) (us := [.ref f]) (vs := [.ref f]) lk hcg Sg hr IX.env0 (hb s' [.ref f] IX.kIn rfl) (.cons rfl .nil) rfl fun hr2 => ?_) fun r s2 hq => ?_)⟩
    · obtain ⟨t', ht', hq'⟩ := hG f c' s' H1 Q (fun E H' Q' => LamAtE X.env.cells (X.env.qual ++ "<lambda>") H' d f c' T ∧ d.t E σ0 H' Q') (fun W pn xe E p1 p2 tk hW => pe_actE (i := 0) (T := T) IX (hes d hmem) tk hW hr2 hNg hva hd hcd) la.co htt
      exact ⟨t', ht'.nox, hq'⟩
    · rcases r with e | (_ | _ | _ | u)
      · exact (show False from hq).elim
      · exact False.elim hq
      · exact False.elim hq
      · exact False.elim hq
      · exact I1.after hq
end Ux

set_option Elab.async false
set_option linter.all false
set_option maxRecDepth 100000
set_option maxHeartbeats 4000000
/-! x in o by o's own __contains__; len(o) by o's own __len__ -/
namespace Ux
open PySem PySem.W
section
variable {M : Model} {A : Around} {E : Value → Shared → Prop} {s : Shared} {K : Frag} {x C f : Addr} {ox : Obj} {od : Option Obj} {y : Value}
theorem unless_fn {name : Str} {args : List Value} {refuse : Sem Value} {Q : Option Value → Shared → Prop} (IN : K.In s.heap) (I : InstAt s.heap x ox C od)
    (hs : findIn K (.ref C) name = some (some (.ref f))) (hf : typeIn K (.ref f) = some (.type "function")) (h : wpAny M A (call (.ref f) (.ref x :: args)) (fun v => Q (some v)) E s) :
    wpAny M A (callSpecialUnlessNone? (.ref x) name args refuse) Q E s := by
  simp only [callSpecialUnlessNone?]
  refine wpAny_bind (wpAny_bind (I.type.here ((looks_findIn IN hs).here (wpAny_holding (wpAny_bind ((bind_fn IN _ hf).here ?_))))))
  have e : (Value.ref f == Value.none) = false := rfl
  simp only [e, Bool.false_eq_true, if_false]
  exact wpAny_bind (wpAny_mono h (fun _ _ z => wpAny_pure z) fun _ _ z => z)
theorem contains_own {Q : Bool → Shared → Prop} (IN : K.In s.heap) (I : InstAt s.heap x ox C od)
    (hs : findIn K (.ref C) "__contains__" = some (some (.ref f))) (hf : typeIn K (.ref f) = some (.type "function")) (h : wpAny M A (call (.ref f) [.ref x, y]) (fun v s' => ∃ b, v = .bool b ∧ Q b s') E s) :
    wpAny M A (contains (.ref x) y) Q E s := by
  unfold contains
  refine wpAny_holding ?_
  have e0 : stdlibNamesSay? (.ref x) y = none := rfl
  rw [e0]
  refine wpAny_bind (wpAny_bind (I.type.here ((looks_findIn IN hs).here ?_)))
  have e : (some (Value.ref f) == some Value.none) = false := rfl
  simp only [e, Bool.false_eq_true, if_false]
  refine wpAny_bind (unless_fn IN I hs hf (wpAny_mono h (fun v s' z => ?_) fun _ _ z => z))
  obtain ⟨b, rfl, q⟩ := z
  exact wpAny_truthy_bool q
end
end Ux
namespace Ux
open PySem PySem.Spec PyProof.Rows L2
section
variable {X : Cx} {k : Nat} {f C : Addr} {fd : FuncData} {sp : Sp}
def rOwnIn (C : Addr) (sp : Sp) (neg : Bool) : R2 := fun x y H Q => ∃ (a dx : Addr) (fs : List (Str × V)), y = .ref a ∧ H a = some (.ins C dx fs) ∧ sp [y, x] H (fun v H' => ∃ b, v = .bl b ∧ Q (.bl (b != neg)) H') (fun _ _ _ => False)
theorem op_inO {ps : List Str} (M : OwnM X.K C "__contains__" f) (F : FnOk X.prog X.w X.K X.mg X.base CX0 k f fd ps sp) (hb : Binds X.K fd ps []) (hr : Room k X.A) : OpR X (compareOp .In) (rOwnIn C sp false) := by
  intro pins s σ H x y v u Q I rx ry h
  obtain ⟨a, dx, fs, rfl, ea, q⟩ := h
  cases (show u = Value.ref a from ry)
  obtain ⟨mA, O, _⟩ := ins_get I.hok ea
  obtain ⟨od, J, _⟩ := O.look
  show wpAny (model X.prog X.w) X.A (do return .bool (← contains (.ref a) v)) (EP X pins σ Q) X.xe s
  refine wpAny_bind (contains_own I.kIn J M.at_ (beq_iff_eq.mp M.fn) (own_run F hr I.env0 hb (vs := [.ref a, x]) I (.cons rfl (.cons rx .nil)) q fun w s' hq => ?_))
  obtain ⟨v, H', I', rv, b, ev, q'⟩ := hq
  subst ev
  cases (show w = Value.bool b from rv)
  have e : (b != false) = b := by cases b <;> rfl
  rw [e] at q'
  exact ⟨b, rfl, wpAny_pure ⟨.bl b, H', I', rfl, q'⟩⟩
theorem call_lenO {ps : List Str} (M : OwnM X.K C "__len__" f) (F : FnOk X.prog X.w X.K X.mg X.base CX0 k f fd ps sp) (hb : Binds X.K fd ps []) (hr : Room (k + 1) X.A) : CallR X (.builtin "len") (fun xs H Q => ∃ (a dx : Addr) (fs : List (Str × V)), xs = [.ref a] ∧ H a = some (.ins C dx fs) ∧ sp [.ref a] H (fun v H' => ∃ n : Int, v = .int n ∧ 0 ≤ n ∧ n < 2 ^ 63 ∧ Q (.int n) H') (fun _ _ _ => False)) := by
  intro pins s σ H xs us Q I r h
  obtain ⟨a, dx, fs, rfl, ea, q⟩ := h
  obtain ⟨u, rfl, rx⟩ := vals1 r
  cases (show u = Value.ref a from rx)
  obtain ⟨mA, O, _⟩ := ins_get I.hok ea
  obtain ⟨od, J, _⟩ := O.look
  refine PySem.Calls.call_function_entry kind_len plain_len entry_len (args_len1 _) ?_
  unfold Builtin.«len»
  refine wpAny_bind (m := oneArg "len" _) (wpAny_pure ?_)
  refine wpAny_bind (m := callSpecial? (.ref a) (Str.ofString "__len__")) (PySem.W.special_fn I.kIn J M.at_ (beq_iff_eq.mp M.fn) (own_run F hr.in1 I.env0.in1 hb (vs := [.ref a]) I (.cons rfl .nil) q fun u s' hq => ?_))
  obtain ⟨v, H', I', rv, n, ev, n0, n1, q'⟩ := hq
  subst ev
  obtain ⟨t, rfl⟩ := rv
  refine wpAny_bind (wpAny_holding (wpAny_pure ?_))
  refine wpAny_bind (wpAny_letGo ?_)
  show wpAny _ _ (if n < 0 then _ else _) _ _ _
  rw [if_neg (by omega)]
  show wpAny _ _ (if n ≥ 2 ^ 63 then _ else _) _ _ _
  rw [if_neg (by omega)]
  exact wpAny_bind (wpAny_mkInt (wpAny_pure ⟨_, rfl, .int n, H', I'.tok _, ⟨_, rfl⟩, q'⟩))
end
end Ux

set_option Elab.async false
set_option linter.all false
set_option maxRecDepth 100000
set_option maxHeartbeats 4000000
set_option pp.maxSteps 600
/-! {**d, k: v}, the keys ints or texts -/
namespace Ux
open PySem PySem.W
section
variable {prog : Program} {w : World} {κ : Type} [DecidableEq κ] {kd : KeyKind prog w κ} {A : Around} {E : Value → Shared → Prop} {s : Shared}
theorem put_pairs {a : Addr} {xs : List (κ × Value)} {j : κ} {ky u : Value} {Q : Unit → Shared → Prop} (hj : kd.is j ky = true) (D : s.heap.DictOf kd a xs) (few : xs.length ≤ sizeLine)
    (q : ∀ g, g.DictOf kd a (stored xs j u) → Heap.SameBut a s.heap g → Q () { s with heap := g }) : wpAny (model prog w) A (dictPut a (kd.hash j) ky u) Q E s := by
  obtain ⟨ob, tb, n, at_, ex, dat, keys, prs, nd⟩ := D
  have fits : tb.size ≤ sizeLine := by
    have e1 := prs.length
    rw [Array.length_toList] at e1
    omega
  have same : (tb.findIdx? fun e => kd.is j e.key) = xs.findIdx? fun p => decide (p.1 = j) := by
    rw [← prs.findIdx j]
    obtain ⟨l⟩ := tb
    simp
  unfold dictPut
  refine wpAny_bind (wpAny_dictFind_of hj at_ dat keys ?_)
  cases fi : tb.findIdx? fun e => kd.is j e.key with
  | some i =>
    have has := any_of_findIdx_some (same ▸ fi)
    have li : (tb.toList.findIdx? fun e => kd.is j e.key) = some i := by
      rw [← fi]
      obtain ⟨l⟩ := tb
      simp
    refine wpAny_updateDict at_ dat (q _ ⟨_, _, n, Heap.get?_update_self _ at_ (Obj.isFreed_of_dict (Obj.data_mapDict dat _)), ex.mapDict _, Obj.data_mapDict dat _, keys.modify _ _, ?_, ?_⟩ (Heap.SameBut.update ..))
    · unfold stored
      rw [if_pos has]
      have z := prs.modify nd li u
      obtain ⟨l⟩ := tb
      simpa using z
    · unfold stored
      rw [if_pos has, keys_map_store]
      exact nd
  | none =>
    have out := not_mem_of_findIdx_none (same ▸ fi)
    have has : ¬ (xs.any fun p => decide (p.1 = j)) = true := fun z => by
      obtain ⟨p, hp, e⟩ := List.any_eq_true.mp z
      exact out (List.mem_map.mpr ⟨p, hp, of_decide_eq_true e⟩)
    refine wpAny_updateDictKeys (hz := fits) at_ dat (q _ ⟨_, _, n + 1, Heap.get?_update_self _ at_ (Obj.isFreed_of_dict (Obj.data_mapDictKeys dat _)), ex.mapDictKeys _, Obj.data_mapDictKeys dat _, keys.push hj _, ?_, ?_⟩ (Heap.SameBut.update ..))
    · unfold stored
      rw [if_neg has]
      have z := prs.append hj (kd.hash j) u
      obtain ⟨l⟩ := tb
      simpa using z
    · unfold stored
      rw [if_neg has, List.map_append, List.nodup_append]
      refine ⟨nd, by simp, fun x hx y hy e => ?_⟩
      rw [List.map_cons, List.map_nil, List.mem_singleton] at hy
      have ej : x = j := e.trans hy
      exact out (ej ▸ hx)
/-- **d into a dict of its own -/
theorem merge_pairs {d a : Addr} {xs more : List (κ × Value)} {Q : Unit → Shared → Prop} (hda : d ≠ a) (hs : (a == sysModules) = false) (hd : s.heap.DictOf kd d xs) (ha : s.heap.DictOf kd a more) (few : xs.length + more.length ≤ sizeLine)
    (q : ∀ g, g.DictOf kd d (merged xs more) → Heap.SameBut d s.heap g → Q () { s with heap := g }) : wpAny (model prog w) A (mergeMapping d (.ref a) false) Q E s := by
  obtain ⟨od, td, nd, atd, exd, datd, keysd, prsd, ndd⟩ := id hd
  obtain ⟨oa, ta, na, ata, exa, data, keysa, prsa, nda⟩ := id ha
  have lnm : more.length = ta.size := by
    rw [← prsa.length]
    simp
  unfold mergeMapping
  refine wpAny_bind (wpAny_isInstance ha.typeIs isSubtype_dict_dict ?_)
  rw [if_pos rfl]
  refine wpAny_bind (wpAny_specialOf ha.typeIs F.slot_dict_iter.lookup ?_)
  refine wpAny_bind (wpAny_pure ?_)
  have e1 : (some (Value.builtin "dict.__iter__") == some (Value.builtin "dict.__iter__")) = true := by simp
  rw [e1]
  dsimp only
  rw [if_neg (by rw [hs]; exact Bool.false_ne_true)]
  have rest : wpAny (model prog w) A (do
      let z ← dictEntries a
      let n ← dictEpoch a
      forIn (List.range z.size) PUnit.unit fun i (_ : PUnit) => (do
        let z' ← dictEntries a
        match z'[i]? with
        | some e => do
          holding [e.key, e.val] (dictPut d e.hash e.key e.val)
          let m ← dictEpoch a
          if (m != n) = true then do
            (unsupported "dict.changed-during-merge" : Sem PUnit)
            pure (ForInStep.yield PUnit.unit)
          else pure (ForInStep.yield PUnit.unit)
        | _ => do
          (unsupported "dict.changed-during-merge" : Sem PUnit)
          pure (ForInStep.yield PUnit.unit) : Sem (ForInStep PUnit))
      pure ()) Q E s := by
    refine wpAny_bind (wpAny_dictEntries ata data ?_)
    refine wpAny_bind (wpAny_dictEpoch ata data ?_)
    refine wpAny_bind ?_
    refine wpAny_forIn_list _ (fun l _ s' => ∃ g i, s' = { s with heap := g } ∧ l = List.range' i (ta.size - i) ∧ i ≤ ta.size ∧ g.DictOf kd d (merged xs (more.take i)) ∧ g.get? a = some oa ∧ Heap.SameBut d s.heap g) _ ?_ ?_ _ _
      ⟨s.heap, 0, rfl, by rw [List.range_eq_range', Nat.sub_zero], Nat.zero_le _, hd, ata, Heap.SameBut.refl _ _⟩
    · rintro x l _ s' ⟨g, i, rfl, hl, hi, gd, ga, gs⟩
      have lt : i < ta.size := by
        rcases Nat.lt_or_ge i ta.size with z | z
        · exact z
        · rw [Nat.sub_eq_zero_of_le z] at hl
          cases hl
      have sp : ta.size - i = ta.size - (i + 1) + 1 := by omega
      rw [sp, List.range'_succ] at hl
      injection hl with h1 h2
      subst h1
      refine wpAny_bind (wpAny_dictEntries ga data ?_)
      rw [Array.getElem?_eq_getElem lt]
      obtain ⟨⟨j, u⟩, hj⟩ : ∃ p, more[x]? = some p := ⟨more[x]'(by omega), List.getElem?_eq_getElem _⟩
      obtain ⟨k1, k2⟩ := prsa.get? (e := ta[x]) (by simp [lt]) hj
      obtain ⟨j', k3, k4⟩ := keysa ta[x] (Array.getElem_mem lt)
      obtain rfl : j' = j := kd.inj _ _ _ k3 k1
      show wpAny _ _ (holding [ta[x].key, ta[x].val] (dictPut d ta[x].hash ta[x].key ta[x].val) >>= _) _ _ _
      rw [k4, k2]
      have lim : (merged xs (more.take x)).length ≤ sizeLine := by
        have b1 := merged_length_le xs (more.take x)
        have b2 : (more.take x).length ≤ more.length := by
          rw [List.length_take]
          omega
        omega
      refine wpAny_bind (wpAny_holding (put_pairs k1 gd lim fun g2 gd2 gs2 => ?_))
      have ga2 : g2.get? a = some oa := (gs2.2 a hda.symm).trans ga
      refine wpAny_bind (wpAny_dictEpoch ga2 data ?_)
      rw [if_neg (by simp)]
      exact wpAny_pure ⟨g2, x + 1, rfl, h2, lt, by rw [merged_take_succ xs more x (j', u) hj]; exact gd2, ga2, gs.trans gs2⟩
    · rintro _ s' ⟨g, i, rfl, hl, hi, gd, ga, gs⟩
      have ei : i = ta.size := by
        rcases Nat.lt_or_ge i ta.size with z | z
        · have sp : ta.size - i = ta.size - (i + 1) + 1 := by omega
          rw [sp, List.range'_succ] at hl
          cases hl
        · exact Nat.le_antisymm hi z
      rw [ei, ← lnm, List.take_length] at gd
      exact wpAny_pure (q g gd gs)
  refine wpAny_bind (wpAny_dictEntries atd datd ?_)
  split
  · refine wpAny_bind (wpAny_dictEntries ata data ?_)
    refine wpAny_bind ?_
    rw [← Array.forIn_toList]
    refine wpAny_forIn_list _ (fun l _ s' => s' = s ∧ ∀ e ∈ l, e ∈ ta) _ ?_ ?_ _ _ ⟨rfl, fun e he => by simpa using he⟩
    · rintro e l _ s' ⟨rfl, hl⟩
      obtain ⟨j, k3, _⟩ := keysa e (hl e (List.mem_cons_self ..))
      have b := kd.byValue _ _ k3
      split
      · rename_i x ek
        rw [ek] at b
        cases b
      · exact wpAny_pure ⟨rfl, fun e' he => hl e' (List.mem_cons_of_mem _ he)⟩
    · rintro _ s' ⟨rfl, _⟩
      exact rest
  · exact rest
end
end Ux

set_option Elab.async false
set_option linter.all false
set_option maxRecDepth 100000
set_option maxHeartbeats 4000000
set_option pp.maxSteps 150
/-! {**d, k: v}, the keys ints or texts: the display -/
namespace Ux
open PySem PySem.W
section
variable {prog : Program} {w : World} {κ : Type} [DecidableEq κ] {kd : KeyKind prog w κ} {A : Around} {E : Value → Shared → Prop} {s : Shared}
abbrev mtD : Obj := { cls := .type "dict", data := .dict #[] }
theorem display_star {m k v : Sem Value} {Q : Value → Shared → Prop}
    (h : wpAny (model prog w) A m (fun u s1 => ∃ (a : Addr) (xs : List (κ × Value)), u = .ref a ∧ (a == sysModules) = false ∧ s.heap.objs.size ≠ a ∧ s1.heap.DictOf kd s.heap.objs.size [] ∧ s1.heap.DictOf kd a xs ∧ xs.length + 1 ≤ sizeLine ∧ (xs.map (·.1)).Nodup ∧
      ∀ g, g.DictOf kd s.heap.objs.size xs → Heap.SameBut s.heap.objs.size s1.heap g →
        wpAny (model prog w) A (evalPairs [(k, v)]) (fun vs s2 => ∃ (j : κ) (y : Value) (ys : List (κ × Value)), Carries kd vs [(j, y)] ∧ s2.heap.DictOf kd g.objs.size [] ∧ s2.heap.DictOf kd s.heap.objs.size ys ∧ ys.length + 1 ≤ sizeLine ∧ s.heap.objs.size ≠ g.objs.size ∧ (g.objs.size == sysModules) = false ∧
          ∀ g2, g2.DictOf kd g.objs.size [(j, y)] → Heap.SameBut g.objs.size s2.heap g2 → ∀ g3 tk, g3.DictOf kd s.heap.objs.size (stored ys j y) → Heap.SameBut s.heap.objs.size g2 g3 → Q (.ref s.heap.objs.size) { s2 with heap := g3, toks := tk }) E { s1 with heap := g.push mtD })
      E { s with heap := s.heap.push mtD }) : wpAny (model prog w) A (dictDisplay [(none, m), (some k, v)]) Q E s := by
  unfold dictDisplay
  dsimp only
  refine wpAny_bind ?_
  rw [List.forIn_cons]
  refine wpAny_bind ?_
  refine wpAny_bind ?_
  simp only [List.isEmpty_nil, if_true]
  refine wpAny_pure ?_
  refine wpAny_bind ?_
  refine wpAny_alloc ?_
  refine wpAny_bind (wpAny_holding (wpAny_mono h (fun u s1 h1 => ?_) fun _ _ e => e))
  obtain ⟨a, xs, rfl, hs, na, dd, da, few, nd, h2⟩ := h1
  have fin : ∀ g, g.DictOf kd s.heap.objs.size xs → Heap.SameBut s.heap.objs.size s1.heap g → True := fun _ _ _ => trivial
  refine wpAny_bind (wpAny_onRaise (wpAny_tryCatch (wpAny_onRaise (wpAny_holding (merge_pairs na hs dd da (by rw [List.length_nil]; omega) fun g gd gs => ?_)))))
  rw [merged_nil_of_nodup xs nd] at gd
  have h3 := h2 g gd gs
  clear h2 fin
  refine wpAny_pure ?_
  dsimp only
  rw [List.forIn_cons]
  refine wpAny_bind ?_
  dsimp only
  have e17 : (([] ++ [(k, v)] : List (Sem Value × Sem Value)).length == 17) = false := rfl
  simp only [e17, Bool.false_eq_true, if_false]
  refine wpAny_pure ?_
  dsimp only
  rw [List.forIn_nil]
  refine wpAny_pure ?_
  dsimp only
  refine wpAny_bind ?_
  rw [if_neg (by simp)]
  refine wpAny_bind (wpAny_holding (wpAny_subDict (knd := kd) (by simp) ?_))
  refine wpAny_mono h3 (fun vs s2 h4 => ?_) fun _ _ e => e
  obtain ⟨j, y, ys, ca, d1, d2, few2, n2, m2, h5⟩ := h4
  refine ⟨[(j, y)], ca, d1, fun g2 dg2 sg2 => ?_⟩
  have e1 : merged [] [(j, y)] = [(j, y)] := rfl
  rw [e1] at dg2
  have d2' : g2.DictOf kd s.heap.objs.size ys := d2.sameBut sg2 n2
  refine wpAny_bind (wpAny_onRaise (wpAny_holding (merge_pairs n2 m2 d2' dg2 (by simpa using few2) fun g3 dg3 sg3 => ?_)))
  refine wpAny_pure ?_
  dsimp only
  have e2 : merged ys [(j, y)] = stored ys j y := rfl
  rw [e2] at dg3
  exact wpAny_pure (h5 g2 dg2 sg2 g3 _ dg3 sg3)
end
end Ux

set_option Elab.async false
set_option linter.all false
set_option maxRecDepth 100000
set_option maxHeartbeats 4000000
set_option pp.maxSteps 300
/-! {**d, k: v}, the keys ints or texts: the rule; [*d, ..] over a dict's keys -/
namespace Ux
open PySem PySem.Spec PyProof.Rows L2
def tDispS (te tk tv : TE) : TE := fun σ H Q => ∀ p, H p = none → te σ (upd H p (.dK [])) fun x H1 => H1 p = some (.dK []) ∧ ∃ (a : Addr) (kvs : List (L2.Key × V)), x = .ref a ∧ H1 a = some (.dK kvs) ∧ a ≠ p ∧ kvs.length + 1 ≤ sizeLine ∧
  ∀ p2, upd H1 p (.dK kvs) p2 = none → tk σ (upd (upd H1 p (.dK kvs)) p2 (.dK [])) fun y H2 => tv σ H2 fun z H3 => H3 p2 = some (.dK []) ∧ H3 p = some (.dK kvs) ∧ ∃ k, y = kV k ∧ Q (.ref p) (upd (upd H3 p2 (.dK [(k, z)])) p (.dK (putK kvs k z)))
section
variable {X : Cx} {e k v : Expr} {te tk tv : TE} {pos : Pos}
theorem pe_dispS (he : PE X e te) (hk : PE X k tk) (hv : PE X v tv) : PE X (.Dict [none, some k] [e, v] pos) (tDispS te tk tv) := by
  refine ⟨fun pins s σ H Q I q => ?_⟩
  have hn := I.hok.fresh (Nat.le_refl s.heap.objs.size)
  have I1 := I.laid (a := s.heap.objs.size) (o := .dK []) (h' := s.heap.push { cls := .type "dict", data := .dict #[] }) (t' := s.toks) (fun _ _ q => Heap.get?_push_of_some _ q) (Nat.le_refl _) (dk_empty s.heap I.big)
  rw [arm_eval_Dict]
  refine wpAny_bind (wpAny_standAt ?_)
  show wpAny _ _ (dictDisplay [(none, do let x ← eval e X.env; standAt pos; pure x), (some (eval k X.env), do let x ← eval v X.env; standAt pos; pure x)]) _ _ s
  refine display_star (kd := mixKind X.prog X.w) ?_
  refine wpAny_bind (thn (he.run pins _ σ _ _ I1 (q _ hn)) fun u s1 hq => ?_)
  obtain ⟨x, H1, I2, rx, hp, a, kvs, rfl, ha, na, few, q2⟩ := hq
  obtain rfl : u = Value.ref a := rx
  refine wpAny_bind (wpAny_standAt (wpAny_pure ?_))
  obtain ⟨z1, m1, vs1, rk1, d1⟩ := dk_of I2.hok hp
  cases rk1
  obtain ⟨z2, m2, xs, rk2, d2⟩ := dk_of I2.hok ha
  have ln : kvs.length = xs.length := Paired.length rk2
  have nd : (xs.map (·.1)).Nodup := by
    obtain ⟨o, es, ep, _, _, _, _, _, n⟩ := id d2
    exact n
  refine ⟨a, xs, rfl, m2, na.symm, d1, d2, by omega, nd, fun g gd gs => ?_⟩
  have he' : ∃ q, g.get? s.heap.objs.size = some q := let ⟨q, _, _, hq, _⟩ := gd; ⟨q, hq⟩
  have I3 : Inv X pins σ (upd H1 s.heap.objs.size (.dK kvs)) { s1 with heap := g } := d_write (t' := s1.toks) I2 (by rw [hp]; exact True.intro) gs he' (dk_new (by omega) m1 rk2 gd)
  have hn2 := I3.hok.fresh (Nat.le_refl g.objs.size)
  have I4 := I3.laid (a := g.objs.size) (o := .dK []) (h' := g.push { cls := .type "dict", data := .dict #[] }) (t' := s1.toks) (fun _ _ q => Heap.get?_push_of_some _ q) (Nat.le_refl _) (dk_empty g I3.big)
  refine evalPairs_cons (thn (hk.run pins _ σ _ _ I4 (q2 _ hn2)) fun uk s2 hq => ?_)
  obtain ⟨y, H2, I5, ry, q3⟩ := hq
  refine wpAny_bind (thn (hv.run pins _ σ _ _ I5 q3) fun uv s3 hq => ?_)
  obtain ⟨z, H3, I6, rz, hp2, hp3, j, rfl, q4⟩ := hq
  refine wpAny_bind (wpAny_standAt (wpAny_pure (evalPairs_nil ?_)))
  obtain ⟨z3, m3, vs3, rk3, d3⟩ := dk_of I6.hok hp2
  cases rk3
  obtain ⟨z4, m4, ys, rk4, d4⟩ := dk_of I6.hok hp3
  have nn : s.heap.objs.size ≠ g.objs.size := fun z => by
    rw [← z, upd_same] at hn2
    cases hn2
  have ly : kvs.length = ys.length := Paired.length rk4
  refine ⟨j, uv, ys, ⟨kV_is ry, rfl, trivial⟩, d3, d4, by omega, nn, m3, fun g2 dg2 sg2 g3 tk3 dg3 sg3 => ?_⟩
  have e2 : ∃ q, g2.get? g.objs.size = some q := let ⟨q, _, _, hq, _⟩ := dg2; ⟨q, hq⟩
  have I7 : Inv X pins σ (upd H3 g.objs.size (.dK [(j, z)])) { s3 with heap := g2 } := d_write (t' := s3.toks) I6 (by rw [hp2]; exact True.intro) sg2 e2 (dk_new (by rw [sizeLine_eq]; simp) m3 (.cons ⟨rfl, rz⟩ .nil) dg2)
  have hp4 : upd H3 g.objs.size (.dK [(j, z)]) s.heap.objs.size = some (.dK kvs) := (upd_ne nn).trans hp3
  have e3 : ∃ q, g3.get? s.heap.objs.size = some q := let ⟨q, _, _, hq, _⟩ := dg3; ⟨q, hq⟩
  have lp := length_putK kvs j z
  exact ⟨.ref s.heap.objs.size, _, d_write (s := { s3 with heap := g2 }) (t' := tk3) I7 (by rw [hp4]; exact True.intro) sg3 e3 (dk_new (by omega) m4 (rk4.put j rz) dg3), rfl, q4⟩
end
end Ux

set_option Elab.async false
set_option linter.all false
set_option maxRecDepth 100000
set_option maxHeartbeats 4000000
set_option pp.maxSteps 300
/-! [*d, ..] over a dict's keys -/
namespace Ux
open PySem PySem.Spec PyProof.Rows L2
def tStarD (te : TE) (t : TA) : TA := fun σ H Q => te σ H fun x H1 => ∃ (a : Addr) (kvs : List (L2.Key × V)), x = V.ref a ∧ Rd H1 a (.dK kvs) ∧ t σ H1 fun ys H2 => Q ((kvs.map fun kv => kV kv.1) ++ ys) H2
section
variable {X : Cx} {e : Expr} {es : List Expr} {te : TE} {t : TA} {p : Pos}
theorem star_dict {pins : List (Addr × Obj)} {σ : L2.St} {H : Hp} {s : Shared} {a : Addr} {kvs : List (L2.Key × V)} {E : Value → Shared → Prop} {Q : List Value → Shared → Prop} (hc : X.calm = true) (I : Inv X pins σ H s) (h : Rd H a (.dK kvs))
    (hQ : ∀ us s', Inv X pins σ H s' → Vals (kvs.map fun kv => kV kv.1) us → Q us s') : PySem.W.StarOf (model X.prog X.w) X.A E (.ref a) Q s := by
  obtain ⟨z, lo, vs, rel, dd⟩ := dk_rd I.hok h
  obtain ⟨ep, hat⟩ := dd.dictAt
  have hl : kvs.length = vs.length := Paired.length rel
  have run : wpAny (model X.prog X.w) X.A (collect (.ref a)) Q E s := by
    refine PySem.W.kdu_collect (A := X.A) (PySem.W.kdl_dict (knd := mixKind X.prog X.w) (kvs := vs) (ep := ep) lo) (I.ok.hd hc) hat (by rw [← hl]; exact z) fun h' tk acc hk hacc => ?_
    have e0 : acc.toList.length = acc.size := by simp
    refine hQ acc.toList _ (I.kept (t' := tk) hk) (vals_of_at (by rw [List.length_map, e0, hacc.1, hl]) fun j x w h1 h2 => ?_)
    obtain ⟨k, y, hky, hi⟩ := hacc.2 j w (by rw [← Array.getElem?_toList]; exact h2)
    have e1 : (kvs.map (·.1))[j]? = some k := by
      rw [KV.keys rel, List.getElem?_map, hky]
      rfl
    rw [List.getElem?_map] at e1 h1
    cases ek : kvs[j]? with
    | none => rw [ek] at e1; cases e1
    | some q =>
      rw [ek] at e1 h1
      cases e1
      cases h1
      exact keyIs_rel hi
  unfold PySem.W.StarOf notIterableAtAll
  exact wpAny_bind (wpAny_specialOf dd.typeIs PySem.F.slot_dict_iter.lookup (wpAny_pure ⟨rfl, run⟩))
theorem pa_starD (hc : X.calm = true) (he : PE X e te) (hr : PA X es t) (hs : starEach (.Starred e p :: es) X.env = (true, eval e X.env) :: starEach es X.env := by rfl) : PA X (.Starred e p :: es) (tStarD te t) := by
  refine ⟨fun pos pins s σ H Q I h => ?_⟩
  refine PySem.W.items_star (thn (he.run pins s σ H _ I h) fun v s1 hq => ?_) hs
  obtain ⟨y, H1, I1, ry, a, kvs, ey, hx, q⟩ := hq
  subst ey
  obtain rfl : v = Value.ref a := ry
  refine star_dict hc I1 hx fun us s2 I2 rv => ?_
  exact thn (hr.run pos pins s2 σ H1 _ I2 q) fun ws s3 hq => by
    obtain ⟨vs, H3, I3, r3, q3⟩ := hq
    exact ⟨_, H3, I3, rv.append r3, q3⟩
end
end Ux

set_option Elab.async false
set_option linter.all false
set_option maxRecDepth 100000
set_option maxHeartbeats 4000000
set_option pp.maxSteps 300
/-! dicts whose keys are None, truth values, texts, whole numbers but 0 and 1: d[k] = v and [*d, ..] -/
namespace Ux
open PySem PySem.Spec PyProof.Rows L2
inductive OKy where
  | non
  | bl (b : Bool)
  | int (i : Int)
  | str (z : Str)
  deriving DecidableEq
def okV : OKy → V
  | .non => .non
  | .bl b => .bl b
  | .int i => .int i
  | .str z => .str z
def okGood : OKy → Bool
  | .int i => !(decide (i = 0) || decide (i = 1))
  | _ => true
def okIs : OKy → Value → Bool
  | .non, .none => true
  | .bl b, .bool c => c == b
  | .int i, .int j _ => decide (j = i) && okGood (.int i)
  | .str z, .str y _ => y == z
  | _, _ => false
def okH (w : World) : OKy → Int
  | .non => reduceHash 0xFCA86420
  | .bl b => PpSet.hB b
  | .int i => hashInt i
  | .str z => hashStr w z
inductive OkAt : OKy → Value → Prop
  | non : OkAt .non .none
  | bl (b : Bool) : OkAt (.bl b) (.bool b)
  | int (i : Int) (t : Tok) : okGood (.int i) = true → OkAt (.int i) (.int i t)
  | str (z : Str) (t : Tok) : OkAt (.str z) (.str z t)
theorem okAt_of {k : OKy} {v : Value} (h : okIs k v = true) : OkAt k v := by
  cases k with
  | non => cases v <;> first | exact .non | cases h
  | bl b =>
    cases v with
    | bool c =>
      have e : c = b := eq_of_beq h
      subst e
      exact .bl _
    | _ => cases h
  | int i =>
    cases v with
    | int j t =>
      have h' : (decide (j = i) && okGood (.int i)) = true := h
      simp only [Bool.and_eq_true, decide_eq_true_eq] at h'
      obtain ⟨rfl, g⟩ := h'
      exact .int _ _ g
    | _ => cases h
  | str z =>
    cases v with
    | str y t =>
      have e : y = z := eq_of_beq h
      subst e
      exact .str _ _
    | _ => cases h
theorem okIs_of {k : OKy} {v : Value} (h : OkAt k v) : okIs k v = true := by
  cases h with
  | non => rfl
  | bl b => exact beq_self_eq_true b
  | int i t g =>
    show (decide (i = i) && okGood (.int i)) = true
    rw [g, decide_eq_true rfl]
    rfl
  | str z t => exact beq_self_eq_true z
theorem eqCast {A : Around} {s : Shared} {u v : Value} {b b' : Bool} (h : SeqAt.EqAt A s u v b) (e : b = b') : SeqAt.EqAt A s u v b' := by
  subst e
  exact h
theorem eqAt_ok {A : Around} {s : Shared} {a b : OKy} {u v : Value} (ha : OkAt a u) (hb : OkAt b v) : SeqAt.EqAt A s u v (decide (a = b)) := by
  have good : ∀ {i : Int}, okGood (.int i) = true → ∀ c : Bool, ¬ (if c then (1 : Int) else 0) = i := fun {i} g c e => by
    have g' : (!(decide (i = 0) || decide (i = 1))) = true := g
    subst e
    cases c <;> exact absurd g' (by decide)
  cases ha with
  | non => cases hb with
    | non => exact SeqAt.EqAt.same _
    | bl c => exact SeqAt.EqAt.none_bool _
    | int j t g => exact SeqAt.EqAt.none_int _ _
    | str y t => exact SeqAt.EqAt.none_str _ _
  | bl c => cases hb with
    | non => exact SeqAt.EqAt.bool_none _
    | bl d => exact eqCast (SeqAt.EqAt.bool_bool c d) (by cases c <;> cases d <;> rfl)
    | int j t g => exact eqCast (SeqAt.EqAt.bool_int c j t) (by rw [decide_eq_false (fun z => nomatch z)]; exact beq_eq_false_iff_ne.mpr (good g c))
    | str y t => exact SeqAt.EqAt.bool_str _ _ _
  | int i t g => cases hb with
    | non => exact SeqAt.EqAt.int_none _ _
    | bl d => exact eqCast (SeqAt.EqAt.int_bool i t d) (by rw [decide_eq_false (fun z => nomatch z)]; exact beq_eq_false_iff_ne.mpr (fun e => good g d e.symm))
    | int j u g' => exact eqCast (SeqAt.EqAt.int_int i t j u) (by
        by_cases e : i = j
        · subst e; simp
        · rw [decide_eq_false (fun z => e (OKy.int.inj z))]; exact beq_eq_false_iff_ne.mpr e)
    | str y u => exact SeqAt.EqAt.int_str _ _ _ _
  | str x t => cases hb with
    | non => exact SeqAt.EqAt.str_none _ _
    | bl d => exact SeqAt.EqAt.str_bool _ _ _
    | int j u g => exact SeqAt.EqAt.str_int _ _ _ _
    | str y u => exact eqCast (SeqAt.EqAt.str_str x t y u) (by
        by_cases e : x = y
        · subst e; simp
        · rw [decide_eq_false (fun z => e (OKy.str.inj z))]; exact beq_eq_false_iff_ne.mpr e)
def okKind (prog : Program) (w : World) : PySem.KeyKind prog w OKy where
  is := okIs
  hash := okH w
  inj := fun v a b ha hb => by
    have h1 := okAt_of ha
    have h2 := okAt_of hb
    cases h1 <;> cases h2 <;> rfl
  byValue := fun k v h => by
    have h1 := okAt_of h
    cases h1 <;> rfl
  pyHash := @fun A E s k v Q hv h => by
    have h1 := okAt_of hv
    cases h1 with
    | non => exact PySem.W.pyHash_slot (T := "NoneType") rfl PySem.F.slot_NoneType_hash PySem.F.entry_NoneType_hash (PySem.F.args_NoneType_hash_1 _) (beq_builtin_none _) (.inl rfl) (wpAny_bind (wpAny_pure (wpAny_bind (wpAny_mkInt (wpAny_pure ⟨_, _, rfl, h⟩)))))
    | bl b => exact PpSet.pyHash_bool h
    | int i t g => exact wpAny_pyHash_int h
    | str z t => exact wpAny_pyHash_str h
  eqBool := @fun A E s a b u v Q hu hv h => eqAt_ok (okAt_of hu) (okAt_of hv) _ _ _ _ h
  «strs» := fun k x t v h => by
    have h1 := okAt_of h
    cases h1
    cases v <;> rfl
theorem ok_rel {P : Program} {w : World} {k : OKy} {v : V} {u : Value} (e : v = okV k) (g : okGood k = true) (r : RelV v u) : (okKind P w).is k u = true := by
  subst e
  cases k with
  | non =>
    obtain rfl : u = .none := r
    rfl
  | bl b =>
    obtain rfl : u = .bool b := r
    exact okIs_of (.bl b)
  | int i =>
    obtain ⟨t, rfl⟩ := r
    exact okIs_of (.int i t g)
  | str z =>
    obtain ⟨t, rfl⟩ := r
    exact okIs_of (.str z t)
theorem rel_ok {k : OKy} {u : Value} (h : okIs k u = true) : RelV (okV k) u := by
  have h1 := okAt_of h
  cases h1 with
  | non => rfl
  | bl b => rfl
  | int i t g => exact ⟨t, rfl⟩
  | str z t => exact ⟨t, rfl⟩
end Ux

set_option Elab.async false
set_option linter.all false
set_option maxRecDepth 100000
set_option maxHeartbeats 4000000
set_option pp.maxSteps 300
/-! The same as rules. -/
namespace Ux
open PySem PySem.Spec PyProof.Rows L2
/-- the dict at a, its keys of any plain kind -/
def OdK (P : Program) (w : World) (a : Addr) (kvs : List (OKy × V)) : HO := .ext fun h => kvs.length ≤ sizeLine ∧ (a == sysModules) = false ∧ ∃ vs, KV kvs vs ∧ h.DictOf (okKind P w) a vs
theorem odK_new {P : Program} {w : World} {H : Hp} {h : Heap} {a : Addr} {kvs : List (OKy × V)} {vs : List (OKy × Value)} (z : kvs.length ≤ sizeLine) (hd : (a == sysModules) = false) (r : KV kvs vs) (d : h.DictOf (okKind P w) a vs) : ObjOk P w H h a (OdK P w a kvs) := by
  obtain ⟨o, es, ep, ho, x⟩ := id d
  refine ⟨⟨z, hd, vs, r, d⟩, ⟨o, ho⟩, fun h1 h2 ⟨z, hd, vs, r, o, es, ep, ho, x⟩ k => ⟨z, hd, vs, r, o, es, ep, k o ho, x⟩⟩
theorem odK_at {P : Program} {w : World} {H : Hp} {h : Heap} {a : Addr} {kvs : List (OKy × V)} (hok : HOk P w H h) (e : H a = some (OdK P w a kvs)) : kvs.length ≤ sizeLine ∧ (a == sysModules) = false ∧ ∃ vs, KV kvs vs ∧ h.DictOf (okKind P w) a vs := (hok a _ e).1
/-- pairs with texts for keys, in either way -/
def dkT (l : List (Str × V)) : List (L2.Key × V) := l.map fun p => (Sum.inr p.1, p.2)
def doT (l : List (Str × V)) : List (OKy × V) := l.map fun p => (.str p.1, p.2)
theorem dict_ok {P : Program} {w : World} {h : Heap} {a : Addr} {l : List (Str × V)} {vs : List (L2.Key × Value)} (r : KV (dkT l) vs) (d : h.DictOf (mixKind P w) a vs) : ∃ us, KV (doT l) us ∧ h.DictOf (okKind P w) a us := by
  obtain ⟨o, es, ep, ho, hx, hdt, hk, hp, hn⟩ := d
  have go : ∀ (l : List (Str × V)) (vs : List (L2.Key × Value)) (es : List DictEntry), KV (dkT l) vs → Pairs (mixKind P w) es vs → (∀ e ∈ es, ∃ k, (mixKind P w).is k e.key = true ∧ e.hash = (mixKind P w).hash k) → (vs.map (·.1)).Nodup →
      ∃ us, KV (doT l) us ∧ Pairs (okKind P w) es us ∧ (us.map (·.1)) = l.map (fun p => OKy.str p.1) ∧ (vs.map (·.1)) = l.map (fun p => (Sum.inr p.1 : L2.Key)) ∧ (∀ e ∈ es, ∃ k, (okKind P w).is k e.key = true ∧ e.hash = (okKind P w).hash k) := by
    intro l
    induction l with
    | nil =>
      intro vs es r p _ _
      cases r
      cases p
      exact ⟨[], .nil, .nil, rfl, rfl, fun e he => nomatch he⟩
    | cons q l ih =>
      intro vs es r p hk nd
      cases r with
      | @cons _ y _ ys r1 r2 =>
        cases p with
        | @cons e _ es _ h1 h2 h3 =>
          obtain ⟨us, a1, a2, a3, a4, a5⟩ := ih ys es r2 h3 (fun e he => hk e (List.mem_cons_of_mem _ he)) (List.nodup_cons.mp nd).2
          obtain ⟨y1, y2⟩ := y
          obtain ⟨e1, e2⟩ := r1
          have e1 : Sum.inr q.1 = y1 := e1
          subst e1
          have sh := keyIs_shape (show keyIs (Sum.inr q.1) e.key = true from h1)
          have hkey : ∃ t, e.key = .str q.1 t := by
            rcases sh with ⟨i, t, e, _⟩ | ⟨x, t, e, e'⟩
            · exact nomatch e
            · cases e
              exact ⟨t, e'⟩
          obtain ⟨t, hkey⟩ := hkey
          refine ⟨(.str q.1, y2) :: us, .cons ⟨rfl, e2⟩ a1, .cons ?_ h2 a2, ?_, ?_, ?_⟩
          · show okIs (.str q.1) e.key = true
            rw [hkey]
            exact okIs_of (.str q.1 t)
          · rw [List.map_cons, List.map_cons, a3]
          · rw [List.map_cons, List.map_cons, a4]
          · intro e' he'
            rcases List.mem_cons.mp he' with rfl | he'
            · obtain ⟨k, k1, k2⟩ := hk e' (List.mem_cons_self ..)
              have ek : k = Sum.inr q.1 := (mixKind P w).inj e'.key _ _ k1 h1
              subst ek
              refine ⟨.str q.1, ?_, k2⟩
              show okIs (.str q.1) e'.key = true
              rw [hkey]
              exact okIs_of (.str q.1 t)
            · exact a5 e' he'
  obtain ⟨us, a1, a2, a3, a4, a5⟩ := go l vs es.toList r hp (fun e he => hk e (by simpa using he)) hn
  refine ⟨us, a1, o, es, ep, ho, hx, hdt, fun e he => a5 e (by simpa using he), a2, ?_⟩
  rw [a3]
  rw [a4] at hn
  unfold List.Nodup at hn ⊢
  rw [List.pairwise_map] at hn ⊢
  exact hn.imp fun h e => h (congrArg Sum.inr (OKy.str.inj e))
/-- the dict at a, as .dK of texts or as OdK -/
def OD (P : Program) (w : World) (H : Hp) (a : Addr) (kvs : List (OKy × V)) : Prop := H a = some (OdK P w a kvs) ∨ ∃ l : List (Str × V), H a = some (.dK (dkT l)) ∧ kvs = doT l
/-- d[y] = v, by the dict's rule, or with a key of any plain kind -/
def sDPutO (P : Program) (w : World) (td ty tv : TE) : TS := fun D σ H => tv σ H fun v H1 => td σ H1 fun x H2 => ty σ H2 fun y H3 => ∃ a, x = .ref a ∧
  ((∃ H4, DPut H3 a y v H4 ∧ D.nx σ H4) ∨ ∃ kvs k, OD P w H3 a kvs ∧ y = okV k ∧ okGood k = true ∧ kvs.length < sizeLine ∧ D.nx σ (upd H3 a (OdK P w a (putK kvs k v))))
/-- [*d, ..] over a dict's keys, in either way -/
def tStarO (P : Program) (w : World) (te : TE) (t : TA) : TA := fun σ H Q => te σ H fun x H1 => ∃ a : Addr, x = V.ref a ∧ ((∃ kvs : List (L2.Key × V), Rd H1 a (.dK kvs) ∧ t σ H1 fun ys H2 => Q ((kvs.map fun kv => kV kv.1) ++ ys) H2) ∨
  ∃ kvs : List (OKy × V), H1 a = some (OdK P w a kvs) ∧ t σ H1 fun ys H2 => Q ((kvs.map fun kv => okV kv.1) ++ ys) H2)
section
variable {X : Cx}
theorem od_at {pins : List (Addr × Obj)} {σ : L2.St} {H : Hp} {s : Shared} {a : Addr} {kvs : List (OKy × V)} (I : Inv X pins σ H s) (h : OD X.prog X.w H a kvs) : kvs.length ≤ sizeLine ∧ (a == sysModules) = false ∧ Mut (H a) ∧ ∃ vs, KV kvs vs ∧ s.heap.DictOf (okKind X.prog X.w) a vs := by
  rcases h with h | ⟨l, h, rfl⟩
  · obtain ⟨z, hd, vs, r, d⟩ := odK_at I.hok h
    exact ⟨z, hd, by rw [h]; exact True.intro, vs, r, d⟩
  · obtain ⟨z, hd, vs, r, d⟩ := dk_of I.hok h
    obtain ⟨us, r2, d2⟩ := dict_ok r d
    refine ⟨?_, hd, by rw [h]; exact True.intro, us, r2, d2⟩
    unfold dkT at z
    unfold doT
    rw [List.length_map] at z ⊢
    exact z
theorem ps_dputO {o i value : Expr} {pos pos' : Pos} {td ty tv : TE} (hu : X.A.units + 1 < cLine) (ho : PE X o td) (hi : PE X i ty) (hv : PE X value tv) (hs : swapsWith value (some (.Subscript o i pos')) pos.line X.env = pure false) :
    PS X (.Assign [.Subscript o i pos'] value pos) (sDPutO X.prog X.w td ty tv) := by
  refine ⟨fun pins s σ H D I h => ?_⟩
  refine wpAny_Assign_Subscript (thn (hv.run pins s σ H _ I h) fun r s1 ⟨v, H1, I1, rv, q1⟩ => thn (ho.run pins s1 σ H1 _ I1 q1) fun u s2 ⟨x, H2, I2, rx, q2⟩ => thn (hi.run pins s2 σ H2 _ I2 q2) fun iv s3 ⟨y, H3, I3, ry, a, ex, q3⟩ => ?_) hs
  subst ex
  obtain rfl : u = Value.ref a := rx
  rcases q3 with ⟨H4, g, q3⟩ | ⟨kvs, k, g, ey, gk, lt, q3⟩
  · exact d_setItem hu I3 g ry rv fun s4 I4 => ⟨σ, H4, I4, q3⟩
  · obtain ⟨z, hd, mu, vs, rel, dd⟩ := od_at I3 g
    have hz : vs.length ≤ sizeLine := by rw [← rel.length]; exact z
    have hl : (putK kvs k v).length ≤ sizeLine := by have := length_putK kvs k v; omega
    refine wpAny_setItem_pairs (hsz := hz) (ok_rel ey gk ry) dd fun h' dd' hs => ⟨σ, _, ?_, q3⟩
    have he : ∃ q, h'.get? a = some q := let ⟨q, _, _, hq, _⟩ := dd'; ⟨q, hq⟩
    exact d_write I3 mu hs he (odK_new hl hd (rel.put k rv) dd')
theorem star_ok {pins : List (Addr × Obj)} {σ : L2.St} {H : Hp} {s : Shared} {a : Addr} {kvs : List (OKy × V)} {E : Value → Shared → Prop} {Q : List Value → Shared → Prop} (hc : X.calm = true) (I : Inv X pins σ H s) (h : H a = some (OdK X.prog X.w a kvs))
    (hQ : ∀ us s', Inv X pins σ H s' → Vals (kvs.map fun kv => okV kv.1) us → Q us s') : PySem.W.StarOf (model X.prog X.w) X.A E (.ref a) Q s := by
  obtain ⟨z, lo, vs, rel, dd⟩ := odK_at I.hok h
  obtain ⟨ep, hat⟩ := dd.dictAt
  have hl : kvs.length = vs.length := Paired.length rel
  have run : wpAny (model X.prog X.w) X.A (collect (.ref a)) Q E s := by
    refine PySem.W.kdu_collect (A := X.A) (PySem.W.kdl_dict (knd := okKind X.prog X.w) (kvs := vs) (ep := ep) lo) (I.ok.hd hc) hat (by rw [← hl]; exact z) fun h' tk acc hk hacc => ?_
    have e0 : acc.toList.length = acc.size := by simp
    refine hQ acc.toList _ (I.kept (t' := tk) hk) (vals_of_at (by rw [List.length_map, e0, hacc.1, hl]) fun j x w h1 h2 => ?_)
    obtain ⟨k, y, hky, hi⟩ := hacc.2 j w (by rw [← Array.getElem?_toList]; exact h2)
    have e1 : (kvs.map (·.1))[j]? = some k := by
      rw [KV.keys rel, List.getElem?_map, hky]
      rfl
    rw [List.getElem?_map] at e1 h1
    cases ek : kvs[j]? with
    | none => rw [ek] at e1; cases e1
    | some q =>
      rw [ek] at e1 h1
      cases e1
      cases h1
      exact rel_ok hi
  unfold PySem.W.StarOf notIterableAtAll
  exact wpAny_bind (wpAny_specialOf dd.typeIs PySem.F.slot_dict_iter.lookup (wpAny_pure ⟨rfl, run⟩))
theorem pa_starO {e : Expr} {es : List Expr} {te : TE} {t : TA} {p : Pos} (hc : X.calm = true) (he : PE X e te) (hr : PA X es t) (hs : starEach (.Starred e p :: es) X.env = (true, eval e X.env) :: starEach es X.env := by rfl) : PA X (.Starred e p :: es) (tStarO X.prog X.w te t) := by
  refine ⟨fun pos pins s σ H Q I h => ?_⟩
  refine PySem.W.items_star (thn (he.run pins s σ H _ I h) fun v s1 hq => ?_) hs
  obtain ⟨y, H1, I1, ry, a, ey, q⟩ := hq
  subst ey
  obtain rfl : v = Value.ref a := ry
  rcases q with ⟨kvs, hx, q⟩ | ⟨kvs, hx, q⟩
  · refine star_dict hc I1 hx fun us s2 I2 rv => ?_
    exact thn (hr.run pos pins s2 σ H1 _ I2 q) fun ws s3 hq => by
      obtain ⟨vs, H3, I3, r3, q3⟩ := hq
      exact ⟨_, H3, I3, rv.append r3, q3⟩
  · refine star_ok hc I1 hx fun us s2 I2 rv => ?_
    exact thn (hr.run pos pins s2 σ H1 _ I2 q) fun ws s3 hq => by
      obtain ⟨vs, H3, I3, r3, q3⟩ := hq
      exact ⟨_, H3, I3, rv.append r3, q3⟩
end
end Ux

set_option Elab.async false
set_option linter.all false
set_option maxRecDepth 100000
set_option maxHeartbeats 4000000
set_option pp.maxSteps 400
/-! lambdas held as values where the table of code objects tells several names (a nested def beside them) -/
namespace Ux
open PySem PySem.Spec PyProof.Rows L2 LamX NdefX
section
variable {X : Cx} {pins : List (Addr × Obj)} {σ : L2.St} {H : Hp} {s : Shared}
def tLamVN (T : List NTab) (cl : List (Str × Addr)) (q : Str) (d : LamD) : TE := fun σ H Q => TabsN T H ∧ ∀ (H1 : Hp) (f c' : Addr), ExtN H H1 → TabsN T H1 → LamAt cl q H1 d f c' → Q (.ref f) H1
theorem pe_lamVN {T : List NTab} {nm : Nat → Nat → Str} {c P : Addr} {params : Arguments} {body : Expr} {scope : Scope} {lpos : Pos} (t : XK → TE) (TB : TabB X.base X.mg c P) (hcode : X.env.code = .ref c)
    (hm : (P, nm) ∈ T) (hn : nm lpos.line lpos.col = X.env.qual ++ "<lambda>") (hu : ∀ p ∈ T, p.1 = P → p.2 = nm) (L : LamS X.env.scope scope) (hdef : defaultsOf params X.env = ([], [])) :
    PE X (.Lambda params body scope lpos) (tLamVN T X.env.cells (X.env.qual ++ "<lambda>") ⟨params, body, scope, t⟩) := by
  refine ⟨fun pins s σ H Q I h => ?_⟩
  obtain ⟨hT, h⟩ := h
  obtain ⟨ps, hP, htr, ha⟩ := (show TabN H P nm from hT _ hm)
  refine PySem.W.kla_eval hdef ?_
  have bP := TB.bm.keeps I.bk
  have hP2 : s.heap.get? P = some { cls := .none, data := .fields ps } := I.hok P _ hP
  have fin : ∀ (f c' : Addr) (H1 : Hp) (s' : Shared), Inv X pins σ H1 s' → ExtN H H1 → TabsN T H1 → LamAt X.env.cells (X.env.qual ++ "<lambda>") H1 ⟨params, body, scope, t⟩ f c' → ∃ (v : V) (H' : Hp), Inv X pins σ H' s' ∧ L2.RelV v (.ref f) ∧ Q v H' :=
    fun f c' H1 s' I1 e1 t1 l1 => ⟨.ref f, H1, I1, rfl, h H1 f c' e1 t1 l1⟩
  cases hcd : codeAmong lpos ps.toList with
  | none =>
    refine PySem.W.kla_makeFunction (mg := X.mg) (c := c) (P := P) (ps := ps) (closure_ok (L.has I.ok)) I.ok.glob (I.mod.glob.keeps I.bk) hcode (TB.code.keeps I.bk) hP2 htr hcd TB.gP bP fun c' ctv h' tk hx hge hlt hrec htb => ?_
    obtain ⟨c2, oc, vs, tok, e2, hoc, hd, hv⟩ := hrec
    cases e2
    have nC : H c' = none := I.hok.fresh hge
    have I1 := inv_table (t' := s.toks) (more := #[rawInt lpos.line, rawInt lpos.col, .ref c']) (h' := h') I hP (fun b o hb e => hx b o hb e) htb hge ⟨oc, vs, tok, hoc, hd, hv⟩
    have I2 := lam_track (tk := tk) (d := ⟨params, body, scope, t⟩) (c' := c') (pm := (X.mg "__name__").getD .none) (ctv := ctv) (q := X.env.qual ++ "<lambda>") (cl := X.env.cells) I1 rfl
    have hE : ExtN H (upd (upd H P (.tbl (ps ++ #[rawInt lpos.line, rawInt lpos.col, .ref c']))) c' (CodeO c' (X.env.qual ++ "<lambda>"))) := fun b o e n => by
      have b1 := ne_of_none e nC
      have b2 : b ≠ P := fun z => n ps (by rw [z, hP] at e; exact (Option.some.inj e).symm)
      rw [upd_ne b1, upd_ne b2, e]
    have eL : (ps ++ #[rawInt lpos.line, rawInt lpos.col, .ref c']).toList = ps.toList ++ [rawInt lpos.line, rawInt lpos.col, .ref c'] := by simp
    have nF : (upd (upd H P (.tbl (ps ++ #[rawInt lpos.line, rawInt lpos.col, .ref c']))) c' (CodeO c' (X.env.qual ++ "<lambda>"))) h'.objs.size = none := I1.hok.fresh (Nat.le_refl _)
    have T1 : TabsN T (upd (upd H P (.tbl (ps ++ #[rawInt lpos.line, rawInt lpos.col, .ref c']))) c' (CodeO c' (X.env.qual ++ "<lambda>"))) := fun p hp => by
      by_cases hb : p.1 = P
      · have hq := hu p hp hb
        rw [hq, hb]
        refine ⟨_, (upd_ne (ne_of_none hP nC)).trans upd_same, eL ▸ PySem.TriplesOk_snoc _ _ _ _ htr, fun p' cv hcv => ?_⟩
        rw [eL] at hcv
        rcases among_app2 _ htr hcv with z | ⟨z, z1, z2⟩
        · obtain ⟨c0, w1, w2⟩ := ha p' cv z
          exact ⟨c0, w1, hE _ _ w2 codeO_ne⟩
        · refine ⟨c', z, ?_⟩
          rw [← z1, ← z2, hn]
          exact upd_same
      · obtain ⟨ps', a1, a2, a3⟩ := hT p hp
        refine ⟨ps', ((upd_ne (ne_of_none a1 nC)).trans (upd_ne hb)).trans a1, a2, fun p' cv hcv => ?_⟩
        obtain ⟨c0, w1, w2⟩ := a3 p' cv hcv
        exact ⟨c0, w1, hE _ _ w2 codeO_ne⟩
    have sm : ∀ b o, (upd (upd H P (.tbl (ps ++ #[rawInt lpos.line, rawInt lpos.col, .ref c']))) c' (CodeO c' (X.env.qual ++ "<lambda>"))) b = some o → (upd (upd (upd H P (.tbl (ps ++ #[rawInt lpos.line, rawInt lpos.col, .ref c']))) c' (CodeO c' (X.env.qual ++ "<lambda>"))) h'.objs.size (LamO X.env.cells (X.env.qual ++ "<lambda>") ⟨params, body, scope, t⟩ h'.objs.size c')) b = some o :=
      fun b o e => (upd_ne (ne_of_none e nF)).trans e
    exact fin _ c' _ _ I2 (hE.trans (ExtN.of sm)) (T1.ext sm) ⟨upd_same, sm _ _ upd_same⟩
  | some cv =>
    obtain ⟨c', e, hco⟩ := ha lpos cv hcd
    subst e
    rw [hn] at hco
    refine PySem.W.kla_makeFunctionHit (mg := X.mg) (c := c) (P := P) (ps := ps) (closure_ok (L.has I.ok)) I.ok.glob (I.mod.glob.keeps I.bk) hcode (TB.code.keeps I.bk) hP2 htr hcd bP fun ctv h' tk hx hsz => ?_
    have I1 : Inv X pins σ H { s with heap := h', toks := s.toks } := I.kept hx
    have I2 := lam_track (tk := tk) (d := ⟨params, body, scope, t⟩) (c' := c') (pm := (X.mg "__name__").getD .none) (ctv := ctv) (q := X.env.qual ++ "<lambda>") (cl := X.env.cells) I1 rfl
    have nF : H h'.objs.size = none := I1.hok.fresh (Nat.le_refl _)
    have sm : ∀ b o, H b = some o → (upd H h'.objs.size (LamO X.env.cells (X.env.qual ++ "<lambda>") ⟨params, body, scope, t⟩ h'.objs.size c')) b = some o := fun b o e => (upd_ne (ne_of_none e nF)).trans e
    exact fin _ c' _ _ I2 (ExtN.of sm) (hT.ext sm) ⟨upd_same, sm _ _ hco⟩
def tLamVEN (Tb : List NTab) (cl : List (Str × Addr)) (q : Str) (d : LamE) : TE := fun σ H Q => TabsN Tb H ∧ ∀ (H1 : Hp) (f c' T : Addr), ExtN H H1 → TabsN Tb H1 → LamAtE cl q H1 d f c' T → Q (.ref f) H1
/-- lambda x = e: body, where e is plain -/
theorem pe_lamVEN {Tb : List NTab} {nm : Nat → Nat → Str} {c P : Addr} {params : Arguments} {body e : Expr} {scope : Scope} {lpos : Pos} {dv : V} (t : XK → TE) (x : Str) (TB : TabB X.base X.mg c P) (hcode : X.env.code = .ref c)
    (hm : (P, nm) ∈ Tb) (hn : nm lpos.line lpos.col = X.env.qual ++ "<lambda>") (hu : ∀ p ∈ Tb, p.1 = P → p.2 = nm) (L : LamSE X.N X.env.scope scope x) (hdef : defaultsOf params X.env = ([eval e X.env], [])) (hk : params.kwonlyargs = []) (he : PE X e (tC dv)) :
    PE X (.Lambda params body scope lpos) (tLamVEN Tb X.env.cells (X.env.qual ++ "<lambda>") ⟨params, body, scope, t, x, dv⟩) := by
  refine ⟨fun pins s0 σ H0 Q I0 h => ?_⟩
  obtain ⟨hT0, h⟩ := h
  refine ld_eval hdef hk (wpAny_mono (he.run pins s0 σ H0 (fun v H1 => v = dv ∧ H1 = H0) I0 ⟨rfl, rfl⟩) (fun u sa hq => ?_) fun e' s' hx => hx)
  obtain ⟨v, Ha, Ia, rv, ev, eH⟩ := hq
  subst ev
  rw [eH] at Ia
  have nT : H0 sa.heap.objs.size = none := Ia.hok.fresh (Nat.le_refl _)
  have I := Ia.laid (a := sa.heap.objs.size) (o := .tup [v]) (h' := sa.heap.push { cls := .type "tuple", data := .seq #[u] }) (t' := sa.toks) (fun b w e => Heap.get?_push_of_some _ e) (Nat.le_refl _)
    ⟨(by show 1 ≤ sizeLine; decide), [u], .cons rv .nil, _, Heap.get?_push_size _ rfl, rfl, 0, rfl⟩
  have sT : ∀ b o, H0 b = some o → (upd H0 sa.heap.objs.size (.tup [v])) b = some o := fun b o e => (upd_ne (ne_of_none e nT)).trans e
  have dT : (upd H0 sa.heap.objs.size (.tup [v])) sa.heap.objs.size = some (.tup [v]) := upd_same
  have hT := hT0.ext sT
  generalize hTT : sa.heap.objs.size = TT at *
  generalize hH : upd H0 TT (.tup [v]) = H at *
  obtain ⟨ps, hP, htr, ha⟩ := (show TabN H P nm from hT _ hm)
  have bP := TB.bm.keeps I.bk; have hP2 := I.hok P _ hP
  have fin : ∀ (f c' : Addr) (H1 : Hp) (s' : Shared), Inv X pins σ H1 s' → ExtN H H1 → TabsN Tb H1 → LamAtE X.env.cells (X.env.qual ++ "<lambda>") H1 ⟨params, body, scope, t, x, v⟩ f c' TT → ∃ (v : V) (H' : Hp), Inv X pins σ H' s' ∧ L2.RelV v (.ref f) ∧ Q v H' :=
    fun f c' H1 s' I1 e1 t1 l1 => ⟨.ref f, H1, I1, rfl, h H1 f c' TT ((ExtN.of sT).trans e1) t1 l1⟩
  cases hcd : codeAmong lpos ps.toList with
  | none =>
    refine ld_miss (mg := X.mg) (c := c) (P := P) (ps := ps) (closure_ok (L.has I.ok)) I.ok.glob (I.mod.glob.keeps I.bk) hcode (TB.code.keeps I.bk) hP2 htr hcd TB.gP bP fun c' ctv h' tk hx hge hlt hrec htb => ?_
    obtain ⟨c2, oc, vs, tok, e2, hoc, hd, hv⟩ := hrec
    cases e2
    have nC : H c' = none := I.hok.fresh hge; have I1 := inv_table (t' := sa.toks) (more := #[rawInt lpos.line, rawInt lpos.col, .ref c']) (h' := h') I hP (fun b o hb e => hx b o hb e) htb hge ⟨oc, vs, tok, hoc, hd, hv⟩
    have I2 := lam_trackE (tk := tk) (d := ⟨params, body, scope, t, x, v⟩) (c' := c') (T := TT) (pm := (X.mg "__name__").getD .none) (ctv := ctv) (q := X.env.qual ++ "<lambda>") (cl := X.env.cells) I1 rfl
    have hE : ExtN H (upd (upd H P (.tbl (ps ++ #[rawInt lpos.line, rawInt lpos.col, .ref c']))) c' (CodeO c' (X.env.qual ++ "<lambda>"))) := fun b o e n => by
      have b1 := ne_of_none e nC
      have b2 : b ≠ P := fun z => n ps (by rw [z, hP] at e; exact (Option.some.inj e).symm)
      rw [upd_ne b1, upd_ne b2, e]
    have eL : (ps ++ #[rawInt lpos.line, rawInt lpos.col, .ref c']).toList = ps.toList ++ [rawInt lpos.line, rawInt lpos.col, .ref c'] := by simp
    generalize hHc : upd (upd H P (.tbl (ps ++ #[rawInt lpos.line, rawInt lpos.col, .ref c']))) c' (CodeO c' (X.env.qual ++ "<lambda>")) = Hc at *
    have nF : Hc h'.objs.size = none := I1.hok.fresh (Nat.le_refl _)
    have cC : Hc c' = some (CodeO c' (X.env.qual ++ "<lambda>")) := by rw [← hHc]; exact upd_same
    have T1 : TabsN Tb Hc := fun p hp => by
      by_cases hb : p.1 = P
      · rw [hu p hp hb, hb]
        refine ⟨ps ++ #[rawInt lpos.line, rawInt lpos.col, .ref c'], by rw [← hHc]; exact (upd_ne (ne_of_none hP nC)).trans upd_same, eL ▸ PySem.TriplesOk_snoc _ _ _ _ htr, fun p' cv hcv => ?_⟩
        rw [eL] at hcv
        exact (among_app2 _ htr hcv).elim (fun z => let ⟨c0, w1, w2⟩ := ha p' cv z; ⟨c0, w1, hE _ _ w2 codeO_ne⟩) fun ⟨z, z1, z2⟩ => ⟨c', z, by rw [← z1, ← z2, hn]; exact cC⟩
      · obtain ⟨ps', a1, a2, a3⟩ := hT p hp; refine ⟨ps', by rw [← hHc]; exact ((upd_ne (ne_of_none a1 nC)).trans (upd_ne hb)).trans a1, a2, fun p' cv hcv => ?_⟩
        exact let ⟨c0, w1, w2⟩ := a3 p' cv hcv; ⟨c0, w1, hE _ _ w2 codeO_ne⟩
    have sm : ∀ b o, Hc b = some o → (upd Hc h'.objs.size (LamOE X.env.cells (X.env.qual ++ "<lambda>") ⟨params, body, scope, t, x, v⟩ h'.objs.size c' TT)) b = some o := fun b o e => (upd_ne (ne_of_none e nF)).trans e
    exact fin _ c' _ _ I2 (hE.trans (ExtN.of sm)) (T1.ext sm) ⟨upd_same, sm _ _ cC, sm _ _ (hE _ _ dT fun _ z => by cases z)⟩
  | some cv =>
    obtain ⟨c', e, hco⟩ := ha lpos cv hcd
    subst e
    rw [hn] at hco
    refine ld_hit (mg := X.mg) (c := c) (P := P) (ps := ps) (closure_ok (L.has I.ok)) I.ok.glob (I.mod.glob.keeps I.bk) hcode (TB.code.keeps I.bk) hP2 htr hcd bP fun ctv h' tk hx hsz => ?_
    have I1 : Inv X pins σ H { sa with heap := h', toks := sa.toks } := I.kept hx
    have I2 := lam_trackE (tk := tk) (d := ⟨params, body, scope, t, x, v⟩) (c' := c') (T := TT) (pm := (X.mg "__name__").getD .none) (ctv := ctv) (q := X.env.qual ++ "<lambda>") (cl := X.env.cells) I1 rfl
    have nF : H h'.objs.size = none := I1.hok.fresh (Nat.le_refl _)
    have sm : ∀ b o, H b = some o → (upd H h'.objs.size (LamOE X.env.cells (X.env.qual ++ "<lambda>") ⟨params, body, scope, t, x, v⟩ h'.objs.size c' TT)) b = some o := fun b o e => (upd_ne (ne_of_none e nF)).trans e
    exact fin _ c' _ _ I2 (ExtN.of sm) (hT.ext sm) ⟨upd_same, sm _ _ hco, sm _ _ dT⟩
end
end Ux

set_option Elab.async false
set_option linter.all false
set_option maxRecDepth 100000
set_option maxHeartbeats 4000000
set_option pp.maxSteps 400
/-! a def nested in a def, called by that def's lambdas; the lambdas called by another def -/
namespace Ux
open PySem PySem.Spec PyProof.Rows L2 LamX NdefX
section
variable {X : Cx} {pins : List (Addr × Obj)} {σ : L2.St} {H : Hp} {s : Shared} {cl : List (Str × Addr)} {fr : List Str} {ws : List (Option V)} {js : List Nat}
theorem cells_un {fs : List Addr} {h h' : Heap} {H H' : Hp} (C : CellsAt cl fr ws h H) (un : Un fs [] H H' h h') : CellsAt cl fr ws h' H' := by
  have kp : ∀ {c : Addr} {v : Option Value}, H c = none → h.IsCell c v → h'.IsCell c v := fun {c v} n ⟨o, ho, hd⟩ => by
    obtain ⟨sl, q⟩ := un.any ho n (by simp)
    exact ⟨_, q, hd⟩
  refine ⟨C.len, fun y c e => ?_, C.inj, fun i y e => ?_⟩
  · obtain ⟨n, v, z⟩ := C.all y c e
    refine ⟨?_, v, kp n z⟩
    obtain ⟨o, ho, _⟩ := z
    exact un.free c o ho n (by simp)
  · obtain ⟨c, hc, hv⟩ := C.has i y e
    refine ⟨c, hc, fun v ev => ?_⟩
    obtain ⟨u, r, z⟩ := hv v ev
    exact ⟨u, r, kp (C.all y c hc).1 z⟩
/-- f(..), f a name that holds a function made here; what its cells held at the frame's entry is told -/
theorem pe_callnC {CX : CXT} {mk : Addr → NF} {ps : List Str} {i j k : Nat} {x : Str} {sp : Addr → Addr → List (Option V) → Sp} {E : XK} {t : TA} {e : Expr} {es : List Expr} {p pos : Pos}
    (Fn : ∀ f c', NOk X.prog X.w X.K X.mg X.base CX k f (mk c') ps fr (sp f c')) (hcl : ∀ c', (mk c').cl = cl) (C0 : CellsAt cl fr ws X.s_0.heap X.H_0) (nx : X.ex = []) (hr : Room j X.A) (hk : k ≤ j) (hx : Passes CX X E) (hN : X.N[i]? = some x) (hv : Vis X.env.scope x) (ha : PA X (e :: es) t)
    (hd : (x == ("__debug__" : Str)) = false := by decide) (hcd : (x == ("__classdict__" : Str)) = false := by decide)
    (he : starEach (e :: es) X.env = (false, eval e X.env) :: starEach es X.env := by rfl) (hpl : (backTo pos (starEach es X.env)).any (·.1) = false := by rfl) :
    PE X (.Call (.Name x p) (e :: es) [] pos) (fun σ H Q => js.map (slotAt σ) = ws ∧ tCallN mk i js sp E t σ H Q) := by
  refine ⟨fun pins s σ H Q I h => ?_⟩
  obtain ⟨ej, f, c', hs, hf, ht⟩ := h
  refine wpAny_Call_Name_kw (thn ((pe_var (pos := p) hN hv hd hcd).run pins s σ H (fun v H1 => v = .ref f ∧ H1 = H) I ⟨.ref f, hs, rfl, rfl⟩) fun u s1 ⟨v, H1, I1, r1, q1⟩ => ?_)
  obtain ⟨ev, eH⟩ := q1
  subst ev
  rw [eH] at I1
  obtain rfl : u = Value.ref f := r1
  refine PySem.W.callWith_F (first := []) (fnAt_of I1 hf) (thn (ha.run pos pins s1 σ H _ I1 ht) fun us s2 ⟨vs, H2, I2, r, h1, h2, q⟩ => ⟨fnAt_of I2 h1, ?_⟩) he hpl
  show wpAny _ _ (call (.ref f) us) _ _ _
  refine run_n (Fn f c') hr hk hx I2 h1 h2 ?_ r q
  rw [hcl c', ej]
  have un := I2.base
  rw [nx] at un
  exact cells_un C0 un
/-- what is asked of a lambda that calls a nested def -/
structure LamOkC (X : Cx) (k : Nat) (cl : List (Str × Addr)) (fr : List Str) (js : List Nat) (d : LamD) : Prop where
  L : LamS X.env.scope d.scope
  bind : ∀ (q : Str) (cl : List (Str × Addr)) (pm cv ctv : Value), bindArgs (PySem.W.kla_fn "<lambda>" q d.params d.body d.scope cl pm cv ctv) ⟨[], []⟩ = pure []
  body : ∀ (A : Around) (outer : List Env) (s : Shared) (H : Hp) (E : XK) (f c' : Addr) (ws : List (Option V)), Room k (A.deeper (lamEnv X d.scope s.heap.objs.size f c')) → CellsAt cl fr ws s.heap H →
    PE (lamCx X A outer s H E d.scope f c') d.body (fun σ H Q => js.map (slotAt σ) = ws ∧ d.t E σ H Q)
/-- x() in the def that got it, the function object told -/
theorem pe_actVC {CXg : CXT} {Eg : XK} {Ng : List Str} {qg : Str} {sg : Scope} {g f c' : Addr} {cdg : Value} {k i : Nat} {a : Str} {pn : List (Addr × Obj)} {xe : Value → Shared → Prop} {W : WX} {E : XK} {d : LamD} {p1 p2 : Pos}
    (I : Inv X pins σ H s) (D : LamOkC X k cl fr js d) (C0 : CellsAt cl fr (js.map (slotAt σ)) s.heap H) (tk : Takes ((cxOf CXg X.prog X.w X.K X.mg X.base Ng qg sg g cdg X.A X.stack s H Eg).tr pn xe) W) (hW : ∀ cls dd σ' H', E cls dd H' → W cls dd σ' H')
    (hr : Room (k + 1) (X.A.deeper (envOfC qg sg s.heap.objs.size g cdg))) (hN : Ng[i]? = some a) (hv : Vis sg a) (hd : (a == ("__debug__" : Str)) = false := by decide) (hcd : (a == ("__classdict__" : Str)) = false := by decide) :
    PE ((cxOf CXg X.prog X.w X.K X.mg X.base Ng qg sg g cdg X.A X.stack s H Eg).tr pn xe) (.Call (.Name a p1) [] [] p2)
      (fun σZ HZ Q => σZ[i]? = some (some (.ref f)) ∧ HZ c' = some (CodeO c' (X.env.qual ++ "<lambda>")) ∧ HZ f = some (LamO X.env.cells (X.env.qual ++ "<lambda>") d f c') ∧ d.t E σ HZ Q) := by
  refine ⟨fun pinsZ sZ σZ HZ Q IZ h => ?_⟩
  obtain ⟨hs, hc, hf, ht⟩ := h
  refine wpAny_Call_Name_kw (thn ((pe_var (pos := p1) (i := i) hN hv hd hcd).run pinsZ sZ σZ HZ (fun v H1 => v = .ref f ∧ H1 = HZ) IZ ⟨.ref f, hs, rfl, rfl⟩) fun u s1 ⟨v, H1, I1, r1, q1⟩ => ?_)
  obtain ⟨rfl, eH⟩ := q1
  rw [eH] at I1
  obtain rfl : u = Value.ref f := r1
  obtain ⟨⟨pm, ctv, of1⟩, _, _⟩ := I1.hok f _ hf
  refine PySem.W.callWith_F0 ⟨_, _, _, _, of1⟩ ?_
  have un : Un (frs X.stack) [] H HZ s.heap s1.heap := I1.base
  obtain ⟨⟨oc, vs, tok, hoc, hdc, hvc⟩, _, _⟩ := I1.hok c' _ hc
  have rc : codeAny (model X.prog X.w) (X.A.deeper (envOfC qg sg s.heap.objs.size g cdg)) (.call (.ref f) ⟨[], []⟩) (CR (L2.CX X.prog X.w) (envOfC qg sg s.heap.objs.size g cdg :: X.stack) X.prog X.w HZ s1 Q E) s1 := by
    refine PySem.W.kla_callFunE hr.depth of1 rfl D.L.co D.L.gen rfl ⟨c', oc, vs, tok, rfl, hoc, hdc, hvc⟩ ?_
    rw [D.bind]
    refine wpAny_pure (wpAny_newFunctionEnv (fun y hy => (D.L.own y hy).2) (fun y hy => absurd hy (by simp)) (fun h₁ hns hsb => ⟨I1.nolimit.fresh _ hsb, ?_⟩) D.L.kind)
    show codeAny _ _ (.expr d.body (lamEnv X d.scope s1.heap.objs.size f c')) _ _
    have kp2 : ∀ b o, s1.heap.get? b = some o → h₁.get? b = some o := fun b o e => hsb.extBut b o (Nat.ne_of_lt (Heap.lt_size e)) (Heap.get?_push_of_some _ e)
    have J : Inv (lamCx X (X.A.deeper (envOfC qg sg s.heap.objs.size g cdg)) (envOfC qg sg s.heap.objs.size g cdg :: X.stack) s1 HZ E d.scope f c') [] σ HZ { s1 with heap := h₁, toks := s1.toks + ([] : List (Str × Value)).length } := lam_start2 I D.L I1.env0 hr.hd un hns kp2
    refine PySem.W.kla_codeExpr (wpAny_mono ((D.body _ _ s1 HZ E f c' _ (hr.deeper _) (cells_un C0 un)).run [] _ _ HZ Q J ⟨rfl, ht⟩) (fun v s' ⟨w', H', J', rv, q⟩ => ⟨w', H', J'.os, J'.bare, J'.base, J'.hok, rv, q⟩) fun e s' hq => hq)
  have hx : Passes (L2.CX X.prog X.w) ((cxOf CXg X.prog X.w X.K X.mg X.base Ng qg sg g cdg X.A X.stack s H Eg).tr pn xe) E := passes_call tk hW
  refine wpAny_call (codeAny_mono rc fun r s' hq => ?_)
  rcases r with e | (_ | _ | _ | u)
  · exact hx pinsZ σZ HZ s1 e s' I1 hq
  · exact False.elim hq
  · exact False.elim hq
  · exact False.elim hq
  · exact I1.after hq
/-- x(y), where y is one of some lambdas -/
theorem pe_lamvalC {ds : List LamD} {te : TE} {TT : (XK → Hp → VK → Prop) → Hp → VK → Prop} {x a y : Str} {g : Addr} {k : Nat} {pg : Arguments} {bg : List Stmt} {sg : Scope} {dV kV doc pm cdv ct oc : Value} {an od : Option Addr} {osl : Array (Option Value)} {Ng : List Str} {p py pos : Pos}
    (hg : Gl X x) (hm : X.mg x = some (.ref g)) (hk : PySem.W.keepIn X.K (.ref g) = true) (lk : X.K.lookup g = some ⟨oc, od, .func (PySem.W.fnOf x x pg bg sg dV kV doc pm an cdv ct), osl⟩) (hcg : PySem.W.codeIn X.K cdv x = true)
    (hb : L2.Binds X.K (PySem.W.fnOf x x pg bg sg dV kV doc pm an cdv ct) [a] []) (Sg : FnScope Ng [a] sg) (hNg : Ng[0]? = some a) (hva : Vis sg a) (hG : GivesTo X Ng x sg g cdv bg a (X.env.qual ++ "<lambda>") TT) (hr : Room (k + 2) X.A)
    (hds : ∀ d ∈ ds, LamOkC X k cl fr js d) (cp : X.Ok → Caps X cl fr js) (he : PE X (.Name y py) te) (hdb : (x == ("__debug__" : Str)) = false := by decide) (hd : (a == ("__debug__" : Str)) = false := by decide) (hcd : (a == ("__classdict__" : Str)) = false := by decide) :
    PE X (.Call (.Name x p) [.Name y py] [] pos) (tLamCall X.env.cells (X.env.qual ++ "<lambda>") TT ds te) := by
  refine ⟨fun pins s σ H Q I h => ?_⟩
  refine wpAny_Call_Name_kw (ld_glob I hg hm ?_ hdb)
  refine PySem.W.callWith_K (h₀ := X.base) I.ok.mod.kin hk ?_ (by rfl) (by rfl)
  show wpAny _ _ (spliced ((false, eval (.Name y py) X.env) :: backTo pos (starEach [] X.env))) _ _ s
  refine Calls.spliced_cons (thn (he.run pins s σ H _ I h) fun u s' ⟨v, H1, I1, rv, hq⟩ => ?_)
  obtain ⟨f, c', d, hmem, rfl, la, htt⟩ := hq
  obtain rfl : u = Value.ref f := rv
  refine Calls.spliced_nil ⟨I1.kIn, ?_⟩
  have rc : codeAny (model X.prog X.w) X.A (.call (.ref g) ⟨[.ref f], []⟩) (CR C8.CX0 X.stack X.prog X.w H1 s' Q C8.E0) s' := by
    refine run_ofS (N := Ng) (ps := [a]) (us := [.ref f]) (vs := [.ref f]) lk hcg Sg hr I1.env0 (hb s' [.ref f] I1.kIn rfl) (.cons rfl .nil) rfl fun hr2 => ?_
    obtain ⟨t', ht', hq'⟩ := hG f c' s' H1 Q (fun E H' Q' => H' f = some (LamO X.env.cells (X.env.qual ++ "<lambda>") d f c') ∧ d.t E σ H' Q') (fun W pn xe E p1 p2 tk hW => pe_actVC (i := 0) I1 (hds d hmem) (cells_of I1 (cp I1.ok)) tk hW hr2 hNg hva hd hcd) la.co htt
    exact ⟨t', ht'.nox, hq'⟩
  refine wpAny_call (codeAny_mono rc fun r s2 hq => ?_)
  rcases r with e | (_ | _ | _ | u)
  · exact (show False from hq).elim
  · exact False.elim hq
  · exact False.elim hq
  · exact False.elim hq
  · exact I1.after hq
end
end Ux

set_option Elab.async false
set_option linter.all false
set_option maxRecDepth 100000
set_option maxHeartbeats 4000000
set_option pp.maxSteps 300
/-! two promises of one def in one -/
namespace Ux
open PySem PySem.Spec PyProof.Rows L2
section
variable {P : Program} {w : World} {K : PySem.W.Frag} {mg : Str → Option Value} {base : Heap} {CX : CXT} {j k : Nat} {f : Addr} {fd : FuncData} {ps : List Str} {sp sp1 sp2 : Sp}
theorem fn_up (F : FnOk P w K mg base CX0 k f fd ps sp) : FnOk P w K mg base CX k f fd ps sp :=
  ⟨F.len, fun A outer s H args us vs Q E hr he hb hv hs => codeAny_mono (F.run A outer s H args us vs Q E hr he hb hv hs) fun r s' hq => by
    cases r with
    | error e => exact False.elim hq
    | ok fl => cases fl <;> exact hq⟩
theorem fn_or (F : FnOk P w K mg base CX k f fd ps sp1) (G : FnOk P w K mg base CX k f fd ps sp2) : FnOk P w K mg base CX k f fd ps (fun vs H Q E => sp1 vs H Q E ∨ sp2 vs H Q E) :=
  ⟨fun vs H Q E h => h.elim (F.len vs H Q E) (G.len vs H Q E), fun A outer s H args us vs Q E hr he hb hv hs => hs.elim (F.run A outer s H args us vs Q E hr he hb hv) (G.run A outer s H args us vs Q E hr he hb hv)⟩
end
end Ux

set_option Elab.async false
set_option linter.all false
set_option maxRecDepth 100000
set_option maxHeartbeats 4000000
set_option pp.maxSteps 300
/-! raise C(e, ..), C an own class below any base (LookupError too) -/
namespace Ux
open PySem PySem.Spec PyProof.Rows L2
section
variable {X : Cx} {e : Expr} {es : List Expr} {ta : TA} {p pos : Pos} {B newId initId : String} {bmB : List Value}
theorem pmk_ec {CX : CXT} {x : Str} {C fI : Addr} {k : Nat} {fd : FuncData} {ps : List Str} {sp : Sp} {ds : List Value} {dvs : List V} (T : Ec X.K B newId initId bmB C) (tC : PySem.W.typeIn X.K (.ref C) = some (.type "type")) (iC : PySem.W.findIn X.K (.ref C) "__init__" = some (some (.ref fI))) (tI : PySem.W.typeIn X.K (.ref fI) = some (.type "function"))
    (F1 : FnOk X.prog X.w X.K X.mg X.base CX k fI fd ps sp) (hr : Room (k + 1) X.A) (hb : Binds X.K fd ps ds) (hd : Vals dvs ds) (hx : Passes CX X (fun _ _ _ => False)) (hg : Gl X x) (hm : X.mg x = some (.ref C)) (ha : PA X (e :: es) ta)
    (hdb : (x == ("__debug__" : Str)) = false := by decide) (he : starEach (e :: es) X.env = (false, eval e X.env) :: starEach es X.env := by rfl) (hpl : (backTo pos (starEach es X.env)).any (·.1) = false := by rfl) :
    PMk X (.Call (.Name x p) (e :: es) [] pos) (tMkO C sp dvs ta) := by
  intro pins s σ H Q I h
  obtain ⟨nm, N, qn, bs, bm, hdct, sn, sub, ab, col, dd, k0, k1, k2, k3, k5, oc, hT⟩ := PySem.W.excInit_of I.kIn T.ini
  refine wpAny_Call_Name_kw (ld_glob I hg hm ?_ hdb)
  refine PySem.W.callWith_K (h₀ := X.base) I.ok.mod.kin T.kc (thn (ha.run pos pins s σ H _ I h) fun us s1 ⟨vs, H1, I1, r1, hz, q1⟩ => ⟨I1.kIn, ?_⟩) he hpl
  show wpAny _ _ (call (.ref C) us []) _ _ _
  obtain ⟨nm, N, qn, bs, bm, hdct, sn, sub, ab, col, dd, k0, k1, k2, k3, k5, oc, hT⟩ := PySem.W.excInit_of I1.kIn T.ini
  obtain ⟨hp, g, dr, tk, os⟩ := s1
  have hsz : hp.objs.size ≤ hp.objs.size + 1 := Nat.le_succ _
  have hn : H1 (hp.objs.size + 1) = none := I1.hok.fresh hsz
  have hq := q1 (hp.objs.size + 1) hn
  have kk : ∀ b o, hp.get? b = some o → ((hp.push (PySem.W.kdv_tup us)).push (PySem.W.excObj C hp.objs.size none .none)).get? b = some o := fun b o e => Heap.get?_push_of_some _ (Heap.get?_push_of_some _ e)
  have hget : ((hp.push (PySem.W.kdv_tup us)).push (PySem.W.excObj C hp.objs.size none .none)).get? (hp.objs.size + 1) = some (PySem.W.excObj C hp.objs.size none .none) := by heap_get
  have I2 : Inv X pins σ (upd H1 (hp.objs.size + 1) (exo (hp.objs.size + 1) C none)) ⟨(hp.push (PySem.W.kdv_tup us)).push (PySem.W.excObj C hp.objs.size none .none), g, dr, tk, os⟩ :=
    I1.laid (t' := tk) (a := hp.objs.size + 1) (o := exo (hp.objs.size + 1) C none) kk hsz (exo_ok hget)
  have r2 : Vals (V.ref (hp.objs.size + 1) :: (vs ++ dvs)) (Value.ref (hp.objs.size + 1) :: (us ++ ds)) := .cons rfl (r1.append hd)
  have hl : (Value.ref (hp.objs.size + 1) :: us ++ ds).length = ps.length := by
    have e := r2.length
    rw [F1.len _ _ _ _ hq] at e
    exact e.symm
  have hus : us.length ≤ sizeLine := by
    rw [← Paired.length r1, sizeLine_eq]
    omega
  refine wpAny_call (kw_call T.FB hT oc (PySem.W.looks_findIn I1.kIn iC) (fun self => PySem.W.bind_fn I1.kIn self tI) hus
    (codeAny_mono (F1.run _ X.stack _ _ ⟨Value.ref (hp.objs.size + 1) :: us, []⟩ (Value.ref (hp.objs.size + 1) :: (us ++ ds)) _ _ (fun _ _ _ => False) (hr.make C us []) (I2.env0.make C us []) (hb _ (Value.ref (hp.objs.size + 1) :: us) I2.kIn hl) r2 hq) fun r s' hq' => ?_))
  cases r with
  | error er => exact hx pins σ _ _ er s' I2 hq'
  | ok fl =>
    cases fl with
    | ret u =>
      obtain ⟨v, H2, os2, bare2, un2, hok2, rv, ev, d, fs, ea, ed, hd1, q2⟩ := hq'
      subst ev
      obtain ⟨h2, g2, d2, t2, os'⟩ := s'
      exact ⟨rv, mk_end (raises_own T.exC tC) I1 hsz kk un2 hok2 os2 bare2 ea ed hd1 q2⟩
    | next => exact False.elim hq'
    | brk => exact False.elim hq'
    | cont => exact False.elim hq'
end
end Ux

set_option Elab.async false
set_option linter.all false
set_option maxRecDepth 100000
set_option maxHeartbeats 4000000
namespace K09
open PySem PySem.Spec PyProof.Rows L2 Ux
def top (i : Nat) : Stmt := PySem.Challenge.pw_unseenslopes_k09_worlds_refused.main.body.getD i (.Pass ⟨0, 0, 0, 0⟩)
abbrev sBag : Stmt := top 50
abbrev sPull : Stmt := top 51
abbrev sOf : Stmt := top 52
abbrev sSame : Stmt := top 53
/-- the built-ins that the text calls still stand -/
structure Bn (mg : Str → Option Value) : Prop where
  isin : mg "isinstance" = none
  tstr : mg "str" = none
  tint : mg "int" = none
  tlist : mg "list" = none
  ttuple : mg "tuple" = none
  tbool : mg "bool" = none
  fabs : mg "abs" = none
  frepr : mg "repr" = none
  flen : mg "len" = none
  frange : mg "range" = none
  fzip : mg "zip" = none
  fall : mg "all" = none
  tve : mg "ValueError" = none
  tle : mg "LookupError" = none
def BagL (l : Addr) (p : Nat) (g s c : Int) : List V := [.ref l, .int p, .int g, .int s, .int c]
/-- the bag of numbers at b, asked at most n times -/
structure BagAt (H : Hp) (b : Addr) (n : Nat) : Prop where
  ex : ∃ (l : Addr) (ns : List Int) (p : Nat) (g s c : Int), H b = some (.lst (BagL l p g s c)) ∧ H l = some (.lst (ns.map V.int)) ∧ b ≠ l ∧ 0 ≤ g ∧ 0 ≤ s ∧ s < 2147483549 ∧ 0 ≤ c ∧ c ≤ n
/-- all that was told stands, but what is at b -/
def But (b : Addr) (H H' : Hp) : Prop := ∀ x o, H x = some o → x ≠ b → H' x = some o
theorem But.refl {b : Addr} {H : Hp} : But b H H := fun _ _ h _ => h
theorem But.upd {b : Addr} {H H' : Hp} {o : HO} (h : But b H H') : But b H (upd H' b o) := fun x u e n => by
  rw [upd_ne n]
  exact h x u e n
theorem But.trans {b : Addr} {H H1 H2 : Hp} (h : But b H H1) (k : But b H1 H2) : But b H H2 := fun x o e n => k x o (h x o e n) n
/-- the list at b keeps its first item -/
def Hd (b : Addr) (H H' : Hp) : Prop := ∀ (l : Addr) (r : List V), H b = some (.lst (V.ref l :: r)) → ∃ r', H' b = some (.lst (V.ref l :: r'))
/-- all but b stands, and b keeps its first item -/
def Bt (b : Addr) (H H' : Hp) : Prop := But b H H' ∧ Hd b H H'
theorem Bt.trans {b : Addr} {H H1 H2 : Hp} (h : Bt b H H1) (k : Bt b H1 H2) : Bt b H H2 := ⟨h.1.trans k.1, fun l r e => by
  obtain ⟨r1, e1⟩ := h.2 l r e
  exact k.2 l r1 e1⟩
def spPull : Sp := fun vs H Q _ => ∃ (b : Addr) (m : Int) (n : Nat), vs = [.ref b, .int m] ∧ 0 < m ∧ m < 1073741824 ∧ BagAt H b n ∧ n ≤ 1000000000 ∧ ∀ (r : Int) (H' : Hp), 0 ≤ r → r < m → BagAt H' b (n + 1) → Bt b H H' → Q (.int r) H'
section
variable {P : Program} {w : World} {K : PySem.W.Frag} {mg : Str → Option Value} {base : Heap}
theorem scPull : FnScope ["_law_bag_here", "_law_many", "_law_cell", "_law_small", "_law_digit", "_law_seed", "_law_step"] ["_law_bag_here", "_law_many"] (defScope sPull) := ⟨rfl, rfl, rfl, by decide +kernel, rfl, by decide +kernel, by decide +kernel⟩
theorem ok_pull {f : Addr} {fd : FuncData} (F : Fun K "_law_pull" "_law_pull" sPull f fd) (T : Bn mg) : FnOk P w K mg base CX0 1 f fd ["_law_bag_here", "_law_many"] spPull := by
  refine F.ok scPull (fun vs H Q E h => ?_) (fun cdv A outer s H vs Q E hr h => ?_)
  · obtain ⟨b, m, n, rfl, _⟩ := h
    rfl
  · obtain ⟨b, m, n, rfl, m0, m1, ⟨l, ns, p, g, s', c, hb, hl, nbl, g0, s0, s1, c0, c1⟩, hn, k⟩ := h
    refine ⟨_, pss_cons (ps_asg (pe_op op_add (pe_ix ix_list (pv 0) pe_int (fun _ _ => rfl)) pe_int) (pg_sub (pv 0) pe_int set_list))
      (C8.pss_cut (ps_if (PW.pt (pw_and (pt_cmpR op_eq (pe_ix ix_list (pv 0) pe_int (fun _ _ => rfl)) pe_int (nomark _))
            (pw_and1 (pt_cmpR op_lt (pe_ix ix_list (pv 0) pe_int (fun _ _ => rfl)) (pe_callB call_len (by rfl) T.flen (by decide +kernel) (pa_cons (pe_ix ix_list (pv 0) pe_int (fun _ _ => rfl)) pa_nil)) (nomark _)))))
          (pss_cons (ps_set (i := 2) scPull.nd rfl (Or.inl rfl) (pe_ix ix_list (pe_ix ix_list (pv 0) pe_int (fun _ _ => rfl)) (pe_ix ix_list (pv 0) pe_int (fun _ _ => rfl)) (fun _ _ => rfl)))
          (pss_cons (ps_asg (pe_op op_add (pe_ix ix_list (pv 0) pe_int (fun _ _ => rfl)) pe_int) (pg_sub (pv 0) pe_int set_list))
          (pss_one (ps_if (pt_cmpR op_ge (pe_callB call_abs (by rfl) T.fabs (by decide +kernel) (pa_cons (pv 2) pa_nil)) (pe_op op_pow pe_int pe_int) (nomark _))
            (pss_one (ps_asg (pe_callB call_abs (by rfl) T.fabs (by decide +kernel) (pa_cons (pv 2) pa_nil)) (pg_sub (pv 0) pe_int set_list)))
            (pss_cons (ps_set (i := 3) scPull.nd rfl (Or.inl rfl) (pe_op op_add (pe_op op_mul (pe_op op_mod (pe_callTy call_int1 (by rfl) T.tint (by decide +kernel) (pa_cons (pv 2) pa_nil)) pe_int) pe_int) pe_int))
            (pss_one (ps_asg (pe_op op_mod (pe_callTy call_int1 (by rfl) T.tint (by decide +kernel) (pa_cons (pe_op op_add (pe_op op_mul (pe_ix ix_list (pv 0) pe_int (fun _ _ => rfl)) pe_int) (pv 3)) pa_nil)) pe_int) (pg_sub (pv 0) pe_int set_list))))))))
          pss_nil)
      (pss_cons (ps_if (pt_cmpR op_gt (pe_ix ix_list (pv 0) pe_int (fun _ _ => rfl)) pe_int (nomark _))
          (pss_cons (ps_set (i := 4) scPull.nd rfl (Or.inl rfl) (pe_op op_mod (pe_callTy call_int1 (by rfl) T.tint (by decide +kernel) (pa_cons (pe_ix ix_list (pv 0) pe_int (fun _ _ => rfl)) pa_nil)) (pv 1)))
          (pss_cons (ps_asg (pe_op op_fdiv (pe_ix ix_list (pv 0) pe_int (fun _ _ => rfl)) (pv 1)) (pg_sub (pv 0) pe_int set_list))
          (pss_one (ps_ret (pv 4))))) pss_nil)
      (pss_cons (ps_set (i := 5) scPull.nd rfl (Or.inl rfl) (pe_ix ix_list (pv 0) pe_int (fun _ _ => rfl)))
      (pss_cons (ps_set (i := 6) scPull.nd rfl (Or.inl rfl) (pe_op op_add (pe_op op_add (pe_op op_mul (pv 5) pe_int) (pe_op op_mul (pe_ix ix_list (pv 0) pe_int (fun _ _ => rfl)) pe_int)) pe_int))
      (pss_cons (ps_asg (pe_op op_mod (pe_callTy call_int1 (by rfl) T.tint (by decide +kernel) (pa_cons (pe_op op_add (pe_op op_mul (pe_op op_mul (pv 5) (pv 5)) pe_int) (pv 6)) pa_nil)) pe_int) (pg_sub (pv 0) pe_int set_list))
      (pss_one (ps_ret (pe_op op_mod (pe_callTy call_int1 (by rfl) T.tint (by decide +kernel) (pa_cons (pe_op op_add (pe_op op_fdiv (pe_ix ix_list (pv 0) pe_int (fun _ _ => rfl)) pe_int) (pe_op op_mul (pe_op op_mod (pe_callTy call_int1 (by rfl) T.tint (by decide +kernel) (pa_cons (pe_ix ix_list (pv 0) pe_int (fun _ _ => rfl)) pa_nil)) pe_int) pe_int)) pa_nil)) (pv 1))))))))), ?_⟩
    -- bag[4] = bag[4] + 1
    refine ⟨_, rfl, b, _, 4, _, rfl, rfl, .of hb, rfl, _, _, rfl, rfl, _, rfl, b, _, 4, 4, rfl, rfl, hb, rfl, ?_⟩
    have hb1 : upd H b (.lst (BagL l p g s' (c + 1))) b = some (.lst (BagL l p g s' (c + 1))) := upd_same
    have hl1 : upd H b (.lst (BagL l p g s' (c + 1))) l = some (.lst (ns.map V.int)) := (upd_ne (Ne.symm nbl)).trans hl
    have f1 : But b H (upd H b (.lst (BagL l p g s' (c + 1)))) := But.refl.upd
    -- the first if: the bag again
    refine ⟨fun σ H2 => ∃ (v2 v3 : Option V) (p : Nat) (g s : Int), σ = [some (.ref b), some (.int m), v2, v3, none, none, none] ∧ H2 b = some (.lst (BagL l p g s (c + 1))) ∧ H2 l = some (.lst (ns.map V.int)) ∧ 0 ≤ g ∧ 0 ≤ s ∧ s < 2147483549 ∧ But b H H2, ?_, ?_⟩
    · refine ⟨_, rfl, b, _, 2, _, rfl, rfl, .of hb1, rfl, rfl, _, rfl, ?_⟩
      by_cases hg : (V.int g) = V.int 0
      · rw [decide_eq_true hg]
        refine iteT ⟨_, rfl, b, _, 1, _, rfl, rfl, .of hb1, rfl, _, rfl, b, _, 0, _, rfl, rfl, .of hb1, rfl, _, _, rfl, .inl ⟨_, .of hl1, rfl⟩, _, _, rfl, rfl, _, rfl, ?_⟩
        by_cases hp : (p : Int) < ((ns.map V.int).length : Nat)
        · rw [decide_eq_true hp]
          have hp' : p < ns.length := by
            rw [List.length_map] at hp
            omega
          have hat : (ns.map V.int)[p]? = some (V.int ns[p]) := by
            rw [List.getElem?_map, List.getElem?_eq_getElem hp']
            rfl
          refine iteT ⟨_, rfl, b, _, 0, _, rfl, rfl, .of hb1, rfl, _, rfl, b, _, 1, _, rfl, rfl, .of hb1, rfl, l, _, _, _, rfl, rfl, .of hl1, atI_nat hat, ?_⟩
          refine ⟨_, rfl, b, _, 1, _, rfl, rfl, .of hb1, rfl, _, _, rfl, rfl, _, rfl, b, _, 1, 1, rfl, rfl, hb1, rfl, ?_⟩
          generalize ns[p] = z
          have hb2 : ∀ H2 : Hp, upd H2 b (.lst (BagL l (p + 1) g s' (c + 1))) b = some (.lst (BagL l (p + 1) g s' (c + 1))) := fun _ => upd_same
          refine ⟨_, rfl, _, rfl, _, _, rfl, rfl, ⟨by decide, by decide, by decide⟩, _, _, rfl, rfl, _, rfl, ?_⟩
          refine ite2 (fun big => ?_) (fun _ => ?_)
          · refine ⟨_, rfl, _, rfl, _, rfl, b, _, 2, 2, rfl, rfl, hb2 _, rfl, ?_⟩
            refine ⟨_, _, p + 1, _, s', rfl, upd_same, ?_, ?_, s0, s1, ((f1.upd).upd)⟩
            · rw [upd_ne (Ne.symm nbl), upd_ne (Ne.symm nbl)]
              exact hl1
            · show (0 : Int) ≤ if z < 0 then -z else z
              split <;> omega
          · refine ⟨_, rfl, .inl ⟨_, rfl, _, _, rfl, rfl, (by show (0 : Int) < 1000000007; decide), _, _, rfl, rfl, ?_, _, _, rfl, rfl, ?_⟩⟩
            · have q1 := Int.emod_nonneg z (show (1000000007 : Int) ≠ 0 by decide)
              have q2 := Int.emod_lt_of_pos z (show (0 : Int) < 1000000007 by decide)
              exact .inl ⟨by omega, by omega⟩
            · refine ⟨_, rfl, b, _, 3, _, rfl, rfl, .of (hb2 _), rfl, _, _, rfl, rfl, .inl ⟨by omega, by omega⟩, _, rfl, _, _, rfl, rfl, .inl ⟨_, rfl, _, _, rfl, rfl, (by show (0 : Int) < 2147483549; decide), ?_⟩⟩
              refine ⟨_, rfl, b, _, 3, 3, rfl, rfl, hb2 _, rfl, ?_⟩
              refine ⟨_, _, p + 1, g, _, rfl, upd_same, ?_, g0, Int.emod_nonneg _ (by decide), Int.emod_lt_of_pos _ (by decide), ((f1.upd).upd)⟩
              rw [upd_ne (Ne.symm nbl), upd_ne (Ne.symm nbl)]
              exact hl1
        · rw [decide_eq_false hp]
          refine iteF ?_
          exact ⟨_, _, p, g, s', rfl, hb1, hl1, g0, s0, s1, f1⟩
      · rw [decide_eq_false hg]
        refine iteF (iteF ?_)
        exact ⟨_, _, p, g, s', rfl, hb1, hl1, g0, s0, s1, f1⟩
    · clear hb1 hl1 f1 g0 s0 s1
      rintro σ H2 ⟨v2, v3, p, g, s, rfl, hb2, hl2, g0, s0, s1, f2⟩
      refine ⟨_, rfl, b, _, 2, _, rfl, rfl, .of hb2, rfl, _, _, rfl, rfl, _, rfl, ?_⟩
      refine ite2 (fun big => ?_) (fun _ => ?_)
      · refine ⟨_, rfl, b, _, 2, _, rfl, rfl, .of hb2, rfl, .inl ⟨_, rfl, _, rfl, _, _, rfl, rfl, m0, ?_⟩⟩
        refine ⟨_, rfl, b, _, 2, _, rfl, rfl, .of hb2, rfl, _, rfl, _, _, rfl, rfl, ⟨m0, m1⟩, _, rfl, b, _, 2, 2, rfl, rfl, hb2, rfl, ?_⟩
        refine ⟨_, rfl, ?_⟩
        refine k _ _ (Int.emod_nonneg _ (by omega)) (Int.emod_lt_of_pos _ m0) ⟨l, ns, p, g / m, s, c + 1, upd_same, ?_, nbl, Int.ediv_nonneg g0 (by omega), s0, s1, by omega, by omega⟩ ⟨f2.upd, fun l' r e => by rw [hb] at e; cases e; exact ⟨_, upd_same⟩⟩
        rw [upd_ne (Ne.symm nbl)]
        exact hl2
      · refine ⟨_, rfl, b, _, 3, _, rfl, rfl, .of hb2, rfl, ?_⟩
        refine ⟨_, rfl, _, _, rfl, rfl, .inl ⟨by omega, by omega⟩, _, rfl, b, _, 4, _, rfl, rfl, .of hb2, rfl, _, _, rfl, rfl, .inl ⟨by omega, by omega⟩, _, _, rfl, rfl, _, _, rfl, rfl, ?_⟩
        have sq : s * s ≤ 2147483549 * 2147483549 := Int.mul_le_mul (by omega) (by omega) s0 (by decide)
        have sq0 : 0 ≤ s * s := Int.mul_nonneg s0 s0
        refine ⟨_, rfl, _, rfl, _, _, rfl, rfl, .inl ⟨by omega, by omega⟩, _, _, rfl, rfl, .inl ⟨by omega, by omega⟩, _, rfl, _, _, rfl, rfl, .inl ⟨_, rfl, _, _, rfl, rfl, (by show (0 : Int) < 2147483549; decide), ?_⟩⟩
        refine ⟨_, rfl, b, _, 3, 3, rfl, rfl, hb2, rfl, ?_⟩
        have hb3 : ∀ y, upd H2 b (.lst (BagL l p g y (c + 1))) b = some (.lst (BagL l p g y (c + 1))) := fun _ => upd_same
        refine ⟨_, rfl, b, _, 3, _, rfl, rfl, .of (hb3 _), rfl, _, _, rfl, rfl, ⟨by decide, by decide⟩, _, rfl, b, _, 3, _, rfl, rfl, .of (hb3 _), rfl, .inl ⟨_, rfl, _, _, rfl, rfl, (by show (0 : Int) < 7901; decide), _, _, rfl, rfl, ?_, _, _, rfl, rfl, .inl ⟨_, rfl, _, rfl, _, _, rfl, rfl, m0, ?_⟩⟩⟩
        · refine .inr ⟨by decide, by decide⟩
        · refine k _ _ (Int.emod_nonneg _ (by omega)) (Int.emod_lt_of_pos _ m0) ⟨l, ns, p, g, _, c + 1, upd_same, ?_, nbl, g0, Int.emod_nonneg _ (by decide), Int.emod_lt_of_pos _ (by decide), by omega, by omega⟩ ⟨f2.upd, fun l' r e => by rw [hb] at e; cases e; exact ⟨_, upd_same⟩⟩
          rw [upd_ne (Ne.symm nbl)]
          exact hl2
end
/-- a def of the text under its name -/
structure Dn (K : PySem.W.Frag) (mg : Str → Option Value) (x : Str) (f : Addr) : Prop where
  gl : mg x = some (.ref f)
  kp : PySem.W.keepIn K (.ref f) = true
def spBag (K : PySem.W.Frag) : Sp := fun vs H Q _ => ∃ (a : Addr) (ns : List Int), vs = [.ref a] ∧ SqL K H a (ns.map V.int) ∧ ∀ (b : Addr) (H' : Hp), BagAt H' b 0 → H b = none → Same H H' → Q (.ref b) H'
def spOf : Sp := fun vs H Q _ => ∃ (b t : Addr) (n : Nat) (xs : List V), vs = [.ref b, .ref t] ∧ BagAt H b n ∧ n ≤ 1000000000 ∧ t ≠ b ∧ H t = some (.lst xs) ∧ 0 < xs.length ∧ xs.length ≤ 1000 ∧ ∀ (i : Nat) (v : V) (H' : Hp), xs[i]? = some v → BagAt H' b (n + 1) → Bt b H H' → Q v H'
theorem cut_ints (ns : List Int) (lo hi : Option Int) : ∃ ms : List Int, cutV (ns.map V.int) lo hi = ms.map V.int := by
  unfold cutV
  rw [← List.map_drop, ← List.map_take]
  exact ⟨_, rfl⟩
section
variable {P : Program} {w : World} {K : PySem.W.Frag} {mg : Str → Option Value} {base : Heap}
theorem scBag : FnScope ["_law_script"] ["_law_script"] (defScope sBag) := ⟨rfl, rfl, rfl, by decide +kernel, rfl, by decide +kernel, by decide +kernel⟩
theorem ok_bag {f : Addr} {fd : FuncData} (F : Fun K "_law_bag" "_law_bag" sBag f fd) (T : Bn mg) : FnOk P w K mg base CX0 1 f fd ["_law_script"] (spBag K) := by
  refine F.ok scBag (fun vs H Q E h => ?_) (fun cdv A outer s H vs Q E hr h => ?_)
  · obtain ⟨a, ns, rfl, _⟩ := h
    rfl
  · obtain ⟨a, ns, rfl, hS, k⟩ := h
    refine ⟨_, pss_one (ps_ret (pe_lst (pa_cons (pe_callTy call_list_of (by rfl) T.tlist (by decide +kernel) (pa_cons (pe_slice sl_list (pv 0) po_none (po_some pe_int)) pa_nil)) (pa_cons pe_int (pa_cons pe_int (pa_cons pe_int (pa_cons pe_int pa_nil))))))), ?_⟩
    obtain ⟨ms, hm⟩ := cut_ints ns none (some 63)
    refine ⟨_, rfl, _, rfl, a, _, rfl, hS, fun p hp => ?_⟩
    rw [hm]
    refine ⟨p, _, rfl, .inl (SqL.of upd_same), fun l hl => ?_⟩
    refine ⟨(by show 5 ≤ sizeLine; decide), fun b hb => ?_⟩
    have nbl : b ≠ l := (ne_of_none upd_same hb).symm
    refine k b _ ⟨l, ms, 0, 0, 12004, 0, upd_same, ?_, nbl, by decide, by decide, by decide, by decide, by decide⟩ ?_ ?_
    · rw [upd_ne nbl.symm]
      exact upd_same
    · have e1 : H b ≠ none → False := fun z => by
        cases e : H b with
        | none => exact z e
        | some o =>
          have q : (upd (upd H p (.lst (ms.map V.int))) l (.lst (ms.map V.int))) b = some o := by
            rw [upd_ne nbl, upd_ne (ne_of_none e hp)]
            exact e
          rw [q] at hb
          cases hb
      exact Classical.byContradiction e1
    · intro c o e
      have h1 := ne_of_none e hp
      have s1 : upd H p (.lst (ms.map V.int)) c = some o := by
        rw [upd_ne h1]
        exact e
      have h2 := ne_of_none s1 hl
      have s2 : upd (upd H p (.lst (ms.map V.int))) l (.lst (ms.map V.int)) c = some o := by
        rw [upd_ne h2]
        exact s1
      rw [upd_ne (ne_of_none s2 hb)]
      exact s2
theorem scOf : FnScope ["_law_bag_here", "_law_things"] ["_law_bag_here", "_law_things"] (defScope sOf) := ⟨rfl, rfl, rfl, by decide +kernel, rfl, by decide +kernel, by decide +kernel⟩
theorem ok_of {f fP : Addr} {fd fdP : FuncData} (F : Fun K "_law_of" "_law_of" sOf f fd) (T : Bn mg) (D : Dn K mg "_law_pull" fP) (G : FnOk P w K mg base CX0 1 fP fdP ["_law_bag_here", "_law_many"] spPull) (bP : Binds K fdP ["_law_bag_here", "_law_many"] []) :
    FnOk P w K mg base CX0 2 f fd ["_law_bag_here", "_law_things"] spOf := by
  refine F.ok scOf (fun vs H Q E h => ?_) (fun cdv A outer s H vs Q E hr h => ?_)
  · obtain ⟨b, t, n, xs, rfl, _⟩ := h
    rfl
  · obtain ⟨b, t, n, xs, rfl, B, hn, nt, ht, l0, l1, k⟩ := h
    refine ⟨_, pss_one (ps_ret (pe_ix ix_list (pv 1) (pe_call G hr (by rfl) D.gl D.kp bP .nil pass0 (pa_cons (pv 0) (pa_cons (pe_callB call_len (by rfl) T.flen (by decide +kernel) (pa_cons (pv 1) pa_nil)) pa_nil))) (fun _ _ => rfl))), ?_⟩
    refine ⟨_, rfl, _, rfl, _, rfl, _, _, rfl, .inl ⟨_, .of ht, rfl⟩, b, _, n, rfl, by omega, by omega, B, hn, fun r H' r0 r1 B' f' => ?_⟩
    have hi : r.toNat < xs.length := by omega
    have q := List.getElem?_eq_getElem hi
    generalize xs[r.toNat] = y at q
    refine ⟨t, xs, r, y, rfl, rfl, .of (f'.1 _ _ ht nt), ?_, k r.toNat y H' q B' f'⟩
    have z := atI_nat q
    rw [Int.toNat_of_nonneg r0] at z
    exact z
/-! ### same -/
/-- u and v are like data, less than n deep -/
def Like (H : Hp) : Nat → V → V → Prop
  | 0, _, _ => False
  | n + 1, u, v => (u = v ∧ (v = .non ∨ (∃ b, v = .bl b) ∨ (∃ i, v = .int i) ∨ ∃ x, v = .str x)) ∨
    ∃ (a b : Addr) (xs ys : List V), u = .ref a ∧ v = .ref b ∧ ((H a = some (.tup xs) ∧ H b = some (.tup ys)) ∨ (H a = some (.lst xs) ∧ H b = some (.lst ys))) ∧ xs.length = ys.length ∧ xs.length ≤ 1000 ∧ ∀ (i : Nat) (x y : V), xs[i]? = some x → ys[i]? = some y → Like H n x y
theorem Like.mono {H H' : Hp} (s : Same H H') : ∀ {n : Nat} {u v : V}, Like H n u v → Like H' n u v
  | 0, _, _, h => h.elim
  | n + 1, u, v, h => by
    rcases h with h | ⟨a, b, xs, ys, e1, e2, hh, l1, l2, k⟩
    · exact .inl h
    · refine .inr ⟨a, b, xs, ys, e1, e2, ?_, l1, l2, fun i x y hx hy => Like.mono s (k i x y hx hy)⟩
      rcases hh with ⟨h1, h2⟩ | ⟨h1, h2⟩
      · exact .inl ⟨s _ _ h1, s _ _ h2⟩
      · exact .inr ⟨s _ _ h1, s _ _ h2⟩
def spSame (n : Nat) : Sp := fun vs H Q _ => ∃ u v, vs = [u, v] ∧ Like H n u v ∧ ∀ H', Same H H' → Q (.bl true) H'
theorem Same.new {H H' : Hp} {p : Addr} {o : HO} (s : Same H H') (hp : H' p = none) : Same H (upd H' p o) := fun c u e => by
  rw [upd_ne (ne_of_none (s c u e) hp)]
  exact s c u e
theorem scSame : FnScope ["_law_found", "_law_due", "_law_a", "_law_b"] ["_law_found", "_law_due"] (defScope sSame) := ⟨rfl, rfl, rfl, by decide +kernel, rfl, by decide +kernel, by decide +kernel⟩
theorem walk_zipT {a b : Addr} {xs ys : List V} {n : Nat} (hn : n = min xs.length ys.length) : Walk (RZ.ItzT K a b) n (fun H => SqT K H a xs ∧ SqT K H b ys) (YPair (fun i => xs[i]?) (fun i => ys[i]?)) := by
  subst hn
  refine ⟨fun i _ hi q => ?_, fun _ q => ⟨xs, ys, q.1, q.2, ?_⟩, fun i H v H' _ q y => ?_⟩
  · have h1 : i < xs.length := by omega
    have h2 : i < ys.length := by omega
    refine ⟨xs, ys, xs[i], ys[i], q.1, q.2, List.getElem?_eq_getElem h1, List.getElem?_eq_getElem h2⟩
  · omega
  · obtain ⟨T, x, z, h1, h2, h3, h4, h5⟩ := y
    exact ⟨T, x, z, h1, h2, h3, h4 xs q.1, h5 ys q.2⟩
theorem all_true (n : Nat) : (List.replicate n true).all id = true := by
  induction n with
  | zero => rfl
  | succ n ih =>
    rw [List.replicate_succ, List.all_cons, ih]
    rfl
theorem any_no {T : String} (h1 : kitB T "list" = some false) (h2 : kitB T "tuple" = some false) : PySem.W.kitAny K (.type T) [.type "list", .type "tuple"] = some false :=
  kitAny_cons (kit_ty h1) (fun _ => kitAny_cons (kit_ty h2) (fun _ => kitAny_nil) (fun z => nomatch z)) (fun z => nomatch z)
theorem any_lst : PySem.W.kitAny K (.type "list") [.type "list", .type "tuple"] = some true :=
  kitAny_cons (b := true) (kit_ty (by decide +kernel)) (fun z => nomatch z) (fun _ => rfl)
theorem any_tup : PySem.W.kitAny K (.type "tuple") [.type "list", .type "tuple"] = some true :=
  kitAny_cons (b := false) (kit_ty (by decide +kernel)) (fun _ => kitAny_cons (b := true) (kit_ty (by decide +kernel)) (fun z => nomatch z) (fun _ => rfl)) (fun z => nomatch z)
theorem lt_tup : Paired ClsV [V.ty "list", V.ty "tuple"] [Value.type "list", Value.type "tuple"] := .cons (.ty _) (.cons (.ty _) .nil)
theorem ok_same_step {f : Addr} {fd : FuncData} {n k : Nat} (F : Fun K "_law_same" "_law_same" sSame f fd) (T : Bn mg) (D : Dn K mg "_law_same" f) (G : FnOk P w K mg base CX0 k f fd ["_law_found", "_law_due"] (spSame n)) (bS : Binds K fd ["_law_found", "_law_due"] []) :
    FnOk P w K mg base CX0 (k + 1) f fd ["_law_found", "_law_due"] (spSame (n + 1)) := by
  refine F.ok scSame (fun vs H Q E h => ?_) (fun cdv A outer s H vs Q E hr h => ?_)
  · obtain ⟨u, v, rfl, _⟩ := h
    rfl
  · obtain ⟨u, v, rfl, lk, kk⟩ := h
    refine ⟨_, pss_cons (ps_if (PW.pt (pw_or (pt_cmpR op_isN (pv 1) pe_non (nomark _)) (pw_or1 (pt_cmpR op_isN (pv 0) pe_non (nomark _)))))
        (pss_one (ps_ret (pe_and (pe_cmpR op_isN (pv 1) pe_non (nomark _)) (pe_one (pe_cmpR op_isN (pv 0) pe_non (nomark _)))))) pss_nil)
      (pss_cons (ps_if (PW.pt (pw_or (pt_val (pe_callB call_isi (by rfl) T.isin (by decide +kernel) (pa_cons (pv 1) (pa_cons (pe_bltn (v := .ty "bool") (by rfl) T.tbool (by decide +kernel) rfl) pa_nil)))) (pw_or1 (pt_val (pe_callB call_isi (by rfl) T.isin (by decide +kernel) (pa_cons (pv 0) (pa_cons (pe_bltn (v := .ty "bool") (by rfl) T.tbool (by decide +kernel) rfl) pa_nil)))))))
        (pss_one (ps_ret (pe_and (pe_callB call_isi (by rfl) T.isin (by decide +kernel) (pa_cons (pv 1) (pa_cons (pe_bltn (v := .ty "bool") (by rfl) T.tbool (by decide +kernel) rfl) pa_nil))) (pe_and (pe_callB call_isi (by rfl) T.isin (by decide +kernel) (pa_cons (pv 0) (pa_cons (pe_bltn (v := .ty "bool") (by rfl) T.tbool (by decide +kernel) rfl) pa_nil))) (pe_one (pe_cmpR op_eq (pv 0) (pv 1) (nomark _))))))) pss_nil)
      (pss_cons (ps_if (PW.pt (pw_or (pt_val (pe_callB call_isiT (by rfl) T.isin (by decide +kernel) (pa_cons (pv 1) (pa_cons (pe_tup (pa_cons (pe_bltn (v := .ty "list") (by rfl) T.tlist (by decide +kernel) rfl) (pa_cons (pe_bltn (v := .ty "tuple") (by rfl) T.ttuple (by decide +kernel) rfl) pa_nil))) pa_nil)))) (pw_or1 (pt_val (pe_callB call_isiT (by rfl) T.isin (by decide +kernel) (pa_cons (pv 0) (pa_cons (pe_tup (pa_cons (pe_bltn (v := .ty "list") (by rfl) T.tlist (by decide +kernel) rfl) (pa_cons (pe_bltn (v := .ty "tuple") (by rfl) T.ttuple (by decide +kernel) rfl) pa_nil))) pa_nil)))))))
        (pss_cons (ps_if (pt_cmpR op_ne (pe_callB call_isi (by rfl) T.isin (by decide +kernel) (pa_cons (pv 1) (pa_cons (pe_bltn (v := .ty "list") (by rfl) T.tlist (by decide +kernel) rfl) pa_nil))) (pe_callB call_isi (by rfl) T.isin (by decide +kernel) (pa_cons (pv 0) (pa_cons (pe_bltn (v := .ty "list") (by rfl) T.tlist (by decide +kernel) rfl) pa_nil))) (nomark _)) (pss_one (ps_ret pe_bl)) pss_nil)
        (pss_cons (ps_if (PW.pt (pw_or (pt_cmpR op_ne (pe_callB call_isi (by rfl) T.isin (by decide +kernel) (pa_cons (pv 1) (pa_cons (pe_bltn (v := .ty "tuple") (by rfl) T.ttuple (by decide +kernel) rfl) pa_nil))) (pe_callB call_isi (by rfl) T.isin (by decide +kernel) (pa_cons (pv 0) (pa_cons (pe_bltn (v := .ty "tuple") (by rfl) T.ttuple (by decide +kernel) rfl) pa_nil))) (nomark _)) (pw_or1 (pt_cmpR op_ne (pe_callB call_len (by rfl) T.flen (by decide +kernel) (pa_cons (pv 0) pa_nil)) (pe_callB call_len (by rfl) T.flen (by decide +kernel) (pa_cons (pv 1) pa_nil)) (nomark _))))) (pss_one (ps_ret pe_bl)) pss_nil)
        (pss_one (ps_ret (pe_callB (cr_all rfl) (by rfl) T.fall (by decide +kernel) (pa_cons (pe_lc (own := [("_law_a", 2), ("_law_b", 3)]) (g := gTup K 2 (gCons (gName 2) (gCons (gName 3) gNil))) rfl scSame.nd (RZ.pi_zipA (by rfl) T.fzip (pa_cons (pv 0) (pa_cons (pv 1) pa_nil))) (blkOk_by (own := [("_law_a", 2), ("_law_b", 3)]) (N := ["_law_found", "_law_due", "_law_a", "_law_b"]) (sc := defScope sSame) (by decide +kernel))
            (fun _ _ _ _ _ => pg_tup (n := 2) rfl (pgs_cons (pg_name (i := 2) scSame.nd rfl (Or.inl rfl) (hf := Or.inr rfl)) (pgs_cons (pg_name (i := 3) scSame.nd rfl (Or.inl rfl) (hf := Or.inr rfl)) pgs_nil))) (fun _ _ _ _ _ => pts_nil)
            (fun _ _ _ _ _ => pe_call G hr (by rfl) D.gl D.kp bS .nil pass0 (pa_cons (pv 2) (pa_cons (pv 3) pa_nil)))) pa_nil)))))) pss_nil)
      (pss_cons (ps_if (pt_cmpR op_ne (pe_callB call_isi (by rfl) T.isin (by decide +kernel) (pa_cons (pv 1) (pa_cons (pe_bltn (v := .ty "int") (by rfl) T.tint (by decide +kernel) rfl) pa_nil))) (pe_callB call_isi (by rfl) T.isin (by decide +kernel) (pa_cons (pv 0) (pa_cons (pe_bltn (v := .ty "int") (by rfl) T.tint (by decide +kernel) rfl) pa_nil))) (nomark _)) (pss_one (ps_ret pe_bl)) pss_nil)
      (pss_one (ps_ret (pe_and (pe_cmpR op_eq (pe_callB call_isi (by rfl) T.isin (by decide +kernel) (pa_cons (pv 1) (pa_cons (pe_bltn (v := .ty "str") (by rfl) T.tstr (by decide +kernel) rfl) pa_nil))) (pe_callB call_isi (by rfl) T.isin (by decide +kernel) (pa_cons (pv 0) (pa_cons (pe_bltn (v := .ty "str") (by rfl) T.tstr (by decide +kernel) rfl) pa_nil))) (nomark _)) (pe_one (pe_cmpR op_eq (pv 0) (pv 1) (nomark _))))))))), ?_⟩
    rcases lk with ⟨rfl, (rfl | ⟨b, rfl⟩ | ⟨i, rfl⟩ | ⟨x, rfl⟩)⟩ | ⟨a, b, xs, ys, rfl, rfl, hh, l1, l2, like⟩
    · refine ⟨_, rfl, rfl, _, rfl, iteT ?_⟩
      exact ⟨_, rfl, rfl, _, rfl, iteT ⟨_, rfl, rfl, kk _ (Same.refl _)⟩⟩
    · refine ⟨_, rfl, rfl, _, rfl, iteF ⟨_, rfl, rfl, _, rfl, iteF ?_⟩⟩
      refine ⟨_, rfl, _, _, _, _, true, rfl, .ty "bool", .base (.bl _), kit_ty (by decide +kernel), _, rfl, iteT ?_⟩
      refine ⟨_, rfl, _, _, _, _, true, rfl, .ty "bool", .base (.bl _), kit_ty (by decide +kernel), _, rfl, iteT ⟨_, rfl, _, _, _, _, true, rfl, .ty "bool", .base (.bl _), kit_ty (by decide +kernel), _, rfl, iteT ⟨_, rfl, _, rfl, rfl, ?_⟩⟩⟩
      rw [decide_eq_true rfl]
      exact kk _ (Same.refl _)
    · refine ⟨_, rfl, rfl, _, rfl, iteF ⟨_, rfl, rfl, _, rfl, iteF ?_⟩⟩
      refine ⟨_, rfl, _, _, _, _, false, rfl, .ty "bool", .base (.int _), kit_ty (by decide +kernel), _, rfl, iteF ⟨_, rfl, _, _, _, _, false, rfl, .ty "bool", .base (.int _), kit_ty (by decide +kernel), _, rfl, iteF ?_⟩⟩
      refine ⟨_, rfl, (by show 2 ≤ sizeLine; decide), fun p hp => ⟨_, p, _, _, _, false, rfl, upd_same, lt_tup, .base (.int _), any_no (by decide +kernel) (by decide +kernel), _, rfl, iteF ⟨_, rfl, (by show 2 ≤ sizeLine; decide), fun p2 hp2 => ⟨_, p2, _, _, _, false, rfl, upd_same, lt_tup, .base (.int _), any_no (by decide +kernel) (by decide +kernel), _, rfl, iteF ?_⟩⟩⟩⟩
      have s2 := (Same.new (Same.new (Same.refl H) hp (o := .tup [V.ty "list", V.ty "tuple"])) hp2 (o := .tup [V.ty "list", V.ty "tuple"]))
      refine ⟨_, rfl, _, _, _, _, true, rfl, .ty "int", .base (.int _), kit_ty (by decide +kernel), _, rfl, _, _, _, _, true, rfl, .ty "int", .base (.int _), kit_ty (by decide +kernel), rfl, _, rfl, iteF ?_⟩
      refine ⟨_, rfl, _, _, _, _, false, rfl, .ty "str", .base (.int _), kit_ty (by decide +kernel), _, rfl, _, _, _, _, false, rfl, .ty "str", .base (.int _), kit_ty (by decide +kernel), rfl, _, rfl, iteT ⟨_, rfl, _, rfl, rfl, ?_⟩⟩
      rw [decide_eq_true rfl]
      exact kk _ s2
    · refine ⟨_, rfl, rfl, _, rfl, iteF ⟨_, rfl, rfl, _, rfl, iteF ?_⟩⟩
      refine ⟨_, rfl, _, _, _, _, false, rfl, .ty "bool", .base (.str _), kit_ty (by decide +kernel), _, rfl, iteF ⟨_, rfl, _, _, _, _, false, rfl, .ty "bool", .base (.str _), kit_ty (by decide +kernel), _, rfl, iteF ?_⟩⟩
      refine ⟨_, rfl, (by show 2 ≤ sizeLine; decide), fun p hp => ⟨_, p, _, _, _, false, rfl, upd_same, lt_tup, .base (.str _), any_no (by decide +kernel) (by decide +kernel), _, rfl, iteF ⟨_, rfl, (by show 2 ≤ sizeLine; decide), fun p2 hp2 => ⟨_, p2, _, _, _, false, rfl, upd_same, lt_tup, .base (.str _), any_no (by decide +kernel) (by decide +kernel), _, rfl, iteF ?_⟩⟩⟩⟩
      have s2 := (Same.new (Same.new (Same.refl H) hp (o := .tup [V.ty "list", V.ty "tuple"])) hp2 (o := .tup [V.ty "list", V.ty "tuple"]))
      refine ⟨_, rfl, _, _, _, _, false, rfl, .ty "int", .base (.str _), kit_ty (by decide +kernel), _, rfl, _, _, _, _, false, rfl, .ty "int", .base (.str _), kit_ty (by decide +kernel), rfl, _, rfl, iteF ?_⟩
      refine ⟨_, rfl, _, _, _, _, true, rfl, .ty "str", .base (.str _), kit_ty (by decide +kernel), _, rfl, _, _, _, _, true, rfl, .ty "str", .base (.str _), kit_ty (by decide +kernel), rfl, _, rfl, iteT ⟨_, rfl, _, rfl, rfl, ?_⟩⟩
      rw [decide_eq_true rfl]
      exact kk _ s2
    · refine ⟨_, rfl, rfl, _, rfl, iteF ⟨_, rfl, rfl, _, rfl, iteF ?_⟩⟩
      rcases hh with ⟨ha, hb⟩ | ⟨ha, hb⟩
      · refine ⟨_, rfl, _, _, _, _, false, rfl, .ty "bool", .base (.tup hb), kit_ty (by decide +kernel), _, rfl, iteF ⟨_, rfl, _, _, _, _, false, rfl, .ty "bool", .base (.tup ha), kit_ty (by decide +kernel), _, rfl, iteF ?_⟩⟩
        refine ⟨_, rfl, (by show 2 ≤ sizeLine; decide), fun p hp => ?_⟩
        have s1 := Same.new (Same.refl H) hp (o := .tup [V.ty "list", V.ty "tuple"])
        have ha1 := s1 _ _ ha
        have hb1 := s1 _ _ hb
        refine ⟨_, p, _, _, _, true, rfl, upd_same, lt_tup, .base (.tup hb1), any_tup, _, rfl, iteT ?_⟩
        refine ⟨_, rfl, _, _, _, _, false, rfl, .ty "list", .base (.tup hb1), kit_ty (by decide +kernel), _, rfl, _, _, _, _, false, rfl, .ty "list", .base (.tup ha1), kit_ty (by decide +kernel), rfl, _, rfl, iteF ?_⟩
        refine ⟨_, rfl, _, _, _, _, true, rfl, .ty "tuple", .base (.tup hb1), kit_ty (by decide +kernel), _, rfl, _, _, _, _, true, rfl, .ty "tuple", .base (.tup ha1), kit_ty (by decide +kernel), rfl, _, rfl, iteF ⟨_, rfl, _, _, rfl, .inr ⟨_, .of ha1, rfl⟩, _, rfl, _, _, rfl, .inr ⟨_, .of hb1, rfl⟩, ?_⟩⟩
        refine ⟨rfl, _, rfl, ?_⟩
        rw [l1, decide_eq_true rfl]
        refine iteF ?_
        refine ⟨_, rfl, _, rfl, a, b, xs, ys, rfl, .inr ⟨SqT.of ha1, SqT.of hb1, fun D hD => ?_⟩⟩
        refine lc_it (walk_zipT (n := ys.length) (by rw [l1, Nat.min_self])) (fun i H' => Same (upd H p (.tup [V.ty "list", V.ty "tuple"])) H' ∧ H' D = some (.lst ((List.replicate i true).map V.bl))) ⟨Same.new (Same.refl _) hD, upd_same⟩ (fun i H' _ z => ⟨SqT.of (z.1 _ _ ha1), SqT.of (z.1 _ _ hb1)⟩) ?_ ?_
        · rintro i x H2 H3 hi ⟨t2, d2⟩ ⟨T1, y, z, rfl, nT, rfl, hy, hz⟩
          have t3 := Same.new t2 nT (o := .tup [y, z])
          refine ⟨T1, _, rfl, SqT.of upd_same, rfl, y, _, rfl, z, _, rfl, rfl, rfl, ?_⟩
          refine ⟨_, rfl, _, rfl, y, z, rfl, Like.mono (s1.trans t3) (like i y z hy hz), fun H4 s4 => ?_⟩
          have d4 : H4 D = some (.lst ((List.replicate i true).map V.bl)) := s4 _ _ (by rw [upd_ne (ne_of_none d2 nT)]; exact d2)
          refine ⟨_, d4, ?_, fun c o e => ?_, ?_⟩
          · rw [List.length_map, List.length_replicate]
            exact small1000 (by omega)
          · have q := s4 _ _ (t3 c o e)
            rw [upd_ne (ne_of_none e hD)]
            exact q
          · rw [upd_same, List.replicate_succ', List.map_append]
            rfl
        · rintro H2 ⟨t2, d2⟩
          refine ⟨D, _, rfl, .of d2, ?_⟩
          rw [all_true]
          exact kk _ (s1.trans t2)

      · refine ⟨_, rfl, _, _, _, _, false, rfl, .ty "bool", .base (.lst hb), kit_ty (by decide +kernel), _, rfl, iteF ⟨_, rfl, _, _, _, _, false, rfl, .ty "bool", .base (.lst ha), kit_ty (by decide +kernel), _, rfl, iteF ?_⟩⟩
        refine ⟨_, rfl, (by show 2 ≤ sizeLine; decide), fun p hp => ?_⟩
        have s1 := Same.new (Same.refl H) hp (o := .tup [V.ty "list", V.ty "tuple"])
        have ha1 := s1 _ _ ha
        have hb1 := s1 _ _ hb
        refine ⟨_, p, _, _, _, true, rfl, upd_same, lt_tup, .base (.lst hb1), any_lst, _, rfl, iteT ?_⟩
        refine ⟨_, rfl, _, _, _, _, true, rfl, .ty "list", .base (.lst hb1), kit_ty (by decide +kernel), _, rfl, _, _, _, _, true, rfl, .ty "list", .base (.lst ha1), kit_ty (by decide +kernel), rfl, _, rfl, iteF ?_⟩
        refine ⟨_, rfl, _, _, _, _, false, rfl, .ty "tuple", .base (.lst hb1), kit_ty (by decide +kernel), _, rfl, _, _, _, _, false, rfl, .ty "tuple", .base (.lst ha1), kit_ty (by decide +kernel), rfl, _, rfl, iteF ⟨_, rfl, _, _, rfl, .inl ⟨_, .of ha1, rfl⟩, _, rfl, _, _, rfl, .inl ⟨_, .of hb1, rfl⟩, ?_⟩⟩
        refine ⟨rfl, _, rfl, ?_⟩
        rw [l1, decide_eq_true rfl]
        refine iteF ?_
        refine ⟨_, rfl, _, rfl, a, b, xs, ys, rfl, .inl ⟨SqL.of ha1, SqL.of hb1, fun D hD => ?_⟩⟩
        refine lc_it (walk_zip (n := ys.length) (by rw [l1, Nat.min_self])) (fun i H' => Same (upd H p (.tup [V.ty "list", V.ty "tuple"])) H' ∧ H' D = some (.lst ((List.replicate i true).map V.bl))) ⟨Same.new (Same.refl _) hD, upd_same⟩ (fun i H' _ z => ⟨SqL.of (z.1 _ _ ha1), SqL.of (z.1 _ _ hb1)⟩) ?_ ?_
        · rintro i x H2 H3 hi ⟨t2, d2⟩ ⟨T1, y, z, rfl, nT, rfl, hy, hz⟩
          have t3 := Same.new t2 nT (o := .tup [y, z])
          refine ⟨T1, _, rfl, SqT.of upd_same, rfl, y, _, rfl, z, _, rfl, rfl, rfl, ?_⟩
          refine ⟨_, rfl, _, rfl, y, z, rfl, Like.mono (s1.trans t3) (like i y z hy hz), fun H4 s4 => ?_⟩
          have d4 : H4 D = some (.lst ((List.replicate i true).map V.bl)) := s4 _ _ (by rw [upd_ne (ne_of_none d2 nT)]; exact d2)
          refine ⟨_, d4, ?_, fun c o e => ?_, ?_⟩
          · rw [List.length_map, List.length_replicate]
            exact small1000 (by omega)
          · have q := s4 _ _ (t3 c o e)
            rw [upd_ne (ne_of_none e hD)]
            exact q
          · rw [upd_same, List.replicate_succ', List.map_append]
            rfl
        · rintro H2 ⟨t2, d2⟩
          refine ⟨D, _, rfl, .of d2, ?_⟩
          rw [all_true]
          exact kk _ (s1.trans t2)

end
end K09

set_option Elab.async false
set_option linter.all false
set_option maxRecDepth 100000
set_option maxHeartbeats 4000000
namespace K09
open PySem PySem.Spec PyProof.Rows L2 Ux
abbrev sIsInt : Stmt := top 18
abbrev sIsNum : Stmt := top 19
abbrev sRatioOf : Stmt := top 20
abbrev sIntText : Stmt := top 23
abbrev sRatText : Stmt := top 24
abbrev sRInit : Stmt := inClass (top 25) 0
abbrev sREq : Stmt := inClass (top 25) 12
abbrev sRStr : Stmt := inClass (top 25) 13
/-- the class Ratio -/
structure RT (K : PySem.W.Frag) (mg : Str → Option Value) (CR : Addr) : Prop where
  cl : Cls K CR
  nT : NoAttr K CR "top"
  nB : NoAttr K CR "bottom"
  gl : mg "Ratio" = some (.ref CR)
  ha : PySem.W.findIn K (.ref CR) "__class__" = some (some (.builtin "object.__class__"))
  hn : PySem.W.specialIn K (.builtin "object.__class__") "__get__" = some (some (.builtin "getset_descriptor.__get__"))
  ht : PySem.W.takesIn K (.builtin "object.__class__") = some true
  hm : PySem.W.mroIn K CR (.type "object") = some true
  kR : PySem.W.kitOne K (.ref CR) (.ref CR) = some true
  kI : PySem.W.kitOne K (.type "int") (.ref CR) = some false
  kN : PySem.W.kitOne K (.type "NoneType") (.ref CR) = some false
/-- the fields of a Ratio -/
def rf (t b : Int) : List (Str × V) := putF "bottom" (.int b) (putF "top" (.int t) [])
theorem ntb : ¬ (("top" : Str) = "bottom") := by decide +kernel
theorem rf_top (t b : Int) : (rf t b).lookup ("top" : Str) = some (.int t) := by
  unfold rf
  rw [lookup_putF, if_neg ntb, lookup_putF, if_pos rfl]
theorem rf_bot (t b : Int) : (rf t b).lookup ("bottom" : Str) = some (.int b) := by
  unfold rf
  rw [lookup_putF, if_pos rfl]
def RatAt (CR : Addr) (H : Hp) (a : Addr) (t b : Int) : Prop := ∃ dx, H a = some (.ins CR dx (rf t b))
theorem RatAt.same {CR : Addr} {H H' : Hp} {a : Addr} {t b : Int} (h : RatAt CR H a t b) (s : Same H H') : RatAt CR H' a t b := by
  obtain ⟨dx, h⟩ := h
  exact ⟨dx, s _ _ h⟩
theorem RatAt.ty {K : PySem.W.Frag} {mg : Str → Option Value} {CR : Addr} {H : Hp} {a : Addr} {t b : Int} (T : RT K mg CR) (h : RatAt CR H a t b) : TyX K H (.ref a) (.ref CR) := by
  obtain ⟨dx, h⟩ := h
  exact .base (.ins h T.cl T.ha T.hn T.ht T.hm)
theorem same_upd {H : Hp} {a : Addr} {o : HO} (ha : H a = none) : Same H (upd H a o) := fun x u e => by
  rw [upd_ne (ne_of_none e ha)]
  exact e
/-! ### is_integer, is_number -/
def spIsInt (K : PySem.W.Frag) : Sp := fun vs H Q _ => ∃ (v : V) (t : Value) (b1 b2 : Bool), vs = [v] ∧ TyX K H v t ∧ PySem.W.kitOne K t (.type "int") = some b1 ∧ PySem.W.kitOne K t (.type "bool") = some b2 ∧ Q (.bl (b1 && !b2)) H
def spIsNum (K : PySem.W.Frag) (CR : Addr) : Sp := fun vs H Q _ => ∃ v, vs = [v] ∧ ((∃ a t b, v = .ref a ∧ RatAt CR H a t b) ∨ ∃ i, v = .int i) ∧ Q (.bl true) H
def spRInit (CR : Addr) : Sp := fun vs H Q _ => ∃ (p dx : Addr) (t b : Int), vs = [.ref p, .int t, .int b] ∧ H p = some (.ins CR dx []) ∧ 0 < b ∧ b < 1073741824 ∧
  ∀ H', H' p = some (.ins CR dx (rf (t / (Nat.gcd t.natAbs b.natAbs : Nat)) (b / (Nat.gcd t.natAbs b.natAbs : Nat)))) → But p H H' → Q .non H'
def spRatioOf (CR : Addr) : Sp := fun vs H Q _ => (∃ a t b, vs = [.ref a] ∧ RatAt CR H a t b ∧ Q (.ref a) H) ∨ ∃ i : Int, vs = [.int i] ∧ ∀ (p : Addr) (H' : Hp), RatAt CR H' p i 1 → Same H H' → H p = none → Q (.ref p) H'
section
variable {P : Program} {w : World} {K : PySem.W.Frag} {mg : Str → Option Value} {base : Heap} {CR : Addr}
theorem scIsInt : FnScope ["value"] ["value"] (defScope sIsInt) := ⟨rfl, rfl, rfl, by decide +kernel, rfl, by decide +kernel, by decide +kernel⟩
theorem ok_isInt {f : Addr} {fd : FuncData} (F : Fun K "is_integer" "is_integer" sIsInt f fd) (B : Bn mg) : FnOk P w K mg base CX0 1 f fd ["value"] (spIsInt K) := by
  refine F.ok scIsInt (fun vs H Q E h => ?_) (fun cdv A outer s H vs Q E hr h => ?_)
  · obtain ⟨v, t, b1, b2, rfl, _⟩ := h
    rfl
  · obtain ⟨v, t, b1, b2, rfl, ty, k1, k2, q⟩ := h
    refine ⟨_, pss_one (ps_ret (pe_and (pe_callB call_isi (by rfl) B.isin (by decide +kernel) (pa_cons (pv 0) (pa_cons (pe_bltn (v := .ty "int") (by rfl) B.tint (by decide +kernel) rfl) pa_nil)))
      (pe_one (pe_not (pe_callB call_isi (by rfl) B.isin (by decide +kernel) (pa_cons (pv 0) (pa_cons (pe_bltn (v := .ty "bool") (by rfl) B.tbool (by decide +kernel) rfl) pa_nil))))))), ?_⟩
    refine ⟨_, rfl, _, _, _, _, b1, rfl, .ty "int", ty, k1, b1, rfl, ?_⟩
    cases b1 with
    | false => exact iteF q
    | true => exact iteT ⟨_, rfl, _, _, _, _, b2, rfl, .ty "bool", ty, k2, b2, rfl, q⟩
theorem scIsNum : FnScope ["value"] ["value"] (defScope sIsNum) := ⟨rfl, rfl, rfl, by decide +kernel, rfl, by decide +kernel, by decide +kernel⟩
theorem ok_isNum {f fI : Addr} {fd fdI : FuncData} (F : Fun K "is_number" "is_number" sIsNum f fd) (B : Bn mg) (T : RT K mg CR) (D : Dn K mg "is_integer" fI) (G : FnOk P w K mg base CX0 1 fI fdI ["value"] (spIsInt K)) (bI : Binds K fdI ["value"] []) : FnOk P w K mg base CX0 2 f fd ["value"] (spIsNum K CR) := by
  refine F.ok scIsNum (fun vs H Q E h => ?_) (fun cdv A outer s H vs Q E hr h => ?_)
  · obtain ⟨v, rfl, _⟩ := h
    rfl
  · obtain ⟨v, rfl, hv, q⟩ := h
    refine ⟨_, pss_one (ps_ret (pe_or (pe_callB call_isi (by rfl) B.isin (by decide +kernel) (pa_cons (pv 0) (pa_cons (pe_glob (v := .ref CR) (by rfl) T.gl rfl) pa_nil))) (pe_one (pe_call G hr (by rfl) D.gl D.kp bI .nil pass0 (pa_cons (pv 0) pa_nil))))), ?_⟩
    rcases hv with ⟨a, t, b, rfl, ra⟩ | ⟨i, rfl⟩
    · exact ⟨_, rfl, _, _, _, _, true, rfl, .own _, ra.ty T, T.kR, true, rfl, iteT q⟩
    · refine ⟨_, rfl, _, _, _, _, false, rfl, .own _, .base (.int _), T.kI, false, rfl, iteF ?_⟩
      exact ⟨_, rfl, _, _, true, false, rfl, .base (.int _), kit_ty (by decide +kernel), kit_ty (by decide +kernel), q⟩
theorem scRInit : FnScope ["self", "top", "bottom", "common"] ["self", "top", "bottom"] (defScope sRInit) := ⟨rfl, rfl, rfl, by decide +kernel, rfl, by decide +kernel, by decide +kernel⟩
theorem ok_rinit {f fI : Addr} {fd fdI : FuncData} {dvs : List V} (F : FunD K "__init__" "Ratio.__init__" (defArgs sRInit) (defBody sRInit) (defScope sRInit) dvs [] f fd) (T : RT K mg CR) (gcd : mg "gcd" = some (.builtin "math.gcd")) (D : Dn K mg "is_integer" fI) (G : FnOk P w K mg base CX0 1 fI fdI ["value"] (spIsInt K)) (bI : Binds K fdI ["value"] []) :
    FnOk P w K mg base CX0 2 f fd ["self", "top", "bottom"] (spRInit CR) := by
  refine F.ok scRInit (fun vs H Q E h => ?_) (fun cdv A outer s H vs Q E hr h => ?_)
  · obtain ⟨p, dx, t, b, rfl, _⟩ := h
    rfl
  · obtain ⟨p, dx, t, b, rfl, hp, b0, b1, q⟩ := h
    refine ⟨_, pss_cons (ps_if (pt_not (pt_val (pe_call G hr (by rfl) D.gl D.kp bI .nil pass0 (pa_cons (pv 1) pa_nil)))) (pss_one ps_never) pss_nil)
      (pss_cons (ps_if (PW.pt (pw_or (pt_not (pt_val (pe_call G hr (by rfl) D.gl D.kp bI .nil pass0 (pa_cons (pv 2) pa_nil)))) (pw_or1 (pt_cmpR op_eq (pv 2) pe_int (nomark _))))) (pss_one ps_never) pss_nil)
      (pss_cons (ps_set (i := 3) scRInit.nd rfl (Or.inl rfl) (pe_callBfun cr_gcd (by rfl) gcd (pa_cons (pv 1) (pa_cons (pv 2) pa_nil))))
      (pss_cons (ps_if (pt_cmpR op_lt (pv 2) pe_int (nomark _)) (pss_one ps_never) pss_nil)
      (pss_cons (ps_fld (pv 0) (pe_op op_fdivN (pv 1) (pv 3)) rfl)
      (pss_one (ps_fld (pv 0) (pe_op op_fdivN (pv 2) (pv 3)) rfl)))))), ?_⟩
    refine ⟨_, rfl, _, _, true, false, rfl, .base (.int _), kit_ty (by decide +kernel), kit_ty (by decide +kernel), _, rfl, iteF ?_⟩
    refine ⟨_, rfl, _, _, true, false, rfl, .base (.int _), kit_ty (by decide +kernel), kit_ty (by decide +kernel), _, rfl, iteF ?_⟩
    have nb : ¬ (V.int b) = V.int 0 := fun z => by
      have := V.int.inj z
      omega
    refine ⟨_, rfl, rfl, _, rfl, ?_⟩
    rw [decide_eq_false nb]
    refine iteF ?_
    refine ⟨_, rfl, _, rfl, t, b, rfl, ?_⟩
    have nlt : ¬ b < 0 := by omega
    refine ⟨_, rfl, _, _, rfl, rfl, _, rfl, ?_⟩
    rw [decide_eq_false nlt]
    refine iteF ?_
    have g0 : 0 < Nat.gcd t.natAbs b.natAbs := Nat.gcd_pos_of_pos_right _ (by omega)
    have g1 : Nat.gcd t.natAbs b.natAbs ≤ b.natAbs := Nat.le_of_dvd (by omega) (Nat.gcd_dvd_right _ _)
    generalize hgg : Nat.gcd t.natAbs b.natAbs = g at *
    refine ⟨_, rfl, _, rfl, _, _, rfl, rfl, ⟨by omega, by omega⟩, _, rfl, p, CR, dx, [], rfl, hp, T.cl, T.nT, (by show 0 < 1000; decide), ?_⟩
    refine ⟨_, rfl, _, rfl, _, _, rfl, rfl, ⟨by omega, by omega⟩, _, rfl, p, CR, dx, _, rfl, upd_same, T.cl, T.nB, (by show 1 < 1000; decide), ?_⟩
    refine q _ ?_ ((But.refl.upd).upd)
    rw [upd_same]
    show some (HO.ins CR dx (putF ("bottom" : Str) (V.int (b.fdiv (g : Int))) (putF ("top" : Str) (V.int (t.fdiv (g : Int))) []))) = _
    rw [Int.fdiv_eq_ediv_of_nonneg t (by omega), Int.fdiv_eq_ediv_of_nonneg b (by omega)]
    rfl
theorem scRatioOf : FnScope ["number"] ["number"] (defScope sRatioOf) := ⟨rfl, rfl, rfl, by decide +kernel, rfl, by decide +kernel, by decide +kernel⟩
theorem ok_ratioOf {f fN : Addr} {fd fdN : FuncData} {ds : List Value} (F : Fun K "ratio_of" "ratio_of" sRatioOf f fd) (B : Bn mg) (T : RT K mg CR) (M : Mk K CR fN) (G : FnOk P w K mg base CX0 2 fN fdN ["self", "top", "bottom"] (spRInit CR)) (vD : Vals [V.int 1] ds) (bN : Binds K fdN ["self", "top", "bottom"] ds) :
    FnOk P w K mg base CX0 4 f fd ["number"] (spRatioOf CR) := by
  refine F.ok scRatioOf (fun vs H Q E h => ?_) (fun cdv A outer s H vs Q E hr h => ?_)
  · rcases h with ⟨a, t, b, rfl, _⟩ | ⟨i, rfl, _⟩ <;> rfl
  · refine ⟨_, pss_cons (ps_if (pt_val (pe_callB call_isi (by rfl) B.isin (by decide +kernel) (pa_cons (pv 0) (pa_cons (pe_glob (v := .ref CR) (by rfl) T.gl rfl) pa_nil)))) (pss_one (ps_ret (pv 0))) pss_nil)
      (pss_one (ps_ret (pe_make M G hr (by rfl) T.gl bN vD pass0 (pa_cons (pv 0) pa_nil)))), ?_⟩
    rcases h with ⟨a, t, b, rfl, ra, q⟩ | ⟨i, rfl, q⟩
    · refine ⟨_, rfl, _, _, _, _, true, rfl, .own _, ra.ty T, T.kR, true, rfl, iteT ?_⟩
      exact ⟨_, rfl, q⟩
    · refine ⟨_, rfl, _, _, _, _, false, rfl, .own _, .base (.int _), T.kI, false, rfl, iteF ?_⟩
      refine ⟨_, rfl, fun x dx nx nd ne => ?_⟩
      refine ⟨x, dx, i, 1, rfl, upd_same, by decide, by decide, fun H' hx bu => ⟨rfl, ?_⟩⟩
      have g1 : Nat.gcd i.natAbs (1 : Int).natAbs = 1 := Nat.gcd_one_right _
      rw [g1] at hx
      refine q x H' ⟨dx, ?_⟩ (fun c o e => bu c o ?_ (ne_of_none e nx)) nx
      · rw [hx]
        show some (HO.ins CR dx (rf (i / 1) (1 / 1))) = _
        rw [Int.ediv_one]
        rfl
      · rw [upd_ne (ne_of_none e nx), upd_ne (ne_of_none e nd)]
        exact e
end
end K09

set_option Elab.async false
set_option linter.all false
set_option maxRecDepth 100000
set_option maxHeartbeats 4000000
namespace K09
open PySem PySem.Spec PyProof.Rows L2 Ux
/-! ### the texts of small Ratios -/
/-- a text of one number over another -/
def ctext (t b : Int) : Str := if b = 1 then (toString t : Str) else (toString t : Str) ++ "/" ++ (toString b : Str)
def spIntText : Sp := fun vs H Q _ => ∃ n : Int, vs = [.int n] ∧ -100 ≤ n ∧ n ≤ 100 ∧ ∀ H', Same H H' → Q (.str (toString n)) H'
def spRatText (CR : Addr) : Sp := fun vs H Q _ => ∃ (a : Addr) (t b : Int), vs = [.ref a] ∧ RatAt CR H a t b ∧ -100 ≤ t ∧ t ≤ 100 ∧ 0 < b ∧ b ≤ 100 ∧ ∀ H', Same H H' → Q (.str (ctext t b)) H'
def spREq (CR : Addr) : Sp := fun vs H Q _ => ∃ (a : Addr) (t b i : Int), vs = [.ref a, .int i] ∧ RatAt CR H a t b ∧ Q (.bl (decide (b = 1) && decide (t = i))) H
def smalls : List Int := (List.range 201).map fun (n : Nat) => (n : Int) - 100
theorem smalls_in {n : Int} (h0 : -100 ≤ n) (h1 : n ≤ 100) : n ∈ smalls := by
  unfold smalls
  rw [List.mem_map]
  exact ⟨(n + 100).toNat, List.mem_range.mpr (by omega), by omega⟩
theorem text_pos : ∀ n ∈ smalls, 0 ≤ n → Txt.join "" [(toString (if n < 0 then -n else n) : Str)] = (toString n : Str) := by decide +kernel
theorem text_neg : ∀ n ∈ smalls, n < 0 → Txt.join "" [("-" : Str), (toString (if n < 0 then -n else n) : Str)] = (toString n : Str) := by decide +kernel
theorem text_len {n : Int} (h0 : -100 ≤ n) (h1 : n ≤ 100) : (toString n : Str).length ≤ 12 := by
  show (Str.ofString (toString n)).length ≤ 12
  have q := int_text_length_le10 (a := n) (k := 10) (by decide) (by
    have : n.natAbs ≤ 100 := by omega
    have e : (10 : Nat) ^ 10 = 10000000000 := by decide
    omega)
  rw [PySem.ofString_length]
  omega
theorem log2_100 {n : Int} (h0 : -100 ≤ n) (h1 : n ≤ 100) : n.natAbs.log2 < 1920 := by
  by_cases z : n.natAbs = 0
  · rw [z]
    decide
  · have q := Nat.log2_self_le z
    have : n.natAbs.log2 < 10 := by
      refine Nat.lt_of_not_le fun c => ?_
      have q2 : 2 ^ 10 ≤ 2 ^ n.natAbs.log2 := Nat.pow_le_pow_right (by decide) c
      omega
    omega
theorem app_len {x y : Str} {m n : Nat} (h : x.length ≤ m) (k : y.length ≤ n) : (x ++ y).length ≤ m + n := by
  rw [PySem.Str.length_append]
  omega
theorem fit {n m : Nat} (h : n ≤ m) (k : m ≤ 100000) : n ≤ sizeLine := by
  rw [sizeLine_eq]
  omega
theorem ctext_len {t b : Int} (h0 : -100 ≤ t) (h1 : t ≤ 100) (b0 : 0 < b) (b1 : b ≤ 100) : (ctext t b).length ≤ 30 := by
  unfold ctext
  split
  · exact Nat.le_trans (text_len h0 h1) (by decide)
  · exact Nat.le_trans (app_len (app_len (text_len h0 h1) (show (Str.ofString "/").length ≤ 1 by decide)) (text_len (by omega) b1)) (by decide)
theorem empty_app (x : Str) : Str.empty ++ x = x := by
  show Str.mk (#[] ++ x.cps) = x
  rw [Array.empty_append]
section
variable {P : Program} {w : World} {K : PySem.W.Frag} {mg : Str → Option Value} {base : Heap} {CR : Addr}
theorem scIntText : FnScope ["number", "pieces", "rest", "low"] ["number"] (defScope sIntText) := ⟨rfl, rfl, rfl, by decide +kernel, rfl, by decide +kernel, by decide +kernel⟩
theorem ok_intText {f : Addr} {fd : FuncData} (F : Fun K "integer_text" "integer_text" sIntText f fd) (B : Bn mg) (cb : ∃ t, mg "CHUNK_BASE" = some (.int 1000000000000000000000000000000000000000000000000000000000000 t)) : FnOk P w K mg base CX0 1 f fd ["number"] spIntText := by
  refine F.ok scIntText (fun vs H Q E h => ?_) (fun cdv A outer s H vs Q E hr h => ?_)
  · obtain ⟨n, rfl, _⟩ := h
    rfl
  · obtain ⟨n, rfl, h0, h1, q⟩ := h
    obtain ⟨ct, cb⟩ := cb
    refine ⟨_, pss_cons (ps_set (i := 1) scIntText.nd rfl (Or.inl rfl) (pe_lst pa_nil))
      (pss_cons (ps_set (i := 2) scIntText.nd rfl (Or.inl rfl) (pe_callB call_abs (by rfl) B.fabs (by decide +kernel) (pa_cons (pv 0) pa_nil)))
      (pss_cons (ps_while PassesOwn.never (pt_cmpR op_ge (pv 2) (pe_glob (v := .int 1000000000000000000000000000000000000000000000000000000000000) (by rfl) cb ⟨_, rfl⟩) (nomark _)) pss_never)
      (pss_cons (ps_expr (pe_bm PySem.F.plainAttrs_list PySem.F.slot_list_append PySem.F.type_list_append mt_append (pv 1) (pa_cons (pe_callTy call_str_int (by rfl) B.tstr (by decide +kernel) (pa_cons (pv 2) pa_nil)) pa_nil)))
      (pss_cons (ps_if (pt_cmpR op_lt (pv 0) pe_int (nomark _)) (pss_one (ps_expr (pe_bm PySem.F.plainAttrs_list PySem.F.slot_list_append PySem.F.type_list_append mt_append (pv 1) (pa_cons pe_str pa_nil)))) pss_nil)
      (pss_one (ps_ret (pe_join pe_str (pe_revL (pv 1))))))))), ?_⟩
    refine ⟨(by show 0 ≤ sizeLine; decide), fun p hp => ?_⟩
    refine ⟨_, rfl, _, rfl, ?_⟩
    refine while_by (fun σ H' => σ = [some (.int n), some (.ref p), some (.int (if n < 0 then -n else n)), none] ∧ H' = upd H p (.lst [])) (fun _ _ => 0) ⟨rfl, rfl⟩ ?_ ?_
    · rintro σ H' ⟨rfl, rfl⟩
      refine ⟨_, rfl, _, _, rfl, rfl, _, rfl, ?_⟩
      have nb : ¬ (1000000000000000000000000000000000000000000000000000000000000 : Int) ≤ (if n < 0 then -n else n) := by split <;> omega
      rw [decide_eq_false nb]
      refine iteF ?_
      have hp1 : upd H p (.lst []) p = some (.lst []) := upd_same
      have ab0 : -100 ≤ (if n < 0 then -n else n) := by split <;> omega
      have ab1 : (if n < 0 then -n else n) ≤ 100 := by split <;> omega
      refine ⟨_, rfl, .inl ⟨rfl, _, SqL.of hp1⟩, _, rfl, _, rfl, log2_100 ab0 ab1, p, _, _, rfl, rfl, hp1, (by show 0 < sizeLine; decide), ?_⟩
      have hp2 : upd (upd H p (.lst [])) p (.lst ([] ++ [V.str (toString (if n < 0 then -n else n))])) p = some (.lst [V.str (toString (if n < 0 then -n else n))]) := upd_same
      refine ⟨_, rfl, _, _, rfl, rfl, _, rfl, ?_⟩
      have sm : ∀ o, Same H (upd (upd H p (.lst [])) p o) := fun o => by
        rw [upd_upd]
        exact same_upd hp
      have tl := text_len ab0 ab1
      have ine := smalls_in h0 h1
      by_cases neg : n < 0
      · rw [decide_eq_true neg]
        refine iteT ⟨_, rfl, .inl ⟨rfl, _, SqL.of hp2⟩, p, _, _, rfl, rfl, hp2, (by show 1 < sizeLine; decide), ?_⟩
        refine ⟨⟨_, rfl⟩, _, rfl, p, _, rfl, .of upd_same, fun p2 hp3 => ?_⟩
        refine ⟨_, p2, [("-" : Str), (toString (if n < 0 then -n else n) : Str)], rfl, rfl, .inl (.of upd_same), ?_, ?_⟩
        · show ([("-" : Str).length, (toString (if n < 0 then -n else n) : Str).length]).sum + 2 * ("" : Str).length ≤ 16777216
          have e1 : ("-" : Str).length = 1 := by decide
          have e2 : ("" : Str).length = 0 := by decide
          simp only [List.sum_cons, List.sum_nil, e1, e2]
          omega
        · rw [text_neg n ine neg]
          refine q _ fun c o e => ?_
          have nc := ne_of_none e hp
          have e1 : (upd (upd (upd H p (.lst [])) p (.lst ([] ++ [V.str (toString (if n < 0 then -n else n))]))) p (.lst ([V.str (toString (if n < 0 then -n else n))] ++ [V.str "-"]))) c = some o := by
            rw [upd_ne nc, upd_ne nc, upd_ne nc]
            exact e
          rw [upd_ne (ne_of_none e1 hp3)]
          exact e1
      · rw [decide_eq_false neg]
        refine iteF ?_
        refine ⟨⟨_, rfl⟩, _, rfl, p, _, rfl, .of hp2, fun p2 hp3 => ?_⟩
        refine ⟨_, p2, [(toString (if n < 0 then -n else n) : Str)], rfl, rfl, .inl (.of upd_same), ?_, ?_⟩
        · show ([(toString (if n < 0 then -n else n) : Str).length]).sum + 1 * ("" : Str).length ≤ 16777216
          have e2 : ("" : Str).length = 0 := by decide
          simp only [List.sum_cons, List.sum_nil, e2]
          omega
        · rw [text_pos n ine (by omega)]
          refine q _ fun c o e => ?_
          have nc := ne_of_none e hp
          have e1 : (upd (upd H p (.lst [])) p (.lst ([] ++ [V.str (toString (if n < 0 then -n else n))]))) c = some o := by
            rw [upd_ne nc, upd_ne nc]
            exact e
          rw [upd_ne (ne_of_none e1 hp3)]
          exact e1
    · rintro σ H' Q1 Q2 hq ⟨x, hx, i, j, e1, e2, k, e3, z⟩
      exact ⟨x, hx, i, j, e1, e2, k, e3, hq _ _ z⟩
theorem scRatText : FnScope ["ratio"] ["ratio"] (defScope sRatText) := ⟨rfl, rfl, rfl, by decide +kernel, rfl, by decide +kernel, by decide +kernel⟩
theorem ok_ratText {f fI : Addr} {fd fdI : FuncData} (F : Fun K "ratio_text" "ratio_text" sRatText f fd) (T : RT K mg CR) (D : Dn K mg "integer_text" fI) (G : FnOk P w K mg base CX0 1 fI fdI ["number"] spIntText) (bI : Binds K fdI ["number"] []) : FnOk P w K mg base CX0 2 f fd ["ratio"] (spRatText CR) := by
  refine F.ok scRatText (fun vs H Q E h => ?_) (fun cdv A outer s H vs Q E hr h => ?_)
  · obtain ⟨a, t, b, rfl, _⟩ := h
    rfl
  · obtain ⟨a, t, b, rfl, ra, t0, t1, b0, b1, q⟩ := h
    refine ⟨_, pss_cons (ps_if (pt_cmpR op_eq (pe_fld (pv 0) rfl) pe_int (nomark _)) (pss_one (ps_ret (pe_call G hr (by rfl) D.gl D.kp bI .nil pass0 (pa_cons (pe_fld (pv 0) rfl) pa_nil)))) pss_nil)
      (pss_one (ps_ret (pe_joined (PJ.cons (pe_fmt (pe_call G hr (by rfl) D.gl D.kp bI .nil pass0 (pa_cons (pe_fld (pv 0) rfl) pa_nil))) (PJ.cons pe_str (PJ.cons (pe_fmt (pe_call G hr (by rfl) D.gl D.kp bI .nil pass0 (pa_cons (pe_fld (pv 0) rfl) pa_nil))) PJ.nil)))))), ?_⟩
    obtain ⟨dx, ha⟩ := id ra
    refine ⟨_, rfl, a, CR, dx, _, _, rfl, ha, T.cl, T.nB, rf_bot t b, rfl, _, rfl, ?_⟩
    by_cases e1 : (V.int b) = V.int 1
    · rw [decide_eq_true e1]
      have eb : b = 1 := V.int.inj e1
      refine iteT ⟨_, rfl, a, CR, dx, _, _, rfl, ha, T.cl, T.nT, rf_top t b, t, rfl, t0, t1, fun H1 s1 => ?_⟩
      have z := q H1 s1
      unfold ctext at z
      rw [if_pos eb] at z
      exact z
    · rw [decide_eq_false e1]
      have nb : ¬ b = 1 := fun z => e1 (by rw [z])
      refine iteF ⟨_, rfl, a, CR, dx, _, _, rfl, ha, T.cl, T.nT, rf_top t b, t, rfl, t0, t1, fun H1 s1 => .inl ⟨_, rfl, fit (text_len t0 t1) (by decide), _, rfl, ?_, ?_⟩⟩
      · rw [empty_app]
        exact fit (text_len t0 t1) (by decide)
      · rw [empty_app]
        refine ⟨_, rfl, fit (app_len (text_len t0 t1) (show (Str.ofString "/").length ≤ 1 by decide)) (by decide), ?_⟩
        refine ⟨_, rfl, a, CR, dx, _, _, rfl, s1 _ _ ha, T.cl, T.nB, rf_bot t b, b, rfl, by omega, b1, fun H2 s2 => .inl ⟨_, rfl, fit (text_len (by omega) b1) (by decide), _, rfl, ?_, ?_⟩⟩
        · exact fit (app_len (app_len (text_len t0 t1) (show (Str.ofString "/").length ≤ 1 by decide)) (text_len (n := b) (by omega) b1)) (by decide)
        · have z := q H2 (s1.trans s2)
          unfold ctext at z
          rw [if_neg nb] at z
          exact z
theorem scRStr : FnScope ["self"] ["self"] (defScope sRStr) := ⟨rfl, rfl, rfl, by decide +kernel, rfl, by decide +kernel, by decide +kernel⟩
theorem ok_rstr {f fI : Addr} {fd fdI : FuncData} (F : Fun K "__str__" "Ratio.__str__" sRStr f fd) (D : Dn K mg "ratio_text" fI) (G : FnOk P w K mg base CX0 2 fI fdI ["ratio"] (spRatText CR)) (bI : Binds K fdI ["ratio"] []) : FnOk P w K mg base CX0 3 f fd ["self"] (spRatText CR) := by
  refine F.ok scRStr (fun vs H Q E h => ?_) (fun cdv A outer s H vs Q E hr h => ?_)
  · obtain ⟨a, t, b, rfl, _⟩ := h
    rfl
  · obtain ⟨a, t, b, rfl, ra, t0, t1, b0, b1, q⟩ := h
    refine ⟨_, pss_one (ps_ret (pe_joined1 (pe_fmt (pe_call G hr (by rfl) D.gl D.kp bI .nil pass0 (pa_cons (pv 0) pa_nil))))), ?_⟩
    exact ⟨_, rfl, a, t, b, rfl, ra, t0, t1, b0, b1, fun H1 s1 => .inl ⟨_, rfl, fit (ctext_len t0 t1 b0 b1) (by decide), q H1 s1⟩⟩
theorem scREq : FnScope ["self", "other"] ["self", "other"] (defScope sREq) := ⟨rfl, rfl, rfl, by decide +kernel, rfl, by decide +kernel, by decide +kernel⟩
theorem ok_req {f fI : Addr} {fd fdI : FuncData} (F : Fun K "__eq__" "Ratio.__eq__" sREq f fd) (B : Bn mg) (T : RT K mg CR) (D : Dn K mg "is_integer" fI) (G : FnOk P w K mg base CX0 1 fI fdI ["value"] (spIsInt K)) (bI : Binds K fdI ["value"] []) : FnOk P w K mg base CX0 2 f fd ["self", "other"] (spREq CR) := by
  refine F.ok scREq (fun vs H Q E h => ?_) (fun cdv A outer s H vs Q E hr h => ?_)
  · obtain ⟨a, t, b, i, rfl, _⟩ := h
    rfl
  · obtain ⟨a, t, b, i, rfl, ⟨dx, ha⟩, q⟩ := h
    refine ⟨_, pss_cons (ps_if (pt_val (pe_callB call_isi (by rfl) B.isin (by decide +kernel) (pa_cons (pv 1) (pa_cons (pe_glob (v := .ref CR) (by rfl) T.gl rfl) pa_nil)))) (pss_one ps_never) pss_nil)
      (pss_one (ps_ret (pe_and (pe_call G hr (by rfl) D.gl D.kp bI .nil pass0 (pa_cons (pv 1) pa_nil)) (pe_and (pe_cmpR op_eq (pe_fld (pv 0) rfl) pe_int (nomark _)) (pe_one (pe_cmpR op_eq (pe_fld (pv 0) rfl) (pv 1) (nomark _))))))), ?_⟩
    refine ⟨_, rfl, _, _, _, _, false, rfl, .own _, .base (.int _), T.kI, _, rfl, iteF ?_⟩
    refine ⟨_, rfl, _, _, true, false, rfl, .base (.int _), kit_ty (by decide +kernel), kit_ty (by decide +kernel), true, rfl, iteT ?_⟩
    refine ⟨_, rfl, a, CR, dx, _, _, rfl, ha, T.cl, T.nB, rf_bot t b, rfl, _, rfl, ?_⟩
    by_cases e1 : b = 1
    · rw [decide_eq_true (show V.int b = V.int 1 by rw [e1])]
      rw [decide_eq_true e1] at q
      refine iteT ⟨_, rfl, a, CR, dx, _, _, rfl, ha, T.cl, T.nT, rf_top t b, _, rfl, rfl, ?_⟩
      have e2 : decide (V.int t = V.int i) = decide (t = i) := by
        by_cases z : t = i
        · rw [decide_eq_true z, decide_eq_true (by rw [z])]
        · rw [decide_eq_false z, decide_eq_false (fun y => z (V.int.inj y))]
      rw [e2]
      exact q
    · rw [decide_eq_false (fun z => e1 (V.int.inj z) : ¬ V.int b = V.int 1)]
      rw [decide_eq_false e1] at q
      exact iteF q
end
end K09

set_option Elab.async false
set_option linter.all false
set_option maxRecDepth 100000
set_option maxHeartbeats 4000000
namespace K09
open PySem PySem.Spec PyProof.Rows L2 Ux
abbrev sIsName : Stmt := top 33
abbrev sChoice : Stmt := top 34
abbrev sWhole : Stmt := top 35
abbrev sMirror : Stmt := top 36
abbrev sCentre : Stmt := top 37
abbrev sDegree : Stmt := top 38
abbrev sSwap : Stmt := top 39
abbrev sCheck : Stmt := top 40
/-- the constants of the text -/
structure GC (K : PySem.W.Frag) (mg : Str → Option Value) (pK pM pS : Addr) : Prop where
  lt : ∃ t, mg "LETTERS" = some (.str "abcdefghijklmnopqrstuvwxyz" t)
  ml : ∃ t, mg "MOST_LETTERS" = some (.int 6 t)
  md : ∃ t, mg "MOST_DEGREE" = some (.int 3 t)
  gK : mg "KEPT_WORDS" = some (.ref pK)
  kK : ∀ H, SqT K H pK [.str "fn", .str "let", .str "slope"]
  gM : mg "MIRRORS" = some (.ref pM)
  kM : ∀ H, SqT K H pM [.str "even", .str "odd"]
  gS : mg "SWAPS" = some (.ref pS)
  kS : ∀ H, SqT K H pS [.str "same", .str "minus"]
def letters : List Nat := ("abcdefghijklmnopqrstuvwxyz" : Str).cps.toList
/-- whether a text is a name -/
def nameB (z : Str) : Bool := decide (1 ≤ z.length) && decide (z.length ≤ 6) && (z.cps.toList.all (fun c => decide (c ∈ letters)) && !inV (.str z) [.str "fn", .str "let", .str "slope"])
def spIsName (K : PySem.W.Frag) : Sp := fun vs H Q _ => (∃ z : Str, vs = [.str z] ∧ z.length ≤ 1000 ∧ ∀ H', Same H H' → Q (.bl (nameB z)) H') ∨ ∃ v t, vs = [v] ∧ TyX K H v t ∧ PySem.W.kitOne K t (.type "str") = some false ∧ Q (.bl false) H
def spChoice (K : PySem.W.Frag) : Sp := fun vs H Q _ => ∃ (z : Str) (p : Addr) (xs : List V), vs = [.str z, .ref p] ∧ SqT K H p xs ∧ xs.all flatV = true ∧ Q (.bl (inV (.str z) xs)) H
def spWhole : Sp := fun vs H Q _ => ∃ i lo hi : Int, vs = [.int i, .int lo, .int hi] ∧ Q (.bl (decide (lo ≤ i) && decide (i ≤ hi))) H
/-- facts -/
structure FT where
  ar : Int
  mi : Option Str
  t : Int
  b : Int
  dg : Option Int
  sw : Option Str
  deriving DecidableEq
def ov : Option Str → V
  | none => .non
  | some z => .str z
def oi : Option Int → V
  | none => .non
  | some i => .int i
/-- good facts -/
def FOk (f : FT) : Prop := -100 ≤ f.t ∧ f.t ≤ 100 ∧ 0 < f.b ∧ f.b ≤ 100 ∧
  ((f.ar = 2 ∧ f.mi = none ∧ f.dg = none ∧ (f.sw = none ∨ f.sw = some "same" ∨ f.sw = some "minus")) ∨ (f.ar = 1 ∧ f.sw = none ∧ (f.mi = none ∨ f.mi = some "even" ∨ f.mi = some "odd") ∧ (f.dg = none ∨ ∃ d, f.dg = some d ∧ 0 ≤ d ∧ d ≤ 3))) ∧ (f.mi = none → f.t = 0 ∧ f.b = 1)
/-- a centre as it is handed in -/
def CenV (CR : Addr) (H : Hp) (c : V) (t b : Int) : Prop := (∃ r, c = .ref r ∧ RatAt CR H r t b) ∨ (c = .int t ∧ b = 1)
def spMirror : Sp := fun vs H Q _ => ∃ f : FT, vs = [.int f.ar, ov f.mi] ∧ FOk f ∧ Q (.bl true) H
def spCentre (CR : Addr) : Sp := fun vs H Q _ => ∃ (f : FT) (c : V), vs = [ov f.mi, c] ∧ FOk f ∧ CenV CR H c f.t f.b ∧ Q (.bl true) H
def spDegree : Sp := fun vs H Q _ => ∃ f : FT, vs = [.int f.ar, oi f.dg] ∧ FOk f ∧ Q (.bl true) H
def spSwap : Sp := fun vs H Q _ => ∃ f : FT, vs = [.int f.ar, ov f.sw] ∧ FOk f ∧ Q (.bl true) H
def spCheck (CR : Addr) : Sp := fun vs H Q _ => ∃ (f : FT) (c : V), vs = [.int f.ar, ov f.mi, c, oi f.dg, ov f.sw] ∧ FOk f ∧ CenV CR H c f.t f.b ∧ Q .non H
theorem op_or {X : Cx} {f : Value → Value → Sem Value} {r1 r2 : R2} (h1 : OpR X f r1) (h2 : OpR X f r2) : OpR X f (fun x y H Q => r1 x y H Q ∨ r2 x y H Q) := by
  intro pins s σ H x y v u Q I rx ry h
  rcases h with h | h
  · exact h1 pins s σ H x y v u Q I rx ry h
  · exact h2 pins s σ H x y v u Q I rx ry h
section
variable {P : Program} {w : World} {K : PySem.W.Frag} {mg : Str → Option Value} {base : Heap} {CR pK pM pS : Addr}
theorem scIsName : FnScope ["value", "sign"] ["value"] (defScope sIsName) := ⟨rfl, rfl, rfl, by decide +kernel, rfl, by decide +kernel, by decide +kernel⟩
theorem ok_isName {f : Addr} {fd : FuncData} (F : Fun K "is_name" "is_name" sIsName f fd) (B : Bn mg) (C : GC K mg pK pM pS) : FnOk P w K mg base CX0 1 f fd ["value"] (spIsName K) := by
  refine F.ok scIsName (fun vs H Q E h => ?_) (fun cdv A outer s H vs Q E hr h => ?_)
  · rcases h with ⟨z, rfl, _⟩ | ⟨v, t, rfl, _⟩ <;> rfl
  · obtain ⟨t1, lt⟩ := C.lt
    obtain ⟨t2, ml⟩ := C.ml
    refine ⟨_, pss_cons (ps_if (PW.pt (pw_or (pt_not (pt_val (pe_callB call_isi (by rfl) B.isin (by decide +kernel) (pa_cons (pv 0) (pa_cons (pe_bltn (v := .ty "str") (by rfl) B.tstr (by decide +kernel) rfl) pa_nil)))))
          (pw_or1 (pt_not (pt_chain op_le op_le pe_int (pe_callB call_len (by rfl) B.flen (by decide +kernel) (pa_cons (pv 0) pa_nil)) (pe_glob (v := .int 6) (by rfl) ml ⟨_, rfl⟩)))))) (pss_one (ps_ret pe_bl)) pss_nil)
      (pss_one (ps_ret (pe_and (pe_callB (cr_all rfl) (by rfl) B.fall (by decide +kernel) (pa_cons (pe_lc (own := [("sign", 1)]) (g := gName 1) rfl scIsName.nd (pi_str (pv 0)) (blkOk_by (own := [("sign", 1)]) (N := ["value", "sign"]) (sc := defScope sIsName) (by decide +kernel))
          (fun _ _ _ _ _ => pg_name (i := 1) scIsName.nd rfl (Or.inl rfl) (hf := Or.inr rfl)) (fun _ _ _ _ _ => pts_nil) (fun _ _ _ _ _ => pe_cmpR op_in_sign (pv 1) (pe_glob (v := .str "abcdefghijklmnopqrstuvwxyz") (by rfl) lt ⟨_, rfl⟩) (by rfl))) pa_nil))
        (pe_one (pe_cmpR op_notIn_seq (pv 0) (pe_glob (v := .ref pK) (by rfl) C.gK rfl) (by rfl)))))), ?_⟩
    rcases h with ⟨z, rfl, lz, q⟩ | ⟨v, t, rfl, ty, ks, q⟩
    · refine ⟨_, rfl, _, _, _, _, true, rfl, .ty "str", .base (.str _), kit_ty (by decide +kernel), _, rfl, iteF ?_⟩
      refine ⟨_, rfl, _, _, rfl, ⟨fit lz (by decide), rfl⟩, _, _, rfl, rfl, _, rfl, ?_⟩
      by_cases h1 : (1 : Int) ≤ ((z.length : Nat) : Int)
      · rw [decide_eq_true h1]
        refine iteT ⟨_, _, rfl, rfl, _, rfl, ?_⟩
        by_cases h6 : ((z.length : Nat) : Int) ≤ 6
        · rw [decide_eq_true h6]
          refine iteF ?_
          refine ⟨_, rfl, z, rfl, fun D hD => ?_⟩
          refine lc_it walk_str (fun i H' => Same H H' ∧ H' D = some (.lst (((z.cps.toList.take i).map fun c => decide (c ∈ letters)).map V.bl))) ⟨same_upd hD, upd_same⟩ (fun _ _ _ _ => True.intro) ?_ ?_
          · rintro i x H2 H3 hi ⟨s2, d2⟩ ⟨rfl, c, hc, rfl⟩
            refine ⟨rfl, ?_⟩
            refine ⟨_, rfl, c, _, rfl, rfl, _, d2, ?_, fun a o e => ?_, ?_⟩
            · rw [List.length_map, List.length_map, List.length_take]
              have e0 : z.cps.toList.length = z.length := Array.length_toList
              exact small1000 (by omega)
            · rw [upd_ne (ne_of_none e hD)]
              exact s2 a o e
            · have hc' : z.cps.toList[i]? = some c := by
                rw [Array.getElem?_toList]
                exact hc
              have ht : z.cps.toList.take (i + 1) = z.cps.toList.take i ++ [c] := by
                rw [List.take_succ, hc']
                rfl
              rw [upd_same, ht, List.map_append, List.map_append]
              rfl
          · rintro H2 ⟨s2, d2⟩
            have et : z.cps.toList.take z.cps.size = z.cps.toList := by
              rw [← Array.length_toList, List.take_length]
            rw [et] at d2
            refine ⟨D, _, rfl, .of d2, _, rfl, ?_⟩
            have en : nameB z = (((z.cps.toList.map fun c => decide (c ∈ letters)).all id) && !inV (.str z) [.str "fn", .str "let", .str "slope"]) := by
              unfold nameB
              rw [decide_eq_true (by omega : 1 ≤ z.length), decide_eq_true (by omega : z.length ≤ 6), List.all_map]
              rfl
            have qq := q H2 s2
            rw [en] at qq
            cases ha : (z.cps.toList.map fun c => decide (c ∈ letters)).all id with
            | false =>
              rw [ha] at qq
              exact iteF qq
            | true =>
              rw [ha] at qq
              exact iteT ⟨_, rfl, pK, _, rfl, .inr (C.kK _), rfl, rfl, qq⟩
        · rw [decide_eq_false h6]
          refine iteT ?_
          have en : nameB z = false := by
            unfold nameB
            rw [decide_eq_false (by omega : ¬ z.length ≤ 6), Bool.and_false]
            rfl
          have qq := q H (Same.refl H)
          rw [en] at qq
          exact qq
      · rw [decide_eq_false h1]
        refine iteF ⟨_, rfl, iteT ?_⟩
        have en : nameB z = false := by
          unfold nameB
          rw [decide_eq_false (by omega : ¬ 1 ≤ z.length)]
          rfl
        have qq := q H (Same.refl H)
        rw [en] at qq
        exact qq
    · exact ⟨_, rfl, _, _, _, _, false, rfl, .ty "str", ty, ks, _, rfl, iteT q⟩
theorem scChoice : FnScope ["value", "words"] ["value", "words"] (defScope sChoice) := ⟨rfl, rfl, rfl, by decide +kernel, rfl, by decide +kernel, by decide +kernel⟩
theorem ok_choice {f : Addr} {fd : FuncData} (F : Fun K "is_choice" "is_choice" sChoice f fd) (B : Bn mg) : FnOk P w K mg base CX0 1 f fd ["value", "words"] (spChoice K) := by
  refine F.ok scChoice (fun vs H Q E h => ?_) (fun cdv A outer s H vs Q E hr h => ?_)
  · obtain ⟨z, p, xs, rfl, _⟩ := h
    rfl
  · obtain ⟨z, p, xs, rfl, hs, fl, q⟩ := h
    refine ⟨_, pss_one (ps_ret (pe_and (pe_callB call_isi (by rfl) B.isin (by decide +kernel) (pa_cons (pv 0) (pa_cons (pe_bltn (v := .ty "str") (by rfl) B.tstr (by decide +kernel) rfl) pa_nil))) (pe_one (pe_cmpR op_in_seq (pv 0) (pv 1) (by rfl))))), ?_⟩
    exact ⟨_, rfl, _, _, _, _, true, rfl, .ty "str", .base (.str _), kit_ty (by decide +kernel), true, rfl, iteT ⟨_, rfl, _, rfl, p, xs, rfl, .inr hs, rfl, fl, q⟩⟩
theorem scWhole : FnScope ["value", "low", "high"] ["value", "low", "high"] (defScope sWhole) := ⟨rfl, rfl, rfl, by decide +kernel, rfl, by decide +kernel, by decide +kernel⟩
theorem ok_whole {f fI : Addr} {fd fdI : FuncData} (F : Fun K "is_whole_within" "is_whole_within" sWhole f fd) (D : Dn K mg "is_integer" fI) (G : FnOk P w K mg base CX0 1 fI fdI ["value"] (spIsInt K)) (bI : Binds K fdI ["value"] []) : FnOk P w K mg base CX0 2 f fd ["value", "low", "high"] spWhole := by
  refine F.ok scWhole (fun vs H Q E h => ?_) (fun cdv A outer s H vs Q E hr h => ?_)
  · obtain ⟨i, lo, hi, rfl, _⟩ := h
    rfl
  · obtain ⟨i, lo, hi, rfl, q⟩ := h
    refine ⟨_, pss_one (ps_ret (pe_and (pe_call G hr (by rfl) D.gl D.kp bI .nil pass0 (pa_cons (pv 0) pa_nil)) (pe_one (pe_chain op_le op_le (pv 1) (pv 0) (pv 2))))), ?_⟩
    refine ⟨_, rfl, _, _, true, false, rfl, .base (.int _), kit_ty (by decide +kernel), kit_ty (by decide +kernel), true, rfl, iteT ?_⟩
    refine ⟨_, rfl, _, rfl, _, _, rfl, rfl, _, rfl, ?_⟩
    cases hlo : decide (lo ≤ i) with
    | true =>
      rw [hlo] at q
      exact iteT ⟨_, rfl, _, _, rfl, rfl, q⟩
    | false =>
      rw [hlo] at q
      exact iteF q
theorem scMirror : FnScope ["arity", "mirror"] ["arity", "mirror"] (defScope sMirror) := ⟨rfl, rfl, rfl, by decide +kernel, rfl, by decide +kernel, by decide +kernel⟩
theorem ok_mirror {f fC : Addr} {fd fdC : FuncData} (F : Fun K "is_mirror" "is_mirror" sMirror f fd) (C : GC K mg pK pM pS) (D : Dn K mg "is_choice" fC) (G : FnOk P w K mg base CX0 1 fC fdC ["value", "words"] (spChoice K)) (bC : Binds K fdC ["value", "words"] []) : FnOk P w K mg base CX0 2 f fd ["arity", "mirror"] spMirror := by
  refine F.ok scMirror (fun vs H Q E h => ?_) (fun cdv A outer s H vs Q E hr h => ?_)
  · obtain ⟨f, rfl, _⟩ := h
    rfl
  · obtain ⟨⟨ar, mi, t, b, dg, sw⟩, rfl, ok, q⟩ := h
    refine ⟨_, pss_one (ps_ret (pe_or (pe_cmpR op_isN (pv 1) pe_non (nomark _)) (pe_one (pe_and (pe_cmpR op_eq (pv 0) pe_int (nomark _)) (pe_one (pe_call G hr (by rfl) D.gl D.kp bC .nil pass0 (pa_cons (pv 1) (pa_cons (pe_glob (v := .ref pM) (by rfl) C.gM rfl) pa_nil)))))))), ?_⟩
    cases mi with
    | none => exact ⟨_, rfl, rfl, true, rfl, iteT q⟩
    | some z =>
      obtain ⟨_, _, _, _, ⟨_, h, _⟩ | ⟨e1, _, h, _⟩, _⟩ := ok
      · cases h
      · have ea : ar = 1 := e1
        subst ea
        refine ⟨_, rfl, rfl, false, rfl, iteF ⟨_, rfl, rfl, true, rfl, iteT ?_⟩⟩
        refine ⟨_, rfl, z, pM, _, rfl, C.kM _, rfl, ?_⟩
        rcases h with h | h | h
        · cases h
        · obtain rfl := Option.some.inj (show some z = some "even" from h)
          exact q
        · obtain rfl := Option.some.inj (show some z = some "odd" from h)
          exact q
theorem scSwap : FnScope ["arity", "swap"] ["arity", "swap"] (defScope sSwap) := ⟨rfl, rfl, rfl, by decide +kernel, rfl, by decide +kernel, by decide +kernel⟩
theorem ok_swap {f fC : Addr} {fd fdC : FuncData} (F : Fun K "is_swap" "is_swap" sSwap f fd) (C : GC K mg pK pM pS) (D : Dn K mg "is_choice" fC) (G : FnOk P w K mg base CX0 1 fC fdC ["value", "words"] (spChoice K)) (bC : Binds K fdC ["value", "words"] []) : FnOk P w K mg base CX0 2 f fd ["arity", "swap"] spSwap := by
  refine F.ok scSwap (fun vs H Q E h => ?_) (fun cdv A outer s H vs Q E hr h => ?_)
  · obtain ⟨f, rfl, _⟩ := h
    rfl
  · obtain ⟨⟨ar, mi, t, b, dg, sw⟩, rfl, ok, q⟩ := h
    refine ⟨_, pss_one (ps_ret (pe_or (pe_cmpR op_isN (pv 1) pe_non (nomark _)) (pe_one (pe_and (pe_cmpR op_eq (pv 0) pe_int (nomark _)) (pe_one (pe_call G hr (by rfl) D.gl D.kp bC .nil pass0 (pa_cons (pv 1) (pa_cons (pe_glob (v := .ref pS) (by rfl) C.gS rfl) pa_nil)))))))), ?_⟩
    cases sw with
    | none => exact ⟨_, rfl, rfl, true, rfl, iteT q⟩
    | some z =>
      obtain ⟨_, _, _, _, ⟨e1, _, _, h⟩ | ⟨_, h, _⟩, _⟩ := ok
      · have ea : ar = 2 := e1
        subst ea
        refine ⟨_, rfl, rfl, false, rfl, iteF ⟨_, rfl, rfl, true, rfl, iteT ?_⟩⟩
        refine ⟨_, rfl, z, pS, _, rfl, C.kS _, rfl, ?_⟩
        rcases h with h | h | h
        · cases h
        · obtain rfl := Option.some.inj (show some z = some "same" from h)
          exact q
        · obtain rfl := Option.some.inj (show some z = some "minus" from h)
          exact q
      · cases h
theorem scDegree : FnScope ["arity", "degree"] ["arity", "degree"] (defScope sDegree) := ⟨rfl, rfl, rfl, by decide +kernel, rfl, by decide +kernel, by decide +kernel⟩
theorem ok_degree {f fC : Addr} {fd fdC : FuncData} (F : Fun K "is_degree" "is_degree" sDegree f fd) (C : GC K mg pK pM pS) (D : Dn K mg "is_whole_within" fC) (G : FnOk P w K mg base CX0 2 fC fdC ["value", "low", "high"] spWhole) (bC : Binds K fdC ["value", "low", "high"] []) : FnOk P w K mg base CX0 3 f fd ["arity", "degree"] spDegree := by
  refine F.ok scDegree (fun vs H Q E h => ?_) (fun cdv A outer s H vs Q E hr h => ?_)
  · obtain ⟨f, rfl, _⟩ := h
    rfl
  · obtain ⟨⟨ar, mi, t, b, dg, sw⟩, rfl, ok, q⟩ := h
    obtain ⟨t3, md⟩ := C.md
    refine ⟨_, pss_one (ps_ret (pe_or (pe_cmpR op_isN (pv 1) pe_non (nomark _)) (pe_one (pe_and (pe_cmpR op_eq (pv 0) pe_int (nomark _)) (pe_one (pe_call G hr (by rfl) D.gl D.kp bC .nil pass0 (pa_cons (pv 1) (pa_cons pe_int (pa_cons (pe_glob (v := .int 3) (by rfl) md ⟨_, rfl⟩) pa_nil))))))))), ?_⟩
    cases dg with
    | none => exact ⟨_, rfl, rfl, true, rfl, iteT q⟩
    | some d =>
      obtain ⟨_, _, _, _, ⟨_, _, h, _⟩ | ⟨e1, _, _, h⟩, _⟩ := ok
      · cases h
      · have ea : ar = 1 := e1
        subst ea
        refine ⟨_, rfl, rfl, false, rfl, iteF ⟨_, rfl, rfl, true, rfl, iteT ?_⟩⟩
        refine ⟨_, rfl, d, 0, 3, rfl, ?_⟩
        rcases h with h | ⟨d', h, d0, d3⟩
        · cases h
        · obtain rfl := Option.some.inj (show some d = some d' from h)
          rw [decide_eq_true d0, decide_eq_true d3]
          exact q
theorem scCentre : FnScope ["mirror", "centre"] ["mirror", "centre"] (defScope sCentre) := ⟨rfl, rfl, rfl, by decide +kernel, rfl, by decide +kernel, by decide +kernel⟩
theorem ok_centre {f fN fE : Addr} {fd fdN fdE : FuncData} (F : Fun K "is_centre" "is_centre" sCentre f fd) (T : RT K mg CR) (nf : PySem.W.notFirst K CR (.type "int") = true) (M : OwnM K CR "__eq__" fE) (GE : FnOk P w K mg base CX0 2 fE fdE ["self", "other"] (spREq CR)) (bE : Binds K fdE ["self", "other"] [])
    (D : Dn K mg "is_number" fN) (G : FnOk P w K mg base CX0 2 fN fdN ["value"] (spIsNum K CR)) (bN : Binds K fdN ["value"] []) : FnOk P w K mg base CX0 3 f fd ["mirror", "centre"] (spCentre CR) := by
  refine F.ok scCentre (fun vs H Q E h => ?_) (fun cdv A outer s H vs Q E hr h => ?_)
  · obtain ⟨f, c, rfl, _⟩ := h
    rfl
  · obtain ⟨⟨ar, mi, t, b, dg, sw⟩, c, rfl, ok, cv, q⟩ := h
    refine ⟨_, pss_one (ps_ret (pe_and (pe_call G hr (by rfl) D.gl D.kp bN .nil pass0 (pa_cons (pv 1) pa_nil)) (pe_one (pe_or (pe_cmpR op_notN (pv 0) pe_non (nomark _)) (pe_one (pe_cmpR (op_or op_eq (op_eqO M GE bE hr)) (pv 1) pe_int (nomark _))))))), ?_⟩
    refine ⟨_, rfl, c, rfl, ?_, true, rfl, iteT ?_⟩
    · rcases cv with ⟨r, rfl, ra⟩ | ⟨rfl, _⟩
      · exact .inl ⟨r, _, _, rfl, ra⟩
      · exact .inr ⟨_, rfl⟩
    · cases mi with
      | some z => exact ⟨_, rfl, rfl, true, rfl, iteT q⟩
      | none =>
        obtain ⟨_, _, _, _, _, h⟩ := ok
        obtain ⟨rfl, rfl⟩ : t = 0 ∧ b = 1 := h rfl
        refine ⟨_, rfl, rfl, false, rfl, iteF ⟨_, rfl, ?_⟩⟩
        rcases cv with ⟨r, rfl, ra⟩ | ⟨rfl, _⟩
        · obtain ⟨dx, hx⟩ := id ra
          exact .inr ⟨r, dx, _, .type "int", rfl, hx, .base (.int _), nf, r, 0, 1, 0, rfl, ra, true, rfl, q⟩
        · exact .inl ⟨rfl, q⟩
theorem scCheck : FnScope ["arity", "mirror", "centre", "degree", "swap"] ["arity", "mirror", "centre", "degree", "swap"] (defScope sCheck) := ⟨rfl, rfl, rfl, by decide +kernel, rfl, by decide +kernel, by decide +kernel⟩
theorem ok_check {f fW fM fC fD fS : Addr} {fd fdW fdM fdC fdD fdS : FuncData} (F : Fun K "check_facts" "check_facts" sCheck f fd)
    (DW : Dn K mg "is_whole_within" fW) (GW : FnOk P w K mg base CX0 2 fW fdW ["value", "low", "high"] spWhole) (bW : Binds K fdW ["value", "low", "high"] [])
    (DM : Dn K mg "is_mirror" fM) (GM : FnOk P w K mg base CX0 2 fM fdM ["arity", "mirror"] spMirror) (bM : Binds K fdM ["arity", "mirror"] [])
    (DC : Dn K mg "is_centre" fC) (GCe : FnOk P w K mg base CX0 3 fC fdC ["mirror", "centre"] (spCentre CR)) (bC : Binds K fdC ["mirror", "centre"] [])
    (DD : Dn K mg "is_degree" fD) (GD : FnOk P w K mg base CX0 3 fD fdD ["arity", "degree"] spDegree) (bD : Binds K fdD ["arity", "degree"] [])
    (DS : Dn K mg "is_swap" fS) (GS : FnOk P w K mg base CX0 2 fS fdS ["arity", "swap"] spSwap) (bS : Binds K fdS ["arity", "swap"] []) : FnOk P w K mg base CX0 4 f fd ["arity", "mirror", "centre", "degree", "swap"] (spCheck CR) := by
  refine F.ok scCheck (fun vs H Q E h => ?_) (fun cdv A outer s H vs Q E hr h => ?_)
  · obtain ⟨f, c, rfl, _⟩ := h
    rfl
  · obtain ⟨f, c, rfl, ok, cv, q⟩ := h
    have r2 : Room 2 _ := hr.mono (by decide)
    refine ⟨_, pss_cons (ps_if (pt_not (pt_val (pe_call GW r2 (by rfl) DW.gl DW.kp bW .nil pass0 (pa_cons (pv 0) (pa_cons pe_int (pa_cons pe_int pa_nil)))))) (pss_one ps_never) pss_nil)
      (pss_cons (ps_if (pt_not (pt_val (pe_call GM r2 (by rfl) DM.gl DM.kp bM .nil pass0 (pa_cons (pv 0) (pa_cons (pv 1) pa_nil))))) (pss_one ps_never) pss_nil)
      (pss_cons (ps_if (pt_not (pt_val (pe_call GCe hr (by rfl) DC.gl DC.kp bC .nil pass0 (pa_cons (pv 1) (pa_cons (pv 2) pa_nil))))) (pss_one ps_never) pss_nil)
      (pss_cons (ps_if (pt_not (pt_val (pe_call GD hr (by rfl) DD.gl DD.kp bD .nil pass0 (pa_cons (pv 0) (pa_cons (pv 3) pa_nil))))) (pss_one ps_never) pss_nil)
      (pss_one (ps_if (pt_not (pt_val (pe_call GS r2 (by rfl) DS.gl DS.kp bS .nil pass0 (pa_cons (pv 0) (pa_cons (pv 4) pa_nil))))) (pss_one ps_never) pss_nil))))), ?_⟩
    refine ⟨_, rfl, f.ar, 1, 2, rfl, _, rfl, ?_⟩
    have e1 : (decide (1 ≤ f.ar) && decide (f.ar ≤ 2)) = true := by
      obtain ⟨_, _, _, _, ⟨h, _⟩ | ⟨h, _⟩, _⟩ := ok <;> rw [h] <;> rfl
    rw [e1]
    refine iteF ?_
    refine ⟨_, rfl, _, rfl, f, rfl, ok, _, rfl, iteF ?_⟩
    refine ⟨_, rfl, _, rfl, f, c, rfl, ok, cv, _, rfl, iteF ?_⟩
    refine ⟨_, rfl, _, rfl, f, rfl, ok, _, rfl, iteF ?_⟩
    exact ⟨_, rfl, _, rfl, f, rfl, ok, _, rfl, iteF q⟩
end
end K09

set_option Elab.async false
set_option linter.all false
set_option maxRecDepth 100000
set_option maxHeartbeats 4000000
namespace K09
open PySem PySem.Spec PyProof.Rows L2 Ux
abbrev sFText : Stmt := top 41
abbrev sUInit : Stmt := inClass (top 42) 0
abbrev sFree : Stmt := inClass (top 42) 2
abbrev sUEq : Stmt := inClass (top 42) 3
abbrev sUStr : Stmt := inClass (top 42) 4
abbrev sURepr : Stmt := inClass (top 42) 5
/-! ### the text of facts -/
def mw (f : FT) : List Str := match f.mi with
  | none => []
  | some z => [z, ctext f.t f.b]
def dw (f : FT) : List Str := match f.dg with
  | none => []
  | some d => ["degree", (toString d : Str)]
def sw' (f : FT) : List Str := match f.sw with
  | none => []
  | some z => [z]
def fwords (f : FT) : List Str := (([(toString f.ar : Str)] ++ mw f) ++ dw f) ++ sw' f
def ftext (f : FT) : Str := Txt.join " " (fwords f)
/-- a list of few short words -/
def Short (n : Nat) (ws : List Str) : Prop := ws.length ≤ n ∧ ∀ x ∈ ws, x.length ≤ 30
theorem Short.app {n m : Nat} {a b : List Str} (h : Short n a) (k : Short m b) : Short (n + m) (a ++ b) := by
  refine ⟨?_, fun x hx => ?_⟩
  · rw [List.length_append]
    have := h.1
    have := k.1
    omega
  · rcases List.mem_append.mp hx with z | z
    · exact h.2 x z
    · exact k.2 x z
theorem Short.sum {n : Nat} : ∀ {ws : List Str}, Short n ws → (ws.map (·.length)).sum ≤ 30 * ws.length
  | [], _ => Nat.zero_le _
  | x :: ws, h => by
    have h1 := h.2 x (List.mem_cons_self ..)
    have h2 : Short ws.length ws := ⟨Nat.le_refl _, fun y hy => h.2 y (List.mem_cons_of_mem _ hy)⟩
    have h3 := Short.sum h2
    rw [List.map_cons, List.sum_cons, List.length_cons]
    omega
theorem short_ar {f : FT} (ok : FOk f) : Short 1 [(toString f.ar : Str)] := ⟨Nat.le_refl _, fun x hx => by
  rw [List.mem_singleton] at hx
  subst hx
  obtain ⟨_, _, _, _, ⟨h, _⟩ | ⟨h, _⟩, _⟩ := ok <;> rw [h] <;> decide⟩
theorem short_mw {f : FT} (ok : FOk f) : Short 2 (mw f) := by
  unfold mw
  cases hm : f.mi with
  | none => exact ⟨Nat.zero_le _, fun x hx => by cases hx⟩
  | some z =>
    refine ⟨Nat.le_refl _, fun x hx => ?_⟩
    obtain ⟨t0, t1, b0, b1, ⟨_, h, _⟩ | ⟨_, _, h, _⟩, _⟩ := ok
    · rw [hm] at h
      cases h
    · rcases List.mem_cons.mp hx with e | e
      · subst e
        rw [hm] at h
        rcases h with h | h | h
        · cases h
        · obtain rfl := Option.some.inj h
          decide
        · obtain rfl := Option.some.inj h
          decide
      · rw [List.mem_singleton] at e
        subst e
        exact ctext_len t0 t1 b0 b1
theorem short_dw {f : FT} (ok : FOk f) : Short 2 (dw f) := by
  unfold dw
  cases hm : f.dg with
  | none => exact ⟨Nat.zero_le _, fun x hx => by cases hx⟩
  | some d =>
    refine ⟨Nat.le_refl _, fun x hx => ?_⟩
    obtain ⟨_, _, _, _, ⟨_, _, h, _⟩ | ⟨_, _, _, h⟩, _⟩ := ok
    · rw [hm] at h
      cases h
    · rw [hm] at h
      rcases h with h | ⟨d', h, d0, d3⟩
      · cases h
      · obtain rfl := Option.some.inj h
        rcases List.mem_cons.mp hx with e | e
        · subst e
          decide
        · rw [List.mem_singleton] at e
          subst e
          exact Nat.le_trans (text_len (by omega) (by omega)) (by decide)
theorem short_sw {f : FT} (ok : FOk f) : Short 1 (sw' f) := by
  unfold sw'
  cases hm : f.sw with
  | none => exact ⟨Nat.zero_le _, fun x hx => by cases hx⟩
  | some z =>
    refine ⟨Nat.le_refl _, fun x hx => ?_⟩
    rw [List.mem_singleton] at hx
    subst hx
    obtain ⟨_, _, _, _, ⟨_, _, _, h⟩ | ⟨_, h, _⟩, _⟩ := ok
    · rw [hm] at h
      rcases h with h | h | h
      · cases h
      · obtain rfl := Option.some.inj h
        decide
      · obtain rfl := Option.some.inj h
        decide
    · rw [hm] at h
      cases h
def spFText (CR : Addr) : Sp := fun vs H Q _ => ∃ (f : FT) (r : Addr), vs = [.int f.ar, ov f.mi, .ref r, oi f.dg, ov f.sw] ∧ FOk f ∧ RatAt CR H r f.t f.b ∧ ∀ H', Same H H' → Q (.str (ftext f)) H'
section
variable {P : Program} {w : World} {K : PySem.W.Frag} {mg : Str → Option Value} {base : Heap} {CR CU : Addr}
theorem scFText : FnScope ["arity", "mirror", "centre", "degree", "swap", "words"] ["arity", "mirror", "centre", "degree", "swap"] (defScope sFText) := ⟨rfl, rfl, rfl, by decide +kernel, rfl, by decide +kernel, by decide +kernel⟩
theorem ov_some (z : Str) : decide (ov (some z) = V.non) = false := rfl
theorem ok_fText {f fS : Addr} {fd fdS : FuncData} (F : Fun K "facts_text" "facts_text" sFText f fd) (B : Bn mg) (M : OwnM K CR "__str__" fS) (G : FnOk P w K mg base CX0 3 fS fdS ["self"] (spRatText CR)) (bS : Binds K fdS ["self"] []) : FnOk P w K mg base CX0 6 f fd ["arity", "mirror", "centre", "degree", "swap"] (spFText CR) := by
  refine F.ok scFText (fun vs H Q E h => ?_) (fun cdv A outer s H vs Q E hr h => ?_)
  · obtain ⟨f, r, rfl, _⟩ := h
    rfl
  · obtain ⟨f, r, rfl, ok, ra, q⟩ := h
    refine ⟨_, pss_cons (ps_set (i := 5) scFText.nd rfl (Or.inl rfl) (pe_lst (pa_cons (pe_callTy call_str_int (by rfl) B.tstr (by decide +kernel) (pa_cons (pv 0) pa_nil)) pa_nil)))
      (C8.pss_cut (ps_if (pt_cmpR op_notN (pv 1) pe_non (nomark _)) (pss_one (ps_expr (pe_bm PySem.F.plainAttrs_list PySem.F.slot_list_extend PySem.F.type_list_extend mt_extend (pv 5) (pa_cons (pe_lst (pa_cons (pv 1) (pa_cons (pe_callTy (call_strO M G bS hr) (by rfl) B.tstr (by decide +kernel) (pa_cons (pv 2) pa_nil)) pa_nil))) pa_nil)))) pss_nil)
      (C8.pss_cut (ps_if (pt_cmpR op_notN (pv 3) pe_non (nomark _)) (pss_one (ps_expr (pe_bm PySem.F.plainAttrs_list PySem.F.slot_list_extend PySem.F.type_list_extend mt_extend (pv 5) (pa_cons (pe_lst (pa_cons pe_str (pa_cons (pe_callTy call_str_int (by rfl) B.tstr (by decide +kernel) (pa_cons (pv 3) pa_nil)) pa_nil))) pa_nil)))) pss_nil)
      (C8.pss_cut (ps_if (pt_cmpR op_notN (pv 4) pe_non (nomark _)) (pss_one (ps_expr (pe_bm PySem.F.plainAttrs_list PySem.F.slot_list_append PySem.F.type_list_append mt_append (pv 5) (pa_cons (pv 4) pa_nil)))) pss_nil)
      (pss_one (ps_ret (pe_join pe_str (pv 5))))))), ?_⟩
    obtain ⟨t0, t1, b0, b1, kind, _⟩ := id ok
    have ar0 : -100 ≤ f.ar ∧ f.ar ≤ 100 := by rcases kind with ⟨h, _⟩ | ⟨h, _⟩ <;> omega
    have sa := short_ar ok
    have sm := short_mw ok
    have sd := short_dw ok
    have ss := short_sw ok
    refine ⟨_, rfl, _, rfl, log2_100 ar0.1 ar0.2, (by show 1 ≤ sizeLine; decide), fun p hp => ?_⟩
    refine ⟨fun σ H' => σ = [some (.int f.ar), some (ov f.mi), some (.ref r), some (oi f.dg), some (ov f.sw), some (.ref p)] ∧ Same H H' ∧ H' p = some (.lst (([(toString f.ar : Str)] ++ mw f).map V.str)), ?_, ?_⟩
    · refine ⟨_, rfl, rfl, _, rfl, ?_⟩
      cases hm : f.mi with
      | none =>
        refine iteF ⟨by first | rfl | (rw [← hm]; done) | (rw [← hm]; rfl), same_upd hp, ?_⟩
        have e : mw f = [] := by unfold mw; rw [hm]
        rw [e, upd_same]
        rfl
      | some z =>
        refine iteT ?_
        have hp1 : upd H p (.lst [V.str (toString f.ar)]) p = some (.lst [V.str (toString f.ar)]) := upd_same
        obtain ⟨dx, hx⟩ := id ra
        have s1 : Same H (upd H p (.lst [V.str (toString f.ar)])) := same_upd hp
        refine ⟨_, rfl, .inl ⟨rfl, _, SqL.of hp1⟩, _, rfl, _, rfl, r, dx, _, rfl, s1 _ _ hx, r, f.t, f.b, rfl, ra.same s1, t0, t1, b0, b1, fun H2 s2 => ⟨_, rfl, (by show 2 ≤ sizeLine; decide), fun l hl => ?_⟩⟩
        have n2 := s2 _ _ hp1
        have n3 : upd H2 l (.lst [V.str z, V.str (ctext f.t f.b)]) p = some (.lst [V.str (toString f.ar)]) := (upd_ne (ne_of_none n2 hl)).trans n2
        refine ⟨p, l, _, _, rfl, rfl, n3, upd_same, (by show 1 + 2 ≤ sizeLine; decide), ?_⟩
        refine ⟨by first | rfl | (rw [← hm]; done) | (rw [← hm]; rfl), fun c o e => ?_, ?_⟩
        · rw [upd_ne (ne_of_none e hp)]
          have e1 := s2 _ _ (s1 _ _ e)
          rw [upd_ne (ne_of_none e1 hl)]
          exact e1
        · have e : mw f = [z, ctext f.t f.b] := by unfold mw; rw [hm]
          rw [e, upd_same]
          rfl
    · rintro σ H1 ⟨rfl, s1, hp1⟩
      refine ⟨fun σ H' => σ = [some (.int f.ar), some (ov f.mi), some (.ref r), some (oi f.dg), some (ov f.sw), some (.ref p)] ∧ Same H H' ∧ H' p = some (.lst ((([(toString f.ar : Str)] ++ mw f) ++ dw f).map V.str)), ?_, ?_⟩
      · refine ⟨_, rfl, rfl, _, rfl, ?_⟩
        cases hm : f.dg with
        | none =>
          refine iteF ⟨by first | rfl | (rw [← hm]; done) | (rw [← hm]; rfl), s1, ?_⟩
          have e : dw f = [] := by unfold dw; rw [hm]
          rw [e, List.append_nil]
          exact hp1
        | some d =>
          refine iteT ?_
          have d03 : -100 ≤ d ∧ d ≤ 100 := by
            rcases kind with ⟨_, _, h, _⟩ | ⟨_, _, _, h⟩
            · rw [hm] at h
              cases h
            · rw [hm] at h
              rcases h with h | ⟨d', h, d0, d3⟩
              · cases h
              · have := Option.some.inj h
                omega
          refine ⟨_, rfl, .inl ⟨rfl, _, SqL.of hp1⟩, _, rfl, _, rfl, log2_100 d03.1 d03.2, (by show 2 ≤ sizeLine; decide), fun l hl => ?_⟩
          have n3 : upd H1 l (.lst [V.str "degree", V.str (toString d)]) p = _ := (upd_ne (ne_of_none hp1 hl)).trans hp1
          refine ⟨p, l, _, _, rfl, rfl, n3, upd_same, ?_, ?_⟩
          · rw [List.length_map]
            have := (sa.app sm).1
            exact fit (m := 10) (by show _ + 2 ≤ 10; omega) (by decide)
          · refine ⟨by first | rfl | (rw [← hm]; done) | (rw [← hm]; rfl), fun c o e => ?_, ?_⟩
            · rw [upd_ne (ne_of_none e hp)]
              have e1 := s1 _ _ e
              rw [upd_ne (ne_of_none e1 hl)]
              exact e1
            · have e : dw f = [("degree" : Str), (toString d : Str)] := by unfold dw; rw [hm]
              rw [e, upd_same]
              simp only [List.map_append]
              rfl
      · clear hp1 s1 H1
        rintro σ H1 ⟨rfl, s1, hp1⟩
        refine ⟨fun σ H' => σ = [some (.int f.ar), some (ov f.mi), some (.ref r), some (oi f.dg), some (ov f.sw), some (.ref p)] ∧ Same H H' ∧ H' p = some (.lst ((fwords f).map V.str)), ?_, ?_⟩
        · refine ⟨_, rfl, rfl, _, rfl, ?_⟩
          cases hm : f.sw with
          | none =>
            refine iteF ⟨by first | rfl | (rw [← hm]; done) | (rw [← hm]; rfl), s1, ?_⟩
            have e : sw' f = [] := by unfold sw'; rw [hm]
            unfold fwords
            rw [e, List.append_nil]
            exact hp1
          | some z =>
            refine iteT ⟨_, rfl, .inl ⟨rfl, _, SqL.of hp1⟩, _, rfl, p, _, _, rfl, rfl, hp1, ?_, ?_⟩
            · rw [List.length_map]
              have := ((sa.app sm).app sd).1
              exact small1000 (by omega)
            · refine ⟨by first | rfl | (rw [← hm]; done) | (rw [← hm]; rfl), fun c o e => ?_, ?_⟩
              · rw [upd_ne (ne_of_none e hp)]
                exact s1 _ _ e
              · have e : sw' f = [z] := by unfold sw'; rw [hm]
                unfold fwords
                rw [e, upd_same]
                simp only [List.map_append]
                rfl
        · clear hp1 s1 H1
          rintro σ H1 ⟨rfl, s1, hp1⟩
          have sf : Short 6 (fwords f) := ((sa.app sm).app sd).app ss
          refine ⟨⟨_, rfl⟩, _, rfl, _, p, fwords f, rfl, rfl, .inl (.of hp1), ?_, q H1 s1⟩
          have h1 := sf.sum
          have h2 := sf.1
          have h3 : (" " : Str).length = 1 := by decide
          rw [h3]
          omega
end
end K09

set_option Elab.async false
set_option linter.all false
set_option maxRecDepth 100000
set_option maxHeartbeats 4000000
namespace K09
open PySem PySem.Spec PyProof.Rows L2 Ux
theorem putF_len (f : Str) (v : V) : ∀ fs : List (Str × V), (putF f v fs).length ≤ fs.length + 1
  | [] => Nat.le_refl _
  | (g, x) :: r => by
    unfold putF
    split
    · exact Nat.le_succ _
    · have := putF_len f v r
      simp only [List.length_cons]
      omega
theorem ftext_len {f : FT} (ok : FOk f) : (ftext f).length ≤ 400 := by
  have sf : Short 6 (fwords f) := (((short_ar ok).app (short_mw ok)).app (short_dw ok)).app (short_sw ok)
  have h1 := sf.sum
  have h2 := sf.1
  have e0 : Txt.join " " (fwords f) = Str.join " " (fwords f) := StrLaws.glued_eq_join _ _
  unfold ftext
  rw [e0]
  refine Nat.le_trans (StrLaws.join_length_le _ _) ?_
  have e : (" " : Str).length = 1 := by decide
  rw [e]
  omega
/-- the class Unseen -/
structure UT (K : PySem.W.Frag) (mg : Str → Option Value) (CU : Addr) : Prop where
  cl : Cls K CU
  n1 : NoAttr K CU "arity"
  n2 : NoAttr K CU "mirror"
  n3 : NoAttr K CU "centre"
  n4 : NoAttr K CU "degree"
  n5 : NoAttr K CU "swap"
  n6 : NoAttr K CU "text"
  gl : mg "Unseen" = some (.ref CU)
  ha : PySem.W.findIn K (.ref CU) "__class__" = some (some (.builtin "object.__class__"))
  hn : PySem.W.specialIn K (.builtin "object.__class__") "__get__" = some (some (.builtin "getset_descriptor.__get__"))
  ht : PySem.W.takesIn K (.builtin "object.__class__") = some true
  hm : PySem.W.mroIn K CU (.type "object") = some true
  kU : PySem.W.kitOne K (.ref CU) (.ref CU) = some true
  kS : PySem.W.kitOne K (.type "str") (.ref CU) = some false
  f1 : PySem.W.notFirst K CU (.ref CU) = true
  f2 : PySem.W.notFirst K CU (.type "str") = true
/-- the fields of an Unseen -/
def u1 (f : FT) : List (Str × V) := putF "arity" (.int f.ar) []
def u2 (f : FT) : List (Str × V) := putF "mirror" (ov f.mi) (u1 f)
def u3 (f : FT) (r : Addr) : List (Str × V) := putF "centre" (.ref r) (u2 f)
def u4 (f : FT) (r : Addr) : List (Str × V) := putF "degree" (oi f.dg) (u3 f r)
def u5 (f : FT) (r : Addr) : List (Str × V) := putF "swap" (ov f.sw) (u4 f r)
def u6 (f : FT) (r : Addr) : List (Str × V) := putF "text" (.str (ftext f)) (u5 f r)
theorem l1 (f : FT) : (u1 f).length < 1000 := Nat.lt_of_le_of_lt (putF_len _ _ _) (by show 1 < 1000; decide)
theorem l1' (f : FT) : (u1 f).length ≤ 1 := putF_len _ _ _
theorem l2' (f : FT) : (u2 f).length ≤ 2 := Nat.le_trans (putF_len _ _ _) (Nat.succ_le_succ (l1' f))
theorem l3' (f : FT) (r : Addr) : (u3 f r).length ≤ 3 := Nat.le_trans (putF_len _ _ _) (Nat.succ_le_succ (l2' f))
theorem l4' (f : FT) (r : Addr) : (u4 f r).length ≤ 4 := Nat.le_trans (putF_len _ _ _) (Nat.succ_le_succ (l3' f r))
theorem l5' (f : FT) (r : Addr) : (u5 f r).length ≤ 5 := Nat.le_trans (putF_len _ _ _) (Nat.succ_le_succ (l4' f r))
theorem neq (a b : Str) (h : decide (a = b) = false := by decide +kernel) : ¬ a = b := of_decide_eq_false h
theorem gAr (f : FT) (r : Addr) : (u6 f r).lookup ("arity" : Str) = some (.int f.ar) := by
  unfold u6 u5 u4 u3 u2 u1
  rw [lookup_putF, if_neg (neq _ _), lookup_putF, if_neg (neq _ _), lookup_putF, if_neg (neq _ _), lookup_putF, if_neg (neq _ _), lookup_putF, if_neg (neq _ _), lookup_putF, if_pos rfl]
theorem gMi (f : FT) (r : Addr) : (u6 f r).lookup ("mirror" : Str) = some (ov f.mi) := by
  unfold u6 u5 u4 u3 u2
  rw [lookup_putF, if_neg (neq _ _), lookup_putF, if_neg (neq _ _), lookup_putF, if_neg (neq _ _), lookup_putF, if_neg (neq _ _), lookup_putF, if_pos rfl]
theorem gCe5 (f : FT) (r : Addr) : (u5 f r).lookup ("centre" : Str) = some (.ref r) := by
  unfold u5 u4 u3
  rw [lookup_putF, if_neg (neq _ _), lookup_putF, if_neg (neq _ _), lookup_putF, if_pos rfl]
theorem gCe (f : FT) (r : Addr) : (u6 f r).lookup ("centre" : Str) = some (.ref r) := by
  unfold u6
  rw [lookup_putF, if_neg (neq _ _), gCe5]
theorem gDg (f : FT) (r : Addr) : (u6 f r).lookup ("degree" : Str) = some (oi f.dg) := by
  unfold u6 u5 u4
  rw [lookup_putF, if_neg (neq _ _), lookup_putF, if_neg (neq _ _), lookup_putF, if_pos rfl]
theorem gSw (f : FT) (r : Addr) : (u6 f r).lookup ("swap" : Str) = some (ov f.sw) := by
  unfold u6 u5
  rw [lookup_putF, if_neg (neq _ _), lookup_putF, if_pos rfl]
theorem gTx (f : FT) (r : Addr) : (u6 f r).lookup ("text" : Str) = some (.str (ftext f)) := by
  unfold u6
  rw [lookup_putF, if_pos rfl]
/-- an Unseen at a -/
def UnsAt (CR CU : Addr) (H : Hp) (a : Addr) (f : FT) : Prop := ∃ dx r, H a = some (.ins CU dx (u6 f r)) ∧ RatAt CR H r f.t f.b
theorem UnsAt.same {CR CU : Addr} {H H' : Hp} {a : Addr} {f : FT} (h : UnsAt CR CU H a f) (s : Same H H') : UnsAt CR CU H' a f := by
  obtain ⟨dx, r, h, k⟩ := h
  exact ⟨dx, r, s _ _ h, k.same s⟩
theorem UnsAt.ty {K : PySem.W.Frag} {mg : Str → Option Value} {CR CU : Addr} {H : Hp} {a : Addr} {f : FT} (T : UT K mg CU) (h : UnsAt CR CU H a f) : TyX K H (.ref a) (.ref CU) := by
  obtain ⟨dx, r, h, _⟩ := h
  exact .base (.ins h T.cl T.ha T.hn T.ht T.hm)
def spUInit (CR CU : Addr) : Sp := fun vs H Q _ => ∃ (p dx : Addr) (f : FT) (c : V), vs = [.ref p, .int f.ar, ov f.mi, c, oi f.dg, ov f.sw] ∧ H p = some (.ins CU dx []) ∧ FOk f ∧ CenV CR H c f.t f.b ∧
  ∀ H', UnsAt CR CU H' p f → But p H H' → Q .non H'
def spUEq (CR CU : Addr) : Sp := fun vs H Q _ => (∃ (a b : Addr) (f g : FT), vs = [.ref a, .ref b] ∧ UnsAt CR CU H a f ∧ UnsAt CR CU H b g ∧ Q (.bl (decide (ftext f = ftext g))) H) ∨ ∃ (a : Addr) (f : FT) (z : Str), vs = [.ref a, .str z] ∧ UnsAt CR CU H a f ∧ Q (.bl false) H
def spUStr (CR CU : Addr) : Sp := fun vs H Q _ => ∃ (a : Addr) (f : FT), vs = [.ref a] ∧ UnsAt CR CU H a f ∧ FOk f ∧ Q (.str (ftext f)) H
def spURepr (CR CU : Addr) : Sp := fun vs H Q _ => ∃ (a : Addr) (f : FT), vs = [.ref a] ∧ UnsAt CR CU H a f ∧ FOk f ∧ Q (.str ("Unseen(" ++ ftext f ++ ")")) H
section
variable {P : Program} {w : World} {K : PySem.W.Frag} {mg : Str → Option Value} {base : Heap} {CR CU : Addr}
theorem RatAt.upd {H : Hp} {r p : Addr} {t b : Int} {o : HO} (h : RatAt CR H r t b) (n : r ≠ p) : RatAt CR (upd H p o) r t b := by
  obtain ⟨dx, h⟩ := h
  exact ⟨dx, (upd_ne n).trans h⟩
theorem RatAt.ne {H : Hp} {r p dx : Addr} {t b : Int} {fs : List (Str × V)} (h : RatAt CR H r t b) (hp : H p = some (.ins CU dx fs)) (nf : fs.lookup ("bottom" : Str) = none) : r ≠ p := fun e => by
  obtain ⟨dx', h⟩ := h
  rw [e, hp] at h
  have e1 := Option.some.inj h
  have e2 : fs = rf t b := by injection e1
  rw [e2, rf_bot] at nf
  cases nf
theorem scUInit : FnScope ["self", "arity", "mirror", "centre", "degree", "swap"] ["self", "arity", "mirror", "centre", "degree", "swap"] (defScope sUInit) := ⟨rfl, rfl, rfl, by decide +kernel, rfl, by decide +kernel, by decide +kernel⟩
theorem ok_uinit {f fC fR fT : Addr} {fd fdC fdR fdT : FuncData} {dvs : List V} {kws : List (Str × V)} (F : FunD K "__init__" "Unseen.__init__" (defArgs sUInit) (defBody sUInit) (defScope sUInit) dvs kws f fd) (T : RT K mg CR) (U : UT K mg CU)
    (DC : Dn K mg "check_facts" fC) (GCh : FnOk P w K mg base CX0 4 fC fdC ["arity", "mirror", "centre", "degree", "swap"] (spCheck CR)) (bC : Binds K fdC ["arity", "mirror", "centre", "degree", "swap"] [])
    (DR : Dn K mg "ratio_of" fR) (GR : FnOk P w K mg base CX0 4 fR fdR ["number"] (spRatioOf CR)) (bR : Binds K fdR ["number"] [])
    (DT : Dn K mg "facts_text" fT) (GT : FnOk P w K mg base CX0 6 fT fdT ["arity", "mirror", "centre", "degree", "swap"] (spFText CR)) (bT : Binds K fdT ["arity", "mirror", "centre", "degree", "swap"] []) :
    FnOk P w K mg base CX0 7 f fd ["self", "arity", "mirror", "centre", "degree", "swap"] (spUInit CR CU) := by
  refine F.ok scUInit (fun vs H Q E h => ?_) (fun cdv A outer s H vs Q E hr h => ?_)
  · obtain ⟨p, dx, f, c, rfl, _⟩ := h
    rfl
  · obtain ⟨p, dx, f, c, rfl, hp, ok, cv, q⟩ := h
    have r4 : Room 4 _ := hr.mono (by decide)
    refine ⟨_, pss_cons (ps_expr (pe_call GCh r4 (by rfl) DC.gl DC.kp bC .nil pass0 (pa_cons (pv 1) (pa_cons (pv 2) (pa_cons (pv 3) (pa_cons (pv 4) (pa_cons (pv 5) pa_nil)))))))
      (pss_cons (ps_fld (pv 0) (pv 1) rfl)
      (pss_cons (ps_fld (pv 0) (pv 2) rfl)
      (C8.pss_cut (ps_fld (pv 0) (pe_call GR r4 (by rfl) DR.gl DR.kp bR .nil pass0 (pa_cons (pv 3) pa_nil)) rfl)
      (pss_cons (ps_fld (pv 0) (pv 4) rfl)
      (pss_cons (ps_fld (pv 0) (pv 5) rfl)
      (pss_one (ps_fld (pv 0) (pe_call GT hr (by rfl) DT.gl DT.kp bT .nil pass0 (pa_cons (pv 1) (pa_cons (pv 2) (pa_cons (pe_fld (pv 0) rfl) (pa_cons (pv 4) (pa_cons (pv 5) pa_nil)))))) rfl))))))), ?_⟩
    refine ⟨_, rfl, _, rfl, _, rfl, _, rfl, _, rfl, f, c, rfl, ok, cv, ?_⟩
    refine ⟨_, rfl, _, rfl, p, CU, dx, _, rfl, hp, U.cl, U.n1, (by show 0 < 1000; decide), ?_⟩
    refine ⟨_, rfl, _, rfl, p, CU, dx, u1 f, rfl, upd_same, U.cl, U.n2, by have := l1' f; omega, ?_⟩
    have b2 : But p H (upd (upd H p (.ins CU dx (u1 f))) p (.ins CU dx (u2 f))) := But.refl.upd.upd
    have h2 : upd (upd H p (.ins CU dx (u1 f))) p (.ins CU dx (u2 f)) p = some (.ins CU dx (u2 f)) := upd_same
    have n2 : (u2 f).lookup ("bottom" : Str) = none := by
      unfold u2 u1
      rw [lookup_putF, if_neg (neq _ _), lookup_putF, if_neg (neq _ _)]
      rfl
    refine ⟨fun σ H4 => ∃ r, σ = [some (.ref p), some (.int f.ar), some (ov f.mi), some c, some (oi f.dg), some (ov f.sw)] ∧ RatAt CR H4 r f.t f.b ∧ But p H H4 ∧ H4 p = some (.ins CU dx (u3 f r)) ∧ r ≠ p, ?_, ?_⟩
    · refine ⟨_, rfl, ?_⟩
      rcases cv with ⟨r, rfl, ra⟩ | ⟨rfl, eb⟩
      · have nr : r ≠ p := ra.ne hp rfl
        obtain ⟨dx', hr'⟩ := ra
        have ra2 : RatAt CR (upd (upd H p (.ins CU dx (u1 f))) p (.ins CU dx (u2 f))) r f.t f.b := ⟨dx', b2 _ _ hr' nr⟩
        refine .inl ⟨r, _, _, rfl, ra2, ?_⟩
        refine ⟨_, rfl, p, CU, dx, u2 f, rfl, h2, U.cl, U.n3, by have := l2' f; omega, r, rfl, ra2.upd nr, b2.upd, upd_same, nr⟩
      · refine .inr ⟨f.t, rfl, fun p' H3 ra3 s3 n3 => ?_⟩
        have nr : p' ≠ p := (ne_of_none h2 n3).symm
        rw [← eb] at ra3
        refine ⟨_, rfl, p, CU, dx, u2 f, rfl, s3 _ _ h2, U.cl, U.n3, by have := l2' f; omega, p', rfl, ra3.upd nr, ?_, upd_same, nr⟩
        exact But.upd fun x o e n => s3 _ _ (b2 x o e n)
    · clear b2 h2
      rintro σ H4 ⟨r, rfl, ra, bt, h4, nr⟩
      refine ⟨_, rfl, _, rfl, p, CU, dx, u3 f r, rfl, h4, U.cl, U.n4, by have := l3' f r; omega, ?_⟩
      refine ⟨_, rfl, _, rfl, p, CU, dx, u4 f r, rfl, upd_same, U.cl, U.n5, by have := l4' f r; omega, ?_⟩
      have b6 : But p H (upd (upd H4 p (.ins CU dx (u4 f r))) p (.ins CU dx (u5 f r))) := bt.upd.upd
      have h6 : upd (upd H4 p (.ins CU dx (u4 f r))) p (.ins CU dx (u5 f r)) p = some (.ins CU dx (u5 f r)) := upd_same
      have ra6 : RatAt CR (upd (upd H4 p (.ins CU dx (u4 f r))) p (.ins CU dx (u5 f r))) r f.t f.b := (ra.upd nr).upd nr
      refine ⟨_, rfl, _, rfl, _, rfl, p, CU, dx, u5 f r, _, rfl, h6, U.cl, U.n3, gCe5 f r, _, rfl, _, rfl, f, r, rfl, ok, ra6, fun H7 s7 => ?_⟩
      refine ⟨_, rfl, p, CU, dx, u5 f r, rfl, s7 _ _ h6, U.cl, U.n6, by have := l5' f r; omega, ?_⟩
      refine q _ ⟨dx, r, upd_same, (ra6.same s7).upd nr⟩ (But.upd fun x o e n => s7 _ _ (b6 x o e n))
theorem scUEq : FnScope ["self", "other"] ["self", "other"] (defScope sUEq) := ⟨rfl, rfl, rfl, by decide +kernel, rfl, by decide +kernel, by decide +kernel⟩
theorem ok_ueq {f : Addr} {fd : FuncData} (F : Fun K "__eq__" "Unseen.__eq__" sUEq f fd) (B : Bn mg) (U : UT K mg CU) : FnOk P w K mg base CX0 1 f fd ["self", "other"] (spUEq CR CU) := by
  refine F.ok scUEq (fun vs H Q E h => ?_) (fun cdv A outer s H vs Q E hr h => ?_)
  · rcases h with ⟨a, b, f, g, rfl, _⟩ | ⟨a, f, z, rfl, _⟩ <;> rfl
  · refine ⟨_, pss_one (ps_ret (pe_and (pe_callB call_isi (by rfl) B.isin (by decide +kernel) (pa_cons (pv 1) (pa_cons (pe_glob (v := .ref CU) (by rfl) U.gl rfl) pa_nil))) (pe_one (pe_cmpR op_eq (pe_fld (pv 0) rfl) (pe_fld (pv 1) rfl) (nomark _))))), ?_⟩
    rcases h with ⟨a, b, f, g, rfl, ua, ub, q⟩ | ⟨a, f, z, rfl, ua, q⟩
    · refine ⟨_, rfl, _, _, _, _, true, rfl, .own _, ub.ty U, U.kU, true, rfl, iteT ?_⟩
      obtain ⟨dx, r, ha, _⟩ := ua
      obtain ⟨dx2, r2, hb, _⟩ := ub
      refine ⟨_, rfl, a, CU, dx, _, _, rfl, ha, U.cl, U.n6, gTx f r, _, rfl, b, CU, dx2, _, _, rfl, hb, U.cl, U.n6, gTx g r2, rfl, ?_⟩
      have e2 : decide (V.str (ftext f) = V.str (ftext g)) = decide (ftext f = ftext g) := by
        by_cases z : ftext f = ftext g
        · rw [decide_eq_true z, decide_eq_true (by rw [z])]
        · rw [decide_eq_false z, decide_eq_false (fun y => z (V.str.inj y))]
      rw [e2]
      exact q
    · exact ⟨_, rfl, _, _, _, _, false, rfl, .own _, .base (.str _), U.kS, false, rfl, iteF q⟩
theorem scUStr : FnScope ["self"] ["self"] (defScope sUStr) := ⟨rfl, rfl, rfl, by decide +kernel, rfl, by decide +kernel, by decide +kernel⟩
theorem ok_ustr {f : Addr} {fd : FuncData} (F : Fun K "__str__" "Unseen.__str__" sUStr f fd) (U : UT K mg CU) : FnOk P w K mg base CX0 1 f fd ["self"] (spUStr CR CU) := by
  refine F.ok scUStr (fun vs H Q E h => ?_) (fun cdv A outer s H vs Q E hr h => ?_)
  · obtain ⟨a, f, rfl, _⟩ := h
    rfl
  · obtain ⟨a, f, rfl, ⟨dx, r, ha, ra⟩, ok, q⟩ := h
    refine ⟨_, pss_one (ps_ret (pe_joined1 (pe_fmt (pe_fld (pv 0) rfl)))), ?_⟩
    exact ⟨_, rfl, a, CU, dx, _, _, rfl, ha, U.cl, U.n6, gTx f r, .inl ⟨_, rfl, fit (ftext_len ok) (by decide), q⟩⟩
theorem scURepr : FnScope ["self"] ["self"] (defScope sURepr) := ⟨rfl, rfl, rfl, by decide +kernel, rfl, by decide +kernel, by decide +kernel⟩
theorem ok_urepr {f : Addr} {fd : FuncData} (F : Fun K "__repr__" "Unseen.__repr__" sURepr f fd) (U : UT K mg CU) : FnOk P w K mg base CX0 1 f fd ["self"] (spURepr CR CU) := by
  refine F.ok scURepr (fun vs H Q E h => ?_) (fun cdv A outer s H vs Q E hr h => ?_)
  · obtain ⟨a, f, rfl, _⟩ := h
    rfl
  · obtain ⟨a, f, rfl, ⟨dx, r, ha, ra⟩, ok, q⟩ := h
    refine ⟨_, pss_one (ps_ret (pe_joined (PJ.cons pe_str (PJ.cons (pe_fmt (pe_fld (pv 0) rfl)) (PJ.cons pe_str PJ.nil))))), ?_⟩
    refine ⟨_, rfl, ?_, ?_⟩
    · rw [empty_app]
      exact fit (m := 20) (by decide) (by decide)
    · rw [empty_app]
      refine ⟨_, rfl, a, CU, dx, _, _, rfl, ha, U.cl, U.n6, gTx f r, .inl ⟨_, rfl, fit (ftext_len ok) (by decide), _, rfl, ?_, _, rfl, ?_, q⟩⟩
      · exact fit (app_len (show (Str.ofString "Unseen(").length ≤ 20 by decide) (ftext_len ok)) (by decide)
      · exact fit (app_len (app_len (show (Str.ofString "Unseen(").length ≤ 20 by decide) (ftext_len ok)) (show (Str.ofString ")").length ≤ 20 by decide)) (by decide)
end
end K09

set_option Elab.async false
set_option linter.all false
set_option maxRecDepth 100000
set_option maxHeartbeats 4000000
namespace K09
open PySem PySem.Spec PyProof.Rows L2 Ux
abbrev sName : Stmt := top 57
theorem letters_letters : letters.length = 26 := by decide +kernel
/-- n letters -/
def Lt (z : Str) (n : Nat) : Prop := z.length = n ∧ ∀ c ∈ z.cps.toList, c ∈ letters
theorem Lt.one {c : Nat} (h : c ∈ letters) : Lt ⟨#[c]⟩ 1 := ⟨rfl, fun x hx => by
  obtain rfl : x = c := List.mem_singleton.mp hx
  exact h⟩
theorem Lt.app {x y : Str} {n m : Nat} (h : Lt x n) (k : Lt y m) : Lt (x ++ y) (n + m) := by
  refine ⟨by rw [PySem.Str.length_append, h.1, k.1], fun c hc => ?_⟩
  have e : (x ++ y).cps.toList = x.cps.toList ++ y.cps.toList := Array.toList_append
  rw [e] at hc
  rcases List.mem_append.mp hc with z | z
  · exact h.2 c z
  · exact k.2 c z
def kept : List V := [.str "fn", .str "let", .str "slope"]
theorem Lt.name {z : Str} {n : Nat} (h : Lt z n) (h1 : 1 ≤ n) (h6 : n ≤ 6) (k : inV (.str z) kept = false) : nameB z = true := by
  have e : (z.cps.toList.all fun c => decide (c ∈ letters)) = true := List.all_eq_true.mpr fun c hc => decide_eq_true (h.2 c hc)
  have k' : inV (.str z) [.str "fn", .str "let", .str "slope"] = false := k
  unfold nameB
  rw [e, k', h.1, decide_eq_true h1, decide_eq_true h6]
  rfl
theorem kept_in {z : Str} (h : inV (.str z) kept = true) : z = "fn" ∨ z = "let" ∨ z = "slope" := by
  have e : ∀ x : Str, eqV (.str x) (.str z) = true → z = x := fun x hx => by
    have := of_decide_eq_true hx
    exact this.symm
  unfold inV kept at h
  simp only [List.any_cons, List.any_nil, Bool.or_false, Bool.or_eq_true] at h
  rcases h with h | h | h
  · exact .inl (e _ h)
  · exact .inr (.inl (e _ h))
  · exact .inr (.inr (e _ h))
theorem BagAt.more {H : Hp} {b : Addr} {n m : Nat} (h : BagAt H b n) (l : n ≤ m) : BagAt H b m := by
  obtain ⟨a, ns, p, g, s', c, h1, h2, h3, h4, h5, h6, h7, h8⟩ := h
  exact ⟨a, ns, p, g, s', c, h1, h2, h3, h4, h5, h6, h7, by omega⟩
theorem BagAt.same {H H' : Hp} {b : Addr} {n : Nat} (h : BagAt H b n) (s : Same H H') : BagAt H' b n := by
  obtain ⟨l, ns, p, g, s', c, hb, hl, z⟩ := h
  exact ⟨l, ns, p, g, s', c, s _ _ hb, s _ _ hl, z⟩
theorem BagAt.lst {H : Hp} {b : Addr} {n : Nat} (h : BagAt H b n) : ∃ xs, H b = some (.lst xs) := by
  obtain ⟨l, ns, p, g, s', c, hb, hl, z⟩ := h
  exact ⟨_, hb⟩
theorem but_same {b : Addr} {H H' : Hp} (s : Same H H') : Bt b H H' := ⟨fun x o e _ => s x o e, fun l r e => ⟨r, s _ _ e⟩⟩
def spName : Sp := fun vs H Q _ => ∃ (b : Addr) (n : Nat), vs = [.ref b] ∧ BagAt H b n ∧ n ≤ 900000000 ∧ ∀ (z : Str) (H' : Hp), nameB z = true → BagAt H' b (n + 7) → Bt b H H' → Q (.str z) H'
/-- the lowest terms -/
def lowT (t b : Int) : Int := t / (Nat.gcd t.natAbs b.natAbs : Nat)
def lowB (t b : Int) : Int := b / (Nat.gcd t.natAbs b.natAbs : Nat)
def spLow : Sp := fun vs H Q _ => ∃ t b : Int, vs = [.int t, .int b] ∧ 0 < b ∧ b < 1000 ∧ -1000 < t ∧ t < 1000 ∧ ∀ (p : Addr) (H' : Hp), H' p = some (.tup [.int (lowT t b), .int (lowB t b)]) → Same H H' → Q (.ref p) H'
def PairAt (H : Hp) (q : Addr) (t b : Int) : Prop := H q = some (.tup [.int t, .int b])
def spMkRatio (CR : Addr) : Sp := fun vs H Q _ => ∃ (q : Addr) (t b : Int), vs = [.ref q] ∧ PairAt H q t b ∧ 0 < b ∧ b < 1000 ∧ Nat.gcd t.natAbs b.natAbs = 1 ∧ ∀ (p : Addr) (H' : Hp), RatAt CR H' p t b → Same H H' → Q (.ref p) H'
theorem dp_bls {K : PySem.W.Frag} {H : Hp} : ∀ bs : List Bool, DpAll K H (bs.map V.bl) (bs.map PyData.bool)
  | [] => .nil
  | b :: bs => .cons (.bl b) (dp_bls bs)
section
variable {X : Cx} {CX : CXT} {k : Nat} {f : Addr} {fd : FuncData} {ps ks : List Str} {sp : Sp} {E : XK} {x : Str} {p pos : Pos} {kws : List Keyword} {tk : TA} {g : List Value → List Value → List Value} {gV : List V → List V → List V}
/-- f(k = v, ..) -/
theorem pe_callK0 (F : FnOk X.prog X.w X.K X.mg X.base CX k f fd ps sp) (hr : Room k X.A) (hg : Gl X x) (hm : X.mg x = some (.ref f)) (hk : PySem.W.keepIn X.K (.ref f) = true) (hb : KBinds X.K fd ps ks g gV) (hx : Passes CX X E)
    (hkw : PK X kws tk) (hall : (backToKw pos (keywordEach kws X.env)).all (·.1.isSome) = true := by rfl) (hks : (backToKw pos (keywordEach kws X.env)).filterMap (·.1) = ks := by rfl)
    (hdb : (x == ("__debug__" : Str)) = false := by decide)
    (hpl : ((backTo pos (starEach [] X.env)).any (·.1) || (backToKw pos (keywordEach kws X.env)).any (·.1.isNone)) = false := by rfl) :
    PE X (.Call (.Name x p) [] kws pos) (fun σ H Q => tk σ H fun zs H2 => sp (gV [] zs) H2 Q E) := by
  refine ⟨fun pins s σ H Q I h => ?_⟩
  refine wpAny_Call_Name_kw (ld_glob I hg hm ?_ hdb)
  refine PySem.W.callWith_KW0 (h₀ := X.base) I.ok.mod.kin hk hall ?_ hpl
  refine thn (hkw.run pos pins s σ H _ I h) fun ws s2 ⟨zs, H2, I2, rz, q2⟩ => ⟨I2.kIn, ?_⟩
  rw [hks]
  exact run_fnk (us := []) (vs := []) F hr hb hx I2 .nil rz q2
end
section
variable {P : Program} {w : World} {K : PySem.W.Frag} {mg : Str → Option Value} {base : Heap} {CR CU : Addr}
theorem scName : FnScope ["_law_bag_here", "_law_letters", "_law_text", "_law_k"] ["_law_bag_here"] (defScope sName) := ⟨rfl, rfl, rfl, by decide +kernel, rfl, by decide +kernel, by decide +kernel⟩
theorem letter_at {r : Int} (h0 : 0 ≤ r) (h1 : r < 26) : ∃ c, atI ("abcdefghijklmnopqrstuvwxyz" : Str).cps.toList r = some c ∧ c ∈ letters := by
  have hl : r.toNat < letters.length := by
    rw [letters_letters]
    omega
  refine ⟨letters[r.toNat], ?_, List.getElem_mem hl⟩
  have z := atI_nat (List.getElem?_eq_getElem hl)
  rw [Int.toNat_of_nonneg h0] at z
  exact z
theorem ok_name {f fP : Addr} {fd fdP : FuncData} (F : Fun K "_law_name" "_law_name" sName f fd) (B : Bn mg) (D : Dn K mg "_law_pull" fP) (G : FnOk P w K mg base CX0 1 fP fdP ["_law_bag_here", "_law_many"] spPull) (bP : Binds K fdP ["_law_bag_here", "_law_many"] []) :
    FnOk P w K mg base CX0 2 f fd ["_law_bag_here"] spName := by
  refine F.ok scName (fun vs H Q E h => ?_) (fun cdv A outer s H vs Q E hr h => ?_)
  · obtain ⟨b, n, rfl, _⟩ := h
    rfl
  · obtain ⟨b, n, rfl, bag, hn, q⟩ := h
    refine ⟨_, pss_cons (ps_set (i := 1) scName.nd rfl (Or.inl rfl) pe_str)
      (pss_cons (ps_set (i := 2) scName.nd rfl (Or.inl rfl) (pe_ix ix_str (pv 1) (pe_call G hr (by rfl) D.gl D.kp bP .nil pass0 (pa_cons (pv 0) (pa_cons pe_int pa_nil))) (fun _ _ => rfl)))
      (pss_cons (ps_for PassesOwn.never rfl (pi_range1 (by rfl) B.frange (pa_cons (pe_call G hr (by rfl) D.gl D.kp bP .nil pass0 (pa_cons (pv 0) (pa_cons pe_int pa_nil))) pa_nil)) (pg_name (i := 3) scName.nd rfl (Or.inl rfl))
        (pss_one (ps_set (i := 2) scName.nd rfl (Or.inl rfl) (pe_op op_add_str (pv 2) (pe_ix ix_str (pv 1) (pe_call G hr (by rfl) D.gl D.kp bP .nil pass0 (pa_cons (pv 0) (pa_cons pe_int pa_nil))) (fun _ _ => rfl))))))
      (pss_one (ps_ret (pe_ifExp (pt_cmpR op_in_seq (pv 2) (pe_tup (pa_cons pe_str (pa_cons pe_str (pa_cons pe_str pa_nil)))) (by rfl)) (pe_op op_add_str (pv 2) pe_str) (pv 2)))))), ?_⟩
    have e26 : ("abcdefghijklmnopqrstuvwxyz" : Str).length ≤ sizeLine := fit (m := 26) (by decide) (by decide)
    refine ⟨_, rfl, _, rfl, b, 26, n, rfl, by decide, by decide, bag, by omega, fun r H1 r0 r1 B1 f1 => ?_⟩
    obtain ⟨c, hc, hl⟩ := letter_at r0 r1
    refine ⟨_, _, c, rfl, rfl, e26, hc, ?_⟩
    refine ⟨_, rfl, b, 6, n + 1, rfl, by decide, by decide, B1, by omega, fun m H2 m0 m1 B2 f2 => ⟨m, rfl, by omega, by omega, ?_⟩⟩
    refine for_range (n := m.toNat) (fun i σ H' => ∃ (z : Str) (x3 : Option V), σ = [some (.ref b), some (.str "abcdefghijklmnopqrstuvwxyz"), some (.str z), x3] ∧ Lt z (i + 1) ∧ BagAt H' b (n + 2 + i) ∧ Bt b H H') ⟨_, none, rfl, .one hl, B2, f1.trans f2⟩ ?_ ?_
    · clear hc hl B1 B2 f1 f2
      rintro i σ H' hi ⟨z, x3, rfl, lt, B3, f3⟩
      refine ⟨_, rfl, _, rfl, _, rfl, b, 26, n + 2 + i, rfl, by decide, by decide, B3, by omega, fun r' H4 r0' r1' B4 f4 => ?_⟩
      obtain ⟨c', hc', hl'⟩ := letter_at r0' r1'
      refine ⟨_, _, c', rfl, rfl, e26, hc', _, _, rfl, rfl, ?_, _, _, rfl, lt.app (.one hl'), B4, f3.trans f4⟩
      have e1 : (⟨#[c']⟩ : Str).length = 1 := rfl
      rw [lt.1, e1]
      exact fit (m := 10) (by omega) (by decide)
    · clear hc hl B1 B2 f1 f2
      rintro σ H3 ⟨z, x3, rfl, lt, B3, f3⟩
      refine ⟨_, rfl, (by show 3 ≤ sizeLine; decide), fun p hp => ?_⟩
      have bp : BagAt (upd H3 p (.tup [.str "fn", .str "let", .str "slope"])) b (n + 7) := (B3.same (same_upd hp)).more (by omega)
      have fp : Bt b H (upd H3 p (.tup [.str "fn", .str "let", .str "slope"])) := f3.trans (but_same (same_upd hp))
      refine ⟨p, _, rfl, .inr (.of upd_same), rfl, rfl, _, rfl, ?_⟩
      cases hk : inV (.str z) kept with
      | true =>
        have hk' : inV (.str z) [.str "fn", .str "let", .str "slope"] = true := hk
        show if (if false = true then _ else inV (.str z) [.str "fn", .str "let", .str "slope"]) = true then _ else _
        rw [hk']
        refine iteT ⟨_, rfl, _, _, rfl, rfl, ?_, q _ _ ?_ bp fp⟩
        · rw [lt.1]
          exact fit (m := 10) (by show m.toNat + 1 + 1 ≤ 10; omega) (by decide)
        · rcases kept_in hk with rfl | rfl | rfl <;> decide +kernel
      | false =>
        have hk' : inV (.str z) [.str "fn", .str "let", .str "slope"] = false := hk
        show if (if false = true then _ else inV (.str z) [.str "fn", .str "let", .str "slope"]) = true then _ else _
        rw [hk']
        exact iteF ⟨_, rfl, q _ _ (lt.name (by omega) (by omega) hk) bp fp⟩
end
end K09

set_option Elab.async false
set_option linter.all false
set_option maxRecDepth 100000
set_option maxHeartbeats 4000000
set_option pp.maxSteps 400
namespace K09
open PySem PySem.Spec PyProof.Rows L2 Ux
/-! ### the order of texts: a sorted arrangement is one alone -/
theorem str_ext {a b : Str} (h : a.cps.toList = b.cps.toList) : a = b := by
  cases a
  cases b
  congr
  exact Array.toList_inj.mp h
theorem not_lt_le {a b : List Nat} (h : ltCps b a = false) : a ≤ b := by
  rw [ltCps_eq] at h
  exact List.not_lt.mp (of_decide_eq_false h)
theorem rising_pw : ∀ (l : List Str) (p : Str), risingS p l = true → (p :: l).Pairwise (fun a b => a.cps.toList ≤ b.cps.toList)
  | [], p, _ => List.pairwise_singleton _ _
  | x :: r, p, h => by
    unfold risingS at h
    obtain ⟨h1, h2⟩ := Bool.and_eq_true_iff.mp h
    have ih := rising_pw r x h2
    have l1 : p.cps.toList ≤ x.cps.toList := not_lt_le (by simpa using h1)
    refine List.pairwise_cons.mpr ⟨fun y hy => ?_, ih⟩
    rcases List.mem_cons.mp hy with rfl | hy
    · exact l1
    · exact List.le_trans l1 ((List.pairwise_cons.mp ih).1 y hy)
theorem sorted_pw {l : List Str} (h : sortedS l = true) : l.Pairwise (fun a b => a.cps.toList ≤ b.cps.toList) := by
  cases l with
  | nil => exact List.Pairwise.nil
  | cons x r => exact rising_pw r x h
theorem sorted_one {l m : List Str} (p : l.Perm m) (hl : sortedS l = true) (hm : sortedS m = true) : l = m :=
  List.Perm.eq_of_pairwise (fun a b _ _ h k => str_ext (List.le_antisymm h k)) (sorted_pw hl) (sorted_pw hm) p
/-! ### joins -/
theorem join_step (sep x : Str) : ∀ {l : List Str}, l ≠ [] → Str.join sep (x :: l) = x ++ sep ++ Str.join sep l
  | [], h => absurd rfl h
  | y :: r, _ => rfl
theorem app_assoc (a b c : Str) : a ++ b ++ c = a ++ (b ++ c) := PySem.Str.append_assoc a b c
theorem join_shape (sep : Str) : ∀ (pre post : List Str), ∃ A B : Str, ∀ x, Str.join sep (pre ++ x :: post) = A ++ x ++ B
  | [], [] => ⟨Str.empty, Str.empty, fun x => by
      rw [PySem.Str.empty_append, PySem.Str.append_empty]
      rfl⟩
  | [], y :: r => ⟨Str.empty, sep ++ Str.join sep (y :: r), fun x => by
      rw [PySem.Str.empty_append, List.nil_append, join_step sep x (l := y :: r) (by simp), app_assoc]⟩
  | p :: pre, post => by
    obtain ⟨A, B, h⟩ := join_shape sep pre post
    refine ⟨p ++ sep ++ A, B, fun x => ?_⟩
    rw [List.cons_append, join_step sep p (l := pre ++ x :: post) (by simp), h x]
    simp only [app_assoc]
theorem app_left {a b c : Str} (h : a ++ b = a ++ c) : b = c := by
  have e := congrArg (fun z : Str => z.cps.toList) h
  rw [show (a ++ b).cps.toList = a.cps.toList ++ b.cps.toList from Array.toList_append, show (a ++ c).cps.toList = a.cps.toList ++ c.cps.toList from Array.toList_append] at e
  exact str_ext (List.append_cancel_left e)
theorem app_right {a b c : Str} (h : b ++ a = c ++ a) : b = c := by
  have e := congrArg (fun z : Str => z.cps.toList) h
  rw [show (b ++ a).cps.toList = b.cps.toList ++ a.cps.toList from Array.toList_append, show (c ++ a).cps.toList = c.cps.toList ++ a.cps.toList from Array.toList_append] at e
  exact str_ext (List.append_cancel_right e)
theorem join_diff {sep x y : Str} {pre post : List Str} (h : Str.join sep (pre ++ x :: post) = Str.join sep (pre ++ y :: post)) : x = y := by
  obtain ⟨A, B, e⟩ := join_shape sep pre post
  rw [e x, e y] at h
  exact app_left (app_right h)
theorem split_at {c : Nat} : ∀ {a b s t : List Nat}, c ∉ a → c ∉ b → a ++ c :: s = b ++ c :: t → a = b ∧ s = t
  | [], [], s, t, _, _, h => ⟨rfl, (List.cons.inj h).2⟩
  | [], y :: b, s, t, _, hb, h => absurd ((List.cons.inj h).1 ▸ List.mem_cons_self ..) hb
  | x :: a, [], s, t, ha, _, h => absurd ((List.cons.inj h).1 ▸ List.mem_cons_self ..) ha
  | x :: a, y :: b, s, t, ha, hb, h => by
    obtain ⟨e1, e2⟩ := List.cons.inj h
    obtain ⟨e3, e4⟩ := split_at (fun m => ha (List.mem_cons_of_mem _ m)) (fun m => hb (List.mem_cons_of_mem _ m)) e2
    exact ⟨by rw [e1, e3], e4⟩
/-- no comma within -/
def NoC (z : Str) : Prop := 44 ∉ z.cps.toList
theorem cat_list (a b : Str) : (a ++ b).cps.toList = a.cps.toList ++ b.cps.toList := Array.toList_append
theorem comma : (Str.ofString ", ").cps.toList = [44, 32] := by decide +kernel
theorem join_inj : ∀ {xs ys : List Str}, (∀ x ∈ xs, NoC x) → (∀ y ∈ ys, NoC y) → xs.length = ys.length → Str.join ", " xs = Str.join ", " ys → xs = ys
  | [], [], _, _, _, _ => rfl
  | [x], [y], _, _, _, h => by
    have e : x = y := h
    rw [e]
  | x :: x2 :: r, y :: y2 :: t, hx, hy, hl, h => by
    rw [join_step ", " x (l := x2 :: r) (by simp), join_step ", " y (l := y2 :: t) (by simp)] at h
    have e := congrArg (fun z : Str => z.cps.toList) h
    simp only [cat_list, comma, List.append_assoc, List.cons_append, List.nil_append] at e
    obtain ⟨e1, e2⟩ := split_at (hx x (List.mem_cons_self ..)) (hy y (List.mem_cons_self ..)) e
    have e3 := str_ext (List.cons.inj e2).2
    rw [str_ext e1, join_inj (fun z hz => hx z (List.mem_cons_of_mem _ hz)) (fun z hz => hy z (List.mem_cons_of_mem _ hz)) (Nat.succ.inj hl) e3]
theorem name_noC {z : Str} (h : nameB z = true) : NoC z := fun m => by
  unfold nameB at h
  simp only [Bool.and_eq_true] at h
  have h2 := List.all_eq_true.mp h.2.1 44 m
  have h3 : decide (44 ∈ letters) = false := by decide +kernel
  rw [h3] at h2
  cases h2
theorem join_len {m : Nat} (sep : Str) : ∀ (xs : List Str), (∀ x ∈ xs, x.length ≤ m) → (Str.join sep xs).length ≤ xs.length * (m + sep.length)
  | [], _ => Nat.zero_le _
  | [x], h => by
    have := h x (List.mem_cons_self ..)
    show x.length ≤ 1 * (m + sep.length)
    omega
  | x :: y :: r, h => by
    have h1 := h x (List.mem_cons_self ..)
    have ih := join_len sep (y :: r) (fun z hz => h z (List.mem_cons_of_mem _ hz))
    rw [join_step sep x (l := y :: r) (by simp), PySem.Str.length_append, PySem.Str.length_append]
    have e : (x :: y :: r).length * (m + sep.length) = (y :: r).length * (m + sep.length) + (m + sep.length) := by
      rw [List.length_cons, Nat.succ_mul]
    omega
theorem sum_len {m : Nat} : ∀ (xs : List Str), (∀ x ∈ xs, x.length ≤ m) → (xs.map (·.length)).sum ≤ xs.length * m
  | [], _ => Nat.zero_le _
  | x :: r, h => by
    have h1 := h x (List.mem_cons_self ..)
    have ih := sum_len r (fun z hz => h z (List.mem_cons_of_mem _ hz))
    rw [List.map_cons, List.sum_cons, List.length_cons, Nat.succ_mul]
    omega
end K09

set_option Elab.async false
set_option linter.all false
set_option maxRecDepth 100000
set_option maxHeartbeats 4000000
set_option pp.maxSteps 400
namespace K09
open PySem PySem.Spec PyProof.Rows L2 Ux
abbrev sChkN : Stmt := top 46
abbrev sWText : Stmt := top 47
abbrev sWInit : Stmt := inClass (top 48) 1
abbrev sWIns : Stmt := inClass (top 48) 2
abbrev sWFuns : Stmt := inClass (top 48) 3
abbrev sWFact : Stmt := inClass (top 48) 4
abbrev sWWith : Stmt := inClass (top 48) 5
abbrev sWCont : Stmt := inClass (top 48) 6
abbrev sWLen : Stmt := inClass (top 48) 7
abbrev sWEq : Stmt := inClass (top 48) 8
abbrev sWStr : Stmt := inClass (top 48) 9
abbrev sWRepr : Stmt := inClass (top 48) 10
/-- more built-ins that still stand -/
structure Bm (mg : Str → Option Value) : Prop where
  bn : Bn mg
  tset : mg "set" = none
  fsort : mg "sorted" = none
theorem nameB_len {z : Str} (h : nameB z = true) : z.length ≤ 6 := by
  unfold nameB at h
  simp only [Bool.and_eq_true] at h
  exact of_decide_eq_true h.1.2
def spChkN : Sp := fun vs H Q _ => ∃ (l : Addr) (zs : List Str), vs = [.ref l] ∧ H l = some (.lst (zs.map V.str)) ∧ zs.Nodup ∧ (∀ z ∈ zs, nameB z = true) ∧ zs.length ≤ 1000 ∧ ∀ H', Same H H' → Q .non H'
theorem at_map {zs : List Str} {i : Nat} {x : V} (h : (zs.map V.str)[i]? = some x) : ∃ z, zs[i]? = some z ∧ x = .str z := by
  rw [List.getElem?_map] at h
  cases e : zs[i]? with
  | none => rw [e] at h; cases h
  | some z => rw [e] at h; exact ⟨z, rfl, (Option.some.inj h).symm⟩
theorem not_taken {zs : List Str} (nd : zs.Nodup) {i : Nat} {z : Str} (h : zs[i]? = some z) : z ∉ zs.take i := fun m => by
  obtain ⟨j, hj⟩ := List.mem_iff_getElem?.mp m
  rw [List.getElem?_take] at hj
  split at hj
  · rename_i lt
    have e := (List.getElem?_inj (List.getElem?_eq_some_iff.mp h).1 nd).mp (h.trans hj.symm)
    omega
  · cases hj
theorem take_more {zs : List Str} {i : Nat} {z y : Str} (h : zs[i]? = some z) (m : y ∈ zs.take i ∨ y = z) : y ∈ zs.take (i + 1) := by
  rw [List.take_add_one, h]
  rcases m with m | rfl
  · exact List.mem_append_left _ m
  · exact List.mem_append_right _ (by simp)
section
variable {P : Program} {w : World} {K : PySem.W.Frag} {mg : Str → Option Value} {base : Heap} {CR CU : Addr}
theorem scChkN : FnScope ["names", "name", "seen"] ["names"] (defScope sChkN) := ⟨rfl, rfl, rfl, by decide +kernel, rfl, by decide +kernel, by decide +kernel⟩
theorem ok_chkN {f fN : Addr} {fd fdN : FuncData} (F : Fun K "check_names" "check_names" sChkN f fd) (B : Bm mg) (DN : Dn K mg "is_name" fN) (GN : FnOk P w K mg base CX0 1 fN fdN ["value"] (spIsName K)) (bN : Binds K fdN ["value"] []) :
    FnOk P w K mg base CX0 2 f fd ["names"] spChkN := by
  refine F.ok scChkN (fun vs H Q E h => ?_) (fun cdv A outer s H vs Q E hr h => ?_)
  · obtain ⟨l, zs, rfl, _⟩ := h
    rfl
  · obtain ⟨l, zs, rfl, hl, nd, nm, few, q⟩ := h
    refine ⟨_, pss_cons (ps_for PassesOwn.never rfl (pi_list (pv 0)) (pg_name (i := 1) scChkN.nd rfl (Or.inl rfl)) (pss_one (ps_if (pt_not (pt_val (pe_call GN hr (by rfl) DN.gl DN.kp bN .nil pass0 (pa_cons (pv 1) pa_nil)))) (pss_one ps_never) pss_nil)))
      (pss_cons (ps_set (i := 2) scChkN.nd rfl (Or.inl rfl) (pe_callTy0 cr_set0K (by rfl) B.tset (by decide +kernel)))
      (pss_one (ps_for PassesOwn.never rfl (pi_list (pv 0)) (pg_name (i := 1) scChkN.nd rfl (Or.inl rfl))
        (pss_cons (ps_if (pt_cmpR or_sinK (pv 1) (pv 2) (by rfl)) (pss_one ps_never) pss_nil) (pss_one (ps_expr (pe_saddK (pv 2) (pa_cons (pv 1) pa_nil)))))))), ?_⟩
    refine ⟨_, rfl, l, rfl, ⟨_, .of hl⟩, for_list (xs := zs.map V.str) (fun i σ H' => (∃ x1, σ = [some (.ref l), x1, none]) ∧ Same H H') ⟨⟨none, rfl⟩, Same.refl _⟩ (fun i σ H' _ z => .of (z.2 _ _ hl)) ?_ ?_⟩
    · rintro i x σ H1 hx ⟨⟨x1, rfl⟩, s1⟩
      obtain ⟨z, hz, rfl⟩ := at_map hx
      have nz := nm z (List.mem_of_getElem? hz)
      refine ⟨_, rfl, .inl ⟨z, rfl, by have := nameB_len nz; omega, fun H2 s2 => ⟨_, rfl, ?_⟩⟩⟩
      rw [nz]
      exact iteF ⟨⟨_, rfl⟩, s1.trans s2⟩
    · rintro σ H1 ⟨⟨x1, rfl⟩, s1⟩
      refine ⟨rfl, fun p hp => ?_⟩
      have s2 : Same H (upd H1 p (SetK P w p (fun _ => false) 0)) := s1.trans (same_upd hp)
      refine ⟨_, rfl, l, rfl, ⟨_, .of (s2 _ _ hl)⟩, for_list (xs := zs.map V.str) (fun i σ H' => ∃ x1 S n, σ = [some (.ref l), x1, some (.ref p)] ∧ H' p = some (SetK P w p S n) ∧ Same H H' ∧ (∀ z, S (Sum.inr z) = true → z ∈ zs.take i) ∧ n ≤ i) ⟨x1, _, 0, rfl, upd_same, s2, (fun (z : Str) (hz : false = true) => Bool.noConfusion hz), Nat.le_refl _⟩ (fun i σ H' _ z => by
          obtain ⟨_, _, _, _, _, s3, _⟩ := z
          exact .of (s3 _ _ hl)) ?_ ?_⟩
      · rintro i x σ H2 hx ⟨x1, S, n, rfl, hS, s3, sub, hn⟩
        obtain ⟨z, hz, rfl⟩ := at_map hx
        have hi : i < zs.length := (List.getElem?_eq_some_iff.mp hz).1
        have out : S (Sum.inr z) = false := by
          cases e : S (Sum.inr z) with
          | false => rfl
          | true => exact absurd (sub z e) (not_taken nd hz)
        refine ⟨_, rfl, _, rfl, Sum.inr z, p, S, n, rfl, rfl, hS, _, rfl, ?_⟩
        rw [if_neg (by decide), out]
        refine iteF ⟨_, rfl, ⟨p, S, n, rfl, hS⟩, _, rfl, p, Sum.inr z, S, n, rfl, rfl, hS, by show n + 1 < 4096; omega, ?_⟩
        have np : ∀ c o, H c = some o → c ≠ p := fun c o e => by
          intro z
          subst z
          have := s1 _ _ e
          rw [hp] at this
          cases this
        refine ⟨_, _, _, rfl, upd_same, fun c o e => (upd_ne (np c o e)).trans (s3 _ _ e), fun y hy => ?_, ?_⟩
        · rcases Bool.or_eq_true_iff.mp hy with h | h
          · exact take_more hz (.inl (sub y h))
          · exact take_more hz (.inr (Sum.inr.inj (of_decide_eq_true h)))
        · rw [out]
          show n + 1 ≤ i + 1
          omega
      · rintro σ H2 ⟨x1, S, n, rfl, hS, s3, _⟩
        exact q _ s3
end
end K09

set_option Elab.async false
set_option linter.all false
set_option maxRecDepth 100000
set_option maxHeartbeats 4000000
set_option pp.maxSteps 400
namespace K09
open PySem PySem.Spec PyProof.Rows L2 Ux
theorem jeq (s : Str) (ps : List Str) : Txt.join s ps = Str.join s ps := StrLaws.glued_eq_join _ _
/-- the dict of the names ns, an object for each -/
def dkN (ns : List Str) (u : Str → Addr) : List (L2.Key × V) := ns.map fun n => (Sum.inr n, V.ref (u n))
theorem dkN_len (ns : List Str) (u : Str → Addr) : (dkN ns u).length = ns.length := List.length_map _
theorem dkN_keys (ns : List Str) (u : Str → Addr) : (dkN ns u).map (·.1) = ns.map Sum.inr := by
  unfold dkN
  rw [List.map_map]
  rfl
theorem dkN_at {ns : List Str} {u : Str → Addr} {i : Nat} {k : L2.Key} {v : V} (h : (dkN ns u)[i]? = some (k, v)) : ∃ n, ns[i]? = some n ∧ k = Sum.inr n ∧ v = .ref (u n) := by
  unfold dkN at h
  rw [List.getElem?_map] at h
  cases e : ns[i]? with
  | none => rw [e] at h; cases h
  | some n => rw [e] at h; cases h; exact ⟨n, rfl, rfl, rfl⟩
theorem dkN_val (u : Str → Addr) (n : Str) : ∀ ns : List Str, valV (dkN ns u) (Sum.inr n) = if n ∈ ns then some (.ref (u n)) else none
  | [] => by rw [if_neg (fun h => nomatch h)]; rfl
  | m :: r => by
    have ih := dkN_val u n r
    by_cases e : m = n
    · subst e
      rw [if_pos (List.mem_cons_self ..)]
      exact valV_pos (p := (Sum.inr m, V.ref (u m))) rfl
    · have e2 : ¬ (Sum.inr m : L2.Key) = Sum.inr n := fun z => e (Sum.inr.inj z)
      show valV ((Sum.inr m, V.ref (u m)) :: dkN r u) _ = _
      rw [valV_neg (p := (Sum.inr m, V.ref (u m))) e2, ih]
      by_cases h : n ∈ r
      · rw [if_pos h, if_pos (List.mem_cons_of_mem _ h)]
      · rw [if_neg h, if_neg (fun z => (List.mem_cons.mp z).elim (fun y => e y.symm) h)]
theorem dkN_in {u : Str → Addr} {n : Str} {ns : List Str} (h : n ∈ ns) : valV (dkN ns u) (Sum.inr n) = some (.ref (u n)) := by rw [dkN_val, if_pos h]
theorem dkN_out {u : Str → Addr} {n : Str} {ns : List Str} (h : n ∉ ns) : valV (dkN ns u) (Sum.inr n) = none := by rw [dkN_val, if_neg h]
theorem dkN_cong {u v : Str → Addr} {ns : List Str} (h : ∀ n ∈ ns, u n = v n) : dkN ns u = dkN ns v := List.map_congr_left fun n hn => by rw [h n hn]
/-- u with p for n -/
def putU (u : Str → Addr) (n : Str) (p : Addr) : Str → Addr := fun m => if m = n then p else u m
theorem dkN_new {u : Str → Addr} {n : Str} {ns : List Str} (p : Addr) (h : n ∉ ns) : putK (dkN ns u) (Sum.inr n) (.ref p) = dkN (ns ++ [n]) (putU u n p) := by
  rw [putK_new _ (dkN_out h)]
  unfold dkN
  rw [List.map_append]
  congr 1
  · refine List.map_congr_left fun m hm => ?_
    unfold putU
    rw [if_neg (fun e : m = n => h (by rw [← e]; exact hm))]
  · unfold putU
    rw [List.map_cons, if_pos rfl]
    rfl
theorem dkN_old {u : Str → Addr} {n : Str} {ns : List Str} (p : Addr) (h : n ∈ ns) : putK (dkN ns u) (Sum.inr n) (.ref p) = dkN ns (putU u n p) := by
  unfold putK
  have e : ((dkN ns u).any fun kv => decide (kv.1 = Sum.inr n)) = true := by
    rw [valV_any, dkN_in h]
    rfl
  rw [if_pos e]
  unfold dkN
  rw [List.map_map]
  refine List.map_congr_left fun m _ => ?_
  unfold putU
  by_cases z : m = n
  · subst z
    simp
  · rw [if_neg z]
    show (if (Sum.inr m : L2.Key) = Sum.inr n then _ else _) = _
    rw [if_neg (fun y => z (Sum.inr.inj y))]
/-! ### the text of a world -/
def ents (ns : List Str) (g : Str → FT) : List Str := ns.map fun n => (n ++ ": ") ++ ftext (g n)
def wtext (ins ns : List Str) (g : Str → FT) : Str := Txt.join ", " ins ++ "; " ++ Txt.join ", " (ents ns g)
/-- names, at most eight -/
def Nms (ns : List Str) : Prop := ns.length ≤ 8 ∧ ∀ n ∈ ns, nameB n = true
theorem Nms.len {ns : List Str} (h : Nms ns) : ∀ n ∈ ns, n.length ≤ 6 := fun n m => nameB_len (h.2 n m)
theorem ent_len {n : Str} {f : FT} (h : nameB n = true) (ok : FOk f) : ((n ++ ": ") ++ ftext f).length ≤ 408 := by
  have h1 := nameB_len h
  have h2 := ftext_len ok
  have e : (": " : Str).length = 2 := by decide
  rw [PySem.Str.length_append, PySem.Str.length_append, e]
  omega
theorem ents_len {ns : List Str} {g : Str → FT} (h : Nms ns) (ok : ∀ n ∈ ns, FOk (g n)) : ∀ x ∈ ents ns g, x.length ≤ 408 := fun x m => by
  obtain ⟨n, hn, rfl⟩ := List.mem_map.mp m
  exact ent_len (h.2 n hn) (ok n hn)
theorem sep_len : (", " : Str).length = 2 := by decide
theorem ins_len {ns : List Str} (h : Nms ns) : (Txt.join ", " ns).length ≤ 64 := by
  rw [jeq]
  have := join_len ", " ns h.len
  rw [sep_len] at this
  have := h.1
  omega
theorem fns_len {ns : List Str} {g : Str → FT} (h : Nms ns) (ok : ∀ n ∈ ns, FOk (g n)) : (Txt.join ", " (ents ns g)).length ≤ 3280 := by
  rw [jeq]
  have h1 := join_len ", " (ents ns g) (ents_len h ok)
  rw [sep_len] at h1
  have h2 : (ents ns g).length = ns.length := List.length_map _
  have h3 := h.1
  have h4 : (ents ns g).length * (408 + 2) ≤ 8 * 410 := Nat.mul_le_mul (by omega) (by decide)
  omega
theorem wtext_len {ins ns : List Str} {g : Str → FT} (hi : Nms ins) (h : Nms ns) (ok : ∀ n ∈ ns, FOk (g n)) : (wtext ins ns g).length ≤ 3400 := by
  have h1 := ins_len hi
  have h2 := fns_len h ok
  have e : ("; " : Str).length = 2 := by decide
  unfold wtext
  rw [PySem.Str.length_append, PySem.Str.length_append, e]
  omega
theorem wtext_ins {ins jns ns ms : List Str} {g : Str → FT} (hi : Nms ins) (hj : Nms jns) (hl : ins.length = jns.length) (h : wtext ins ns g = wtext jns ns g) : ins = jns := by
  unfold wtext at h
  have e := app_right (app_right h)
  rw [jeq, jeq] at e
  exact join_inj (fun x m => name_noC (hi.2 x m)) (fun x m => name_noC (hj.2 x m)) hl e
/-- other facts for n -/
def putG (g : Str → FT) (n : Str) (f : FT) : Str → FT := fun m => if m = n then f else g m
theorem ents_put {ns : List Str} {g : Str → FT} {n : Str} {f : FT} (nd : ns.Nodup) (m : n ∈ ns) : ∃ pre post, ents ns g = pre ++ ((n ++ ": ") ++ ftext (g n)) :: post ∧ ents ns (putG g n f) = pre ++ ((n ++ ": ") ++ ftext f) :: post := by
  obtain ⟨a, b, e⟩ := List.append_of_mem m
  subst e
  have na : n ∉ a := fun z => (List.nodup_append.mp nd).2.2 n z n (List.mem_cons_self ..) rfl
  have nb : n ∉ b := (List.nodup_cons.mp (List.nodup_append.mp nd).2.1).1
  have k : ∀ c : List Str, n ∉ c → (c.map fun x => (x ++ ": ") ++ ftext (putG g n f x)) = c.map fun x => (x ++ ": ") ++ ftext (g x) := fun c hc => List.map_congr_left fun x hx => by
    unfold putG
    rw [if_neg (fun z : x = n => hc (by rw [← z]; exact hx))]
  refine ⟨a.map fun x => (x ++ ": ") ++ ftext (g x), b.map fun x => (x ++ ": ") ++ ftext (g x), ?_, ?_⟩
  · unfold ents
    rw [List.map_append, List.map_cons]
  · unfold ents
    rw [List.map_append, List.map_cons, k a na, k b nb]
    unfold putG
    rw [if_pos rfl]
theorem wtext_put {ins ns : List Str} {g : Str → FT} {n : Str} {f : FT} (nd : ns.Nodup) (m : n ∈ ns) : decide (wtext ins ns (putG g n f) = wtext ins ns g) = decide (ftext f = ftext (g n)) := by
  obtain ⟨pre, post, e1, e2⟩ := ents_put (f := f) (g := g) nd m
  by_cases h : ftext f = ftext (g n)
  · rw [decide_eq_true h, decide_eq_true]
    unfold wtext
    rw [e1, e2, h]
  · rw [decide_eq_false h, decide_eq_false]
    intro z
    unfold wtext at z
    have z1 := app_left z
    rw [e1, e2, jeq, jeq] at z1
    exact h (app_left (join_diff z1))
end K09

set_option Elab.async false
set_option linter.all false
set_option maxRecDepth 100000
set_option maxHeartbeats 4000000
set_option pp.maxSteps 500
namespace K09
open PySem PySem.Spec PyProof.Rows L2 Ux
/-- what is at d is no instance -/
def NoIns (H : Hp) (d : Addr) : Prop := ∃ o, H d = some o ∧ ∀ C dx fs, o ≠ HO.ins C dx fs
theorem UnsAt.off {CR CU : Addr} {H : Hp} {a d : Addr} {f : FT} {o : HO} (h : UnsAt CR CU H a f) (n : NoIns H d) : UnsAt CR CU (upd H d o) a f := by
  obtain ⟨o2, e2, n2⟩ := n
  obtain ⟨dx, r, h1, dx2, h2⟩ := h
  refine ⟨dx, r, (upd_ne fun e => ?_).trans h1, dx2, (upd_ne fun e => ?_).trans h2⟩
  · rw [e, e2] at h1
    exact n2 _ _ _ (Option.some.inj h1)
  · rw [e, e2] at h2
    exact n2 _ _ _ (Option.some.inj h2)
theorem NoIns.dk {H : Hp} {d : Addr} {kvs : List (L2.Key × V)} (h : H d = some (.dK kvs)) : NoIns H d := ⟨_, h, fun _ _ _ z => nomatch z⟩
theorem NoIns.ls {H : Hp} {d : Addr} {xs : List V} (h : H d = some (.lst xs)) : NoIns H d := ⟨_, h, fun _ _ _ z => nomatch z⟩
/-- the Unseens of the names -/
def Uns (CR CU : Addr) (H : Hp) (ns : List Str) (u : Str → Addr) (g : Str → FT) : Prop := ∀ n ∈ ns, FOk (g n) ∧ UnsAt CR CU H (u n) (g n)
theorem Uns.same {CR CU : Addr} {H H' : Hp} {ns : List Str} {u : Str → Addr} {g : Str → FT} (h : Uns CR CU H ns u g) (s : Same H H') : Uns CR CU H' ns u g := fun n m => ⟨(h n m).1, (h n m).2.same s⟩
theorem Uns.off {CR CU : Addr} {H : Hp} {ns : List Str} {u : Str → Addr} {g : Str → FT} {d : Addr} {o : HO} (h : Uns CR CU H ns u g) (n : NoIns H d) : Uns CR CU (upd H d o) ns u g := fun m hm => ⟨(h m hm).1, (h m hm).2.off n⟩
theorem Uns.ok {CR CU : Addr} {H : Hp} {ns : List Str} {u : Str → Addr} {g : Str → FT} (h : Uns CR CU H ns u g) : ∀ n ∈ ns, FOk (g n) := fun n m => (h n m).1
def spWText (CR CU : Addr) : Sp := fun vs H Q _ => ∃ (l d : Addr) (ins ns : List Str) (u : Str → Addr) (g : Str → FT), vs = [.ref l, .ref d] ∧ H l = some (.lst (ins.map V.str)) ∧ H d = some (.dK (dkN ns u)) ∧ Nms ins ∧ Nms ns ∧ Uns CR CU H ns u g ∧ ∀ H', Same H H' → Q (.str (wtext ins ns g)) H'
section
variable {P : Program} {w : World} {K : PySem.W.Frag} {mg : Str → Option Value} {base : Heap} {CR CU : Addr}
theorem scWText : FnScope ["names", "facts", "functions", "name"] ["names", "facts"] (defScope sWText) := ⟨rfl, rfl, rfl, by decide +kernel, rfl, by decide +kernel, by decide +kernel⟩
theorem ok_wText {f fS : Addr} {fd fdS : FuncData} (F : Fun K "world_text" "world_text" sWText f fd) (M : OwnM K CU "__str__" fS) (N : FmO K CU) (G : FnOk P w K mg base CX0 1 fS fdS ["self"] (spUStr CR CU)) (bS : Binds K fdS ["self"] []) :
    FnOk P w K mg base CX0 3 f fd ["names", "facts"] (spWText CR CU) := by
  refine F.ok scWText (fun vs H Q E h => ?_) (fun cdv A outer s H vs Q E hr h => ?_)
  · obtain ⟨l, d, ins, ns, u, g, rfl, _⟩ := h
    rfl
  · obtain ⟨l, d, ins, ns, u, g, rfl, hl, hd, ni, nn, un, q⟩ := h
    refine ⟨_, C8.pss_cut (ps_lock (ps_setLc (i := 2) (own := [("name", 3)]) (g := gName 3) rfl scWText.nd rfl rfl (sw_true rfl rfl rfl (by decide +kernel)) (pi_keys (pv 1)) (blkOk_by (own := [("name", 3)]) (N := ["names", "facts", "functions", "name"]) (sc := defScope sWText) (by decide +kernel))
        (fun _ _ _ _ _ => pg_name (i := 3) scWText.nd rfl (Or.inl rfl) (hf := Or.inr rfl)) (fun _ _ _ _ _ => pts_nil)
        (fun _ _ _ _ _ => pe_joined (PJ.cons (pe_fmt (pv 3)) (PJ.cons pe_str (PJ.cons (pe_fmtO M N G bS hr (pe_dget (hu_of hr) (pv 1) (pv 3) (fun _ _ => rfl))) PJ.nil))))))
      (pss_one (ps_ret (pe_op op_add_str (pe_op op_add_str (pe_join pe_str (pv 0)) pe_str) (pe_join pe_str (pv 2))))), ?_⟩
    have hnd : NoIns H d := .dk hd
    refine ⟨fun σ H' => ∃ D, σ = [some (.ref l), some (.ref d), some (.ref D), none] ∧ H' D = some (.lst ((ents ns g).map V.str)) ∧ Same H H', ?_, ?_⟩
    · refine ⟨d, _, hd, trivial, fun od => ?_⟩
      have hL : upd H d (.frz od (.dK (dkN ns u))) d = some (.frz od (.dK (dkN ns u))) := upd_same
      have unL : Uns CR CU (upd H d (.frz od (.dK (dkN ns u)))) ns u g := un.off hnd
      have ld : l ≠ d := fun e => by
        rw [e, hd] at hl
        cases hl
      have hlL : upd H d (.frz od (.dK (dkN ns u))) l = some (.lst (ins.map V.str)) := (upd_ne ld).trans hl
      have back : ∀ H', Same (upd H d (.frz od (.dK (dkN ns u)))) H' → Same H (upd H' d (.dK (dkN ns u))) := fun H' s' c o e => by
        by_cases z : c = d
        · rw [z, hd] at e
          rw [z, upd_same]
          exact e
        · rw [upd_ne z]
          exact s' _ _ ((upd_ne z).trans e)
      generalize upd H d (.frz od (.dK (dkN ns u))) = HL at hL unL hlL back
      have el := ents_len nn un.ok
      have eln : (ents ns g).length = ns.length := List.length_map _
      refine ⟨_, rfl, d, od, rfl, .inl ⟨_, hL, fun D hD => lc_it (g := gName 3) (tt := tYes) (te := fun σ H Q => tJs [tFmt (tVar 3), tC (V.str ": "), tFmtO CU (spUStr CR CU) (tDGet (tVar 1) (tVar 3))] Str.empty σ H fun out H1 => Q (V.str out) H1) walk_keys (fun i H' => Same HL H' ∧ H' D = some (.lst (((ents ns g).take i).map V.str))) ⟨same_upd hD, upd_same⟩ (fun i H' _ z => z.1 _ _ hL) ?_ ?_⟩⟩
      · rintro i x H1 H2 hi ⟨s1, d1⟩ ⟨rfl, k, v, hk, rfl⟩
        obtain ⟨n, hn, rfl, rfl⟩ := dkN_at hk
        have mn := List.mem_of_getElem? hn
        obtain ⟨ok, ua⟩ := unL n mn
        have ua1 := ua.same s1
        obtain ⟨dx, r, hu, _⟩ := id ua1
        have ln := nameB_len (nn.2 n mn)
        refine ⟨rfl, ?_⟩
        have e2 : (": " : Str).length = 2 := by decide
        have lf := ftext_len ok
        refine ⟨_, rfl, .inl ⟨n, rfl, fit (m := 10) (by omega) (by decide), n, rfl, ?_, ": ", rfl, ?_, ?_⟩⟩
        · rw [empty_app]
          exact fit (m := 10) (by omega) (by decide)
        · rw [empty_app, PySem.Str.length_append, e2]
          exact fit (m := 10) (by omega) (by decide)
        · rw [empty_app]
          refine ⟨_, rfl, _, rfl, d, .ref (u n), rfl, .inl ⟨_, Sum.inr n, .inr ⟨od, s1 _ _ hL⟩, rfl, (dkN_in mn).symm⟩, u n, dx, _, rfl, hu, u n, g n, rfl, ua1, ok, _, rfl, _, rfl, ?_, ?_⟩
          · rw [PySem.Str.length_append, PySem.Str.length_append, e2]
            exact fit (m := 500) (by omega) (by decide)
          · refine ⟨_, d1, ?_, fun c o e => ?_, ?_⟩
            · rw [List.length_map, List.length_take]
              exact small1000 (by have := nn.1; omega)
            · rw [upd_ne (ne_of_none e hD)]
              exact s1 _ _ e
            · have ei : (ents ns g)[i]? = some ((n ++ ": ") ++ ftext (g n)) := by
                unfold ents
                rw [List.getElem?_map, hn]
                rfl
              rw [upd_same, List.take_add_one, ei, List.map_append]
              rfl
      · rintro H1 ⟨s1, d1⟩
        have dd : D ≠ d := fun e => by
          rw [e, hL] at hD
          cases hD
        rw [dkN_len, ← eln, List.take_length] at d1
        exact ⟨s1 _ _ hL, D, rfl, (upd_ne dd).trans d1, back H1 s1⟩
    · rintro σ H1 ⟨D, rfl, d2, s2⟩
      have el := ents_len nn un.ok
      have e2 : ("; " : Str).length = 2 := by decide
      have li := ins_len ni
      have lf := fns_len nn un.ok
      refine ⟨⟨_, rfl⟩, _, rfl, ", ", l, ins, rfl, rfl, .inl (.of (s2 _ _ hl)), ?_, _, _, rfl, rfl, ?_, ⟨_, rfl⟩, _, rfl, ", ", D, ents ns g, rfl, rfl, .inl (.of d2), ?_, _, _, rfl, rfl, ?_, q _ s2⟩
      · have h1 := sum_len ins ni.len
        have h2 := ni.1
        rw [sep_len]
        omega
      · rw [e2]
        exact fit (m := 500) (by omega) (by decide)
      · have h1 := sum_len (ents ns g) el
        have h2 := nn.1
        have eln : (ents ns g).length = ns.length := List.length_map _
        rw [sep_len]
        omega
      · rw [PySem.Str.length_append, e2]
        exact fit (m := 5000) (by omega) (by decide)
end
end K09

set_option Elab.async false
set_option linter.all false
set_option maxRecDepth 100000
set_option maxHeartbeats 4000000
set_option pp.maxSteps 500
namespace K09
open PySem PySem.Spec PyProof.Rows L2 Ux ClX
theorem dc_list {K : PySem.W.Frag} {a : Addr} {xs : List V} {g : TG} {tt : TT} {tk tv : TE} {js : List Nat} {σ : L2.St} {H1 : Hp} {D : Addr} {Qd : Hp → Prop} (Pv : Nat → Hp → Prop) (h0 : Pv 0 (upd H1 D (.dK []))) (there : ∀ i H, i ≤ xs.length → Pv i H → SqL K H a xs)
    (turn : ∀ i x H, xs[i]? = some x → Pv i H → g x (wipe σ js) H fun σ2 H2 => wipe σ2 js = wipe σ js ∧ tt σ2 H2 fun b H3 => if b = true then tk σ2 H3 fun y H4 => tv σ2 H4 fun z H5 => ∃ kvs k, y = kV k ∧ H5 D = some (.dK kvs) ∧ kvs.length < sizeLine ∧ Pv (i + 1) (upd H5 D (.dK (putK kvs k z))) else Pv (i + 1) H3)
    (fin : ∀ H, Pv xs.length H → Qd H) : ∃ W : Nat → Nat → Hp → Prop, (∃ m, W 0 m (upd H1 D (.dK []))) ∧ ∀ i m H, W i m H → ((Itl K a).stop i H ∧ Qd H) ∨ ((Itl K a).go i H ∧ ∃ Nx : Hp → Prop, (∀ H', Nx H' → ∃ m', m' < m ∧ W (i + 1) m' H') ∧
      ∀ x H', (Itl K a).yld i H x H' → g x (wipe σ js) H' fun σ2 H2 => wipe σ2 js = wipe σ js ∧ tt σ2 H2 fun b H3 => if b = true then tk σ2 H3 fun y H4 => tv σ2 H4 fun z H5 => ∃ kvs k, y = kV k ∧ H5 D = some (.dK kvs) ∧ kvs.length < sizeLine ∧ Nx (upd H5 D (.dK (putK kvs k z))) else Nx H3) := by
  refine ⟨fun i m H => m = xs.length - i ∧ i ≤ xs.length ∧ Pv i H, ⟨_, rfl, Nat.zero_le _, h0⟩, fun i m H hw => ?_⟩
  obtain ⟨rfl, hi, p⟩ := hw
  have q := there i H hi p
  rcases Nat.lt_or_ge i xs.length with lt | ge
  · refine .inr ⟨⟨xs, xs[i], q, List.getElem?_eq_getElem lt⟩, Pv (i + 1), fun H' p' => ⟨_, by omega, rfl, lt, p'⟩, fun x H' y => ?_⟩
    obtain ⟨rfl, y⟩ := y
    exact turn i x _ (y xs q) p
  · obtain rfl : i = xs.length := by omega
    exact .inl ⟨⟨xs, q, Nat.le_refl _⟩, fin H p⟩
/-- the class World -/
structure WT (K : PySem.W.Frag) (mg : Str → Option Value) (CW : Addr) (mc : Value) : Prop where
  cl : Cls K CW
  n1 : NoAttr K CW "_inputs"
  n2 : NoAttr K CW "_facts"
  n3 : NoAttr K CW "_names"
  n4 : NoAttr K CW "text"
  gl : mg "World" = some (.ref CW)
  ha : PySem.W.findIn K (.ref CW) "__class__" = some (some (.builtin "object.__class__"))
  hn : PySem.W.specialIn K (.builtin "object.__class__") "__get__" = some (some (.builtin "getset_descriptor.__get__"))
  ht : PySem.W.takesIn K (.builtin "object.__class__") = some true
  hm : PySem.W.mroIn K CW (.type "object") = some true
  kW : PySem.W.kitOne K (.ref CW) (.ref CW) = some true
  kS : PySem.W.kitOne K (.type "str") (.ref CW) = some false
  f1 : PySem.W.notFirst K CW (.ref CW) = true
  f2 : PySem.W.notFirst K CW (.type "str") = true
  rd : CRead K CW mc
  most : ∃ t, CVal K CW mc "MOST" (.int 4) (.int 4 t)
def w1 (li : Addr) : List (Str × V) := putF "_inputs" (.ref li) []
def w2 (li df : Addr) : List (Str × V) := putF "_facts" (.ref df) (w1 li)
def w3 (li df ln : Addr) : List (Str × V) := putF "_names" (.ref ln) (w2 li df)
def w4 (li df ln : Addr) (tx : Str) : List (Str × V) := putF "text" (.str tx) (w3 li df ln)
theorem w1l (li : Addr) : (w1 li).length ≤ 1 := putF_len _ _ _
theorem w2l (li df : Addr) : (w2 li df).length ≤ 2 := Nat.le_trans (putF_len _ _ _) (Nat.succ_le_succ (w1l li))
theorem w3l (li df ln : Addr) : (w3 li df ln).length ≤ 3 := Nat.le_trans (putF_len _ _ _) (Nat.succ_le_succ (w2l li df))
theorem w3In (li df ln : Addr) : (w3 li df ln).lookup ("_inputs" : Str) = some (.ref li) := by
  unfold w3 w2 w1
  rw [lookup_putF, if_neg (neq _ _), lookup_putF, if_neg (neq _ _), lookup_putF, if_pos rfl]
theorem w3Fa (li df ln : Addr) : (w3 li df ln).lookup ("_facts" : Str) = some (.ref df) := by
  unfold w3 w2
  rw [lookup_putF, if_neg (neq _ _), lookup_putF, if_pos rfl]
theorem wIn (li df ln : Addr) (tx : Str) : (w4 li df ln tx).lookup ("_inputs" : Str) = some (.ref li) := by
  unfold w4
  rw [lookup_putF, if_neg (neq _ _), w3In]
theorem wFa (li df ln : Addr) (tx : Str) : (w4 li df ln tx).lookup ("_facts" : Str) = some (.ref df) := by
  unfold w4
  rw [lookup_putF, if_neg (neq _ _), w3Fa]
theorem wNa (li df ln : Addr) (tx : Str) : (w4 li df ln tx).lookup ("_names" : Str) = some (.ref ln) := by
  unfold w4 w3
  rw [lookup_putF, if_neg (neq _ _), lookup_putF, if_pos rfl]
theorem wTx (li df ln : Addr) (tx : Str) : (w4 li df ln tx).lookup ("text" : Str) = some (.str tx) := by
  unfold w4
  rw [lookup_putF, if_pos rfl]
/-- inputs and functions that make a world -/
def WIn (ins ns : List Str) : Prop := (ins ++ ns).Nodup ∧ (∀ z ∈ ins ++ ns, nameB z = true) ∧ ins.length ≤ 4 ∧ ns.length ≤ 4
theorem WIn.ni {ins ns : List Str} (h : WIn ins ns) : Nms ins := ⟨by have := h.2.2.1; omega, fun n m => h.2.1 n (List.mem_append_left _ m)⟩
theorem WIn.nn {ins ns : List Str} (h : WIn ins ns) : Nms ns := ⟨by have := h.2.2.2; omega, fun n m => h.2.1 n (List.mem_append_right _ m)⟩
theorem WIn.nd {ins ns : List Str} (h : WIn ins ns) : ns.Nodup := (List.nodup_append.mp h.1).2.1
theorem WIn.perm {ins ns ms : List Str} (h : WIn ins ns) (p : ms.Perm ns) : WIn ins ms := by
  obtain ⟨a, b, c, d⟩ := h
  have q : (ins ++ ms).Perm (ins ++ ns) := List.Perm.append_left ins p
  exact ⟨q.nodup_iff.mpr a, fun z m => b z (q.mem_iff.mp m), c, by rw [p.length_eq]; exact d⟩
/-- a world at a: inputs, functions in their order, facts, all names -/
def WorldAt (CR CU CW : Addr) (H : Hp) (a : Addr) (ins ns : List Str) (g : Str → FT) (nm : List Str) : Prop := ∃ (dx li df ln : Addr) (u : Str → Addr), H a = some (.ins CW dx (w4 li df ln (wtext ins ns g))) ∧ H li = some (.lst (ins.map V.str)) ∧ H df = some (.dK (dkN ns u)) ∧ H ln = some (.lst (nm.map V.str)) ∧
  Uns CR CU H ns u g ∧ WIn ins ns ∧ sortedS ns = true ∧ nm.Perm (ins ++ ns)
theorem WorldAt.same {CR CU CW : Addr} {H H' : Hp} {a : Addr} {ins ns : List Str} {g : Str → FT} {nm : List Str} (h : WorldAt CR CU CW H a ins ns g nm) (s : Same H H') : WorldAt CR CU CW H' a ins ns g nm := by
  obtain ⟨dx, li, df, ln, u, h1, h2, h3, h4, h5, h6⟩ := h
  exact ⟨dx, li, df, ln, u, s _ _ h1, s _ _ h2, s _ _ h3, s _ _ h4, h5.same s, h6⟩
theorem WorldAt.ty {K : PySem.W.Frag} {mg : Str → Option Value} {CR CU CW : Addr} {mc : Value} {H : Hp} {a : Addr} {ins ns : List Str} {g : Str → FT} {nm : List Str} (T : WT K mg CW mc) (h : WorldAt CR CU CW H a ins ns g nm) : TyX K H (.ref a) (.ref CW) := by
  obtain ⟨dx, li, df, ln, u, h1, _⟩ := h
  exact .base (.ins h1 T.cl T.ha T.hn T.ht T.hm)
theorem keysV (ns : List Str) (u : Str → Addr) : ((dkN ns u).map fun kv => kV kv.1) = ns.map V.str := by
  unfold dkN
  rw [List.map_map]
  rfl
theorem Uns.ins {CR CU : Addr} {H : Hp} {ns : List Str} {u : Str → Addr} {g : Str → FT} {p C dx : Addr} {fs : List (Str × V)} {o : HO} (h : Uns CR CU H ns u g) (hp : H p = some (.ins C dx fs)) (m1 : fs.lookup ("arity" : Str) = none) (m2 : fs.lookup ("top" : Str) = none) : Uns CR CU (upd H p o) ns u g := fun n m => by
  obtain ⟨ok, dx2, r, h1, dx3, h2⟩ := h n m
  refine ⟨ok, dx2, r, (upd_ne fun e => ?_).trans h1, dx3, (upd_ne fun e => ?_).trans h2⟩
  · rw [e, hp] at h1
    have e1 := Option.some.inj h1
    have e2 : fs = u6 (g n) r := by injection e1
    rw [e2, gAr] at m1
    cases m1
  · rw [e, hp] at h2
    have e1 := Option.some.inj h2
    have e2 : fs = rf (g n).t (g n).b := by injection e1
    rw [e2, rf_top] at m2
    cases m2
/-- the same, its own lists and its dict new -/
def WorldNew (CR CU CW : Addr) (H0 H : Hp) (a : Addr) (ins ns : List Str) (g : Str → FT) (nm : List Str) : Prop := ∃ (dx li df ln : Addr) (u : Str → Addr), H a = some (.ins CW dx (w4 li df ln (wtext ins ns g))) ∧ H li = some (.lst (ins.map V.str)) ∧ H df = some (.dK (dkN ns u)) ∧ H ln = some (.lst (nm.map V.str)) ∧
  (Uns CR CU H ns u g ∧ WIn ins ns ∧ sortedS ns = true ∧ nm.Perm (ins ++ ns)) ∧ H0 li = none ∧ H0 df = none ∧ H0 ln = none
theorem WorldNew.at {CR CU CW : Addr} {H0 H : Hp} {a : Addr} {ins ns : List Str} {g : Str → FT} {nm : List Str} (h : WorldNew CR CU CW H0 H a ins ns g nm) : WorldAt CR CU CW H a ins ns g nm := by
  obtain ⟨dx, li, df, ln, u, h1, h2, h3, h4, h5, _⟩ := h
  exact ⟨dx, li, df, ln, u, h1, h2, h3, h4, h5⟩
theorem WorldNew.same {CR CU CW : Addr} {H0 H H' : Hp} {a : Addr} {ins ns : List Str} {g : Str → FT} {nm : List Str} (h : WorldNew CR CU CW H0 H a ins ns g nm) (s : Same H H') : WorldNew CR CU CW H0 H' a ins ns g nm := by
  obtain ⟨dx, li, df, ln, u, h1, h2, h3, h4, ⟨h5, h6⟩, h7⟩ := h
  exact ⟨dx, li, df, ln, u, s _ _ h1, s _ _ h2, s _ _ h3, s _ _ h4, ⟨h5.same s, h6⟩, h7⟩
/-- what stood there before and is no instance may change -/
theorem WorldNew.off {CR CU CW : Addr} {H0 H : Hp} {a d : Addr} {o o' : HO} {ins ns : List Str} {g : Str → FT} {nm : List Str} (h : WorldNew CR CU CW H0 H a ins ns g nm) (h0 : H0 d = some o') (n : NoIns H d) : WorldNew CR CU CW H0 (upd H d o) a ins ns g nm := by
  obtain ⟨dx, li, df, ln, u, h1, h2, h3, h4, ⟨h5, h6⟩, h7, h8, h9⟩ := h
  have ne : ∀ x, H0 x = none → x ≠ d := fun x e z => by
    rw [z, h0] at e
    cases e
  refine ⟨dx, li, df, ln, u, (upd_ne fun z => ?_).trans h1, (upd_ne (ne _ h7)).trans h2, (upd_ne (ne _ h8)).trans h3, (upd_ne (ne _ h9)).trans h4, ⟨h5.off n, h6⟩, h7, h8, h9⟩
  obtain ⟨o2, e2, n2⟩ := n
  rw [z, e2] at h1
  exact n2 _ _ _ (Option.some.inj h1)
theorem WorldNew.base {CR CU CW : Addr} {H0 H0' H : Hp} {a : Addr} {ins ns : List Str} {g : Str → FT} {nm : List Str} (h : WorldNew CR CU CW H0 H a ins ns g nm) (s : Same H0' H0) : WorldNew CR CU CW H0' H a ins ns g nm := by
  obtain ⟨dx, li, df, ln, u, h1, h2, h3, h4, h5, h7, h8, h9⟩ := h
  have k : ∀ x, H0 x = none → H0' x = none := fun x e => by
    cases z : H0' x with
    | none => rfl
    | some o =>
      rw [s _ _ z] at e
      cases e
  exact ⟨dx, li, df, ln, u, h1, h2, h3, h4, h5, k _ h7, k _ h8, k _ h9⟩
theorem none_of {H H' : Hp} {x : Addr} (s : Same H H') (h : H' x = none) : H x = none := by
  cases e : H x with
  | none => rfl
  | some o =>
    rw [s _ _ e] at h
    cases h
theorem none_but {H H' : Hp} {x p : Addr} {o : HO} (s : But p H H') (hp : H' p = some o) (h : H' x = none) : H x = none := by
  cases e : H x with
  | none => rfl
  | some o' =>
    have n : x ≠ p := fun z => by
      rw [z, hp] at h
      cases h
    rw [s _ _ e n] at h
    cases h
def spWInit (CR CU CW : Addr) : Sp := fun vs H Q _ => ∃ (p dx li df : Addr) (ins ns : List Str) (u : Str → Addr) (g : Str → FT), vs = [.ref p, .ref li, .ref df] ∧ H p = some (.ins CW dx []) ∧ H li = some (.lst (ins.map V.str)) ∧ H df = some (.dK (dkN ns u)) ∧ WIn ins ns ∧ Uns CR CU H ns u g ∧
  ∀ (H' : Hp) (ys : List Str), ys.Perm ns → sortedS ys = true → WorldNew CR CU CW H H' p ins ys g (ins ++ ns) → But p H H' → Q .non H'
section
variable {P : Program} {w : World} {K : PySem.W.Frag} {mg : Str → Option Value} {base : Heap} {CR CU CW : Addr} {mc : Value}
theorem scWInit : FnScope ["self", "inputs", "functions", "name"] ["self", "inputs", "functions"] (defScope sWInit) := ⟨rfl, rfl, rfl, by decide +kernel, rfl, by decide +kernel, by decide +kernel⟩
theorem ok_winit {f fC fT : Addr} {fd fdC fdT : FuncData} (F : Fun K "__init__" "World.__init__" sWInit f fd) (B : Bm mg) (T : WT K mg CW mc)
    (DC : Dn K mg "check_names" fC) (GC : FnOk P w K mg base CX0 2 fC fdC ["names"] spChkN) (bC : Binds K fdC ["names"] [])
    (DT : Dn K mg "world_text" fT) (GT : FnOk P w K mg base CX0 3 fT fdT ["names", "facts"] (spWText CR CU)) (bT : Binds K fdT ["names", "facts"] []) :
    FnOk P w K mg base CX0 4 f fd ["self", "inputs", "functions"] (spWInit CR CU CW) := by
  refine F.ok scWInit (fun vs H Q E h => ?_) (fun cdv A outer s H vs Q E hr h => ?_)
  · obtain ⟨p, dx, li, df, ins, ns, u, g, rfl, _⟩ := h
    rfl
  · obtain ⟨p, dx, li, df, ins, ns, u, g, rfl, hp, hl, hd, wi, un, q⟩ := h
    have r2 : Room 2 _ := hr.mono (by decide)
    refine ⟨_, pss_cons (ps_expr (pe_call GC r2 (by rfl) DC.gl DC.kp bC .nil pass0 (pa_cons (pe_lst (StX.pa_star (pv 1) (pa_starD rfl (pv 2) pa_nil))) pa_nil)))
      (pss_cons (ps_if (pt_cmpR op_gt (pe_callB call_len_seq (by rfl) B.bn.flen (by decide +kernel) (pa_cons (pv 1) pa_nil)) (pe_cval (pe_glob (v := .ref CW) (by rfl) T.gl rfl)) (nomark _)) (pss_one ps_never) pss_nil)
      (pss_cons (ps_if (pt_cmpR op_gt (pe_callB call_lenD (by rfl) B.bn.flen (by decide +kernel) (pa_cons (pv 2) pa_nil)) (pe_cval (pe_glob (v := .ref CW) (by rfl) T.gl rfl)) (nomark _)) (pss_one ps_never) pss_nil)
      (pss_cons (ps_fld (pv 0) (pe_callTy call_list_of (by rfl) B.bn.tlist (by decide +kernel) (pa_cons (pv 1) pa_nil)) rfl)
      (C8.pss_cut (ps_fld (pv 0) (pe_dc (own := [("name", 3)]) (g := gName 3) rfl scWInit.nd (pi_list (pe_callB (call_sortedD rfl) (by rfl) B.fsort (by decide +kernel) (pa_cons (pv 2) pa_nil))) (blkOk_by (own := [("name", 3)]) (N := ["self", "inputs", "functions", "name"]) (sc := defScope sWInit) (by decide +kernel))
        (fun _ _ _ _ _ => pg_name (i := 3) scWInit.nd rfl (Or.inl rfl) (hf := Or.inr rfl)) (fun _ _ _ _ _ => pts_nil) (fun _ _ _ _ _ => pv 3) (fun _ _ _ _ _ => pe_dget (hu_of hr) (pv 2) (pv 3) (fun _ _ => rfl))) rfl)
      (pss_cons (ps_fld (pv 0) (pe_lst (StX.pa_star (pv 1) (pa_starD rfl (pv 2) pa_nil))) rfl)
      (pss_one (ps_fld (pv 0) (pe_call GT hr (by rfl) DT.gl DT.kp bT .nil pass0 (pa_cons (pe_fld (pv 0) rfl) (pa_cons (pe_fld (pv 0) rfl) pa_nil))) rfl))))))), ?_⟩
    have nmE : ins.map V.str ++ (((dkN ns u).map fun kv => kV kv.1) ++ []) = (ins ++ ns).map V.str := by rw [List.append_nil, keysV, ← List.map_append]
    have nml : (ins ++ ns).length ≤ 8 := by
      rw [List.length_append]
      have := wi.2.2
      omega
    obtain ⟨t4, hm4⟩ := T.most
    refine ⟨_, rfl, li, _, rfl, .inr (.of hl), _, rfl, df, dkN ns u, rfl, .inl hd, ?_⟩
    refine ⟨by rw [nmE, List.length_map]; exact fit (m := 8) (by omega) (by decide), fun l0 hl0 => ⟨l0, ins ++ ns, rfl, by rw [upd_same, nmE], wi.1, wi.2.1, by omega, fun H1 s1 => ?_⟩⟩
    have t1 : Same H H1 := (same_upd hl0).trans s1
    have hl1 := t1 _ _ hl
    have hd1 := t1 _ _ hd
    have hp1 := t1 _ _ hp
    have un1 := un.same t1
    clear hl hd hp un
    refine ⟨_, rfl, li, _, rfl, .inl (.of hl1), CW, mc, .int 4, _, rfl, T.rd, hm4, _, _, rfl, rfl, _, rfl, ?_⟩
    refine ite2 (fun z => absurd (of_decide_eq_true z) (by rw [List.length_map]; have := wi.2.2.1; omega)) (fun _ => ?_)
    refine ⟨_, rfl, df, _, rfl, hd1, CW, mc, .int 4, _, rfl, T.rd, hm4, _, _, rfl, rfl, _, rfl, ?_⟩
    refine ite2 (fun z => absurd (of_decide_eq_true z) (by rw [dkN_len]; have := wi.2.2.2; omega)) (fun _ => ?_)
    -- self._inputs = list(inputs)
    refine ⟨_, rfl, li, _, rfl, .inl (.of hl1), fun l1 hn1 => ⟨_, rfl, p, CW, dx, [], rfl, ?_, T.cl, T.n1, (by show 0 < 1000; decide), ?_⟩⟩
    · exact same_upd hn1 _ _ hp1
    have a1 : Same H1 (upd H1 l1 (.lst (ins.map V.str))) := same_upd hn1
    have np1 : l1 ≠ p := (ne_of_none hp1 hn1).symm
    have lp1 : li ≠ p := fun e => by
      rw [e, hp1] at hl1
      cases hl1
    have dp1 : df ≠ p := fun e => by
      rw [e, hp1] at hd1
      cases hd1
    have bt : But p H (upd (upd H1 l1 (.lst (ins.map V.str))) p (.ins CW dx (putF "_inputs" (V.ref l1) []))) := fun x o e n => (upd_ne n).trans (a1 _ _ (t1 _ _ e))
    have hpb : upd (upd H1 l1 (.lst (ins.map V.str))) p (.ins CW dx (putF "_inputs" (V.ref l1) [])) p = some (.ins CW dx (putF "_inputs" (V.ref l1) [])) := upd_same
    have hlb : upd (upd H1 l1 (.lst (ins.map V.str))) p (.ins CW dx (putF "_inputs" (V.ref l1) [])) li = some (.lst (ins.map V.str)) := (upd_ne lp1).trans (a1 _ _ hl1)
    have hdb : upd (upd H1 l1 (.lst (ins.map V.str))) p (.ins CW dx (putF "_inputs" (V.ref l1) [])) df = some (.dK (dkN ns u)) := (upd_ne dp1).trans (a1 _ _ hd1)
    have hib : upd (upd H1 l1 (.lst (ins.map V.str))) p (.ins CW dx (putF "_inputs" (V.ref l1) [])) l1 = some (.lst (ins.map V.str)) := (upd_ne np1).trans upd_same
    have unb : Uns CR CU (upd (upd H1 l1 (.lst (ins.map V.str))) p (.ins CW dx (putF "_inputs" (V.ref l1) []))) ns u g := (un1.same a1).ins (a1 _ _ hp1) rfl rfl
    generalize upd (upd H1 l1 (.lst (ins.map V.str))) p (.ins CW dx (putF "_inputs" (V.ref l1) [])) = Hb at bt hpb hlb hdb hib unb
    have hl1n : H l1 = none := none_of t1 hn1
    clear a1 hl1 hd1 hp1 un1 hn1 s1 hl0 t1 H1 l0
    refine ⟨fun σ H' => ∃ (D : Addr) (ys : List Str), σ = [some (.ref p), some (.ref li), some (.ref df), none] ∧ ys.Perm ns ∧ sortedS ys = true ∧ H' p = some (.ins CW dx (w2 l1 D)) ∧ H' l1 = some (.lst (ins.map V.str)) ∧ H' D = some (.dK (dkN ys u)) ∧ D ≠ p ∧ H D = none ∧ H' li = some (.lst (ins.map V.str)) ∧ H' df = some (.dK (dkN ns u)) ∧ Uns CR CU H' ns u g ∧ But p H H', ?_, ?_⟩
    · refine ⟨_, rfl, df, dkN ns u, ns, rfl, .inl hdb, dkN_keys ns u, by have := wi.2.2.2; omega, fun ys L pm so nL => ⟨L, rfl, ⟨_, .of upd_same⟩, fun D nD => dc_list (xs := ys.map V.str) (g := gName 3) (tt := tYes) (tk := tVar 3) (tv := tDGet (tVar 2) (tVar 3)) (fun i H' => Same (upd Hb L (.lst (ys.map V.str))) H' ∧ H' D = some (.dK (dkN (ys.take i) u))) ⟨same_upd nD, upd_same⟩ (fun i H' _ z => .of (z.1 _ _ upd_same)) ?_ ?_⟩⟩
      · rintro i x H1 hx ⟨s1, d1⟩
        obtain ⟨y, hy, rfl⟩ := at_map hx
        have my : y ∈ ns := pm.mem_iff.mp (List.mem_of_getElem? hy)
        have ndy : ys.Nodup := pm.nodup_iff.mpr wi.nd
        have hdf := s1 _ _ ((same_upd nL) _ _ hdb)
        refine ⟨rfl, _, rfl, _, rfl, _, rfl, df, .ref (u y), rfl, .inl ⟨_, Sum.inr y, .inl hdf, rfl, (dkN_in my).symm⟩, _, Sum.inr y, rfl, d1, ?_, fun c o e => ?_, ?_⟩
        · rw [dkN_len, List.length_take]
          have := pm.length_eq
          have := wi.2.2.2
          exact small1000 (by omega)
        · rw [upd_ne (ne_of_none e nD)]
          exact s1 _ _ e
        · rw [upd_same, dkN_new _ (not_taken ndy hy), List.take_add_one, hy]
          have e1 : putU u y (u y) = u := funext fun m => by
            unfold putU
            split
            · rename_i z
              rw [z]
            · rfl
          rw [e1]
          rfl
      · rintro H1 ⟨s1, d1⟩
        have s2 : Same Hb H1 := (same_upd nL).trans s1
        rw [List.length_map, List.take_length] at d1
        have dp : D ≠ p := fun e => by
          rw [e, s2 _ _ hpb] at d1
          cases d1
        refine ⟨_, rfl, p, CW, dx, w1 l1, rfl, s2 _ _ hpb, T.cl, T.n2, by have := w1l l1; omega, D, ys, rfl, pm, so, upd_same, (upd_ne np1).trans (s2 _ _ hib), (upd_ne dp).trans d1, dp, none_but bt hpb (none_of (same_upd nL) nD), (upd_ne lp1).trans (s2 _ _ hlb), (upd_ne dp1).trans (s2 _ _ hdb), ?_, fun x o e n => (upd_ne n).trans (s2 _ _ (bt _ _ e n))⟩
        refine (unb.same s2).ins (s2 _ _ hpb) ?_ ?_
        · rw [lookup_putF, if_neg (neq _ _)]
          rfl
        · rw [lookup_putF, if_neg (neq _ _)]
          rfl
    · clear bt hpb hlb hdb hib unb Hb
      rintro σ H1 ⟨D, ys, rfl, pm, so, hp1, hi1, hD1, nDp, hDn, hl1, hd1, un1, bt⟩
      have wy := wi.perm pm
      have uny : Uns CR CU H1 ys u g := fun n m => un1 n (pm.mem_iff.mp m)
      refine ⟨_, rfl, li, _, rfl, .inr (.of hl1), _, rfl, df, dkN ns u, rfl, .inl hd1, by rw [nmE, List.length_map]; exact fit (m := 8) (by omega) (by decide), fun ln nln => ⟨_, rfl, p, CW, dx, w2 l1 D, rfl, (same_upd nln) _ _ hp1, T.cl, T.n3, by have := w2l l1 D; omega, ?_⟩⟩
      have a2 := same_upd (o := .lst (ins.map V.str ++ (((dkN ns u).map fun kv => kV kv.1) ++ []))) nln
      have pn : ln ≠ p := (ne_of_none hp1 nln).symm
      have hpc : upd (upd H1 ln (.lst (ins.map V.str ++ (((dkN ns u).map fun kv => kV kv.1) ++ [])))) p (.ins CW dx (putF "_names" (V.ref ln) (w2 l1 D))) p = some (.ins CW dx (w3 l1 D ln)) := upd_same
      have hic : upd (upd H1 ln (.lst (ins.map V.str ++ (((dkN ns u).map fun kv => kV kv.1) ++ [])))) p (.ins CW dx (putF "_names" (V.ref ln) (w2 l1 D))) l1 = some (.lst (ins.map V.str)) := (upd_ne np1).trans (a2 _ _ hi1)
      have hDc : upd (upd H1 ln (.lst (ins.map V.str ++ (((dkN ns u).map fun kv => kV kv.1) ++ [])))) p (.ins CW dx (putF "_names" (V.ref ln) (w2 l1 D))) D = some (.dK (dkN ys u)) := (upd_ne nDp).trans (a2 _ _ hD1)
      have hnc : upd (upd H1 ln (.lst (ins.map V.str ++ (((dkN ns u).map fun kv => kV kv.1) ++ [])))) p (.ins CW dx (putF "_names" (V.ref ln) (w2 l1 D))) ln = some (.lst ((ins ++ ns).map V.str)) := by
        rw [upd_ne pn, upd_same, nmE]
      have unc : Uns CR CU (upd (upd H1 ln (.lst (ins.map V.str ++ (((dkN ns u).map fun kv => kV kv.1) ++ [])))) p (.ins CW dx (putF "_names" (V.ref ln) (w2 l1 D)))) ys u g := by
        refine (uny.same a2).ins (a2 _ _ hp1) ?_ ?_
        · unfold w2 w1
          rw [lookup_putF, if_neg (neq _ _), lookup_putF, if_neg (neq _ _)]
          rfl
        · unfold w2 w1
          rw [lookup_putF, if_neg (neq _ _), lookup_putF, if_neg (neq _ _)]
          rfl
      have btc : But p H (upd (upd H1 ln (.lst (ins.map V.str ++ (((dkN ns u).map fun kv => kV kv.1) ++ [])))) p (.ins CW dx (putF "_names" (V.ref ln) (w2 l1 D)))) := fun x o e n => (upd_ne n).trans (a2 _ _ (bt _ _ e n))
      generalize upd (upd H1 ln (.lst (ins.map V.str ++ (((dkN ns u).map fun kv => kV kv.1) ++ [])))) p (.ins CW dx (putF "_names" (V.ref ln) (w2 l1 D))) = Hc at hpc hic hDc hnc unc btc
      refine ⟨_, rfl, p, CW, dx, w3 l1 D ln, _, rfl, hpc, T.cl, T.n1, w3In _ _ _, _, rfl, p, CW, dx, w3 l1 D ln, _, rfl, hpc, T.cl, T.n2, w3Fa _ _ _, l1, D, ins, ys, u, g, rfl, hic, hDc, wi.ni, wy.nn, unc, fun H2 s2 => ?_⟩
      have lnp : D ≠ p := nDp
      refine ⟨_, rfl, p, CW, dx, w3 l1 D ln, rfl, s2 _ _ hpc, T.cl, T.n4, by have := w3l l1 D ln; omega, ?_⟩
      refine q _ ys pm so ⟨dx, l1, D, ln, u, upd_same, (upd_ne np1).trans (s2 _ _ hic), (upd_ne nDp).trans (s2 _ _ hDc), (upd_ne pn).trans (s2 _ _ hnc), ⟨?_, wy, so, List.Perm.append_left ins pm.symm⟩, hl1n, hDn, none_but bt hp1 nln⟩ fun x o e n => (upd_ne n).trans (s2 _ _ (btc _ _ e n))
      refine (unc.same s2).ins (s2 _ _ hpc) ?_ ?_
      · unfold w3 w2 w1
        rw [lookup_putF, if_neg (neq _ _), lookup_putF, if_neg (neq _ _), lookup_putF, if_neg (neq _ _)]
        rfl
      · unfold w3 w2 w1
        rw [lookup_putF, if_neg (neq _ _), lookup_putF, if_neg (neq _ _), lookup_putF, if_neg (neq _ _)]
        rfl
end
end K09

set_option Elab.async false
set_option linter.all false
set_option maxRecDepth 100000
set_option maxHeartbeats 4000000
set_option pp.maxSteps 500
namespace K09
open PySem PySem.Spec PyProof.Rows L2 Ux ClX
theorem inV_str (z : Str) (ns : List Str) : inV (.str z) (ns.map V.str) = decide (z ∈ ns) := by
  unfold inV
  rw [List.any_map]
  induction ns with
  | nil => rfl
  | cons n r ih =>
    rw [List.any_cons, ih]
    have e : ((fun y => eqV y (V.str z)) ∘ V.str) n = decide (z = n) := by
      show eqV (.str n) (.str z) = _
      unfold eqV
      by_cases h : z = n
      · subst h
        simp
      · rw [decide_eq_false h]
        first
          | exact decide_eq_false (fun k => h (V.str.inj k).symm)
          | exact decide_eq_false (fun k => h k.symm)
          | (simp; exact fun k => h k.symm)
    rw [e]
    by_cases h : z = n
    · rw [decide_eq_true h, Bool.true_or, decide_eq_true (by rw [h]; exact List.mem_cons_self ..)]
    · rw [decide_eq_false h, Bool.false_or]
      by_cases k : z ∈ r
      · rw [decide_eq_true k, decide_eq_true (List.mem_cons_of_mem _ k)]
      · rw [decide_eq_false k, decide_eq_false (fun m => (List.mem_cons.mp m).elim h k)]
theorem flat_strs (ns : List Str) : (ns.map V.str).all flatV = true := by
  rw [List.all_map, List.all_eq_true]
  intro _ _
  rfl
def spWIns (CR CU CW : Addr) : Sp := fun vs H Q _ => ∃ a ins ns g nm, vs = [.ref a] ∧ WorldAt CR CU CW H a ins ns g nm ∧ ∀ l, H l = none → Q (.ref l) (upd H l (.lst (ins.map V.str)))
def spWFuns (CR CU CW : Addr) : Sp := fun vs H Q _ => ∃ a ins ns g nm, vs = [.ref a] ∧ WorldAt CR CU CW H a ins ns g nm ∧ ∀ l, H l = none → Q (.ref l) (upd H l (.lst (ns.map V.str)))
def spWFact (CR CU CW : Addr) : Sp := fun vs H Q _ => ∃ a ins ns g nm n, vs = [.ref a, .str n] ∧ WorldAt CR CU CW H a ins ns g nm ∧ n ∈ ns ∧ ∀ x, UnsAt CR CU H x (g n) → FOk (g n) → Q (.ref x) H
def spWLen (CR CU CW : Addr) : Sp := fun vs H Q _ => ∃ a ins ns g nm, vs = [.ref a] ∧ WorldAt CR CU CW H a ins ns g nm ∧ Q (.int (nm.length : Nat)) H
def spWCont (K : PySem.W.Frag) (CR CU CW : Addr) : Sp := fun vs H Q _ => ∃ a ins ns g nm v, vs = [.ref a, v] ∧ WorldAt CR CU CW H a ins ns g nm ∧ ((∃ z, v = .str z ∧ Q (.bl (decide (z ∈ nm))) H) ∨ ∃ t, TyX K H v t ∧ PySem.W.kitOne K t (.type "str") = some false ∧ Q (.bl false) H)
def spWEq (CR CU CW : Addr) : Sp := fun vs H Q _ => ∃ a ins ns g nm, WorldAt CR CU CW H a ins ns g nm ∧ ((∃ b jns ms h om, vs = [.ref a, .ref b] ∧ WorldAt CR CU CW H b jns ms h om ∧ Q (.bl (decide (wtext ins ns g = wtext jns ms h))) H) ∨ ∃ z : Str, vs = [.ref a, .str z] ∧ Q (.bl false) H)
def spWStr (CR CU CW : Addr) : Sp := fun vs H Q _ => ∃ a ins ns g nm, vs = [.ref a] ∧ WorldAt CR CU CW H a ins ns g nm ∧ Q (.str (wtext ins ns g)) H
def spWRepr (CR CU CW : Addr) : Sp := fun vs H Q _ => ∃ a ins ns g nm, vs = [.ref a] ∧ WorldAt CR CU CW H a ins ns g nm ∧ Q (.str ("World(" ++ wtext ins ns g ++ ")")) H
def spWWith (CR CU CW : Addr) : Sp := fun vs H Q _ => ∃ a ins ns g nm n x φ, vs = [.ref a, .str n, .ref x] ∧ WorldAt CR CU CW H a ins ns g nm ∧ n ∈ ns ∧ UnsAt CR CU H x φ ∧ FOk φ ∧ φ.ar = (g n).ar ∧ ∀ p H', WorldAt CR CU CW H' p ins ns (putG g n φ) (ins ++ ns) → Same H H' → Q (.ref p) H'
theorem made_same {H H' : Hp} {x dx : Addr} {o1 o2 : HO} (nx : H x = none) (nd : H dx = none) (bu : But x (upd (upd H dx o1) x o2) H') : Same H H' := fun c o e => by
  have n1 := ne_of_none e nx
  refine bu c o ?_ n1
  rw [upd_ne n1, upd_ne (ne_of_none e nd)]
  exact e
section
variable {P : Program} {w : World} {K : PySem.W.Frag} {mg : Str → Option Value} {base : Heap} {CR CU CW : Addr} {mc : Value}
theorem scWIns : FnScope ["self"] ["self"] (defScope sWIns) := ⟨rfl, rfl, rfl, by decide +kernel, rfl, by decide +kernel, by decide +kernel⟩
theorem ok_wins {f : Addr} {fd : FuncData} (F : Fun K "inputs" "World.inputs" sWIns f fd) (B : Bn mg) (T : WT K mg CW mc) : FnOk P w K mg base CX0 1 f fd ["self"] (spWIns CR CU CW) := by
  refine F.ok scWIns (fun vs H Q E h => ?_) (fun cdv A outer s H vs Q E hr h => ?_)
  · obtain ⟨a, ins, ns, g, nm, rfl, _⟩ := h
    rfl
  · obtain ⟨a, ins, ns, g, nm, rfl, ⟨dx, li, df, ln, u, ha, hl, hd, hn, un, _⟩, q⟩ := h
    refine ⟨_, pss_one (ps_ret (pe_callTy call_list_of (by rfl) B.tlist (by decide +kernel) (pa_cons (pe_fld (pv 0) rfl) pa_nil))), ?_⟩
    exact ⟨_, rfl, a, CW, dx, _, _, rfl, ha, T.cl, T.n1, wIn _ _ _ _, li, _, rfl, .inl (.of hl), fun l nl => q l nl⟩
theorem scWFuns : FnScope ["self"] ["self"] (defScope sWFuns) := ⟨rfl, rfl, rfl, by decide +kernel, rfl, by decide +kernel, by decide +kernel⟩
theorem ok_wfuns {f : Addr} {fd : FuncData} (F : Fun K "functions" "World.functions" sWFuns f fd) (B : Bn mg) (T : WT K mg CW mc) : FnOk P w K mg base CX0 1 f fd ["self"] (spWFuns CR CU CW) := by
  refine F.ok scWFuns (fun vs H Q E h => ?_) (fun cdv A outer s H vs Q E hr h => ?_)
  · obtain ⟨a, ins, ns, g, nm, rfl, _⟩ := h
    rfl
  · obtain ⟨a, ins, ns, g, nm, rfl, ⟨dx, li, df, ln, u, ha, hl, hd, hn, un, _⟩, q⟩ := h
    refine ⟨_, pss_one (ps_ret (pe_callTy (call_list_dK rfl) (by rfl) B.tlist (by decide +kernel) (pa_cons (pe_fld (pv 0) rfl) pa_nil))), ?_⟩
    refine ⟨_, rfl, a, CW, dx, _, _, rfl, ha, T.cl, T.n2, wFa _ _ _ _, df, _, rfl, hd, fun l nl => ?_⟩
    rw [keysV]
    exact q l nl
theorem scWFact : FnScope ["self", "name"] ["self", "name"] (defScope sWFact) := ⟨rfl, rfl, rfl, by decide +kernel, rfl, by decide +kernel, by decide +kernel⟩
theorem ok_wfact {f : Addr} {fd : FuncData} (F : Fun K "fact" "World.fact" sWFact f fd) (B : Bn mg) (T : WT K mg CW mc) : FnOk P w K mg base CX0 1 f fd ["self", "name"] (spWFact CR CU CW) := by
  refine F.ok scWFact (fun vs H Q E h => ?_) (fun cdv A outer s H vs Q E hr h => ?_)
  · obtain ⟨a, ins, ns, g, nm, n, rfl, _⟩ := h
    rfl
  · obtain ⟨a, ins, ns, g, nm, n, rfl, ⟨dx, li, df, ln, u, ha, hl, hd, hn, un, _⟩, m, q⟩ := h
    refine ⟨_, pss_cons (ps_if (PW.pt (pw_or (pt_not (pt_val (pe_callB call_isi (by rfl) B.isin (by decide +kernel) (pa_cons (pv 1) (pa_cons (pe_bltn (v := .ty "str") (by rfl) B.tstr (by decide +kernel) rfl) pa_nil))))) (pw_or1 (pt_cmp (pc_dnotin (hu_of hr) (pv 1) (pe_fld (pv 0) rfl)))))) (pss_one ps_never) pss_nil)
      (pss_one (ps_ret (pe_dget (hu_of hr) (pe_fld (pv 0) rfl) (pv 1) (fun _ _ => rfl)))), ?_⟩
    have dg : DGet H df (.str n) (some (.ref (u n))) := .inl ⟨_, Sum.inr n, .inl hd, rfl, (dkN_in m).symm⟩
    refine ⟨_, rfl, _, _, _, _, true, rfl, .ty "str", .base (.str _), kit_ty (by decide +kernel), _, rfl, iteF ?_⟩
    refine ⟨_, rfl, _, rfl, a, CW, dx, _, _, rfl, ha, T.cl, T.n2, wFa _ _ _ _, df, _, rfl, dg, _, rfl, iteF ?_⟩
    exact ⟨_, rfl, a, CW, dx, _, _, rfl, ha, T.cl, T.n2, wFa _ _ _ _, _, rfl, df, _, rfl, dg, q _ (un n m).2 (un n m).1⟩
theorem scWCont : FnScope ["self", "name"] ["self", "name"] (defScope sWCont) := ⟨rfl, rfl, rfl, by decide +kernel, rfl, by decide +kernel, by decide +kernel⟩
theorem ok_wcont {f : Addr} {fd : FuncData} (F : Fun K "__contains__" "World.__contains__" sWCont f fd) (B : Bn mg) (T : WT K mg CW mc) : FnOk P w K mg base CX0 1 f fd ["self", "name"] (spWCont K CR CU CW) := by
  refine F.ok scWCont (fun vs H Q E h => ?_) (fun cdv A outer s H vs Q E hr h => ?_)
  · obtain ⟨a, ins, ns, g, nm, v, rfl, _⟩ := h
    rfl
  · obtain ⟨a, ins, ns, g, nm, v, rfl, ⟨dx, li, df, ln, u, ha, hl, hd, hn, un, _⟩, q⟩ := h
    refine ⟨_, pss_one (ps_ret (pe_and (pe_callB call_isi (by rfl) B.isin (by decide +kernel) (pa_cons (pv 1) (pa_cons (pe_bltn (v := .ty "str") (by rfl) B.tstr (by decide +kernel) rfl) pa_nil))) (pe_one (pe_cmpR op_in_seq (pv 1) (pe_fld (pv 0) rfl) (by rfl))))), ?_⟩
    rcases q with ⟨z, rfl, q⟩ | ⟨t, ty, kt, q⟩
    · refine ⟨_, rfl, _, _, _, _, true, rfl, .ty "str", .base (.str _), kit_ty (by decide +kernel), _, rfl, iteT ?_⟩
      refine ⟨_, rfl, _, rfl, a, CW, dx, _, _, rfl, ha, T.cl, T.n3, wNa _ _ _ _, ln, _, rfl, .inl (.of hn), rfl, flat_strs nm, ?_⟩
      rw [if_neg (by decide), inV_str]
      exact q
    · exact ⟨_, rfl, _, _, _, _, false, rfl, .ty "str", ty, kt, _, rfl, iteF q⟩
theorem scWLen : FnScope ["self"] ["self"] (defScope sWLen) := ⟨rfl, rfl, rfl, by decide +kernel, rfl, by decide +kernel, by decide +kernel⟩
theorem ok_wlen {f : Addr} {fd : FuncData} (F : Fun K "__len__" "World.__len__" sWLen f fd) (B : Bn mg) (T : WT K mg CW mc) : FnOk P w K mg base CX0 1 f fd ["self"] (spWLen CR CU CW) := by
  refine F.ok scWLen (fun vs H Q E h => ?_) (fun cdv A outer s H vs Q E hr h => ?_)
  · obtain ⟨a, ins, ns, g, nm, rfl, _⟩ := h
    rfl
  · obtain ⟨a, ins, ns, g, nm, rfl, ⟨dx, li, df, ln, u, ha, hl, hd, hn, un, _⟩, q⟩ := h
    refine ⟨_, pss_one (ps_ret (pe_callB call_len_seq (by rfl) B.flen (by decide +kernel) (pa_cons (pe_fld (pv 0) rfl) pa_nil))), ?_⟩
    refine ⟨_, rfl, a, CW, dx, _, _, rfl, ha, T.cl, T.n3, wNa _ _ _ _, ln, _, rfl, .inl (.of hn), ?_⟩
    rw [List.length_map]
    exact q
theorem scWEq : FnScope ["self", "other"] ["self", "other"] (defScope sWEq) := ⟨rfl, rfl, rfl, by decide +kernel, rfl, by decide +kernel, by decide +kernel⟩
theorem ok_weq {f : Addr} {fd : FuncData} (F : Fun K "__eq__" "World.__eq__" sWEq f fd) (B : Bn mg) (T : WT K mg CW mc) : FnOk P w K mg base CX0 1 f fd ["self", "other"] (spWEq CR CU CW) := by
  refine F.ok scWEq (fun vs H Q E h => ?_) (fun cdv A outer s H vs Q E hr h => ?_)
  · obtain ⟨a, ins, ns, g, nm, _, ⟨b, _, _, _, _, rfl, _⟩ | ⟨z, rfl, _⟩⟩ := h <;> rfl
  · refine ⟨_, pss_one (ps_ret (pe_and (pe_callB call_isi (by rfl) B.isin (by decide +kernel) (pa_cons (pv 1) (pa_cons (pe_glob (v := .ref CW) (by rfl) T.gl rfl) pa_nil))) (pe_one (pe_cmpR op_eq (pe_fld (pv 0) rfl) (pe_fld (pv 1) rfl) (nomark _))))), ?_⟩
    obtain ⟨a, ins, ns, g, nm, wa, h⟩ := h
    rcases h with ⟨b, jns, ms, h, om, rfl, wb, q⟩ | ⟨z, rfl, q⟩
    · refine ⟨_, rfl, _, _, _, _, true, rfl, .own _, wb.ty T, T.kW, true, rfl, iteT ?_⟩
      obtain ⟨dx, li, df, ln, u, ha, _⟩ := wa
      obtain ⟨dx2, li2, df2, ln2, u2, hb, _⟩ := wb
      refine ⟨_, rfl, a, CW, dx, _, _, rfl, ha, T.cl, T.n4, wTx _ _ _ _, _, rfl, b, CW, dx2, _, _, rfl, hb, T.cl, T.n4, wTx _ _ _ _, rfl, ?_⟩
      have e2 : ∀ x y : Str, decide (V.str x = V.str y) = decide (x = y) := fun x y => by
        by_cases z : x = y
        · rw [decide_eq_true z, decide_eq_true (by rw [z])]
        · rw [decide_eq_false z, decide_eq_false (fun y => z (V.str.inj y))]
      rw [e2]
      exact q
    · exact ⟨_, rfl, _, _, _, _, false, rfl, .own _, .base (.str _), T.kS, false, rfl, iteF q⟩
theorem scWStr : FnScope ["self"] ["self"] (defScope sWStr) := ⟨rfl, rfl, rfl, by decide +kernel, rfl, by decide +kernel, by decide +kernel⟩
theorem ok_wstr {f : Addr} {fd : FuncData} (F : Fun K "__str__" "World.__str__" sWStr f fd) (T : WT K mg CW mc) : FnOk P w K mg base CX0 1 f fd ["self"] (spWStr CR CU CW) := by
  refine F.ok scWStr (fun vs H Q E h => ?_) (fun cdv A outer s H vs Q E hr h => ?_)
  · obtain ⟨a, ins, ns, g, nm, rfl, _⟩ := h
    rfl
  · obtain ⟨a, ins, ns, g, nm, rfl, ⟨dx, li, df, ln, u, ha, hl, hd, hn, un, wi, _⟩, q⟩ := h
    refine ⟨_, pss_one (ps_ret (pe_joined1 (pe_fmt (pe_fld (pv 0) rfl)))), ?_⟩
    exact ⟨_, rfl, a, CW, dx, _, _, rfl, ha, T.cl, T.n4, wTx _ _ _ _, .inl ⟨_, rfl, fit (wtext_len wi.ni wi.nn un.ok) (by decide), q⟩⟩
theorem scWRepr : FnScope ["self"] ["self"] (defScope sWRepr) := ⟨rfl, rfl, rfl, by decide +kernel, rfl, by decide +kernel, by decide +kernel⟩
theorem ok_wrepr {f : Addr} {fd : FuncData} (F : Fun K "__repr__" "World.__repr__" sWRepr f fd) (T : WT K mg CW mc) : FnOk P w K mg base CX0 1 f fd ["self"] (spWRepr CR CU CW) := by
  refine F.ok scWRepr (fun vs H Q E h => ?_) (fun cdv A outer s H vs Q E hr h => ?_)
  · obtain ⟨a, ins, ns, g, nm, rfl, _⟩ := h
    rfl
  · obtain ⟨a, ins, ns, g, nm, rfl, ⟨dx, li, df, ln, u, ha, hl, hd, hn, un, wi, _⟩, q⟩ := h
    have tl := wtext_len wi.ni wi.nn un.ok
    refine ⟨_, pss_one (ps_ret (pe_joined (PJ.cons pe_str (PJ.cons (pe_fmt (pe_fld (pv 0) rfl)) (PJ.cons pe_str PJ.nil))))), ?_⟩
    refine ⟨_, rfl, ?_, ?_⟩
    · rw [empty_app]
      exact fit (m := 20) (by decide) (by decide)
    · rw [empty_app]
      refine ⟨_, rfl, a, CW, dx, _, _, rfl, ha, T.cl, T.n4, wTx _ _ _ _, .inl ⟨_, rfl, fit tl (by decide), _, rfl, ?_, _, rfl, ?_, q⟩⟩
      · exact fit (app_len (show (Str.ofString "World(").length ≤ 20 by decide) tl) (by decide)
      · exact fit (app_len (app_len (show (Str.ofString "World(").length ≤ 20 by decide) tl) (show (Str.ofString ")").length ≤ 20 by decide)) (by decide)
theorem scWWith : FnScope ["self", "name", "fact"] ["self", "name", "fact"] (defScope sWWith) := ⟨rfl, rfl, rfl, by decide +kernel, rfl, by decide +kernel, by decide +kernel⟩
theorem ok_wwith {f fF fI : Addr} {fd fdF fdI : FuncData} (F : Fun K "with_fact" "World.with_fact" sWWith f fd) (U : UT K mg CU) (T : WT K mg CW mc)
    (MF : Meth K CW "fact" fF) (GF : FnOk P w K mg base CX0 1 fF fdF ["self", "name"] (spWFact CR CU CW)) (bF : Binds K fdF ["self", "name"] [])
    (MI : Mk K CW fI) (GI : FnOk P w K mg base CX0 4 fI fdI ["self", "inputs", "functions"] (spWInit CR CU CW)) (bI : Binds K fdI ["self", "inputs", "functions"] []) :
    FnOk P w K mg base CX0 6 f fd ["self", "name", "fact"] (spWWith CR CU CW) := by
  refine F.ok scWWith (fun vs H Q E h => ?_) (fun cdv A outer s H vs Q E hr h => ?_)
  · obtain ⟨a, ins, ns, g, nm, n, x, φ, rfl, _⟩ := h
    rfl
  · obtain ⟨a, ins, ns, g, nm, n, x, φ, rfl, wa, m, ux, ok, ar, q⟩ := h
    have r1 : Room 1 _ := hr.mono (by decide)
    refine ⟨_, pss_cons (ps_if (pt_cmpR op_ne (pe_fld (pe_meth (pv 0) T.cl MF GF r1 bF .nil pass0 (pa_cons (pv 1) pa_nil)) rfl) (pe_fld (pv 2) rfl) (nomark _)) (pss_one ps_never) pss_nil)
      (pss_one (ps_ret (pe_make MI GI hr (by rfl) T.gl bI .nil pass0 (pa_cons (pe_fld (pv 0) rfl) (pa_cons (pe_dispS (pe_fld (pv 0) rfl) (pv 1) (pv 2)) pa_nil))))), ?_⟩
    obtain ⟨dx, li, df, ln, u, ha, hl, hd, hn, un, wi, so, pm⟩ := id wa
    obtain ⟨dx', rx, hx, _⟩ := id ux
    have nf : (w4 li df ln (wtext ins ns g)).lookup ("fact" : Str) = none := by
      unfold w4 w3 w2 w1
      rw [lookup_putF, if_neg (neq _ _), lookup_putF, if_neg (neq _ _), lookup_putF, if_neg (neq _ _), lookup_putF, if_neg (neq _ _)]
      rfl
    refine ⟨_, rfl, a, dx, _, rfl, ha, nf, _, rfl, a, ins, ns, g, nm, n, rfl, wa, m, fun y uy oky => ?_⟩
    obtain ⟨dy, ry, hy, _⟩ := id uy
    refine ⟨y, CU, dy, _, _, rfl, hy, U.cl, U.n1, gAr _ _, _, rfl, x, CU, dx', _, _, rfl, hx, U.cl, U.n1, gAr _ _, rfl, _, rfl, ?_⟩
    rw [decide_eq_true (show V.int (g n).ar = V.int φ.ar by rw [ar])]
    refine iteF ?_
    refine ⟨_, rfl, a, CW, dx, _, _, rfl, ha, T.cl, T.n1, wIn _ _ _ _, fun p np => ?_⟩
    have hd1 : upd H p (.dK []) df = some (.dK (dkN ns u)) := same_upd np _ _ hd
    have ha1 : upd H p (.dK []) a = some (.ins CW dx (w4 li df ln (wtext ins ns g))) := same_upd np _ _ ha
    have nd : df ≠ p := ne_of_none hd np
    have few : ns.length ≤ 4 := wi.2.2.2
    refine ⟨_, rfl, a, CW, dx, _, _, rfl, ha1, T.cl, T.n2, wFa _ _ _ _, upd_same, df, dkN ns u, rfl, hd1, nd, by rw [dkN_len]; exact fit (m := 5) (by omega) (by decide), fun p2 np2 => ?_⟩
    have np12 : p2 ≠ p := fun e => by
      rw [e, upd_same] at np2
      cases np2
    refine ⟨_, rfl, _, rfl, upd_same, (upd_ne np12.symm).trans upd_same, Sum.inr n, rfl, ?_⟩
    have sm : Same H (upd (upd (upd (upd (upd H p (.dK [])) p (.dK (dkN ns u))) p2 (.dK [])) p2 (.dK [(Sum.inr n, .ref x)])) p (.dK (putK (dkN ns u) (Sum.inr n) (.ref x)))) := fun c o e => by
      have n1 := ne_of_none e np
      have e2 : upd (upd H p (.dK [])) p (.dK (dkN ns u)) c = some o := (upd_ne n1).trans ((upd_ne n1).trans e)
      have n2 := ne_of_none e2 np2
      exact (upd_ne n1).trans ((upd_ne n2).trans ((upd_ne n2).trans e2))
    have hD : upd (upd (upd (upd (upd H p (.dK [])) p (.dK (dkN ns u))) p2 (.dK [])) p2 (.dK [(Sum.inr n, .ref x)])) p (.dK (putK (dkN ns u) (Sum.inr n) (.ref x))) p = some (.dK (dkN ns (putU u n x))) := by rw [upd_same, dkN_old x m]
    generalize upd (upd (upd (upd (upd H p (.dK [])) p (.dK (dkN ns u))) p2 (.dK [])) p2 (.dK [(Sum.inr n, .ref x)])) p (.dK (putK (dkN ns u) (Sum.inr n) (.ref x))) = G at sm hD
    intro z dz nz ndz nez
    have s2 : Same G (upd (upd G dz (.own z)) z (.ins CW dz [])) := fun c o e => by
      have n1 := ne_of_none e nz
      rw [upd_ne n1, upd_ne (ne_of_none e ndz)]
      exact e
    have unz : Uns CR CU (upd (upd G dz (.own z)) z (.ins CW dz [])) ns (putU u n x) (putG g n φ) := fun k hk => by
      by_cases e : k = n
      · subst e
        unfold putU putG
        rw [if_pos rfl, if_pos rfl]
        exact ⟨ok, (ux.same sm).same s2⟩
      · unfold putU putG
        rw [if_neg e, if_neg e]
        exact ⟨(un k hk).1, ((un k hk).2.same sm).same s2⟩
    refine ⟨z, dz, li, p, ins, ns, putU u n x, putG g n φ, rfl, upd_same, s2 _ _ (sm _ _ hl), s2 _ _ hD, wi, unz, fun H' ys py sy wz bz => ⟨rfl, ?_⟩⟩
    have ey : ys = ns := sorted_one py sy so
    subst ey
    exact q z H' wz.at (sm.trans (made_same nz ndz bz))
end
end K09

set_option Elab.async false
set_option linter.all false
set_option maxRecDepth 100000
set_option maxHeartbeats 4000000
set_option pp.maxSteps 500
namespace K09
open PySem PySem.Spec PyProof.Rows L2 Ux ClX
abbrev sNames : Stmt := top 58
def twelve : Str := "abcdfghijklm"
/-- the first five letters -/
def pre5 (z : Str) : Str := cutS z none (some 5)
theorem pre5_lt {z : Str} (h : ∀ c ∈ z.cps.toList, c ∈ letters) : ∃ k, k ≤ 5 ∧ Lt (pre5 z) k := by
  refine ⟨(pre5 z).length, ?_, rfl, fun c hc => ?_⟩
  · unfold pre5 cutS
    show (((z.cps.toList.drop (HT.sIx z.length 0 none)).take (HT.sIx z.length z.length (some 5) - HT.sIx z.length 0 none)).toArray).size ≤ 5
    rw [List.size_toArray, List.length_take]
    have e : HT.sIx z.length z.length (some 5) ≤ 5 := by
      unfold HT.sIx
      simp
      omega
    omega
  · refine h c ?_
    unfold pre5 cutS at hc
    have hc2 := hc
    simp only [List.toList_toArray] at hc2
    exact List.mem_of_mem_drop (List.mem_of_mem_take hc2)
theorem name_letters {z : Str} (h : nameB z = true) : ∀ c ∈ z.cps.toList, c ∈ letters := fun c hc => by
  unfold nameB at h
  simp only [Bool.and_eq_true] at h
  exact of_decide_eq_true (List.all_eq_true.mp h.2.1 c hc)
def cand (z : Str) (c : Nat) : Str := pre5 z ++ ⟨#[c]⟩
theorem twelve_ok : (twelve.cps.toList.all fun c => decide (c ∈ letters) && (decide (c ≠ 110) && (decide (c ≠ 116) && decide (c ≠ 101)))) = true := by decide +kernel
theorem twelve_len : twelve.cps.toList.length = 12 := by decide +kernel
theorem twelve_nd : twelve.cps.toList.Nodup := by decide +kernel
theorem cand_name {z : Str} (hz : nameB z = true) {c : Nat} (hc : c ∈ twelve.cps.toList) : nameB (cand z c) = true := by
  have hk := List.all_eq_true.mp twelve_ok c hc
  simp only [Bool.and_eq_true, decide_eq_true_eq] at hk
  obtain ⟨k, k5, lt⟩ := pre5_lt (name_letters hz)
  refine (lt.app (Lt.one hk.1)).name (by omega) (by omega) ?_
  cases e : inV (V.str (pre5 z ++ ⟨#[c]⟩)) kept with
  | false => rfl
  | true =>
    have last : ∀ w : Str, pre5 z ++ ⟨#[c]⟩ = w → w.cps.toList.getLast? = some c := fun w e => by
      rw [← e, cat_list]
      simp
    rcases kept_in e with e | e | e
    · have := last _ e
      have e2 : (Str.ofString "fn").cps.toList.getLast? = some 110 := by decide +kernel
      rw [e2] at this
      exact absurd (Option.some.inj this).symm hk.2.1
    · have := last _ e
      have e2 : (Str.ofString "let").cps.toList.getLast? = some 116 := by decide +kernel
      rw [e2] at this
      exact absurd (Option.some.inj this).symm hk.2.2.1
    · have := last _ e
      have e2 : (Str.ofString "slope").cps.toList.getLast? = some 101 := by decide +kernel
      rw [e2] at this
      exact absurd (Option.some.inj this).symm hk.2.2.2
theorem cand_inj {z : Str} {c d : Nat} (h : cand z c = cand z d) : c = d := by
  have e := congrArg (fun w : Str => w.cps.toList) (app_left h)
  exact (List.cons.inj (show [c] = [d] from e)).1
theorem sub_len {α : Type} [DecidableEq α] : ∀ (l m : List α), l.Nodup → (∀ x ∈ l, x ∈ m) → l.length ≤ m.length
  | [], _, _, _ => Nat.zero_le _
  | x :: l, m, nd, h => by
    have nx := (List.nodup_cons.mp nd).1
    have ih := sub_len l (m.erase x) (List.nodup_cons.mp nd).2 fun y hy => (List.mem_erase_of_ne (fun e : y = x => nx (by rw [← e]; exact hy))).mpr (h y (List.mem_cons_of_mem _ hy))
    have hx := h x (List.mem_cons_self ..)
    have el := List.length_erase_of_mem hx
    have pos : 0 < m.length := List.length_pos_of_mem hx
    rw [List.length_cons]
    omega
/-- the candidates that are no names yet -/
def spare (z : Str) (fs : List Str) (i : Nat) : List Str := ((twelve.cps.toList.take i).map (cand z)).filter fun y => !decide (y ∈ fs)
theorem spare_some {z : Str} {fs : List Str} (h : fs.length < 12) : ∃ c, c ∈ twelve.cps.toList ∧ cand z c ∉ fs ∧ (spare z fs 12)[0]? = some (cand z c) := by
  have ne : spare z fs 12 ≠ [] := fun e => by
    have all : ∀ y ∈ twelve.cps.toList.map (cand z), y ∈ fs := fun y hy => by
      by_cases k : y ∈ fs
      · exact k
      · have m : y ∈ spare z fs 12 := by
          unfold spare
          refine List.mem_filter.mpr ⟨?_, by rw [decide_eq_false k]; rfl⟩
          rw [← twelve_len, List.take_length]
          exact hy
        rw [e] at m
        cases m
    have nd : (twelve.cps.toList.map (cand z)).Nodup := List.Pairwise.map (cand z) (fun a b (n : a ≠ b) (e : cand z a = cand z b) => n (cand_inj e)) twelve_nd
    have := sub_len _ _ nd all
    rw [List.length_map, twelve_len] at this
    omega
  cases e : spare z fs 12 with
  | nil => exact absurd e ne
  | cons y r =>
    have m : y ∈ spare z fs 12 := by
      rw [e]
      exact List.mem_cons_self ..
    unfold spare at m
    obtain ⟨m1, m2⟩ := List.mem_filter.mp m
    obtain ⟨c, hc, rfl⟩ := List.mem_map.mp m1
    refine ⟨c, List.mem_of_mem_take hc, fun k => ?_, rfl⟩
    rw [decide_eq_true k] at m2
    cases m2
theorem spare_len (z : Str) (fs : List Str) (i : Nat) : (spare z fs i).length ≤ 12 := by
  unfold spare
  refine Nat.le_trans (List.length_filter_le _ _) ?_
  rw [List.length_map, List.length_take, twelve_len]
  omega
theorem spare_next {z : Str} {fs : List Str} {i c : Nat} (h : twelve.cps.toList[i]? = some c) : spare z fs (i + 1) = if cand z c ∈ fs then spare z fs i else spare z fs i ++ [cand z c] := by
  unfold spare
  rw [List.take_add_one, h, List.map_append, List.filter_append]
  by_cases k : cand z c ∈ fs
  · rw [if_pos k]
    simp [k]
  · rw [if_neg k]
    simp [k]
end K09

set_option Elab.async false
set_option linter.all false
set_option maxRecDepth 100000
set_option maxHeartbeats 4000000
set_option pp.maxSteps 500
namespace K09
open PySem PySem.Spec PyProof.Rows L2 Ux ClX
def spNames : Sp := fun vs H Q _ => ∃ (b : Addr) (m n : Nat), vs = [.ref b, .int (m : Nat)] ∧ m ≤ 12 ∧ BagAt H b n ∧ n ≤ 800000000 ∧
  ∀ (zs : List Str) (L : Addr) (H' : Hp), zs.length = m → zs.Nodup → (∀ z ∈ zs, nameB z = true) → H' L = some (.lst (zs.map V.str)) → BagAt H' b (n + 7 * m) → Bt b H H' → L ≠ b → Q (.ref L) H'
section
variable {P : Program} {w : World} {K : PySem.W.Frag} {mg : Str → Option Value} {base : Heap}
abbrev nNames : List Str := ["_law_bag_here", "_law_many", "_law_found", "_law_k", "_law_name_here", "_law_spare", "_law_letter"]
theorem scNames : FnScope nNames ["_law_bag_here", "_law_many"] (defScope sNames) := ⟨rfl, rfl, rfl, by decide +kernel, rfl, by decide +kernel, by decide +kernel⟩
theorem ok_names {f fN : Addr} {fd fdN : FuncData} (F : Fun K "_law_names" "_law_names" sNames f fd) (B : Bn mg) (DN : Dn K mg "_law_name" fN) (GN : FnOk P w K mg base CX0 2 fN fdN ["_law_bag_here"] spName) (bN : Binds K fdN ["_law_bag_here"] []) :
    FnOk P w K mg base CX0 3 f fd ["_law_bag_here", "_law_many"] spNames := by
  refine F.ok scNames (fun vs H Q E h => ?_) (fun cdv A outer s H vs Q E hr h => ?_)
  · obtain ⟨b, m, n, rfl, _⟩ := h
    rfl
  · obtain ⟨b, m, n, rfl, hm, hB, hn, q⟩ := h
    refine ⟨_, pss_cons (ps_set (i := 2) scNames.nd rfl (Or.inr rfl) (pe_lst pa_nil))
      (pss_cons (ps_for PassesOwn.never rfl (pi_range1 rfl B.frange (pa_cons (pv 1) pa_nil)) (pg_name (i := 3) scNames.nd rfl (Or.inl rfl))
        (pss_cons (ps_set (i := 4) scNames.nd rfl (Or.inr rfl) (pe_call GN hr (by rfl) DN.gl DN.kp bN .nil pass0 (pa_cons (pv 0) pa_nil)))
        (C8.pss_cut (ps_if (pt_cmpR op_in_seq (pv 4) (pv 2) (by rfl))
          (pss_cons (ps_setLc (i := 5) (own := [("_law_letter", 6)]) (g := gName 6) (tt := tTest (tOp (rIn K true) (tOp (fun x y H Q => ∃ i j, x = V.str i ∧ y = V.str j ∧ i.length + j.length ≤ sizeLine ∧ Q (.str (i ++ j)) H) (tSl rSlS (tVar 4) tNoPart (tPart (tC (.int 5)))) (tVar 6)) (tVar 2))) rfl scNames.nd rfl rfl (sw_true rfl rfl rfl (by decide +kernel)) (pi_str pe_str) (blkOk_by (own := [("_law_letter", 6)]) (N := nNames) (sc := defScope sNames) (by decide +kernel))
              (fun _ _ _ _ _ => pg_name (i := 6) scNames.nd rfl (Or.inl rfl) (hf := Or.inr rfl)) (fun _ _ _ _ _ => pts_one (pt_cmpR op_notIn_seq (pe_op op_add_str (pe_slice sl_str (pv 4) po_none (po_some pe_int)) (pv 6)) (pv 2) (by rfl)))
              (fun _ _ _ _ _ => pe_op op_add_str (pe_slice sl_str (pv 4) po_none (po_some pe_int)) (pv 6)))
            (pss_one (ps_set (i := 4) scNames.nd rfl (Or.inr rfl) (pe_ix ix_list (pv 5) pe_int (fun _ _ => rfl))))) pss_nil)
        (pss_one (ps_expr (pe_bm PySem.F.plainAttrs_list PySem.F.slot_list_append PySem.F.type_list_append mt_append (pv 2) (pa_cons (pv 4) pa_nil)))))))
      (pss_one (ps_ret (pv 2)))), ?_⟩
    refine ⟨Nat.zero_le _, fun L nL => ?_⟩
    have sL := same_upd (o := .lst []) nL
    obtain ⟨ys, hb⟩ := hB.lst
    have Lb : L ≠ b := (ne_of_none hb nL).symm
    refine ⟨_, rfl, (m : Nat), rfl, by omega, by omega, ?_⟩
    rw [Int.toNat_natCast]
    refine for_range (n := m) (fun i σ H' => ∃ x3 x4 x5 zs, σ = [some (.ref b), some (.int (m : Nat)), some (.ref L), x3, x4, x5, none] ∧ H' L = some (.lst (zs.map V.str)) ∧ zs.length = i ∧ zs.Nodup ∧ (∀ z ∈ zs, nameB z = true) ∧ BagAt H' b (n + 7 * i) ∧ Bt b H H')
      ⟨none, none, none, [], rfl, upd_same, rfl, List.nodup_nil, (fun z h => nomatch h), hB.same sL, but_same sL⟩ ?_ ?_
    · rintro i σ H1 hi ⟨x3, x4, x5, zs, rfl, hL, lz, ndz, nmz, B1, bt⟩
      refine ⟨_, rfl, b, n + 7 * i, rfl, B1, by omega, fun z H2 nz B2 f2 => ?_⟩
      have hL2 := f2.1 _ _ hL Lb
      have bt2 := bt.trans f2
      clear B1 hL bt f2 H1
      have l6 := nameB_len nz
      refine ⟨fun σ H' => ∃ y x5, σ = [some (.ref b), some (.int (m : Nat)), some (.ref L), some (.int (0 + (i : Int))), some (.str y), x5, none] ∧ nameB y = true ∧ y ∉ zs ∧ H' L = some (.lst (zs.map V.str)) ∧ BagAt H' b (n + 7 * (i + 1)) ∧ Bt b H H', ?_, ?_⟩
      · refine ⟨_, rfl, _, rfl, L, _, rfl, .inl (.of hL2), rfl, flat_strs zs, _, rfl, ?_⟩
        rw [if_neg (by decide), inV_str]
        by_cases hz : z ∈ zs
        · rw [decide_eq_true hz]
          refine iteT ?_
          have ok5 : ∀ c : Nat, (cutS z none (some 5)).length + (⟨#[c]⟩ : Str).length ≤ sizeLine := fun c => by
            have h1 := cutS_length z none (some 5)
            have h2 : (⟨#[c]⟩ : Str).length = 1 := rfl
            rw [h2]
            exact fit (m := 10) (by omega) (by decide)
          refine ⟨twelve, rfl, fun D nD => ?_⟩
          refine lc_it walk_str (fun i H' => Same H2 H' ∧ H' D = some (.lst ((spare z zs i).map V.str))) ⟨same_upd nD, upd_same⟩ (fun _ _ _ _ => trivial) ?_ ?_
          · rintro j x H3 H4 hj ⟨s3, d3⟩ ⟨rfl, c, hc, rfl⟩
            have hc2 : twelve.cps.toList[j]? = some c := by rw [Array.getElem?_toList]; exact hc
            refine ⟨rfl, _, rfl, _, rfl, z, rfl, fit (m := 10) (by omega) (by decide), _, rfl, _, _, rfl, rfl, ok5 c, _, rfl, L, _, rfl, .inl (.of (s3 _ _ hL2)), rfl, flat_strs zs, _, rfl, ?_⟩
            rw [if_pos rfl, inV_str]
            have en := spare_next (z := z) (fs := zs) hc2
            by_cases k : cand z c ∈ zs
            · rw [if_pos k] at en
              rw [decide_eq_true (show cutS z none (some 5) ++ ⟨#[c]⟩ ∈ zs from k)]
              refine iteF ⟨s3, ?_⟩
              rw [en]
              exact d3
            · rw [if_neg k] at en
              rw [decide_eq_false (show ¬ cutS z none (some 5) ++ ⟨#[c]⟩ ∈ zs from k)]
              refine iteT ⟨_, rfl, _, rfl, z, rfl, fit (m := 10) (by omega) (by decide), _, rfl, _, _, rfl, rfl, ok5 c, _, d3, ?_, fun c' o e => ?_, ?_⟩
              · rw [List.length_map]
                have := spare_len z zs j
                exact small1000 (by omega)
              · rw [upd_ne (ne_of_none e nD)]
                exact s3 _ _ e
              · rw [upd_same, en, List.map_append]
                rfl
          · rintro H3 ⟨s3, d3⟩
            have e12 : twelve.cps.size = 12 := by decide +kernel
            rw [e12] at d3
            obtain ⟨c, hc, nc, h0⟩ := spare_some (z := z) (fs := zs) (by omega)
            have at0 : ((spare z zs 12).map V.str)[0]? = some (V.str (cand z c)) := by
              rw [List.getElem?_map, h0]
              rfl
            refine ⟨_, rfl, D, _, 0, _, rfl, rfl, .of d3, atI_nat at0, cand z c, _, rfl, cand_name nz hc, nc, s3 _ _ hL2, ?_, bt2.trans (but_same s3)⟩
            have B3 := B2.same s3
            exact B3.more (by omega)
        · rw [decide_eq_false hz]
          exact iteF ⟨z, _, rfl, nz, hz, hL2, B2.more (by omega), bt2⟩
      · clear hL2 bt2 B2 nz l6 H2
        rintro σ H2 ⟨y, x5', rfl, ny, hy, hL2, B2, bt2⟩
        refine ⟨_, rfl, .inl ⟨rfl, _, SqL.of hL2⟩, _, rfl, L, _, _, rfl, rfl, hL2, ?_, ?_⟩
        · rw [List.length_map]
          exact small1000 (by omega)
        · refine ⟨_, _, _, zs ++ [y], rfl, ?_, ?_, ?_, ?_, ?_, fun x o e nb => ?_, fun l r e => ?_⟩
          · rw [upd_same, List.map_append]
            rfl
          · rw [List.length_append, lz]
            rfl
          · refine List.nodup_append.mpr ⟨ndz, by simp, fun a ha c hc e => hy ?_⟩
            rw [List.mem_singleton] at hc
            rw [← hc, ← e]
            exact ha
          · intro a ha
            rcases List.mem_append.mp ha with h | h
            · exact nmz a h
            · rw [List.mem_singleton] at h
              rw [h]
              exact ny
          · obtain ⟨l0, _, _, _, _, _, k1, k2, _⟩ := hB.ex
            obtain ⟨l, ns', p, g, s', c, h1, h2, h3, h4⟩ := B2.ex
            obtain ⟨r', e1⟩ := bt2.2 l0 _ k1
            rw [h1] at e1
            have el : l = l0 := by
              have e2 := Option.some.inj e1
              injection e2 with e3
              exact V.ref.inj (List.cons.inj e3).1
            have Ll : l ≠ L := fun e => by
              rw [← el, e, nL] at k2
              cases k2
            exact ⟨l, ns', p, g, s', c, (upd_ne Lb.symm).trans h1, (upd_ne Ll).trans h2, h3, h4⟩
          · have nc : x ≠ L := fun e' => by
              rw [e', nL] at e
              cases e
            rw [upd_ne nc]
            exact bt2.1 _ _ e nb
          · obtain ⟨r', e1⟩ := bt2.2 l r e
            exact ⟨r', (upd_ne Lb.symm).trans e1⟩
    · rintro σ H1 ⟨x3, x4, x5, zs, rfl, hL, lz, ndz, nmz, B1, bt⟩
      exact ⟨_, rfl, q zs L H1 lz ndz nmz hL B1 bt Lb⟩
end
end K09

set_option Elab.async false
set_option linter.all false
set_option maxRecDepth 100000
set_option maxHeartbeats 4000000
set_option pp.maxSteps 500
namespace K09
open PySem PySem.Spec PyProof.Rows L2 Ux
abbrev sShown : Stmt := top 3
/-- the values that the law hands in -/
inductive Adm (H : Hp) : V → Prop where
  | non : Adm H .non
  | yes : Adm H (.bl true)
  | int {i : Int} (h : i.natAbs < 10 ^ 10) : Adm H (.int i)
  | str {x : Str} (h : (reprText x).length ≤ 1000) : Adm H (.str x)
  | tup {a : Addr} {xs : List V} (h : H a = some (.tup xs)) : Adm H (.ref a)
  | lst {a : Addr} {xs : List V} (h : H a = some (.lst xs)) : Adm H (.ref a)
def spShown : Sp := fun vs H Q _ => ∃ v, vs = [v] ∧ Adm H v ∧ ∀ z : Str, z.length ≤ 1000 → Q (.str z) H
theorem log2_small {i : Int} (h : i.natAbs < 10 ^ 10) : i.natAbs.log2 < 1920 := by
  by_cases z : i.natAbs = 0
  · rw [z]
    decide
  · have q := Nat.log2_self_le z
    have : i.natAbs.log2 < 40 := by
      refine Nat.lt_of_not_le fun c => ?_
      have q2 : 2 ^ 40 ≤ 2 ^ i.natAbs.log2 := Nat.pow_le_pow_right (by decide) c
      have q3 : (10 : Nat) ^ 10 < 2 ^ 40 := by decide
      omega
    omega
theorem text_small {i : Int} (h : i.natAbs < 10 ^ 10) : (toString i : Str).length ≤ 1000 := by
  show (Str.ofString (toString i)).length ≤ 1000
  have q := int_text_length_le10 (k := 10) (by decide) h
  rw [PySem.ofString_length]
  omega
section
variable {P : Program} {w : World} {K : PySem.W.Frag} {mg : Str → Option Value} {base : Heap}
theorem scShown : FnScope ["value"] ["value"] (defScope sShown) := ⟨rfl, rfl, rfl, by decide +kernel, rfl, by decide +kernel, by decide +kernel⟩
theorem ok_shown {f : Addr} {fd : FuncData} (F : Fun K "shown" "shown" sShown f fd) (T : Bn mg) : FnOk P w K mg base CX0 1 f fd ["value"] spShown := by
  refine F.ok scShown (fun vs H Q E h => ?_) (fun cdv A outer s H vs Q E hr h => ?_)
  · obtain ⟨v, rfl, _⟩ := h
    rfl
  · obtain ⟨v, rfl, adm, k⟩ := h
    refine ⟨_, pss_cons (ps_if (pt_val (pe_callB call_isi (by rfl) T.isin (by decide +kernel) (pa_cons (pv 0) (pa_cons (pe_bltn (v := .ty "str") (by rfl) T.tstr (by decide +kernel) rfl) pa_nil))))
        (pss_one (ps_ret (pe_callB call_reprS (by rfl) T.frepr (by decide +kernel) (pa_cons (pv 0) pa_nil)))) pss_nil)
      (pss_cons (ps_if (PW.pt (pw_and (pt_val (pe_callB call_isi (by rfl) T.isin (by decide +kernel) (pa_cons (pv 0) (pa_cons (pe_bltn (v := .ty "int") (by rfl) T.tint (by decide +kernel) rfl) pa_nil))))
          (pw_and1 (pt_cmpR op_lt (pe_callB call_absT (by rfl) T.fabs (by decide +kernel) (pa_cons (pv 0) pa_nil)) (pe_op op_pow pe_int pe_int) (nomark _)))))
        (pss_one (ps_ret (pe_callTy call_strT (by rfl) T.tstr (by decide +kernel) (pa_cons (pv 0) pa_nil)))) pss_nil)
      (pss_one (ps_ret pe_str))), ?_⟩
    cases adm with
    | non =>
      refine ⟨_, rfl, _, _, _, _, false, rfl, .ty "str", .base .non, kit_ty (by decide +kernel), _, rfl, ?_⟩
      refine iteF ?_
      refine ⟨_, rfl, _, _, _, _, false, rfl, .ty "int", .base .non, kit_ty (by decide +kernel), _, rfl, ?_⟩
      refine iteF (iteF ?_)
      exact k _ (by decide)
    | yes =>
      refine ⟨_, rfl, _, _, _, _, false, rfl, .ty "str", .base (.bl _), kit_ty (by decide +kernel), _, rfl, ?_⟩
      refine iteF ?_
      refine ⟨_, rfl, _, _, _, _, true, rfl, .ty "int", .base (.bl _), kit_ty (by decide +kernel), _, rfl, ?_⟩
      refine iteT ⟨_, rfl, .inr ⟨rfl, _, _, rfl, rfl, ⟨by decide, by decide, by decide⟩, _, _, rfl, rfl, _, rfl, ?_⟩⟩
      refine iteT ⟨_, rfl, .inr ⟨rfl, ?_⟩⟩
      exact k _ (by decide)
    | @int i hi =>
      refine ⟨_, rfl, _, _, _, _, false, rfl, .ty "str", .base (.int _), kit_ty (by decide +kernel), _, rfl, ?_⟩
      refine iteF ?_
      refine ⟨_, rfl, _, _, _, _, true, rfl, .ty "int", .base (.int _), kit_ty (by decide +kernel), _, rfl, ?_⟩
      refine iteT ⟨_, rfl, .inl ⟨_, rfl, _, _, rfl, rfl, ⟨by decide, by decide, by decide⟩, _, _, rfl, rfl, _, rfl, ?_⟩⟩
      have lt : (if i < 0 then -i else i) < 10 ^ Int.toNat 30 := by
        have e : ((10 : Int) ^ Int.toNat 30) = 1000000000000000000000000000000 := by decide +kernel
        have h10 : (10 : Nat) ^ 10 = 10000000000 := by decide
        rw [e]
        rw [h10] at hi
        split <;> omega
      rw [decide_eq_true lt]
      refine iteT ⟨_, rfl, .inl ⟨_, rfl, log2_small hi, ?_⟩⟩
      exact k _ (text_small hi)
    | @str x hx =>
      refine ⟨_, rfl, _, _, _, _, true, rfl, .ty "str", .base (.str _), kit_ty (by decide +kernel), _, rfl, ?_⟩
      refine iteT ⟨_, rfl, _, rfl, ?_, ?_⟩
      · rw [sizeLine_eq]
        omega
      · exact k _ hx
    | tup ha =>
      refine ⟨_, rfl, _, _, _, _, false, rfl, .ty "str", .base (.tup ha), kit_ty (by decide +kernel), _, rfl, ?_⟩
      refine iteF ?_
      refine ⟨_, rfl, _, _, _, _, false, rfl, .ty "int", .base (.tup ha), kit_ty (by decide +kernel), _, rfl, ?_⟩
      refine iteF (iteF ?_)
      exact k _ (by decide)
    | lst ha =>
      refine ⟨_, rfl, _, _, _, _, false, rfl, .ty "str", .base (.lst ha), kit_ty (by decide +kernel), _, rfl, ?_⟩
      refine iteF ?_
      refine ⟨_, rfl, _, _, _, _, false, rfl, .ty "int", .base (.lst ha), kit_ty (by decide +kernel), _, rfl, ?_⟩
      refine iteF (iteF ?_)
      exact k _ (by decide)
end
theorem e00 : Str.empty.length ≤ 0 := Nat.le_refl _
theorem app_le {x y : Str} {m n : Nat} (h : x.length ≤ m) (k : y.length ≤ n) : (x ++ y).length ≤ m + n := by
  rw [PySem.Str.length_append]
  omega
/-- a base of error classes, its __init__ read off it -/
structure Bs (K : PySem.W.Frag) (mg : Str → Option Value) (x : Str) (initId : String) (CB : Addr) : Prop where
  gl : mg x = some (.ref CB)
  sg : PySem.W.specialIn K (.ref CB) "__getattribute__" = some (some (.builtin "type.__getattribute__"))
  rd : PySem.W.readsIn K CB (.type "type") = true
  vV : PySem.W.findCls K (.ref CB) (.type "type") "__init__" = some (.val (.builtin initId))
  vh : PySem.W.handedIn (.builtin initId) = true
abbrev sI_InvalidName : Stmt := inClass (top 6) 0
/-- InvalidName.__init__ -/
def spI_InvalidName (K : PySem.W.Frag) : Sp := fun vs H Q _ => ∃ (a C : Addr) (v1 : V), vs = [.ref a, v1] ∧ EcI K "ValueError.__init__" C ∧ (PySem.W.findIn K (.ref C) "code" = some none ∧ PySem.W.findIn K (.ref C) "given" = some none) ∧ H a = some (exo a C none) ∧ Adm H v1 ∧
  ∀ (d : Addr) (H' : Hp), H d = none → d ≠ a → H' a = some (exo a C (some d)) → H' d = some (exd d [("given", v1), ("code", .str "InvalidName")]) → But a H H' → Q .non H'
section
variable {P : Program} {w : World} {K : PySem.W.Frag} {mg : Str → Option Value} {base : Heap}
theorem scI_InvalidName : FnScope ["self", "given"] ["self", "given"] (defScope sI_InvalidName) := ⟨rfl, rfl, rfl, by decide +kernel, rfl, by decide +kernel, by decide +kernel⟩
theorem okI_InvalidName {f CB fS : Addr} {fd fdS : FuncData} (F : Fun K "__init__" "InvalidName.__init__" sI_InvalidName f fd) (W : Bs K mg "SlopeError" "ValueError.__init__" CB) (D : Dn K mg "shown" fS) (G : FnOk P w K mg base CX0 1 fS fdS ["value"] spShown) (bS : Binds K fdS ["value"] []) :
    FnOk P w K mg base CX0 2 f fd ["self", "given"] (spI_InvalidName K) := by
  refine F.ok scI_InvalidName (fun vs H Q E h => ?_) (fun cdv A outer s H vs Q E hr h => ?_)
  · obtain ⟨a, C, v1, rfl, _⟩ := h
    rfl
  · obtain ⟨a, C, v1, rfl, ec, ⟨n0, n1⟩, ea, ad1, k⟩ := h
    refine ⟨_, pss_cons (ps_expr (pe_bi (initId := "ValueError.__init__") (by rfl) W.gl W.sg W.rd W.vV W.vh (pa_cons (pv 0) (pa_cons (pe_joined (PJ.cons (pe_fmt (pe_call G hr (by rfl) D.gl D.kp bS .nil pass0 (pa_cons (pv 1) pa_nil))) (PJ.cons pe_str PJ.nil))) pa_nil)))) (pss_cons (ps_est (pv 0) pe_str) (pss_one (ps_est (pv 0) (pv 1)))), ?_⟩
    have ea2 : EcA K C := ⟨_, ec⟩
    refine ⟨_, rfl, _, rfl, v1, rfl, ad1, fun z1 hz1 => .inl ⟨z1, rfl, fit hz1 (by decide), z1, rfl, fit (app_le e00 hz1) (by decide), _, rfl, fit (app_le (app_le e00 hz1) (show (Str.ofString " is no valid name").length ≤ 200 by decide)) (by decide), a, C, _, rfl, (by show 1 ≤ 1000; decide), ec, ea, ?_⟩⟩
    refine ⟨_, rfl, a, C, rfl, ea2, n0, .inl ⟨ea, fun d hd nd => ?_⟩⟩
    have xa : (upd (upd H d (exd d [("code", V.str "InvalidName")])) a (exo a C (some d))) a = some (exo a C (some d)) := upd_same
    have xd0 : (upd (upd H d (exd d [("code", V.str "InvalidName")])) a (exo a C (some d))) d = some (exd d [("code", V.str "InvalidName")]) := (upd_ne nd).trans upd_same
    have b0 : But a H (upd (upd H d (exd d [("code", V.str "InvalidName")])) a (exo a C (some d))) := fun x o e n => by
      rw [upd_ne n, upd_ne (ne_of_none e hd)]
      exact e
    refine ⟨_, rfl, _, rfl, a, C, rfl, ea2, n1, .inr ⟨d, _, xa, xd0, (by show 1 ≤ 900; decide), ?_⟩⟩
    replace xa : (upd (upd (upd H d (exd d [("code", V.str "InvalidName")])) a (exo a C (some d))) d (exd d (("given", v1) :: [("code", V.str "InvalidName")]))) a = some (exo a C (some d)) := (upd_ne nd.symm).trans xa
    have xd1 : (upd (upd (upd H d (exd d [("code", V.str "InvalidName")])) a (exo a C (some d))) d (exd d (("given", v1) :: [("code", V.str "InvalidName")]))) d = some (exd d (("given", v1) :: [("code", V.str "InvalidName")])) := upd_same
    have b1 : But a H (upd (upd (upd H d (exd d [("code", V.str "InvalidName")])) a (exo a C (some d))) d (exd d (("given", v1) :: [("code", V.str "InvalidName")]))) := fun x o e n => by
      rw [upd_ne (ne_of_none e hd)]
      exact b0 x o e n
    exact k d _ hd nd xa xd1 b1
end
abbrev sI_NameTaken : Stmt := inClass (top 10) 0
/-- NameTaken.__init__ -/
def spI_NameTaken (K : PySem.W.Frag) : Sp := fun vs H Q _ => ∃ (a C : Addr) (v1 : V), vs = [.ref a, v1] ∧ EcI K "ValueError.__init__" C ∧ (PySem.W.findIn K (.ref C) "code" = some none ∧ PySem.W.findIn K (.ref C) "name" = some none) ∧ H a = some (exo a C none) ∧ Adm H v1 ∧
  ∀ (d : Addr) (H' : Hp), H d = none → d ≠ a → H' a = some (exo a C (some d)) → H' d = some (exd d [("name", v1), ("code", .str "NameTaken")]) → But a H H' → Q .non H'
section
variable {P : Program} {w : World} {K : PySem.W.Frag} {mg : Str → Option Value} {base : Heap}
theorem scI_NameTaken : FnScope ["self", "name"] ["self", "name"] (defScope sI_NameTaken) := ⟨rfl, rfl, rfl, by decide +kernel, rfl, by decide +kernel, by decide +kernel⟩
theorem okI_NameTaken {f CB fS : Addr} {fd fdS : FuncData} (F : Fun K "__init__" "NameTaken.__init__" sI_NameTaken f fd) (W : Bs K mg "SlopeError" "ValueError.__init__" CB) (D : Dn K mg "shown" fS) (G : FnOk P w K mg base CX0 1 fS fdS ["value"] spShown) (bS : Binds K fdS ["value"] []) :
    FnOk P w K mg base CX0 2 f fd ["self", "name"] (spI_NameTaken K) := by
  refine F.ok scI_NameTaken (fun vs H Q E h => ?_) (fun cdv A outer s H vs Q E hr h => ?_)
  · obtain ⟨a, C, v1, rfl, _⟩ := h
    rfl
  · obtain ⟨a, C, v1, rfl, ec, ⟨n0, n1⟩, ea, ad1, k⟩ := h
    refine ⟨_, pss_cons (ps_expr (pe_bi (initId := "ValueError.__init__") (by rfl) W.gl W.sg W.rd W.vV W.vh (pa_cons (pv 0) (pa_cons (pe_joined (PJ.cons pe_str (PJ.cons (pe_fmt (pe_call G hr (by rfl) D.gl D.kp bS .nil pass0 (pa_cons (pv 1) pa_nil))) (PJ.cons pe_str PJ.nil)))) pa_nil)))) (pss_cons (ps_est (pv 0) pe_str) (pss_one (ps_est (pv 0) (pv 1)))), ?_⟩
    have ea2 : EcA K C := ⟨_, ec⟩
    refine ⟨_, rfl, _, rfl, fit (app_le e00 (show (Str.ofString "the name ").length ≤ 200 by decide)) (by decide), _, rfl, v1, rfl, ad1, fun z1 hz1 => .inl ⟨z1, rfl, fit hz1 (by decide), z1, rfl, fit (app_le (app_le e00 (show (Str.ofString "the name ").length ≤ 200 by decide)) hz1) (by decide), _, rfl, fit (app_le (app_le (app_le e00 (show (Str.ofString "the name ").length ≤ 200 by decide)) hz1) (show (Str.ofString " is taken").length ≤ 200 by decide)) (by decide), a, C, _, rfl, (by show 1 ≤ 1000; decide), ec, ea, ?_⟩⟩
    refine ⟨_, rfl, a, C, rfl, ea2, n0, .inl ⟨ea, fun d hd nd => ?_⟩⟩
    have xa : (upd (upd H d (exd d [("code", V.str "NameTaken")])) a (exo a C (some d))) a = some (exo a C (some d)) := upd_same
    have xd0 : (upd (upd H d (exd d [("code", V.str "NameTaken")])) a (exo a C (some d))) d = some (exd d [("code", V.str "NameTaken")]) := (upd_ne nd).trans upd_same
    have b0 : But a H (upd (upd H d (exd d [("code", V.str "NameTaken")])) a (exo a C (some d))) := fun x o e n => by
      rw [upd_ne n, upd_ne (ne_of_none e hd)]
      exact e
    refine ⟨_, rfl, _, rfl, a, C, rfl, ea2, n1, .inr ⟨d, _, xa, xd0, (by show 1 ≤ 900; decide), ?_⟩⟩
    replace xa : (upd (upd (upd H d (exd d [("code", V.str "NameTaken")])) a (exo a C (some d))) d (exd d (("name", v1) :: [("code", V.str "NameTaken")]))) a = some (exo a C (some d)) := (upd_ne nd.symm).trans xa
    have xd1 : (upd (upd (upd H d (exd d [("code", V.str "NameTaken")])) a (exo a C (some d))) d (exd d (("name", v1) :: [("code", V.str "NameTaken")]))) d = some (exd d (("name", v1) :: [("code", V.str "NameTaken")])) := upd_same
    have b1 : But a H (upd (upd (upd H d (exd d [("code", V.str "NameTaken")])) a (exo a C (some d))) d (exd d (("name", v1) :: [("code", V.str "NameTaken")]))) := fun x o e n => by
      rw [upd_ne (ne_of_none e hd)]
      exact b0 x o e n
    exact k d _ hd nd xa xd1 b1
end
abbrev sI_TooLarge : Stmt := inClass (top 11) 0
/-- TooLarge.__init__ -/
def spI_TooLarge (K : PySem.W.Frag) : Sp := fun vs H Q _ => ∃ (a C : Addr) (v1 v2 : V), vs = [.ref a, v1, v2] ∧ EcI K "ValueError.__init__" C ∧ (PySem.W.findIn K (.ref C) "code" = some none ∧ PySem.W.findIn K (.ref C) "what" = some none ∧ PySem.W.findIn K (.ref C) "limit" = some none) ∧ H a = some (exo a C none) ∧ Adm H v1 ∧ Adm H v2 ∧
  ∀ (d : Addr) (H' : Hp), H d = none → d ≠ a → H' a = some (exo a C (some d)) → H' d = some (exd d [("limit", v2), ("what", v1), ("code", .str "TooLarge")]) → But a H H' → Q .non H'
section
variable {P : Program} {w : World} {K : PySem.W.Frag} {mg : Str → Option Value} {base : Heap}
theorem scI_TooLarge : FnScope ["self", "what", "limit"] ["self", "what", "limit"] (defScope sI_TooLarge) := ⟨rfl, rfl, rfl, by decide +kernel, rfl, by decide +kernel, by decide +kernel⟩
theorem okI_TooLarge {f CB fS : Addr} {fd fdS : FuncData} (F : Fun K "__init__" "TooLarge.__init__" sI_TooLarge f fd) (W : Bs K mg "SlopeError" "ValueError.__init__" CB) (D : Dn K mg "shown" fS) (G : FnOk P w K mg base CX0 1 fS fdS ["value"] spShown) (bS : Binds K fdS ["value"] []) :
    FnOk P w K mg base CX0 2 f fd ["self", "what", "limit"] (spI_TooLarge K) := by
  refine F.ok scI_TooLarge (fun vs H Q E h => ?_) (fun cdv A outer s H vs Q E hr h => ?_)
  · obtain ⟨a, C, v1, v2, rfl, _⟩ := h
    rfl
  · obtain ⟨a, C, v1, v2, rfl, ec, ⟨n0, n1, n2⟩, ea, ad1, ad2, k⟩ := h
    refine ⟨_, pss_cons (ps_expr (pe_bi (initId := "ValueError.__init__") (by rfl) W.gl W.sg W.rd W.vV W.vh (pa_cons (pv 0) (pa_cons (pe_joined (PJ.cons (pe_fmt (pe_call G hr (by rfl) D.gl D.kp bS .nil pass0 (pa_cons (pv 1) pa_nil))) (PJ.cons pe_str (PJ.cons (pe_fmt (pe_call G hr (by rfl) D.gl D.kp bS .nil pass0 (pa_cons (pv 2) pa_nil))) PJ.nil)))) pa_nil)))) (pss_cons (ps_est (pv 0) pe_str) (pss_cons (ps_est (pv 0) (pv 1)) (pss_one (ps_est (pv 0) (pv 2))))), ?_⟩
    have ea2 : EcA K C := ⟨_, ec⟩
    refine ⟨_, rfl, _, rfl, v1, rfl, ad1, fun z1 hz1 => .inl ⟨z1, rfl, fit hz1 (by decide), z1, rfl, fit (app_le e00 hz1) (by decide), _, rfl, fit (app_le (app_le e00 hz1) (show (Str.ofString " beyond the limit ").length ≤ 200 by decide)) (by decide), _, rfl, v2, rfl, ad2, fun z2 hz2 => .inl ⟨z2, rfl, fit hz2 (by decide), z2, rfl, fit (app_le (app_le (app_le e00 hz1) (show (Str.ofString " beyond the limit ").length ≤ 200 by decide)) hz2) (by decide), a, C, _, rfl, (by show 1 ≤ 1000; decide), ec, ea, ?_⟩⟩⟩
    refine ⟨_, rfl, a, C, rfl, ea2, n0, .inl ⟨ea, fun d hd nd => ?_⟩⟩
    have xa : (upd (upd H d (exd d [("code", V.str "TooLarge")])) a (exo a C (some d))) a = some (exo a C (some d)) := upd_same
    have xd0 : (upd (upd H d (exd d [("code", V.str "TooLarge")])) a (exo a C (some d))) d = some (exd d [("code", V.str "TooLarge")]) := (upd_ne nd).trans upd_same
    have b0 : But a H (upd (upd H d (exd d [("code", V.str "TooLarge")])) a (exo a C (some d))) := fun x o e n => by
      rw [upd_ne n, upd_ne (ne_of_none e hd)]
      exact e
    refine ⟨_, rfl, _, rfl, a, C, rfl, ea2, n1, .inr ⟨d, _, xa, xd0, (by show 1 ≤ 900; decide), ?_⟩⟩
    replace xa : (upd (upd (upd H d (exd d [("code", V.str "TooLarge")])) a (exo a C (some d))) d (exd d (("what", v1) :: [("code", V.str "TooLarge")]))) a = some (exo a C (some d)) := (upd_ne nd.symm).trans xa
    have xd1 : (upd (upd (upd H d (exd d [("code", V.str "TooLarge")])) a (exo a C (some d))) d (exd d (("what", v1) :: [("code", V.str "TooLarge")]))) d = some (exd d (("what", v1) :: [("code", V.str "TooLarge")])) := upd_same
    have b1 : But a H (upd (upd (upd H d (exd d [("code", V.str "TooLarge")])) a (exo a C (some d))) d (exd d (("what", v1) :: [("code", V.str "TooLarge")]))) := fun x o e n => by
      rw [upd_ne (ne_of_none e hd)]
      exact b0 x o e n
    refine ⟨_, rfl, _, rfl, a, C, rfl, ea2, n2, .inr ⟨d, _, xa, xd1, (by show 2 ≤ 900; decide), ?_⟩⟩
    replace xa : (upd (upd (upd (upd H d (exd d [("code", V.str "TooLarge")])) a (exo a C (some d))) d (exd d (("what", v1) :: [("code", V.str "TooLarge")]))) d (exd d (("limit", v2) :: (("what", v1) :: [("code", V.str "TooLarge")])))) a = some (exo a C (some d)) := (upd_ne nd.symm).trans xa
    have xd2 : (upd (upd (upd (upd H d (exd d [("code", V.str "TooLarge")])) a (exo a C (some d))) d (exd d (("what", v1) :: [("code", V.str "TooLarge")]))) d (exd d (("limit", v2) :: (("what", v1) :: [("code", V.str "TooLarge")])))) d = some (exd d (("limit", v2) :: (("what", v1) :: [("code", V.str "TooLarge")]))) := upd_same
    have b2 : But a H (upd (upd (upd (upd H d (exd d [("code", V.str "TooLarge")])) a (exo a C (some d))) d (exd d (("what", v1) :: [("code", V.str "TooLarge")]))) d (exd d (("limit", v2) :: (("what", v1) :: [("code", V.str "TooLarge")])))) := fun x o e n => by
      rw [upd_ne (ne_of_none e hd)]
      exact b1 x o e n
    exact k d _ hd nd xa xd2 b2
end
abbrev sI_InvalidFact : Stmt := inClass (top 8) 0
/-- InvalidFact.__init__ -/
def spI_InvalidFact (K : PySem.W.Frag) : Sp := fun vs H Q _ => ∃ (a C : Addr) (v1 : V), vs = [.ref a, v1] ∧ EcI K "ValueError.__init__" C ∧ (PySem.W.findIn K (.ref C) "code" = some none ∧ PySem.W.findIn K (.ref C) "what" = some none) ∧ H a = some (exo a C none) ∧ Adm H v1 ∧
  ∀ (d : Addr) (H' : Hp), H d = none → d ≠ a → H' a = some (exo a C (some d)) → H' d = some (exd d [("what", v1), ("code", .str "InvalidFact")]) → But a H H' → Q .non H'
section
variable {P : Program} {w : World} {K : PySem.W.Frag} {mg : Str → Option Value} {base : Heap}
theorem scI_InvalidFact : FnScope ["self", "what"] ["self", "what"] (defScope sI_InvalidFact) := ⟨rfl, rfl, rfl, by decide +kernel, rfl, by decide +kernel, by decide +kernel⟩
theorem okI_InvalidFact {f CB fS : Addr} {fd fdS : FuncData} (F : Fun K "__init__" "InvalidFact.__init__" sI_InvalidFact f fd) (W : Bs K mg "SlopeError" "ValueError.__init__" CB) (D : Dn K mg "shown" fS) (G : FnOk P w K mg base CX0 1 fS fdS ["value"] spShown) (bS : Binds K fdS ["value"] []) :
    FnOk P w K mg base CX0 2 f fd ["self", "what"] (spI_InvalidFact K) := by
  refine F.ok scI_InvalidFact (fun vs H Q E h => ?_) (fun cdv A outer s H vs Q E hr h => ?_)
  · obtain ⟨a, C, v1, rfl, _⟩ := h
    rfl
  · obtain ⟨a, C, v1, rfl, ec, ⟨n0, n1⟩, ea, ad1, k⟩ := h
    refine ⟨_, pss_cons (ps_expr (pe_bi (initId := "ValueError.__init__") (by rfl) W.gl W.sg W.rd W.vV W.vh (pa_cons (pv 0) (pa_cons (pe_joined (PJ.cons pe_str (PJ.cons (pe_fmt (pe_call G hr (by rfl) D.gl D.kp bS .nil pass0 (pa_cons (pv 1) pa_nil))) PJ.nil))) pa_nil)))) (pss_cons (ps_est (pv 0) pe_str) (pss_one (ps_est (pv 0) (pv 1)))), ?_⟩
    have ea2 : EcA K C := ⟨_, ec⟩
    refine ⟨_, rfl, _, rfl, fit (app_le e00 (show (Str.ofString "no valid fact: ").length ≤ 200 by decide)) (by decide), _, rfl, v1, rfl, ad1, fun z1 hz1 => .inl ⟨z1, rfl, fit hz1 (by decide), z1, rfl, fit (app_le (app_le e00 (show (Str.ofString "no valid fact: ").length ≤ 200 by decide)) hz1) (by decide), a, C, _, rfl, (by show 1 ≤ 1000; decide), ec, ea, ?_⟩⟩
    refine ⟨_, rfl, a, C, rfl, ea2, n0, .inl ⟨ea, fun d hd nd => ?_⟩⟩
    have xa : (upd (upd H d (exd d [("code", V.str "InvalidFact")])) a (exo a C (some d))) a = some (exo a C (some d)) := upd_same
    have xd0 : (upd (upd H d (exd d [("code", V.str "InvalidFact")])) a (exo a C (some d))) d = some (exd d [("code", V.str "InvalidFact")]) := (upd_ne nd).trans upd_same
    have b0 : But a H (upd (upd H d (exd d [("code", V.str "InvalidFact")])) a (exo a C (some d))) := fun x o e n => by
      rw [upd_ne n, upd_ne (ne_of_none e hd)]
      exact e
    refine ⟨_, rfl, _, rfl, a, C, rfl, ea2, n1, .inr ⟨d, _, xa, xd0, (by show 1 ≤ 900; decide), ?_⟩⟩
    replace xa : (upd (upd (upd H d (exd d [("code", V.str "InvalidFact")])) a (exo a C (some d))) d (exd d (("what", v1) :: [("code", V.str "InvalidFact")]))) a = some (exo a C (some d)) := (upd_ne nd.symm).trans xa
    have xd1 : (upd (upd (upd H d (exd d [("code", V.str "InvalidFact")])) a (exo a C (some d))) d (exd d (("what", v1) :: [("code", V.str "InvalidFact")]))) d = some (exd d (("what", v1) :: [("code", V.str "InvalidFact")])) := upd_same
    have b1 : But a H (upd (upd (upd H d (exd d [("code", V.str "InvalidFact")])) a (exo a C (some d))) d (exd d (("what", v1) :: [("code", V.str "InvalidFact")]))) := fun x o e n => by
      rw [upd_ne (ne_of_none e hd)]
      exact b0 x o e n
    exact k d _ hd nd xa xd1 b1
end
abbrev sI_UnknownName : Stmt := inClass (top 12) 0
/-- UnknownName.__init__ -/
def spI_UnknownName (K : PySem.W.Frag) : Sp := fun vs H Q _ => ∃ (a C : Addr) (v1 : V), vs = [.ref a, v1] ∧ EcI K "LookupError.__init__" C ∧ (PySem.W.findIn K (.ref C) "code" = some none ∧ PySem.W.findIn K (.ref C) "name" = some none) ∧ H a = some (exo a C none) ∧ Adm H v1 ∧
  ∀ (d : Addr) (H' : Hp), H d = none → d ≠ a → H' a = some (exo a C (some d)) → H' d = some (exd d [("name", v1), ("code", .str "UnknownName")]) → But a H H' → Q .non H'
section
variable {P : Program} {w : World} {K : PySem.W.Frag} {mg : Str → Option Value} {base : Heap}
theorem scI_UnknownName : FnScope ["self", "name"] ["self", "name"] (defScope sI_UnknownName) := ⟨rfl, rfl, rfl, by decide +kernel, rfl, by decide +kernel, by decide +kernel⟩
theorem okI_UnknownName {f CB fS : Addr} {fd fdS : FuncData} (F : Fun K "__init__" "UnknownName.__init__" sI_UnknownName f fd) (W : Bs K mg "Missing" "LookupError.__init__" CB) (D : Dn K mg "shown" fS) (G : FnOk P w K mg base CX0 1 fS fdS ["value"] spShown) (bS : Binds K fdS ["value"] []) :
    FnOk P w K mg base CX0 2 f fd ["self", "name"] (spI_UnknownName K) := by
  refine F.ok scI_UnknownName (fun vs H Q E h => ?_) (fun cdv A outer s H vs Q E hr h => ?_)
  · obtain ⟨a, C, v1, rfl, _⟩ := h
    rfl
  · obtain ⟨a, C, v1, rfl, ec, ⟨n0, n1⟩, ea, ad1, k⟩ := h
    refine ⟨_, pss_cons (ps_expr (pe_bi (initId := "LookupError.__init__") (by rfl) W.gl W.sg W.rd W.vV W.vh (pa_cons (pv 0) (pa_cons (pe_joined (PJ.cons (pe_fmt (pe_call G hr (by rfl) D.gl D.kp bS .nil pass0 (pa_cons (pv 1) pa_nil))) (PJ.cons pe_str PJ.nil))) pa_nil)))) (pss_cons (ps_est (pv 0) pe_str) (pss_one (ps_est (pv 0) (pv 1)))), ?_⟩
    have ea2 : EcA K C := ⟨_, ec⟩
    refine ⟨_, rfl, _, rfl, v1, rfl, ad1, fun z1 hz1 => .inl ⟨z1, rfl, fit hz1 (by decide), z1, rfl, fit (app_le e00 hz1) (by decide), _, rfl, fit (app_le (app_le e00 hz1) (show (Str.ofString " is not known here").length ≤ 200 by decide)) (by decide), a, C, _, rfl, (by show 1 ≤ 1000; decide), ec, ea, ?_⟩⟩
    refine ⟨_, rfl, a, C, rfl, ea2, n0, .inl ⟨ea, fun d hd nd => ?_⟩⟩
    have xa : (upd (upd H d (exd d [("code", V.str "UnknownName")])) a (exo a C (some d))) a = some (exo a C (some d)) := upd_same
    have xd0 : (upd (upd H d (exd d [("code", V.str "UnknownName")])) a (exo a C (some d))) d = some (exd d [("code", V.str "UnknownName")]) := (upd_ne nd).trans upd_same
    have b0 : But a H (upd (upd H d (exd d [("code", V.str "UnknownName")])) a (exo a C (some d))) := fun x o e n => by
      rw [upd_ne n, upd_ne (ne_of_none e hd)]
      exact e
    refine ⟨_, rfl, _, rfl, a, C, rfl, ea2, n1, .inr ⟨d, _, xa, xd0, (by show 1 ≤ 900; decide), ?_⟩⟩
    replace xa : (upd (upd (upd H d (exd d [("code", V.str "UnknownName")])) a (exo a C (some d))) d (exd d (("name", v1) :: [("code", V.str "UnknownName")]))) a = some (exo a C (some d)) := (upd_ne nd.symm).trans xa
    have xd1 : (upd (upd (upd H d (exd d [("code", V.str "UnknownName")])) a (exo a C (some d))) d (exd d (("name", v1) :: [("code", V.str "UnknownName")]))) d = some (exd d (("name", v1) :: [("code", V.str "UnknownName")])) := upd_same
    have b1 : But a H (upd (upd (upd H d (exd d [("code", V.str "UnknownName")])) a (exo a C (some d))) d (exd d (("name", v1) :: [("code", V.str "UnknownName")]))) := fun x o e n => by
      rw [upd_ne (ne_of_none e hd)]
      exact b0 x o e n
    exact k d _ hd nd xa xd1 b1
end

/-- an own error class, raised -/
structure ER (K : PySem.W.Frag) (mg : Str → Option Value) (x : Str) (ini : String) (fs : List Str) (C fI : Addr) : Prop where
  gl : mg x = some (.ref C)
  ec : EcI K ini C
  tc : PySem.W.typeIn K (.ref C) = some (.type "type")
  n0 : PySem.W.findIn K (.ref C) "code" = some none
  n1 : ∀ f ∈ fs, PySem.W.findIn K (.ref C) f = some none
  ini : PySem.W.findIn K (.ref C) "__init__" = some (some (.ref fI))
  ty : PySem.W.typeIn K (.ref fI) = some (.type "function")
theorem del_put {H H2 : Hp} {a d : Addr} {o o' : HO} (na : H a = none) (hd : H d = none) (bu : But a (upd H a o) H2) : Same H (upd (del H2 a) d o') := fun x u e => by
  have xa := ne_of_none e na
  rw [upd_ne (ne_of_none e hd), del_ne xa]
  exact bu x u ((upd_ne xa).trans e) xa
/-- it flies with these fields -/
abbrev Fly (C : Addr) (fs : List (Str × V)) (H : Hp) (E : XK) : Prop := ∀ (d : Addr) (H' : Hp), Same H H' → H' d = some (.xd fs) → E (.ref C) (some d) H'
theorem Adm.same {H H' : Hp} {v : V} (h : Adm H v) (s : Same H H') : Adm H' v := by
  cases h with
  | non => exact .non
  | yes => exact .yes
  | int h => exact .int h
  | str h => exact .str h
  | tup h => exact .tup (s _ _ h)
  | lst h => exact .lst (s _ _ h)
def fs_InvalidName (v : V) : List (Str × V) := [("given", v), ("code", .str "InvalidName")]
theorem mk_InvalidName {K : PySem.W.Frag} {mg : Str → Option Value} {C fI : Addr} (T : ER K mg "InvalidName" "ValueError.__init__" ["given"] C fI) {σ : L2.St} {H : Hp} {Q : XK} {v : V} (hv : Adm H v) (h : Fly C (fs_InvalidName v) H Q) : tMkO C (spI_InvalidName K) [] (tCons (tC v) tNil) σ H Q := by
  refine ⟨(by show 1 ≤ 1000; decide), fun a na => ⟨a, C, v, rfl, T.ec, ⟨T.n0, T.n1 _ (List.mem_singleton.mpr rfl)⟩, upd_same, hv.same (same_upd na), fun d H2 hd nd ha hdd bu => ⟨rfl, d, _, ha, hdd, ?_, ?_⟩⟩⟩
  · rw [upd_ne nd] at hd
    exact hd
  · rw [upd_ne nd] at hd
    exact h d _ (del_put na hd bu) upd_same
def fs_NameTaken (v : V) : List (Str × V) := [("name", v), ("code", .str "NameTaken")]
theorem mk_NameTaken {K : PySem.W.Frag} {mg : Str → Option Value} {C fI : Addr} (T : ER K mg "NameTaken" "ValueError.__init__" ["name"] C fI) {σ : L2.St} {H : Hp} {Q : XK} {v : V} (hv : Adm H v) (h : Fly C (fs_NameTaken v) H Q) : tMkO C (spI_NameTaken K) [] (tCons (tC v) tNil) σ H Q := by
  refine ⟨(by show 1 ≤ 1000; decide), fun a na => ⟨a, C, v, rfl, T.ec, ⟨T.n0, T.n1 _ (List.mem_singleton.mpr rfl)⟩, upd_same, hv.same (same_upd na), fun d H2 hd nd ha hdd bu => ⟨rfl, d, _, ha, hdd, ?_, ?_⟩⟩⟩
  · rw [upd_ne nd] at hd
    exact hd
  · rw [upd_ne nd] at hd
    exact h d _ (del_put na hd bu) upd_same
def fs_InvalidFact (v : V) : List (Str × V) := [("what", v), ("code", .str "InvalidFact")]
theorem mk_InvalidFact {K : PySem.W.Frag} {mg : Str → Option Value} {C fI : Addr} (T : ER K mg "InvalidFact" "ValueError.__init__" ["what"] C fI) {σ : L2.St} {H : Hp} {Q : XK} {v : V} (hv : Adm H v) (h : Fly C (fs_InvalidFact v) H Q) : tMkO C (spI_InvalidFact K) [] (tCons (tC v) tNil) σ H Q := by
  refine ⟨(by show 1 ≤ 1000; decide), fun a na => ⟨a, C, v, rfl, T.ec, ⟨T.n0, T.n1 _ (List.mem_singleton.mpr rfl)⟩, upd_same, hv.same (same_upd na), fun d H2 hd nd ha hdd bu => ⟨rfl, d, _, ha, hdd, ?_, ?_⟩⟩⟩
  · rw [upd_ne nd] at hd
    exact hd
  · rw [upd_ne nd] at hd
    exact h d _ (del_put na hd bu) upd_same
def fs_UnknownName (v : V) : List (Str × V) := [("name", v), ("code", .str "UnknownName")]
theorem mk_UnknownName {K : PySem.W.Frag} {mg : Str → Option Value} {C fI : Addr} (T : ER K mg "UnknownName" "LookupError.__init__" ["name"] C fI) {σ : L2.St} {H : Hp} {Q : XK} {v : V} (hv : Adm H v) (h : Fly C (fs_UnknownName v) H Q) : tMkO C (spI_UnknownName K) [] (tCons (tC v) tNil) σ H Q := by
  refine ⟨(by show 1 ≤ 1000; decide), fun a na => ⟨a, C, v, rfl, T.ec, ⟨T.n0, T.n1 _ (List.mem_singleton.mpr rfl)⟩, upd_same, hv.same (same_upd na), fun d H2 hd nd ha hdd bu => ⟨rfl, d, _, ha, hdd, ?_, ?_⟩⟩⟩
  · rw [upd_ne nd] at hd
    exact hd
  · rw [upd_ne nd] at hd
    exact h d _ (del_put na hd bu) upd_same
def fs_TooLarge (u v : V) : List (Str × V) := [("limit", v), ("what", u), ("code", .str "TooLarge")]
theorem mk_TooLarge {K : PySem.W.Frag} {mg : Str → Option Value} {C fI : Addr} (T : ER K mg "TooLarge" "ValueError.__init__" ["what", "limit"] C fI) {σ : L2.St} {H : Hp} {Q : XK} {u v : V} (hu : Adm H u) (hv : Adm H v) (h : Fly C (fs_TooLarge u v) H Q) : tMkO C (spI_TooLarge K) [] (tCons (tC u) (tCons (tC v) tNil)) σ H Q := by
  refine ⟨(by show 2 ≤ 1000; decide), fun a na => ⟨a, C, u, v, rfl, T.ec, ⟨T.n0, T.n1 _ (List.mem_cons_self ..), T.n1 _ (List.mem_cons_of_mem _ (List.mem_singleton.mpr rfl))⟩, upd_same, hu.same (same_upd na), hv.same (same_upd na), fun d H2 hd nd ha hdd bu => ⟨rfl, d, _, ha, hdd, ?_, ?_⟩⟩⟩
  · rw [upd_ne nd] at hd
    exact hd
  · rw [upd_ne nd] at hd
    exact h d _ (del_put na hd bu) upd_same
end K09

set_option Elab.async false
set_option linter.all false
set_option maxRecDepth 100000
set_option maxHeartbeats 4000000
set_option pp.maxSteps 500
namespace K09
open PySem PySem.Spec PyProof.Rows L2 Ux ClX
/-- values that are no names -/
inductive Wrong : V → Prop where
  | non : Wrong .non
  | yes : Wrong (.bl true)
  | int : Wrong (.int 5)
  | str {z : Str} (h : nameB z = false) (l : z.length ≤ 1000) (r : (reprText z).length ≤ 1000) : Wrong (.str z)
theorem Wrong.adm {v : V} (h : Wrong v) (H : Hp) : Adm H v := by
  cases h with
  | non => exact .non
  | yes => exact .yes
  | int => exact .int (by decide)
  | str _ _ r => exact .str r
theorem lett_small : ∀ c ∈ letters, c < 16 ^ 8 := by decide +kernel
theorem name_chars {z : Str} (h : nameB z = true) : ∀ c ∈ z.cps.toList, c < 16 ^ 8 := fun c hc => lett_small c (name_letters h c hc)
theorem name_adm {z : Str} (h : nameB z = true) (H : Hp) : Adm H (.str z) := by
  refine .str ?_
  have h1 := nameB_len h
  have e := PySem.StrLaws.reprText_len z (fun c hc => name_chars h c hc)
  omega
def spChkX (CN CT : Addr) : Sp := fun vs H _ E => ∃ (l : Addr) (xs : List V), vs = [.ref l] ∧ H l = some (.lst xs) ∧ xs.length ≤ 1000 ∧
  ((∃ (pre : List Str) (v : V) (post : List V), xs = pre.map V.str ++ v :: post ∧ (∀ z ∈ pre, nameB z = true) ∧ Wrong v ∧ Fly CN (fs_InvalidName v) H E) ∨
  ∃ (pre post : List Str) (n : Str), xs = (pre ++ n :: post).map V.str ∧ (∀ z ∈ pre ++ n :: post, nameB z = true) ∧ pre.Nodup ∧ n ∈ pre ∧ Fly CT (fs_NameTaken (.str n)) H E)
theorem Fly.same {C : Addr} {fs : List (Str × V)} {H H1 : Hp} {E : XK} (h : Fly C fs H E) (s : Same H H1) : Fly C fs H1 E := fun d H' s2 hd => h d H' (s.trans s2) hd
section
variable {P : Program} {w : World} {K : PySem.W.Frag} {mg : Str → Option Value} {base : Heap} {CR CU CW CN CT CL CF CK fCN fCT fCL fCF fCK : Addr} {mc : Value}
theorem ok_chkX {f fN : Addr} {fd fdN fdI fdJ : FuncData} (F : Fun K "check_names" "check_names" sChkN f fd) (B : Bm mg) (DN : Dn K mg "is_name" fN) (GN : FnOk P w K mg base CX0 1 fN fdN ["value"] (spIsName K)) (bN : Binds K fdN ["value"] [])
    (I : ER K mg "InvalidName" "ValueError.__init__" ["given"] CN fCN) (GI : FnOk P w K mg base CX0 2 fCN fdI ["self", "given"] (spI_InvalidName K)) (bI : Binds K fdI ["self", "given"] [])
    (J : ER K mg "NameTaken" "ValueError.__init__" ["name"] CT fCT) (GJ : FnOk P w K mg base CX0 2 fCT fdJ ["self", "name"] (spI_NameTaken K)) (bJ : Binds K fdJ ["self", "name"] []) :
    FnOk P w K mg base (L2.CX P w) 4 f fd ["names"] (spChkX CN CT) := by
  refine F.okX scChkN (fun vs H Q E h => ?_) (fun cdv A outer s H vs Q E hr h => ?_)
  · obtain ⟨l, xs, rfl, _⟩ := h
    rfl
  · obtain ⟨l, xs, rfl, hl, few, bad⟩ := h
    have r1 : Room 1 _ := hr.mono (by decide)
    obtain ⟨_, _, _, ecI⟩ := id I.ec
    obtain ⟨_, _, _, ecJ⟩ := id J.ec
    refine ⟨_, pss_cons (ps_for (passes_of rfl) rfl (pi_list (pv 0)) (pg_name (i := 1) scChkN.nd rfl (Or.inl rfl)) (pss_one (ps_if (pt_not (pt_val (pe_call GN r1 (by rfl) DN.gl DN.kp bN .nil pass0 (pa_cons (pv 1) pa_nil)))) (pss_one (ps_raise rfl (takes_of rfl rfl rfl rfl) (pmk_ec ecI I.tc I.ini I.ty GI hr bI .nil pass0 (by rfl) I.gl (pa_cons (pv 1) pa_nil)))) pss_nil)))
      (pss_cons (ps_set (i := 2) scChkN.nd rfl (Or.inl rfl) (pe_callTy0 cr_set0K (by rfl) B.tset (by decide +kernel)))
      (pss_one (ps_for (passes_of rfl) rfl (pi_list (pv 0)) (pg_name (i := 1) scChkN.nd rfl (Or.inl rfl))
        (pss_cons (ps_if (pt_cmpR or_sinK (pv 1) (pv 2) (by rfl)) (pss_one (ps_raise rfl (takes_of rfl rfl rfl rfl) (pmk_ec ecJ J.tc J.ini J.ty GJ hr bJ .nil pass0 (by rfl) J.gl (pa_cons (pv 1) pa_nil)))) pss_nil) (pss_one (ps_expr (pe_saddK (pv 2) (pa_cons (pv 1) pa_nil)))))))), ?_⟩
    rcases bad with ⟨pre, v, post, rfl, nm, wr, fly⟩ | ⟨pre, post, n, rfl, nm, nd, mem, fly⟩
    · refine ⟨_, rfl, l, rfl, ⟨_, .of hl⟩, for_list (xs := pre.map V.str ++ v :: post) (fun i σ H' => (∃ x1, σ = [some (.ref l), x1, none]) ∧ Same H H' ∧ i ≤ pre.length) ⟨⟨none, rfl⟩, Same.refl _, Nat.zero_le _⟩ (fun i σ H' _ z => .of (z.2.1 _ _ hl)) ?_ ?_⟩
      · rintro i x σ H1 hx ⟨⟨x1, rfl⟩, s1, hi⟩
        rcases Nat.lt_or_ge i pre.length with lt | ge
        · rw [List.getElem?_append_left (by rw [List.length_map]; exact lt)] at hx
          obtain ⟨z, hz, rfl⟩ := at_map hx
          have nz := nm z (List.mem_of_getElem? hz)
          refine ⟨_, rfl, .inl ⟨z, rfl, by have := nameB_len nz; omega, fun H2 s2 => ⟨_, rfl, ?_⟩⟩⟩
          rw [nz]
          exact iteF ⟨⟨_, rfl⟩, s1.trans s2, by omega⟩
        · obtain rfl : i = pre.length := by omega
          rw [List.getElem?_append_right (by rw [List.length_map]; exact Nat.le_refl _), List.length_map, Nat.sub_self] at hx
          cases hx
          cases wr with
          | non => exact ⟨_, rfl, .inr ⟨_, _, rfl, .base .non, kit_ty (by decide +kernel), ⟨_, rfl, iteT ⟨_, rfl, mk_InvalidName (σ := []) I (Wrong.non.adm _) (fly.same s1)⟩⟩⟩⟩
          | yes => exact ⟨_, rfl, .inr ⟨_, _, rfl, .base (.bl _), kit_ty (by decide +kernel), ⟨_, rfl, iteT ⟨_, rfl, mk_InvalidName (σ := []) I (Wrong.yes.adm _) (fly.same s1)⟩⟩⟩⟩
          | int => exact ⟨_, rfl, .inr ⟨_, _, rfl, .base (.int _), kit_ty (by decide +kernel), ⟨_, rfl, iteT ⟨_, rfl, mk_InvalidName (σ := []) I (Wrong.int.adm _) (fly.same s1)⟩⟩⟩⟩
          | @str z h l r =>
            refine ⟨_, rfl, .inl ⟨z, rfl, l, fun H2 s2 => ⟨_, rfl, ?_⟩⟩⟩
            rw [h]
            exact iteT ⟨_, rfl, mk_InvalidName (σ := []) I ((Wrong.str h l r).adm _) (fly.same (s1.trans s2))⟩
      · rintro σ H1 ⟨_, s1, hi⟩
        rw [List.length_append, List.length_map, List.length_cons] at hi
        omega
    · have lenE : ((pre ++ n :: post).map V.str).length = pre.length + (post.length + 1) := by
        rw [List.length_map, List.length_append, List.length_cons]
      refine ⟨_, rfl, l, rfl, ⟨_, .of hl⟩, for_list (xs := (pre ++ n :: post).map V.str) (fun i σ H' => (∃ x1, σ = [some (.ref l), x1, none]) ∧ Same H H') ⟨⟨none, rfl⟩, Same.refl _⟩ (fun i σ H' _ z => .of (z.2 _ _ hl)) ?_ ?_⟩
      · rintro i x σ H1 hx ⟨⟨x1, rfl⟩, s1⟩
        obtain ⟨z, hz, rfl⟩ := at_map hx
        have nz := nm z (List.mem_of_getElem? hz)
        refine ⟨_, rfl, .inl ⟨z, rfl, by have := nameB_len nz; omega, fun H2 s2 => ⟨_, rfl, ?_⟩⟩⟩
        rw [nz]
        exact iteF ⟨⟨_, rfl⟩, s1.trans s2⟩
      · rintro σ H1 ⟨⟨x1, rfl⟩, s1⟩
        refine ⟨rfl, fun p hp => ?_⟩
        have s2 : Same H (upd H1 p (SetK P w p (fun _ => false) 0)) := s1.trans (same_upd hp)
        refine ⟨_, rfl, l, rfl, ⟨_, .of (s2 _ _ hl)⟩, for_list (xs := (pre ++ n :: post).map V.str) (fun i σ H' => i ≤ pre.length ∧ ∃ x1 S m, σ = [some (.ref l), x1, some (.ref p)] ∧ H' p = some (SetK P w p S m) ∧ Same H H' ∧ (∀ z, S (Sum.inr z) = true ↔ z ∈ pre.take i) ∧ m ≤ i) ⟨Nat.zero_le _, x1, _, 0, rfl, upd_same, s2, (fun (z : Str) => ⟨fun hz => Bool.noConfusion hz, fun hz => by cases hz⟩), Nat.le_refl _⟩ (fun i σ H' _ z => by
            obtain ⟨_, _, _, _, _, _, s3, _⟩ := z
            exact .of (s3 _ _ hl)) ?_ ?_⟩
        · rintro i x σ H2 hx ⟨hi, x1, S, m, rfl, hS, s3, sub, hn⟩
          obtain ⟨z, hz, rfl⟩ := at_map hx
          rcases Nat.lt_or_ge i pre.length with lt | ge
          · rw [List.getElem?_append_left lt] at hz
            have out : S (Sum.inr z) = false := by
              cases e : S (Sum.inr z) with
              | false => rfl
              | true => exact absurd ((sub z).mp e) (not_taken nd hz)
            refine ⟨_, rfl, _, rfl, Sum.inr z, p, S, m, rfl, rfl, hS, _, rfl, ?_⟩
            rw [if_neg (by decide), out]
            refine iteF ⟨_, rfl, ⟨p, S, m, rfl, hS⟩, _, rfl, p, Sum.inr z, S, m, rfl, rfl, hS, by rw [lenE] at few; show m + 1 < 4096; omega, ?_⟩
            have np : ∀ c o, H c = some o → c ≠ p := fun c o e => by
              intro z
              subst z
              have := s1 _ _ e
              rw [hp] at this
              cases this
            refine ⟨lt, _, _, _, rfl, upd_same, fun c o e => (upd_ne (np c o e)).trans (s3 _ _ e), fun y => ⟨fun hy => ?_, fun hy => ?_⟩, ?_⟩
            · rcases Bool.or_eq_true_iff.mp hy with h | h
              · exact take_more hz (.inl ((sub y).mp h))
              · exact take_more hz (.inr (Sum.inr.inj (of_decide_eq_true h)))
            · rw [List.take_add_one, hz] at hy
              rcases List.mem_append.mp hy with h | h
              · exact Bool.or_eq_true_iff.mpr (.inl ((sub y).mpr h))
              · have e : y = z := by simpa using h
                subst e
                exact Bool.or_eq_true_iff.mpr (.inr (decide_eq_true rfl))
            · rw [out]
              show m + 1 ≤ i + 1
              omega
          · obtain rfl : i = pre.length := by omega
            rw [List.getElem?_append_right (Nat.le_refl _), Nat.sub_self] at hz
            cases hz
            have inn : S (Sum.inr n) = true := (sub n).mpr (by rw [List.take_length]; exact mem)
            refine ⟨_, rfl, _, rfl, Sum.inr n, p, S, m, rfl, rfl, hS, _, rfl, ?_⟩
            rw [if_neg (by decide), inn]
            exact iteT ⟨_, rfl, mk_NameTaken (σ := []) J (name_adm (nm n (List.mem_append_left _ mem)) _) (fly.same s3)⟩
        · rintro σ H2 ⟨hi, _⟩
          rw [lenE] at hi
          omega
end
end K09

set_option Elab.async false
set_option linter.all false
set_option maxRecDepth 100000
set_option maxHeartbeats 4000000
set_option pp.maxSteps 500
namespace K09
open PySem PySem.Spec PyProof.Rows L2 Ux ClX
/-- the dict of functions, its keys in order -/
def KeysAt (P : Program) (w : World) (H : Hp) (df : Addr) (ks : List V) : Prop := (∃ ns u, H df = some (.dK (dkN ns u)) ∧ ks = ns.map V.str) ∨ ∃ kvs : List (OKy × V), H df = some (OdK P w df kvs) ∧ ks = kvs.map fun kv => okV kv.1
theorem KeysAt.same {P : Program} {w : World} {H H' : Hp} {df : Addr} {ks : List V} (h : KeysAt P w H df ks) (s : Same H H') : KeysAt P w H' df ks := by
  rcases h with ⟨ns, u, h, e⟩ | ⟨kvs, h, e⟩
  · exact .inl ⟨ns, u, s _ _ h, e⟩
  · exact .inr ⟨kvs, s _ _ h, e⟩
/-- how the names of a world are refused -/
def Bad (CN CT CL df : Addr) (xs ks : List V) (H : Hp) (E : XK) : Prop :=
  (∃ (pre : List Str) (v : V) (post : List V), xs ++ ks = pre.map V.str ++ v :: post ∧ (∀ z ∈ pre, nameB z = true) ∧ Wrong v ∧ Fly CN (fs_InvalidName v) H E) ∨
  (∃ (pre post : List Str) (n : Str), xs ++ ks = (pre ++ n :: post).map V.str ∧ (∀ z ∈ pre ++ n :: post, nameB z = true) ∧ pre.Nodup ∧ n ∈ pre ∧ Fly CT (fs_NameTaken (.str n)) H E) ∨
  ∃ zs : List Str, xs ++ ks = zs.map V.str ∧ zs.Nodup ∧ (∀ z ∈ zs, nameB z = true) ∧ ((4 < xs.length ∧ Fly CL (fs_TooLarge (.str "inputs") (.int 4)) H E) ∨ (xs.length ≤ 4 ∧ (∃ ns u, H df = some (.dK (dkN ns u)) ∧ 4 < ns.length) ∧ Fly CL (fs_TooLarge (.str "functions") (.int 4)) H E))
def spWInitX (P : Program) (w : World) (CW CN CT CL : Addr) : Sp := fun vs H _ E => ∃ (p dx li df : Addr) (xs ks : List V), vs = [.ref p, .ref li, .ref df] ∧ H p = some (.ins CW dx []) ∧ H li = some (.lst xs) ∧ KeysAt P w H df ks ∧ xs.length ≤ 100 ∧ ks.length ≤ 100 ∧ Bad CN CT CL df xs ks H E
section
variable {P : Program} {w : World} {K : PySem.W.Frag} {mg : Str → Option Value} {base : Heap} {CR CU CW CN CT CL CF CK fCN fCT fCL fCF fCK : Addr} {mc : Value}
theorem adm4 (H : Hp) : Adm H (.int 4) := .int (by decide)
theorem admS (z : Str) (H : Hp) (h : (reprText z).length ≤ 1000 := by decide +kernel) : Adm H (.str z) := .str h
theorem strs_len {zs : List Str} {xs : List V} (h : xs = zs.map V.str) : xs.length = zs.length := by rw [h, List.length_map]
theorem ok_winitX {f fC : Addr} {fd fdC fdI : FuncData} (F : Fun K "__init__" "World.__init__" sWInit f fd) (B : Bm mg) (T : WT K mg CW mc)
    (DC : Dn K mg "check_names" fC) (GC : FnOk P w K mg base (L2.CX P w) 4 fC fdC ["names"] (fun vs H Q E => spChkN vs H Q E ∨ spChkX CN CT vs H Q E)) (bC : Binds K fdC ["names"] [])
    (I : ER K mg "TooLarge" "ValueError.__init__" ["what", "limit"] CL fCL) (GI : FnOk P w K mg base CX0 2 fCL fdI ["self", "what", "limit"] (spI_TooLarge K)) (bI : Binds K fdI ["self", "what", "limit"] []) :
    FnOk P w K mg base (L2.CX P w) 6 f fd ["self", "inputs", "functions"] (spWInitX P w CW CN CT CL) := by
  refine F.okX scWInit (fun vs H Q E h => ?_) (fun cdv A outer s H vs Q E hr h => ?_)
  · obtain ⟨p, dx, li, df, xs, ks, rfl, _⟩ := h
    rfl
  · obtain ⟨p, dx, li, df, xs, ks, rfl, hp, hl, hd, lx, lk, bad⟩ := h
    obtain ⟨_, _, _, ecI⟩ := id I.ec
    have r4 : Room 4 _ := hr.mono (by decide)
    have r3 : Room 3 _ := hr.mono (by decide)
    refine ⟨_, pss_cons (ps_expr (pe_call (E := E) GC r4 (by rfl) DC.gl DC.kp bC .nil (passes_call (takes_of rfl rfl rfl rfl) fun _ _ _ _ z => z) (pa_cons (pe_lst (StX.pa_star (pv 1) (pa_starO rfl (pv 2) pa_nil))) pa_nil)))
      (pss_cons (ps_if (pt_cmpR op_gt (pe_callB call_len_seq (by rfl) B.bn.flen (by decide +kernel) (pa_cons (pv 1) pa_nil)) (pe_cval (pe_glob (v := .ref CW) (by rfl) T.gl rfl)) (nomark _)) (pss_one (ps_raise rfl (takes_of rfl rfl rfl rfl) (pmk_ec ecI I.tc I.ini I.ty GI r3 bI .nil pass0 (by rfl) I.gl (pa_cons pe_str (pa_cons (pe_cval (pe_glob (v := .ref CW) (by rfl) T.gl rfl)) pa_nil))))) pss_nil)
      (pss_cons (ps_if (pt_cmpR op_gt (pe_callB call_lenD (by rfl) B.bn.flen (by decide +kernel) (pa_cons (pv 2) pa_nil)) (pe_cval (pe_glob (v := .ref CW) (by rfl) T.gl rfl)) (nomark _)) (pss_one (ps_raise rfl (takes_of rfl rfl rfl rfl) (pmk_ec ecI I.tc I.ini I.ty GI r3 bI .nil pass0 (by rfl) I.gl (pa_cons pe_str (pa_cons (pe_cval (pe_glob (v := .ref CW) (by rfl) T.gl rfl)) pa_nil))))) pss_nil)
      pss_never)), ?_⟩
    obtain ⟨t4, hm4⟩ := T.most
    have hd2 := hd
    cases hd2
    case' inl h0 =>
      obtain ⟨ns, u, hdk, eks⟩ := h0
      have e : xs ++ (List.map (fun kv : L2.Key × V => kV kv.1) (dkN ns u) ++ []) = xs ++ ks := by rw [List.append_nil, keysV, eks]
      refine ⟨_, rfl, li, _, rfl, .inr (.of hl), _, rfl, df, rfl, .inl ⟨dkN ns u, .inl hdk, ?_⟩⟩
      show (xs ++ (List.map (fun kv : L2.Key × V => kV kv.1) (dkN ns u) ++ [])).length ≤ sizeLine ∧ _
      rw [e]
    case' inr h0 =>
      obtain ⟨kvs, hdk, eks⟩ := h0
      have e : xs ++ ((List.map (fun kv : OKy × V => okV kv.1) kvs) ++ []) = xs ++ ks := by rw [List.append_nil, eks]
      refine ⟨_, rfl, li, _, rfl, .inr (.of hl), _, rfl, df, rfl, .inr ⟨kvs, hdk, ?_⟩⟩
      show (xs ++ ((List.map (fun kv : OKy × V => okV kv.1) kvs) ++ [])).length ≤ sizeLine ∧ _
      rw [e]
    all_goals
      refine ⟨by rw [List.length_append]; exact fit (m := 200) (by omega) (by decide), fun l0 n0 => ?_⟩
      have s1 : Same H (upd H l0 (.lst (xs ++ ks))) := same_upd n0
      have few : (xs ++ ks).length ≤ 1000 := by rw [List.length_append]; omega
      rcases bad with ⟨pre, v, post, e, nm, wr, fly⟩ | ⟨pre, post, n, e, nm, nd, mem, fly⟩ | ⟨zs, e, nd, nm, more⟩
      · exact .inr ⟨l0, _, rfl, upd_same, few, .inl ⟨pre, v, post, e, nm, wr, fly.same s1⟩⟩
      · exact .inr ⟨l0, _, rfl, upd_same, few, .inr ⟨pre, post, n, e, nm, nd, mem, fly.same s1⟩⟩
      · refine .inl ⟨l0, zs, rfl, by rw [upd_same, e], nd, nm, by have := strs_len e; omega, fun H1 s2 => ?_⟩
        have t1 := s1.trans s2
        refine ⟨_, rfl, li, _, rfl, .inl (.of (t1 _ _ hl)), CW, mc, .int 4, _, rfl, T.rd, hm4, _, _, rfl, rfl, _, rfl, ?_⟩
        rcases more with ⟨gt, fly⟩ | ⟨le, ⟨ns, u, hdk, gt⟩, fly⟩
        · refine ite2 (fun _ => ?_) (fun z => absurd (decide_eq_true (show (4 : Int) < ((xs.length : Nat) : Int) by omega)) z)
          exact ⟨CW, mc, .int 4, _, rfl, T.rd, hm4, mk_TooLarge (σ := []) I (admS "inputs" H1) (adm4 H1) (fly.same t1)⟩
        · refine ite2 (fun z => absurd (of_decide_eq_true z) (by omega)) (fun _ => ?_)
          refine ⟨_, rfl, df, _, rfl, t1 _ _ hdk, CW, mc, .int 4, _, rfl, T.rd, hm4, _, _, rfl, rfl, _, rfl, ?_⟩
          refine ite2 (fun _ => ?_) (fun z => absurd (decide_eq_true (show (4 : Int) < (((dkN ns u).length : Nat) : Int) by rw [dkN_len]; omega)) z)
          exact ⟨CW, mc, .int 4, _, rfl, T.rd, hm4, mk_TooLarge (σ := []) I (admS "functions" H1) (adm4 H1) (fly.same t1)⟩
/-- a value that names no function -/
def Strange (K : PySem.W.Frag) (H : Hp) (v : V) (ns : List Str) : Prop := (∃ n, v = .str n ∧ n ∉ ns) ∨ ∃ t, TyX K H v t ∧ PySem.W.kitOne K t (.type "str") = some false
def spWFactX (K : PySem.W.Frag) (CR CU CW CK : Addr) : Sp := fun vs H _ E => ∃ a ins ns g nm v, vs = [.ref a, v] ∧ WorldAt CR CU CW H a ins ns g nm ∧ Adm H v ∧ Strange K H v ns ∧ Fly CK (fs_UnknownName v) H E
def spWWithX (K : PySem.W.Frag) (CR CU CW CK CF : Addr) : Sp := fun vs H _ E => ∃ a ins ns g nm v x φ, vs = [.ref a, v, .ref x] ∧ WorldAt CR CU CW H a ins ns g nm ∧ UnsAt CR CU H x φ ∧
  ((Adm H v ∧ Strange K H v ns ∧ Fly CK (fs_UnknownName v) H E) ∨ ∃ n, v = .str n ∧ n ∈ ns ∧ φ.ar ≠ (g n).ar ∧ Fly CF (fs_InvalidFact (.str "arity")) H E)
theorem ok_wfactX {f : Addr} {fd fdI : FuncData} (F : Fun K "fact" "World.fact" sWFact f fd) (B : Bn mg) (T : WT K mg CW mc)
    (I : ER K mg "UnknownName" "LookupError.__init__" ["name"] CK fCK) (GI : FnOk P w K mg base CX0 2 fCK fdI ["self", "name"] (spI_UnknownName K)) (bI : Binds K fdI ["self", "name"] []) :
    FnOk P w K mg base (L2.CX P w) 4 f fd ["self", "name"] (spWFactX K CR CU CW CK) := by
  refine F.okX scWFact (fun vs H Q E h => ?_) (fun cdv A outer s H vs Q E hr h => ?_)
  · obtain ⟨a, ins, ns, g, nm, v, rfl, _⟩ := h
    rfl
  · obtain ⟨a, ins, ns, g, nm, v, rfl, ⟨dx, li, df, ln, u, ha, hl, hd, hn, un, _⟩, ad, st, fly⟩ := h
    obtain ⟨_, _, _, ecI⟩ := id I.ec
    refine ⟨_, pss_cons (ps_if (PW.pt (pw_or (pt_not (pt_val (pe_callB call_isi (by rfl) B.isin (by decide +kernel) (pa_cons (pv 1) (pa_cons (pe_bltn (v := .ty "str") (by rfl) B.tstr (by decide +kernel) rfl) pa_nil))))) (pw_or1 (pt_cmp (pc_dnotin (hu_of hr) (pv 1) (pe_fld (pv 0) rfl))))))
        (pss_one (ps_raise rfl (takes_of rfl rfl rfl rfl) (pmk_ec ecI I.tc I.ini I.ty GI hr bI .nil pass0 (by rfl) I.gl (pa_cons (pv 1) pa_nil)))) pss_nil)
      pss_never, ?_⟩
    rcases st with ⟨n, rfl, no⟩ | ⟨t, ty, kt⟩
    · have dg : DGet H df (.str n) none := .inl ⟨_, Sum.inr n, .inl hd, rfl, (dkN_out no).symm⟩
      refine ⟨_, rfl, _, _, _, _, true, rfl, .ty "str", .base (.str _), kit_ty (by decide +kernel), _, rfl, iteF ?_⟩
      refine ⟨_, rfl, _, rfl, a, CW, dx, _, _, rfl, ha, T.cl, T.n2, wFa _ _ _ _, df, _, rfl, dg, _, rfl, iteT ?_⟩
      exact ⟨_, rfl, mk_UnknownName (σ := []) I ad fly⟩
    · refine ⟨_, rfl, _, _, _, _, false, rfl, .ty "str", ty, kt, _, rfl, iteT ?_⟩
      exact ⟨_, rfl, mk_UnknownName (σ := []) I ad fly⟩
theorem ok_wwithX {f fF : Addr} {fd fdF fdI : FuncData} (F : Fun K "with_fact" "World.with_fact" sWWith f fd) (U : UT K mg CU) (T : WT K mg CW mc)
    (MF : Meth K CW "fact" fF) (GF : FnOk P w K mg base (L2.CX P w) 4 fF fdF ["self", "name"] (fun vs H Q E => spWFact CR CU CW vs H Q E ∨ spWFactX K CR CU CW CK vs H Q E)) (bF : Binds K fdF ["self", "name"] [])
    (I : ER K mg "InvalidFact" "ValueError.__init__" ["what"] CF fCF) (GI : FnOk P w K mg base CX0 2 fCF fdI ["self", "what"] (spI_InvalidFact K)) (bI : Binds K fdI ["self", "what"] []) :
    FnOk P w K mg base (L2.CX P w) 6 f fd ["self", "name", "fact"] (spWWithX K CR CU CW CK CF) := by
  refine F.okX scWWith (fun vs H Q E h => ?_) (fun cdv A outer s H vs Q E hr h => ?_)
  · obtain ⟨a, ins, ns, g, nm, v, x, φ, rfl, _⟩ := h
    rfl
  · obtain ⟨a, ins, ns, g, nm, v, x, φ, rfl, wa, ux, h⟩ := h
    obtain ⟨_, _, _, ecI⟩ := id I.ec
    have r4 : Room 4 _ := hr.mono (by decide)
    have r3 : Room 3 _ := hr.mono (by decide)
    refine ⟨_, pss_cons (ps_if (pt_cmpR op_ne (pe_fld (pe_meth (E := E) (pv 0) T.cl MF GF r4 bF .nil (passes_call (takes_of rfl rfl rfl rfl) fun _ _ _ _ z => z) (pa_cons (pv 1) pa_nil)) rfl) (pe_fld (pv 2) rfl) (nomark _))
        (pss_one (ps_raise rfl (takes_of rfl rfl rfl rfl) (pmk_ec ecI I.tc I.ini I.ty GI r3 bI .nil pass0 (by rfl) I.gl (pa_cons pe_str pa_nil)))) pss_nil)
      pss_never, ?_⟩
    obtain ⟨dx, li, df, ln, u, ha, hl, hd, hn, un, wi, so, pm⟩ := id wa
    have nf : (w4 li df ln (wtext ins ns g)).lookup ("fact" : Str) = none := by
      unfold w4 w3 w2 w1
      rw [lookup_putF, if_neg (neq _ _), lookup_putF, if_neg (neq _ _), lookup_putF, if_neg (neq _ _), lookup_putF, if_neg (neq _ _)]
      rfl
    rcases h with ⟨ad, st, fly⟩ | ⟨n, rfl, m, na, fly⟩
    · exact ⟨_, rfl, a, dx, _, rfl, ha, nf, _, rfl, .inr ⟨a, ins, ns, g, nm, v, rfl, wa, ad, st, fly⟩⟩
    · refine ⟨_, rfl, a, dx, _, rfl, ha, nf, _, rfl, .inl ⟨a, ins, ns, g, nm, n, rfl, wa, m, fun y uy oky => ?_⟩⟩
      obtain ⟨dy, ry, hy, _⟩ := id uy
      obtain ⟨dx', rx, hx, _⟩ := id ux
      refine ⟨y, CU, dy, _, _, rfl, hy, U.cl, U.n1, gAr _ _, _, rfl, x, CU, dx', _, _, rfl, hx, U.cl, U.n1, gAr _ _, rfl, _, rfl, ?_⟩
      rw [decide_eq_false (show ¬ V.int (g n).ar = V.int φ.ar from fun z => na (V.int.inj z).symm)]
      exact iteT (mk_InvalidFact (σ := []) I (admS "arity" H) fly)
end
end K09

set_option Elab.async false
set_option linter.all false
set_option maxRecDepth 100000
set_option maxHeartbeats 4000000
namespace K09
open PySem PySem.Spec PyProof.Rows L2 Ux
abbrev sField : Stmt := top 54
abbrev sOtherField : Stmt := top 55
abbrev sWhy : Stmt := top 56
/-- the names of the errors' fields -/
def fieldNames : List Str := ["code", "given", "at", "name", "what", "limit", "index", "line", "deed"]
/-- a caught error with the fields fs -/
structure Err (K : PySem.W.Frag) (H : Hp) (p : Addr × Obj) (C dd : Addr) (fs : List (Str × V)) : Prop where
  ca : Caught p C dd
  xf : XfC K C
  no : ∀ f ∈ fieldNames, PySem.W.findIn K (.ref C) f = some none
  at_ : H dd = some (.xd fs)
theorem Err.same {K : PySem.W.Frag} {H H' : Hp} {p : Addr × Obj} {C dd : Addr} {fs : List (Str × V)} (h : Err K H p C dd fs) (s : Same H H') : Err K H' p C dd fs := ⟨h.ca, h.xf, h.no, s _ _ h.at_⟩
/-- what such an error has beside its code -/
def Has (fs : List (Str × V)) (f : Str) (q : V → Prop) : Prop := ∃ v, fs.lookup f = some v ∧ q v
def otherF (code : Str) (fs : List (Str × V)) (q : V → Prop) : Prop :=
  if decide (V.str code = V.str "InvalidFact") = true then Has fs "what" q else if decide (V.str code = V.str "InvalidRow") = true then Has fs "index" q else if decide (V.str code = V.str "InvalidPage") = true then Has fs "line" q else
  if decide (V.str code = V.str "UnlikeWorlds") = true then q .non else Has fs "deed" q
def spOtherF (K : PySem.W.Frag) : Addr × Obj → Sp := fun p vs H Q _ => ∃ (C dd : Addr) (fs : List (Str × V)) (code : Str), vs = [.ref p.1] ∧ Err K H p C dd fs ∧ fs.lookup ("code" : Str) = some (V.str code) ∧ otherF code fs fun v => Q v H
def fieldF (code : Str) (fs : List (Str × V)) (q : V → Prop) (tup : V → V → Prop) : Prop :=
  if inV (.str code) [.str "InvalidName", .str "InvalidNumber"] = true then Has fs "given" q else if inV (.str code) [.str "InvalidText", .str "WrongKind", .str "InvalidBlank"] = true then Has fs "at" q else
  if inV (.str code) [.str "NameTaken", .str "InvalidWitness", .str "UnknownName"] = true then Has fs "name" q else
  if decide (V.str code = V.str "TooLarge") = true then Has fs "what" (fun v => Has fs "limit" fun u => tup v u) else otherF code fs q
def spFieldE (K : PySem.W.Frag) : Addr × Obj → Sp := fun p vs H Q _ => ∃ (C dd : Addr) (fs : List (Str × V)) (code : Str), vs = [.ref p.1] ∧ Err K H p C dd fs ∧ fs.lookup ("code" : Str) = some (V.str code) ∧
  fieldF code fs (fun v => ∀ H', Same H H' → Q v H') fun v u => ∀ (t : Addr) (H' : Hp), H' t = some (.tup [v, u]) → Same H H' → Q (.ref t) H'
theorem same_upd' {H : Hp} {a : Addr} {o : HO} (ha : H a = none) : Same H (upd H a o) := fun x u e => by
  rw [upd_ne (ne_of_none e ha)]
  exact e
theorem unT {A B : Prop} (h : if true = true then A else B) : A := by
  rw [if_pos rfl] at h
  exact h
theorem unF {A B : Prop} (h : if false = true then A else B) : B := by
  rw [if_neg Bool.false_ne_true] at h
  exact h
section
variable {P : Program} {w : World} {K : PySem.W.Frag} {mg : Str → Option Value} {base : Heap}
theorem scOtherField : FnScope ["_law_e"] ["_law_e"] (defScope sOtherField) := ⟨rfl, rfl, rfl, by decide +kernel, rfl, by decide +kernel, by decide +kernel⟩
theorem ok_otherField {f : Addr} {fd : FuncData} (F : Fun K "_law_other_field" "_law_other_field" sOtherField f fd) : FnQ P w K mg base 1 f fd ["_law_e"] (spOtherF K) := by
  refine Ux.Fun.okQ F scOtherField (fun p vs H Q E h => ?_) (fun cdv A outer s H vs Q E p hr h => ?_)
  · obtain ⟨_, _, _, _, rfl, _⟩ := h
    rfl
  · obtain ⟨C, dd, fs, code, rfl, er, lc, q⟩ := h
    have hp : p ∈ (L2H.cxH CX0 P w K mg base ["_law_e"] "_law_other_field" (defScope sOtherField) f cdv A outer s H E p).pn := List.mem_singleton.mpr rfl
    refine ⟨_, pss_cons (ps_if (pt_cmpR op_eq (pe_pf er.xf (er.no _ (by decide +kernel)) hp er.ca (pv 0)) pe_str (nomark _)) (pss_one (ps_ret (pe_pf er.xf (er.no _ (by decide +kernel)) hp er.ca (pv 0)))) pss_nil)
      (pss_cons (ps_if (pt_cmpR op_eq (pe_pf er.xf (er.no _ (by decide +kernel)) hp er.ca (pv 0)) pe_str (nomark _)) (pss_one (ps_ret (pe_pf er.xf (er.no _ (by decide +kernel)) hp er.ca (pv 0)))) pss_nil)
      (pss_cons (ps_if (pt_cmpR op_eq (pe_pf er.xf (er.no _ (by decide +kernel)) hp er.ca (pv 0)) pe_str (nomark _)) (pss_one (ps_ret (pe_pf er.xf (er.no _ (by decide +kernel)) hp er.ca (pv 0)))) pss_nil)
      (pss_one (ps_ret (pe_ifExp (pt_cmpR op_eq (pe_pf er.xf (er.no _ (by decide +kernel)) hp er.ca (pv 0)) pe_str (nomark _)) pe_non (pe_pf er.xf (er.no _ (by decide +kernel)) hp er.ca (pv 0))))))), ?_⟩
    have ha := er.at_
    unfold otherF at q
    refine ⟨_, rfl, fs, _, rfl, ha, lc, rfl, _, rfl, ?_⟩
    cases h1 : decide (V.str code = V.str "InvalidFact") with
    | true =>
      rw [h1] at q
      obtain ⟨v, lv, k⟩ := unT q
      exact iteT ⟨_, rfl, fs, v, rfl, ha, lv, k⟩
    | false =>
      rw [h1] at q
      have q := unF q
      refine iteF ⟨_, rfl, fs, _, rfl, ha, lc, rfl, _, rfl, ?_⟩
      cases h2 : decide (V.str code = V.str "InvalidRow") with
      | true =>
        rw [h2] at q
        obtain ⟨v, lv, k⟩ := unT q
        exact iteT ⟨_, rfl, fs, v, rfl, ha, lv, k⟩
      | false =>
        rw [h2] at q
        have q := unF q
        refine iteF ⟨_, rfl, fs, _, rfl, ha, lc, rfl, _, rfl, ?_⟩
        cases h3 : decide (V.str code = V.str "InvalidPage") with
        | true =>
          rw [h3] at q
          obtain ⟨v, lv, k⟩ := unT q
          exact iteT ⟨_, rfl, fs, v, rfl, ha, lv, k⟩
        | false =>
          rw [h3] at q
          have q := unF q
          refine iteF ⟨_, rfl, fs, _, rfl, ha, lc, rfl, _, rfl, ?_⟩
          cases h4 : decide (V.str code = V.str "UnlikeWorlds") with
          | true =>
            rw [h4] at q
            exact iteT (unT q)
          | false =>
            rw [h4] at q
            obtain ⟨v, lv, k⟩ := unF q
            exact iteF ⟨_, rfl, fs, v, rfl, ha, lv, k⟩
theorem scField : FnScope ["_law_e"] ["_law_e"] (defScope sField) := ⟨rfl, rfl, rfl, by decide +kernel, rfl, by decide +kernel, by decide +kernel⟩
theorem ok_field {f fO : Addr} {fd fdO : FuncData} (F : Fun K "_law_field" "_law_field" sField f fd) (D : Dn K mg "_law_other_field" fO) (G : FnQ P w K mg base 1 fO fdO ["_law_e"] (spOtherF K)) (bO : Binds K fdO ["_law_e"] []) : FnQ P w K mg base 2 f fd ["_law_e"] (spFieldE K) := by
  refine Ux.Fun.okQ F scField (fun p vs H Q E h => ?_) (fun cdv A outer s H vs Q E p hr h => ?_)
  · obtain ⟨_, _, _, _, rfl, _⟩ := h
    rfl
  · obtain ⟨C, dd, fs, code, rfl, er, lc, q⟩ := h
    have hp : p ∈ (L2H.cxH CX0 P w K mg base ["_law_e"] "_law_field" (defScope sField) f cdv A outer s H E p).pn := List.mem_singleton.mpr rfl
    refine ⟨_, pss_cons (ps_if (pt_cmpR op_in_seq (pe_pf er.xf (er.no _ (by decide +kernel)) hp er.ca (pv 0)) (pe_tup (pa_cons pe_str (pa_cons pe_str pa_nil))) (by rfl)) (pss_one (ps_ret (pe_pf er.xf (er.no _ (by decide +kernel)) hp er.ca (pv 0)))) pss_nil)
      (pss_cons (ps_if (pt_cmpR op_in_seq (pe_pf er.xf (er.no _ (by decide +kernel)) hp er.ca (pv 0)) (pe_tup (pa_cons pe_str (pa_cons pe_str (pa_cons pe_str pa_nil)))) (by rfl)) (pss_one (ps_ret (pe_pf er.xf (er.no _ (by decide +kernel)) hp er.ca (pv 0)))) pss_nil)
      (pss_cons (ps_if (pt_cmpR op_in_seq (pe_pf er.xf (er.no _ (by decide +kernel)) hp er.ca (pv 0)) (pe_tup (pa_cons pe_str (pa_cons pe_str (pa_cons pe_str pa_nil)))) (by rfl)) (pss_one (ps_ret (pe_pf er.xf (er.no _ (by decide +kernel)) hp er.ca (pv 0)))) pss_nil)
      (pss_cons (ps_if (pt_cmpR op_eq (pe_pf er.xf (er.no _ (by decide +kernel)) hp er.ca (pv 0)) pe_str (nomark _)) (pss_one (ps_ret (pe_tup (pa_cons (pe_pf er.xf (er.no _ (by decide +kernel)) hp er.ca (pv 0)) (pa_cons (pe_pf er.xf (er.no _ (by decide +kernel)) hp er.ca (pv 0)) pa_nil))))) pss_nil)
      (pss_one (ps_ret (pe_callQ G hr hp (by rfl) D.gl D.kp bO (pa_cons (pv 0) pa_nil))))))), ?_⟩
    have ha := er.at_
    unfold fieldF at q
    refine ⟨_, rfl, fs, _, rfl, ha, lc, (by show 2 ≤ sizeLine; decide), fun t1 n1 => ?_⟩
    have s1 := same_upd' (o := .tup [V.str "InvalidName", .str "InvalidNumber"]) n1
    refine ⟨t1, _, rfl, .inr (.of upd_same), rfl, rfl, _, rfl, ?_⟩
    show if inV (.str code) [.str "InvalidName", .str "InvalidNumber"] = true then _ else _
    cases h1 : inV (.str code) [.str "InvalidName", .str "InvalidNumber"] with
    | true =>
      rw [h1] at q
      obtain ⟨v, lv, k⟩ := unT q
      exact iteT ⟨_, rfl, fs, v, rfl, s1 _ _ ha, lv, k _ s1⟩
    | false =>
      rw [h1] at q
      have q := unF q
      refine iteF ⟨_, rfl, fs, _, rfl, s1 _ _ ha, lc, (by show 3 ≤ sizeLine; decide), fun t2 n2 => ?_⟩
      have s2 := s1.trans (same_upd' (o := .tup [V.str "InvalidText", .str "WrongKind", .str "InvalidBlank"]) n2)
      refine ⟨t2, _, rfl, .inr (.of upd_same), rfl, rfl, _, rfl, ?_⟩
      show if inV (.str code) [.str "InvalidText", .str "WrongKind", .str "InvalidBlank"] = true then _ else _
      cases h2 : inV (.str code) [.str "InvalidText", .str "WrongKind", .str "InvalidBlank"] with
      | true =>
        rw [h2] at q
        obtain ⟨v, lv, k⟩ := unT q
        exact iteT ⟨_, rfl, fs, v, rfl, s2 _ _ ha, lv, k _ s2⟩
      | false =>
        rw [h2] at q
        have q := unF q
        refine iteF ⟨_, rfl, fs, _, rfl, s2 _ _ ha, lc, (by show 3 ≤ sizeLine; decide), fun t3 n3 => ?_⟩
        have s3 := s2.trans (same_upd' (o := .tup [V.str "NameTaken", .str "InvalidWitness", .str "UnknownName"]) n3)
        refine ⟨t3, _, rfl, .inr (.of upd_same), rfl, rfl, _, rfl, ?_⟩
        show if inV (.str code) [.str "NameTaken", .str "InvalidWitness", .str "UnknownName"] = true then _ else _
        cases h3 : inV (.str code) [.str "NameTaken", .str "InvalidWitness", .str "UnknownName"] with
        | true =>
          rw [h3] at q
          obtain ⟨v, lv, k⟩ := unT q
          exact iteT ⟨_, rfl, fs, v, rfl, s3 _ _ ha, lv, k _ s3⟩
        | false =>
          rw [h3] at q
          have q := unF q
          refine iteF ⟨_, rfl, fs, _, rfl, s3 _ _ ha, lc, rfl, _, rfl, ?_⟩
          cases h4 : decide (V.str code = V.str "TooLarge") with
          | true =>
            rw [h4] at q
            obtain ⟨v, lv, u, lu, k⟩ := unT q
            refine iteT ⟨_, rfl, fs, v, rfl, s3 _ _ ha, lv, _, rfl, fs, u, rfl, s3 _ _ ha, lu, (by show 2 ≤ sizeLine; decide), fun t4 n4 => ?_⟩
            exact k t4 _ upd_same (s3.trans (same_upd' n4))
          | false =>
            rw [h4] at q
            have q := unF q
            refine iteF ⟨_, rfl, C, dd, fs, code, rfl, er.same s3, lc, ?_⟩
            unfold otherF at q ⊢
            have mono : ∀ {f : Str}, Has fs f (fun v => ∀ H', Same H H' → Q v H') → Has fs f fun v => Q v _ := fun ⟨v, l, k⟩ => ⟨v, l, k _ s3⟩
            split at q
            · rename_i c
              rw [if_pos c]
              exact mono q
            · rename_i c
              rw [if_neg c]
              split at q
              · rename_i c
                rw [if_pos c]
                exact mono q
              · rename_i c
                rw [if_neg c]
                split at q
                · rename_i c
                  rw [if_pos c]
                  exact mono q
                · rename_i c
                  rw [if_neg c]
                  split at q
                  · rename_i c
                    rw [if_pos c]
                    exact q _ s3
                  · rename_i c
                    rw [if_neg c]
                    exact mono q
end
end K09

set_option Elab.async false
set_option linter.all false
set_option maxRecDepth 100000
set_option maxHeartbeats 4000000
namespace K09
open PySem PySem.Spec PyProof.Rows L2 Ux
/-! ### _law_why, handed a lambda -/
/-- the wish of an error: told as its code and what it has -/
def Told (K : PySem.W.Frag) (C1 C2 : Addr) (Q : VK) : XK := fun cls d H => ∃ (C dd : Addr) (fs : List (Str × V)) (code : Str), cls = .ref C ∧ d = some dd ∧ H dd = some (.xd fs) ∧ PySem.W.exmAny K cls [.ref C1, .ref C2] = some true ∧ XfC K C ∧
  (∀ f ∈ fieldNames, PySem.W.findIn K (.ref C) f = some none) ∧ fs.lookup ("code" : Str) = some (V.str code) ∧
  fieldF code fs (fun v => ∀ (t : Addr) (H' : Hp), H' t = some (.tup [.str code, v]) → Same H H' → Q (.ref t) H')
    fun v u => ∀ (t t2 : Addr) (H' : Hp), H' t2 = some (.tup [v, u]) → H' t = some (.tup [.str code, .ref t2]) → Same H H' → Q (.ref t) H'
def TTwhy (K : PySem.W.Frag) (C1 C2 : Addr) : (XK → Hp → VK → Prop) → Hp → VK → Prop := fun tl H Q =>
  tl (Told K C1 C2 Q) H fun v H' => [V.str "value", v].length ≤ sizeLine ∧ ∀ t : Addr, H' t = none → Q (.ref t) (upd H' t (.tup [.str "value", v]))
theorem Has.imp {fs : List (Str × V)} {f : Str} {q q' : V → Prop} (h : Has fs f q) (k : ∀ v, q v → q' v) : Has fs f q' := by
  obtain ⟨v, l, z⟩ := h
  exact ⟨v, l, k v z⟩
theorem ite_imp {c : Prop} [Decidable c] {A B A' B' : Prop} (h : if c then A else B) (ha : A → A') (hb : B → B') : if c then A' else B' := by
  split
  · rename_i z
    rw [if_pos z] at h
    exact ha h
  · rename_i z
    rw [if_neg z] at h
    exact hb h
theorem fieldF_imp {code : Str} {fs : List (Str × V)} {q q' : V → Prop} {t t' : V → V → Prop} (h : fieldF code fs q t) (k : ∀ v, q v → q' v) (k2 : ∀ v u, t v u → t' v u) : fieldF code fs q' t' := by
  unfold fieldF at h ⊢
  refine ite_imp h (fun z => z.imp k) fun h => ite_imp h (fun z => z.imp k) fun h => ite_imp h (fun z => z.imp k) fun h => ite_imp h (fun z => z.imp fun v z => z.imp (k2 v)) fun h => ?_
  unfold otherF at h ⊢
  exact ite_imp h (fun z => z.imp k) fun h => ite_imp h (fun z => z.imp k) fun h => ite_imp h (fun z => z.imp k) fun h => ite_imp h (k _) fun z => z.imp k
/-- the suite's reading -/
def tsWhy (K : PySem.W.Frag) (a : Addr) (cls : Value) (d : Option Addr) : TS := fun D σ H => ∃ C dd : Addr, cls = .ref C ∧ d = some dd ∧ XfC K C ∧ (∀ f ∈ fieldNames, PySem.W.findIn K (.ref C) f = some none) ∧
  ∀ oe : Obj, Caught (a, oe) C dd → tRet (tTup (tCons (tPf a dd "code" (tVar 1)) (tCons (tCallQ (a, oe) (spFieldE K) (tCons (tVar 1) tNil)) tNil))) D σ H
theorem scWhy : FnScope ["_law_ask", "_law_e"] ["_law_ask"] (defScope sWhy) := ⟨rfl, rfl, rfl, by decide +kernel, rfl, by decide +kernel, by decide +kernel⟩
section
variable {X : Cx} {C1 C2 fF g : Addr} {fdF : FuncData} {q : Str} {cdg : Value}
theorem why_gives (hr : Room 3 X.A) (D : Dn X.K X.mg "_law_field" fF) (G : FnQ X.prog X.w X.K X.mg X.base 2 fF fdF ["_law_e"] (spFieldE X.K)) (bF : Binds X.K fdF ["_law_e"] []) (m1 : X.mg "SlopeError" = some (.ref C1)) (m2 : X.mg "Missing" = some (.ref C2)) :
    LamX.GivesTo X ["_law_ask", "_law_e"] "_law_why" (defScope sWhy) g cdg (defBody sWhy) "_law_ask" q (TTwhy X.K C1 C2) := by
  intro f c' s H Q tl act hc h
  have room : L2H.RoomH 2 (cxOf C8.CX0 X.prog X.w X.K X.mg X.base ["_law_ask", "_law_e"] "_law_why" (defScope sWhy) g cdg X.A X.stack s H C8.E0).A := (L2H.roomH_of hr).deeper _
  refine ⟨_, pss_one (ps_try_as2 (X := (cxOf C8.CX0 X.prog X.w X.K X.mg X.base ["_law_ask", "_law_e"] "_law_why" (defScope sWhy) g cdg X.A X.stack s H C8.E0).nox) (i := 1) (C1 := C1) (C2 := C2) (ts := tsWhy X.K)
      (tb := fun W D σ H => ∃ Ech : XK, (∀ cls d σ' H', Ech cls d H' → W cls d σ' H') ∧ σ[0]? = some (some (.ref f)) ∧ H c' = some (LamX.CodeO c' q) ∧ tl Ech H fun v H' => [V.str "value", v].length ≤ sizeLine ∧ ∀ t, H' t = none → D.rt (.ref t) (upd H' t (.tup [.str "value", v])))
      rfl rfl scWhy.nd rfl rfl rfl rfl m1 m2 (by decide +kernel) (by decide +kernel) (fun W pn xe tk _ => ?_) (fun a oe cls d pn hz hf => ?_)), ?_⟩
  · refine ⟨fun pins s' σ H' D I h' => ?_⟩
    obtain ⟨Ech, hW, h1, h2, h3⟩ := h'
    exact (pss_one (ps_ret (pe_tup (pa_cons pe_str (pa_cons (act W pn xe Ech _ _ tk hW) pa_nil))))).run pins s' σ H' D I ⟨h1, h2, h3⟩
  · refine ⟨fun pins s' σ H' D' I h' => ?_⟩
    obtain ⟨C, dd, rfl, rfl, xf, no, k⟩ := h'
    have hp : (a, oe) ∈ ((cxOf C8.CX0 X.prog X.w X.K X.mg X.base ["_law_ask", "_law_e"] "_law_why" (defScope sWhy) g cdg X.A X.stack s H C8.E0).nox.suite a ((a, oe) :: pn)).pn := List.mem_cons_self
    have room2 : L2H.RoomH 2 ((cxOf C8.CX0 X.prog X.w X.K X.mg X.base ["_law_ask", "_law_e"] "_law_why" (defScope sWhy) g cdg X.A X.stack s H C8.E0).nox.suite a ((a, oe) :: pn)).A := ⟨room.dp, room.un⟩
    refine PSs.run (X := (cxOf C8.CX0 X.prog X.w X.K X.mg X.base ["_law_ask", "_law_e"] "_law_why" (defScope sWhy) g cdg X.A X.stack s H C8.E0).nox.suite a ((a, oe) :: pn)) (t := tRet (tTup (tCons (tPf a dd "code" (tVar 1)) (tCons (tCallQ (a, oe) (spFieldE X.K) (tCons (tVar 1) tNil)) tNil)))) ?_ pins s' σ H' D' I (k oe ⟨hz, hf⟩)
    exact pss_one (ps_ret (pe_tup (pa_cons (pe_pf (p := (a, oe)) xf (no _ (by decide +kernel)) hp ⟨hz, hf⟩ (pv 1)) (pa_cons (pe_callQ (p := (a, oe)) G room2 hp (by rfl) D.gl D.kp bF (pa_cons (pv 1) pa_nil)) pa_nil))))
  · refine ⟨Told X.K C1 C2 Q, fun cls d σ' H' t => ?_, rfl, hc, h⟩
    obtain ⟨C, dd, fs, code, rfl, rfl, hdd, ex, xf, no, lc, ff⟩ := t
    refine ⟨ex, fun a na len => ⟨C, dd, rfl, rfl, xf, no, fun oe ca => ?_⟩⟩
    have got : (σ'.set 1 (some (V.ref a)))[1]? = some (some (V.ref a)) := List.getElem?_set_self (by rw [len]; show 1 < 2; decide)
    refine ⟨.ref a, got, fs, _, rfl, hdd, lc, .ref a, got, C, dd, fs, code, rfl, ⟨ca, xf, no, hdd⟩, lc, fieldF_imp ff (fun v hv H2 s2 => ?_) (fun v u hv t2 H2 h2 s2 => ?_)⟩
    · exact ⟨(by show 2 ≤ sizeLine; decide), fun t nt => hv t _ upd_same (s2.trans (same_upd' nt))⟩
    · exact ⟨(by show 2 ≤ sizeLine; decide), fun t nt => hv t t2 _ ((upd_ne (ne_of_none h2 nt)).trans h2) upd_same (s2.trans (same_upd' nt))⟩
end
end K09

set_option Elab.async false
set_option linter.all false
set_option maxRecDepth 100000
set_option maxHeartbeats 4000000
set_option pp.maxSteps 500
namespace K09
open PySem PySem.Spec PyProof.Rows L2 Ux ClX NdefX
abbrev sLaw : Stmt := top 59
abbrev stMade : Stmt := List.getD (defBody sLaw) 4 (Stmt.Pass ⟨0, 0, 0, 0⟩)
abbrev nMade : List Str := ["_law_inputs", "_law_late", "_law_one", "_law_functions", "_law_name_here"]
abbrev mkMade (q : Str) (cl : List (Str × Addr)) (c' : Addr) : NF := NF.of stMade "_law_made" q cl c'
theorem scMade : NScope nMade ["_law_inputs", "_law_late"] ["_law_one"] (C8.fnScope stMade) := nscope_by (by decide +kernel)
/-- a world is made -/
def spMadeG (CR CU CW : Addr) (φ : FT) (ws : List (Option V)) : Sp := fun vs H Q _ => ∃ (u li la : Addr) (ins fns : List Str), ws = [some (.ref u)] ∧ vs = [.ref li, .ref la] ∧ H li = some (.lst (ins.map V.str)) ∧ H la = some (.lst (fns.map V.str)) ∧ UnsAt CR CU H u φ ∧ FOk φ ∧ WIn ins fns ∧
  ∀ (p : Addr) (H' : Hp) (ys : List Str), ys.Perm fns → WorldAt CR CU CW H' p ins ys (fun _ => φ) (ins ++ fns) → Same H H' → Q (.ref p) H'
/-- how it is refused -/
def BadM (CN CT CL : Addr) (xs : List V) (os : List OKy) (H : Hp) (E : XK) : Prop :=
  (∃ (pre : List Str) (v : V) (post : List V), xs ++ os.map okV = pre.map V.str ++ v :: post ∧ (∀ z ∈ pre, nameB z = true) ∧ Wrong v ∧ Fly CN (fs_InvalidName v) H E) ∨
  ∃ fns : List Str, os = fns.map OKy.str ∧ ((∃ (pre post : List Str) (n : Str), xs ++ fns.map V.str = (pre ++ n :: post).map V.str ∧ (∀ z ∈ pre ++ n :: post, nameB z = true) ∧ pre.Nodup ∧ n ∈ pre ∧ Fly CT (fs_NameTaken (.str n)) H E) ∨
  ∃ zs : List Str, xs ++ fns.map V.str = zs.map V.str ∧ zs.Nodup ∧ (∀ z ∈ zs, nameB z = true) ∧ ((4 < xs.length ∧ Fly CL (fs_TooLarge (.str "inputs") (.int 4)) H E) ∨ (xs.length ≤ 4 ∧ 4 < fns.length ∧ Fly CL (fs_TooLarge (.str "functions") (.int 4)) H E)))
def spMadeX (CN CT CL : Addr) (ws : List (Option V)) : Sp := fun vs H _ E => ∃ (u li la : Addr) (xs : List V) (os : List OKy), ws = [some (.ref u)] ∧ vs = [.ref li, .ref la] ∧ H li = some (.lst xs) ∧ H la = some (.lst (os.map okV)) ∧ os.Nodup ∧ (∀ o ∈ os, okGood o = true) ∧ xs.length ≤ 100 ∧ os.length ≤ 100 ∧ BadM CN CT CL xs os H E
theorem put_take {fns : List Str} {i : Nat} {y : Str} {u : Addr} (nd : fns.Nodup) (h : fns[i]? = some y) : putK (dkN (fns.take i) (fun _ => u)) (Sum.inr y) (.ref u) = dkN (fns.take (i + 1)) (fun _ => u) := by
  rw [dkN_new u (not_taken nd h), List.take_add_one, h]
  have e1 : putU (fun _ => u) y u = fun _ => u := funext fun m => by
    unfold putU
    split <;> rfl
  rw [e1]
  rfl
def kvO (os : List OKy) (u : Addr) : List (OKy × V) := os.map fun o => (o, V.ref u)
theorem valV_out {κ : Type} [DecidableEq κ] {kvs : List (κ × V)} {k : κ} (h : k ∉ kvs.map (·.1)) : valV kvs k = none := by
  unfold valV
  rw [List.find?_eq_none.mpr (fun p hp e => h (List.mem_map.mpr ⟨p, hp, of_decide_eq_true e⟩))]
  rfl
theorem kvO_keys (os : List OKy) (u : Addr) : (kvO os u).map (·.1) = os := by
  unfold kvO
  rw [List.map_map]
  exact List.map_id _
theorem kvO_vals (os : List OKy) (u : Addr) : ((kvO os u).map fun kv => okV kv.1) = os.map okV := by
  unfold kvO
  rw [List.map_map]
  rfl
theorem not_takenO {os : List OKy} (nd : os.Nodup) {i : Nat} {o : OKy} (h : os[i]? = some o) : o ∉ os.take i := fun m => by
  obtain ⟨j, hj⟩ := List.mem_iff_getElem?.mp m
  rw [List.getElem?_take] at hj
  split at hj
  · rename_i lt
    have e := (List.getElem?_inj (List.getElem?_eq_some_iff.mp h).1 nd).mp (h.trans hj.symm)
    omega
  · cases hj
theorem put_takeO {os : List OKy} {i : Nat} {o : OKy} {u : Addr} (nd : os.Nodup) (h : os[i]? = some o) : putK (kvO (os.take i) u) o (.ref u) = kvO (os.take (i + 1)) u := by
  rw [putK_new _ (valV_out (by rw [kvO_keys]; exact not_takenO nd h)), List.take_add_one, h]
  unfold kvO
  rw [List.map_append]
  rfl
theorem at_mapO {os : List OKy} {i : Nat} {x : V} (h : (os.map okV)[i]? = some x) : ∃ o, os[i]? = some o ∧ x = okV o := by
  rw [List.getElem?_map] at h
  cases e : os[i]? with
  | none => rw [e] at h; cases h
  | some z => rw [e] at h; exact ⟨z, rfl, (Option.some.inj h).symm⟩
section
variable {P : Program} {w : World} {K : PySem.W.Frag} {mg : Str → Option Value} {base : Heap} {CR CU CW CN CT CL : Addr} {mc : Value} {qq : Str} {cl : List (Str × Addr)} {f c' : Addr} {φ : FT}
theorem ok_madeG {fI : Addr} {fdI : FuncData} (T : WT K mg CW mc) (MI : Mk K CW fI) (GI : FnOk P w K mg base CX0 4 fI fdI ["self", "inputs", "functions"] (spWInit CR CU CW)) (bI : Binds K fdI ["self", "inputs", "functions"] []) :
    NOk P w K mg base CX0 6 f (mkMade qq cl c') ["_law_inputs", "_law_late"] ["_law_one"] (spMadeG CR CU CW φ) := by
  refine nok_of scMade (fun doc pm ctv us hl => ?_) (fun ws vs H Q E h => ?_) (fun A outer s H vs ws Q E hr hf hc hw h => ?_)
  · match us, hl with
    | [a, b], _ => rfl
  · obtain ⟨u, li, la, ins, fns, _, rfl, _⟩ := h
    rfl
  · obtain ⟨u, li, la, ins, fns, rfl, rfl, hl, hk, ua, fo, wi, q⟩ := h
    refine ⟨_, pss_cons (ps_set (i := 3) scMade.nd rfl (Or.inl rfl) pe_dnewK (hf := Or.inr rfl))
      (pss_cons (ps_for (passes_of rfl) rfl (pi_list (pv 1)) (pg_name (i := 4) scMade.nd rfl (Or.inl rfl) (hf := Or.inr rfl)) (pss_one (ps_dput (hu_of hr) (pv 3) (pv 4) (pv 2) rfl)))
      (pss_one (ps_ret (pe_make MI GI hr (by rfl) T.gl bI .nil pass0 (pa_cons (pv 0) (pa_cons (pv 3) pa_nil)))))), ?_⟩
    intro D nD
    have few : fns.length ≤ 4 := wi.2.2.2
    have s1 : Same H (upd H D (.dK [])) := same_upd nD
    refine ⟨_, rfl, la, rfl, ⟨_, .of (s1 _ _ hk)⟩, for_list (xs := fns.map V.str) (fun i σ H' => ∃ x4, σ = [some (.ref li), some (.ref la), some (.ref u), some (.ref D), x4] ∧ H' D = some (.dK (dkN (fns.take i) (fun _ => u))) ∧ Same H H') ⟨none, rfl, upd_same, s1⟩ (fun i σ H' _ z => by
        obtain ⟨_, _, _, s2⟩ := z
        exact .of (s2 _ _ hk)) ?_ ?_⟩
    · rintro i x σ H1 hx ⟨x4, rfl, d1, s2⟩
      obtain ⟨y, hy, rfl⟩ := at_map hx
      refine ⟨_, rfl, _, rfl, _, rfl, D, _, rfl, .inl ⟨_, Sum.inr y, d1, rfl, ?_, rfl⟩, _, rfl, ?_, fun c o e => ?_⟩
      · rw [dkN_len, List.length_take]
        exact small1000 (by omega)
      · rw [upd_same, put_take wi.nd hy]
      · rw [upd_ne (ne_of_none e nD)]
        exact s2 _ _ e
    · rintro σ H1 ⟨x4, rfl, d1, s2⟩
      rw [List.length_map, List.take_length] at d1
      refine ⟨_, rfl, _, rfl, fun x dx nx nd ne => ?_⟩
      have s3 : Same H1 (upd (upd H1 dx (.own x)) x (.ins CW dx [])) := fun c o e => by
        have n1 := ne_of_none e nx
        rw [upd_ne n1, upd_ne (ne_of_none e nd)]
        exact e
      have t1 := s2.trans s3
      exact ⟨x, dx, li, D, ins, fns, fun _ => u, fun _ => φ, rfl, upd_same, t1 _ _ hl, s3 _ _ d1, wi, fun n m => ⟨fo, ua.same t1⟩, fun H' ys py sy wz bz => ⟨rfl, q x H' ys py wz.at (s2.trans (made_same nx nd bz))⟩⟩
theorem ok_madeX {fI : Addr} {fdI : FuncData} (T : WT K mg CW mc) (MI : Mk K CW fI) (GI : FnOk P w K mg base (L2.CX P w) 6 fI fdI ["self", "inputs", "functions"] (spWInitX P w CW CN CT CL)) (bI : Binds K fdI ["self", "inputs", "functions"] []) :
    NOk P w K mg base (L2.CX P w) 8 f (mkMade qq cl c') ["_law_inputs", "_law_late"] ["_law_one"] (spMadeX CN CT CL) := by
  refine nok_of scMade (fun doc pm ctv us hl => ?_) (fun ws vs H Q E h => ?_) (fun A outer s H vs ws Q E hr hf hc hw h => ?_)
  · match us, hl with
    | [a, b], _ => rfl
  · obtain ⟨u, li, la, xs, os, _, rfl, _⟩ := h
    rfl
  · obtain ⟨u, li, la, xs, os, rfl, rfl, hl, hk, nd, gd, lx, lo, bad⟩ := h
    refine ⟨_, pss_cons (ps_set (i := 3) scMade.nd rfl (Or.inl rfl) pe_dnewK (hf := Or.inr rfl))
      (pss_cons (ps_for (passes_of rfl) rfl (pi_list (pv 1)) (pg_name (i := 4) scMade.nd rfl (Or.inl rfl) (hf := Or.inr rfl)) (pss_one (ps_dputO (hu_of hr) (pv 3) (pv 4) (pv 2) rfl)))
      (pss_one (ps_ret (pe_make (E := E) MI GI hr (by rfl) T.gl bI .nil (passes_call (takes_of rfl rfl rfl rfl) fun _ _ _ _ z => z) (pa_cons (pv 0) (pa_cons (pv 3) pa_nil)))))), ?_⟩
    intro D nD
    have s1 : Same H (upd H D (.dK [])) := same_upd nD
    rcases bad with bad | ⟨fns, rfl, bad⟩
    · refine ⟨_, rfl, la, rfl, ⟨_, .of (s1 _ _ hk)⟩, for_list (xs := os.map okV) (fun i σ H' => ∃ x4, σ = [some (.ref li), some (.ref la), some (.ref u), some (.ref D), x4] ∧ ((i = 0 ∧ H' D = some (.dK [])) ∨ H' D = some (OdK P w D (kvO (os.take i) u))) ∧ Same H H') ⟨none, rfl, .inl ⟨rfl, upd_same⟩, s1⟩ (fun i σ H' _ z => by
          obtain ⟨_, _, _, s2⟩ := z
          exact .of (s2 _ _ hk)) ?_ ?_⟩
      · rintro i x σ H1 hx ⟨x4, rfl, d1, s2⟩
        obtain ⟨o, ho, rfl⟩ := at_mapO hx
        have od : OD P w H1 D (kvO (os.take i) u) := by
          rcases d1 with ⟨rfl, d1⟩ | d1
          · exact .inr ⟨[], d1, rfl⟩
          · exact .inl d1
        refine ⟨_, rfl, _, rfl, _, rfl, D, rfl, .inr ⟨_, o, od, rfl, gd o (List.mem_of_getElem? ho), ?_, _, rfl, .inr ?_, fun c o e => ?_⟩⟩
        · unfold kvO
          rw [List.length_map, List.length_take]
          exact small1000 (by omega)
        · rw [upd_same, put_takeO nd ho]
          rfl
        · rw [upd_ne (ne_of_none e nD)]
          exact s2 _ _ e
      · rintro σ H1 ⟨x4, rfl, d1, s2⟩
        rw [List.length_map, List.take_length] at d1
        refine ⟨_, rfl, _, rfl, fun x dx nx nd' ne => ?_⟩
        have s3 : Same H1 (upd (upd H1 dx (.own x)) x (.ins CW dx [])) := fun c o e => by
          have n1 := ne_of_none e nx
          rw [upd_ne n1, upd_ne (ne_of_none e nd')]
          exact e
        have t1 := s2.trans s3
        have kd : KeysAt P w (upd (upd H1 dx (.own x)) x (.ins CW dx [])) D (os.map okV) := by
          rcases d1 with ⟨e0, d1⟩ | d1
          · have e2 : os = [] := List.length_eq_zero_iff.mp e0
            rw [e2]
            exact .inl ⟨[], fun _ => 0, s3 _ _ d1, rfl⟩
          · exact .inr ⟨_, s3 _ _ d1, (kvO_vals os u).symm⟩
        obtain ⟨pre, v, post, e1, e2, e3, e4⟩ := bad
        exact ⟨x, dx, li, D, xs, _, rfl, upd_same, t1 _ _ hl, kd, lx, by rw [List.length_map]; exact lo, .inl ⟨pre, v, post, e1, e2, e3, e4.same t1⟩⟩
    · have em : (fns.map OKy.str).map okV = fns.map V.str := by
        rw [List.map_map]
        rfl
      rw [em] at hk
      have ndf : fns.Nodup := by
        unfold List.Nodup at nd ⊢
        rw [List.pairwise_map] at nd
        exact nd.imp fun h e => h (congrArg OKy.str e)
      rw [List.length_map] at lo
      refine ⟨_, rfl, la, rfl, ⟨_, .of (s1 _ _ hk)⟩, for_list (xs := fns.map V.str) (fun i σ H' => ∃ x4, σ = [some (.ref li), some (.ref la), some (.ref u), some (.ref D), x4] ∧ H' D = some (.dK (dkN (fns.take i) (fun _ => u))) ∧ Same H H') ⟨none, rfl, upd_same, s1⟩ (fun i σ H' _ z => by
          obtain ⟨_, _, _, s2⟩ := z
          exact .of (s2 _ _ hk)) ?_ ?_⟩
      · rintro i x σ H1 hx ⟨x4, rfl, d1, s2⟩
        obtain ⟨y, hy, rfl⟩ := at_map hx
        refine ⟨_, rfl, _, rfl, _, rfl, D, rfl, .inl ⟨_, .inl ⟨_, Sum.inr y, d1, rfl, ?_, rfl⟩, _, rfl, ?_, fun c o e => ?_⟩⟩
        · rw [dkN_len, List.length_take]
          exact small1000 (by omega)
        · rw [upd_same, put_take ndf hy]
        · rw [upd_ne (ne_of_none e nD)]
          exact s2 _ _ e
      · rintro σ H1 ⟨x4, rfl, d1, s2⟩
        rw [List.length_map, List.take_length] at d1
        refine ⟨_, rfl, _, rfl, fun x dx nx nd' ne => ?_⟩
        have s3 : Same H1 (upd (upd H1 dx (.own x)) x (.ins CW dx [])) := fun c o e => by
          have n1 := ne_of_none e nx
          rw [upd_ne n1, upd_ne (ne_of_none e nd')]
          exact e
        have t1 := s2.trans s3
        refine ⟨x, dx, li, D, xs, fns.map V.str, rfl, upd_same, t1 _ _ hl, .inl ⟨fns, _, s3 _ _ d1, rfl⟩, lx, by rw [List.length_map]; exact lo, ?_⟩
        rcases bad with ⟨pre, post, n, e1, e2, e3, e4, fly⟩ | ⟨zs, e1, e2, e3, ⟨e4, fly⟩ | ⟨e4, e5, fly⟩⟩
        · exact .inr (.inl ⟨pre, post, n, e1, e2, e3, e4, fly.same t1⟩)
        · exact .inr (.inr ⟨zs, e1, e2, e3, .inl ⟨e4, fly.same t1⟩⟩)
        · exact .inr (.inr ⟨zs, e1, e2, e3, .inr ⟨e4, ⟨fns, _, s3 _ _ d1, e5⟩, fly.same t1⟩⟩)
end
end K09

set_option Elab.async false
set_option linter.all false
set_option maxRecDepth 100000
set_option maxHeartbeats 1000000
set_option pp.maxSteps 500
namespace K09
open PySem PySem.Spec PyProof.Rows L2 Ux ClX NdefX
abbrev nLaw : List Str := ["_law_script", "_law_bag_here", "_law_names_here", "_law_odd", "_law_one", "_law_made", "_law_at", "_law_bad", "_law_calls", "_law_turn", "_law_ask", "_law_code", "_law_field_here", "_law_world", "_law_far", "_law_asks", "_law_due"]
theorem scLaw : FnScope nLaw ["_law_script"] (defScope sLaw) := ⟨rfl, rfl, rfl, by decide +kernel, rfl, by decide +kernel, by decide +kernel⟩
def q0 : Str := (envOfC "law" (defScope sLaw) 0 0 .none).qual
def qn : Str := q0 ++ "<lambda>"
def qm : Str := q0 ++ "_law_made"
def lnM : Nat := match stMade with
  | .FunctionDef _ _ _ _ _ _ _ _ _ pos => pos.line
  | _ => 0
/-- the names of the code objects that the law makes -/
def nmL (l _ : Nat) : Str := if l = lnM then qm else qn
def calls : List Expr := match List.getD (defBody sLaw) 7 (Stmt.Pass ⟨0, 0, 0, 0⟩) with
  | Stmt.Assign _ (.List es _) _ => es
  | _ => []
def asks : List Expr := match List.getD (defBody sLaw) 11 (Stmt.Pass ⟨0, 0, 0, 0⟩) with
  | Stmt.Assign _ (.List es _) _ => es
  | _ => []
def tupE (i : Nat) : List Expr := match List.getD calls i (Expr.Constant .none 0 ⟨0, 0, 0, 0⟩) with
  | .Tuple es _ _ => es
  | _ => []
def lamE (i : Nat) : Expr := List.getD (tupE i) 0 (Expr.Constant .none 0 ⟨0, 0, 0, 0⟩)
def ePa : Expr → Arguments
  | .Lambda p _ _ _ => p
  | _ => defArgs sLaw
def eBo : Expr → Expr
  | .Lambda _ b _ _ => b
  | e => e
def eSc : Expr → Scope
  | .Lambda _ _ s _ => s
  | _ => defScope sLaw
/-- the cells that the nested def captures -/
abbrev clM (cells : List (Str × Addr)) : List (Str × Addr) := cloFrom cells (C8.fnScope stMade).names []
def sl0 (K : PySem.W.Frag) (hi : Int) : TE := tSl (rSlL K) (tVar 2) tNoPart (tPart (tC (.int hi)))
def sl2 (K : PySem.W.Frag) (lo hi : Int) : TE := tSl (rSlL K) (tVar 2) (tPart (tC (.int lo))) (tPart (tC (.int hi)))
def aA (K : PySem.W.Frag) : Nat → TE
  | 0 => tVar 7
  | 1 => tOp rCat (sl0 K 2) (sl0 K 1)
  | 2 => tOp rCat (sl0 K 5) (sl2 K 2 3)
  | 3 => sl0 K 5
  | 4 => sl0 K 5
  | 5 => sl0 K 4
  | _ => sl0 K 2
def aB (K : PySem.W.Frag) : Nat → TE
  | 0 => tLst (tCons (tC (.str "fn")) tNil)
  | 1 => tVar 7
  | 2 => tLst tNil
  | 3 => sl2 K 4 9
  | 4 => sl2 K 5 10
  | 5 => sl2 K 5 10
  | _ => tOp rCat (sl2 K 1 2) (tLst (tCons (tVar 3) tNil))
def tl (K : PySem.W.Frag) (CN CT CL : Addr) (cells : List (Str × Addr)) (i : Nat) (E : XK) : TE := tCallN (mkMade qm (clM cells)) 5 [4] (fun _ _ => spMadeX CN CT CL) E (tCons (aA K i) (tCons (aB K i) tNil))
def dL (K : PySem.W.Frag) (CN CT CL : Addr) (cells : List (Str × Addr)) (i : Nat) : LamD := ⟨ePa (lamE i), eBo (lamE i), eSc (lamE i), tl K CN CT CL cells i⟩
/-- what the lambdas lean on -/
structure LamH (X : Cx) (CN CT CL : Addr) : Prop where
  N : X.N = nLaw
  sc : X.env.scope = defScope sLaw
  qu : X.env.qual = q0
  Fn : ∀ f c', NOk X.prog X.w X.K X.mg X.base (L2.CX X.prog X.w) 8 f (mkMade qm (clM X.env.cells) c') ["_law_inputs", "_law_late"] ["_law_one"] (spMadeX CN CT CL)
section
variable {X : Cx} {CN CT CL : Addr}
theorem pv2 {X : Cx} {i : Nat} {x : Str} {p : Pos} (hN : X.N = nLaw) (h : nLaw[i]? = some x) (hv : Vis X.env.scope x) (hd : (x == ("__debug__" : Str)) = false := by decide) (hcd : (x == ("__classdict__" : Str)) = false := by decide) : PE X (.Name x p) (tVar i) := pe_var (by rw [hN]; exact h) hv hd hcd
theorem lo0 (h : LamH X CN CT CL) : LamOkC X 8 (clM X.env.cells) ["_law_one"] [4] (dL X.K CN CT CL X.env.cells 0) := by
  obtain ⟨hN, hsc, hq, Fn⟩ := h
  refine ⟨LamX.lamS_by (by rw [hsc]; rfl), fun _ _ _ _ _ => rfl, fun A outer s H E f c ws hr C0 => ?_⟩
  exact pe_callnC (E := E) (X := LamX.lamCx X A outer s H E (eSc (lamE 0)) f c) Fn (fun _ => rfl) C0 rfl hr (Nat.le_refl _) (passes_call (takes_of rfl rfl rfl rfl) fun _ _ _ _ z => z) (by show X.N[5]? = _; rw [hN]; rfl) (.inr (.inr rfl))
    (pa_cons (pv2 (i := 7) hN rfl (.inr (.inr rfl))) (pa_cons (pe_lst (pa_cons pe_str pa_nil)) pa_nil))
theorem lo1 (h : LamH X CN CT CL) : LamOkC X 8 (clM X.env.cells) ["_law_one"] [4] (dL X.K CN CT CL X.env.cells 1) := by
  obtain ⟨hN, hsc, hq, Fn⟩ := h
  refine ⟨LamX.lamS_by (by rw [hsc]; rfl), fun _ _ _ _ _ => rfl, fun A outer s H E f c ws hr C0 => ?_⟩
  exact pe_callnC (E := E) (X := LamX.lamCx X A outer s H E (eSc (lamE 1)) f c) Fn (fun _ => rfl) C0 rfl hr (Nat.le_refl _) (passes_call (takes_of rfl rfl rfl rfl) fun _ _ _ _ z => z) (by show X.N[5]? = _; rw [hN]; rfl) (.inr (.inr rfl))
    (pa_cons (pe_op op_cat (pe_slice sl_list (pv2 (i := 2) hN rfl (.inr (.inr rfl))) po_none (po_some pe_int)) (pe_slice sl_list (pv2 (i := 2) hN rfl (.inr (.inr rfl))) po_none (po_some pe_int))) (pa_cons (pv2 (i := 7) hN rfl (.inr (.inr rfl))) pa_nil))
theorem lo2 (h : LamH X CN CT CL) : LamOkC X 8 (clM X.env.cells) ["_law_one"] [4] (dL X.K CN CT CL X.env.cells 2) := by
  obtain ⟨hN, hsc, hq, Fn⟩ := h
  refine ⟨LamX.lamS_by (by rw [hsc]; rfl), fun _ _ _ _ _ => rfl, fun A outer s H E f c ws hr C0 => ?_⟩
  exact pe_callnC (E := E) (X := LamX.lamCx X A outer s H E (eSc (lamE 2)) f c) Fn (fun _ => rfl) C0 rfl hr (Nat.le_refl _) (passes_call (takes_of rfl rfl rfl rfl) fun _ _ _ _ z => z) (by show X.N[5]? = _; rw [hN]; rfl) (.inr (.inr rfl))
    (pa_cons (pe_op op_cat (pe_slice sl_list (pv2 (i := 2) hN rfl (.inr (.inr rfl))) po_none (po_some pe_int)) (pe_slice sl_list (pv2 (i := 2) hN rfl (.inr (.inr rfl))) (po_some pe_int) (po_some pe_int))) (pa_cons (pe_lst pa_nil) pa_nil))
theorem lo3 (h : LamH X CN CT CL) : LamOkC X 8 (clM X.env.cells) ["_law_one"] [4] (dL X.K CN CT CL X.env.cells 3) := by
  obtain ⟨hN, hsc, hq, Fn⟩ := h
  refine ⟨LamX.lamS_by (by rw [hsc]; rfl), fun _ _ _ _ _ => rfl, fun A outer s H E f c ws hr C0 => ?_⟩
  exact pe_callnC (E := E) (X := LamX.lamCx X A outer s H E (eSc (lamE 3)) f c) Fn (fun _ => rfl) C0 rfl hr (Nat.le_refl _) (passes_call (takes_of rfl rfl rfl rfl) fun _ _ _ _ z => z) (by show X.N[5]? = _; rw [hN]; rfl) (.inr (.inr rfl))
    (pa_cons (pe_slice sl_list (pv2 (i := 2) hN rfl (.inr (.inr rfl))) po_none (po_some pe_int)) (pa_cons (pe_slice sl_list (pv2 (i := 2) hN rfl (.inr (.inr rfl))) (po_some pe_int) (po_some pe_int)) pa_nil))
theorem lo4 (h : LamH X CN CT CL) : LamOkC X 8 (clM X.env.cells) ["_law_one"] [4] (dL X.K CN CT CL X.env.cells 4) := by
  obtain ⟨hN, hsc, hq, Fn⟩ := h
  refine ⟨LamX.lamS_by (by rw [hsc]; rfl), fun _ _ _ _ _ => rfl, fun A outer s H E f c ws hr C0 => ?_⟩
  exact pe_callnC (E := E) (X := LamX.lamCx X A outer s H E (eSc (lamE 4)) f c) Fn (fun _ => rfl) C0 rfl hr (Nat.le_refl _) (passes_call (takes_of rfl rfl rfl rfl) fun _ _ _ _ z => z) (by show X.N[5]? = _; rw [hN]; rfl) (.inr (.inr rfl))
    (pa_cons (pe_slice sl_list (pv2 (i := 2) hN rfl (.inr (.inr rfl))) po_none (po_some pe_int)) (pa_cons (pe_slice sl_list (pv2 (i := 2) hN rfl (.inr (.inr rfl))) (po_some pe_int) (po_some pe_int)) pa_nil))
theorem lo5 (h : LamH X CN CT CL) : LamOkC X 8 (clM X.env.cells) ["_law_one"] [4] (dL X.K CN CT CL X.env.cells 5) := by
  obtain ⟨hN, hsc, hq, Fn⟩ := h
  refine ⟨LamX.lamS_by (by rw [hsc]; rfl), fun _ _ _ _ _ => rfl, fun A outer s H E f c ws hr C0 => ?_⟩
  exact pe_callnC (E := E) (X := LamX.lamCx X A outer s H E (eSc (lamE 5)) f c) Fn (fun _ => rfl) C0 rfl hr (Nat.le_refl _) (passes_call (takes_of rfl rfl rfl rfl) fun _ _ _ _ z => z) (by show X.N[5]? = _; rw [hN]; rfl) (.inr (.inr rfl))
    (pa_cons (pe_slice sl_list (pv2 (i := 2) hN rfl (.inr (.inr rfl))) po_none (po_some pe_int)) (pa_cons (pe_slice sl_list (pv2 (i := 2) hN rfl (.inr (.inr rfl))) (po_some pe_int) (po_some pe_int)) pa_nil))
theorem lo6 (h : LamH X CN CT CL) : LamOkC X 8 (clM X.env.cells) ["_law_one"] [4] (dL X.K CN CT CL X.env.cells 6) := by
  obtain ⟨hN, hsc, hq, Fn⟩ := h
  refine ⟨LamX.lamS_by (by rw [hsc]; rfl), fun _ _ _ _ _ => rfl, fun A outer s H E f c ws hr C0 => ?_⟩
  exact pe_callnC (E := E) (X := LamX.lamCx X A outer s H E (eSc (lamE 6)) f c) Fn (fun _ => rfl) C0 rfl hr (Nat.le_refl _) (passes_call (takes_of rfl rfl rfl rfl) fun _ _ _ _ z => z) (by show X.N[5]? = _; rw [hN]; rfl) (.inr (.inr rfl))
    (pa_cons (pe_slice sl_list (pv2 (i := 2) hN rfl (.inr (.inr rfl))) po_none (po_some pe_int)) (pa_cons (pe_op op_cat (pe_slice sl_list (pv2 (i := 2) hN rfl (.inr (.inr rfl))) (po_some pe_int) (po_some pe_int)) (pe_lst (pa_cons (pv2 (i := 3) hN rfl (.inr (.inr rfl))) pa_nil))) pa_nil))
end
end K09

set_option Elab.async false
set_option linter.all false
set_option maxRecDepth 100000
set_option maxHeartbeats 1000000
set_option pp.maxSteps 500
namespace K09
open PySem PySem.Spec PyProof.Rows L2 Ux ClX NdefX
theorem Wrong.key {v : V} (h : Wrong v) : ∃ o : OKy, v = okV o ∧ okGood o = true ∧ ∀ z, nameB z = true → o ≠ .str z := by
  cases h with
  | non => exact ⟨.non, rfl, rfl, fun z _ e => nomatch e⟩
  | yes => exact ⟨.bl true, rfl, rfl, fun z _ e => nomatch e⟩
  | int => exact ⟨.int 5, rfl, by decide, fun z _ e => nomatch e⟩
  | @str x h _ _ => exact ⟨.str x, rfl, rfl, fun z hz e => by
      cases e
      rw [h] at hz
      cases hz⟩
/-- the list with the wrong name -/
def badL (zs : List Str) (at_ : Nat) (v : V) : List V := (zs.take at_).map V.str ++ v :: ((zs.take 2).drop at_).map V.str
/-- what the law has at its lambdas -/
structure CxL (cells : List (Str × Addr)) (σ : L2.St) (H : Hp) (zs : List Str) (at_ : Nat) (v : V) (u nA bA fM cM : Addr) : Prop where
  h2 : σ[2]? = some (some (.ref nA))
  h3 : σ[3]? = some (some v)
  h4 : σ[4]? = some (some (.ref u))
  h5 : σ[5]? = some (some (.ref fM))
  h7 : σ[7]? = some (some (.ref bA))
  hn : H nA = some (.lst (zs.map V.str))
  hb : H bA = some (.lst (badL zs at_ v))
  hf : H fM = some (FnO fM (mkMade qm (clM cells) cM))
  hc : H cM = some (LamX.CodeO cM qm)
  len : zs.length = 10
  nd : zs.Nodup
  nm : ∀ z ∈ zs, nameB z = true
  a2 : at_ ≤ 2
  wr : Wrong v
def FlyOf (CN CT CL : Addr) (zs : List Str) (v : V) (H : Hp) (E : XK) : Nat → Prop
  | 2 => ∃ n, zs[2]? = some n ∧ Fly CT (fs_NameTaken (.str n)) H E
  | 3 => ∃ n, zs[4]? = some n ∧ Fly CT (fs_NameTaken (.str n)) H E
  | 4 => Fly CL (fs_TooLarge (.str "inputs") (.int 4)) H E
  | 5 => Fly CL (fs_TooLarge (.str "functions") (.int 4)) H E
  | _ => Fly CN (fs_InvalidName v) H E
section
variable {K : PySem.W.Frag} {CN CT CL : Addr} {cells : List (Str × Addr)} {σ : L2.St} {H : Hp} {Q : VK} {E : XK} {zs : List Str} {at_ : Nat} {v : V} {u nA bA fM cM : Addr}
theorem fin (c : CxL cells σ H zs at_ v u nA bA fM cM) {H3 : Hp} {p1 p2 : Addr} {xs : List V} {os : List OKy} (s : Same H H3) (hx : H3 p1 = some (.lst xs)) (hk : H3 p2 = some (.lst (os.map okV))) (nd : os.Nodup) (gd : ∀ o ∈ os, okGood o = true) (lx : xs.length ≤ 100) (lo : os.length ≤ 100) (bad : BadM CN CT CL xs os H3 E) :
    H3 fM = some (FnO fM (mkMade qm (clM cells) cM)) ∧ H3 (mkMade qm (clM cells) cM).c = some (LamX.CodeO (mkMade qm (clM cells) cM).c (mkMade qm (clM cells) cM).qual) ∧ spMadeX CN CT CL ([4].map (NdefX.slotAt σ)) [.ref p1, .ref p2] H3 Q E := by
  refine ⟨s _ _ c.hf, s _ _ c.hc, u, p1, p2, xs, os, ?_, rfl, hx, hk, nd, gd, lx, lo, bad⟩
  show [NdefX.slotAt σ 4] = _
  unfold NdefX.slotAt
  rw [c.h4]
theorem lr0 (c : CxL cells σ H zs at_ v u nA bA fM cM) (k : FlyOf CN CT CL zs v H E 0) : tl K CN CT CL cells 0 E σ H Q := by
  refine ⟨fM, cM, c.h5, c.hf, _, c.h7, (by show 1 ≤ sizeLine; decide), fun p hp => ?_⟩
  have s1 := same_upd (o := .lst [V.str "fn"]) hp
  refine fin c (os := [.str "fn"]) s1 (s1 _ _ c.hb) upd_same (by simp) (fun o m => by cases List.mem_singleton.mp m; rfl) ?_ (by simp) (.inl ⟨zs.take at_, v, ((zs.take 2).drop at_).map V.str ++ [V.str "fn"], ?_, fun z m => c.nm z (List.mem_of_mem_take m), c.wr, Fly.same k s1⟩)
  · have := c.a2
    have := c.len
    unfold badL
    simp only [List.length_append, List.length_map, List.length_cons, List.length_take, List.length_drop]
    omega
  · unfold badL
    rw [List.append_assoc]
    rfl
theorem ten {zs : List Str} (h : zs.length = 10) : ∃ z0 z1 z2 z3 z4 z5 z6 z7 z8 z9, zs = [z0, z1, z2, z3, z4, z5, z6, z7, z8, z9] := by
  match zs, h with
  | [z0, z1, z2, z3, z4, z5, z6, z7, z8, z9], _ => exact ⟨_, _, _, _, _, _, _, _, _, _, rfl⟩
theorem lr1 (c : CxL cells σ H zs at_ v u nA bA fM cM) (k : FlyOf CN CT CL zs v H E 1) : tl K CN CT CL cells 1 E σ H Q := by
  obtain ⟨z0, z1, z2, z3, z4, z5, z6, z7, z8, z9, rfl⟩ := ten c.len
  refine ⟨fM, cM, c.h5, c.hf, _, c.h2, 2, rfl, nA, _, rfl, .of c.hn, fun p hp => ⟨_, c.h2, 1, rfl, nA, _, rfl, .of ((same_upd hp) _ _ c.hn), fun p' hp' => ?_⟩⟩
  have s1 := same_upd (o := .lst [V.str z0, V.str z1]) hp
  have s2 := same_upd (o := .lst [V.str z0]) hp'
  have e1 : upd (upd H p (.lst [V.str z0, V.str z1])) p' (.lst [V.str z0]) p = some (.lst [V.str z0, V.str z1]) := s2 _ _ upd_same
  refine ⟨p, p', [V.str z0, V.str z1], [V.str z0], rfl, rfl, e1, upd_same, (by show 3 ≤ sizeLine; decide), fun p3 hp3 => ⟨_, c.h7, ?_⟩⟩
  have s3 := same_upd (o := .lst ([V.str z0, V.str z1] ++ [V.str z0])) hp3
  have sA := (s1.trans s2).trans s3
  obtain ⟨o, rfl, go, no⟩ := c.wr.key
  have n0 := c.nm z0 (by simp)
  have n1 := c.nm z1 (by simp)
  have nd := c.nd
  have ne : z0 ≠ z1 := fun e => by
    subst e
    simp at nd
  have hb := sA _ _ c.hb
  have a2 := c.a2
  have q0 := no z0 n0
  have q1 := no z1 n1
  have wr := c.wr
  rcases (show at_ = 0 ∨ at_ = 1 ∨ at_ = 2 by omega) with rfl | rfl | rfl
  · exact fin c (os := [o, .str z0, .str z1]) sA upd_same hb (by simp [q0, q1, ne]) (fun x m => by simp at m; rcases m with rfl | rfl | rfl <;> first | exact go | rfl) (by simp) (by simp) (.inl ⟨[z0, z1, z0], okV o, [V.str z0, V.str z1], rfl, fun z m => by simp at m; rcases m with rfl | rfl | rfl <;> assumption, wr, Fly.same k sA⟩)
  · exact fin c (os := [.str z0, o, .str z1]) sA upd_same hb (by simp [q0.symm, q1, ne]) (fun x m => by simp at m; rcases m with rfl | rfl | rfl <;> first | exact go | rfl) (by simp) (by simp) (.inl ⟨[z0, z1, z0, z0], okV o, [V.str z1], rfl, fun z m => by simp at m; rcases m with rfl | rfl | rfl | rfl <;> assumption, wr, Fly.same k sA⟩)
  · exact fin c (os := [.str z0, .str z1, o]) sA upd_same hb (by simp [q0.symm, q1.symm, ne]) (fun x m => by simp at m; rcases m with rfl | rfl | rfl <;> first | exact go | rfl) (by simp) (by simp) (.inl ⟨[z0, z1, z0, z0, z1], okV o, [], rfl, fun z m => by simp at m; rcases m with rfl | rfl | rfl | rfl | rfl <;> assumption, wr, Fly.same k sA⟩)
theorem lr2 (c : CxL cells σ H zs at_ v u nA bA fM cM) (k : FlyOf CN CT CL zs v H E 2) : tl K CN CT CL cells 2 E σ H Q := by
  obtain ⟨z0, z1, z2, z3, z4, z5, z6, z7, z8, z9, rfl⟩ := ten c.len
  obtain ⟨n, e, fly⟩ := k
  obtain rfl : z2 = n := Option.some.inj e
  refine ⟨fM, cM, c.h5, c.hf, _, c.h2, 5, rfl, nA, _, rfl, .of c.hn, fun p hp => ⟨_, c.h2, 2, rfl, 3, rfl, nA, _, rfl, .of ((same_upd hp) _ _ c.hn), fun p' hp' => ?_⟩⟩
  have s1 := same_upd (o := .lst ([z0, z1, z2, z3, z4].map V.str)) hp
  have s2 := same_upd (o := .lst [V.str z2]) hp'
  have e1 : upd (upd H p (.lst ([z0, z1, z2, z3, z4].map V.str))) p' (.lst [V.str z2]) p = some (.lst ([z0, z1, z2, z3, z4].map V.str)) := s2 _ _ upd_same
  refine ⟨p, p', [z0, z1, z2, z3, z4].map V.str, [V.str z2], rfl, rfl, e1, upd_same, (by show 6 ≤ sizeLine; decide), fun p3 hp3 => ⟨(by show 0 ≤ sizeLine; decide), fun p4 hp4 => ?_⟩⟩
  have s3 := same_upd (o := .lst ([z0, z1, z2, z3, z4].map V.str ++ [V.str z2])) hp3
  have s4 := same_upd (o := .lst []) hp4
  have sA := ((s1.trans s2).trans s3).trans s4
  have nd5 : [z0, z1, z2, z3, z4].Nodup := c.nd.sublist (show [z0, z1, z2, z3, z4].Sublist [z0, z1, z2, z3, z4, z5, z6, z7, z8, z9] from List.take_sublist 5 [z0, z1, z2, z3, z4, z5, z6, z7, z8, z9])
  exact fin c (xs := [z0, z1, z2, z3, z4].map V.str ++ [V.str z2]) (os := []) sA (s4 _ _ upd_same) upd_same List.nodup_nil (fun o m => nomatch m) (by simp) (by simp) (.inr ⟨[], rfl, .inl ⟨[z0, z1, z2, z3, z4], [], z2, rfl, fun z m => by simp at m; rcases m with rfl | rfl | rfl | rfl | rfl | rfl <;> exact c.nm _ (by simp), nd5, by simp, Fly.same fly sA⟩⟩)
theorem lr3 (c : CxL cells σ H zs at_ v u nA bA fM cM) (k : FlyOf CN CT CL zs v H E 3) : tl K CN CT CL cells 3 E σ H Q := by
  obtain ⟨z0, z1, z2, z3, z4, z5, z6, z7, z8, z9, rfl⟩ := ten c.len
  obtain ⟨n, e, fly⟩ := k
  obtain rfl : z4 = n := Option.some.inj e
  refine ⟨fM, cM, c.h5, c.hf, _, c.h2, 5, rfl, nA, _, rfl, .of c.hn, fun p hp => ⟨_, c.h2, 4, rfl, 9, rfl, nA, _, rfl, .of ((same_upd hp) _ _ c.hn), fun p' hp' => ?_⟩⟩
  have s1 := same_upd (o := .lst ([z0, z1, z2, z3, z4].map V.str)) hp
  have s2 := same_upd (o := .lst ([z4, z5, z6, z7, z8].map V.str)) hp'
  have sA := s1.trans s2
  have nd5 : [z0, z1, z2, z3, z4].Nodup := c.nd.sublist (show [z0, z1, z2, z3, z4].Sublist [z0, z1, z2, z3, z4, z5, z6, z7, z8, z9] from List.take_sublist 5 [z0, z1, z2, z3, z4, z5, z6, z7, z8, z9])
  have ndd : [z4, z5, z6, z7, z8].Nodup := c.nd.sublist (show [z4, z5, z6, z7, z8].Sublist [z0, z1, z2, z3, z4, z5, z6, z7, z8, z9] from (List.take_sublist 5 _).trans (List.drop_sublist 4 [z0, z1, z2, z3, z4, z5, z6, z7, z8, z9]))
  refine fin c (xs := [z0, z1, z2, z3, z4].map V.str) (os := [z4, z5, z6, z7, z8].map OKy.str) sA (s2 _ _ upd_same) upd_same ?_ (fun o m => by obtain ⟨z, _, rfl⟩ := List.mem_map.mp m; rfl) (by simp) (by simp) (.inr ⟨[z4, z5, z6, z7, z8], rfl, .inl ⟨[z0, z1, z2, z3, z4], [z5, z6, z7, z8], z4, rfl, fun z m => by simp at m; rcases m with rfl | rfl | rfl | rfl | rfl | rfl | rfl | rfl | rfl | rfl <;> exact c.nm _ (by simp), nd5, by simp, Fly.same fly sA⟩⟩)
  unfold List.Nodup at ndd ⊢
  rw [List.pairwise_map]
  exact ndd.imp fun h e => h (OKy.str.inj e)
theorem lr4 (c : CxL cells σ H zs at_ v u nA bA fM cM) (k : FlyOf CN CT CL zs v H E 4) : tl K CN CT CL cells 4 E σ H Q := by
  obtain ⟨z0, z1, z2, z3, z4, z5, z6, z7, z8, z9, rfl⟩ := ten c.len
  refine ⟨fM, cM, c.h5, c.hf, _, c.h2, 5, rfl, nA, _, rfl, .of c.hn, fun p hp => ⟨_, c.h2, 5, rfl, 10, rfl, nA, _, rfl, .of ((same_upd hp) _ _ c.hn), fun p' hp' => ?_⟩⟩
  have s1 := same_upd (o := .lst ([z0, z1, z2, z3, z4].map V.str)) hp
  have s2 := same_upd (o := .lst ([z5, z6, z7, z8, z9].map V.str)) hp'
  have sA := s1.trans s2
  have ndd : [z5, z6, z7, z8, z9].Nodup := c.nd.sublist (show [z5, z6, z7, z8, z9].Sublist [z0, z1, z2, z3, z4, z5, z6, z7, z8, z9] from List.drop_sublist 5 [z0, z1, z2, z3, z4, z5, z6, z7, z8, z9])
  refine fin c (xs := [z0, z1, z2, z3, z4].map V.str) (os := [z5, z6, z7, z8, z9].map OKy.str) sA (s2 _ _ upd_same) upd_same ?_ (fun o m => by obtain ⟨z, _, rfl⟩ := List.mem_map.mp m; rfl) (by simp) (by simp) (.inr ⟨[z5, z6, z7, z8, z9], rfl, .inr ⟨_, rfl, c.nd, c.nm, .inl ⟨by simp, Fly.same k sA⟩⟩⟩)
  unfold List.Nodup at ndd ⊢
  rw [List.pairwise_map]
  exact ndd.imp fun h e => h (OKy.str.inj e)
theorem lr5 (c : CxL cells σ H zs at_ v u nA bA fM cM) (k : FlyOf CN CT CL zs v H E 5) : tl K CN CT CL cells 5 E σ H Q := by
  obtain ⟨z0, z1, z2, z3, z4, z5, z6, z7, z8, z9, rfl⟩ := ten c.len
  refine ⟨fM, cM, c.h5, c.hf, _, c.h2, 4, rfl, nA, _, rfl, .of c.hn, fun p hp => ⟨_, c.h2, 5, rfl, 10, rfl, nA, _, rfl, .of ((same_upd hp) _ _ c.hn), fun p' hp' => ?_⟩⟩
  have s1 := same_upd (o := .lst ([z0, z1, z2, z3].map V.str)) hp
  have s2 := same_upd (o := .lst ([z5, z6, z7, z8, z9].map V.str)) hp'
  have sA := s1.trans s2
  have ndd : [z5, z6, z7, z8, z9].Nodup := c.nd.sublist (show [z5, z6, z7, z8, z9].Sublist [z0, z1, z2, z3, z4, z5, z6, z7, z8, z9] from List.drop_sublist 5 [z0, z1, z2, z3, z4, z5, z6, z7, z8, z9])
  have sub : [z0, z1, z2, z3, z5, z6, z7, z8, z9].Sublist [z0, z1, z2, z3, z4, z5, z6, z7, z8, z9] := ((((List.Sublist.refl _).cons z4).cons₂ z3).cons₂ z2).cons₂ z1 |>.cons₂ z0
  refine fin c (xs := [z0, z1, z2, z3].map V.str) (os := [z5, z6, z7, z8, z9].map OKy.str) sA (s2 _ _ upd_same) upd_same ?_ (fun o m => by obtain ⟨z, _, rfl⟩ := List.mem_map.mp m; rfl) (by simp) (by simp) (.inr ⟨[z5, z6, z7, z8, z9], rfl, .inr ⟨[z0, z1, z2, z3, z5, z6, z7, z8, z9], rfl, c.nd.sublist sub, fun z m => c.nm z (sub.mem m), .inr ⟨by simp, by simp, Fly.same k sA⟩⟩⟩)
  unfold List.Nodup at ndd ⊢
  rw [List.pairwise_map]
  exact ndd.imp fun h e => h (OKy.str.inj e)
theorem lr6 (c : CxL cells σ H zs at_ v u nA bA fM cM) (k : FlyOf CN CT CL zs v H E 6) : tl K CN CT CL cells 6 E σ H Q := by
  obtain ⟨z0, z1, z2, z3, z4, z5, z6, z7, z8, z9, rfl⟩ := ten c.len
  refine ⟨fM, cM, c.h5, c.hf, _, c.h2, 2, rfl, nA, _, rfl, .of c.hn, fun p hp => ⟨_, c.h2, 1, rfl, 2, rfl, nA, _, rfl, .of ((same_upd hp) _ _ c.hn), fun p' hp' => ⟨_, c.h3, (by show 1 ≤ sizeLine; decide), fun p3 hp3 => ?_⟩⟩⟩
  have s1 := same_upd (o := .lst ([z0, z1].map V.str)) hp
  have s2 := same_upd (o := .lst [V.str z1]) hp'
  have s3 := same_upd (o := .lst [v]) hp3
  refine ⟨p', p3, [V.str z1], [v], rfl, rfl, s3 _ _ upd_same, upd_same, (by show 2 ≤ sizeLine; decide), fun p4 hp4 => ?_⟩
  have s4 := same_upd (o := .lst ([V.str z1] ++ [v])) hp4
  have sA := ((s1.trans s2).trans s3).trans s4
  obtain ⟨o, rfl, go, no⟩ := c.wr.key
  have n0 := c.nm z0 (by simp)
  have n1 := c.nm z1 (by simp)
  have q1 := no z1 n1
  exact fin c (xs := [z0, z1].map V.str) (os := [.str z1, o]) sA (s4 _ _ (s3 _ _ (s2 _ _ upd_same))) upd_same (by simp [q1.symm]) (fun x m => by simp at m; rcases m with rfl | rfl <;> first | exact go | rfl) (by simp) (by simp) (.inl ⟨[z0, z1, z1], okV o, [], rfl, fun z m => by simp at m; rcases m with rfl | rfl | rfl <;> assumption, c.wr, Fly.same k sA⟩)
end
end K09

set_option Elab.async false
set_option linter.all false
set_option maxRecDepth 100000
set_option maxHeartbeats 1000000
set_option pp.maxSteps 500
namespace K09
open PySem PySem.Spec PyProof.Rows L2 Ux ClX NdefX
abbrev pU : List Str := ["self", "arity", "mirror", "centre", "degree", "swap"]
abbrev kwU : List (Str × V) := [("mirror", .non), ("centre", .int 0), ("degree", .non), ("swap", .non)]
theorem u_binds1 {K : PySem.W.Frag} {f : Addr} {fd : FuncData} (F : FunD K "__init__" "Unseen.__init__" (defArgs sUInit) (defBody sUInit) (defScope sUInit) [.int 1] kwU f fd) : ∃ ds, Vals [V.non, .int 0, .non, .non] ds ∧ Binds K fd pU ds :=
  F.binds 2 1 (by simp) rfl (fun T D doc pm an cdv ct us its ks h1 h2 h3 => match us, its, ks, h1, h2, h3 with | [_, _], [_], [_, _, _, _], _, _, _ => ⟨_, rfl, _, _, _, _, _, _, rfl, rfl, _, _, _, _, _, _, rfl, rfl, _, _, _, _, _, _, rfl, rfl, _, _, _, _, _, _, rfl, rfl, rfl⟩) (by simp)
def φN (ar : Int) : FT := FT.mk ar none 0 1 none none
theorem φ1_ok : FOk (φN 1) := ⟨by decide, by decide, by decide, by decide, .inr ⟨rfl, rfl, .inl rfl, .inl rfl⟩, fun _ => ⟨rfl, rfl⟩⟩
theorem φ2_ok : FOk (φN 2) := ⟨by decide, by decide, by decide, by decide, .inl ⟨rfl, rfl, rfl, .inl rfl⟩, fun _ => ⟨rfl, rfl⟩⟩
abbrev dU : List V := [.non, .int 0, .non, .non]
/-- Unseen(n) is made -/
theorem uns_made {CR CU : Addr} {n : Int} {H : Hp} {Q : VK} {σ : L2.St} (ok : FOk (φN n)) (h : ∀ x H', UnsAt CR CU H' x (φN n) → Same H H' → Q (.ref x) H') : tMake CU (spUInit CR CU) dU E0 (tCons (tC (.int n)) tNil) σ H Q := by
  intro x dx nx nd ne
  exact ⟨x, dx, φN n, .int 0, rfl, upd_same, ok, .inr ⟨rfl, rfl⟩, fun H' ua bu => ⟨rfl, h x H' ua (made_same nx nd bu)⟩⟩
def askE (i : Nat) : Expr := List.getD asks i (Expr.Constant .none 0 ⟨0, 0, 0, 0⟩)
def ta0 (K : PySem.W.Frag) (CR CU CW CK : Addr) (E : XK) : TE := tMeth CW "fact" (spWFactX K CR CU CW CK) [] E (tVar 13) (tCons (tVar 14) tNil)
def ta1 (K : PySem.W.Frag) (CR CU CW CK CF : Addr) (E : XK) : TE := tMeth CW "with_fact" (spWWithX K CR CU CW CK CF) [] E (tVar 13) (tCons (tVar 14) (tCons (tMake CU (spUInit CR CU) dU E0 (tCons (tC (.int 2)) tNil)) tNil))
def ta2 (K : PySem.W.Frag) (CR CU CW CK CF : Addr) (E : XK) : TE := tMeth CW "with_fact" (spWWithX K CR CU CW CK CF) [] E (tVar 13) (tCons (tOp (rIxL K) (tVar 2) (tC (.int 5))) (tCons (tMake CU (spUInit CR CU) dU E0 (tCons (tC (.int 2)) tNil)) tNil))
def e0 (K : PySem.W.Frag) (CR CU CW CK CF : Addr) : LamD := ⟨ePa (askE 0), eBo (askE 0), eSc (askE 0), ta0 K CR CU CW CK⟩
def e1 (K : PySem.W.Frag) (CR CU CW CK CF : Addr) : LamE := ⟨ePa (askE 1), eBo (askE 1), eSc (askE 1), ta1 K CR CU CW CK CF, "_law_a", .int 0⟩
def e2 (K : PySem.W.Frag) (CR CU CW CK CF : Addr) : LamE := ⟨ePa (askE 2), eBo (askE 2), eSc (askE 2), ta2 K CR CU CW CK CF, "_law_b", .int 0⟩
theorem sc1 : lamSEB nLaw (defScope sLaw) (eSc (askE 1)) "_law_a" = true := by decide +kernel
theorem sc2 : lamSEB nLaw (defScope sLaw) (eSc (askE 2)) "_law_b" = true := by decide +kernel
structure AskH (X : Cx) (CR CU CW CK CF fF fH fU : Addr) (fdF fdH fdU : FuncData) (dsU : List Value) : Prop where
  N : X.N = nLaw
  sc : X.env.scope = defScope sLaw
  cW : Cls X.K CW
  MF : Meth X.K CW "fact" fF
  GF : FnOk X.prog X.w X.K X.mg X.base (L2.CX X.prog X.w) 4 fF fdF ["self", "name"] (spWFactX X.K CR CU CW CK)
  bF : Binds X.K fdF ["self", "name"] []
  MH : Meth X.K CW "with_fact" fH
  GH : FnOk X.prog X.w X.K X.mg X.base (L2.CX X.prog X.w) 6 fH fdH ["self", "name", "fact"] (spWWithX X.K CR CU CW CK CF)
  bH : Binds X.K fdH ["self", "name", "fact"] []
  gU : X.mg "Unseen" = some (.ref CU)
  MU : Mk X.K CU fU
  GU : FnOk X.prog X.w X.K X.mg X.base CX0 7 fU fdU pU (spUInit CR CU)
  bU : Binds X.K fdU pU dsU
  vU : Vals dU dsU
section
variable {X : Cx} {CR CU CW CK CF fF fH fU : Addr} {fdF fdH fdU : FuncData} {dsU : List Value}
theorem ao0 (h : AskH X CR CU CW CK CF fF fH fU fdF fdH fdU dsU) : LamOk X 8 (e0 X.K CR CU CW CK CF) := by
  obtain ⟨hN, hsc, cW, MF, GF, bF, MH, GH, bH, gU, MU, GU, bU, vU⟩ := h
  refine ⟨LamX.lamS_by (by rw [hsc]; rfl), fun _ _ _ _ _ => rfl, fun A outer s H E f c hr => ?_⟩
  exact pe_meth (X := LamX.lamCx X A outer s H E (eSc (askE 0)) f c) (E := E) (pv2 (i := 13) hN rfl (.inr (.inr rfl))) cW MF GF (hr.mono (by decide)) bF .nil (passes_call (takes_of rfl rfl rfl rfl) fun _ _ _ _ z => z) (pa_cons (pv2 (i := 14) hN rfl (.inr (.inr rfl))) pa_nil)
theorem ao1 (h : AskH X CR CU CW CK CF fF fH fU fdF fdH fdU dsU) : LamOkE X 8 (e1 X.K CR CU CW CK CF) := by
  obtain ⟨hN, hsc, cW, MF, GF, bF, MH, GH, bH, gU, MU, GU, bU, vU⟩ := h
  refine ⟨lamSE_by (by rw [hsc, hN]; exact sc1), fun _ _ _ _ _ _ _ => ⟨_, rfl, rfl⟩, fun A outer s H E f c hr => ?_⟩
  exact pe_meth (X := LamX.lamCx X A outer s H E (eSc (askE 1)) f c) (E := E) (pv2 (i := 13) hN rfl (.inr (.inr rfl))) cW MH GH (hr.mono (by decide)) bH .nil (passes_call (takes_of rfl rfl rfl rfl) fun _ _ _ _ z => z) (pa_cons (pv2 (i := 14) hN rfl (.inr (.inr rfl))) (pa_cons (pe_make MU GU hr (by rfl) gU bU vU pass0 (pa_cons pe_int pa_nil)) pa_nil))
theorem ao2 (h : AskH X CR CU CW CK CF fF fH fU fdF fdH fdU dsU) : LamOkE X 8 (e2 X.K CR CU CW CK CF) := by
  obtain ⟨hN, hsc, cW, MF, GF, bF, MH, GH, bH, gU, MU, GU, bU, vU⟩ := h
  refine ⟨lamSE_by (by rw [hsc, hN]; exact sc2), fun _ _ _ _ _ _ _ => ⟨_, rfl, rfl⟩, fun A outer s H E f c hr => ?_⟩
  exact pe_meth (X := LamX.lamCx X A outer s H E (eSc (askE 2)) f c) (E := E) (pv2 (i := 13) hN rfl (.inr (.inr rfl))) cW MH GH (hr.mono (by decide)) bH .nil (passes_call (takes_of rfl rfl rfl rfl) fun _ _ _ _ z => z) (pa_cons (pe_ix ix_list (pv2 (i := 2) hN rfl (.inr (.inr rfl))) pe_int (fun _ _ => rfl)) (pa_cons (pe_make MU GU hr (by rfl) gU bU vU pass0 (pa_cons pe_int pa_nil)) pa_nil))
end
/-- what far may be -/
def FarV (H : Hp) (v : V) (ns : List Str) : Prop := Wrong v ∨ (∃ z, v = .str z ∧ nameB z = true ∧ z ∉ ns) ∨ ∃ l, v = .ref l ∧ H l = some (.lst [.str "x"])
theorem FarV.same {H H' : Hp} {v : V} {ns : List Str} (h : FarV H v ns) (s : Same H H') : FarV H' v ns := by
  rcases h with h | h | ⟨l, e, h⟩
  · exact .inl h
  · exact .inr (.inl h)
  · exact .inr (.inr ⟨l, e, s _ _ h⟩)
theorem FarV.adm {H : Hp} {v : V} {ns : List Str} (h : FarV H v ns) : Adm H v := by
  rcases h with h | ⟨z, rfl, h, _⟩ | ⟨l, rfl, h⟩
  · exact h.adm H
  · exact name_adm h H
  · exact .lst h
theorem FarV.strange {K : PySem.W.Frag} {H : Hp} {v : V} {ns : List Str} (nn : ∀ n ∈ ns, nameB n = true) (h : FarV H v ns) : Strange K H v ns := by
  rcases h with h | ⟨z, rfl, _, h⟩ | ⟨l, rfl, h⟩
  · cases h with
    | non => exact .inr ⟨_, .base .non, kit_ty (by decide +kernel)⟩
    | yes => exact .inr ⟨_, .base (.bl _), kit_ty (by decide +kernel)⟩
    | int => exact .inr ⟨_, .base (.int _), kit_ty (by decide +kernel)⟩
    | @str z h _ _ => exact .inl ⟨z, rfl, fun m => by
        have := nn z m
        rw [h] at this
        cases this⟩
  · exact .inl ⟨z, rfl, h⟩
  · exact .inr ⟨_, .base (.lst h), kit_ty (by decide +kernel)⟩
/-- what the law has at its last lambdas -/
structure CxA (CR CU CW : Addr) (σ : L2.St) (H : Hp) (W nA : Addr) (zs ins ns nm : List Str) (v : V) : Prop where
  h2 : σ[2]? = some (some (.ref nA))
  h13 : σ[13]? = some (some (.ref W))
  h14 : σ[14]? = some (some v)
  hn : H nA = some (.lst (zs.map V.str))
  wa : WorldAt CR CU CW H W ins ns (fun _ => φN 1) nm
  far : FarV H v ns
  z5 : ∃ n, zs[5]? = some n ∧ n ∈ ns
theorem w_attr {CR CU CW : Addr} {H : Hp} {W : Addr} {ins ns nm : List Str} {g : Str → FT} (wa : WorldAt CR CU CW H W ins ns g nm) (m : Str) (h1 : decide (m = "text") = false := by decide +kernel) (h2 : decide (m = "_names") = false := by decide +kernel) (h3 : decide (m = "_facts") = false := by decide +kernel) (h4 : decide (m = "_inputs") = false := by decide +kernel) : ∃ dx fs, H W = some (.ins CW dx fs) ∧ fs.lookup m = none := by
  obtain ⟨dx, li, df, ln, u, ha, _⟩ := wa
  refine ⟨dx, _, ha, ?_⟩
  unfold w4 w3 w2 w1
  rw [lookup_putF, if_neg (neq _ _ h1), lookup_putF, if_neg (neq _ _ h2), lookup_putF, if_neg (neq _ _ h3), lookup_putF, if_neg (neq _ _ h4)]
  rfl
section
variable {K : PySem.W.Frag} {CR CU CW CK CF : Addr} {σ : L2.St} {H : Hp} {Q : VK} {E : XK} {W nA : Addr} {zs ins ns nm : List Str} {v : V}
theorem ar0 (c : CxA CR CU CW σ H W nA zs ins ns nm v) (k : Fly CK (fs_UnknownName v) H E) : ta0 K CR CU CW CK E σ H Q := by
  obtain ⟨dx, fs, ha, hno⟩ := w_attr c.wa "fact"
  obtain ⟨_, _, _, _, _, _, _, _, _, _, wi, _⟩ := id c.wa
  exact ⟨_, c.h13, W, dx, fs, rfl, ha, hno, _, c.h14, W, ins, ns, _, nm, v, rfl, c.wa, c.far.adm, c.far.strange wi.nn.2, k⟩
theorem ar1 (c : CxA CR CU CW σ H W nA zs ins ns nm v) (k : Fly CK (fs_UnknownName v) H E) : ta1 K CR CU CW CK CF E σ H Q := by
  obtain ⟨dx, fs, ha, hno⟩ := w_attr c.wa "with_fact"
  obtain ⟨_, _, _, _, _, _, _, _, _, _, wi, _⟩ := id c.wa
  exact ⟨_, c.h13, W, dx, fs, rfl, ha, hno, _, c.h14, uns_made φ2_ok fun x H' ux s => ⟨W, ins, ns, _, nm, v, x, φN 2, rfl, c.wa.same s, ux, .inl ⟨(c.far.same s).adm, (c.far.same s).strange wi.nn.2, k.same s⟩⟩⟩
theorem ar2 (c : CxA CR CU CW σ H W nA zs ins ns nm v) (k : Fly CF (fs_InvalidFact (.str "arity")) H E) : ta2 K CR CU CW CK CF E σ H Q := by
  obtain ⟨dx, fs, ha, hno⟩ := w_attr c.wa "with_fact"
  obtain ⟨n, hz, m⟩ := c.z5
  have at5 : atI (zs.map V.str) 5 = some (V.str n) := atI_nat (j := 5) (by rw [List.getElem?_map, hz]; rfl)
  exact ⟨_, c.h13, W, dx, fs, rfl, ha, hno, _, c.h2, nA, _, 5, _, rfl, rfl, .of c.hn, at5, uns_made φ2_ok fun x H' ux s => ⟨W, ins, ns, _, nm, .str n, x, φN 2, rfl, c.wa.same s, ux, .inr ⟨n, rfl, m, by decide, k.same s⟩⟩⟩
end
end K09

set_option Elab.async false
set_option linter.all false
set_option maxRecDepth 100000
set_option maxHeartbeats 1000000
set_option pp.maxSteps 500
namespace K09
open PySem PySem.Spec PyProof.Rows L2 Ux ClX NdefX
/-! ### a list of triples of a lambda, a text and a value -/
def tTrips (T : List NTab) (cl : List (Str × Addr)) (q : Str) : List (LamD × Str × TE) → TA
  | [] => tNil
  | (d, w, te) :: r => tCons (tTup (tCons (tLamVN T cl q d) (tCons (tC (.str w)) (tCons te tNil)))) (tTrips T cl q r)
def Trs (cl : List (Str × Addr)) (q : Str) (H : Hp) : (Nat → V → Hp → Prop) → List Addr → List (LamD × Str × TE) → Prop
  | _, [], [] => True
  | P, t :: ts, (d, w, _) :: r => (∃ (f c' : Addr) (x : V), H t = some (.tup [.ref f, .str w, x]) ∧ LamAt cl q H d f c' ∧ P 0 x H) ∧ Trs cl q H (fun i => P (i + 1)) ts r
  | _, _, _ => False
theorem Trs.kp {cl : List (Str × Addr)} {q : Str} {H H' : Hp} (k : Kp H H') : ∀ {P : Nat → V → Hp → Prop} {ts : List Addr} {ds : List (LamD × Str × TE)}, (∀ i x, P i x H → P i x H') → Trs cl q H P ts ds → Trs cl q H' P ts ds
  | _, [], [], _, _ => True.intro
  | P, t :: ts, (d, w, te) :: r, hp, h => by
    obtain ⟨⟨f, c', x, h1, h2, h3⟩, h4⟩ := h
    exact ⟨⟨f, c', x, k.tup _ _ h1, h2.kp k, hp _ _ h3⟩, Trs.kp k (fun i x => hp (i + 1) x) h4⟩
  | _, [], _ :: _, _, h => h.elim
  | _, _ :: _, [], _, h => h.elim
theorem Trs.at {cl : List (Str × Addr)} {q : Str} {H : Hp} : ∀ {P : Nat → V → Hp → Prop} {ts : List Addr} {ds : List (LamD × Str × TE)}, Trs cl q H P ts ds → ts.length = ds.length ∧ ∀ (i : Nat) (d : LamD) (w : Str) (te : TE), ds[i]? = some (d, w, te) → ∃ (t f c' : Addr) (x : V), ts[i]? = some t ∧ H t = some (.tup [.ref f, .str w, x]) ∧ LamAt cl q H d f c' ∧ P i x H
  | _, [], [], _ => ⟨rfl, fun i d w te e => by cases e⟩
  | P, t :: ts, (d, w, te) :: r, h => by
    obtain ⟨⟨f, c', x, h1, h2, h3⟩, h4⟩ := h
    have z := h4.at
    refine ⟨by simp [z.1], fun i d' w' te' e => ?_⟩
    cases i with
    | zero =>
      cases e
      exact ⟨t, f, c', x, rfl, h1, h2, h3⟩
    | succ j => exact z.2 j d' w' te' e
  | _, [], _ :: _, h => h.elim
  | _, _ :: _, [], h => h.elim
theorem trips_of {T : List NTab} {cl : List (Str × Addr)} {q : Str} {σ : L2.St} : ∀ (ds : List (LamD × Str × TE)) {P : Nat → V → Hp → Prop} {H : Hp} {Q : List V → Hp → Prop}, TabsN T H → (∀ i x A B, P i x A → LamX.ExtN A B → P i x B) →
    (∀ i d w te, ds[i]? = some (d, w, te) → ∀ (H1 : Hp) (Q1 : VK), LamX.ExtN H H1 → (∀ x H2, Same H1 H2 → P i x H2 → Q1 x H2) → te σ H1 Q1) →
    (∀ (H1 : Hp) (ts : List Addr), LamX.ExtN H H1 → TabsN T H1 → Trs cl q H1 P ts ds → Q (ts.map V.ref) H1) → tTrips T cl q ds σ H Q
  | [], P, H, Q, hT, _, _, h => h H [] (LamX.ExtN.refl H) hT True.intro
  | (d, w, te) :: r, P, H, Q, hT, hP, hte, h => by
    refine ⟨hT, fun H1 f c' e1 T1 la => hte 0 d w te rfl H1 _ e1 fun x H2 s2 p2 => ⟨(by show 3 ≤ sizeLine; decide), fun t nt => ?_⟩⟩
    have sm : ∀ b o, H2 b = some o → (upd H2 t (.tup [.ref f, .str w, x])) b = some o := fun b o e => (upd_ne (ne_of_none e nt)).trans e
    have s3 : ∀ b o, H1 b = some o → (upd H2 t (.tup [.ref f, .str w, x])) b = some o := fun b o e => sm _ _ (s2 _ _ e)
    refine trips_of r (P := fun i => P (i + 1)) (T1.ext s3) (fun i => hP (i + 1)) (fun i d' w' te' e H4 Q1 e4 => hte (i + 1) d' w' te' e H4 Q1 (e1.trans ((LamX.ExtN.of s3).trans e4))) fun H3 ts e3 T3 pr => ?_
    exact h H3 (t :: ts) (e1.trans ((LamX.ExtN.of s3).trans e3)) T3 ⟨⟨f, c', x, e3 _ _ upd_same (fun _ z => by cases z), (la.kp (Kp.of s3)).kp (Kp.ofN e3), hP _ _ _ _ (hP _ _ _ _ p2 (LamX.ExtN.of sm)) e3⟩, pr⟩
/-- the field of each call, as an expression -/
def fldT (K : PySem.W.Frag) : Nat → TE
  | 2 => tOp (rIxL K) (tVar 2) (tC (.int 2))
  | 3 => tOp (rIxL K) (tVar 2) (tC (.int 4))
  | 4 => tTup (tCons (tC (.str "inputs")) (tCons (tC (.int 4)) tNil))
  | 5 => tTup (tCons (tC (.str "functions")) (tCons (tC (.int 4)) tNil))
  | _ => tVar 3
def code : Nat → Str
  | 2 => "NameTaken"
  | 3 => "NameTaken"
  | 4 => "TooLarge"
  | 5 => "TooLarge"
  | _ => "InvalidName"
def dsT (K : PySem.W.Frag) (CN CT CL : Addr) (cells : List (Str × Addr)) : List (LamD × Str × TE) := (List.range 7).map fun i => (dL K CN CT CL cells i, code i, fldT K i)
/-- .. as a value -/
def FldV (zs : List Str) (v : V) : Nat → V → Hp → Prop
  | 2, x, _ => ∃ n, zs[2]? = some n ∧ x = .str n
  | 3, x, _ => ∃ n, zs[4]? = some n ∧ x = .str n
  | 4, x, H => ∃ p, x = .ref p ∧ H p = some (.tup [.str "inputs", .int 4])
  | 5, x, H => ∃ p, x = .ref p ∧ H p = some (.tup [.str "functions", .int 4])
  | _, x, _ => x = v
theorem FldV.kp {zs : List Str} {v : V} {H H' : Hp} (k : Kp H H') : ∀ i x, FldV zs v i x H → FldV zs v i x H' := fun i x h => by
  match i, h with
  | 0, h => exact h
  | 1, h => exact h
  | 2, h => exact h
  | 3, h => exact h
  | 4, ⟨p, e, h⟩ => exact ⟨p, e, k.tup _ _ h⟩
  | 5, ⟨p, e, h⟩ => exact ⟨p, e, k.tup _ _ h⟩
  | n + 6, h => exact h
structure CBox (K : PySem.W.Frag) (CN CT CL PT : Addr) (cells : List (Str × Addr)) (σ : L2.St) (H : Hp) (Q : List V → Hp → Prop) : Prop where
  out : tTrips [(PT, nmL)] cells qn (dsT K CN CT CL cells) σ H Q
theorem pa_cbox {X : Cx} {CN CT CL c PT f hs : Addr} (TB : LamX.TabB X.base X.mg c PT) (hN : X.N = nLaw) (he : X.env = envOfC "law" (defScope sLaw) hs f (.ref c)) : PA X calls (CBox X.K CN CT CL PT X.env.cells) := by
  have hcode : X.env.code = .ref c := by rw [he]; rfl
  have eq : X.env.qual ++ "<lambda>" = qn := by rw [he]; rfl
  have hm : (PT, nmL) ∈ [(PT, nmL)] := List.mem_singleton.mpr rfl
  have hu : ∀ p ∈ [(PT, nmL)], p.1 = PT → p.2 = nmL := fun p hp _ => congrArg Prod.snd (List.mem_singleton.mp hp)
  have v2 : Vis X.env.scope "_law_names_here" := by rw [he]; exact .inr (.inl rfl)
  have v3 : Vis X.env.scope "_law_odd" := by rw [he]; exact .inr (.inl rfl)
  have z : PA X calls (tTrips [(PT, nmL)] X.env.cells (X.env.qual ++ "<lambda>") (dsT X.K CN CT CL X.env.cells)) := by
    refine pa_cons (pe_tup (pa_cons (pe_lamVN (tl X.K CN CT CL X.env.cells 0) TB hcode hm (by rw [eq]; rfl) hu (LamX.lamS_by (by rw [he]; rfl)) rfl) (pa_cons pe_str (pa_cons (pv2 (i := 3) hN rfl v3) pa_nil)))) ?_
    refine pa_cons (pe_tup (pa_cons (pe_lamVN (tl X.K CN CT CL X.env.cells 1) TB hcode hm (by rw [eq]; rfl) hu (LamX.lamS_by (by rw [he]; rfl)) rfl) (pa_cons pe_str (pa_cons (pv2 (i := 3) hN rfl v3) pa_nil)))) ?_
    refine pa_cons (pe_tup (pa_cons (pe_lamVN (tl X.K CN CT CL X.env.cells 2) TB hcode hm (by rw [eq]; rfl) hu (LamX.lamS_by (by rw [he]; rfl)) rfl) (pa_cons pe_str (pa_cons (pe_ix ix_list (pv2 (i := 2) hN rfl v2) pe_int (fun _ _ => rfl)) pa_nil)))) ?_
    refine pa_cons (pe_tup (pa_cons (pe_lamVN (tl X.K CN CT CL X.env.cells 3) TB hcode hm (by rw [eq]; rfl) hu (LamX.lamS_by (by rw [he]; rfl)) rfl) (pa_cons pe_str (pa_cons (pe_ix ix_list (pv2 (i := 2) hN rfl v2) pe_int (fun _ _ => rfl)) pa_nil)))) ?_
    refine pa_cons (pe_tup (pa_cons (pe_lamVN (tl X.K CN CT CL X.env.cells 4) TB hcode hm (by rw [eq]; rfl) hu (LamX.lamS_by (by rw [he]; rfl)) rfl) (pa_cons pe_str (pa_cons (pe_tup (pa_cons pe_str (pa_cons pe_int pa_nil))) pa_nil)))) ?_
    refine pa_cons (pe_tup (pa_cons (pe_lamVN (tl X.K CN CT CL X.env.cells 5) TB hcode hm (by rw [eq]; rfl) hu (LamX.lamS_by (by rw [he]; rfl)) rfl) (pa_cons pe_str (pa_cons (pe_tup (pa_cons pe_str (pa_cons pe_int pa_nil))) pa_nil)))) ?_
    refine pa_cons (pe_tup (pa_cons (pe_lamVN (tl X.K CN CT CL X.env.cells 6) TB hcode hm (by rw [eq]; rfl) hu (LamX.lamS_by (by rw [he]; rfl)) rfl) (pa_cons pe_str (pa_cons (pv2 (i := 3) hN rfl v3) pa_nil)))) ?_
    exact pa_nil
  rw [eq] at z
  exact ⟨fun pos pins s σ H Q I h => z.run pos pins s σ H Q I h.out⟩
end K09

set_option Elab.async false
set_option linter.all false
set_option maxRecDepth 100000
set_option maxHeartbeats 1000000
set_option pp.maxSteps 500
namespace K09
open PySem PySem.Spec PyProof.Rows L2 Ux ClX NdefX
theorem cbox_of {K : PySem.W.Frag} {CN CT CL PT : Addr} {cells : List (Str × Addr)} {σ : L2.St} {H : Hp} {Q : List V → Hp → Prop} {zs : List Str} {v : V} {nA : Addr} (hT : TabsN [(PT, nmL)] H) (h2 : σ[2]? = some (some (.ref nA))) (h3 : σ[3]? = some (some v)) (hn : H nA = some (.lst (zs.map V.str))) (len : zs.length = 10)
    (h : ∀ (H1 : Hp) (ts : List Addr), LamX.ExtN H H1 → TabsN [(PT, nmL)] H1 → Trs cells qn H1 (FldV zs v) ts (dsT K CN CT CL cells) → Q (ts.map V.ref) H1) : CBox K CN CT CL PT cells σ H Q := by
  refine ⟨trips_of _ (P := FldV zs v) hT (fun i x A B p e => FldV.kp (Kp.ofN e) i x p) (fun i d w te hi H1 Q1 e1 q => ?_) h⟩
  have hn1 := e1 _ _ hn (fun ps z => by cases z)
  obtain ⟨z0, z1, z2, z3, z4, z5, z6, z7, z8, z9, rfl⟩ := ten len
  match i, hi with
  | 0, hi => cases hi; exact ⟨v, h3, q v H1 (Same.refl _) rfl⟩
  | 1, hi => cases hi; exact ⟨v, h3, q v H1 (Same.refl _) rfl⟩
  | 2, hi => cases hi; exact ⟨_, h2, nA, _, 2, _, rfl, rfl, .of hn1, rfl, q (.str z2) H1 (Same.refl _) ⟨z2, rfl, rfl⟩⟩
  | 3, hi => cases hi; exact ⟨_, h2, nA, _, 4, _, rfl, rfl, .of hn1, rfl, q (.str z4) H1 (Same.refl _) ⟨z4, rfl, rfl⟩⟩
  | 4, hi => cases hi; exact ⟨(by show 2 ≤ sizeLine; decide), fun p hp => q _ _ (same_upd hp) ⟨p, rfl, upd_same⟩⟩
  | 5, hi => cases hi; exact ⟨(by show 2 ≤ sizeLine; decide), fun p hp => q _ _ (same_upd hp) ⟨p, rfl, upd_same⟩⟩
  | 6, hi => cases hi; exact ⟨v, h3, q v H1 (Same.refl _) rfl⟩
/-! ### the last three -/
structure Asks (K : PySem.W.Frag) (CR CU CW CK CF : Addr) (cl : List (Str × Addr)) (H : Hp) (f0 f1 f2 : Addr) : Prop where
  a0 : ∃ c', LamAt cl qn H (e0 K CR CU CW CK CF) f0 c'
  a1 : ∃ c' T, LamAtE cl qn H (e1 K CR CU CW CK CF) f1 c' T
  a2 : ∃ c' T, LamAtE cl qn H (e2 K CR CU CW CK CF) f2 c' T
theorem Asks.kp {K : PySem.W.Frag} {CR CU CW CK CF : Addr} {cl : List (Str × Addr)} {H H' : Hp} {f0 f1 f2 : Addr} (a : Asks K CR CU CW CK CF cl H f0 f1 f2) (k : Kp H H') : Asks K CR CU CW CK CF cl H' f0 f1 f2 :=
  ⟨let ⟨c, h⟩ := a.a0; ⟨c, h.kp k⟩, let ⟨c, T, h⟩ := a.a1; ⟨c, T, h.kp k⟩, let ⟨c, T, h⟩ := a.a2; ⟨c, T, h.kp k⟩⟩
structure ABox (K : PySem.W.Frag) (PT : Addr) (cl : List (Str × Addr)) (CR CU CW CK CF : Addr) (σ : L2.St) (H : Hp) (Q : List V → Hp → Prop) : Prop where
  out : tCons (tLamVN [(PT, nmL)] cl qn (e0 K CR CU CW CK CF)) (tCons (tLamVEN [(PT, nmL)] cl qn (e1 K CR CU CW CK CF)) (tCons (tLamVEN [(PT, nmL)] cl qn (e2 K CR CU CW CK CF)) tNil)) σ H Q
theorem abox_of {K : PySem.W.Frag} {PT : Addr} {cl : List (Str × Addr)} {CR CU CW CK CF : Addr} {σ : L2.St} {H : Hp} {Q : List V → Hp → Prop} (hT : TabsN [(PT, nmL)] H)
    (h : ∀ (H1 : Hp) (f0 f1 f2 : Addr), LamX.ExtN H H1 → TabsN [(PT, nmL)] H1 → Asks K CR CU CW CK CF cl H1 f0 f1 f2 → Q [.ref f0, .ref f1, .ref f2] H1) : ABox K PT cl CR CU CW CK CF σ H Q :=
  ⟨⟨hT, fun H1 f0 c0 e1 T1 l0 => ⟨T1, fun H2 f1 c1 U1 e2 T2 l1 => ⟨T2, fun H3 f2 c2 U2 e3 T3 l2 => h H3 f0 f1 f2 (e1.trans (e2.trans e3)) T3 ⟨⟨c0, l0.kp ((Kp.ofN e2).trans (Kp.ofN e3))⟩, ⟨c1, U1, l1.kp (Kp.ofN e3)⟩, ⟨c2, U2, l2⟩⟩⟩⟩⟩⟩
theorem pa_abox {X : Cx} {CR CU CW CK CF c PT f hs : Addr} (TB : LamX.TabB X.base X.mg c PT) (hN : X.N = nLaw) (he : X.env = envOfC "law" (defScope sLaw) hs f (.ref c)) : PA X asks (ABox X.K PT X.env.cells CR CU CW CK CF) := by
  have hcode : X.env.code = .ref c := by rw [he]; rfl
  have eq : X.env.qual ++ "<lambda>" = qn := by rw [he]; rfl
  have hm : (PT, nmL) ∈ [(PT, nmL)] := List.mem_singleton.mpr rfl
  have hu : ∀ p ∈ [(PT, nmL)], p.1 = PT → p.2 = nmL := fun p hp _ => congrArg Prod.snd (List.mem_singleton.mp hp)
  have z : PA X asks (tCons (tLamVN [(PT, nmL)] X.env.cells (X.env.qual ++ "<lambda>") (e0 X.K CR CU CW CK CF)) (tCons (tLamVEN [(PT, nmL)] X.env.cells (X.env.qual ++ "<lambda>") (e1 X.K CR CU CW CK CF)) (tCons (tLamVEN [(PT, nmL)] X.env.cells (X.env.qual ++ "<lambda>") (e2 X.K CR CU CW CK CF)) tNil))) := by
    refine pa_cons (pe_lamVN (ta0 X.K CR CU CW CK) TB hcode hm (by rw [eq]; rfl) hu (LamX.lamS_by (by rw [he]; rfl)) rfl) ?_
    refine pa_cons (pe_lamVEN (ta1 X.K CR CU CW CK CF) "_law_a" TB hcode hm (by rw [eq]; rfl) hu (lamSE_by (by rw [he, hN]; exact sc1)) rfl rfl pe_int) ?_
    refine pa_cons (pe_lamVEN (ta2 X.K CR CU CW CK CF) "_law_b" TB hcode hm (by rw [eq]; rfl) hu (lamSE_by (by rw [he, hN]; exact sc2)) rfl rfl pe_int) ?_
    exact pa_nil
  rw [eq] at z
  exact ⟨fun pos pins s σ H Q I h => z.run pos pins s σ H Q I h.out⟩
/-! ### the errors, told -/
structure Ek (K : PySem.W.Frag) (C1 C2 C : Addr) : Prop where
  ex : PySem.W.exmAny K (.ref C) [.ref C1, .ref C2] = some true
  xf : XfC K C
  no : ∀ f ∈ fieldNames, PySem.W.findIn K (.ref C) f = some none
section
variable {K : PySem.W.Frag} {C1 C2 C : Addr} {H : Hp} {Q : VK} {v : V}
theorem told_InvalidName (T : Ek K C1 C2 C) (k : ∀ (t : Addr) (H' : Hp), H' t = some (.tup [.str "InvalidName", v]) → Same H H' → Q (.ref t) H') : Fly C (fs_InvalidName v) H (Told K C1 C2 Q) := fun d H' s hd => by
  refine ⟨C, d, fs_InvalidName v, "InvalidName", rfl, rfl, hd, T.ex, T.xf, T.no, rfl, ?_⟩
  have e1 : inV (.str "InvalidName") [.str "InvalidName", .str "InvalidNumber"] = true := by decide +kernel
  unfold fieldF
  rw [e1, if_pos rfl]
  exact ⟨v, rfl, fun t H2 ht s2 => k t H2 ht (s.trans s2)⟩
theorem told_NameTaken (T : Ek K C1 C2 C) (k : ∀ (t : Addr) (H' : Hp), H' t = some (.tup [.str "NameTaken", v]) → Same H H' → Q (.ref t) H') : Fly C (fs_NameTaken v) H (Told K C1 C2 Q) := fun d H' s hd => by
  refine ⟨C, d, fs_NameTaken v, "NameTaken", rfl, rfl, hd, T.ex, T.xf, T.no, rfl, ?_⟩
  have e1 : inV (.str "NameTaken") [.str "InvalidName", .str "InvalidNumber"] = false := by decide +kernel
  have e2 : inV (.str "NameTaken") [.str "InvalidText", .str "WrongKind", .str "InvalidBlank"] = false := by decide +kernel
  have e3 : inV (.str "NameTaken") [.str "NameTaken", .str "InvalidWitness", .str "UnknownName"] = true := by decide +kernel
  unfold fieldF
  rw [e1, e2, e3, if_neg Bool.false_ne_true, if_neg Bool.false_ne_true, if_pos rfl]
  exact ⟨v, rfl, fun t H2 ht s2 => k t H2 ht (s.trans s2)⟩
theorem told_UnknownName (T : Ek K C1 C2 C) (k : ∀ (t : Addr) (H' : Hp), H' t = some (.tup [.str "UnknownName", v]) → Same H H' → Q (.ref t) H') : Fly C (fs_UnknownName v) H (Told K C1 C2 Q) := fun d H' s hd => by
  refine ⟨C, d, fs_UnknownName v, "UnknownName", rfl, rfl, hd, T.ex, T.xf, T.no, rfl, ?_⟩
  have e1 : inV (.str "UnknownName") [.str "InvalidName", .str "InvalidNumber"] = false := by decide +kernel
  have e2 : inV (.str "UnknownName") [.str "InvalidText", .str "WrongKind", .str "InvalidBlank"] = false := by decide +kernel
  have e3 : inV (.str "UnknownName") [.str "NameTaken", .str "InvalidWitness", .str "UnknownName"] = true := by decide +kernel
  unfold fieldF
  rw [e1, e2, e3, if_neg Bool.false_ne_true, if_neg Bool.false_ne_true, if_pos rfl]
  exact ⟨v, rfl, fun t H2 ht s2 => k t H2 ht (s.trans s2)⟩
theorem told_TooLarge {u : V} (T : Ek K C1 C2 C) (k : ∀ (t t2 : Addr) (H' : Hp), H' t2 = some (.tup [v, u]) → H' t = some (.tup [.str "TooLarge", .ref t2]) → Same H H' → Q (.ref t) H') : Fly C (fs_TooLarge v u) H (Told K C1 C2 Q) := fun d H' s hd => by
  refine ⟨C, d, fs_TooLarge v u, "TooLarge", rfl, rfl, hd, T.ex, T.xf, T.no, rfl, ?_⟩
  have e1 : inV (.str "TooLarge") [.str "InvalidName", .str "InvalidNumber"] = false := by decide +kernel
  have e2 : inV (.str "TooLarge") [.str "InvalidText", .str "WrongKind", .str "InvalidBlank"] = false := by decide +kernel
  have e3 : inV (.str "TooLarge") [.str "NameTaken", .str "InvalidWitness", .str "UnknownName"] = false := by decide +kernel
  have e4 : decide (V.str "TooLarge" = V.str "TooLarge") = true := decide_eq_true rfl
  unfold fieldF
  rw [e1, e2, e3, e4, if_neg Bool.false_ne_true, if_neg Bool.false_ne_true, if_neg Bool.false_ne_true, if_pos rfl]
  exact ⟨v, rfl, u, rfl, fun t t2 H2 ht2 ht s2 => k t t2 H2 ht2 ht (s.trans s2)⟩
theorem told_InvalidFact (T : Ek K C1 C2 C) (k : ∀ (t : Addr) (H' : Hp), H' t = some (.tup [.str "InvalidFact", v]) → Same H H' → Q (.ref t) H') : Fly C (fs_InvalidFact v) H (Told K C1 C2 Q) := fun d H' s hd => by
  refine ⟨C, d, fs_InvalidFact v, "InvalidFact", rfl, rfl, hd, T.ex, T.xf, T.no, rfl, ?_⟩
  have e1 : inV (.str "InvalidFact") [.str "InvalidName", .str "InvalidNumber"] = false := by decide +kernel
  have e2 : inV (.str "InvalidFact") [.str "InvalidText", .str "WrongKind", .str "InvalidBlank"] = false := by decide +kernel
  have e3 : inV (.str "InvalidFact") [.str "NameTaken", .str "InvalidWitness", .str "UnknownName"] = false := by decide +kernel
  have e4 : decide (V.str "InvalidFact" = V.str "TooLarge") = false := by decide +kernel
  have e5 : decide (V.str "InvalidFact" = V.str "InvalidFact") = true := decide_eq_true rfl
  unfold fieldF
  rw [e1, e2, e3, e4, if_neg Bool.false_ne_true, if_neg Bool.false_ne_true, if_neg Bool.false_ne_true, if_neg Bool.false_ne_true]
  unfold otherF
  rw [e5, if_pos rfl]
  exact ⟨v, rfl, fun t H2 ht s2 => k t H2 ht (s.trans s2)⟩
end
/-! ### alike -/
theorem like_wrong {H : Hp} {v : V} (h : Wrong v) (n : Nat) : Like H (n + 1) v v := by
  cases h with
  | non => exact .inl ⟨rfl, .inl rfl⟩
  | yes => exact .inl ⟨rfl, .inr (.inl ⟨_, rfl⟩)⟩
  | int => exact .inl ⟨rfl, .inr (.inr (.inl ⟨_, rfl⟩))⟩
  | str _ _ _ => exact .inl ⟨rfl, .inr (.inr (.inr ⟨_, rfl⟩))⟩
theorem like_str {H : Hp} (z : Str) (n : Nat) : Like H (n + 1) (.str z) (.str z) := .inl ⟨rfl, .inr (.inr (.inr ⟨_, rfl⟩))⟩
theorem like_int {H : Hp} (z : Int) (n : Nat) : Like H (n + 1) (.int z) (.int z) := .inl ⟨rfl, .inr (.inr (.inl ⟨_, rfl⟩))⟩
theorem like_tup2 {H : Hp} {a b : Addr} {x1 x2 y1 y2 : V} {n : Nat} (ha : H a = some (.tup [x1, x2])) (hb : H b = some (.tup [y1, y2])) (h1 : Like H n x1 y1) (h2 : Like H n x2 y2) : Like H (n + 1) (.ref a) (.ref b) := by
  refine .inr ⟨a, b, _, _, rfl, rfl, .inl ⟨ha, hb⟩, rfl, (by show 2 ≤ 1000; decide), fun i x y hx hy => ?_⟩
  match i, hx, hy with
  | 0, hx, hy => cases hx; cases hy; exact h1
  | 1, hx, hy => cases hx; cases hy; exact h2
theorem like_far {H : Hp} {v : V} {ns : List Str} (h : FarV H v ns) (n : Nat) : Like H (n + 2) v v := by
  rcases h with h | ⟨z, rfl, _, _⟩ | ⟨l, rfl, h⟩
  · exact like_wrong h _
  · exact like_str _ _
  · refine .inr ⟨l, l, _, _, rfl, rfl, .inr ⟨h, h⟩, rfl, (by show 1 ≤ 1000; decide), fun i x y hx hy => ?_⟩
    match i, hx, hy with
    | 0, hx, hy => cases hx; cases hy; exact like_str _ _
end K09

set_option Elab.async false
set_option linter.all false
set_option maxRecDepth 100000
set_option maxHeartbeats 2000000
set_option pp.maxSteps 700
namespace K09
open PySem PySem.Spec PyProof.Rows L2 Ux ClX NdefX
def spLaw (K : PySem.W.Frag) (PT : Addr) : Sp := fun vs H Q _ => ∃ (a : Addr) (ns : List Int), vs = [.ref a] ∧ SqL K H a (ns.map V.int) ∧ ns.length ≤ 63 ∧ H PT = some (.tbl #[]) ∧ ∀ H', Q (.bl true) H'
/-! ### uniform over the seven -/
theorem lr {K : PySem.W.Frag} {CN CT CL : Addr} {cells : List (Str × Addr)} {σ : L2.St} {H : Hp} {Q : VK} {E : XK} {zs : List Str} {at_ : Nat} {v : V} {u nA bA fM cM : Addr} (c : CxL cells σ H zs at_ v u nA bA fM cM) : ∀ k, k < 7 → FlyOf CN CT CL zs v H E k → (dL K CN CT CL cells k).t E σ H Q := fun k hk f => by
  match k, f with
  | 0, f => exact lr0 c f
  | 1, f => exact lr1 c f
  | 2, f => exact lr2 c f
  | 3, f => exact lr3 c f
  | 4, f => exact lr4 c f
  | 5, f => exact lr5 c f
  | 6, f => exact lr6 c f
  | n + 7, f => exact absurd hk (by omega)
theorem dsT_at {K : PySem.W.Frag} {CN CT CL : Addr} {cells : List (Str × Addr)} {k : Nat} (h : k < 7) : (dsT K CN CT CL cells)[k]? = some (dL K CN CT CL cells k, code k, fldT K k) := by
  unfold dsT
  rw [List.getElem?_map, List.getElem?_range h]
  rfl
theorem dsT_len {K : PySem.W.Frag} {CN CT CL : Addr} {cells : List (Str × Addr)} : (dsT K CN CT CL cells).length = 7 := by
  unfold dsT
  rw [List.length_map, List.length_range]
theorem fly_told {K : PySem.W.Frag} {C1 C2 CN CT CL : Addr} (EN : Ek K C1 C2 CN) (ET : Ek K C1 C2 CT) (EL : Ek K C1 C2 CL) {zs : List Str} {v x : V} {H : Hp} {Q : VK} (wr : Wrong v) : ∀ k, k < 7 → FldV zs v k x H →
    (∀ (t : Addr) (H' : Hp) (y : V), H' t = some (.tup [.str (code k), y]) → Same H H' → (∀ H2, Same H' H2 → Like H2 3 y x) → Q (.ref t) H') → FlyOf CN CT CL zs v H (Told K C1 C2 Q) k := fun k hk hx q => by
  have inv : ∀ m, code m = "InvalidName" → (∀ (t : Addr) (H' : Hp) (y : V), H' t = some (.tup [.str (code m), y]) → Same H H' → (∀ H2, Same H' H2 → Like H2 3 y v) → Q (.ref t) H') → Fly CN (fs_InvalidName v) H (Told K C1 C2 Q) := fun m e q => told_InvalidName EN fun t H' ht s => q t H' v (by rw [e]; exact ht) s fun H2 _ => like_wrong wr 2
  match k, hx, q with
  | 0, hx, q => cases hx; exact inv 0 rfl q
  | 1, hx, q => cases hx; exact inv 1 rfl q
  | 2, ⟨n, e, ex⟩, q => cases ex; exact ⟨n, e, told_NameTaken ET fun t H' ht s => q t H' (.str n) ht s fun H2 _ => like_str n 2⟩
  | 3, ⟨n, e, ex⟩, q => cases ex; exact ⟨n, e, told_NameTaken ET fun t H' ht s => q t H' (.str n) ht s fun H2 _ => like_str n 2⟩
  | 4, ⟨p, ex, hp⟩, q => cases ex; exact told_TooLarge EL fun t t2 H' h2 ht s => q t H' (.ref t2) ht s fun H2 s2 => like_tup2 (s2 _ _ h2) (s2 _ _ (s _ _ hp)) (like_str _ 1) (like_int _ 1)
  | 5, ⟨p, ex, hp⟩, q => cases ex; exact told_TooLarge EL fun t t2 H' h2 ht s => q t H' (.ref t2) ht s fun H2 s2 => like_tup2 (s2 _ _ h2) (s2 _ _ (s _ _ hp)) (like_str _ 1) (like_int _ 1)
  | 6, hx, q => cases hx; exact inv 6 rfl q
  | n + 7, _, _ => exact absurd hk (by omega)
/-! ### what the law's heap holds -/
theorem TabsN.but {T : List NTab} {H H' : Hp} {b : Addr} {xs : List V} (t : TabsN T H) (hb : H b = some (.lst xs)) (s : But b H H') : TabsN T H' := fun p hp => by
  obtain ⟨ps, h1, h2, h3⟩ := t p hp
  refine ⟨ps, s _ _ h1 fun e => ?_, h2, fun pos cv hc => ?_⟩
  · rw [e, hb] at h1
    cases h1
  · obtain ⟨c, e1, e2⟩ := h3 pos cv hc
    refine ⟨c, e1, s _ _ e2 fun e => ?_⟩
    rw [e, hb] at e2
    cases e2
theorem UnsAt.but {CR CU : Addr} {H H' : Hp} {a b : Addr} {f : FT} {xs : List V} (h : UnsAt CR CU H a f) (hb : H b = some (.lst xs)) (s : But b H H') : UnsAt CR CU H' a f := by
  obtain ⟨dx, r, h1, dx2, h2⟩ := h
  refine ⟨dx, r, s _ _ h1 fun e => ?_, dx2, s _ _ h2 fun e => ?_⟩
  · rw [e, hb] at h1
    cases h1
  · rw [e, hb] at h2
    cases h2
theorem UnsAt.extN {CR CU : Addr} {H H' : Hp} {a : Addr} {f : FT} (h : UnsAt CR CU H a f) (s : LamX.ExtN H H') : UnsAt CR CU H' a f := by
  obtain ⟨dx, r, h1, dx2, h2⟩ := h
  exact ⟨dx, r, s _ _ h1 (fun ps z => by cases z), dx2, s _ _ h2 (fun ps z => by cases z)⟩
theorem BagAt.extN {H H' : Hp} {b : Addr} {n : Nat} (h : BagAt H b n) (s : LamX.ExtN H H') : BagAt H' b n := by
  obtain ⟨l, ns, p, g, s', c, hb, hl, z⟩ := h
  exact ⟨l, ns, p, g, s', c, s _ _ hb (fun ps e => by cases e), s _ _ hl (fun ps e => by cases e), z⟩
theorem FarV.extN {H H' : Hp} {v : V} {ns : List Str} (h : FarV H v ns) (s : LamX.ExtN H H') : FarV H' v ns := by
  rcases h with h | h | ⟨l, e, h⟩
  · exact .inl h
  · exact .inr (.inl h)
  · exact .inr (.inr ⟨l, e, s _ _ h (fun ps z => by cases z)⟩)
theorem WorldAt.extN {CR CU CW : Addr} {H H' : Hp} {a : Addr} {ins ns : List Str} {g : Str → FT} {nm : List Str} (h : WorldAt CR CU CW H a ins ns g nm) (s : LamX.ExtN H H') : WorldAt CR CU CW H' a ins ns g nm := by
  obtain ⟨dx, li, df, ln, u, h1, h2, h3, h4, h5, h6⟩ := h
  exact ⟨dx, li, df, ln, u, s _ _ h1 (fun ps z => by cases z), s _ _ h2 (fun ps z => by cases z), s _ _ h3 (fun ps z => by cases z), s _ _ h4 (fun ps z => by cases z), fun n m => ⟨(h5 n m).1, UnsAt.extN (h5 n m).2 s⟩, h6⟩
/-- the names, the table, the bag -/
structure HB (PT : Addr) (H : Hp) (b nA : Addr) (n : Nat) (zs : List Str) : Prop where
  bag : BagAt H b n
  hn : H nA = some (.lst (zs.map V.str))
  nb : nA ≠ b
  T : TabsN [(PT, nmL)] H
theorem HB.same {PT : Addr} {H H' : Hp} {b nA : Addr} {n : Nat} {zs : List Str} (h : HB PT H b nA n zs) (s : Same H H') : HB PT H' b nA n zs := ⟨h.bag.same s, s _ _ h.hn, h.nb, h.T.ext s⟩
theorem HB.extN {PT : Addr} {H H' : Hp} {b nA : Addr} {n : Nat} {zs : List Str} (h : HB PT H b nA n zs) (s : LamX.ExtN H H') (T : TabsN [(PT, nmL)] H') : HB PT H' b nA n zs := ⟨BagAt.extN h.bag s, s _ _ h.hn (fun ps z => by cases z), h.nb, T⟩
theorem HB.but {PT : Addr} {H H' : Hp} {b nA : Addr} {n m : Nat} {zs : List Str} (h : HB PT H b nA n zs) (B : BagAt H' b m) (f : Bt b H H') : HB PT H' b nA m zs := by
  obtain ⟨ys, hb⟩ := h.bag.lst
  exact ⟨B, f.1 _ _ h.hn h.nb, h.nb, TabsN.but h.T hb f.1⟩
/-- and the nested def -/
structure HF (cells : List (Str × Addr)) (CR CU : Addr) (H : Hp) (u fM cM : Addr) : Prop where
  un : UnsAt CR CU H u (φN 1)
  hf : H fM = some (FnO fM (mkMade qm (clM cells) cM))
  hc : H cM = some (LamX.CodeO cM qm)
theorem HF.same {cells : List (Str × Addr)} {CR CU : Addr} {H H' : Hp} {u fM cM : Addr} (h : HF cells CR CU H u fM cM) (s : Same H H') : HF cells CR CU H' u fM cM := ⟨h.un.same s, s _ _ h.hf, s _ _ h.hc⟩
theorem HF.extN {cells : List (Str × Addr)} {CR CU : Addr} {H H' : Hp} {u fM cM : Addr} (h : HF cells CR CU H u fM cM) (s : LamX.ExtN H H') : HF cells CR CU H' u fM cM := ⟨UnsAt.extN h.un s, (Kp.ofN s).ext _ _ h.hf, (Kp.ofN s).ext _ _ h.hc⟩
theorem HF.but {cells : List (Str × Addr)} {CR CU : Addr} {H H' : Hp} {u fM cM b : Addr} {xs : List V} (h : HF cells CR CU H u fM cM) (hb : H b = some (.lst xs)) (f : Bt b H H') : HF cells CR CU H' u fM cM := ⟨UnsAt.but h.un hb f.1, (Kp.but hb f.1).ext _ _ h.hf, (Kp.but hb f.1).ext _ _ h.hc⟩
/-- and the list with the wrong name, the list of calls -/
structure HC (K : PySem.W.Frag) (CN CT CL : Addr) (cells : List (Str × Addr)) (H : Hp) (b bA LA : Addr) (zs : List Str) (at_ : Nat) (v : V) (ts : List Addr) : Prop where
  hb : H bA = some (.lst (badL zs at_ v))
  bb : bA ≠ b
  hL : H LA = some (.lst (ts.map V.ref))
  Lb : LA ≠ b
  tr : Trs cells qn H (FldV zs v) ts (dsT K CN CT CL cells)
theorem HC.same {K : PySem.W.Frag} {CN CT CL : Addr} {cells : List (Str × Addr)} {H H' : Hp} {b bA LA : Addr} {zs : List Str} {at_ : Nat} {v : V} {ts : List Addr} (h : HC K CN CT CL cells H b bA LA zs at_ v ts) (s : Same H H') : HC K CN CT CL cells H' b bA LA zs at_ v ts :=
  ⟨s _ _ h.hb, h.bb, s _ _ h.hL, h.Lb, h.tr.kp (Kp.of s) (FldV.kp (Kp.of s))⟩
theorem HC.but {K : PySem.W.Frag} {CN CT CL : Addr} {cells : List (Str × Addr)} {H H' : Hp} {b bA LA : Addr} {zs : List Str} {at_ : Nat} {v : V} {ts : List Addr} {xs : List V} (h : HC K CN CT CL cells H b bA LA zs at_ v ts) (hb : H b = some (.lst xs)) (f : Bt b H H') : HC K CN CT CL cells H' b bA LA zs at_ v ts :=
  ⟨f.1 _ _ h.hb h.bb, h.bb, f.1 _ _ h.hL h.Lb, h.Lb, h.tr.kp (Kp.but hb f.1) (FldV.kp (Kp.but hb f.1))⟩
end K09

set_option Elab.async false
set_option linter.all false
set_option maxRecDepth 100000
set_option maxHeartbeats 2000000
set_option pp.maxSteps 700
namespace K09
open PySem PySem.Spec PyProof.Rows L2 Ux ClX NdefX
theorem cut_a {zs : List Str} {k : Nat} (len : zs.length = 10) (h : k ≤ 2) : cutV (zs.map V.str) none (some (k : Int)) = (zs.take k).map V.str := by
  obtain ⟨z0, z1, z2, z3, z4, z5, z6, z7, z8, z9, rfl⟩ := ten len
  rcases (show k = 0 ∨ k = 1 ∨ k = 2 by omega) with rfl | rfl | rfl <;> rfl
theorem cut_b {zs : List Str} {k : Nat} (len : zs.length = 10) (h : k ≤ 2) : cutV (zs.map V.str) (some (k : Int)) (some 2) = ((zs.take 2).drop k).map V.str := by
  obtain ⟨z0, z1, z2, z3, z4, z5, z6, z7, z8, z9, rfl⟩ := ten len
  rcases (show k = 0 ∨ k = 1 ∨ k = 2 by omega) with rfl | rfl | rfl <;> rfl
theorem notin0 {z0 z1 z2 z3 z4 z5 z6 z7 z8 z9 : Str} (nd : [z0, z1, z2, z3, z4, z5, z6, z7, z8, z9].Nodup) : z0 ∉ [z4, z5, z6, z7] := fun m => (List.nodup_cons.mp nd).1 (by
  simp only [List.mem_cons, List.mem_nil_iff, or_false] at m ⊢
  rcases m with h | h | h | h <;> simp [h])
theorem notin8 {z0 z1 z2 z3 z4 z5 z6 z7 z8 z9 : Str} (nd : [z0, z1, z2, z3, z4, z5, z6, z7, z8, z9].Nodup) : z8 ∉ [z4, z5, z6, z7] := fun m => by
  have h := nd.sublist (show [z4, z5, z6, z7, z8, z9].Sublist [z0, z1, z2, z3, z4, z5, z6, z7, z8, z9] from List.drop_sublist 4 [z0, z1, z2, z3, z4, z5, z6, z7, z8, z9])
  have h2 := (List.nodup_append.mp (show ([z4, z5, z6, z7] ++ [z8, z9]).Nodup from h)).2.2
  exact h2 z8 m z8 (List.mem_cons_self ..) rfl
theorem bag_str {H : Hp} {b li : Addr} {n : Nat} {xs : List Str} (B : BagAt H b n) (h : H li = some (.lst (xs.map V.str))) : li ≠ b := fun e => by
  obtain ⟨l, ns, p, g, s', c, hb, _⟩ := B
  rw [e, hb] at h
  have h2 : BagL l p g s' c = xs.map V.str := by
    injection h with h
    injection h
  cases xs with
  | nil => cases h2
  | cons x r => cases h2
theorem WorldAt.but {CR CU CW : Addr} {H H' : Hp} {a b : Addr} {n : Nat} {ins ns : List Str} {g : Str → FT} {nm : List Str} (h : WorldAt CR CU CW H a ins ns g nm) (B : BagAt H b n) (f : Bt b H H') : WorldAt CR CU CW H' a ins ns g nm := by
  obtain ⟨dx, li, df, ln, u, h1, h2, h3, h4, h5, h6⟩ := h
  obtain ⟨ys, hb⟩ := B.lst
  refine ⟨dx, li, df, ln, u, f.1 _ _ h1 fun e => ?_, f.1 _ _ h2 (bag_str B h2), f.1 _ _ h3 fun e => ?_, f.1 _ _ h4 (bag_str B h4), fun n m => ⟨(h5 n m).1, UnsAt.but (h5 n m).2 hb f.1⟩, h6⟩
  · rw [e, hb] at h1
    cases h1
  · rw [e, hb] at h3
    cases h3
theorem like_lst3 {H : Hp} {a b : Addr} {x1 x2 x3 y1 y2 y3 : V} {n : Nat} (ha : H a = some (.lst [x1, x2, x3])) (hb : H b = some (.lst [y1, y2, y3])) (h1 : Like H n x1 y1) (h2 : Like H n x2 y2) (h3 : Like H n x3 y3) : Like H (n + 1) (.ref a) (.ref b) := by
  refine .inr ⟨a, b, _, _, rfl, rfl, .inr ⟨ha, hb⟩, rfl, (by show 3 ≤ 1000; decide), fun i x y hx hy => ?_⟩
  match i, hx, hy with
  | 0, hx, hy => cases hx; cases hy; exact h1
  | 1, hx, hy => cases hx; cases hy; exact h2
  | 2, hx, hy => cases hx; cases hy; exact h3
theorem Same.put {H H' : Hp} {D : Addr} {o : HO} (s : Same H H') (hD : H D = none) : Same H (upd H' D o) := fun x u e => by
  rw [upd_ne (ne_of_none e hD)]
  exact s x u e
theorem ndB : ndefB (defScope sLaw) (C8.fnScope stMade) ["_law_one"] = true := by decide +kernel
section
variable {P : Program} {w : World} {K : PySem.W.Frag} {mg : Str → Option Value} {base : Heap} {CR CU CW CN CT CL CK CF C1 C2 c PT : Addr} {mc : Value}
theorem ok_law {f fBg fP fO fNm fS fF gW fU fI fFa fWi fLe : Addr} {fdBg fdP fdO fdNm fdS fdF fdU fdI fdFa fdWi fdLe : FuncData} {dsU : List Value}
    {oc kV doc pm ct ocW kVW dcW pmW cdW ctW : Value} {od an odW anW : Option Addr} {osl slW : Array (Option Value)}
    (lk : K.lookup f = some ⟨oc, od, .func (PySem.W.fnOf "law" "law" (defArgs sLaw) (defBody sLaw) (defScope sLaw) .none kV doc pm an (.ref c) ct), osl⟩) (hcd : PySem.W.codeIn K (.ref c) "law" = true)
    (lkW : K.lookup gW = some ⟨ocW, odW, .func (PySem.W.fnOf "_law_why" "_law_why" (defArgs sWhy) (defBody sWhy) (defScope sWhy) .none kVW dcW pmW anW cdW ctW), slW⟩) (ccW : PySem.W.codeIn K cdW "_law_why" = true) (DW : Dn K mg "_law_why" gW)
    (bW : Binds K (PySem.W.fnOf "_law_why" "_law_why" (defArgs sWhy) (defBody sWhy) (defScope sWhy) .none kVW dcW pmW anW cdW ctW) ["_law_ask"] [])
    (TB : LamX.TabB base mg c PT) (m1 : mg "SlopeError" = some (.ref C1)) (m2 : mg "Missing" = some (.ref C2)) (DF : Dn K mg "_law_field" fF) (GF : FnQ P w K mg base 2 fF fdF ["_law_e"] (spFieldE K)) (bF : Binds K fdF ["_law_e"] [])
    (B : Bm mg) (U : UT K mg CU) (T : WT K mg CW mc) (EN : Ek K C1 C2 CN) (ET : Ek K C1 C2 CT) (EL : Ek K C1 C2 CL) (EK : Ek K C1 C2 CK) (EF : Ek K C1 C2 CF)
    (DBg : Dn K mg "_law_bag" fBg) (GBg : FnOk P w K mg base CX0 1 fBg fdBg ["_law_script"] (spBag K)) (bBg : Binds K fdBg ["_law_script"] [])
    (DP : Dn K mg "_law_pull" fP) (GP : FnOk P w K mg base CX0 1 fP fdP ["_law_bag_here", "_law_many"] spPull) (bP : Binds K fdP ["_law_bag_here", "_law_many"] [])
    (DO : Dn K mg "_law_of" fO) (GO : FnOk P w K mg base CX0 2 fO fdO ["_law_bag_here", "_law_things"] spOf) (bO : Binds K fdO ["_law_bag_here", "_law_things"] [])
    (DNm : Dn K mg "_law_names" fNm) (GNm : FnOk P w K mg base CX0 3 fNm fdNm ["_law_bag_here", "_law_many"] spNames) (bNm : Binds K fdNm ["_law_bag_here", "_law_many"] [])
    (DS : Dn K mg "_law_same" fS) (GS : FnOk P w K mg base CX0 4 fS fdS ["_law_found", "_law_due"] (spSame 4)) (bS : Binds K fdS ["_law_found", "_law_due"] [])
    (MU : Mk K CU fU) (GU : FnOk P w K mg base CX0 7 fU fdU pU (spUInit CR CU)) (bU : Binds K fdU pU dsU) (vU : Vals dU dsU)
    (MI : Mk K CW fI) (GI : FnOk P w K mg base CX0 4 fI fdI ["self", "inputs", "functions"] (spWInit CR CU CW)) (GIX : FnOk P w K mg base (L2.CX P w) 6 fI fdI ["self", "inputs", "functions"] (spWInitX P w CW CN CT CL)) (bI : Binds K fdI ["self", "inputs", "functions"] [])
    (MFa : Meth K CW "fact" fFa) (GFa : FnOk P w K mg base (L2.CX P w) 4 fFa fdFa ["self", "name"] (spWFactX K CR CU CW CK)) (bFa : Binds K fdFa ["self", "name"] [])
    (MWi : Meth K CW "with_fact" fWi) (GWi : FnOk P w K mg base (L2.CX P w) 6 fWi fdWi ["self", "name", "fact"] (spWWithX K CR CU CW CK CF)) (bWi : Binds K fdWi ["self", "name", "fact"] [])
    (MLe : OwnM K CW "__len__" fLe) (GLe : FnOk P w K mg base CX0 1 fLe fdLe ["self"] (spWLen CR CU CW)) (bLe : Binds K fdLe ["self"] []) :
    FnOk P w K mg base CX0 11 f (PySem.W.fnOf "law" "law" (defArgs sLaw) (defBody sLaw) (defScope sLaw) .none kV doc pm an (.ref c) ct) ["_law_script"] (spLaw K PT) := by
  refine fn_of lk hcd scLaw (fun vs H Q E h => ?_) (fun A outer s H vs Q E hr h => ?_)
  · obtain ⟨a, ns, rfl, _⟩ := h
    rfl
  · obtain ⟨a, ns, rfl, hS, hlen, hP, q⟩ := h
    have r1 : Room 1 _ := hr.mono (by decide)
    have r2 : Room 2 _ := hr.mono (by decide)
    have r3 : Room 3 _ := hr.mono (by decide)
    have r4 : Room 4 _ := hr.mono (by decide)
    have r6 : Room 6 _ := hr.mono (by decide)
    have r8 : Room 8 _ := hr.mono (by decide)
    have hAsk : AskH (cxOf CX0 P w K mg base nLaw "law" (defScope sLaw) f (.ref c) A outer s H E).nox CR CU CW CK CF fFa fWi fU fdFa fdWi fdU dsU := ⟨rfl, rfl, T.cl, MFa, GFa, bFa, MWi, GWi, bWi, U.gl, MU, GU, bU, vU⟩
    have hLam : LamH (cxOf CX0 P w K mg base nLaw "law" (defScope sLaw) f (.ref c) A outer s H E).nox CN CT CL := ⟨rfl, rfl, rfl, fun f' c' => ok_madeX T MI GIX bI⟩
    refine ⟨_, PSs.nox (pss_cons (ps_set (i := 1) scLaw.nd rfl (Or.inl rfl) (pe_call GBg r1 (by rfl) DBg.gl DBg.kp bBg .nil pass0 (pa_cons (pv 0) pa_nil)))
      (C8.pss_cut (ps_set (i := 2) scLaw.nd rfl (Or.inr rfl) (pe_call GNm r3 (by rfl) DNm.gl DNm.kp bNm .nil pass0 (pa_cons (pv 1) (pa_cons pe_int pa_nil))))
      (C8.pss_cut (ps_set (i := 3) scLaw.nd rfl (Or.inr rfl) (pe_call GO r2 (by rfl) DO.gl DO.kp bO .nil pass0 (pa_cons (pv 1) (pa_cons (pe_lst (pa_cons pe_str (pa_cons pe_str (pa_cons pe_str (pa_cons pe_str (pa_cons pe_str (pa_cons pe_str (pa_cons pe_int (pa_cons pe_non (pa_cons pe_bl pa_nil)))))))))) pa_nil))))
      (C8.pss_cut (ps_set (i := 4) scLaw.nd rfl (Or.inr rfl) (pe_make MU GU r8 (by rfl) U.gl bU vU pass0 (pa_cons pe_int pa_nil)))
      (C8.pss_cut (ps_ndefMS (st := stMade) (i := 5) (T := [(PT, nmL)]) (nm := nmL) rfl TB rfl (List.mem_singleton.mpr rfl) rfl (fun p hp _ => congrArg Prod.snd (List.mem_singleton.mp hp)) (ndef_free (sc := defScope sLaw) (nsc := C8.fnScope stMade) ndB) rfl rfl rfl scLaw.nd rfl (Or.inr rfl) (.inl rfl))
      (C8.pss_cut (ps_set (i := 6) scLaw.nd rfl (Or.inl rfl) (pe_call GP r1 (by rfl) DP.gl DP.kp bP .nil pass0 (pa_cons (pv 1) (pa_cons pe_int pa_nil))))
      (C8.pss_cut (ps_set (i := 7) scLaw.nd rfl (Or.inr rfl) (pe_op op_cat (pe_op op_cat (pe_slice sl_list (pv 2) po_none (po_some (pv 6))) (pe_lst (pa_cons (pv 3) pa_nil))) (pe_slice sl_list (pv 2) (po_some (pv 6)) (po_some pe_int))))
      (C8.pss_cut (ps_set (i := 8) scLaw.nd rfl (Or.inl rfl) (pe_lst (pa_cbox (CN := CN) (CT := CT) (CL := CL) TB rfl rfl)))
      (pss_cons (ps_for PassesOwn.never rfl (pi_range1 rfl B.bn.frange (pa_cons pe_int pa_nil)) (pg_name (i := 9) scLaw.nd rfl (Or.inl rfl))
        (C8.pss_cut (ps_asg (pe_ix ix_list (pv 8) (pe_call GP r1 (by rfl) DP.gl DP.kp bP .nil pass0 (pa_cons (pv 1) (pa_cons pe_int pa_nil))) (fun _ _ => rfl)) (pg_tup rfl (pgs_cons (pg_name (i := 10) scLaw.nd rfl (Or.inl rfl)) (pgs_cons (pg_name (i := 11) scLaw.nd rfl (Or.inl rfl)) (pgs_cons (pg_name (i := 12) scLaw.nd rfl (Or.inl rfl)) pgs_nil)))))
        (pss_one (ps_if (pt_not (pt_val (pe_call GS r4 (by rfl) DS.gl DS.kp bS .nil pass0 (pa_cons (pe_lamvalC (ds := (List.range 7).map (dL K CN CT CL (envOfC "law" (defScope sLaw) s.heap.objs.size f (.ref c)).cells)) (TT := TTwhy K C1 C2) (k := 8) (cl := clM (envOfC "law" (defScope sLaw) s.heap.objs.size f (.ref c)).cells) (fr := ["_law_one"]) (js := [4]) (by rfl) DW.gl DW.kp lkW ccW bW scWhy rfl (.inl rfl) (why_gives r3 DF GF bF m1 m2) hr (fun d hd => by
        obtain ⟨k, hk, rfl⟩ := List.mem_map.mp hd
        have hk := List.mem_range.mp hk
        match k, hk with
        | 0, _ => exact lo0 hLam
        | 1, _ => exact lo1 hLam
        | 2, _ => exact lo2 hLam
        | 3, _ => exact lo3 hLam
        | 4, _ => exact lo4 hLam
        | 5, _ => exact lo5 hLam
        | 6, _ => exact lo6 hLam
        | n + 7, h => exact absurd h (by omega)) (fun ok => Caps.made (scope := C8.fnScope stMade) ok (ndef_free (sc := defScope sLaw) (nsc := C8.fnScope stMade) ndB) (ndef_fr (sc := defScope sLaw) (nsc := C8.fnScope stMade) ndB) rfl) (pv 10)) (pa_cons (pe_tup (pa_cons (pv 11) (pa_cons (pv 12) pa_nil))) pa_nil))))) (pss_one (ps_ret pe_bl)) pss_nil))))
      (C8.pss_cut (ps_set (i := 13) scLaw.nd rfl (Or.inr rfl) (pe_calln (E := E0) (k := 6) (mk := mkMade qm (clM (envOfC "law" (defScope sLaw) s.heap.objs.size f (.ref c)).cells)) (i := 5) (js := [4]) (fr := ["_law_one"]) (sp := fun _ _ => spMadeG CR CU CW (φN 1)) (fun f' c' => ok_madeG T MI GI bI) (fun _ => rfl) (fun ok => Caps.made (scope := C8.fnScope stMade) ok (ndef_free (sc := defScope sLaw) (nsc := C8.fnScope stMade) ndB) (ndef_fr (sc := defScope sLaw) (nsc := C8.fnScope stMade) ndB) rfl) r6 (Nat.le_refl _) pass0 rfl (.inr (.inl rfl)) (pa_cons (pe_slice sl_list (pv 2) po_none (po_some pe_int)) (pa_cons (pe_slice sl_list (pv 2) (po_some pe_int) (po_some pe_int)) pa_nil))))
      (C8.pss_cut (ps_set (i := 14) scLaw.nd rfl (Or.inr rfl) (pe_call GO r2 (by rfl) DO.gl DO.kp bO .nil pass0 (pa_cons (pv 1) (pa_cons (pe_lst (pa_cons (pe_ix ix_list (pv 2) pe_int (fun _ _ => rfl)) (pa_cons (pe_ix ix_list (pv 2) pe_int (fun _ _ => rfl)) (pa_cons (pv 3) (pa_cons (pe_lst (pa_cons pe_str pa_nil)) (pa_cons pe_str pa_nil)))))) pa_nil))))
      (C8.pss_cut (ps_set (i := 15) scLaw.nd rfl (Or.inl rfl) (pe_lst (pa_abox (CR := CR) (CU := CU) (CW := CW) (CK := CK) (CF := CF) TB rfl rfl)))
      (C8.pss_cut (ps_set (i := 16) scLaw.nd rfl (Or.inl rfl) (pe_lst (pa_cons (pe_tup (pa_cons pe_str (pa_cons (pv 14) pa_nil))) (pa_cons (pe_tup (pa_cons pe_str (pa_cons (pv 14) pa_nil))) (pa_cons (pe_tup (pa_cons pe_str (pa_cons pe_str pa_nil))) pa_nil)))))
      (pss_one (ps_ret (pe_and (pe_call GS r4 (by rfl) DS.gl DS.kp bS .nil pass0 (pa_cons (pe_lcI (own := [("_law_ask", 10)]) (g := gName 10) (te := fun σ0 => tLamCallB (envOfC "law" (defScope sLaw) s.heap.objs.size f (.ref c)).cells ((envOfC "law" (defScope sLaw) s.heap.objs.size f (.ref c)).qual ++ "<lambda>") (TTwhy K C1 C2) [e0 K CR CU CW CK CF] [e1 K CR CU CW CK CF, e2 K CR CU CW CK CF] (tVar 10) σ0) rfl scLaw.nd (pi_list (pv 15)) (blkOk_by (own := [("_law_ask", 10)]) (N := nLaw) (sc := defScope sLaw) (by decide +kernel)) (fun _ _ _ _ _ => pg_name (i := 10) scLaw.nd rfl (Or.inl rfl) (hf := Or.inr rfl))
          (fun σ0 s0 H0 C0 cl0 fp0 BI => pe_lamvalB (TT := TTwhy K C1 C2) (k := 8) BI (by rfl) DW.gl DW.kp lkW ccW bW scWhy rfl (.inl rfl) (why_gives r3 DF GF bF m1 m2) hr (fun d hd => by
            cases List.mem_singleton.mp hd
            exact ao0 hAsk) (fun d hd => by
            rcases List.mem_cons.mp hd with rfl | hd
            · exact ao1 hAsk
            · cases List.mem_singleton.mp hd
              exact ao2 hAsk) (pv 10))) (pa_cons (pv 16) pa_nil))) (pe_one (pe_cmpR op_eq (pe_callB (call_lenO MLe GLe bLe r2) (by rfl) B.bn.flen (by decide +kernel) (pa_cons (pv 13) pa_nil)) pe_int (nomark _))))))))))))))))))), ?_⟩
    refine ⟨_, rfl, a, ns, rfl, hS, fun b H1 B1 nb s1 => ?_⟩
    have T1 : TabsN [(PT, nmL)] H1 := fun p hp => by
      cases List.mem_singleton.mp hp
      exact TabN.nil (s1 _ _ hP)
    clear hS hlen hP s1 nb
    refine ⟨fun σ H' => ∃ (nA : Addr) (zs : List Str), σ = [some (.ref a), some (.ref b), some (.ref nA), none, none, none, none, none, none, none, none, none, none, none, none, none, none] ∧ zs.length = 10 ∧ zs.Nodup ∧ (∀ z ∈ zs, nameB z = true) ∧ HB PT H' b nA (70) zs, ?_, ?_⟩
    · obtain ⟨ys, hb⟩ := B1.lst
      exact ⟨_, rfl, b, 10, 0, rfl, by decide, B1, by decide, fun zs L H2 len nd nm hL B2 f2 nb => ⟨L, zs, rfl, len, nd, nm, B2, hL, nb, TabsN.but T1 hb f2.1⟩⟩
    clear B1 T1 H1
    rintro σ H1 ⟨nA, zs, rfl, len, nd, nm, h0⟩
    refine ⟨fun σ H' => ∃ v : V, σ = [some (.ref a), some (.ref b), some (.ref nA), some v, none, none, none, none, none, none, none, none, none, none, none, none, none] ∧ Wrong v ∧ HB PT H' b nA (71) zs, ?_, ?_⟩
    · obtain ⟨ys, hb⟩ := h0.bag.lst
      refine ⟨_, rfl, (by show 9 ≤ sizeLine; decide), fun Lo hLo => ?_⟩
      have sL := same_upd (o := .lst [V.str "", .str "fn", .str "Ab", .str "slope", .str "abcdefg", .str "a1", .int 5, .non, .bl true]) hLo
      have nLo : Lo ≠ b := (ne_of_none hb hLo).symm
      refine ⟨b, Lo, 70, _, rfl, h0.bag.same sL, by decide, nLo, upd_same, (by show 0 < 9; decide), (by show 9 ≤ 1000; decide), fun i v H8 hi B8 f8 => ?_⟩
      have h8 := (h0.same sL).but B8 f8
      match i, hi with
      | 0, hi => exact ⟨v, rfl, by cases hi; exact .str (by decide +kernel) (by decide) (by decide +kernel), h8⟩
      | 1, hi => exact ⟨v, rfl, by cases hi; exact .str (by decide +kernel) (by decide) (by decide +kernel), h8⟩
      | 2, hi => exact ⟨v, rfl, by cases hi; exact .str (by decide +kernel) (by decide) (by decide +kernel), h8⟩
      | 3, hi => exact ⟨v, rfl, by cases hi; exact .str (by decide +kernel) (by decide) (by decide +kernel), h8⟩
      | 4, hi => exact ⟨v, rfl, by cases hi; exact .str (by decide +kernel) (by decide) (by decide +kernel), h8⟩
      | 5, hi => exact ⟨v, rfl, by cases hi; exact .str (by decide +kernel) (by decide) (by decide +kernel), h8⟩
      | 6, hi => exact ⟨v, rfl, by cases hi; exact .int, h8⟩
      | 7, hi => exact ⟨v, rfl, by cases hi; exact .non, h8⟩
      | 8, hi => exact ⟨v, rfl, by cases hi; exact .yes, h8⟩
    clear h0 H1
    rintro σ H1 ⟨v, rfl, wr, h0⟩
    refine ⟨fun σ H' => ∃ u : Addr, σ = [some (.ref a), some (.ref b), some (.ref nA), some v, some (.ref u), none, none, none, none, none, none, none, none, none, none, none, none] ∧ UnsAt CR CU H' u (φN 1) ∧ HB PT H' b nA (71) zs, ?_, ?_⟩
    · exact uns_made φ1_ok fun x H' ux s => ⟨x, rfl, ux, h0.same s⟩
    clear h0 H1
    rintro σ H1 ⟨u, rfl, ux, h0⟩
    refine ⟨fun σ H' => ∃ fM cM : Addr, σ = [some (.ref a), some (.ref b), some (.ref nA), some v, some (.ref u), some (.ref fM), none, none, none, none, none, none, none, none, none, none, none] ∧ HF (envOfC "law" (defScope sLaw) s.heap.objs.size f (.ref c)).cells CR CU H' u fM cM ∧ HB PT H' b nA (71) zs, ?_, ?_⟩
    · exact ⟨h0.T, fun fM cM H4 e4 nn T4 n4 hf4 hc4 => ⟨fM, cM, rfl, ⟨UnsAt.extN ux e4, hf4, hc4⟩, h0.extN e4 T4⟩⟩
    clear h0 ux H1
    rintro σ H1 ⟨fM, cM, rfl, hF, h0⟩
    refine ⟨fun σ H' => ∃ k : Nat, σ = [some (.ref a), some (.ref b), some (.ref nA), some v, some (.ref u), some (.ref fM), some (.int (k : Int)), none, none, none, none, none, none, none, none, none, none] ∧ k ≤ 2 ∧ HF (envOfC "law" (defScope sLaw) s.heap.objs.size f (.ref c)).cells CR CU H' u fM cM ∧ HB PT H' b nA (72) zs, ?_, ?_⟩
    · refine ⟨_, rfl, b, 3, 71, rfl, by decide, by decide, h0.bag, by decide, fun r H5 r0 r3 B5 f5 => ?_⟩
      obtain ⟨ys, hb⟩ := h0.bag.lst
      obtain ⟨k, rfl⟩ := Int.eq_ofNat_of_zero_le r0
      exact ⟨k, rfl, by omega, hF.but hb f5, h0.but B5 f5⟩
    clear h0 hF H1
    rintro σ H1 ⟨k, rfl, k2, hF, h0⟩
    refine ⟨fun σ H' => ∃ bA : Addr, σ = [some (.ref a), some (.ref b), some (.ref nA), some v, some (.ref u), some (.ref fM), some (.int (k : Int)), some (.ref bA), none, none, none, none, none, none, none, none, none] ∧ H' bA = some (.lst (badL zs k v)) ∧ bA ≠ b ∧ HF (envOfC "law" (defScope sLaw) s.heap.objs.size f (.ref c)).cells CR CU H' u fM cM ∧ HB PT H' b nA (72) zs, ?_, ?_⟩
    · obtain ⟨ys, hb⟩ := h0.bag.lst
      refine ⟨_, rfl, _, rfl, (k : Int), rfl, nA, _, rfl, .of h0.hn, fun p hp => ⟨_, rfl, (by show 1 ≤ sizeLine; decide), fun p2 hp2 => ?_⟩⟩
      rw [cut_a len k2] at hp2 ⊢
      have s1 := same_upd (o := .lst ((zs.take k).map V.str)) hp
      have s2 := same_upd (o := .lst [v]) hp2
      refine ⟨p, p2, (zs.take k).map V.str, [v], rfl, rfl, s2 _ _ upd_same, upd_same, ?_, fun p3 hp3 => ?_⟩
      · rw [List.length_map, List.length_take]
        exact fit (m := 4) (by show min k zs.length + 1 ≤ 4; omega) (by decide)
      have s3 := same_upd (o := .lst ((zs.take k).map V.str ++ [v])) hp3
      have t3 := (s1.trans s2).trans s3
      refine ⟨_, rfl, _, rfl, (k : Int), rfl, 2, rfl, nA, _, rfl, .of (t3 _ _ h0.hn), fun p4 hp4 => ?_⟩
      rw [cut_b len k2]
      have s4 := same_upd (o := .lst (((zs.take 2).drop k).map V.str)) hp4
      refine ⟨p3, p4, (zs.take k).map V.str ++ [v], ((zs.take 2).drop k).map V.str, rfl, rfl, s4 _ _ upd_same, upd_same, ?_, fun p5 hp5 => ?_⟩
      · rw [List.length_append, List.length_map, List.length_take, List.length_map, List.length_drop, List.length_take]
        exact fit (m := 10) (by show min k zs.length + 1 + (min 2 zs.length - k) ≤ 10; omega) (by decide)
      have s5 := same_upd (o := .lst (((zs.take k).map V.str ++ [v]) ++ ((zs.take 2).drop k).map V.str)) hp5
      have S := (t3.trans s4).trans s5
      refine ⟨p5, rfl, ?_, (ne_of_none ((t3.trans s4) _ _ hb) hp5).symm, hF.same S, h0.same S⟩
      rw [upd_same]
      unfold badL
      rw [List.append_assoc]
      rfl
    clear h0 hF H1
    rintro σ H1 ⟨bA, rfl, hbA, nbA, hF, h0⟩
    refine ⟨fun σ H' => ∃ (LA : Addr) (ts : List Addr), σ = [some (.ref a), some (.ref b), some (.ref nA), some v, some (.ref u), some (.ref fM), some (.int (k : Int)), some (.ref bA), some (.ref LA), none, none, none, none, none, none, none, none] ∧ HC K CN CT CL (envOfC "law" (defScope sLaw) s.heap.objs.size f (.ref c)).cells H' b bA LA zs k v ts ∧ HF (envOfC "law" (defScope sLaw) s.heap.objs.size f (.ref c)).cells CR CU H' u fM cM ∧ HB PT H' b nA (72) zs, ?_, ?_⟩
    · refine cbox_of h0.T rfl rfl h0.hn len fun H7 ts e7 T7 tr => ⟨?_, fun LA hLA => ?_⟩
      · rw [List.length_map, tr.at.1, dsT_len]
        decide
      · have sL := same_upd (o := .lst (ts.map V.ref)) hLA
        have h7 := h0.extN e7 T7
        obtain ⟨ys, hb⟩ := h7.bag.lst
        exact ⟨LA, ts, rfl, ⟨sL _ _ (e7 _ _ hbA (fun ps z => by cases z)), nbA, upd_same, (ne_of_none hb hLA).symm, tr.kp (Kp.of sL) (FldV.kp (Kp.of sL))⟩, (hF.extN e7).same sL, h7.same sL⟩
    clear h0 hF hbA H1
    rintro σ H1 ⟨LA, ts, rfl, hC, hF, h0⟩
    refine ⟨4, rfl, by decide, by decide, for_range (n := 4) (fun i σ H' => ∃ x9 x10 x11 x12 : Option V, σ = [some (.ref a), some (.ref b), some (.ref nA), some v, some (.ref u), some (.ref fM), some (.int (k : Int)), some (.ref bA), some (.ref LA), x9, x10, x11, x12, none, none, none, none] ∧ HC K CN CT CL (envOfC "law" (defScope sLaw) s.heap.objs.size f (.ref c)).cells H' b bA LA zs k v ts ∧ HF (envOfC "law" (defScope sLaw) s.heap.objs.size f (.ref c)).cells CR CU H' u fM cM ∧ HB PT H' b nA (72 + i) zs) ⟨none, none, none, none, rfl, hC, hF, h0⟩ ?_ ?_⟩
    · clear hC hF h0 H1
      rintro i σ H3 hi ⟨x9, x10, x11, x12, rfl, hC, hF, h0⟩
      refine ⟨fun σ H' => ∃ (j : Nat) (ff c' : Addr) (x : V), j < 7 ∧ σ = [some (.ref a), some (.ref b), some (.ref nA), some v, some (.ref u), some (.ref fM), some (.int (k : Int)), some (.ref bA), some (.ref LA), some (.int (0 + (i : Int))), some (.ref ff), some (.str (code j)), some x, none, none, none, none] ∧ LamAt (envOfC "law" (defScope sLaw) s.heap.objs.size f (.ref c)).cells qn H' (dL K CN CT CL (envOfC "law" (defScope sLaw) s.heap.objs.size f (.ref c)).cells j) ff c' ∧ FldV zs v j x H' ∧ HC K CN CT CL (envOfC "law" (defScope sLaw) s.heap.objs.size f (.ref c)).cells H' b bA LA zs k v ts ∧ HF (envOfC "law" (defScope sLaw) s.heap.objs.size f (.ref c)).cells CR CU H' u fM cM ∧ HB PT H' b nA (73 + i) zs, ?_, ?_⟩
      · refine ⟨_, rfl, _, rfl, b, 7, 72 + i, rfl, by decide, by decide, h0.bag, by omega, fun r H4 r0 r7 B4 f4 => ?_⟩
        obtain ⟨j, rfl⟩ := Int.eq_ofNat_of_zero_le r0
        have hj : j < 7 := by omega
        obtain ⟨t, ff, c', x, et, ht, la, fx⟩ := hC.tr.at.2 j _ _ _ (dsT_at hj)
        obtain ⟨ys, hb⟩ := h0.bag.lst
        have kp : Kp H3 H4 := Kp.but hb f4.1
        have B5 : BagAt H4 b (73 + i) := by
          have e : 72 + i + 1 = 73 + i := by omega
          rw [← e]
          exact B4
        exact ⟨LA, _, _, _, rfl, rfl, .of (f4.1 _ _ hC.hL hC.Lb), atI_nat (by rw [List.getElem?_map, et]; rfl), t, _, rfl, .of (kp.tup _ _ ht), rfl, _, _, rfl, _, _, rfl, _, _, rfl, rfl, j, ff, c', x, hj, rfl, la.kp kp, FldV.kp kp _ _ fx, hC.but hb f4, hF.but hb f4, h0.but B5 f4⟩
      · clear hC hF h0 H3
        rintro σ H4 ⟨j, ff, c', x, hj, rfl, la, fx, hC, hF, h0⟩
        have cx : CxL (envOfC "law" (defScope sLaw) s.heap.objs.size f (.ref c)).cells [some (.ref a), some (.ref b), some (.ref nA), some v, some (.ref u), some (.ref fM), some (.int (k : Int)), some (.ref bA), some (.ref LA), some (.int (0 + (i : Int))), some (.ref ff), some (.str (code j)), some x, none, none, none, none] H4 zs k v u nA bA fM cM := ⟨rfl, rfl, rfl, rfl, rfl, h0.hn, hC.hb, hF.hf, hF.hc, len, nd, nm, k2, wr⟩
        refine ⟨_, rfl, ff, c', dL K CN CT CL (envOfC "law" (defScope sLaw) s.heap.objs.size f (.ref c)).cells j, List.mem_map.mpr ⟨j, List.mem_range.mpr hj, rfl⟩, rfl, la, la.fn, lr cx j hj (fly_told EN ET EL wr j hj fx fun t H5 y ht s5 lk5 => ?_)⟩
        refine ⟨_, rfl, _, rfl, (by show 2 ≤ sizeLine; decide), fun t2 n2 => ?_⟩
        have s6 := same_upd (o := .tup [.str (code j), x]) n2
        refine ⟨.ref t, .ref t2, rfl, like_tup2 (s6 _ _ ht) upd_same (like_str _ 2) (lk5 _ s6), fun H7 s7 => ⟨_, rfl, iteF ?_⟩⟩
        have S := (s5.trans s6).trans s7
        have e : 73 + i = 72 + (i + 1) := by omega
        rw [e] at h0
        exact ⟨_, _, _, _, rfl, hC.same S, hF.same S, h0.same S⟩
    clear hC hF h0 H1
    rintro σ H1 ⟨x9, x10, x11, x12, rfl, hC, hF, h0⟩
    obtain ⟨z0, z1, z2, z3, z4, z5, z6, z7, z8, z9, rfl⟩ := ten len
    have wi : WIn [z0, z1, z2, z3] [z4, z5, z6, z7] := ⟨nd.sublist (show ([z0, z1, z2, z3] ++ [z4, z5, z6, z7]).Sublist [z0, z1, z2, z3, z4, z5, z6, z7, z8, z9] from List.take_sublist 8 [z0, z1, z2, z3, z4, z5, z6, z7, z8, z9]), fun z m => nm z ((show ([z0, z1, z2, z3] ++ [z4, z5, z6, z7]).Sublist [z0, z1, z2, z3, z4, z5, z6, z7, z8, z9] from List.take_sublist 8 [z0, z1, z2, z3, z4, z5, z6, z7, z8, z9]).mem m), (by show 4 ≤ 4; decide), (by show 4 ≤ 4; decide)⟩
    refine ⟨fun σ H' => ∃ (W : Addr) (wy : List Str), σ = [some (.ref a), some (.ref b), some (.ref nA), some v, some (.ref u), some (.ref fM), some (.int (k : Int)), some (.ref bA), some (.ref LA), x9, x10, x11, x12, some (.ref W), none, none, none] ∧ wy.Perm [z4, z5, z6, z7] ∧ WorldAt CR CU CW H' W [z0, z1, z2, z3] wy (fun _ => φN 1) ([z0, z1, z2, z3] ++ [z4, z5, z6, z7]) ∧ HB PT H' b nA (76) [z0, z1, z2, z3, z4, z5, z6, z7, z8, z9], ?_, ?_⟩
    · refine ⟨fM, cM, rfl, hF.hf, _, rfl, 4, rfl, nA, _, rfl, .of h0.hn, fun p hp => ⟨_, rfl, 4, rfl, 8, rfl, nA, _, rfl, .of ((same_upd hp) _ _ h0.hn), fun p' hp' => ?_⟩⟩
      have s1 := same_upd (o := .lst ([z0, z1, z2, z3].map V.str)) hp
      have s2 := same_upd (o := .lst ([z4, z5, z6, z7].map V.str)) hp'
      have S := s1.trans s2
      exact ⟨S _ _ hF.hf, S _ _ hF.hc, u, p, p', [z0, z1, z2, z3], [z4, z5, z6, z7], rfl, rfl, s2 _ _ upd_same, upd_same, hF.un.same S, φ1_ok, wi, fun W H' wy py wa sw => ⟨W, wy, rfl, py, wa, h0.same (S.trans sw)⟩⟩
    clear hC hF h0 H1
    rintro σ H1 ⟨W, wy, rfl, py, wa, h0⟩
    have lw : wy.length = 4 := by rw [py.length_eq]; rfl
    refine ⟨fun σ H' => ∃ vf : V, σ = [some (.ref a), some (.ref b), some (.ref nA), some v, some (.ref u), some (.ref fM), some (.int (k : Int)), some (.ref bA), some (.ref LA), x9, x10, x11, x12, some (.ref W), some vf, none, none] ∧ FarV H' vf wy ∧ WorldAt CR CU CW H' W [z0, z1, z2, z3] wy (fun _ => φN 1) ([z0, z1, z2, z3] ++ [z4, z5, z6, z7]) ∧ HB PT H' b nA (77) [z0, z1, z2, z3, z4, z5, z6, z7, z8, z9], ?_, ?_⟩
    · obtain ⟨ys, hb⟩ := h0.bag.lst
      refine ⟨_, rfl, _, rfl, nA, _, 0, _, rfl, rfl, .of h0.hn, rfl, _, rfl, nA, _, 8, _, rfl, rfl, .of h0.hn, rfl, _, rfl, (by show 1 ≤ sizeLine; decide), fun l hl => ⟨(by show 5 ≤ sizeLine; decide), fun Lo hLo => ?_⟩⟩
      have sl := same_upd (o := .lst [V.str "x"]) hl
      have sL := same_upd (o := .lst [V.str z0, .str z8, v, .ref l, .str ""]) hLo
      have S := sl.trans sL
      have nLo : Lo ≠ b := (ne_of_none (sl _ _ hb) hLo).symm
      have nl : l ≠ b := (ne_of_none hb hl).symm
      refine ⟨b, Lo, 76, _, rfl, h0.bag.same S, by decide, nLo, upd_same, (by show 0 < 5; decide), (by show 5 ≤ 1000; decide), fun i vf H8 hi B8 f8 => ?_⟩
      have h8 := (h0.same S).but B8 f8
      have w8 := WorldAt.but (wa.same S) (h0.bag.same S) f8
      have hl2 : H8 l = some (.lst [.str "x"]) := f8.1 _ _ (sL _ _ upd_same) nl
      have out : ∀ z, z ∉ [z4, z5, z6, z7] → z ∉ wy := fun z n m => n (py.mem_iff.mp m)
      match i, hi with
      | 0, hi => exact ⟨vf, rfl, by cases hi; exact .inr (.inl ⟨z0, rfl, nm z0 (by simp), out _ (notin0 nd)⟩), w8, h8⟩
      | 1, hi => exact ⟨vf, rfl, by cases hi; exact .inr (.inl ⟨z8, rfl, nm z8 (by simp), out _ (notin8 nd)⟩), w8, h8⟩
      | 2, hi => exact ⟨vf, rfl, by cases hi; exact .inl wr, w8, h8⟩
      | 3, hi => exact ⟨vf, rfl, by cases hi; exact .inr (.inr ⟨l, rfl, hl2⟩), w8, h8⟩
      | 4, hi => exact ⟨vf, rfl, by cases hi; exact .inl (.str (by decide +kernel) (by decide) (by decide +kernel)), w8, h8⟩
    clear h0 wa H1
    rintro σ H1 ⟨vf, rfl, far, wa, h0⟩
    refine ⟨fun σ H' => ∃ (L f0 f1 f2 : Addr), σ = [some (.ref a), some (.ref b), some (.ref nA), some v, some (.ref u), some (.ref fM), some (.int (k : Int)), some (.ref bA), some (.ref LA), x9, x10, x11, x12, some (.ref W), some vf, some (.ref L), none] ∧ H' L = some (.lst [.ref f0, .ref f1, .ref f2]) ∧ Asks K CR CU CW CK CF (envOfC "law" (defScope sLaw) s.heap.objs.size f (.ref c)).cells H' f0 f1 f2 ∧ FarV H' vf wy ∧ WorldAt CR CU CW H' W [z0, z1, z2, z3] wy (fun _ => φN 1) ([z0, z1, z2, z3] ++ [z4, z5, z6, z7]) ∧ HB PT H' b nA (77) [z0, z1, z2, z3, z4, z5, z6, z7, z8, z9], ?_, ?_⟩
    · refine abox_of h0.T fun H3 f0 f1 f2 e3 T3 as => ⟨(by show 3 ≤ sizeLine; decide), fun L hL => ?_⟩
      have sL := same_upd (o := .lst [V.ref f0, .ref f1, .ref f2]) hL
      exact ⟨L, f0, f1, f2, rfl, upd_same, as.kp (Kp.of sL), (FarV.extN far e3).same sL, (WorldAt.extN wa e3).same sL, (h0.extN e3 T3).same sL⟩
    clear far wa h0 H1
    rintro σ H1 ⟨L, f0, f1, f2, rfl, hL, as, far, wa, h0⟩
    refine ⟨fun σ H' => ∃ (D u0 u1 u2 : Addr), σ = [some (.ref a), some (.ref b), some (.ref nA), some v, some (.ref u), some (.ref fM), some (.int (k : Int)), some (.ref bA), some (.ref LA), x9, x10, x11, x12, some (.ref W), some vf, some (.ref L), some (.ref D)] ∧ H' D = some (.lst [.ref u0, .ref u1, .ref u2]) ∧ H' u0 = some (.tup [.str "UnknownName", vf]) ∧ H' u1 = some (.tup [.str "UnknownName", vf]) ∧ H' u2 = some (.tup [.str "InvalidFact", .str "arity"]) ∧ H' L = some (.lst [.ref f0, .ref f1, .ref f2]) ∧ Asks K CR CU CW CK CF (envOfC "law" (defScope sLaw) s.heap.objs.size f (.ref c)).cells H' f0 f1 f2 ∧ FarV H' vf wy ∧ WorldAt CR CU CW H' W [z0, z1, z2, z3] wy (fun _ => φN 1) ([z0, z1, z2, z3] ++ [z4, z5, z6, z7]) ∧ HB PT H' b nA (77) [z0, z1, z2, z3, z4, z5, z6, z7, z8, z9], ?_, ?_⟩
    · refine ⟨_, rfl, (by show 2 ≤ sizeLine; decide), fun u0 n0 => ⟨_, rfl, (by show 2 ≤ sizeLine; decide), fun u1 n1 => ⟨(by show 2 ≤ sizeLine; decide), fun u2 n2 => ⟨(by show 3 ≤ sizeLine; decide), fun D hD => ?_⟩⟩⟩⟩
      have q0 := same_upd (o := .tup [.str "UnknownName", vf]) n0
      have q1 := same_upd (o := .tup [.str "UnknownName", vf]) n1
      have q2 := same_upd (o := .tup [.str "InvalidFact", .str "arity"]) n2
      have q3 := same_upd (o := .lst [V.ref u0, .ref u1, .ref u2]) hD
      have S := ((q0.trans q1).trans q2).trans q3
      exact ⟨D, u0, u1, u2, rfl, upd_same, ((q1.trans q2).trans q3) _ _ upd_same, (q2.trans q3) _ _ upd_same, q3 _ _ upd_same, S _ _ hL, as.kp (Kp.of S), far.same S, wa.same S, h0.same S⟩
    clear hL as far wa h0 H1
    rintro σ H3 ⟨D, u0, u1, u2, rfl, hD, hu0, hu1, hu2, hL, as, far, wa, h0⟩
    have n5 : ∃ n, [z0, z1, z2, z3, z4, z5, z6, z7, z8, z9][5]? = some n ∧ n ∈ wy := ⟨z5, rfl, py.mem_iff.mpr (by simp)⟩
    have tupE : ∀ {Hx : Hp} {t : Addr} {xs' : List V}, Hx t = some (.tup xs') → ∀ {C : Addr} {xs : List V}, Hx C = some (.lst xs) → C ≠ t := fun h1 C xs h2 z => by
      rw [z, h1] at h2
      cases h2
    refine ⟨_, rfl, L, rfl, ⟨_, .of hL⟩, fun C hC => lc_list (xs := [.ref f0, .ref f1, .ref f2]) (fun i H' => Same H3 H' ∧ ∃ t0 t1 t2 : Addr, H' C = some (.lst ([V.ref t0, .ref t1, .ref t2].take i)) ∧ (0 < i → H' t0 = some (.tup [.str "UnknownName", vf])) ∧ (1 < i → H' t1 = some (.tup [.str "UnknownName", vf])) ∧ (2 < i → H' t2 = some (.tup [.str "InvalidFact", .str "arity"]))) ⟨same_upd hC, 0, 0, 0, upd_same, fun z => absurd z (by decide), fun z => absurd z (by decide), fun z => absurd z (by decide)⟩ (fun i H' _ z => .of (z.1 _ _ hL)) ?_ ?_⟩
    · rintro j x H4 hx ⟨s4, t0, t1, t2, hC4, p0, p1, p2⟩
      refine ⟨rfl, ?_⟩
      have as4 := as.kp (Kp.of s4)
      have cx : CxA CR CU CW [some (.ref a), some (.ref b), some (.ref nA), some v, some (.ref u), some (.ref fM), some (.int (k : Int)), some (.ref bA), some (.ref LA), x9, x10, x11, x12, some (.ref W), some vf, some (.ref L), some (.ref D)] H4 W nA [z0, z1, z2, z3, z4, z5, z6, z7, z8, z9] [z0, z1, z2, z3] wy ([z0, z1, z2, z3] ++ [z4, z5, z6, z7]) vf := ⟨rfl, rfl, rfl, s4 _ _ h0.hn, wa.same s4, far.same s4, n5⟩
      match j, hx, hC4, p0, p1 with
      | 0, hx, hC4, p0, p1 =>
        obtain rfl := Option.some.inj hx
        obtain ⟨c0, la⟩ := as4.a0
        refine ⟨_, rfl, .inl ⟨f0, c0, e0 K CR CU CW CK CF, List.mem_singleton.mpr rfl, rfl, la, la.fn, ar0 cx (told_UnknownName EK fun u H6 hu s6 => ?_)⟩⟩
        have nu := tupE hu (s6 _ _ hC4)
        exact ⟨_, s6 _ _ hC4, (by show 0 < sizeLine; decide), Same.put (s4.trans s6) hC, u, 0, 0, upd_same, fun _ => (upd_ne nu.symm).trans hu, fun z => absurd z (by omega), fun z => absurd z (by omega)⟩
      | 1, hx, hC4, p0, p1 =>
        obtain rfl := Option.some.inj hx
        obtain ⟨c0, T', la⟩ := as4.a1
        refine ⟨_, rfl, .inr ⟨f1, c0, T', e1 K CR CU CW CK CF, List.mem_cons_self, rfl, la, la, ar1 cx (told_UnknownName EK fun u H6 hu s6 => ?_)⟩⟩
        have nu := tupE hu (s6 _ _ hC4)
        have h0' := s6 _ _ (p0 (by decide))
        exact ⟨_, s6 _ _ hC4, (by show 1 < sizeLine; decide), Same.put (s4.trans s6) hC, t0, u, 0, upd_same, fun _ => (upd_ne (tupE h0' (s6 _ _ hC4)).symm).trans h0', fun _ => (upd_ne nu.symm).trans hu, fun z => absurd z (by omega)⟩
      | 2, hx, hC4, p0, p1 =>
        obtain rfl := Option.some.inj hx
        obtain ⟨c0, T', la⟩ := as4.a2
        refine ⟨_, rfl, .inr ⟨f2, c0, T', e2 K CR CU CW CK CF, List.mem_cons_of_mem _ List.mem_cons_self, rfl, la, la, ar2 cx (told_InvalidFact EF fun u H6 hu s6 => ?_)⟩⟩
        have nu := tupE hu (s6 _ _ hC4)
        have h0' := s6 _ _ (p0 (by decide))
        have h1' := s6 _ _ (p1 (by decide))
        exact ⟨_, s6 _ _ hC4, (by show 2 < sizeLine; decide), Same.put (s4.trans s6) hC, t0, t1, u, upd_same, fun _ => (upd_ne (tupE h0' (s6 _ _ hC4)).symm).trans h0', fun _ => (upd_ne (tupE h1' (s6 _ _ hC4)).symm).trans h1', fun _ => (upd_ne nu.symm).trans hu⟩
    · rintro H4 ⟨s4, t0, t1, t2, hC4, p0, p1, p2⟩
      have far4 := far.same s4
      refine ⟨_, rfl, .ref C, .ref D, rfl, like_lst3 hC4 (s4 _ _ hD) (like_tup2 (p0 (show 0 < 3 by decide)) (s4 _ _ hu0) (like_str _ 1) (like_far far4 0)) (like_tup2 (p1 (show 1 < 3 by decide)) (s4 _ _ hu1) (like_str _ 1) (like_far far4 0)) (like_tup2 (p2 (show 2 < 3 by decide)) (s4 _ _ hu2) (like_str _ 1) (like_str _ 1)), fun H9 s9 => ?_⟩
      have w9 := (wa.same s4).same s9
      obtain ⟨dx, fs, hW, _⟩ := w_attr w9 "zz"
      refine ⟨true, rfl, iteT ⟨_, rfl, W, dx, fs, rfl, hW, W, [z0, z1, z2, z3], wy, _, [z0, z1, z2, z3] ++ [z4, z5, z6, z7], rfl, w9, 8, rfl, by decide, by decide, rfl, q _⟩⟩
end
end K09

set_option Elab.async false
set_option linter.all false
set_option maxRecDepth 100000
set_option maxHeartbeats 8000000
namespace K09
open PySem PySem.Spec PyProof.Rows L2 Ux ClX NdefX
def isB (a : Option (Option Value)) (v : Value) : Bool := decide (a = some (some v))
def isN (a : Option (Option Value)) : Bool := decide (a = some none)
theorem isB_of {a : Option (Option Value)} {v : Value} (h : isB a v = true) : a = some (some v) := of_decide_eq_true h
theorem isN_of {a : Option (Option Value)} (h : isN a = true) : a = some none := of_decide_eq_true h
/-- what every class of the text has -/
def chC (K : PySem.W.Frag) (C f : Addr) : Bool := PySem.W.plainGet K C Str.empty && (PySem.W.hasDictIn K C && (PySem.W.plainOver K C && (isB (PySem.W.findIn K (.ref C) "__setattr__") (.builtin "object.__setattr__") &&
  (isB (PySem.W.findIn K (.ref C) "__class__") (.builtin "object.__class__") && (decide (PySem.W.mroIn K C (.type "object") = some true) && (decide (PySem.W.kitOne K (.ref C) (.ref C) = some true) &&
  (PySem.W.makesIn K C && (isB (PySem.W.findIn K (.ref C) "__init__") (.ref f) && (PySem.W.isFn K (.ref f) && PySem.W.keepIn K (.ref C))))))))))
def chM (K : PySem.W.Frag) (C : Addr) (m : Str) (f : Addr) : Bool := isB (PySem.W.findIn K (.ref C) m) (.ref f) && PySem.W.isFn K (.ref f)
def chR (K : PySem.W.Frag) (C fi fe fs : Addr) : Bool := chC K C fi && (isN (PySem.W.findIn K (.ref C) "top") && (isN (PySem.W.findIn K (.ref C) "bottom") && (decide (PySem.W.kitOne K (.type "int") (.ref C) = some false) && (decide (PySem.W.kitOne K (.type "NoneType") (.ref C) = some false) &&
  (chM K C "__eq__" fe && (chM K C "__str__" fs && PySem.W.notFirst K C (.type "int")))))))
def chU (K : PySem.W.Frag) (C fi fe fs : Addr) : Bool := chC K C fi && ((isN (PySem.W.findIn K (.ref C) "arity") && (isN (PySem.W.findIn K (.ref C) "mirror") && (isN (PySem.W.findIn K (.ref C) "centre") && (isN (PySem.W.findIn K (.ref C) "degree") && (isN (PySem.W.findIn K (.ref C) "swap") && isN (PySem.W.findIn K (.ref C) "text")))))) &&
  (decide (PySem.W.kitOne K (.type "str") (.ref C) = some false) && (PySem.W.notFirst K C (.ref C) && (PySem.W.notFirst K C (.type "str") && (chM K C "__eq__" fe && (chM K C "__str__" fs && (isB (PySem.W.findIn K (.ref C) "__ne__") (.builtin "object.__ne__") &&
  isB (PySem.W.findIn K (.ref C) "__format__") (.builtin "object.__format__"))))))))
def chMe (K : PySem.W.Frag) (C : Addr) (m : Str) (f : Addr) : Bool := chM K C m f && PySem.W.keepIn K (.ref f)
def chMost (K : PySem.W.Frag) (C : Addr) : Bool := match PySem.W.findCls K (.ref C) (.type "type") "MOST" with
  | some (.val (.int i _)) => i == 4
  | _ => false
def chW (K : PySem.W.Frag) (C fi ffa fwi fle : Addr) : Bool := chC K C fi && ((isN (PySem.W.findIn K (.ref C) "_inputs") && (isN (PySem.W.findIn K (.ref C) "_facts") && (isN (PySem.W.findIn K (.ref C) "_names") && isN (PySem.W.findIn K (.ref C) "text")))) &&
  (decide (PySem.W.kitOne K (.type "str") (.ref C) = some false) && (PySem.W.notFirst K C (.ref C) && (PySem.W.notFirst K C (.type "str") && (PySem.W.readsIn K C (.type "type") && (isB (PySem.W.specialIn K (.ref C) "__getattribute__") (.builtin "type.__getattribute__") && (chMost K C &&
  (chMe K C "fact" ffa && (chMe K C "with_fact" fwi && chM K C "__len__" fle)))))))))
abbrev veB : List Value := [.type "ValueError", .type "Exception", .type "BaseException", .type "object"]
abbrev leB : List Value := [.type "LookupError", .type "Exception", .type "BaseException", .type "object"]
def chB (K : PySem.W.Frag) (C : Addr) (ini : String) : Bool :=
  isB (PySem.W.specialIn K (.ref C) "__getattribute__") (.builtin "type.__getattribute__") && (PySem.W.readsIn K C (.type "type") && PySem.W.handedIn (.builtin ini))
def chE (K : PySem.W.Frag) (ve : Bool) (C CS CM f : Addr) : Bool :=
  PySem.W.excInitIn K C (if ve = true then veB else leB) (if ve = true then "ValueError.__new__" else "LookupError.__new__") && (PySem.W.excOver K C (if ve = true then veB else leB) && (PySem.W.hasDictIn K C && (isB (PySem.W.findIn K (.ref C) "__setattr__") (.builtin "object.__setattr__") && (PySem.W.keepIn K (.ref C) && (isB (PySem.W.findIn K (.ref C) "__getattribute__") (.builtin "BaseException.__getattribute__") &&
  (isN (PySem.W.findIn K (.ref C) "__getattr__") && (decide (PySem.W.subIn K (.ref C) (.type "BaseException") = some true) && (fieldNames.all (fun x => isN (PySem.W.findIn K (.ref C) x)) && (decide (PySem.W.exmAny K (.ref C) [.ref CS, .ref CM] = some true) &&
  (decide (PySem.W.typeIn K (.ref C) = some (.type "type")) && decide (PySem.W.typeIn K (.ref f) = some (.type "function"))))))))))))
def chG (K : PySem.W.Frag) : Bool := isB (PySem.W.specialIn K (.builtin "object.__class__") "__get__") (.builtin "getset_descriptor.__get__") && decide (PySem.W.takesIn K (.builtin "object.__class__") = some true)
theorem er_of {K : PySem.W.Frag} {mg : Str → Option Value} {ve : Bool} {C CS CM f : Addr} {x : Str} {fs : List Str} (h : chE K ve C CS CM f = true) (gl : mg x = some (.ref C)) (ini : PySem.W.findIn K (.ref C) "__init__" = some (some (.ref f))) (hf : ∀ y ∈ fs, y ∈ fieldNames) : ER K mg x (if ve = true then "ValueError.__init__" else "LookupError.__init__") fs C f ∧ Ek K CS CM C := by
  simp only [chE, Bool.and_eq_true] at h
  obtain ⟨i1, i2, i3, i4, i5, i6, i7, i8, i9, i10, i11, i12⟩ := h
  have no : ∀ f ∈ fieldNames, PySem.W.findIn K (.ref C) f = some none := fun f hf => isN_of (List.all_eq_true.mp i9 f hf)
  have EC : EcI K (if ve = true then "ValueError.__init__" else "LookupError.__init__") C := by
    cases ve with
    | true => exact ⟨_, _, _, ⟨PySem.F.excBase_ValueError, PySem.F.store_ValueError, i1, i2, i3, isB_of i4, i5, isB_of i6, isN_of i7, of_decide_eq_true i8⟩⟩
    | false => exact ⟨_, _, _, ⟨PySem.F.excBase_LookupError, PySem.F.store_LookupError, i1, i2, i3, isB_of i4, i5, isB_of i6, isN_of i7, of_decide_eq_true i8⟩⟩
  exact ⟨⟨gl, EC, of_decide_eq_true i11, no _ (by decide +kernel), fun y m => no y (hf y m), ini, of_decide_eq_true i12⟩, ⟨of_decide_eq_true i10, ⟨isB_of i6, isN_of i7, of_decide_eq_true i8, i3⟩, no⟩⟩
theorem cls_of {K : PySem.W.Frag} {C f : Addr} (h : chC K C f = true) : Cls K C ∧ PySem.W.findIn K (.ref C) "__class__" = some (some (.builtin "object.__class__")) ∧ PySem.W.mroIn K C (.type "object") = some true ∧ PySem.W.kitOne K (.ref C) (.ref C) = some true ∧ Mk K C f := by
  simp only [chC, Bool.and_eq_true] at h
  obtain ⟨h1, h2, h3, h4, h5, h6, h7, h8, h9, h10, h11⟩ := h
  exact ⟨⟨h1, h2, h3, isB_of h4⟩, isB_of h5, of_decide_eq_true h6, of_decide_eq_true h7, ⟨h8, isB_of h9, h10, h11⟩⟩
theorem own_of {K : PySem.W.Frag} {C : Addr} {m : Str} {f : Addr} (h : chM K C m f = true) : OwnM K C m f := ⟨isB_of (Bool.and_eq_true_iff.mp h).1, (Bool.and_eq_true_iff.mp h).2⟩
theorem rt_of {K : PySem.W.Frag} {mg : Str → Option Value} {C fi fe fs : Addr} (h : chR K C fi fe fs = true) (g : chG K = true) (gl : mg "Ratio" = some (.ref C)) : RT K mg C ∧ Mk K C fi ∧ OwnM K C "__eq__" fe ∧ OwnM K C "__str__" fs ∧ PySem.W.notFirst K C (.type "int") = true := by
  simp only [chR, Bool.and_eq_true] at h
  obtain ⟨h0, h1, h2, h3, h4, h5, h6, h7⟩ := h
  obtain ⟨c1, c2, c3, c4, c5⟩ := cls_of h0
  obtain ⟨g1, g2⟩ := Bool.and_eq_true_iff.mp g
  exact ⟨⟨c1, isN_of h1, isN_of h2, gl, c2, isB_of g1, of_decide_eq_true g2, c3, c4, of_decide_eq_true h3, of_decide_eq_true h4⟩, c5, own_of h5, own_of h6, h7⟩
theorem ut_of {K : PySem.W.Frag} {mg : Str → Option Value} {C fi fe fs : Addr} (h : chU K C fi fe fs = true) (g : chG K = true) (gl : mg "Unseen" = some (.ref C)) : UT K mg C ∧ Mk K C fi ∧ OwnM K C "__eq__" fe ∧ OwnM K C "__str__" fs ∧ NeO K C ∧ FmO K C := by
  simp only [chU, Bool.and_eq_true] at h
  obtain ⟨h0, ⟨n1, n2, n3, n4, n5, n6⟩, h1, h2, h3, h4, h5, h7, h8⟩ := h
  obtain ⟨c1, c2, c3, c4, c5⟩ := cls_of h0
  obtain ⟨g1, g2⟩ := Bool.and_eq_true_iff.mp g
  exact ⟨⟨c1, isN_of n1, isN_of n2, isN_of n3, isN_of n4, isN_of n5, isN_of n6, gl, c2, isB_of g1, of_decide_eq_true g2, c3, c4, of_decide_eq_true h1, h2, h3⟩, c5, own_of h4, own_of h5, ⟨isB_of h7, c3⟩, ⟨isB_of h8, c3⟩⟩
theorem me_of {K : PySem.W.Frag} {C : Addr} {m : Str} {f : Addr} (h : chMe K C m f = true) : Meth K C m f := by
  obtain ⟨h1, h2⟩ := Bool.and_eq_true_iff.mp h
  exact ⟨(own_of h1).at_, (own_of h1).fn, h2⟩
theorem most_of {K : PySem.W.Frag} {C : Addr} (h : chMost K C = true) : ∃ t, CVal K C (.type "type") "MOST" (.int 4) (.int 4 t) := by
  unfold chMost at h
  split at h
  · rename_i i t e
    obtain rfl : i = 4 := eq_of_beq h
    exact ⟨t, e, ⟨t, rfl⟩⟩
  · cases h
theorem wt_of {K : PySem.W.Frag} {mg : Str → Option Value} {C fi ffa fwi fle : Addr} (h : chW K C fi ffa fwi fle = true) (g : chG K = true) (gl : mg "World" = some (.ref C)) : WT K mg C (.type "type") ∧ Mk K C fi ∧ Meth K C "fact" ffa ∧ Meth K C "with_fact" fwi ∧ OwnM K C "__len__" fle := by
  simp only [chW, Bool.and_eq_true] at h
  obtain ⟨h0, ⟨n1, n2, n3, n4⟩, h1, h2, h3, h4, h5, h6, m3, m4, o2⟩ := h
  obtain ⟨c1, c2, c3, c4, c5⟩ := cls_of h0
  obtain ⟨g1, g2⟩ := Bool.and_eq_true_iff.mp g
  exact ⟨⟨c1, isN_of n1, isN_of n2, isN_of n3, isN_of n4, gl, c2, isB_of g1, of_decide_eq_true g2, c3, c4, of_decide_eq_true h1, h2, h3, ⟨h4, isB_of h5⟩, most_of h6⟩, c5, me_of m3, me_of m4, own_of o2⟩
theorem same_zero {P : Program} {w : World} {K : PySem.W.Frag} {mg : Str → Option Value} {base : Heap} {f : Addr} {fd : FuncData} : FnOk P w K mg base CX0 0 f fd ["_law_found", "_law_due"] (spSame 0) :=
  ⟨fun _ _ _ _ h => by obtain ⟨_, _, rfl, z, _⟩ := h; exact z.elim, fun _ _ _ _ _ _ _ _ _ _ _ _ _ h => by obtain ⟨_, _, _, z, _⟩ := h; exact z.elim⟩
theorem r_binds2 {K : PySem.W.Frag} {f : Addr} {fd : FuncData} (F : FunD K "__init__" "Ratio.__init__" (defArgs sRInit) (defBody sRInit) (defScope sRInit) [.int 1] [] f fd) : ∃ ds, Vals [V.int 1] ds ∧ Binds K fd ["self", "top", "bottom"] ds :=
  F.binds1 2 0 (by simp) rfl fun T kV doc pm an cdv ct us its h1 h2 => match us, its, h1, h2 with | [_, _], [_], _, _ => ⟨_, rfl, rfl⟩
theorem r_binds3 {K : PySem.W.Frag} {f : Addr} {fd : FuncData} (F : FunD K "__init__" "Ratio.__init__" (defArgs sRInit) (defBody sRInit) (defScope sRInit) [.int 1] [] f fd) : Binds K fd ["self", "top", "bottom"] [] := by
  obtain ⟨ds, v, b⟩ := F.binds1 (ps := ["self", "top", "bottom"]) 3 1 (by simp) rfl fun T kV doc pm an cdv ct us its h1 h2 => match us, its, h1, h2 with | [_, _, _], [_], _, _ => ⟨_, rfl, rfl⟩
  cases v
  exact b

theorem all_mk {l : PySem.W.OpenLaw} {w : World} {K : PySem.W.Frag} {h : Heap} {mg : Str → Option Value} {fa CR CU CW CN CT CL CF CK CS CM cL PT pK pM pS g_sho g_lfi g_lot g_why g_isi g_isn g_rof g_itx g_rtx g_nam g_chn g_wtx g_cho g_who g_mir g_cen g_deg g_swp g_chk g_ftx g_bag g_pul g_lof g_sam g_lna g_lnm g_law g_req g_rst g_ueq g_ust g_win g_wfa g_wwi g_wle g_iN g_iT g_iL g_iF g_iK T_rin g_rin T_uin g_uin DU : Addr} (X : K.In h) (G : h.Ns mainGlobals mg) (hfa : mg "law" = some (.ref fa)) (hPT : h.get? PT = some { cls := .none, data := .fields #[] }) (nPT : K.lookup PT = none) (hCH : PySem.W.CodeHd h cL PT)
    {od_sho an_sho : Option Addr} {sl_sho : Array (Option Value)} {oc_sho kV_sho dc_sho pm_sho cd_sho ct_sho : Value}
    {od_lfi an_lfi : Option Addr} {sl_lfi : Array (Option Value)} {oc_lfi kV_lfi dc_lfi pm_lfi cd_lfi ct_lfi : Value}
    {od_lot an_lot : Option Addr} {sl_lot : Array (Option Value)} {oc_lot kV_lot dc_lot pm_lot cd_lot ct_lot : Value}
    {od_why an_why : Option Addr} {sl_why : Array (Option Value)} {oc_why kV_why dc_why pm_why cd_why ct_why : Value}
    {od_isi an_isi : Option Addr} {sl_isi : Array (Option Value)} {oc_isi kV_isi dc_isi pm_isi cd_isi ct_isi : Value}
    {od_isn an_isn : Option Addr} {sl_isn : Array (Option Value)} {oc_isn kV_isn dc_isn pm_isn cd_isn ct_isn : Value}
    {od_rof an_rof : Option Addr} {sl_rof : Array (Option Value)} {oc_rof kV_rof dc_rof pm_rof cd_rof ct_rof : Value}
    {od_itx an_itx : Option Addr} {sl_itx : Array (Option Value)} {oc_itx kV_itx dc_itx pm_itx cd_itx ct_itx : Value}
    {od_rtx an_rtx : Option Addr} {sl_rtx : Array (Option Value)} {oc_rtx kV_rtx dc_rtx pm_rtx cd_rtx ct_rtx : Value}
    {od_nam an_nam : Option Addr} {sl_nam : Array (Option Value)} {oc_nam kV_nam dc_nam pm_nam cd_nam ct_nam : Value}
    {od_chn an_chn : Option Addr} {sl_chn : Array (Option Value)} {oc_chn kV_chn dc_chn pm_chn cd_chn ct_chn : Value}
    {od_wtx an_wtx : Option Addr} {sl_wtx : Array (Option Value)} {oc_wtx kV_wtx dc_wtx pm_wtx cd_wtx ct_wtx : Value}
    {od_cho an_cho : Option Addr} {sl_cho : Array (Option Value)} {oc_cho kV_cho dc_cho pm_cho cd_cho ct_cho : Value}
    {od_who an_who : Option Addr} {sl_who : Array (Option Value)} {oc_who kV_who dc_who pm_who cd_who ct_who : Value}
    {od_mir an_mir : Option Addr} {sl_mir : Array (Option Value)} {oc_mir kV_mir dc_mir pm_mir cd_mir ct_mir : Value}
    {od_cen an_cen : Option Addr} {sl_cen : Array (Option Value)} {oc_cen kV_cen dc_cen pm_cen cd_cen ct_cen : Value}
    {od_deg an_deg : Option Addr} {sl_deg : Array (Option Value)} {oc_deg kV_deg dc_deg pm_deg cd_deg ct_deg : Value}
    {od_swp an_swp : Option Addr} {sl_swp : Array (Option Value)} {oc_swp kV_swp dc_swp pm_swp cd_swp ct_swp : Value}
    {od_chk an_chk : Option Addr} {sl_chk : Array (Option Value)} {oc_chk kV_chk dc_chk pm_chk cd_chk ct_chk : Value}
    {od_ftx an_ftx : Option Addr} {sl_ftx : Array (Option Value)} {oc_ftx kV_ftx dc_ftx pm_ftx cd_ftx ct_ftx : Value}
    {od_bag an_bag : Option Addr} {sl_bag : Array (Option Value)} {oc_bag kV_bag dc_bag pm_bag cd_bag ct_bag : Value}
    {od_pul an_pul : Option Addr} {sl_pul : Array (Option Value)} {oc_pul kV_pul dc_pul pm_pul cd_pul ct_pul : Value}
    {od_lof an_lof : Option Addr} {sl_lof : Array (Option Value)} {oc_lof kV_lof dc_lof pm_lof cd_lof ct_lof : Value}
    {od_sam an_sam : Option Addr} {sl_sam : Array (Option Value)} {oc_sam kV_sam dc_sam pm_sam cd_sam ct_sam : Value}
    {od_lna an_lna : Option Addr} {sl_lna : Array (Option Value)} {oc_lna kV_lna dc_lna pm_lna cd_lna ct_lna : Value}
    {od_lnm an_lnm : Option Addr} {sl_lnm : Array (Option Value)} {oc_lnm kV_lnm dc_lnm pm_lnm cd_lnm ct_lnm : Value}
    {od_law an_law : Option Addr} {sl_law : Array (Option Value)} {oc_law kV_law dc_law pm_law ct_law : Value}
    {od_req an_req : Option Addr} {sl_req : Array (Option Value)} {oc_req kV_req dc_req pm_req cd_req ct_req : Value}
    {od_rst an_rst : Option Addr} {sl_rst : Array (Option Value)} {oc_rst kV_rst dc_rst pm_rst cd_rst ct_rst : Value}
    {od_ueq an_ueq : Option Addr} {sl_ueq : Array (Option Value)} {oc_ueq kV_ueq dc_ueq pm_ueq cd_ueq ct_ueq : Value}
    {od_ust an_ust : Option Addr} {sl_ust : Array (Option Value)} {oc_ust kV_ust dc_ust pm_ust cd_ust ct_ust : Value}
    {od_win an_win : Option Addr} {sl_win : Array (Option Value)} {oc_win kV_win dc_win pm_win cd_win ct_win : Value}
    {od_wfa an_wfa : Option Addr} {sl_wfa : Array (Option Value)} {oc_wfa kV_wfa dc_wfa pm_wfa cd_wfa ct_wfa : Value}
    {od_wwi an_wwi : Option Addr} {sl_wwi : Array (Option Value)} {oc_wwi kV_wwi dc_wwi pm_wwi cd_wwi ct_wwi : Value}
    {od_wle an_wle : Option Addr} {sl_wle : Array (Option Value)} {oc_wle kV_wle dc_wle pm_wle cd_wle ct_wle : Value}
    {od_iN an_iN : Option Addr} {sl_iN : Array (Option Value)} {oc_iN kV_iN dc_iN pm_iN cd_iN ct_iN : Value}
    {od_iT an_iT : Option Addr} {sl_iT : Array (Option Value)} {oc_iT kV_iT dc_iT pm_iT cd_iT ct_iT : Value}
    {od_iL an_iL : Option Addr} {sl_iL : Array (Option Value)} {oc_iL kV_iL dc_iL pm_iL cd_iL ct_iL : Value}
    {od_iF an_iF : Option Addr} {sl_iF : Array (Option Value)} {oc_iF kV_iF dc_iF pm_iF cd_iF ct_iF : Value}
    {od_iK an_iK : Option Addr} {sl_iK : Array (Option Value)} {oc_iK kV_iK dc_iK pm_iK cd_iK ct_iK : Value}
    {od_rin an_rin : Option Addr} {sl_rin : Array (Option Value)} {oc_rin kV_rin dc_rin pm_rin cd_rin ct_rin : Value}
    {oT_rin : Value} {oD_rin : Option Addr} {nT_rin : Nat} {tk_rin : Tok} {sT_rin : Array (Option Value)}
    {od_uin an_uin : Option Addr} {sl_uin : Array (Option Value)} {oc_uin dc_uin pm_uin cd_uin ct_uin : Value}
    {oT_uin : Value} {oD_uin : Option Addr} {nT_uin : Nat} {tk_uin : Tok} {sT_uin : Array (Option Value)}
    {tk0 : Tok}
    {tL tM tD tC : Tok}
    {ocK : Option Addr} {nnK : Nat} {tK0 tK1 tK2 : Tok} {ssK : Array (Option Value)}
    {ocM : Option Addr} {nnM : Nat} {tM0 tM1 : Tok} {ssM : Array (Option Value)}
    {ocS : Option Addr} {nnS : Nat} {tS0 tS1 : Tok} {ssS : Array (Option Value)}
    (aR : PySem.W.nsIn K mainGlobals "Ratio" = some (some (.ref CR))) (aU : PySem.W.nsIn K mainGlobals "Unseen" = some (some (.ref CU))) (aW : PySem.W.nsIn K mainGlobals "World" = some (some (.ref CW)))
    (eN : PySem.W.nsIn K mainGlobals "InvalidName" = some (some (.ref CN)))
    (eT : PySem.W.nsIn K mainGlobals "NameTaken" = some (some (.ref CT)))
    (eL : PySem.W.nsIn K mainGlobals "TooLarge" = some (some (.ref CL)))
    (eF : PySem.W.nsIn K mainGlobals "InvalidFact" = some (some (.ref CF)))
    (eK : PySem.W.nsIn K mainGlobals "UnknownName" = some (some (.ref CK)))
    (eS : PySem.W.nsIn K mainGlobals "SlopeError" = some (some (.ref CS)))
    (eM : PySem.W.nsIn K mainGlobals "Missing" = some (some (.ref CM)))
    (vS : PySem.W.findCls K (.ref CS) (.type "type") "__init__" = some (.val (.builtin "ValueError.__init__"))) (vM : PySem.W.findCls K (.ref CM) (.type "type") "__init__" = some (.val (.builtin "LookupError.__init__")))
    (a_sho : PySem.W.nsIn K mainGlobals "shown" = some (some (.ref g_sho)))
    (l_sho : K.lookup g_sho = some ⟨oc_sho, od_sho, .func (PySem.W.fnOf "shown" "shown" (defArgs sShown) (defBody sShown) (defScope sShown) .none kV_sho dc_sho pm_sho an_sho cd_sho ct_sho), sl_sho⟩) (c_sho : PySem.W.codeIn K cd_sho "shown" = true) (k_sho : PySem.W.keepIn K (.ref g_sho) = true)
    (a_lfi : PySem.W.nsIn K mainGlobals "_law_field" = some (some (.ref g_lfi)))
    (l_lfi : K.lookup g_lfi = some ⟨oc_lfi, od_lfi, .func (PySem.W.fnOf "_law_field" "_law_field" (defArgs sField) (defBody sField) (defScope sField) .none kV_lfi dc_lfi pm_lfi an_lfi cd_lfi ct_lfi), sl_lfi⟩) (c_lfi : PySem.W.codeIn K cd_lfi "_law_field" = true) (k_lfi : PySem.W.keepIn K (.ref g_lfi) = true)
    (a_lot : PySem.W.nsIn K mainGlobals "_law_other_field" = some (some (.ref g_lot)))
    (l_lot : K.lookup g_lot = some ⟨oc_lot, od_lot, .func (PySem.W.fnOf "_law_other_field" "_law_other_field" (defArgs sOtherField) (defBody sOtherField) (defScope sOtherField) .none kV_lot dc_lot pm_lot an_lot cd_lot ct_lot), sl_lot⟩) (c_lot : PySem.W.codeIn K cd_lot "_law_other_field" = true) (k_lot : PySem.W.keepIn K (.ref g_lot) = true)
    (a_why : PySem.W.nsIn K mainGlobals "_law_why" = some (some (.ref g_why)))
    (l_why : K.lookup g_why = some ⟨oc_why, od_why, .func (PySem.W.fnOf "_law_why" "_law_why" (defArgs sWhy) (defBody sWhy) (defScope sWhy) .none kV_why dc_why pm_why an_why cd_why ct_why), sl_why⟩) (c_why : PySem.W.codeIn K cd_why "_law_why" = true) (k_why : PySem.W.keepIn K (.ref g_why) = true)
    (a_isi : PySem.W.nsIn K mainGlobals "is_integer" = some (some (.ref g_isi)))
    (l_isi : K.lookup g_isi = some ⟨oc_isi, od_isi, .func (PySem.W.fnOf "is_integer" "is_integer" (defArgs sIsInt) (defBody sIsInt) (defScope sIsInt) .none kV_isi dc_isi pm_isi an_isi cd_isi ct_isi), sl_isi⟩) (c_isi : PySem.W.codeIn K cd_isi "is_integer" = true) (k_isi : PySem.W.keepIn K (.ref g_isi) = true)
    (a_isn : PySem.W.nsIn K mainGlobals "is_number" = some (some (.ref g_isn)))
    (l_isn : K.lookup g_isn = some ⟨oc_isn, od_isn, .func (PySem.W.fnOf "is_number" "is_number" (defArgs sIsNum) (defBody sIsNum) (defScope sIsNum) .none kV_isn dc_isn pm_isn an_isn cd_isn ct_isn), sl_isn⟩) (c_isn : PySem.W.codeIn K cd_isn "is_number" = true) (k_isn : PySem.W.keepIn K (.ref g_isn) = true)
    (a_rof : PySem.W.nsIn K mainGlobals "ratio_of" = some (some (.ref g_rof)))
    (l_rof : K.lookup g_rof = some ⟨oc_rof, od_rof, .func (PySem.W.fnOf "ratio_of" "ratio_of" (defArgs sRatioOf) (defBody sRatioOf) (defScope sRatioOf) .none kV_rof dc_rof pm_rof an_rof cd_rof ct_rof), sl_rof⟩) (c_rof : PySem.W.codeIn K cd_rof "ratio_of" = true) (k_rof : PySem.W.keepIn K (.ref g_rof) = true)
    (a_itx : PySem.W.nsIn K mainGlobals "integer_text" = some (some (.ref g_itx)))
    (l_itx : K.lookup g_itx = some ⟨oc_itx, od_itx, .func (PySem.W.fnOf "integer_text" "integer_text" (defArgs sIntText) (defBody sIntText) (defScope sIntText) .none kV_itx dc_itx pm_itx an_itx cd_itx ct_itx), sl_itx⟩) (c_itx : PySem.W.codeIn K cd_itx "integer_text" = true) (k_itx : PySem.W.keepIn K (.ref g_itx) = true)
    (a_rtx : PySem.W.nsIn K mainGlobals "ratio_text" = some (some (.ref g_rtx)))
    (l_rtx : K.lookup g_rtx = some ⟨oc_rtx, od_rtx, .func (PySem.W.fnOf "ratio_text" "ratio_text" (defArgs sRatText) (defBody sRatText) (defScope sRatText) .none kV_rtx dc_rtx pm_rtx an_rtx cd_rtx ct_rtx), sl_rtx⟩) (c_rtx : PySem.W.codeIn K cd_rtx "ratio_text" = true) (k_rtx : PySem.W.keepIn K (.ref g_rtx) = true)
    (a_nam : PySem.W.nsIn K mainGlobals "is_name" = some (some (.ref g_nam)))
    (l_nam : K.lookup g_nam = some ⟨oc_nam, od_nam, .func (PySem.W.fnOf "is_name" "is_name" (defArgs sIsName) (defBody sIsName) (defScope sIsName) .none kV_nam dc_nam pm_nam an_nam cd_nam ct_nam), sl_nam⟩) (c_nam : PySem.W.codeIn K cd_nam "is_name" = true) (k_nam : PySem.W.keepIn K (.ref g_nam) = true)
    (a_chn : PySem.W.nsIn K mainGlobals "check_names" = some (some (.ref g_chn)))
    (l_chn : K.lookup g_chn = some ⟨oc_chn, od_chn, .func (PySem.W.fnOf "check_names" "check_names" (defArgs sChkN) (defBody sChkN) (defScope sChkN) .none kV_chn dc_chn pm_chn an_chn cd_chn ct_chn), sl_chn⟩) (c_chn : PySem.W.codeIn K cd_chn "check_names" = true) (k_chn : PySem.W.keepIn K (.ref g_chn) = true)
    (a_wtx : PySem.W.nsIn K mainGlobals "world_text" = some (some (.ref g_wtx)))
    (l_wtx : K.lookup g_wtx = some ⟨oc_wtx, od_wtx, .func (PySem.W.fnOf "world_text" "world_text" (defArgs sWText) (defBody sWText) (defScope sWText) .none kV_wtx dc_wtx pm_wtx an_wtx cd_wtx ct_wtx), sl_wtx⟩) (c_wtx : PySem.W.codeIn K cd_wtx "world_text" = true) (k_wtx : PySem.W.keepIn K (.ref g_wtx) = true)
    (a_cho : PySem.W.nsIn K mainGlobals "is_choice" = some (some (.ref g_cho)))
    (l_cho : K.lookup g_cho = some ⟨oc_cho, od_cho, .func (PySem.W.fnOf "is_choice" "is_choice" (defArgs sChoice) (defBody sChoice) (defScope sChoice) .none kV_cho dc_cho pm_cho an_cho cd_cho ct_cho), sl_cho⟩) (c_cho : PySem.W.codeIn K cd_cho "is_choice" = true) (k_cho : PySem.W.keepIn K (.ref g_cho) = true)
    (a_who : PySem.W.nsIn K mainGlobals "is_whole_within" = some (some (.ref g_who)))
    (l_who : K.lookup g_who = some ⟨oc_who, od_who, .func (PySem.W.fnOf "is_whole_within" "is_whole_within" (defArgs sWhole) (defBody sWhole) (defScope sWhole) .none kV_who dc_who pm_who an_who cd_who ct_who), sl_who⟩) (c_who : PySem.W.codeIn K cd_who "is_whole_within" = true) (k_who : PySem.W.keepIn K (.ref g_who) = true)
    (a_mir : PySem.W.nsIn K mainGlobals "is_mirror" = some (some (.ref g_mir)))
    (l_mir : K.lookup g_mir = some ⟨oc_mir, od_mir, .func (PySem.W.fnOf "is_mirror" "is_mirror" (defArgs sMirror) (defBody sMirror) (defScope sMirror) .none kV_mir dc_mir pm_mir an_mir cd_mir ct_mir), sl_mir⟩) (c_mir : PySem.W.codeIn K cd_mir "is_mirror" = true) (k_mir : PySem.W.keepIn K (.ref g_mir) = true)
    (a_cen : PySem.W.nsIn K mainGlobals "is_centre" = some (some (.ref g_cen)))
    (l_cen : K.lookup g_cen = some ⟨oc_cen, od_cen, .func (PySem.W.fnOf "is_centre" "is_centre" (defArgs sCentre) (defBody sCentre) (defScope sCentre) .none kV_cen dc_cen pm_cen an_cen cd_cen ct_cen), sl_cen⟩) (c_cen : PySem.W.codeIn K cd_cen "is_centre" = true) (k_cen : PySem.W.keepIn K (.ref g_cen) = true)
    (a_deg : PySem.W.nsIn K mainGlobals "is_degree" = some (some (.ref g_deg)))
    (l_deg : K.lookup g_deg = some ⟨oc_deg, od_deg, .func (PySem.W.fnOf "is_degree" "is_degree" (defArgs sDegree) (defBody sDegree) (defScope sDegree) .none kV_deg dc_deg pm_deg an_deg cd_deg ct_deg), sl_deg⟩) (c_deg : PySem.W.codeIn K cd_deg "is_degree" = true) (k_deg : PySem.W.keepIn K (.ref g_deg) = true)
    (a_swp : PySem.W.nsIn K mainGlobals "is_swap" = some (some (.ref g_swp)))
    (l_swp : K.lookup g_swp = some ⟨oc_swp, od_swp, .func (PySem.W.fnOf "is_swap" "is_swap" (defArgs sSwap) (defBody sSwap) (defScope sSwap) .none kV_swp dc_swp pm_swp an_swp cd_swp ct_swp), sl_swp⟩) (c_swp : PySem.W.codeIn K cd_swp "is_swap" = true) (k_swp : PySem.W.keepIn K (.ref g_swp) = true)
    (a_chk : PySem.W.nsIn K mainGlobals "check_facts" = some (some (.ref g_chk)))
    (l_chk : K.lookup g_chk = some ⟨oc_chk, od_chk, .func (PySem.W.fnOf "check_facts" "check_facts" (defArgs sCheck) (defBody sCheck) (defScope sCheck) .none kV_chk dc_chk pm_chk an_chk cd_chk ct_chk), sl_chk⟩) (c_chk : PySem.W.codeIn K cd_chk "check_facts" = true) (k_chk : PySem.W.keepIn K (.ref g_chk) = true)
    (a_ftx : PySem.W.nsIn K mainGlobals "facts_text" = some (some (.ref g_ftx)))
    (l_ftx : K.lookup g_ftx = some ⟨oc_ftx, od_ftx, .func (PySem.W.fnOf "facts_text" "facts_text" (defArgs sFText) (defBody sFText) (defScope sFText) .none kV_ftx dc_ftx pm_ftx an_ftx cd_ftx ct_ftx), sl_ftx⟩) (c_ftx : PySem.W.codeIn K cd_ftx "facts_text" = true) (k_ftx : PySem.W.keepIn K (.ref g_ftx) = true)
    (a_bag : PySem.W.nsIn K mainGlobals "_law_bag" = some (some (.ref g_bag)))
    (l_bag : K.lookup g_bag = some ⟨oc_bag, od_bag, .func (PySem.W.fnOf "_law_bag" "_law_bag" (defArgs sBag) (defBody sBag) (defScope sBag) .none kV_bag dc_bag pm_bag an_bag cd_bag ct_bag), sl_bag⟩) (c_bag : PySem.W.codeIn K cd_bag "_law_bag" = true) (k_bag : PySem.W.keepIn K (.ref g_bag) = true)
    (a_pul : PySem.W.nsIn K mainGlobals "_law_pull" = some (some (.ref g_pul)))
    (l_pul : K.lookup g_pul = some ⟨oc_pul, od_pul, .func (PySem.W.fnOf "_law_pull" "_law_pull" (defArgs sPull) (defBody sPull) (defScope sPull) .none kV_pul dc_pul pm_pul an_pul cd_pul ct_pul), sl_pul⟩) (c_pul : PySem.W.codeIn K cd_pul "_law_pull" = true) (k_pul : PySem.W.keepIn K (.ref g_pul) = true)
    (a_lof : PySem.W.nsIn K mainGlobals "_law_of" = some (some (.ref g_lof)))
    (l_lof : K.lookup g_lof = some ⟨oc_lof, od_lof, .func (PySem.W.fnOf "_law_of" "_law_of" (defArgs sOf) (defBody sOf) (defScope sOf) .none kV_lof dc_lof pm_lof an_lof cd_lof ct_lof), sl_lof⟩) (c_lof : PySem.W.codeIn K cd_lof "_law_of" = true) (k_lof : PySem.W.keepIn K (.ref g_lof) = true)
    (a_sam : PySem.W.nsIn K mainGlobals "_law_same" = some (some (.ref g_sam)))
    (l_sam : K.lookup g_sam = some ⟨oc_sam, od_sam, .func (PySem.W.fnOf "_law_same" "_law_same" (defArgs sSame) (defBody sSame) (defScope sSame) .none kV_sam dc_sam pm_sam an_sam cd_sam ct_sam), sl_sam⟩) (c_sam : PySem.W.codeIn K cd_sam "_law_same" = true) (k_sam : PySem.W.keepIn K (.ref g_sam) = true)
    (a_lna : PySem.W.nsIn K mainGlobals "_law_name" = some (some (.ref g_lna)))
    (l_lna : K.lookup g_lna = some ⟨oc_lna, od_lna, .func (PySem.W.fnOf "_law_name" "_law_name" (defArgs sName) (defBody sName) (defScope sName) .none kV_lna dc_lna pm_lna an_lna cd_lna ct_lna), sl_lna⟩) (c_lna : PySem.W.codeIn K cd_lna "_law_name" = true) (k_lna : PySem.W.keepIn K (.ref g_lna) = true)
    (a_lnm : PySem.W.nsIn K mainGlobals "_law_names" = some (some (.ref g_lnm)))
    (l_lnm : K.lookup g_lnm = some ⟨oc_lnm, od_lnm, .func (PySem.W.fnOf "_law_names" "_law_names" (defArgs sNames) (defBody sNames) (defScope sNames) .none kV_lnm dc_lnm pm_lnm an_lnm cd_lnm ct_lnm), sl_lnm⟩) (c_lnm : PySem.W.codeIn K cd_lnm "_law_names" = true) (k_lnm : PySem.W.keepIn K (.ref g_lnm) = true)
    (a_law : PySem.W.nsIn K mainGlobals "law" = some (some (.ref g_law)))
    (l_law : K.lookup g_law = some ⟨oc_law, od_law, .func (PySem.W.fnOf "law" "law" (defArgs sLaw) (defBody sLaw) (defScope sLaw) .none kV_law dc_law pm_law an_law (.ref cL) ct_law), sl_law⟩) (c_law : PySem.W.codeIn K (.ref cL) "law" = true) (k_law : PySem.W.keepIn K (.ref g_law) = true)
    (i_req : PySem.W.findIn K (.ref CR) "__eq__" = some (some (.ref g_req)))
    (l_req : K.lookup g_req = some ⟨oc_req, od_req, .func (PySem.W.fnOf "__eq__" "Ratio.__eq__" (defArgs sREq) (defBody sREq) (defScope sREq) .none kV_req dc_req pm_req an_req cd_req ct_req), sl_req⟩) (c_req : PySem.W.codeIn K cd_req "Ratio.__eq__" = true) (k_req : PySem.W.keepIn K (.ref g_req) = true)
    (i_rst : PySem.W.findIn K (.ref CR) "__str__" = some (some (.ref g_rst)))
    (l_rst : K.lookup g_rst = some ⟨oc_rst, od_rst, .func (PySem.W.fnOf "__str__" "Ratio.__str__" (defArgs sRStr) (defBody sRStr) (defScope sRStr) .none kV_rst dc_rst pm_rst an_rst cd_rst ct_rst), sl_rst⟩) (c_rst : PySem.W.codeIn K cd_rst "Ratio.__str__" = true) (k_rst : PySem.W.keepIn K (.ref g_rst) = true)
    (i_ueq : PySem.W.findIn K (.ref CU) "__eq__" = some (some (.ref g_ueq)))
    (l_ueq : K.lookup g_ueq = some ⟨oc_ueq, od_ueq, .func (PySem.W.fnOf "__eq__" "Unseen.__eq__" (defArgs sUEq) (defBody sUEq) (defScope sUEq) .none kV_ueq dc_ueq pm_ueq an_ueq cd_ueq ct_ueq), sl_ueq⟩) (c_ueq : PySem.W.codeIn K cd_ueq "Unseen.__eq__" = true) (k_ueq : PySem.W.keepIn K (.ref g_ueq) = true)
    (i_ust : PySem.W.findIn K (.ref CU) "__str__" = some (some (.ref g_ust)))
    (l_ust : K.lookup g_ust = some ⟨oc_ust, od_ust, .func (PySem.W.fnOf "__str__" "Unseen.__str__" (defArgs sUStr) (defBody sUStr) (defScope sUStr) .none kV_ust dc_ust pm_ust an_ust cd_ust ct_ust), sl_ust⟩) (c_ust : PySem.W.codeIn K cd_ust "Unseen.__str__" = true) (k_ust : PySem.W.keepIn K (.ref g_ust) = true)
    (i_win : PySem.W.findIn K (.ref CW) "__init__" = some (some (.ref g_win)))
    (l_win : K.lookup g_win = some ⟨oc_win, od_win, .func (PySem.W.fnOf "__init__" "World.__init__" (defArgs sWInit) (defBody sWInit) (defScope sWInit) .none kV_win dc_win pm_win an_win cd_win ct_win), sl_win⟩) (c_win : PySem.W.codeIn K cd_win "World.__init__" = true) (k_win : PySem.W.keepIn K (.ref g_win) = true)
    (i_wfa : PySem.W.findIn K (.ref CW) "fact" = some (some (.ref g_wfa)))
    (l_wfa : K.lookup g_wfa = some ⟨oc_wfa, od_wfa, .func (PySem.W.fnOf "fact" "World.fact" (defArgs sWFact) (defBody sWFact) (defScope sWFact) .none kV_wfa dc_wfa pm_wfa an_wfa cd_wfa ct_wfa), sl_wfa⟩) (c_wfa : PySem.W.codeIn K cd_wfa "World.fact" = true) (k_wfa : PySem.W.keepIn K (.ref g_wfa) = true)
    (i_wwi : PySem.W.findIn K (.ref CW) "with_fact" = some (some (.ref g_wwi)))
    (l_wwi : K.lookup g_wwi = some ⟨oc_wwi, od_wwi, .func (PySem.W.fnOf "with_fact" "World.with_fact" (defArgs sWWith) (defBody sWWith) (defScope sWWith) .none kV_wwi dc_wwi pm_wwi an_wwi cd_wwi ct_wwi), sl_wwi⟩) (c_wwi : PySem.W.codeIn K cd_wwi "World.with_fact" = true) (k_wwi : PySem.W.keepIn K (.ref g_wwi) = true)
    (i_wle : PySem.W.findIn K (.ref CW) "__len__" = some (some (.ref g_wle)))
    (l_wle : K.lookup g_wle = some ⟨oc_wle, od_wle, .func (PySem.W.fnOf "__len__" "World.__len__" (defArgs sWLen) (defBody sWLen) (defScope sWLen) .none kV_wle dc_wle pm_wle an_wle cd_wle ct_wle), sl_wle⟩) (c_wle : PySem.W.codeIn K cd_wle "World.__len__" = true) (k_wle : PySem.W.keepIn K (.ref g_wle) = true)
    (i_iN : PySem.W.findIn K (.ref CN) "__init__" = some (some (.ref g_iN)))
    (l_iN : K.lookup g_iN = some ⟨oc_iN, od_iN, .func (PySem.W.fnOf "__init__" "InvalidName.__init__" (defArgs sI_InvalidName) (defBody sI_InvalidName) (defScope sI_InvalidName) .none kV_iN dc_iN pm_iN an_iN cd_iN ct_iN), sl_iN⟩) (c_iN : PySem.W.codeIn K cd_iN "InvalidName.__init__" = true) (k_iN : PySem.W.keepIn K (.ref g_iN) = true)
    (i_iT : PySem.W.findIn K (.ref CT) "__init__" = some (some (.ref g_iT)))
    (l_iT : K.lookup g_iT = some ⟨oc_iT, od_iT, .func (PySem.W.fnOf "__init__" "NameTaken.__init__" (defArgs sI_NameTaken) (defBody sI_NameTaken) (defScope sI_NameTaken) .none kV_iT dc_iT pm_iT an_iT cd_iT ct_iT), sl_iT⟩) (c_iT : PySem.W.codeIn K cd_iT "NameTaken.__init__" = true) (k_iT : PySem.W.keepIn K (.ref g_iT) = true)
    (i_iL : PySem.W.findIn K (.ref CL) "__init__" = some (some (.ref g_iL)))
    (l_iL : K.lookup g_iL = some ⟨oc_iL, od_iL, .func (PySem.W.fnOf "__init__" "TooLarge.__init__" (defArgs sI_TooLarge) (defBody sI_TooLarge) (defScope sI_TooLarge) .none kV_iL dc_iL pm_iL an_iL cd_iL ct_iL), sl_iL⟩) (c_iL : PySem.W.codeIn K cd_iL "TooLarge.__init__" = true) (k_iL : PySem.W.keepIn K (.ref g_iL) = true)
    (i_iF : PySem.W.findIn K (.ref CF) "__init__" = some (some (.ref g_iF)))
    (l_iF : K.lookup g_iF = some ⟨oc_iF, od_iF, .func (PySem.W.fnOf "__init__" "InvalidFact.__init__" (defArgs sI_InvalidFact) (defBody sI_InvalidFact) (defScope sI_InvalidFact) .none kV_iF dc_iF pm_iF an_iF cd_iF ct_iF), sl_iF⟩) (c_iF : PySem.W.codeIn K cd_iF "InvalidFact.__init__" = true) (k_iF : PySem.W.keepIn K (.ref g_iF) = true)
    (i_iK : PySem.W.findIn K (.ref CK) "__init__" = some (some (.ref g_iK)))
    (l_iK : K.lookup g_iK = some ⟨oc_iK, od_iK, .func (PySem.W.fnOf "__init__" "UnknownName.__init__" (defArgs sI_UnknownName) (defBody sI_UnknownName) (defScope sI_UnknownName) .none kV_iK dc_iK pm_iK an_iK cd_iK ct_iK), sl_iK⟩) (c_iK : PySem.W.codeIn K cd_iK "UnknownName.__init__" = true) (k_iK : PySem.W.keepIn K (.ref g_iK) = true)
    (i_rin : PySem.W.findIn K (.ref CR) "__init__" = some (some (.ref g_rin)))
    (l_rin : K.lookup g_rin = some ⟨oc_rin, od_rin, .func (PySem.W.fnOf "__init__" "Ratio.__init__" (defArgs sRInit) (defBody sRInit) (defScope sRInit) (.ref T_rin) kV_rin dc_rin pm_rin an_rin cd_rin ct_rin), sl_rin⟩) (c_rin : PySem.W.codeIn K cd_rin "Ratio.__init__" = true) (k_rin : PySem.W.keepIn K (.ref g_rin) = true)
    (t_rin : K.lookup T_rin = some ⟨oT_rin, oD_rin, .seq [Value.int 1 tk_rin].toArray nT_rin, sT_rin⟩)
    (i_uin : PySem.W.findIn K (.ref CU) "__init__" = some (some (.ref g_uin)))
    (l_uin : K.lookup g_uin = some ⟨oc_uin, od_uin, .func (PySem.W.fnOf "__init__" "Unseen.__init__" (defArgs sUInit) (defBody sUInit) (defScope sUInit) (.ref T_uin) (.ref DU) dc_uin pm_uin an_uin cd_uin ct_uin), sl_uin⟩) (c_uin : PySem.W.codeIn K cd_uin "Unseen.__init__" = true) (k_uin : PySem.W.keepIn K (.ref g_uin) = true)
    (t_uin : K.lookup T_uin = some ⟨oT_uin, oD_uin, .seq [Value.int 1 tk_uin].toArray nT_uin, sT_uin⟩)
    (d1 : PySem.W.nsIn K DU "mirror" = some (some .none)) (d2 : PySem.W.nsIn K DU "centre" = some (some (.int 0 tk0))) (d3 : PySem.W.nsIn K DU "degree" = some (some .none)) (d4 : PySem.W.nsIn K DU "swap" = some (some .none))
    (aLt : PySem.W.nsIn K mainGlobals "LETTERS" = some (some (.str "abcdefghijklmnopqrstuvwxyz" tL))) (aMl : PySem.W.nsIn K mainGlobals "MOST_LETTERS" = some (some (.int 6 tM))) (aMd : PySem.W.nsIn K mainGlobals "MOST_DEGREE" = some (some (.int 3 tD))) (aCb : PySem.W.nsIn K mainGlobals "CHUNK_BASE" = some (some (.int 1000000000000000000000000000000000000000000000000000000000000 tC))) (aGc : PySem.W.nsIn K mainGlobals "gcd" = some (some (.builtin "math.gcd")))
    (aK : PySem.W.nsIn K mainGlobals "KEPT_WORDS" = some (some (.ref pK))) (lK : K.lookup pK = some ⟨.type "tuple", ocK, .seq [Value.str "fn" tK0, Value.str "let" tK1, Value.str "slope" tK2].toArray nnK, ssK⟩)
    (aM : PySem.W.nsIn K mainGlobals "MIRRORS" = some (some (.ref pM))) (lM : K.lookup pM = some ⟨.type "tuple", ocM, .seq [Value.str "even" tM0, Value.str "odd" tM1].toArray nnM, ssM⟩)
    (aS : PySem.W.nsIn K mainGlobals "SWAPS" = some (some (.ref pS))) (lS : K.lookup pS = some ⟨.type "tuple", ocS, .seq [Value.str "same" tS0, Value.str "minus" tS1].toArray nnS, ssS⟩)
    (z_isin : PySem.W.nsIn K mainGlobals "isinstance" = some none)
    (z_tstr : PySem.W.nsIn K mainGlobals "str" = some none)
    (z_tint : PySem.W.nsIn K mainGlobals "int" = some none)
    (z_tlist : PySem.W.nsIn K mainGlobals "list" = some none)
    (z_ttuple : PySem.W.nsIn K mainGlobals "tuple" = some none)
    (z_tbool : PySem.W.nsIn K mainGlobals "bool" = some none)
    (z_fabs : PySem.W.nsIn K mainGlobals "abs" = some none)
    (z_frepr : PySem.W.nsIn K mainGlobals "repr" = some none)
    (z_flen : PySem.W.nsIn K mainGlobals "len" = some none)
    (z_frange : PySem.W.nsIn K mainGlobals "range" = some none)
    (z_fzip : PySem.W.nsIn K mainGlobals "zip" = some none)
    (z_fall : PySem.W.nsIn K mainGlobals "all" = some none)
    (z_tve : PySem.W.nsIn K mainGlobals "ValueError" = some none)
    (z_tle : PySem.W.nsIn K mainGlobals "LookupError" = some none)
    (z_tset : PySem.W.nsIn K mainGlobals "set" = some none)
    (z_fsort : PySem.W.nsIn K mainGlobals "sorted" = some none)
    (hR : chR K CR g_rin g_req g_rst = true) (hU : chU K CU g_uin g_ueq g_ust = true) (hW : chW K CW g_win g_wfa g_wwi g_wle = true) (hG : chG K = true) (hS : chB K CS "ValueError.__init__" = true) (hM : chB K CM "LookupError.__init__" = true)
    (heN : chE K true CN CS CM g_iN = true)
    (heT : chE K true CT CS CM g_iT = true)
    (heL : chE K true CL CS CM g_iL = true)
    (heF : chE K true CF CS CM g_iF = true)
    (heK : chE K false CK CS CM g_iK = true) :
    LamX.LawAtS l w K CX0 11 63 "_law_script" mg fa h := by
  have e := hfa.symm.trans (PySem.W.mg_of X G a_law)
  cases e
  have gl : ∀ x v, PySem.W.nsIn K mainGlobals x = some (some v) → mg x = some v := fun x v z => PySem.W.mg_of X G z
  have B : Bn mg := ⟨PySem.W.mg_none_of X G z_isin, PySem.W.mg_none_of X G z_tstr, PySem.W.mg_none_of X G z_tint, PySem.W.mg_none_of X G z_tlist, PySem.W.mg_none_of X G z_ttuple, PySem.W.mg_none_of X G z_tbool, PySem.W.mg_none_of X G z_fabs, PySem.W.mg_none_of X G z_frepr, PySem.W.mg_none_of X G z_flen, PySem.W.mg_none_of X G z_frange, PySem.W.mg_none_of X G z_fzip, PySem.W.mg_none_of X G z_fall, PySem.W.mg_none_of X G z_tve, PySem.W.mg_none_of X G z_tle⟩
  have B2 : Bm mg := ⟨B, PySem.W.mg_none_of X G z_tset, PySem.W.mg_none_of X G z_fsort⟩
  obtain ⟨RTT, MkR, MEq, MSt, nfi⟩ := rt_of hR hG (gl _ _ aR)
  obtain ⟨UTT, MkU, UEq, USt, UNe, UFm⟩ := ut_of hU hG (gl _ _ aU)
  obtain ⟨WTT, MkW, MFa, MWi, MLe⟩ := wt_of hW hG (gl _ _ aW)
  obtain ⟨RN, KN⟩ := er_of (fs := ["given"]) heN (gl _ _ eN) i_iN (by decide +kernel)
  obtain ⟨RT', KT⟩ := er_of (fs := ["name"]) heT (gl _ _ eT) i_iT (by decide +kernel)
  obtain ⟨RL, KL⟩ := er_of (fs := ["what", "limit"]) heL (gl _ _ eL) i_iL (by decide +kernel)
  obtain ⟨RF, KF⟩ := er_of (fs := ["what"]) heF (gl _ _ eF) i_iF (by decide +kernel)
  obtain ⟨RK, KK⟩ := er_of (fs := ["name"]) heK (gl _ _ eK) i_iK (by decide +kernel)
  obtain ⟨s1, s2, s3⟩ : PySem.W.specialIn K (.ref CS) "__getattribute__" = some (some (.builtin "type.__getattribute__")) ∧ PySem.W.readsIn K CS (.type "type") = true ∧ PySem.W.handedIn (.builtin "ValueError.__init__") = true := by
    simp only [chB, Bool.and_eq_true] at hS
    exact ⟨isB_of hS.1, hS.2.1, hS.2.2⟩
  obtain ⟨t1, t2, t3⟩ : PySem.W.specialIn K (.ref CM) "__getattribute__" = some (some (.builtin "type.__getattribute__")) ∧ PySem.W.readsIn K CM (.type "type") = true ∧ PySem.W.handedIn (.builtin "LookupError.__init__") = true := by
    simp only [chB, Bool.and_eq_true] at hM
    exact ⟨isB_of hM.1, hM.2.1, hM.2.2⟩
  have BSS : Bs K mg "SlopeError" "ValueError.__init__" CS := ⟨gl _ _ eS, s1, s2, vS, s3⟩
  have BSM : Bs K mg "Missing" "LookupError.__init__" CM := ⟨gl _ _ eM, t1, t2, vM, t3⟩
  have GCC : GC K mg pK pM pS := ⟨⟨_, gl _ _ aLt⟩, ⟨_, gl _ _ aMl⟩, ⟨_, gl _ _ aMd⟩, gl _ _ aK, fun H => .inr ⟨_, _, _, lK, rfl, rfl, (by show 3 ≤ sizeLine; decide), (.cons ⟨_, rfl⟩ (.cons ⟨_, rfl⟩ (.cons ⟨_, rfl⟩ .nil)))⟩, gl _ _ aM, fun H => .inr ⟨_, _, _, lM, rfl, rfl, (by show 2 ≤ sizeLine; decide), (.cons ⟨_, rfl⟩ (.cons ⟨_, rfl⟩ .nil))⟩, gl _ _ aS, fun H => .inr ⟨_, _, _, lS, rfl, rfl, (by show 2 ≤ sizeLine; decide), (.cons ⟨_, rfl⟩ (.cons ⟨_, rfl⟩ .nil))⟩⟩
  have F_sho := fun_mk (st := sShown) l_sho c_sho k_sho
  have D_sho : Dn K mg "shown" g_sho := ⟨gl _ _ a_sho, k_sho⟩
  have F_lfi := fun_mk (st := sField) l_lfi c_lfi k_lfi
  have D_lfi : Dn K mg "_law_field" g_lfi := ⟨gl _ _ a_lfi, k_lfi⟩
  have F_lot := fun_mk (st := sOtherField) l_lot c_lot k_lot
  have D_lot : Dn K mg "_law_other_field" g_lot := ⟨gl _ _ a_lot, k_lot⟩
  have F_why := fun_mk (st := sWhy) l_why c_why k_why
  have D_why : Dn K mg "_law_why" g_why := ⟨gl _ _ a_why, k_why⟩
  have F_isi := fun_mk (st := sIsInt) l_isi c_isi k_isi
  have D_isi : Dn K mg "is_integer" g_isi := ⟨gl _ _ a_isi, k_isi⟩
  have F_isn := fun_mk (st := sIsNum) l_isn c_isn k_isn
  have D_isn : Dn K mg "is_number" g_isn := ⟨gl _ _ a_isn, k_isn⟩
  have F_rof := fun_mk (st := sRatioOf) l_rof c_rof k_rof
  have D_rof : Dn K mg "ratio_of" g_rof := ⟨gl _ _ a_rof, k_rof⟩
  have F_itx := fun_mk (st := sIntText) l_itx c_itx k_itx
  have D_itx : Dn K mg "integer_text" g_itx := ⟨gl _ _ a_itx, k_itx⟩
  have F_rtx := fun_mk (st := sRatText) l_rtx c_rtx k_rtx
  have D_rtx : Dn K mg "ratio_text" g_rtx := ⟨gl _ _ a_rtx, k_rtx⟩
  have F_nam := fun_mk (st := sIsName) l_nam c_nam k_nam
  have D_nam : Dn K mg "is_name" g_nam := ⟨gl _ _ a_nam, k_nam⟩
  have F_chn := fun_mk (st := sChkN) l_chn c_chn k_chn
  have D_chn : Dn K mg "check_names" g_chn := ⟨gl _ _ a_chn, k_chn⟩
  have F_wtx := fun_mk (st := sWText) l_wtx c_wtx k_wtx
  have D_wtx : Dn K mg "world_text" g_wtx := ⟨gl _ _ a_wtx, k_wtx⟩
  have F_cho := fun_mk (st := sChoice) l_cho c_cho k_cho
  have D_cho : Dn K mg "is_choice" g_cho := ⟨gl _ _ a_cho, k_cho⟩
  have F_who := fun_mk (st := sWhole) l_who c_who k_who
  have D_who : Dn K mg "is_whole_within" g_who := ⟨gl _ _ a_who, k_who⟩
  have F_mir := fun_mk (st := sMirror) l_mir c_mir k_mir
  have D_mir : Dn K mg "is_mirror" g_mir := ⟨gl _ _ a_mir, k_mir⟩
  have F_cen := fun_mk (st := sCentre) l_cen c_cen k_cen
  have D_cen : Dn K mg "is_centre" g_cen := ⟨gl _ _ a_cen, k_cen⟩
  have F_deg := fun_mk (st := sDegree) l_deg c_deg k_deg
  have D_deg : Dn K mg "is_degree" g_deg := ⟨gl _ _ a_deg, k_deg⟩
  have F_swp := fun_mk (st := sSwap) l_swp c_swp k_swp
  have D_swp : Dn K mg "is_swap" g_swp := ⟨gl _ _ a_swp, k_swp⟩
  have F_chk := fun_mk (st := sCheck) l_chk c_chk k_chk
  have D_chk : Dn K mg "check_facts" g_chk := ⟨gl _ _ a_chk, k_chk⟩
  have F_ftx := fun_mk (st := sFText) l_ftx c_ftx k_ftx
  have D_ftx : Dn K mg "facts_text" g_ftx := ⟨gl _ _ a_ftx, k_ftx⟩
  have F_bag := fun_mk (st := sBag) l_bag c_bag k_bag
  have D_bag : Dn K mg "_law_bag" g_bag := ⟨gl _ _ a_bag, k_bag⟩
  have F_pul := fun_mk (st := sPull) l_pul c_pul k_pul
  have D_pul : Dn K mg "_law_pull" g_pul := ⟨gl _ _ a_pul, k_pul⟩
  have F_lof := fun_mk (st := sOf) l_lof c_lof k_lof
  have D_lof : Dn K mg "_law_of" g_lof := ⟨gl _ _ a_lof, k_lof⟩
  have F_sam := fun_mk (st := sSame) l_sam c_sam k_sam
  have D_sam : Dn K mg "_law_same" g_sam := ⟨gl _ _ a_sam, k_sam⟩
  have F_lna := fun_mk (st := sName) l_lna c_lna k_lna
  have D_lna : Dn K mg "_law_name" g_lna := ⟨gl _ _ a_lna, k_lna⟩
  have F_lnm := fun_mk (st := sNames) l_lnm c_lnm k_lnm
  have D_lnm : Dn K mg "_law_names" g_lnm := ⟨gl _ _ a_lnm, k_lnm⟩
  have F_law := fun_mk (st := sLaw) l_law c_law k_law
  have F_req := fun_mk (st := sREq) l_req c_req k_req
  have F_rst := fun_mk (st := sRStr) l_rst c_rst k_rst
  have F_ueq := fun_mk (st := sUEq) l_ueq c_ueq k_ueq
  have F_ust := fun_mk (st := sUStr) l_ust c_ust k_ust
  have F_win := fun_mk (st := sWInit) l_win c_win k_win
  have F_wfa := fun_mk (st := sWFact) l_wfa c_wfa k_wfa
  have F_wwi := fun_mk (st := sWWith) l_wwi c_wwi k_wwi
  have F_wle := fun_mk (st := sWLen) l_wle c_wle k_wle
  have F_iN := fun_mk (st := sI_InvalidName) l_iN c_iN k_iN
  have F_iT := fun_mk (st := sI_NameTaken) l_iT c_iT k_iT
  have F_iL := fun_mk (st := sI_TooLarge) l_iL c_iL k_iL
  have F_iF := fun_mk (st := sI_InvalidFact) l_iF c_iF k_iF
  have F_iK := fun_mk (st := sI_UnknownName) l_iK c_iK k_iK
  have b_sho := F_sho.binds (ps := ["value"]) fun _ _ _ _ _ _ us hl => match us, hl with | [_], _ => rfl
  have b_lfi := F_lfi.binds (ps := ["_law_e"]) fun _ _ _ _ _ _ us hl => match us, hl with | [_], _ => rfl
  have b_lot := F_lot.binds (ps := ["_law_e"]) fun _ _ _ _ _ _ us hl => match us, hl with | [_], _ => rfl
  have b_why := F_why.binds (ps := ["_law_ask"]) fun _ _ _ _ _ _ us hl => match us, hl with | [_], _ => rfl
  have b_isi := F_isi.binds (ps := ["value"]) fun _ _ _ _ _ _ us hl => match us, hl with | [_], _ => rfl
  have b_isn := F_isn.binds (ps := ["value"]) fun _ _ _ _ _ _ us hl => match us, hl with | [_], _ => rfl
  have b_rof := F_rof.binds (ps := ["number"]) fun _ _ _ _ _ _ us hl => match us, hl with | [_], _ => rfl
  have b_itx := F_itx.binds (ps := ["number"]) fun _ _ _ _ _ _ us hl => match us, hl with | [_], _ => rfl
  have b_rtx := F_rtx.binds (ps := ["ratio"]) fun _ _ _ _ _ _ us hl => match us, hl with | [_], _ => rfl
  have b_nam := F_nam.binds (ps := ["value"]) fun _ _ _ _ _ _ us hl => match us, hl with | [_], _ => rfl
  have b_chn := F_chn.binds (ps := ["names"]) fun _ _ _ _ _ _ us hl => match us, hl with | [_], _ => rfl
  have b_wtx := F_wtx.binds (ps := ["names", "facts"]) fun _ _ _ _ _ _ us hl => match us, hl with | [_, _], _ => rfl
  have b_cho := F_cho.binds (ps := ["value", "words"]) fun _ _ _ _ _ _ us hl => match us, hl with | [_, _], _ => rfl
  have b_who := F_who.binds (ps := ["value", "low", "high"]) fun _ _ _ _ _ _ us hl => match us, hl with | [_, _, _], _ => rfl
  have b_mir := F_mir.binds (ps := ["arity", "mirror"]) fun _ _ _ _ _ _ us hl => match us, hl with | [_, _], _ => rfl
  have b_cen := F_cen.binds (ps := ["mirror", "centre"]) fun _ _ _ _ _ _ us hl => match us, hl with | [_, _], _ => rfl
  have b_deg := F_deg.binds (ps := ["arity", "degree"]) fun _ _ _ _ _ _ us hl => match us, hl with | [_, _], _ => rfl
  have b_swp := F_swp.binds (ps := ["arity", "swap"]) fun _ _ _ _ _ _ us hl => match us, hl with | [_, _], _ => rfl
  have b_chk := F_chk.binds (ps := ["arity", "mirror", "centre", "degree", "swap"]) fun _ _ _ _ _ _ us hl => match us, hl with | [_, _, _, _, _], _ => rfl
  have b_ftx := F_ftx.binds (ps := ["arity", "mirror", "centre", "degree", "swap"]) fun _ _ _ _ _ _ us hl => match us, hl with | [_, _, _, _, _], _ => rfl
  have b_bag := F_bag.binds (ps := ["_law_script"]) fun _ _ _ _ _ _ us hl => match us, hl with | [_], _ => rfl
  have b_pul := F_pul.binds (ps := ["_law_bag_here", "_law_many"]) fun _ _ _ _ _ _ us hl => match us, hl with | [_, _], _ => rfl
  have b_lof := F_lof.binds (ps := ["_law_bag_here", "_law_things"]) fun _ _ _ _ _ _ us hl => match us, hl with | [_, _], _ => rfl
  have b_sam := F_sam.binds (ps := ["_law_found", "_law_due"]) fun _ _ _ _ _ _ us hl => match us, hl with | [_, _], _ => rfl
  have b_lna := F_lna.binds (ps := ["_law_bag_here"]) fun _ _ _ _ _ _ us hl => match us, hl with | [_], _ => rfl
  have b_lnm := F_lnm.binds (ps := ["_law_bag_here", "_law_many"]) fun _ _ _ _ _ _ us hl => match us, hl with | [_, _], _ => rfl
  have b_req := F_req.binds (ps := ["self", "other"]) fun _ _ _ _ _ _ us hl => match us, hl with | [_, _], _ => rfl
  have b_rst := F_rst.binds (ps := ["self"]) fun _ _ _ _ _ _ us hl => match us, hl with | [_], _ => rfl
  have b_ueq := F_ueq.binds (ps := ["self", "other"]) fun _ _ _ _ _ _ us hl => match us, hl with | [_, _], _ => rfl
  have b_ust := F_ust.binds (ps := ["self"]) fun _ _ _ _ _ _ us hl => match us, hl with | [_], _ => rfl
  have b_win := F_win.binds (ps := ["self", "inputs", "functions"]) fun _ _ _ _ _ _ us hl => match us, hl with | [_, _, _], _ => rfl
  have b_wfa := F_wfa.binds (ps := ["self", "name"]) fun _ _ _ _ _ _ us hl => match us, hl with | [_, _], _ => rfl
  have b_wwi := F_wwi.binds (ps := ["self", "name", "fact"]) fun _ _ _ _ _ _ us hl => match us, hl with | [_, _, _], _ => rfl
  have b_wle := F_wle.binds (ps := ["self"]) fun _ _ _ _ _ _ us hl => match us, hl with | [_], _ => rfl
  have b_iN := F_iN.binds (ps := ["self", "given"]) fun _ _ _ _ _ _ us hl => match us, hl with | [_, _], _ => rfl
  have b_iT := F_iT.binds (ps := ["self", "name"]) fun _ _ _ _ _ _ us hl => match us, hl with | [_, _], _ => rfl
  have b_iL := F_iL.binds (ps := ["self", "what", "limit"]) fun _ _ _ _ _ _ us hl => match us, hl with | [_, _, _], _ => rfl
  have b_iF := F_iF.binds (ps := ["self", "what"]) fun _ _ _ _ _ _ us hl => match us, hl with | [_, _], _ => rfl
  have b_iK := F_iK.binds (ps := ["self", "name"]) fun _ _ _ _ _ _ us hl => match us, hl with | [_, _], _ => rfl
  have I_r : FunD K "__init__" "Ratio.__init__" (defArgs sRInit) (defBody sRInit) (defScope sRInit) [.int 1] [] g_rin (PySem.W.fnOf "__init__" "Ratio.__init__" (defArgs sRInit) (defBody sRInit) (defScope sRInit) (.ref T_rin) kV_rin dc_rin pm_rin an_rin cd_rin ct_rin) :=
    ⟨⟨_, _, _, _, _, _, _, _, _, _, rfl, l_rin, c_rin, .inr ⟨by simp, T_rin, _, [Value.int 1 tk_rin], _, rfl, t_rin, rfl, .cons ⟨_, rfl⟩ .nil⟩, .inl rfl⟩, k_rin⟩
  have I_u : FunD K "__init__" "Unseen.__init__" (defArgs sUInit) (defBody sUInit) (defScope sUInit) [.int 1] kwU g_uin (PySem.W.fnOf "__init__" "Unseen.__init__" (defArgs sUInit) (defBody sUInit) (defScope sUInit) (.ref T_uin) (.ref DU) dc_uin pm_uin an_uin cd_uin ct_uin) :=
    ⟨⟨_, _, _, _, _, _, _, _, _, _, rfl, l_uin, c_uin, .inr ⟨by simp, T_uin, _, [Value.int 1 tk_uin], _, rfl, t_uin, rfl, .cons ⟨_, rfl⟩ .nil⟩, .inr ⟨DU, rfl, fun q hq => by
      simp only [kwU, List.mem_cons, List.mem_nil_iff, or_false] at hq
      rcases hq with rfl | rfl | rfl | rfl
      · exact ⟨_, d1, rfl⟩
      · exact ⟨_, d2, ⟨_, rfl⟩⟩
      · exact ⟨_, d3, rfl⟩
      · exact ⟨_, d4, rfl⟩⟩⟩, k_uin⟩
  obtain ⟨dR, vR, bR⟩ := r_binds2 I_r
  have bR3 := r_binds3 I_r
  obtain ⟨dU1, vU1, bU1⟩ := u_binds1 I_u
  refine ⟨PySem.W.fnOf "law" "law" (defArgs sLaw) (defBody sLaw) (defScope sLaw) .none kV_law dc_law pm_law an_law (.ref cL) ct_law, [(cL, PT)], spLaw K PT, fun p hp => by cases List.mem_singleton.mp hp; exact hPT, fun p hp => by cases List.mem_singleton.mp hp; exact nPT, fun p hp => by cases List.mem_singleton.mp hp; exact hCH, fun s v => .of_eq rfl,
    fun H a ns hl _ hT hS => ⟨a, ns, rfl, hS, hl, hT _ (List.mem_singleton.mpr rfl), fun _ => rfl⟩, fun base _ _ hTB => ?_⟩
  have G_sho : FnOk l.prog w K mg base CX0 1 g_sho _ ["value"] spShown := ok_shown F_sho B
  have G_iN : FnOk l.prog w K mg base CX0 2 g_iN _ ["self", "given"] (spI_InvalidName K) := okI_InvalidName F_iN BSS D_sho G_sho b_sho
  have G_iT : FnOk l.prog w K mg base CX0 2 g_iT _ ["self", "name"] (spI_NameTaken K) := okI_NameTaken F_iT BSS D_sho G_sho b_sho
  have G_iL : FnOk l.prog w K mg base CX0 2 g_iL _ ["self", "what", "limit"] (spI_TooLarge K) := okI_TooLarge F_iL BSS D_sho G_sho b_sho
  have G_iF : FnOk l.prog w K mg base CX0 2 g_iF _ ["self", "what"] (spI_InvalidFact K) := okI_InvalidFact F_iF BSS D_sho G_sho b_sho
  have G_iK : FnOk l.prog w K mg base CX0 2 g_iK _ ["self", "name"] (spI_UnknownName K) := okI_UnknownName F_iK BSM D_sho G_sho b_sho
  have G_isi : FnOk l.prog w K mg base CX0 1 g_isi _ ["value"] (spIsInt K) := ok_isInt F_isi B
  have G_isn : FnOk l.prog w K mg base CX0 2 g_isn _ ["value"] (spIsNum K CR) := ok_isNum F_isn B RTT D_isi G_isi b_isi
  have G_rin : FnOk l.prog w K mg base CX0 2 g_rin _ ["self", "top", "bottom"] (spRInit CR) := ok_rinit I_r RTT (gl _ _ aGc) D_isi G_isi b_isi
  have G_rof : FnOk l.prog w K mg base CX0 4 g_rof _ ["number"] (spRatioOf CR) := ok_ratioOf F_rof B RTT MkR G_rin vR bR
  have G_itx : FnOk l.prog w K mg base CX0 1 g_itx _ ["number"] spIntText := ok_intText F_itx B ⟨_, gl _ _ aCb⟩
  have G_rtx : FnOk l.prog w K mg base CX0 2 g_rtx _ ["ratio"] (spRatText CR) := ok_ratText F_rtx RTT D_itx G_itx b_itx
  have G_rst : FnOk l.prog w K mg base CX0 3 g_rst _ ["self"] (spRatText CR) := ok_rstr F_rst D_rtx G_rtx b_rtx
  have G_req : FnOk l.prog w K mg base CX0 2 g_req _ ["self", "other"] (spREq CR) := ok_req F_req B RTT D_isi G_isi b_isi
  have G_nam : FnOk l.prog w K mg base CX0 1 g_nam _ ["value"] (spIsName K) := ok_isName F_nam B GCC
  have G_cho : FnOk l.prog w K mg base CX0 1 g_cho _ ["value", "words"] (spChoice K) := ok_choice F_cho B
  have G_who : FnOk l.prog w K mg base CX0 2 g_who _ ["value", "low", "high"] spWhole := ok_whole F_who D_isi G_isi b_isi
  have G_mir : FnOk l.prog w K mg base CX0 2 g_mir _ ["arity", "mirror"] spMirror := ok_mirror F_mir GCC D_cho G_cho b_cho
  have G_swp : FnOk l.prog w K mg base CX0 2 g_swp _ ["arity", "swap"] spSwap := ok_swap F_swp GCC D_cho G_cho b_cho
  have G_deg : FnOk l.prog w K mg base CX0 3 g_deg _ ["arity", "degree"] spDegree := ok_degree F_deg GCC D_who G_who b_who
  have G_cen : FnOk l.prog w K mg base CX0 3 g_cen _ ["mirror", "centre"] (spCentre CR) := ok_centre F_cen RTT nfi MEq G_req b_req D_isn G_isn b_isn
  have G_chk : FnOk l.prog w K mg base CX0 4 g_chk _ ["arity", "mirror", "centre", "degree", "swap"] (spCheck CR) := ok_check F_chk D_who G_who b_who D_mir G_mir b_mir D_cen G_cen b_cen D_deg G_deg b_deg D_swp G_swp b_swp
  have G_ftx : FnOk l.prog w K mg base CX0 6 g_ftx _ ["arity", "mirror", "centre", "degree", "swap"] (spFText CR) := ok_fText F_ftx B MSt G_rst b_rst
  have G_uin : FnOk l.prog w K mg base CX0 7 g_uin _ pU (spUInit CR CU) := ok_uinit I_u RTT UTT D_chk G_chk b_chk D_rof G_rof b_rof D_ftx G_ftx b_ftx
  have G_ueq : FnOk l.prog w K mg base CX0 1 g_ueq _ ["self", "other"] (spUEq CR CU) := ok_ueq F_ueq B UTT
  have G_ust : FnOk l.prog w K mg base CX0 1 g_ust _ ["self"] (spUStr CR CU) := ok_ustr F_ust UTT
  have G_bag : FnOk l.prog w K mg base CX0 1 g_bag _ ["_law_script"] (spBag K) := ok_bag F_bag B
  have G_pul : FnOk l.prog w K mg base CX0 1 g_pul _ ["_law_bag_here", "_law_many"] spPull := ok_pull F_pul B
  have G_lof : FnOk l.prog w K mg base CX0 2 g_lof _ ["_law_bag_here", "_law_things"] spOf := ok_of F_lof B D_pul G_pul b_pul
  have S0 : FnOk l.prog w K mg base CX0 0 g_sam (PySem.W.fnOf "_law_same" "_law_same" (defArgs sSame) (defBody sSame) (defScope sSame) .none kV_sam dc_sam pm_sam an_sam cd_sam ct_sam) ["_law_found", "_law_due"] (spSame 0) := same_zero
  have S1 := ok_same_step F_sam B D_sam S0 b_sam
  have S2 := ok_same_step F_sam B D_sam S1 b_sam
  have S3 := ok_same_step F_sam B D_sam S2 b_sam
  have S4 := ok_same_step F_sam B D_sam S3 b_sam
  have G_lna : FnOk l.prog w K mg base CX0 2 g_lna _ ["_law_bag_here"] spName := ok_name F_lna B D_pul G_pul b_pul
  have G_chn : FnOk l.prog w K mg base CX0 2 g_chn _ ["names"] spChkN := ok_chkN F_chn B2 D_nam G_nam b_nam
  have G_wtx : FnOk l.prog w K mg base CX0 3 g_wtx _ ["names", "facts"] (spWText CR CU) := ok_wText F_wtx USt UFm G_ust b_ust
  have G_win : FnOk l.prog w K mg base CX0 4 g_win _ ["self", "inputs", "functions"] (spWInit CR CU CW) := ok_winit F_win B2 WTT D_chn G_chn b_chn D_wtx G_wtx b_wtx
  have G_chx : FnOk l.prog w K mg base (L2.CX l.prog w) 4 g_chn _ ["names"] (spChkX CN CT) := ok_chkX F_chn B2 D_nam G_nam b_nam RN G_iN b_iN RT' G_iT b_iT
  have G_wix : FnOk l.prog w K mg base (L2.CX l.prog w) 6 g_win _ ["self", "inputs", "functions"] (spWInitX l.prog w CW CN CT CL) := ok_winitX F_win B2 WTT D_chn (fn_or (fn_up (G_chn.mono (by decide))) G_chx) b_chn RL G_iL b_iL
  have G_wfa : FnOk l.prog w K mg base CX0 1 g_wfa _ ["self", "name"] (spWFact CR CU CW) := ok_wfact F_wfa B WTT
  have G_wfx : FnOk l.prog w K mg base (L2.CX l.prog w) 4 g_wfa _ ["self", "name"] (spWFactX K CR CU CW CK) := ok_wfactX F_wfa B WTT RK G_iK b_iK
  have G_wwx : FnOk l.prog w K mg base (L2.CX l.prog w) 6 g_wwi _ ["self", "name", "fact"] (spWWithX K CR CU CW CK CF) := ok_wwithX F_wwi UTT WTT MFa (fn_or (fn_up (G_wfa.mono (by decide))) G_wfx) b_wfa RF G_iF b_iF
  have G_wle : FnOk l.prog w K mg base CX0 1 g_wle _ ["self"] (spWLen CR CU CW) := ok_wlen F_wle B WTT
  have G_lnm : FnOk l.prog w K mg base CX0 3 g_lnm _ ["_law_bag_here", "_law_many"] spNames := ok_names F_lnm B D_lna G_lna b_lna
  have G_lot : FnQ l.prog w K mg base 1 g_lot _ ["_law_e"] (spOtherF K) := ok_otherField F_lot
  have G_lfi : FnQ l.prog w K mg base 2 g_lfi _ ["_law_e"] (spFieldE K) := ok_field F_lfi D_lot G_lot b_lot
  exact ok_law l_law c_law l_why c_why D_why b_why (hTB _ (List.mem_singleton.mpr rfl)) (gl _ _ eS) (gl _ _ eM) D_lfi G_lfi b_lfi B2 UTT WTT KN KT KL KK KF D_bag G_bag b_bag D_pul G_pul b_pul D_lof G_lof b_lof D_lnm G_lnm b_lnm D_sam S4 b_sam MkU G_uin bU1 vU1 MkW G_win G_wix b_win MFa G_wfx b_wfa MWi G_wwx b_wwi MLe G_wle b_wle
end K09

set_option Elab.async false
open PySem PySem.W PyProof.Rows
set_option maxRecDepth 100000 in
set_option maxHeartbeats 0 in
theorem PySem.Challenge.cw_unseenslopes_k09_worlds_refused_holds : PySem.Challenge.rw_unseenslopes_k09_worlds_refused.Holds := by
  w_on; o_law; k_head; (case hw => w_witness2)
  k_fill
  refine LamX.walk_ofTsE (l := PySem.Challenge.rw_unseenslopes_k09_worlds_refused) (n := 63) (k := 11) (x := "_law_script") (CX := fun _ => L2.CX0) rfl (by decide) rfl ⟨rfl, by decide, by decide⟩ ?F (fun _ _ _ _ _ z => z)
  case F =>
    intro w mg fa h Y G hmg
    have KX := PySem.W.km_in_of Y
    refine' ⟨_, KX, K09.all_mk (PT := 688) KX G hmg (PySem.W.km_tabs_of Y 688 (List.mem_singleton.mpr rfl)) ?np (PySem.W.codeHd_of_K KX ?ch) ?aR ?aU ?aW ?eN ?eT ?eL ?eF ?eK ?eS ?eM ?vS ?vM ?a_sho ?l_sho ?c_sho ?k_sho ?a_lfi ?l_lfi ?c_lfi ?k_lfi ?a_lot ?l_lot ?c_lot ?k_lot ?a_why ?l_why ?c_why ?k_why ?a_isi ?l_isi ?c_isi ?k_isi ?a_isn ?l_isn ?c_isn ?k_isn ?a_rof ?l_rof ?c_rof ?k_rof ?a_itx ?l_itx ?c_itx ?k_itx ?a_rtx ?l_rtx ?c_rtx ?k_rtx ?a_nam ?l_nam ?c_nam ?k_nam ?a_chn ?l_chn ?c_chn ?k_chn ?a_wtx ?l_wtx ?c_wtx ?k_wtx ?a_cho ?l_cho ?c_cho ?k_cho ?a_who ?l_who ?c_who ?k_who ?a_mir ?l_mir ?c_mir ?k_mir ?a_cen ?l_cen ?c_cen ?k_cen ?a_deg ?l_deg ?c_deg ?k_deg ?a_swp ?l_swp ?c_swp ?k_swp ?a_chk ?l_chk ?c_chk ?k_chk ?a_ftx ?l_ftx ?c_ftx ?k_ftx ?a_bag ?l_bag ?c_bag ?k_bag ?a_pul ?l_pul ?c_pul ?k_pul ?a_lof ?l_lof ?c_lof ?k_lof ?a_sam ?l_sam ?c_sam ?k_sam ?a_lna ?l_lna ?c_lna ?k_lna ?a_lnm ?l_lnm ?c_lnm ?k_lnm ?a_law ?l_law ?c_law ?k_law ?i_req ?l_req ?c_req ?k_req ?i_rst ?l_rst ?c_rst ?k_rst ?i_ueq ?l_ueq ?c_ueq ?k_ueq ?i_ust ?l_ust ?c_ust ?k_ust ?i_win ?l_win ?c_win ?k_win ?i_wfa ?l_wfa ?c_wfa ?k_wfa ?i_wwi ?l_wwi ?c_wwi ?k_wwi ?i_wle ?l_wle ?c_wle ?k_wle ?i_iN ?l_iN ?c_iN ?k_iN ?i_iT ?l_iT ?c_iT ?k_iT ?i_iL ?l_iL ?c_iL ?k_iL ?i_iF ?l_iF ?c_iF ?k_iF ?i_iK ?l_iK ?c_iK ?k_iK ?i_rin ?l_rin ?c_rin ?k_rin ?t_rin ?i_uin ?l_uin ?c_uin ?k_uin ?t_uin ?d1 ?d2 ?d3 ?d4 ?aLt ?aMl ?aMd ?aCb ?aGc ?aK ?lK ?aM ?lM ?aS ?lS ?z_isin ?z_tstr ?z_tint ?z_tlist ?z_ttuple ?z_tbool ?z_fabs ?z_frepr ?z_flen ?z_frange ?z_fzip ?z_fall ?z_tve ?z_tle ?z_tset ?z_fsort ?hR ?hU ?hW ?hG ?hS ?hM ?heN ?heT ?heL ?heF ?heK⟩
    (case aR => k_is); (case aU => k_is); (case aW => k_is); (case eN => k_is); (case eT => k_is); (case eL => k_is); (case eF => k_is); (case eK => k_is); (case eS => k_is); (case eM => k_is); (case vS => k_is); (case vM => k_is); (case a_sho => k_is); (case l_sho => k_is); (case c_sho => k_is); (case k_sho => k_is); (case a_lfi => k_is); (case l_lfi => k_is); (case c_lfi => k_is); (case k_lfi => k_is); (case a_lot => k_is); (case l_lot => k_is); (case c_lot => k_is); (case k_lot => k_is); (case a_why => k_is); (case l_why => k_is); (case c_why => k_is); (case k_why => k_is); (case a_isi => k_is); (case l_isi => k_is); (case c_isi => k_is); (case k_isi => k_is); (case a_isn => k_is); (case l_isn => k_is); (case c_isn => k_is); (case k_isn => k_is); (case a_rof => k_is); (case l_rof => k_is); (case c_rof => k_is); (case k_rof => k_is); (case a_itx => k_is); (case l_itx => k_is); (case c_itx => k_is); (case k_itx => k_is); (case a_rtx => k_is); (case l_rtx => k_is); (case c_rtx => k_is); (case k_rtx => k_is); (case a_nam => k_is); (case l_nam => k_is); (case c_nam => k_is); (case k_nam => k_is); (case a_chn => k_is); (case l_chn => k_is); (case c_chn => k_is); (case k_chn => k_is); (case a_wtx => k_is); (case l_wtx => k_is); (case c_wtx => k_is); (case k_wtx => k_is); (case a_cho => k_is); (case l_cho => k_is); (case c_cho => k_is); (case k_cho => k_is); (case a_who => k_is); (case l_who => k_is); (case c_who => k_is); (case k_who => k_is); (case a_mir => k_is); (case l_mir => k_is); (case c_mir => k_is); (case k_mir => k_is); (case a_cen => k_is); (case l_cen => k_is); (case c_cen => k_is); (case k_cen => k_is); (case a_deg => k_is); (case l_deg => k_is); (case c_deg => k_is); (case k_deg => k_is); (case a_swp => k_is); (case l_swp => k_is); (case c_swp => k_is); (case k_swp => k_is); (case a_chk => k_is); (case l_chk => k_is); (case c_chk => k_is); (case k_chk => k_is); (case a_ftx => k_is); (case l_ftx => k_is); (case c_ftx => k_is); (case k_ftx => k_is); (case a_bag => k_is); (case l_bag => k_is); (case c_bag => k_is); (case k_bag => k_is); (case a_pul => k_is); (case l_pul => k_is); (case c_pul => k_is); (case k_pul => k_is); (case a_lof => k_is); (case l_lof => k_is); (case c_lof => k_is); (case k_lof => k_is); (case a_sam => k_is); (case l_sam => k_is); (case c_sam => k_is); (case k_sam => k_is); (case a_lna => k_is); (case l_lna => k_is); (case c_lna => k_is); (case k_lna => k_is); (case a_lnm => k_is); (case l_lnm => k_is); (case c_lnm => k_is); (case k_lnm => k_is); (case a_law => k_is); (case l_law => k_is); (case c_law => k_is); (case k_law => k_is); (case i_req => k_is); (case l_req => k_is); (case c_req => k_is); (case k_req => k_is); (case i_rst => k_is); (case l_rst => k_is); (case c_rst => k_is); (case k_rst => k_is); (case i_ueq => k_is); (case l_ueq => k_is); (case c_ueq => k_is); (case k_ueq => k_is); (case i_ust => k_is); (case l_ust => k_is); (case c_ust => k_is); (case k_ust => k_is); (case i_win => k_is); (case l_win => k_is); (case c_win => k_is); (case k_win => k_is); (case i_wfa => k_is); (case l_wfa => k_is); (case c_wfa => k_is); (case k_wfa => k_is); (case i_wwi => k_is); (case l_wwi => k_is); (case c_wwi => k_is); (case k_wwi => k_is); (case i_wle => k_is); (case l_wle => k_is); (case c_wle => k_is); (case k_wle => k_is); (case i_iN => k_is); (case l_iN => k_is); (case c_iN => k_is); (case k_iN => k_is); (case i_iT => k_is); (case l_iT => k_is); (case c_iT => k_is); (case k_iT => k_is); (case i_iL => k_is); (case l_iL => k_is); (case c_iL => k_is); (case k_iL => k_is); (case i_iF => k_is); (case l_iF => k_is); (case c_iF => k_is); (case k_iF => k_is); (case i_iK => k_is); (case l_iK => k_is); (case c_iK => k_is); (case k_iK => k_is); (case i_rin => k_is); (case l_rin => k_is); (case c_rin => k_is); (case k_rin => k_is); (case t_rin => k_is); (case i_uin => k_is); (case l_uin => k_is); (case c_uin => k_is); (case k_uin => k_is); (case t_uin => k_is); (case d1 => k_is); (case d2 => k_is); (case d3 => k_is); (case d4 => k_is); (case aLt => k_is); (case aMl => k_is); (case aMd => k_is); (case aCb => k_is); (case aGc => k_is); (case aK => k_is); (case lK => k_is); (case aM => k_is); (case lM => k_is); (case aS => k_is); (case lS => k_is); (case z_isin => k_is); (case z_tstr => k_is); (case z_tint => k_is); (case z_tlist => k_is); (case z_ttuple => k_is); (case z_tbool => k_is); (case z_fabs => k_is); (case z_frepr => k_is); (case z_flen => k_is); (case z_frange => k_is); (case z_fzip => k_is); (case z_fall => k_is); (case z_tve => k_is); (case z_tle => k_is); (case z_tset => k_is); (case z_fsort => k_is)
    (case np => kernel_rfl); (case ch => kernel_rfl)
    (case hR => kernel_rfl); (case hU => kernel_rfl); (case hW => kernel_rfl); (case hG => kernel_rfl); (case hS => kernel_rfl); (case hM => kernel_rfl); (case heN => kernel_rfl); (case heT => kernel_rfl); (case heL => kernel_rfl); (case heF => kernel_rfl); (case heK => kernel_rfl)
