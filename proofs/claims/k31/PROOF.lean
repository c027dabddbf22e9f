import PyProof.Rows.All
import Wide.All
import OpenK.AllK
import Wide.FinOn
import KE.KExcInit
import HandS.ForMost
import HandS.Exc
import HandS.ExcInit
import HandS.IsInst
import HandS.Defaults
import HandS.MakeKw
import HandS.FStr
import HandS.RaiseMore
import HandS.ExcIs
import KE.KExcIs
import PyProof.FactsAll.bool_1
import KE.KCallOwn
import PyProof.InstEq
import HandS.Property
import HandS.Gcd
import HandS.MakeKwOnly
import KE.KTryMore
import HandS.HotCalls
import HandS.ExcField
import HandS.Codes
import HandS.Walk
import HandS.Zip
import HandS.Style
import HandS.Lambda
import KE.KFmtOwn
import HandS.WordsExc
import HandS.EndTab
import HandS.HeadWalk
import KE.KNestM
import PySem.Challenge.RW_unseenslopes_k31_rules_told
set_option Elab.async false
set_option linter.all false
set_option maxRecDepth 100000
set_option maxHeartbeats 4000000
/-! Own error classes over any built-in base: called with keywords too, held as values, their fields. -/
namespace Ux
open PySem PySem.Calls PySem.W
open Builtin Builtin.ObjectAttr
section
variable {M : Model} {prog : Program} {w : World} {A : Around} {E : Value → Shared → Prop} {h : Heap} {g : Array GenState} {d : Drawn} {t : Nat} {os : OsState}
variable {nm q : Str} {C N : Addr} {bs bm bmB : List Value} {hdct : Bool} {sn : List Str} {sub : List Value} {ab : Bool} {col : Option Bool} {dd : Option Addr} {k0 k1 k2 k3 k5 : Option Value} {B newId initId : String}
/-- the class object as the built-in rules read it -/
abbrev ClsO (nm q : Str) (C N : Addr) (bs bm : List Value) (hdct : Bool) (sn : List Str) (sub : List Value) (ab : Bool) (col : Option Bool) (dd : Option Addr) (k0 k1 k2 k3 k5 : Option Value) (newId : String) : Obj := excClassObj nm q C N bs bm hdct sn sub ab col dd k0 k1 k2 k3 k5 newId
theorem kw_check (F : ExcBaseFacts B newId initId bmB) (hT : ∀ Y : String, bm.contains (.type Y) = bmB.contains (.type Y)) {rest : List Value} {kw : List (Str × Value)} {Q : Unit → Shared → Prop}
    (oc : h.get? C = some (ClsO nm q C N bs bm hdct sn sub ab col dd k0 k1 k2 k3 k5 newId)) (z : Q () ⟨h, g, d, t, os⟩) : wpAny M A (checkBuiltinCall newId ⟨.ref C :: rest, kw⟩) Q E ⟨h, g, d, t, os⟩ := by
  have inB : (Value.ref C :: bm).contains (.type B) = true := by rw [List.contains_cons, hT B, F.hasB, Bool.or_true]
  have star := F.noStar
  simp only [checkBuiltinCall, F.newKind, F.newSplit, F.newRow]
  repeat (first
    | refine wpAny_loadPart_at oc ?_
    | (refine wpAny_isSubtype_exc oc ?_; rw [inB])
    | refine wpAny_staticBase_exc oc ?_
    | refine wpAny_madeBy_exc oc ?_
    | simp only [bne_self_eq_false, Bool.false_eq_true, if_false]
    | wp_step)
  exact z
theorem kw_new {R : Result → Shared → Prop} (F : ExcBaseFacts B newId initId bmB) (hT : ∀ Y : String, bm.contains (.type Y) = bmB.contains (.type Y)) {rest : List Value} {kw : List (Str × Value)}
    (oc : h.get? C = some (ClsO nm q C N bs bm hdct sn sub ab col dd k0 k1 k2 k3 k5 newId)) (z : R (.ok (.ret (.ref (h.objs.size + 1)))) ⟨(h.push (kdv_tup rest)).push (excObj C h.objs.size none .none), g, d, t, os⟩) (hz : rest.length ≤ sizeLine) :
    codeAny (model prog w) A (.builtin newId ⟨.ref C :: rest, kw⟩) R ⟨h, g, d, t, os⟩ := by
  have ends := F.ends
  have inB : (Value.ref C :: bm).contains (.type B) = true := by rw [List.contains_cons, hT B, F.hasB, Bool.or_true]
  have inA : (Value.ref C :: bm).contains (.type "AttributeError") = false := by rw [List.contains_cons, hT _, F.noAttr]; rfl
  have inN : (Value.ref C :: bm).contains (.type "NameError") = false := by rw [List.contains_cons, hT _, F.noName]; rfl
  refine codeAny_builtinAt F.entry ?_
  unfold Builtin.«BaseException.__new__»
  refine wpAt_bind ?_
  show wpAt _ _ _ (stack >>= _) _ _ _
  refine wpAt_bind (wpAt_stack fun p below => wpAt_of_wpAny ?_)
  wp_walk
  refine wpAt_of_wpAny ?_
  rw [F.owner]
  repeat (first
    | with_reducible refine wpAny_madeHere_exc F.canon oc ?_
    | with_reducible refine wpAny_loadPart_at oc ?_
    | (with_reducible refine wpAny_isSubtype_exc oc ?_; first | rw [inB] | rw [inA] | rw [inN])
    | wp_step)
  show R _ _
  rw [Heap.size_push]
  exact z
theorem kw_typecall (F : ExcBaseFacts B newId initId bmB) (hT : ∀ Y : String, bm.contains (.type Y) = bmB.contains (.type Y)) {rest : List Value} {kw : List (Str × Value)} {fI : Addr} {Q : Fin → Shared → Prop}
    (oc : h.get? C = some (ClsO nm q C N bs bm hdct sn sub ab col dd k0 k1 k2 k3 k5 newId)) (li : Looks (model prog w) h (typeLookup (.ref C) "__init__") (some (.ref fI)))
    (lb : ∀ self, Looks (model prog w) h (bindSpecial (.ref fI) self) (.ref fI, [self])) (hz : rest.length ≤ sizeLine)
    (z : codeAny (model prog w) A (.call (.ref fI) ⟨.ref (h.objs.size + 1) :: rest, kw⟩) (fun r s' => match r with | .ok (.ret v) => v = .none ∧ Q (.done (.ret (.ref (h.objs.size + 1)))) s' | .ok _ => False | .error e => E e s')
      ⟨(h.push (kdv_tup rest)).push (excObj C h.objs.size none .none), g, d, t, os⟩) :
    wpAny (model prog w) A (Builtin.«type.__call__» ⟨.ref C :: rest, kw⟩) Q E ⟨h, g, d, t, os⟩ := by
  repeat (first
    | with_reducible refine wpAny_loadPart_at oc ?_
    | with_reducible refine wpAny_madeBy_exc oc ?_
    | wp_step)
  refine codeAny_call_builtin_code (Code.quiet_builtin _ F.quiet) (kw_check F hT oc ?_)
  refine kw_new F hT oc ?_ hz
  show wpAny _ _ _ _ _ _
  have stays : ∀ b o, h.get? b = some o → ((h.push (kdv_tup rest)).push (excObj C h.objs.size none .none)).get? b = some o := fun b o y => Heap.get?_push_of_some _ (Heap.get?_push_of_some _ y)
  have oc' := stays _ _ oc
  have made : ((h.push (kdv_tup rest)).push (excObj C h.objs.size none .none)).get? (h.objs.size + 1) = some (excObj C h.objs.size none .none) := by heap_get
  have inC : (Value.ref C :: bm).contains (.ref C) = true := by simp
  have i1 := li.keeps stays
  have b1 := (lb (.ref (h.objs.size + 1))).keeps stays
  unfold isInstance
  repeat (first
    | with_reducible refine wpAny_loadPart_at made ?_
    | (with_reducible refine wpAny_isSubtype_exc oc' ?_; rw [inC])
    | wp_step)
  show wpAny _ _ (typeLookup (.ref C) _) _ _ _
  refine i1.at ?_
  refine wpAny_holding (wpAny_bind (b1.at ?_))
  refine wpAny_bind (wpAny_call (codeAny_mono z fun r s' y => ?_))
  rcases r with e | (v | _ | _ | _) <;> first | exact y | exact y.elim | skip
  obtain ⟨rfl, y⟩ := y
  first
    | exact wpAny_pure (wpAny_pure y)
    | (wp_walk; exact y)
theorem kw_call {R : Result → Shared → Prop} (F : ExcBaseFacts B newId initId bmB) (hT : ∀ Y : String, bm.contains (.type Y) = bmB.contains (.type Y)) {rest : List Value} {kw : List (Str × Value)} {fI : Addr}
    (oc : h.get? C = some (ClsO nm q C N bs bm hdct sn sub ab col dd k0 k1 k2 k3 k5 newId)) (li : Looks (model prog w) h (typeLookup (.ref C) "__init__") (some (.ref fI)))
    (lb : ∀ self, Looks (model prog w) h (bindSpecial (.ref fI) self) (.ref fI, [self])) (hz : rest.length ≤ sizeLine)
    (z : codeAny (model prog w) (A.under (.builtin "type.__call__" ⟨.ref C :: rest, kw⟩)) (.call (.ref fI) ⟨.ref (h.objs.size + 1) :: rest, kw⟩) (InitBack (h.objs.size + 1) R)
      ⟨(h.push (kdv_tup rest)).push (excObj C h.objs.size none .none), g, d, t, os⟩) :
    codeAny (model prog w) A (.call (.ref C) ⟨rest, kw⟩) R ⟨h, g, d, t, os⟩ := by
  have f1 := tc_lookup
  have f2 := tc_bind (.ref C)
  have ty : (⟨h, g, d, t, os⟩ : Shared).TypeIs (.ref C) "type" := ⟨_, oc, rfl⟩
  refine codeAny_of_tree ?_
  show wpAny _ _ (callAny (.ref C) _) _ _ _
  repeat (any_goals (first
    | assumption
    | with_reducible refine wpAny_loadPart_at oc ?_
    | wp_step))
  refine ⟨rfl, ?_⟩
  refine codeAny_call_builtin_at (Code.quiet_builtin _ (by decide +kernel)) entry_typeCall (wpAny_check_type_call_sub oc (kw_typecall F hT oc li lb hz ?_))
  refine codeAny_mono z fun r s' y => ?_
  rcases r with e | (v | _ | _ | _) <;> exact y
end
end Ux

set_option Elab.async false
set_option linter.all false
set_option maxRecDepth 100000
set_option maxHeartbeats 4000000
namespace Ux
open PySem PySem.Calls PySem.W
section
variable {prog : Program} {w : World} {A : Around} {E : Value → Shared → Prop} {R : Result → Shared → Prop} {hp : Heap} {g : Array GenState} {d : Drawn} {t : Nat} {os : OsState}
variable {K : Frag} {B : String} {bmB : List Value} {name : Str} {tk : Tok} {v : Value} {x C : Addr}
theorem taker_of (n : findIn K (.ref C) name = some none) : takerIn K C name = some none := by
  unfold takerIn
  rw [n]
  rfl
/-- the first field of an exception -/
theorem put_first {t0 : Addr} (SF : StoreFacts B bmB "object.__setattr__" "object") (IN : K.In hp) (ex : hp.get? x = some (excObj C t0 none .none)) (ov : excOver K C bmB = true) (nf : findIn K (.ref C) name = some none) (hd : hasDictIn K C = true)
    (z : ∀ h' tk' dx, (∀ b o, b ≠ x → hp.get? b = some o → h'.get? b = some o) → hp.objs.size ≤ dx → dx ≠ x → h'.get? x = some (excObj C t0 (some dx) .none) → h'.Ns1 dx (fun y => if y = name then some v else none) → R (.ok (.ret .none)) ⟨h', g, d, tk', os⟩) :
    codeAny (model prog w) A (.call (.builtin "object.__setattr__") ⟨[.ref x, .str name tk, v], []⟩) R ⟨hp, g, d, t, os⟩ := by
  refine osa_openX (s := ⟨hp, g, d, t, os⟩) (od := none) SF IN ⟨ex, rfl, rfl, trivial⟩ ov (taker_of nf) fun b => ?_
  obtain ⟨cd, hc, hdc⟩ := any_some hd
  have lx := Heap.lt_size ex
  have nx : hp.objs.size ≠ x := Nat.ne_of_gt lx
  have ex1 : (hp.push (dictOf [] 0)).get? x = some (excObj C t0 none .none) := Heap.get?_push_of_some _ ex
  refine wpAny_bind (wpAny_pure (wpAny_bind (instanceDict_exc (s := ⟨hp, g, d, t, os⟩) ex (looks_clsIn IN hc) hdc ?_)))
  show wpAny _ _ (Builtin.ObjectAttr.storeInDict hp.objs.size (.str name tk) name v) _ _ _
  refine HandSPX.store_in_new ⟨_, #[], _, (Heap.get?_update_ne _ _ _ _ nx).trans (Heap.get?_push_at rfl rfl), rfl, fun e he => absurd he (by simp), fun _ => rfl⟩ fun h' tk' hn same => ?_
  refine z h' tk' hp.objs.size (fun b o nb ho => ?_) (Nat.le_refl _) nx ?_ hn
  · exact (same.2 b (Nat.ne_of_lt (Heap.lt_size ho))).trans ((Heap.get?_update_ne _ _ _ _ nb).trans (Heap.get?_push_of_some _ ho))
  · exact (same.2 x nx.symm).trans (Heap.get?_update_self _ ex1 rfl)
/-- a further one -/
theorem put_more {t0 dx : Addr} {m0 : Str → Option Value} {ns : List Str} (SF : StoreFacts B bmB "object.__setattr__" "object") (IN : K.In hp) (ex : hp.get? x = some (excObj C t0 (some dx) .none)) (hn : hp.Ns1 dx m0) (hw : Within m0 ns) (hz : ns.length ≤ 1000)
    (ov : excOver K C bmB = true) (nf : findIn K (.ref C) name = some none) (hd : hasDictIn K C = true)
    (z : ∀ h' tk', (∀ b o, b ≠ dx → hp.get? b = some o → h'.get? b = some o) → h'.Ns1 dx (fun y => if y = name then some v else m0 y) → R (.ok (.ret .none)) ⟨h', g, d, tk', os⟩) :
    codeAny (model prog w) A (.call (.builtin "object.__setattr__") ⟨[.ref x, .str name tk, v], []⟩) R ⟨hp, g, d, t, os⟩ := by
  obtain ⟨oD, _, _, hoD, _, _⟩ := hn.count hw
  refine osa_openX (s := ⟨hp, g, d, t, os⟩) (od := some oD) SF IN ⟨ex, rfl, rfl, hoD⟩ ov (taker_of nf) fun b => ?_
  obtain ⟨cd, hc, hdc⟩ := any_some hd
  refine wpAny_bind (wpAny_pure (wpAny_bind (wpAny_bind (wpAny_loadPart ex (wpAny_bind ((looks_clsIn IN hc).here ?_))))))
  rw [hdc]
  refine wpAny_pure (a := some dx) ?_
  exact OEX.store_in_old hn hw hz fun h' tk' hn' same => z h' tk' (fun b o nb ho => (same.2 b nb).trans ho) hn'
end
end Ux

namespace Ux
open PySem PySem.Spec PyProof.Rows L2
/-- what the written part says of an error class over the built-in B -/
structure Ec (K : PySem.W.Frag) (B newId initId : String) (bmB : List Value) (C : Addr) : Prop where
  FB : ExcBaseFacts B newId initId bmB
  SF : StoreFacts B bmB "object.__setattr__" "object"
  ini : PySem.W.excInitIn K C bmB newId = true
  ovr : PySem.W.excOver K C bmB = true
  hdc : PySem.W.hasDictIn K C = true
  sa : PySem.W.findIn K (.ref C) "__setattr__" = some (some (.builtin "object.__setattr__"))
  kc : PySem.W.keepIn K (.ref C) = true
  ga : PySem.W.findIn K (.ref C) "__getattribute__" = some (some (.builtin "BaseException.__getattribute__"))
  gg : PySem.W.findIn K (.ref C) "__getattr__" = some none
  exC : PySem.W.subIn K (.ref C) (.type "BaseException") = some true
section
variable {X : Cx} {pins : List (Addr × Obj)} {σ : L2.St} {H : Hp} {s : Shared} {a C dx : Addr} {f : Str} {y : V} {u : Value} {fs : List (Str × V)} {Q : Unit → Shared → Prop} {E : Value → Shared → Prop} {A : Around} {B newId initId : String} {bmB : List Value}
theorem not_own {c x : Addr} {o : HO} (e : H c = some o) (n : ∀ y, o ≠ .own y) (z : H x = some (.own a)) : x ≠ c := fun q => by
  rw [q, e] at z
  exact n _ (Option.some.inj z)
theorem est_first (T : Ec X.K B newId initId bmB C) (I : Inv X pins σ H s) (ea : H a = some (exo a C none)) (nf : PySem.W.findIn X.K (.ref C) f = some none) (r : RelV y u)
    (z : ∀ dx s', H dx = none → dx ≠ a → Inv X pins σ (upd (upd H dx (exd dx [(f, y)])) a (exo a C (some dx))) s' → Q () s') : wpAny (model X.prog X.w) A (setAttr (.ref a) f u) Q E s := by
  obtain ⟨t1, ho⟩ := exo_at I.hok ea
  obtain ⟨hp, g, d, t, os⟩ := s
  refine PySem.W.set_plain I.kIn (ox := PySem.W.excObj C t1 none .none) (od := none) ⟨ho, rfl, rfl, trivial⟩ T.sa ?_
  refine put_first T.SF I.kIn ho T.ovr nf T.hdc fun h' tk' dx keep lo ne hx hn => ?_
  have fr : H dx = none := I.hok.fresh lo
  have nd : ∀ {b : Addr} {o : Obj}, hp.get? b = some o → b ≠ dx := fun q => Nat.ne_of_lt (Nat.lt_of_lt_of_le (Heap.lt_size q) lo)
  have na : ∀ {b : Addr}, H b = none → b ≠ a := fun n q => by
    rw [q, ea] at n
    cases n
  have U : Un X.fs [] H (upd (upd H dx (exd dx [(f, y)])) a (exo a C (some dx))) hp h' := by
    refine ⟨fun b o q n _ _ => keep b o (na n) q, fun b o q n _ _ => ⟨o.slots, keep b o (na n) q⟩, fun b o q n _ => ?_, fun b o q _ => ?_, fun b xs q => ?_, fun b o v q => ?_, fun b ps q => ⟨#[], ?_⟩⟩
    · rw [upd_ne (na n), upd_ne (nd q)]
      exact n
    · by_cases hb : b = a
      · subst hb
        exact ⟨_, hx⟩
      · exact ⟨o, keep b o hb q⟩
    · rw [upd_ne (at_ne ea q exo_tup), upd_ne (ne_of_none q fr)]
      exact q
    · rw [upd_ne (at_ne ea q exo_frz), upd_ne (ne_of_none q fr)]
      exact q
    · rw [upd_ne (at_ne ea q exo_tbl), upd_ne (ne_of_none q fr), q]
      simp
  refine z dx _ fr ne (I.un (t' := tk') U fun b o q => ?_)
  by_cases hb : b = a
  · subst hb
    rw [upd_same] at q
    cases q
    exact exo_ok hx
  · rw [upd_ne hb] at q
    by_cases hd : b = dx
    · subst hd
      rw [upd_same] at q
      cases q
      exact exd_ok hn (relO_put (fs := []) r fun _ => True.intro)
    · rw [upd_ne hd] at q
      refine (I.hok b o q).stay (fun c v hc w => keep c v ?_ w) (fun c hc => ?_) (fun c xs hc => ?_)
      · rcases hc with hc | hc
        · rw [hc]
          exact hb
        · exact at_ne ea hc exo_own
      · rw [upd_ne (at_ne ea hc exo_own), upd_ne (ne_of_none hc fr)]
        exact hc
      · rw [upd_ne (at_ne ea hc exo_tup), upd_ne (ne_of_none hc fr)]
        exact hc
theorem est_more (T : Ec X.K B newId initId bmB C) (I : Inv X pins σ H s) (ea : H a = some (exo a C (some dx))) (ed : H dx = some (exd dx fs)) (hl : fs.length ≤ 900) (nf : PySem.W.findIn X.K (.ref C) f = some none) (r : RelV y u)
    (z : ∀ s', Inv X pins σ (upd H dx (exd dx ((f, y) :: fs))) s' → Q () s') : wpAny (model X.prog X.w) A (setAttr (.ref a) f u) Q E s := by
  obtain ⟨t1, ho⟩ := exo_at I.hok ea
  obtain ⟨mA, hns, rel⟩ := exd_at I.hok ed
  have hw := within_of rel
  obtain ⟨hp, g, d, t, os⟩ := s
  obtain ⟨oD, _, _, hoD, _, _⟩ := hns.count hw
  refine PySem.W.set_plain I.kIn (ox := PySem.W.excObj C t1 (some dx) .none) (od := some oD) ⟨ho, rfl, rfl, hoD⟩ T.sa ?_
  refine put_more T.SF I.kIn ho hns hw (by rw [List.length_map]; omega) T.ovr nf T.hdc fun h' tk' keep hn => ?_
  have there : ∃ o, h'.get? dx = some o := by
    obtain ⟨o, _, _, q, _⟩ := hn
    exact ⟨o, q⟩
  exact z _ (I.write (t' := tk') (x := dx) (e := dx) (o := exd dx ((f, y) :: fs)) (by rw [ed]; exact True.intro) (.inl rfl) keep there (exd_ok hn (relO_put r rel)))
/-- the base's __init__ on it: nothing of it is told -/
theorem base_init {us : List Value} {Q : Value → Shared → Prop} (T : Ec X.K B newId initId bmB C) (I : Inv X pins σ H s) (ea : H a = some (exo a C none)) (hl : us.length ≤ sizeLine) (z : ∀ s', Inv X pins σ H s' → Q .none s') :
    wpAny (model X.prog X.w) A (call (.builtin initId) (.ref a :: us)) Q E s := by
  obtain ⟨t1, ho⟩ := exo_at I.hok ea
  obtain ⟨nm, N, qn, bs, bm, hdct, sn, sub, ab, col, dd, k0, k1, k2, k3, k5, oc, hT⟩ := PySem.W.excInit_of I.kIn T.ini
  obtain ⟨hp, g, d, t, os⟩ := s
  refine wpAny_call (PySem.HandSPX.init_base T.FB hT oc ho hl fun h' t2 keep hx => ?_)
  have J := I.write (t' := t) (x := a) (e := a) (o := exo a C none) (by rw [ea]; exact True.intro) (.inl rfl) keep ⟨_, hx⟩ (exo_ok hx)
  have same : upd H a (exo a C none) = H := by
    funext b
    by_cases hb : b = a
    · rw [hb, upd_same, ea]
    · rw [upd_ne hb]
  rw [same] at J
  exact z _ J
end
/-- .. whatever the base's other facts -/
def EcI (K : PySem.W.Frag) (initId : String) (C : Addr) : Prop := ∃ (B newId : String) (bmB : List Value), Ec K B newId initId bmB C
def EcA (K : PySem.W.Frag) (C : Addr) : Prop := ∃ initId : String, EcI K initId C
/-! ### readings and rules -/
/-- Base.__init__(self, ..) -/
def tBI (K : PySem.W.Frag) (initId : String) (ta : TA) : TE := fun σ H Q => ta σ H fun vs H1 => ∃ (a C : Addr) (ws : List V), vs = .ref a :: ws ∧ ws.length ≤ 1000 ∧ EcI K initId C ∧ H1 a = some (exo a C none) ∧ Q .non H1
/-- self.f = e -/
def tEst (K : PySem.W.Frag) (f : Str) (to te : TE) : TS := fun D σ H => te σ H fun y H1 => to σ H1 fun x H2 => ∃ a C : Addr, x = .ref a ∧ EcA K C ∧ PySem.W.findIn K (.ref C) f = some none ∧
  ((H2 a = some (exo a C none) ∧ ∀ dx, H2 dx = none → dx ≠ a → D.nx σ (upd (upd H2 dx (exd dx [(f, y)])) a (exo a C (some dx)))) ∨
    ∃ (dx : Addr) (fs : List (Str × V)), H2 a = some (exo a C (some dx)) ∧ H2 dx = some (exd dx fs) ∧ fs.length ≤ 900 ∧ D.nx σ (upd H2 dx (exd dx ((f, y) :: fs))))
/-- e.f -/
def tEf (K : PySem.W.Frag) (f : Str) (to : TE) : TE := fun σ H Q => to σ H fun x H1 => ∃ (a C dx : Addr) (fs : List (Str × V)) (v : V), x = .ref a ∧ EcA K C ∧ PySem.W.findIn K (.ref C) f = some none ∧
  H1 a = some (exo a C (some dx)) ∧ H1 dx = some (exd dx fs) ∧ fs.lookup f = some v ∧ Q v H1
section
variable {X : Cx} {o e : Expr} {es : List Expr} {to te : TE} {ta : TA} {f x : Str} {p p' p1 p2 pos : Pos} {B newId initId : String} {bmB : List Value} {CB : Addr} {mc : Value}
theorem pe_bi {pl : Sem Bool} (hg : Gl X x) (hm : X.mg x = some (.ref CB)) (sg : PySem.W.specialIn X.K (.ref CB) "__getattribute__" = some (some (.builtin "type.__getattribute__"))) (rd : PySem.W.readsIn X.K CB mc = true)
    (vV : PySem.W.findCls X.K (.ref CB) mc "__init__" = some (.val (.builtin initId))) (vh : PySem.W.handedIn (.builtin initId) = true) (ha : PA X (e :: es) ta) (hdb : (x == ("__debug__" : Str)) = false := by decide)
    (hc : eval (.Call (.Attribute (.Name x p1) "__init__" p2) (e :: es) [] pos) X.env = (do
      let ov ← eval (.Name x p1) X.env
      standAt p2.atName
      let (f, first) ← holding [ov] (getMethod ov "__init__" pl)
      callWith pos f first (backTo pos (starEach (e :: es) X.env)) (backToKw pos (keywordEach [] X.env))) := by rfl)
    (he : starEach (e :: es) X.env = (false, eval e X.env) :: starEach es X.env := by rfl) (hpl : (backTo pos (starEach es X.env)).any (·.1) = false := by rfl) :
    PE X (.Call (.Attribute (.Name x p1) "__init__" p2) (e :: es) [] pos) (tBI X.K initId ta) := by
  refine ⟨fun pins s σ H Q I h => ?_⟩
  refine PySem.W.methodCall_KW (ld_glob I hg hm ?_ hdb) hc
  refine PySem.W.method_cls I.kIn sg (PySem.W.cls_value I.kIn rd vV vh ?_)
  show wpAny _ _ (callWith pos (Value.builtin initId) [] (backTo pos (starEach (e :: es) X.env)) []) _ _ _
  refine PyProof.Rows.callWith_method1 (thn (ha.run pos pins _ σ H _ (I.tok _) h) fun us s1 ⟨vs, H1, I1, r1, a, C, ws, ev, hl, T, ea, q⟩ => ?_) he hpl
  subst ev
  obtain ⟨_, _, _, T⟩ := T
  cases r1 with
  | @cons _ u0 _ ur ra rw' =>
    obtain rfl : u0 = Value.ref a := ra
    have hz : ur.length ≤ sizeLine := by
      rw [← Paired.length rw', sizeLine_eq]
      omega
    exact base_init T I1 ea hz fun s' J => ⟨.non, H1, J, rfl, q⟩
theorem ps_est (ho : PE X o to) (he : PE X e te) (hs : swapsWith e (some (.Attribute o f p')) pos.line X.env = pure false := by rfl) : PS X (.Assign [.Attribute o f p'] e pos) (tEst X.K f to te) := by
  refine ⟨fun pins s σ H D I h => ?_⟩
  refine plainObj_wpAny_Assign_Attribute (thn (he.run pins s σ H _ I h) fun v s1 ⟨y, H1, I1, r1, q1⟩ => thn (ho.run pins s1 σ H1 _ I1 q1) fun u s2 ⟨x, H2, I2, r2, a, C, ex, T, nf, q⟩ => ?_) hs
  subst ex
  obtain rfl : u = Value.ref a := r2
  obtain ⟨_, _, _, _, T⟩ := T
  rcases q with ⟨ea, q⟩ | ⟨dx, fs, ea, ed, hl, q⟩
  · exact est_first T I2 ea nf r1 fun dx s' n ne J => ⟨σ, _, J, q dx n ne⟩
  · exact est_more T I2 ea ed hl nf r1 fun s' J => ⟨σ, _, J, q⟩
theorem pe_ef (ho : PE X o to) (hb : attributeBase o f X.env (eval o X.env) = eval o X.env := by rfl) : PE X (.Attribute o f pos) (tEf X.K f to) := by
  refine ⟨fun pins s σ H Q I h => ?_⟩
  refine attr_of hb (thn (ho.run pins s σ H _ I h) fun u s1 hh => ?_)
  obtain ⟨x, H1, I1, rx, a, C, dx, fs, v, ex, T, nf, ea, ed, l, q⟩ := hh
  subst ex
  obtain rfl : u = Value.ref a := rx
  obtain ⟨_, _, _, _, T⟩ := T
  obtain ⟨t1, hoa⟩ := exo_at I1.hok ea
  obtain ⟨mA, hns, hr⟩ := exd_at I1.hok ed
  obtain ⟨od, hod, hl⟩ := lookIn_ns hns
  obtain ⟨u, hu, ru⟩ := RelO.some_of (v := v) (o := mA f) (by rw [← l]; exact hr f)
  have J : PySem.W.InstAt s1.heap a (PySem.W.excObj C t1 (some dx) .none) C (some od) := ⟨hoa, rfl, rfl, hod⟩
  exact HandSPX.exc_get I1.kIn J T.ga T.gg T.exC (PySem.W.findObj_own T.hdc nf rfl (by rw [hl, hu])) (handed_of ru) ⟨v, H1, I1.tok _, ru, q⟩
end
/-! ### an error made -/
/-- C(..) by values vs and keywords zs: a new error a, then __init__ by its promise -/
def tMkE (C : Addr) (n m : Nat) (sp : Sp) (gV : List V → List V → List V) (ta tk : TA) : TE := fun σ H Q => ta σ H fun vs H1 => tk σ H1 fun zs H2 => vs.length = n ∧ zs.length = m ∧ ∀ a, H2 a = none → sp (gV (.ref a :: vs) zs) (upd H2 a (exo a C none)) (fun v H3 => v = .non ∧ Q (.ref a) H3) (fun _ _ _ => False)
section
variable {X : Cx} {CX : CXT} {k n : Nat} {fI C : Addr} {fd : FuncData} {ps ks : List Str} {sp : Sp} {B newId initId : String} {bmB : List Value} {g : List Value → List Value → List Value} {gV : List V → List V → List V}
theorem run_mkE {pins : List (Addr × Obj)} {σ : L2.St} {H : Hp} {s : Shared} {Q : VK} {us ws : List Value} {vs zs : List V} (T : Ec X.K B newId initId bmB C) (iC : PySem.W.findIn X.K (.ref C) "__init__" = some (some (.ref fI))) (tI : PySem.W.typeIn X.K (.ref fI) = some (.type "function"))
    (F : FnOk X.prog X.w X.K X.mg X.base CX k fI fd ps sp) (hr : Room (k + 1) X.A) (hb : KBn X.K fd ps (n + 1) ks g gV) (hx : Passes CX X (fun _ _ _ => False)) (I : Inv X pins σ H s) (r : Vals vs us) (rz : Vals zs ws) (l1 : vs.length = n) (l2 : zs.length = ks.length) (hn : n ≤ 1000)
    (z : ∀ a, H a = none → sp (gV (.ref a :: vs) zs) (upd H a (exo a C none)) (fun v H3 => v = .non ∧ Q (.ref a) H3) (fun _ _ _ => False)) :
    wpAny (model X.prog X.w) X.A (call (.ref C) us (ks.zip ws)) (EP X pins σ Q) X.xe s := by
  obtain ⟨nm, N, qn, bs, bm, hdct, sn, sub, ab, col, dd, k0, k1, k2, k3, k5, oc, hT⟩ := PySem.W.excInit_of I.kIn T.ini
  obtain ⟨hp, gn, dr, tk, os⟩ := s
  have lo : hp.objs.size ≤ hp.objs.size + 1 := Nat.le_succ _
  have fr : H (hp.objs.size + 1) = none := I.hok.fresh lo
  have hq := z _ fr
  have kk : ∀ b o, hp.get? b = some o → ((hp.push (PySem.W.kdv_tup us)).push (PySem.W.excObj C hp.objs.size none .none)).get? b = some o := fun b o e => Heap.get?_push_of_some _ (Heap.get?_push_of_some _ e)
  have made : ((hp.push (PySem.W.kdv_tup us)).push (PySem.W.excObj C hp.objs.size none .none)).get? (hp.objs.size + 1) = some (PySem.W.excObj C hp.objs.size none .none) := by heap_get
  have I2 : Inv X pins σ (upd H (hp.objs.size + 1) (exo (hp.objs.size + 1) C none)) ⟨(hp.push (PySem.W.kdv_tup us)).push (PySem.W.excObj C hp.objs.size none .none), gn, dr, tk, os⟩ :=
    I.laid (t' := tk) (a := hp.objs.size + 1) (o := exo (hp.objs.size + 1) C none) kk lo (exo_ok made)
  have r1 : Vals (V.ref (hp.objs.size + 1) :: vs) (Value.ref (hp.objs.size + 1) :: us) := .cons rfl r
  have r2 := hb.rel r1 rz
  have e1 : (Value.ref (hp.objs.size + 1) :: us).length = n + 1 := r1.length.symm.trans (congrArg Nat.succ l1)
  have e2 : ws.length = ks.length := rz.length.symm.trans l2
  have hus : us.length ≤ sizeLine := by
    rw [← Paired.length r, l1, sizeLine_eq]
    omega
  refine wpAny_call (kw_call T.FB hT oc (PySem.W.looks_findIn I.kIn iC) (fun self => PySem.W.bind_fn I.kIn self tI) hus
    (codeAny_mono (F.run _ X.stack _ _ ⟨Value.ref (hp.objs.size + 1) :: us, ks.zip ws⟩ (g (Value.ref (hp.objs.size + 1) :: us) ws) _ _ (fun _ _ _ => False) (hr.make C us (ks.zip ws)) (I2.env0.make C us (ks.zip ws)) (hb.to _ (Value.ref (hp.objs.size + 1) :: us) ws I2.kIn e1 e2) r2 hq) fun r s' hq' => ?_))
  cases r with
  | error er => exact hx pins σ _ _ er s' I2 hq'
  | ok fl =>
    cases fl with
    | ret u =>
      obtain ⟨v, H', I3, rv, ev, q3⟩ := I2.after hq'
      subst ev
      exact ⟨rv, ⟨V.ref (hp.objs.size + 1), H', I3, rfl, q3⟩⟩
    | next => exact False.elim hq'
    | brk => exact False.elim hq'
    | cont => exact False.elim hq'
end
end Ux

set_option Elab.async false
set_option linter.all false
set_option maxRecDepth 100000
set_option maxHeartbeats 4000000
namespace Ux
open PySem PySem.Spec PyProof.Rows L2
section
variable {X : Cx} {CX : CXT} {k n : Nat} {fI C : Addr} {fd : FuncData} {ps ks : List Str} {sp : Sp} {B newId initId : String} {bmB : List Value} {g : List Value → List Value → List Value} {gV : List V → List V → List V}
variable {x : Str} {p pos : Pos} {e : Expr} {es : List Expr} {kws : List Keyword} {ta tk : TA}
theorem kbn_pos {K : PySem.W.Frag} {fd : FuncData} {ps : List Str} (hb : Binds K fd ps []) (n : Nat) (hn : ps.length = n) : KBn K fd ps n [] (fun us _ => us) (fun vs _ => vs) := by
  refine ⟨fun s us ws IN l1 l2 => ?_, fun r _ => r⟩
  have hz : ws = [] := List.length_eq_zero_iff.mp l2
  subst hz
  have z := hb s us IN (by rw [List.append_nil, l1, hn])
  rw [List.append_nil] at z
  exact z
theorem kbn_mk {K : PySem.W.Frag} {y qual : Str} {st : Stmt} {f : Addr} {fd : FuncData} (F : Fun K y qual st f fd) (n : Nat) (ks : List Str) (g : {α : Type} → List α → List α → List α)
    (hrel : ∀ {vs zs : List V} {us ws : List Value}, Vals vs us → Vals zs ws → Vals (g vs zs) (g us ws))
    (h : ∀ (kV doc pm : Value) (an : Option Addr) (cdv ct : Value) (us ws : List Value), us.length = n → ws.length = ks.length → bindArgs (PySem.W.fnOf y qual (defArgs st) (defBody st) (defScope st) .none kV doc pm an cdv ct) ⟨us, ks.zip ws⟩ = pure (ps.zip (g us ws))) : KBn K fd ps n ks (fun us ws => g us ws) (fun vs zs => g vs zs) := by
  obtain ⟨oc, od, kV, doc, pm, an, cdv, ct, osl, rfl, lk, hcd⟩ := F.ex
  exact ⟨fun s us ws _ l1 l2 => .of_eq (h kV doc pm an cdv ct us ws l1 l2), fun r z => hrel r z⟩
/-- C(e, ..) -/
theorem pe_mkE (T : Ec X.K B newId initId bmB C) (iC : PySem.W.findIn X.K (.ref C) "__init__" = some (some (.ref fI))) (tI : PySem.W.typeIn X.K (.ref fI) = some (.type "function")) (F : FnOk X.prog X.w X.K X.mg X.base CX k fI fd ps sp) (hr : Room (k + 1) X.A)
    (hb : KBn X.K fd ps (n + 1) [] g gV) (hx : Passes CX X (fun _ _ _ => False)) (hn : n ≤ 1000) (hg : Gl X x) (hm : X.mg x = some (.ref C)) (ha : PA X (e :: es) ta)
    (hdb : (x == ("__debug__" : Str)) = false := by decide) (he : starEach (e :: es) X.env = (false, eval e X.env) :: starEach es X.env := by rfl) (hpl : (backTo pos (starEach es X.env)).any (·.1) = false := by rfl) :
    PE X (.Call (.Name x p) (e :: es) [] pos) (tMkE C n 0 sp gV ta tNil) := by
  refine ⟨fun pins s σ H Q I h => ?_⟩
  refine wpAny_Call_Name_kw (ld_glob I hg hm ?_ hdb)
  refine PySem.W.callWith_K (h₀ := X.base) I.ok.mod.kin T.kc (thn (ha.run pos pins s σ H _ I h) fun us s1 hh => ?_) he hpl
  obtain ⟨vs, H1, I1, r1, l1, _, z⟩ := hh
  refine ⟨I1.kIn, ?_⟩
  exact run_mkE (ks := []) (ws := []) (zs := []) T iC tI F hr hb hx I1 r1 .nil l1 rfl hn z
/-- C() -/
theorem pe_mkE0 (T : Ec X.K B newId initId bmB C) (iC : PySem.W.findIn X.K (.ref C) "__init__" = some (some (.ref fI))) (tI : PySem.W.typeIn X.K (.ref fI) = some (.type "function")) (F : FnOk X.prog X.w X.K X.mg X.base CX k fI fd ps sp) (hr : Room (k + 1) X.A)
    (hb : KBn X.K fd ps 1 [] g gV) (hx : Passes CX X (fun _ _ _ => False)) (hg : Gl X x) (hm : X.mg x = some (.ref C)) (hdb : (x == ("__debug__" : Str)) = false := by decide) : PE X (.Call (.Name x p) [] [] pos) (tMkE C 0 0 sp gV tNil tNil) := by
  refine ⟨fun pins s σ H Q I h => ?_⟩
  refine wpAny_Call_Name_kw (ld_glob I hg hm ?_ hdb)
  obtain ⟨l1, l2, z⟩ := h
  exact PySem.W.callWith_K0 I.kIn T.kc (run_mkE (ks := []) (ws := []) (zs := []) (us := []) (vs := []) T iC tI F hr hb hx I .nil .nil rfl rfl (Nat.zero_le _) z)
/-- C(k = e, ..) -/
theorem pe_mkEK (T : Ec X.K B newId initId bmB C) (iC : PySem.W.findIn X.K (.ref C) "__init__" = some (some (.ref fI))) (tI : PySem.W.typeIn X.K (.ref fI) = some (.type "function")) (F : FnOk X.prog X.w X.K X.mg X.base CX k fI fd ps sp) (hr : Room (k + 1) X.A)
    (hb : KBn X.K fd ps 1 ks g gV) (hx : Passes CX X (fun _ _ _ => False)) (hg : Gl X x) (hm : X.mg x = some (.ref C)) (hkw : PK X kws tk)
    (hall : (backToKw pos (keywordEach kws X.env)).all (·.1.isSome) = true := by rfl) (hks : (backToKw pos (keywordEach kws X.env)).filterMap (·.1) = ks := by rfl) (hdb : (x == ("__debug__" : Str)) = false := by decide)
    (hpl : ((backTo pos (starEach [] X.env)).any (·.1) || (backToKw pos (keywordEach kws X.env)).any (·.1.isNone)) = false := by rfl) :
    PE X (.Call (.Name x p) [] kws pos) (tMkE C 0 ks.length sp gV tNil tk) := by
  refine ⟨fun pins s σ H Q I h => ?_⟩
  refine wpAny_Call_Name_kw (ld_glob I hg hm ?_ hdb)
  refine PySem.W.callWith_KW0 (h₀ := X.base) I.ok.mod.kin T.kc hall ?_ hpl
  refine thn (hkw.run pos pins s σ H _ I h) fun ws s2 hh => ?_
  obtain ⟨zs, H2, I2, rz, l1, l2, z⟩ := hh
  refine ⟨I2.kIn, ?_⟩
  rw [hks]
  exact run_mkE (us := []) (vs := []) T iC tI F hr hb hx I2 .nil rz rfl l2 (Nat.zero_le _) z
end
/-! ### isinstance of an error -/
structure Ei (K : PySem.W.Frag) (C : Addr) : Prop where
  cl : (PySem.W.clsIn K C).isSome = true
  hg : PySem.W.findIn K (.ref C) "__getattribute__" = some (some (.builtin "BaseException.__getattribute__"))
  hk : PySem.W.findIn K (.ref C) "__getattr__" = some none
  hs : PySem.W.subIn K (.ref C) (.type "BaseException") = some true
  ha : PySem.W.findIn K (.ref C) "__class__" = some (some (.builtin "object.__class__"))
  hn : PySem.W.specialIn K (.builtin "object.__class__") "__get__" = some (some (.builtin "getset_descriptor.__get__"))
  ht : PySem.W.takesIn K (.builtin "object.__class__") = some true
  hm : PySem.W.mroIn K C (.type "object") = some true
/-- isinstance(e, c), e an error with its dict -/
def rIsEr (K : PySem.W.Frag) : List V → Hp → VK → Prop := fun xs H Q => ∃ (a C dx : Addr) (fs : List (Str × V)) (c : V) (u : Value) (b : Bool), xs = [.ref a, c] ∧ ClsV c u ∧ Ei K C ∧ H a = some (exo a C (some dx)) ∧ H dx = some (exd dx fs) ∧ PySem.W.kitOne K (.ref C) u = some b ∧ Q (.bl b) H
theorem call_isEr {X : Cx} : CallR X (.builtin "isinstance") (rIsEr X.K) := by
  intro pins s σ H xs us Q I r h
  obtain ⟨a, C, dx, fs, c, u, b, rfl, kc, E, ea, ed, e, q⟩ := h
  obtain ⟨u1, u2, rfl, r1, r2⟩ := vals2 r
  cases (show u1 = Value.ref a from r1)
  have ec := kc.eq r2
  subst ec
  obtain ⟨t1, hoa⟩ := exo_at I.hok ea
  obtain ⟨mA, hns, hr⟩ := exd_at I.hok ed
  obtain ⟨od, hod, hl⟩ := lookIn_ns hns
  have J : PySem.W.InstAt s.heap a (PySem.W.excObj C t1 (some dx) .none) C (some od) := ⟨hoa, rfl, rfl, hod⟩
  exact PySem.W.kia_one (PySem.W.kitx_exc E.cl E.hg E.hk E.hs E.ha E.hn E.ht E.hm) I.kIn J e (fun z => nomatch z) fun tk => ⟨.bl b, H, I.tok tk, rfl, q⟩
/-! ### abs and str of a truth value -/
theorem abs_true {prog : Program} {w : World} {A : Around} {E : Value → Shared → Prop} {s : Shared} {Q : Value → Shared → Prop} (h : ∀ u tk, Q (.int 1 u) { s with toks := tk }) : wpAny (model prog w) A (call (.builtin "abs") [.bool true]) Q E s := by
  refine PySem.Calls.call_function_entry kind_abs plain_abs entry_abs (args_abs _) ?_
  unfold Builtin.«abs»
  refine wpAny_bind (m := oneArg "abs" _) (wpAny_pure ?_)
  refine wpAny_bind (m := callSpecial? (.bool true) (Str.ofString "__abs__")) (wpAny_callSpecial?_slot (name := Str.ofString "__abs__") (PySem.typeIs_bool s true) F.slot_bool_abs
    (wpAny_call_entry F.slot_bool_abs (PySem.typeIs_bool s true) entry_int_abs ?_ (args_int_abs _)))
  have h' := h s.toks (s.toks + 1)
  exact wpAny_ret_mkInt (wpAny_pure ⟨_, rfl, h'⟩)
theorem call_absT {X : Cx} : CallR X (.builtin "abs") (fun xs H Q => (∃ i, xs = [.int i] ∧ Q (.int (if i < 0 then -i else i)) H) ∨ (xs = [.bl true] ∧ Q (.int 1) H)) := by
  intro pins s σ H xs us Q I r h
  rcases h with ⟨i, rfl, q⟩ | ⟨rfl, q⟩
  · obtain ⟨u, rfl, t, rfl⟩ := vals1 r
    exact call_abs_int fun u tk => ⟨.int (if i < 0 then -i else i), H, I.tok _, ⟨_, rfl⟩, q⟩
  · obtain ⟨u, rfl, r1⟩ := vals1 r
    cases (show u = Value.bool true from r1)
    exact abs_true fun u tk => ⟨.int 1, H, I.tok _, ⟨_, rfl⟩, q⟩
theorem str_true {prog : Program} {w : World} {A : Around} {E : Value → Shared → Prop} {s : Shared} {Q : Value → Shared → Prop} (h : Q (.str "True" s.toks) { s with toks := s.toks + 1 }) : wpAny (model prog w) A (call (.type "str") [.bool true]) Q E s :=
  callType_new F.called_str (by decide) (F.typeCall_str_1 _) (F.newCall_str_1 _) (fun obj => F.args_object_init_2 obj _) F.entry_str_new
    (meets_str_new (S := fun _ R s => R (.ok (.ret (.str "True" s.toks))) { s with toks := s.toks + 1 }) fun _ _ _ _ s hq =>
      wpAny_strOf_gives rfl (PySem.typeIs_bool s true) F.slot_bool_str F.slot_bool_repr F.entry_bool_repr (F.args_bool_repr_1 _) (gives_bool_repr true) hq (hsz := by decide)) ⟨typeIs_str _ _ _, h⟩
theorem call_strT {X : Cx} : CallR X (.type "str") (fun xs H Q => (∃ i, xs = [.int i] ∧ i.natAbs.log2 < 1920 ∧ Q (.str (toString i)) H) ∨ (xs = [.bl true] ∧ Q (.str "True") H)) := by
  intro pins s σ H xs us Q I r h
  rcases h with ⟨i, rfl, hz, q⟩ | ⟨rfl, q⟩
  · obtain ⟨u, rfl, t, rfl⟩ := vals1 r
    exact PySem.P.str_of_int hz ⟨.str _, H, I.tok _, ⟨_, rfl⟩, q⟩
  · obtain ⟨u, rfl, r1⟩ := vals1 r
    cases (show u = Value.bool true from r1)
    exact str_true ⟨.str _, H, I.tok _, ⟨_, rfl⟩, q⟩
theorem call_reprS {X : Cx} : CallR X (.builtin "repr") (fun xs H Q => ∃ x, xs = [.str x] ∧ (reprText x).length ≤ sizeLine ∧ Q (.str (reprText x)) H) := by
  intro pins s σ H xs us Q I r h
  obtain ⟨x, rfl, hz, q⟩ := h
  obtain ⟨u, rfl, t, rfl⟩ := vals1 r
  exact PySem.P.repr_of_str (hsz := hz) ⟨.str _, H, I.tok _, ⟨_, rfl⟩, q⟩
end Ux

set_option Elab.async false
set_option linter.all false
set_option maxRecDepth 100000
set_option maxHeartbeats 4000000
/-! Own classes: str, repr, == and != by the text's own methods. -/
namespace Ux
open PySem PySem.Spec PyProof.Rows L2
section
variable {X : Cx} {pins : List (Addr × Obj)} {σ : L2.St} {H : Hp} {s : Shared} {k : Nat} {f C : Addr} {fd : FuncData} {ps : List Str} {sp : Sp}
theorem own_run {A' : Around} {us : List Value} {vs : List V} {Q : VK} {R : Value → Shared → Prop} {E' : Value → Shared → Prop} (F : FnOk X.prog X.w X.K X.mg X.base CX0 k f fd ps sp) (hr : Room k A') (e0 : Env0 X.prog X.w X.K X.mg X.base A' X.stack s H)
    (hb : Binds X.K fd ps []) (I : Inv X pins σ H s) (r : Vals vs us) (h : sp vs H Q (fun _ _ _ => False)) (z : ∀ u s', EP X pins σ Q u s' → R u s') : wpAny (model X.prog X.w) A' (call (.ref f) us) R E' s := by
  have hl : us.length = ps.length := r.length.symm.trans (F.len _ _ _ _ h)
  have b := hb s us I.kIn (by rw [List.append_nil]; exact hl)
  rw [List.append_nil] at b
  refine wpAny_call (codeAny_mono (F.run A' X.stack s H ⟨us, []⟩ us vs Q (fun _ _ _ => False) hr e0 b r h) fun r s' hq => ?_)
  cases r with
  | error e => exact False.elim hq
  | ok fl =>
    cases fl with
    | ret u => exact z u s' (I.after hq)
    | next => exact False.elim hq
    | brk => exact False.elim hq
    | cont => exact False.elim hq
/-- an own method by its name, on an instance -/
structure OwnM (K : PySem.W.Frag) (C : Addr) (m : Str) (f : Addr) : Prop where
  at_ : PySem.W.findIn K (.ref C) m = some (some (.ref f))
  fn : PySem.W.isFn K (.ref f) = true
/-- a text handed back -/
def rOwnS (C : Addr) (sp : Sp) : List V → Hp → VK → Prop := fun xs H Q => ∃ (a dx : Addr) (fs : List (Str × V)), xs = [.ref a] ∧ H a = some (.ins C dx fs) ∧ sp [.ref a] H (fun v H' => ∃ z, v = .str z ∧ Q (.str z) H') (fun _ _ _ => False)
theorem call_strO (M : OwnM X.K C "__str__" f) (F : FnOk X.prog X.w X.K X.mg X.base CX0 k f fd ["self"] sp) (hb : Binds X.K fd ["self"] []) (hr : Room (k + 2) X.A) : CallR X (.type "str") (rOwnS C sp) := by
  intro pins s σ H xs us Q I r h
  obtain ⟨a, dx, fs, rfl, ea, q⟩ := h
  obtain ⟨u, rfl, rx⟩ := vals1 r
  cases (show u = Value.ref a from rx)
  obtain ⟨mA, O, _⟩ := ins_get I.hok ea
  obtain ⟨od, J, _⟩ := O.look
  refine PySem.W.kso_call hr.in1.in1.units0 I.kIn J M.at_ M.fn (own_run F hr.in1.in1 I.env0.in1.in1 hb (vs := [.ref a]) I (.cons rfl .nil) q fun u s' hq => ?_)
  obtain ⟨v, H', I', rv, z, ev, q'⟩ := hq
  subst ev
  obtain ⟨t, rfl⟩ := rv
  exact ⟨.str z, H', I', ⟨t, rfl⟩, q'⟩
theorem call_reprO (M : OwnM X.K C "__repr__" f) (F : FnOk X.prog X.w X.K X.mg X.base CX0 k f fd ["self"] sp) (hb : Binds X.K fd ["self"] []) (hr : Room (k + 1) X.A) : CallR X (.builtin "repr") (rOwnS C sp) := by
  intro pins s σ H xs us Q I r h
  obtain ⟨a, dx, fs, rfl, ea, q⟩ := h
  obtain ⟨u, rfl, rx⟩ := vals1 r
  cases (show u = Value.ref a from rx)
  obtain ⟨mA, O, _⟩ := ins_get I.hok ea
  obtain ⟨od, J, _⟩ := O.look
  obtain ⟨m, hF⟩ := I.fr
  refine PySem.W.repr_K hr.in1.units0 hF I.ok.mod.kin J M.at_ M.fn (own_run F hr.in1 I.env0.in1 hb (vs := [.ref a]) I (.cons rfl .nil) q fun u s' hq => ?_)
  obtain ⟨v, H', I', rv, z, ev, q'⟩ := hq
  subst ev
  obtain ⟨t, rfl⟩ := rv
  exact ⟨.str z, H', I', ⟨t, rfl⟩, q'⟩
/-- o == y, o != y by o's own __eq__ -/
def rOwnEq (K : PySem.W.Frag) (C : Addr) (sp : Sp) (neg : Bool) : R2 := fun x y H Q => ∃ (a dx : Addr) (fs : List (Str × V)) (t : Value), x = .ref a ∧ H a = some (.ins C dx fs) ∧ TyX K H y t ∧ PySem.W.notFirst K C t = true ∧ sp [x, y] H (fun v H' => ∃ b, v = .bl b ∧ Q (.bl (b != neg)) H') (fun _ _ _ => False)
theorem op_eqO (M : OwnM X.K C "__eq__" f) (F : FnOk X.prog X.w X.K X.mg X.base CX0 k f fd ["self", "other"] sp) (hb : Binds X.K fd ["self", "other"] []) (hr : Room k X.A) : OpR X (compareOp .Eq) (rOwnEq X.K C sp false) := by
  intro pins s σ H x y v u Q I rx ry h
  obtain ⟨a, dx, fs, t, rfl, ea, ty, nf, q⟩ := h
  cases (show v = Value.ref a from rx)
  obtain ⟨mA, O, _⟩ := ins_get I.hok ea
  obtain ⟨od, J, _⟩ := O.look
  obtain ⟨m, hF⟩ := I.fr
  obtain ⟨P', Z, hp, _⟩ := kit_of I ry ty
  show wpAny (model X.prog X.w) X.A (richCompare .Eq (.ref a) u) (EP X pins σ Q) X.xe s
  refine PySem.W.cmp_K (op := .Eq) (tb := t) hr.units0 hF I.ok.mod.kin J (Z.ty _ _ I.kIn hp) nf M.at_ M.fn (own_run F hr I.env0 hb (vs := [.ref a, y]) I (.cons rfl (.cons ry .nil)) q fun w s' hq => ?_)
  obtain ⟨v, H', I', rv, b, ev, q'⟩ := hq
  subst ev
  cases (show w = Value.bool b from rv)
  have e : (b != false) = b := by cases b <;> rfl
  rw [e] at q'
  exact ⟨.bl b, H', I', rfl, q'⟩
/-- what != wants besides: the class keeps object's __ne__ -/
structure NeO (K : PySem.W.Frag) (C : Addr) : Prop where
  ne : PySem.W.findIn K (.ref C) "__ne__" = some (some (.builtin "object.__ne__"))
  ob : PySem.W.mroIn K C (.type "object") = some true
end
end Ux
namespace Ux
open PySem PySem.W
section
variable {prog : Program} {w : World} {M : Model} {A : Around} {E : Value → Shared → Prop} {s : Shared} {K : Frag} {x C L f : Addr} {h₀ : Heap} {m : Str → Option Value} {ox : Obj} {od : Option Obj} {tb b : Value}
theorem ifBound_bi {name : Str} {id : String} {args : List Value} {Q : Option Value → Shared → Prop} (IN : K.In s.heap) (I : InstAt s.heap x ox C od) (hs : findIn K (.ref C) name = some (some (.builtin id))) (hb : ∀ self, bindSpecial (.builtin id) self = pure (.builtin id, [self]))
    (hn : (Value.builtin id == Value.none) = false) (h : wpAny M A (call (.builtin id) (.ref x :: args)) (fun v => Q (some v)) E s) : wpAny M A (callSpecialIfBound? (.ref x) name args) Q E s := by
  simp only [callSpecialIfBound?, bindSpecialIfBound?]
  refine wpAny_holding (wpAny_bind (wpAny_bind (wpAny_bind (I.type.here ((looks_findIn IN hs).here ?_)))))
  simp only [hb]
  refine wpAny_bind (wpAny_askSetting (wpAny_ite ?_))
  have last : wpAny M A (call (.builtin id) ([.ref x] ++ args) >>= fun v => pure (some v)) Q E s := wpAny_bind (wpAny_mono h (fun v s' z => wpAny_pure z) fun _ _ z => z)
  split
  · exact wpAny_bind (wpAny_pure (wpAny_pure last))
  · exact wpAny_tryCatch (wpAny_bind (wpAny_pure (wpAny_pure last)))
/-- o != b where o has its own __eq__ and keeps object's __ne__ -/
theorem ne_own {Q : Value → Shared → Prop} (hu : A.units < cLine) (hu1 : A.in1.units < cLine) (IN : K.In s.heap) (I : InstAt s.heap x ox C od) (hb : Looks (model prog w) s.heap (typeOf b) tb) (hn : notFirst K C tb = true)
    (hne : findIn K (.ref C) "__ne__" = some (some (.builtin "object.__ne__"))) (hm : mroIn K C (.type "object") = some true) (hs : findIn K (.ref C) "__eq__" = some (some (.ref f))) (hf : isFn K (.ref f) = true)
    (h : wpAny (model prog w) A.in1 (call (.ref f) [.ref x, b]) (fun v s' => ∃ r, v = .bool r ∧ Q (.bool (!r)) s') E s) : wpAny (model prog w) A (richCompare .NotEq (.ref x) b) Q E s := by
  have SL := PySem.F.cmp_object.ne
  have one : wpAny (model prog w) A (tryCompare (.ref x) "__ne__" b) (fun r s' => ∃ v, r = some v ∧ Q v s') E s := by
    unfold tryCompare
    refine wpAny_bind (ifBound_bi IN I hne SL.bind rfl ?_)
    refine wpAny_call (codeAny_call_builtin SL.plain PySem.F.cmpEntry_ne (check_slot (i := "object.__ne__") (owner := "object") (n := "__ne__") PySem.F.cmpKind_ne PySem.F.cmpSplit_ne (I.type.andThen (looks_mroIn IN hm)) (PySem.F.cmpArgs_ne _ _) ?_))
    unfold Builtin.«object.__ne__»
    refine wpAny_bind (m := slotArgs "__ne__" 1 _) (wpAny_pure ?_)
    refine wpAny_bind (m := cRoomFor _ _) (wpAny_cRoomFor hu1 ?_)
    refine wpAny_bind (m := callSpecialIfBound? (.ref x) (Str.ofString "__eq__") _) (ifBound_K IN I hs hf (wpAny_mono h (fun v s' z => ?_) fun _ _ z => z))
    obtain ⟨r, rfl, q⟩ := z
    refine wpAny_bind (wpAny_truthy_bool ?_)
    exact wpAny_pure (wpAny_pure ⟨_, rfl, q⟩)
  have SN : (cmpInfo .NotEq).2.1 = ("__ne__" : Str) := rfl
  unfold richCompare
  simp only [oneThing_ref, cmpInfo_NotEq]
  refine wpAny_holding (wpAny_bind (wpAny_cRoomFor hu ?_))
  refine wpAny_bind (I.type.here (wpAny_bind (hb.here ?_)))
  split
  · rename_i q
    have e : subIn K tb (.ref C) = some false := by
      rcases Bool.or_eq_true_iff.mp hn with e | e
      · rw [beq_iff_eq.mp e] at q
        simp at q
      · exact beq_iff_eq.mp e
    refine wpAny_bind ((looks_subIn IN e).here ?_)
    simp only [Bool.false_eq_true, if_false]
    refine wpAny_bind (wpAny_mono one (fun r s' z => ?_) fun _ _ e => e)
    obtain ⟨v, rfl, hq⟩ := z
    exact wpAny_pure hq
  · refine wpAny_bind (wpAny_pure ?_)
    simp only [Bool.false_eq_true, if_false]
    refine wpAny_bind (wpAny_mono one (fun r s' z => ?_) fun _ _ e => e)
    obtain ⟨v, rfl, hq⟩ := z
    exact wpAny_pure hq
end
end Ux
namespace Ux
open PySem PySem.Spec PyProof.Rows L2
section
variable {X : Cx} {k : Nat} {f C : Addr} {fd : FuncData} {sp : Sp}
theorem op_neO (M : OwnM X.K C "__eq__" f) (N : NeO X.K C) (F : FnOk X.prog X.w X.K X.mg X.base CX0 k f fd ["self", "other"] sp) (hb : Binds X.K fd ["self", "other"] []) (hr : Room (k + 1) X.A) : OpR X (compareOp .NotEq) (rOwnEq X.K C sp true) := by
  intro pins s σ H x y v u Q I rx ry h
  obtain ⟨a, dx, fs, t, rfl, ea, ty, nf, q⟩ := h
  cases (show v = Value.ref a from rx)
  obtain ⟨mA, O, _⟩ := ins_get I.hok ea
  obtain ⟨od, J, _⟩ := O.look
  obtain ⟨P', Z, hp, _⟩ := kit_of I ry ty
  show wpAny (model X.prog X.w) X.A (richCompare .NotEq (.ref a) u) (EP X pins σ Q) X.xe s
  refine ne_own (tb := t) hr.units0 hr.in1.units0 I.kIn J (Z.ty _ _ I.kIn hp) nf N.ne N.ob M.at_ M.fn (own_run F hr.in1 I.env0.in1 hb (vs := [.ref a, y]) I (.cons rfl (.cons ry .nil)) q fun w s' hq => ?_)
  obtain ⟨v, H', I', rv, b, ev, q'⟩ := hq
  subst ev
  cases (show w = Value.bool b from rv)
  have e : (b != true) = !b := by cases b <;> rfl
  rw [e] at q'
  exact ⟨b, rfl, .bl (!b), H', I', rfl, q'⟩
end
end Ux

set_option Elab.async false
set_option linter.all false
set_option maxRecDepth 100000
set_option maxHeartbeats 4000000
namespace Ux
open PySem PySem.Spec PyProof.Rows L2
/-! ### try: .. except (A, B) as n: .., where every exception of the body is caught -/
/-- what such a clause wishes of an exception -/
def wAs2 (K : PySem.W.Frag) (C1 C2 : Addr) (len i : Nat) (ts : Addr → Value → Option Addr → TS) (D : Ends) : WX := fun cls d σ H =>
  PySem.W.exmAny K cls [.ref C1, .ref C2] = some true ∧ ∀ a, H a = none → σ.length = len →
    ts a cls d ⟨fun σ' H' => D.nx (σ'.set i none) H', D.rt, fun σ' H' => D.bk (σ'.set i none) H', fun σ' H' => D.ct (σ'.set i none) H'⟩ (σ.set i (some (.ref a))) H
theorem fly_push {B h : Heap} {l : List Env} {e : Addr} {Z : Obj → Prop} {o : Obj} (f : HandSPX.FlyingZ B l e Z h) : HandSPX.FlyingZ B l e Z (h.push o) := by
  obtain ⟨k1, k2, k3, oe, vs, T, oT, ts, a1, a2, a3, a4, a5, a6, a7, a8, a9⟩ := f
  have kp : ∀ {b u}, h.get? b = some u → (h.push o).get? b = some u := fun z => Heap.get?_push_of_some _ z
  exact ⟨fun b u z => kp (k1 b u z), k2, k3.of_keeps fun b u z _ => ⟨u, kp z, rfl⟩, oe, vs, T, oT, ts, kp a1, a2, a3, a4, a5, a6, kp a7, a8, a9⟩
section
variable {X : Cx} {x1 x2 n : Str} {C1 C2 : Addr} {i : Nat} {body suite : List Stmt} {b₀ : Stmt} {p1 p2 tpos pos pos' : Pos} {kk : Nat} {tb : WX → TS} {ts : Addr → Value → Option Addr → TS}
theorem ps_try_as2 (hs : X.stack = X.env :: X.outer) (hf : X.env.frame = some X.env.locals) (hN : X.N.Nodup) (hi : X.N[i]? = some n) (hln : X.env.kindOf n = some .local)
    (g1 : Gl X x1) (g2 : Gl X x2) (m1 : X.mg x1 = some (.ref C1)) (m2 : X.mg x2 = some (.ref C2)) (d1 : (x1 == ("__debug__" : Str)) = false) (d2 : (x2 == ("__debug__" : Str)) = false)
    (hb : ∀ (W : WX) (pn : List (Addr × Obj)) (xe : Value → Shared → Prop), Takes (X.tr pn xe) W → PassesOwn (model X.prog X.w) X.A X.env xe → PSs (X.tr pn xe) body (tb W))
    (hsu : ∀ (a : Addr) (oe : Obj) (cls : Value) (d : Option Addr) (pn : List (Addr × Obj)), Zc cls d oe → (∃ vs, oe.data = .fields vs) → PSs (X.suite a ((a, oe) :: pn)) (b₀ :: suite) (ts a cls d)) :
    PS X (.Try body [.ExceptHandler (some (.Tuple [.Name x1 p1, .Name x2 p2] kk tpos)) (some n) (b₀ :: suite) pos'] [] [] pos) (fun D σ H => tb (wAs2 X.K C1 C2 X.N.length i ts D) D σ H) := by
  constructor
  intro pins s σ H D I h
  have ok := I.ok
  have frm : X.A.frames = some (X.env :: X.outer) := ok.frames.trans (congrArg some hs)
  refine wpAny_Try_except (wpAny_mono ((hb (wAs2 X.K C1 C2 X.N.length i ts D) (X.pn ++ pins) (fun e s₁ => wpAny (model X.prog X.w) X.A (noteFrame e X.env) (fun _ s₂ => wpAny (model X.prog X.w) X.A (setFlight e none)
    (fun _ s₃ => wpAny (model X.prog X.w) X.A (handleBy e X.env [.ExceptHandler (some (.Tuple [.Name x1 p1, .Name x2 p2] kk tpos)) (some n) (b₀ :: suite) pos']) (SP X pins D) X.xe s₃) X.xe s₂) X.xe s₁)
    (fun u sx caught => ?_) PassesOwn.looking).run [] s σ H D (I.toTry _) h) (fun f sf done => ?_) (fun _ _ z => z))
  · obtain ⟨a, B, sI, pins', σc, Hc, cls, d, rfl, Jt, nb, up, sky, na, os, ag, hm, go⟩ := caught
    have J := Jt.ofTry ok
    rw [hs] at sky
    show wpAny (model X.prog X.w) X.A (noteFrame (.ref a) X.env) _ _ _
    refine Sky.land Zc.steady frm hf sky fun h1 fl1 up1 => ?_
    have J1 : Inv X pins σc Hc { sx with heap := h1 } := J.landed nb fl1.1 (up.trans up1) os ag
    obtain ⟨oe, vs, he, hz, hd⟩ := fl1.there
    have out : a ∉ frs (X.env :: X.outer) := fun m => by
      obtain ⟨_, o', e', hnf⟩ := fl1.2.2.1.mem m
      have q := Option.some.inj (he.symm.trans e')
      exact hnf vs (q ▸ hd)
    have nL : a ≠ X.env.locals := fun z => out (List.mem_filterMap.mpr ⟨X.env, List.mem_cons_self, hf.trans (congrArg some z.symm)⟩)
    have nF : a ∉ X.fs := fun m => by
      obtain ⟨e, h2, h3⟩ := List.mem_filterMap.mp m
      exact out (List.mem_filterMap.mpr ⟨e, List.mem_cons_of_mem _ h2, h3⟩)
    have S1 := J1.suite he hd na nL nF
    refine wpAny_handleBy_cons (codeAny_handlers_test ?_) (by intro q; cases q)
    have LT : PySem.W.Looks (model X.prog X.w) h1 (typeOf (.ref a)) cls := fun A Q E s k q => wpAny_typeOf_ref (k _ _ he) (hz.1.symm ▸ q)
    refine wpAny_Tuple (wpAny_items_cons (ld_glob (X := X.suite a ((a, oe) :: (X.pn ++ pins))) S1 g1 m1 ?_ d1))
    refine wpAny_items_cons (ld_glob (X := X.suite a ((a, oe) :: (X.pn ++ pins))) S1 g2 m2 ?_ d2)
    refine wpAny_items_nil ⟨(by show 2 ≤ sizeLine; decide), ?_⟩
    have kp : ∀ q o, h1.get? q = some o → (h1.push { cls := .type "tuple", data := .seq [Value.ref C1, Value.ref C2].toArray }).get? q = some o := fun _ _ z => Heap.get?_push_of_some _ z
    refine (PySem.W.exm_tup2 (J1.kIn.keeps kp) (LT.keeps kp) (Heap.get?_push_size h1 rfl) hm).here ?_
    refine codeAny_handlers_suite_as (HandSPX.lands_againZ (fly_push fl1) fun h2 fl2 up2 => ?_)
    have J2 : Inv X pins σc Hc { sx with heap := h2 } := J.landed nb fl2.1 (((up.trans up1).trans (Heap.UpToSlots.of_keeps kp)).trans up2) os ag
    obtain ⟨oe2, vs2, he2, hz2, hd2⟩ := fl2.there
    have S2 := J2.suite he2 hd2 na nL nF
    refine store_ok (X := X.suite a ((a, oe2) :: (X.pn ++ pins))) (v := .ref a) S2 hN hi (.inl hln) rfl (fun s3 S3 => ?_) (.inr hln)
    refine wpAny_mono ((hsu a oe2 cls d (X.pn ++ pins) hz2 ⟨_, hd2⟩).run [] s3 _ Hc _ S3 (go a na J.len)) (fun f s4 fin => ?_) (fun _ _ z => z.elim)
    have gone : ∀ {σ4 : L2.St} {H4 : Hp} {Q : Shared → Prop}, Inv (X.suite a ((a, oe2) :: (X.pn ++ pins))) [] σ4 H4 s4 → (∀ s5, Inv X pins (σ4.set i none) H4 s5 → Q s5) →
        wpAny (model X.prog X.w) X.A (do bindName X.env n .none; unbindBehindTheSuite X.env n pos') (fun _ s5 => Q s5) X.xe s4 := fun S4 q4 => gone_ok (S4.unsuite ok) hN hi hln q4
    cases f with
    | ret u =>
      obtain ⟨v4, σ4, H4, S4, r4, q4⟩ := fin
      exact gone S4 fun s5 J5 => ⟨_, _, _, J5, r4, q4⟩
    | next =>
      obtain ⟨σ4, H4, S4, q4⟩ := fin
      exact gone S4 fun s5 J5 => ⟨_, _, J5, q4⟩
    | brk =>
      obtain ⟨σ4, H4, S4, q4⟩ := fin
      exact gone S4 fun s5 J5 => ⟨_, _, J5, q4⟩
    | cont =>
      obtain ⟨σ4, H4, S4, q4⟩ := fin
      exact gone S4 fun s5 J5 => ⟨_, _, J5, q4⟩
  · cases f with
    | ret u =>
      obtain ⟨v, σ5, H5, J5, r, q⟩ := done
      exact ⟨v, σ5, H5, J5.ofTry ok, r, q⟩
    | next =>
      obtain ⟨σ5, H5, J5, q⟩ := done
      exact wpAny_execs_nil ⟨σ5, H5, J5.ofTry ok, q⟩
    | brk =>
      obtain ⟨σ5, H5, J5, q⟩ := done
      exact ⟨σ5, H5, J5.ofTry ok, q⟩
    | cont =>
      obtain ⟨σ5, H5, J5, q⟩ := done
      exact ⟨σ5, H5, J5.ofTry ok, q⟩
end
end Ux

set_option Elab.async false
set_option linter.all false
set_option maxRecDepth 100000
set_option maxHeartbeats 4000000
namespace Ux
open PySem PySem.Spec PyProof.Rows L2
/-! ### within an except suite: fields of the caught exception, defs that are handed it -/
/-- a caught exception: its class C, its dict dd -/
def Caught (p : Addr × Obj) (C dd : Addr) : Prop := Zc (.ref C) (some dd) p.2 ∧ ∃ vs, p.2.data = .fields vs
/-- e.f, e the exception of a pin -/
def tPf (a dd : Addr) (f : Str) (te : TE) : TE := fun σ H Q => te σ H fun x H1 => ∃ (fs : List (Str × V)) (v : V), x = .ref a ∧ H1 dd = some (.xd fs) ∧ fs.lookup f = some v ∧ Q v H1
section
variable {X : Cx} {C dd : Addr} {p : Addr × Obj} {e : Expr} {te : TE} {pos : Pos} {f : Str}
theorem pe_pf (T : XfC X.K C) (no : PySem.W.findIn X.K (.ref C) f = some none) (hp : p ∈ X.pn) (c : Caught p C dd) (he : PE X e te) (hb : attributeBase e f X.env (eval e X.env) = eval e X.env := by rfl) : PE X (.Attribute e f pos) (tPf p.1 dd f te) := by
  constructor
  intro pins s σ H Q I h
  refine attr_of hb (thn (he.run pins s σ H _ I h) fun u s1 got => ?_)
  obtain ⟨x, H1, I1, rx, fs, v, rfl, hx, l, q⟩ := got
  cases (show u = Value.ref p.1 from rx)
  obtain ⟨⟨z1, z2⟩, vs, hd⟩ := c
  have ok : ObjOk X.prog X.w H1 s1.heap dd (.xd fs) := I1.hok dd _ hx
  obtain ⟨mA, ns, rel⟩ := ok
  obtain ⟨od, ho, hl⟩ := lookIn_ns ns
  obtain ⟨w, hw, rw'⟩ := RelO.some_of (v := v) (o := mA f) (l ▸ rel f)
  have J : PySem.W.InstAt s1.heap p.1 p.2 C (some od) := ⟨(I1.pin p (List.mem_append_left _ hp)).1, z1, by unfold PySem.W.notCls; rw [hd] <;> rfl, by rw [z2]; exact ho⟩
  exact HandSPX.exc_get I1.kIn J T.ga T.gg T.exC (PySem.W.findObj_own T.hdC no rfl ((hl f).trans (congrArg some hw))) (handed_of rw') ⟨v, H1, I1.tok _, rw', q⟩
end
/-- what a def promises that is called while p's exception is handled -/
structure FnQ (P : Program) (w : World) (K : PySem.W.Frag) (mg : Str → Option Value) (base : Heap) (k : Nat) (f : Addr) (fd : FuncData) (ps : List Str) (sp : Addr × Obj → Sp) : Prop where
  len : ∀ p vs H Q E, sp p vs H Q E → vs.length = ps.length
  run : ∀ (A : Around) (outer : List Env) (s : Shared) (H : Hp) (args : Args) (us : List Value) (vs : List V) (Q : VK) (E : XK) (p : Addr × Obj), L2H.RoomH k A → L2H.PinOk outer H s p → Env0 P w K mg base A outer s H → BindsTo s fd args (ps.zip us) → Vals vs us → sp p vs H Q E →
    codeAny (model P w) A (.call (.ref f) args) (CR CX0 outer P w H s Q E) s
theorem Fun.okQ {P : Program} {w : World} {K : PySem.W.Frag} {mg : Str → Option Value} {base : Heap} {k : Nat} {f : Addr} {fd : FuncData} {x qual : Str} {st : Stmt} {N ps : List Str} {sp : Addr × Obj → Sp} (F : Fun K x qual st f fd) (S : FnScope N ps (defScope st))
    (len : ∀ p vs H Q E, sp p vs H Q E → vs.length = ps.length)
    (body : ∀ (cdv : Value) (A : Around) (outer : List Env) (s : Shared) (H : Hp) (vs : List V) (Q : VK) (E : XK) (p : Addr × Obj), L2H.RoomH k (A.deeper (envOfC qual (defScope st) s.heap.objs.size f cdv)) → sp p vs H Q E →
      ∃ t, PSs (L2H.cxH CX0 P w K mg base N qual (defScope st) f cdv A outer s H E p) (defBody st) t ∧ t { nx := fun _ H' => Q .non H', rt := Q } (L2.start N vs) H) :
    FnQ P w K mg base (k + 1) f fd ps sp := by
  obtain ⟨oc, od, kV, doc, pm, an, cdv, ct, osl, rfl, lk, hcd⟩ := F.ex
  refine ⟨len, fun A outer s H args us vs Q E p hr pin e0 hb r want => ?_⟩
  have kin : K.In s.heap := e0.mod.kin.keeps fun b o z => (e0.bs b o z).1
  have lim : s.heap.NoLimit := e0.mod.nolimit.keeps fun b o z => (e0.bs b o z).1
  have kinds : ∀ y ∈ ps.zip us, (defScope st).names.lookup y.1 = some .local ∨ ((defScope st).names.lookup y.1 = some .cell ∧ ((cellsFrom (s.heap.objs.size + 1) (defScope st).names []).lookup y.1).isSome = true) := by
    rintro ⟨n, v⟩ hy
    rcases S.par n (List.of_mem_zip hy).1 with z | z
    · exact .inl z
    · exact .inr ⟨z, PySem.W.cellsFrom_some _ _ _ (.inl z)⟩
  refine codeAny_call_function hr.depth (kin _ _ lk) rfl S.co S.gen rfl (PySem.W.codeRec_of kin hcd) (hb _ _ _ _ (wpAny_newFunctionEnv_cells S.kind kinds fun env he s1 inn => ?_))
  subst he
  obtain ⟨t, ht, hq⟩ := body cdv A outer s H vs Q E p (hr.deeper _) want
  have I := L2H.inv_startH (CX := CX0) (E := E) S pin e0 (len _ _ _ _ _ want) r inn
  refine ⟨lim.keeps inn.toInCall.keep, codeAny_func (wpAny_mono (ht.run [] s1 (L2.start N vs) H _ I hq) (fun fl s2 fin => ?_) fun _ _ z => z)⟩
  cases fl with
  | ret u =>
    obtain ⟨v, σ2, H2, J, rv, q⟩ := fin
    exact ⟨v, H2, J.os, J.bare, J.base, J.hok, rv, q⟩
  | next =>
    obtain ⟨σ2, H2, J, q⟩ := fin
    exact ⟨.non, H2, J.os, J.bare, J.base, J.hok, rfl, q⟩
  | brk =>
    obtain ⟨_, _, _, q⟩ := fin
    exact q.elim
  | cont =>
    obtain ⟨_, _, _, q⟩ := fin
    exact q.elim
/-- such a call, with one argument -/
def tCallQ (p : Addr × Obj) (sp : Addr × Obj → Sp) (t : TA) : TE := fun σ H Q => t σ H fun vs H1 => sp p vs H1 Q E0
section
variable {X : Cx} {k : Nat} {f : Addr} {fd : FuncData} {ps : List Str} {sp : Addr × Obj → Sp} {x : Str} {q pos : Pos} {e : Expr} {es : List Expr} {t : TA} {p : Addr × Obj}
theorem pe_callQ (F : FnQ X.prog X.w X.K X.mg X.base k f fd ps sp) (hr : L2H.RoomH k X.A) (hp : p ∈ X.pn) (hg : Gl X x) (hm : X.mg x = some (.ref f)) (hk : PySem.W.keepIn X.K (.ref f) = true) (hb : Binds X.K fd ps [])
    (ha : PA X (e :: es) t) (hdb : (x == ("__debug__" : Str)) = false := by decide) (he : starEach (e :: es) X.env = (false, eval e X.env) :: starEach es X.env := by rfl) (hpl : (backTo pos (starEach es X.env)).any (·.1) = false := by rfl) :
    PE X (.Call (.Name x q) (e :: es) [] pos) (tCallQ p sp t) := by
  constructor
  intro pins s σ H Q I h
  refine wpAny_Call_Name_kw (ld_glob I hg hm ?_ hdb)
  refine PySem.W.callWith_K (h₀ := X.base) I.ok.mod.kin hk (thn (ha.run pos pins s σ H _ I h) fun us s1 got => ?_) he hpl
  obtain ⟨vs, H1, I1, r, want⟩ := got
  refine ⟨I1.kIn, ?_⟩
  have b := hb s1 us I1.kIn (by rw [List.append_nil, ← r.length]; exact F.len _ _ _ _ _ want)
  rw [List.append_nil] at b
  obtain ⟨a1, a2, a3, a4, a5⟩ := I1.pin p (List.mem_append_left _ hp)
  refine wpAny_call (codeAny_mono (F.run X.A X.stack s1 H1 ⟨us, []⟩ us vs Q E0 p hr ⟨a1, a2, fun m => (List.mem_cons.mp (I1.stkSub p.1 m)).elim a3 a4, a5⟩ I1.env0 b r want) fun r2 s2 fin => ?_)
  cases r2 with
  | error e => exact pass0 (X := X) pins σ H1 s1 e s2 I1 fin
  | ok fl =>
    cases fl with
    | ret u => exact I1.after fin
    | next => exact fin.elim
    | brk => exact fin.elim
    | cont => exact fin.elim
end
end Ux

set_option Elab.async false
set_option linter.all false
set_option maxRecDepth 100000
set_option maxHeartbeats 4000000
namespace Ux
open PySem PySem.Spec PyProof.Rows L2
/-! ### C.m(..), m a staticmethod of an own class -/
structure StM (K : PySem.W.Frag) (C : Addr) (m : Str) (mc : Value) (p g : Addr) : Prop where
  sg : PySem.W.specialIn K (.ref C) "__getattribute__" = some (some (.builtin "type.__getattribute__"))
  rd : PySem.W.readsIn K C mc = true
  fc : PySem.W.findCls K (.ref C) mc m = some (.get (.builtin "staticmethod.__get__") (.ref p) .none (.ref C))
  rc : ∃ rest, PySem.W.recIn K p "staticmethod" = some (.ref g :: rest)
  kp : PySem.W.keepIn K (.ref g) = true
section
variable {X : Cx} {CX : CXT} {k : Nat} {C p g : Addr} {x m : Str} {mc : Value} {fd : FuncData} {ps : List Str} {sp : Sp} {dvs : List V} {ds : List Value} {E : XK} {e : Expr} {es : List Expr} {t : TA} {p1 p2 pos : Pos} {pl : Sem Bool}
theorem pe_smeth (hg : Gl X x) (hm : X.mg x = some (.ref C)) (S : StM X.K C m mc p g) (F : FnOk X.prog X.w X.K X.mg X.base CX k g fd ps sp) (hr : Room k X.A) (hb : Binds X.K fd ps ds) (hd : Vals dvs ds) (hx : Passes CX X E) (ha : PA X (e :: es) t)
    (hdb : (x == ("__debug__" : Str)) = false := by decide)
    (hc : eval (.Call (.Attribute (.Name x p1) m p2) (e :: es) [] pos) X.env = (do
      let ov ← eval (.Name x p1) X.env
      standAt p2.atName
      let (f, first) ← holding [ov] (getMethod ov m pl)
      callWith pos f first (backTo pos (starEach (e :: es) X.env)) (backToKw pos (keywordEach [] X.env))) := by rfl)
    (he : starEach (e :: es) X.env = (false, eval e X.env) :: starEach es X.env := by rfl) (hpl : (backTo pos (starEach es X.env)).any (·.1) = false := by rfl) :
    PE X (.Call (.Attribute (.Name x p1) m p2) (e :: es) [] pos) (tCall sp dvs E t) := by
  constructor
  intro pins s σ H Q I h
  obtain ⟨rest, rc⟩ := S.rc
  refine PySem.W.methodCall_KW (ld_glob I hg hm ?_ hdb) hc
  refine PySem.W.method_cls I.kIn S.sg (PySem.W.cls_bind I.kIn S.rd S.fc (wpAny_call (PySem.W.sm_get (s := { s with toks := s.toks + 1 }) I.kIn rc (PySem.W.handed_on rfl ?_))))
  show wpAny _ _ (callWith pos (Value.ref g) [] (backTo pos (starEach (e :: es) X.env)) []) _ _ _
  refine PySem.W.callWith_K (h₀ := X.base) I.ok.mod.kin S.kp (thn (ha.run pos pins _ σ H _ (I.tok _) h) fun us s1 got => ?_) he hpl
  obtain ⟨vs, H1, I1, r, q⟩ := got
  exact ⟨I1.kIn, run_fn F hr hb hd hx I1 r q⟩
end
end Ux

set_option Elab.async false
set_option linter.all false
set_option maxRecDepth 100000
set_option maxHeartbeats 4000000
namespace Ux
open PySem PySem.Spec PyProof.Rows L2
section
variable {X : Cx} {CX : CXT} {k : Nat} {C p g : Addr} {x m : Str} {mc : Value} {fd : FuncData} {ps ks : List Str} {sp : Sp} {E : XK} {kws : List Keyword} {tk : TA} {p1 p2 pos : Pos} {pl : Sem Bool} {gg : List Value → List Value → List Value} {gV : List V → List V → List V}
/-- C.m(k = v, ..), m a staticmethod of an own class -/
theorem pe_smethK (hg : Gl X x) (hm : X.mg x = some (.ref C)) (S : StM X.K C m mc p g) (F : FnOk X.prog X.w X.K X.mg X.base CX k g fd ps sp) (hr : Room k X.A) (hb : KBinds X.K fd ps ks gg gV) (hx : Passes CX X E) (hkw : PK X kws tk)
    (hall : (backToKw pos (keywordEach kws X.env)).all (·.1.isSome) = true := by rfl) (hks : (backToKw pos (keywordEach kws X.env)).filterMap (·.1) = ks := by rfl)
    (hdb : (x == ("__debug__" : Str)) = false := by decide)
    (hc : eval (.Call (.Attribute (.Name x p1) m p2) [] kws pos) X.env = (do
      let ov ← eval (.Name x p1) X.env
      standAt p2.atName
      let (f, first) ← holding [ov] (getMethod ov m pl)
      callWith pos f first (backTo pos (starEach [] X.env)) (backToKw pos (keywordEach kws X.env))) := by rfl)
    (hpl : ((backTo pos (starEach [] X.env)).any (·.1) || (backToKw pos (keywordEach kws X.env)).any (·.1.isNone)) = false := by rfl) :
    PE X (.Call (.Attribute (.Name x p1) m p2) [] kws pos) (fun σ H Q => tk σ H fun zs H2 => sp (gV [] zs) H2 Q E) := by
  constructor
  intro pins s σ H Q I h
  obtain ⟨rest, rc⟩ := S.rc
  refine PySem.W.methodCall_KW (ld_glob I hg hm ?_ hdb) hc
  refine PySem.W.method_cls I.kIn S.sg (PySem.W.cls_bind I.kIn S.rd S.fc (wpAny_call (PySem.W.sm_get (s := { s with toks := s.toks + 1 }) I.kIn rc (PySem.W.handed_on rfl ?_))))
  refine PySem.W.callWith_KW0 (h₀ := X.base) I.ok.mod.kin S.kp hall ?_ hpl
  refine thn (hkw.run pos pins _ σ H _ (I.tok _) h) fun ws s2 got => ?_
  obtain ⟨zs, H2, I2, rz, q2⟩ := got
  refine ⟨I2.kIn, ?_⟩
  rw [hks]
  exact run_fnk (us := []) (vs := []) F hr hb hx I2 .nil rz q2
end
end Ux

set_option Elab.async false
set_option linter.all false
set_option maxRecDepth 100000
set_option maxHeartbeats 4000000
namespace K31
open PySem PySem.Spec PyProof.Rows L2 Ux
def top (i : Nat) : Stmt := PySem.Challenge.pw_unseenslopes_k31_rules_told.main.body.getD i (.Pass ⟨0, 0, 0, 0⟩)
abbrev sBag : Stmt := top 10
abbrev sPull : Stmt := top 11
abbrev sOf : Stmt := top 12
abbrev sSame : Stmt := top 13
/-- the built-ins that the text calls still stand -/
structure Bn (mg : Str → Option Value) : Prop where
  isin : mg "isinstance" = none
  tstr : mg "str" = none
  tint : mg "int" = none
  tlist : mg "list" = none
  ttuple : mg "tuple" = none
  tbool : mg "bool" = none
  fabs : mg "abs" = none
  frepr : mg "repr" = none
  flen : mg "len" = none
  frange : mg "range" = none
  fzip : mg "zip" = none
  fall : mg "all" = none
  tve : mg "ValueError" = none
  tle : mg "LookupError" = none
def BagL (l : Addr) (p : Nat) (g s c : Int) : List V := [.ref l, .int p, .int g, .int s, .int c]
/-- the bag of numbers at b, asked at most n times -/
structure BagAt (H : Hp) (b : Addr) (n : Nat) : Prop where
  ex : ∃ (l : Addr) (ns : List Int) (p : Nat) (g s c : Int), H b = some (.lst (BagL l p g s c)) ∧ H l = some (.lst (ns.map V.int)) ∧ b ≠ l ∧ 0 ≤ g ∧ 0 ≤ s ∧ s < 2147483549 ∧ 0 ≤ c ∧ c ≤ n
/-- all that was told stands, but what is at b -/
def But (b : Addr) (H H' : Hp) : Prop := ∀ x o, H x = some o → x ≠ b → H' x = some o
theorem But.refl {b : Addr} {H : Hp} : But b H H := fun _ _ h _ => h
theorem But.upd {b : Addr} {H H' : Hp} {o : HO} (h : But b H H') : But b H (upd H' b o) := fun x u e n => by
  rw [upd_ne n]
  exact h x u e n
theorem But.trans {b : Addr} {H H1 H2 : Hp} (h : But b H H1) (k : But b H1 H2) : But b H H2 := fun x o e n => k x o (h x o e n) n
def spPull : Sp := fun vs H Q _ => ∃ (b : Addr) (m : Int) (n : Nat), vs = [.ref b, .int m] ∧ 0 < m ∧ m < 1073741824 ∧ BagAt H b n ∧ n ≤ 1000000000 ∧ ∀ (r : Int) (H' : Hp), 0 ≤ r → r < m → BagAt H' b (n + 1) → But b H H' → Q (.int r) H'
section
variable {P : Program} {w : World} {K : PySem.W.Frag} {mg : Str → Option Value} {base : Heap}
theorem scPull : FnScope ["_law_bag_here", "_law_many", "_law_cell", "_law_small", "_law_digit", "_law_seed", "_law_step"] ["_law_bag_here", "_law_many"] (defScope sPull) := ⟨rfl, rfl, rfl, by decide +kernel, rfl, by decide +kernel, by decide +kernel⟩
theorem ok_pull {f : Addr} {fd : FuncData} (F : Fun K "_law_pull" "_law_pull" sPull f fd) (T : Bn mg) : FnOk P w K mg base CX0 1 f fd ["_law_bag_here", "_law_many"] spPull := by
  refine F.ok scPull (fun vs H Q E h => ?_) (fun cdv A outer s H vs Q E hr h => ?_)
  · obtain ⟨b, m, n, rfl, _⟩ := h
    rfl
  · obtain ⟨b, m, n, rfl, m0, m1, ⟨l, ns, p, g, s', c, hb, hl, nbl, g0, s0, s1, c0, c1⟩, hn, k⟩ := h
    refine ⟨_, pss_cons (ps_asg (pe_op op_add (pe_ix ix_list (pv 0) pe_int (fun _ _ => rfl)) pe_int) (pg_sub (pv 0) pe_int set_list))
      (C8.pss_cut (ps_if (PW.pt (pw_and (pt_cmpR op_eq (pe_ix ix_list (pv 0) pe_int (fun _ _ => rfl)) pe_int (nomark _))
            (pw_and1 (pt_cmpR op_lt (pe_ix ix_list (pv 0) pe_int (fun _ _ => rfl)) (pe_callB call_len (by rfl) T.flen (by decide +kernel) (pa_cons (pe_ix ix_list (pv 0) pe_int (fun _ _ => rfl)) pa_nil)) (nomark _)))))
          (pss_cons (ps_set (i := 2) scPull.nd rfl (Or.inl rfl) (pe_ix ix_list (pe_ix ix_list (pv 0) pe_int (fun _ _ => rfl)) (pe_ix ix_list (pv 0) pe_int (fun _ _ => rfl)) (fun _ _ => rfl)))
          (pss_cons (ps_asg (pe_op op_add (pe_ix ix_list (pv 0) pe_int (fun _ _ => rfl)) pe_int) (pg_sub (pv 0) pe_int set_list))
          (pss_one (ps_if (pt_cmpR op_ge (pe_callB call_abs (by rfl) T.fabs (by decide +kernel) (pa_cons (pv 2) pa_nil)) (pe_op op_pow pe_int pe_int) (nomark _))
            (pss_one (ps_asg (pe_callB call_abs (by rfl) T.fabs (by decide +kernel) (pa_cons (pv 2) pa_nil)) (pg_sub (pv 0) pe_int set_list)))
            (pss_cons (ps_set (i := 3) scPull.nd rfl (Or.inl rfl) (pe_op op_add (pe_op op_mul (pe_op op_mod (pe_callTy call_int1 (by rfl) T.tint (by decide +kernel) (pa_cons (pv 2) pa_nil)) pe_int) pe_int) pe_int))
            (pss_one (ps_asg (pe_op op_mod (pe_callTy call_int1 (by rfl) T.tint (by decide +kernel) (pa_cons (pe_op op_add (pe_op op_mul (pe_ix ix_list (pv 0) pe_int (fun _ _ => rfl)) pe_int) (pv 3)) pa_nil)) pe_int) (pg_sub (pv 0) pe_int set_list))))))))
          pss_nil)
      (pss_cons (ps_if (pt_cmpR op_gt (pe_ix ix_list (pv 0) pe_int (fun _ _ => rfl)) pe_int (nomark _))
          (pss_cons (ps_set (i := 4) scPull.nd rfl (Or.inl rfl) (pe_op op_mod (pe_callTy call_int1 (by rfl) T.tint (by decide +kernel) (pa_cons (pe_ix ix_list (pv 0) pe_int (fun _ _ => rfl)) pa_nil)) (pv 1)))
          (pss_cons (ps_asg (pe_op op_fdiv (pe_ix ix_list (pv 0) pe_int (fun _ _ => rfl)) (pv 1)) (pg_sub (pv 0) pe_int set_list))
          (pss_one (ps_ret (pv 4))))) pss_nil)
      (pss_cons (ps_set (i := 5) scPull.nd rfl (Or.inl rfl) (pe_ix ix_list (pv 0) pe_int (fun _ _ => rfl)))
      (pss_cons (ps_set (i := 6) scPull.nd rfl (Or.inl rfl) (pe_op op_add (pe_op op_add (pe_op op_mul (pv 5) pe_int) (pe_op op_mul (pe_ix ix_list (pv 0) pe_int (fun _ _ => rfl)) pe_int)) pe_int))
      (pss_cons (ps_asg (pe_op op_mod (pe_callTy call_int1 (by rfl) T.tint (by decide +kernel) (pa_cons (pe_op op_add (pe_op op_mul (pe_op op_mul (pv 5) (pv 5)) pe_int) (pv 6)) pa_nil)) pe_int) (pg_sub (pv 0) pe_int set_list))
      (pss_one (ps_ret (pe_op op_mod (pe_callTy call_int1 (by rfl) T.tint (by decide +kernel) (pa_cons (pe_op op_add (pe_op op_fdiv (pe_ix ix_list (pv 0) pe_int (fun _ _ => rfl)) pe_int) (pe_op op_mul (pe_op op_mod (pe_callTy call_int1 (by rfl) T.tint (by decide +kernel) (pa_cons (pe_ix ix_list (pv 0) pe_int (fun _ _ => rfl)) pa_nil)) pe_int) pe_int)) pa_nil)) (pv 1))))))))), ?_⟩
    -- bag[4] = bag[4] + 1
    refine ⟨_, rfl, b, _, 4, _, rfl, rfl, .of hb, rfl, _, _, rfl, rfl, _, rfl, b, _, 4, 4, rfl, rfl, hb, rfl, ?_⟩
    have hb1 : upd H b (.lst (BagL l p g s' (c + 1))) b = some (.lst (BagL l p g s' (c + 1))) := upd_same
    have hl1 : upd H b (.lst (BagL l p g s' (c + 1))) l = some (.lst (ns.map V.int)) := (upd_ne (Ne.symm nbl)).trans hl
    have f1 : But b H (upd H b (.lst (BagL l p g s' (c + 1)))) := But.refl.upd
    -- the first if: the bag again
    refine ⟨fun σ H2 => ∃ (v2 v3 : Option V) (p : Nat) (g s : Int), σ = [some (.ref b), some (.int m), v2, v3, none, none, none] ∧ H2 b = some (.lst (BagL l p g s (c + 1))) ∧ H2 l = some (.lst (ns.map V.int)) ∧ 0 ≤ g ∧ 0 ≤ s ∧ s < 2147483549 ∧ But b H H2, ?_, ?_⟩
    · refine ⟨_, rfl, b, _, 2, _, rfl, rfl, .of hb1, rfl, rfl, _, rfl, ?_⟩
      by_cases hg : (V.int g) = V.int 0
      · rw [decide_eq_true hg]
        refine iteT ⟨_, rfl, b, _, 1, _, rfl, rfl, .of hb1, rfl, _, rfl, b, _, 0, _, rfl, rfl, .of hb1, rfl, _, _, rfl, .inl ⟨_, .of hl1, rfl⟩, _, _, rfl, rfl, _, rfl, ?_⟩
        by_cases hp : (p : Int) < ((ns.map V.int).length : Nat)
        · rw [decide_eq_true hp]
          have hp' : p < ns.length := by
            rw [List.length_map] at hp
            omega
          have hat : (ns.map V.int)[p]? = some (V.int ns[p]) := by
            rw [List.getElem?_map, List.getElem?_eq_getElem hp']
            rfl
          refine iteT ⟨_, rfl, b, _, 0, _, rfl, rfl, .of hb1, rfl, _, rfl, b, _, 1, _, rfl, rfl, .of hb1, rfl, l, _, _, _, rfl, rfl, .of hl1, atI_nat hat, ?_⟩
          refine ⟨_, rfl, b, _, 1, _, rfl, rfl, .of hb1, rfl, _, _, rfl, rfl, _, rfl, b, _, 1, 1, rfl, rfl, hb1, rfl, ?_⟩
          generalize ns[p] = z
          have hb2 : ∀ H2 : Hp, upd H2 b (.lst (BagL l (p + 1) g s' (c + 1))) b = some (.lst (BagL l (p + 1) g s' (c + 1))) := fun _ => upd_same
          refine ⟨_, rfl, _, rfl, _, _, rfl, rfl, ⟨by decide, by decide, by decide⟩, _, _, rfl, rfl, _, rfl, ?_⟩
          refine ite2 (fun big => ?_) (fun _ => ?_)
          · refine ⟨_, rfl, _, rfl, _, rfl, b, _, 2, 2, rfl, rfl, hb2 _, rfl, ?_⟩
            refine ⟨_, _, p + 1, _, s', rfl, upd_same, ?_, ?_, s0, s1, ((f1.upd).upd)⟩
            · rw [upd_ne (Ne.symm nbl), upd_ne (Ne.symm nbl)]
              exact hl1
            · show (0 : Int) ≤ if z < 0 then -z else z
              split <;> omega
          · refine ⟨_, rfl, .inl ⟨_, rfl, _, _, rfl, rfl, (by show (0 : Int) < 1000000007; decide), _, _, rfl, rfl, ?_, _, _, rfl, rfl, ?_⟩⟩
            · have q1 := Int.emod_nonneg z (show (1000000007 : Int) ≠ 0 by decide)
              have q2 := Int.emod_lt_of_pos z (show (0 : Int) < 1000000007 by decide)
              exact .inl ⟨by omega, by omega⟩
            · refine ⟨_, rfl, b, _, 3, _, rfl, rfl, .of (hb2 _), rfl, _, _, rfl, rfl, .inl ⟨by omega, by omega⟩, _, rfl, _, _, rfl, rfl, .inl ⟨_, rfl, _, _, rfl, rfl, (by show (0 : Int) < 2147483549; decide), ?_⟩⟩
              refine ⟨_, rfl, b, _, 3, 3, rfl, rfl, hb2 _, rfl, ?_⟩
              refine ⟨_, _, p + 1, g, _, rfl, upd_same, ?_, g0, Int.emod_nonneg _ (by decide), Int.emod_lt_of_pos _ (by decide), ((f1.upd).upd)⟩
              rw [upd_ne (Ne.symm nbl), upd_ne (Ne.symm nbl)]
              exact hl1
        · rw [decide_eq_false hp]
          refine iteF ?_
          exact ⟨_, _, p, g, s', rfl, hb1, hl1, g0, s0, s1, f1⟩
      · rw [decide_eq_false hg]
        refine iteF (iteF ?_)
        exact ⟨_, _, p, g, s', rfl, hb1, hl1, g0, s0, s1, f1⟩
    · clear hb1 hl1 f1 g0 s0 s1
      rintro σ H2 ⟨v2, v3, p, g, s, rfl, hb2, hl2, g0, s0, s1, f2⟩
      refine ⟨_, rfl, b, _, 2, _, rfl, rfl, .of hb2, rfl, _, _, rfl, rfl, _, rfl, ?_⟩
      refine ite2 (fun big => ?_) (fun _ => ?_)
      · refine ⟨_, rfl, b, _, 2, _, rfl, rfl, .of hb2, rfl, .inl ⟨_, rfl, _, rfl, _, _, rfl, rfl, m0, ?_⟩⟩
        refine ⟨_, rfl, b, _, 2, _, rfl, rfl, .of hb2, rfl, _, rfl, _, _, rfl, rfl, ⟨m0, m1⟩, _, rfl, b, _, 2, 2, rfl, rfl, hb2, rfl, ?_⟩
        refine ⟨_, rfl, ?_⟩
        refine k _ _ (Int.emod_nonneg _ (by omega)) (Int.emod_lt_of_pos _ m0) ⟨l, ns, p, g / m, s, c + 1, upd_same, ?_, nbl, Int.ediv_nonneg g0 (by omega), s0, s1, by omega, by omega⟩ f2.upd
        rw [upd_ne (Ne.symm nbl)]
        exact hl2
      · refine ⟨_, rfl, b, _, 3, _, rfl, rfl, .of hb2, rfl, ?_⟩
        refine ⟨_, rfl, _, _, rfl, rfl, .inl ⟨by omega, by omega⟩, _, rfl, b, _, 4, _, rfl, rfl, .of hb2, rfl, _, _, rfl, rfl, .inl ⟨by omega, by omega⟩, _, _, rfl, rfl, _, _, rfl, rfl, ?_⟩
        have sq : s * s ≤ 2147483549 * 2147483549 := Int.mul_le_mul (by omega) (by omega) s0 (by decide)
        have sq0 : 0 ≤ s * s := Int.mul_nonneg s0 s0
        refine ⟨_, rfl, _, rfl, _, _, rfl, rfl, .inl ⟨by omega, by omega⟩, _, _, rfl, rfl, .inl ⟨by omega, by omega⟩, _, rfl, _, _, rfl, rfl, .inl ⟨_, rfl, _, _, rfl, rfl, (by show (0 : Int) < 2147483549; decide), ?_⟩⟩
        refine ⟨_, rfl, b, _, 3, 3, rfl, rfl, hb2, rfl, ?_⟩
        have hb3 : ∀ y, upd H2 b (.lst (BagL l p g y (c + 1))) b = some (.lst (BagL l p g y (c + 1))) := fun _ => upd_same
        refine ⟨_, rfl, b, _, 3, _, rfl, rfl, .of (hb3 _), rfl, _, _, rfl, rfl, ⟨by decide, by decide⟩, _, rfl, b, _, 3, _, rfl, rfl, .of (hb3 _), rfl, .inl ⟨_, rfl, _, _, rfl, rfl, (by show (0 : Int) < 7901; decide), _, _, rfl, rfl, ?_, _, _, rfl, rfl, .inl ⟨_, rfl, _, rfl, _, _, rfl, rfl, m0, ?_⟩⟩⟩
        · refine .inr ⟨by decide, by decide⟩
        · refine k _ _ (Int.emod_nonneg _ (by omega)) (Int.emod_lt_of_pos _ m0) ⟨l, ns, p, g, _, c + 1, upd_same, ?_, nbl, g0, Int.emod_nonneg _ (by decide), Int.emod_lt_of_pos _ (by decide), by omega, by omega⟩ f2.upd
          rw [upd_ne (Ne.symm nbl)]
          exact hl2
end
/-- a def of the text under its name -/
structure Dn (K : PySem.W.Frag) (mg : Str → Option Value) (x : Str) (f : Addr) : Prop where
  gl : mg x = some (.ref f)
  kp : PySem.W.keepIn K (.ref f) = true
def spBag (K : PySem.W.Frag) : Sp := fun vs H Q _ => ∃ (a : Addr) (ns : List Int), vs = [.ref a] ∧ SqL K H a (ns.map V.int) ∧ ∀ (b : Addr) (H' : Hp), BagAt H' b 0 → H b = none → Same H H' → Q (.ref b) H'
def spOf : Sp := fun vs H Q _ => ∃ (b t : Addr) (n : Nat) (xs : List V), vs = [.ref b, .ref t] ∧ BagAt H b n ∧ n ≤ 1000000000 ∧ t ≠ b ∧ H t = some (.lst xs) ∧ 0 < xs.length ∧ xs.length ≤ 1000 ∧ ∀ (i : Nat) (v : V) (H' : Hp), xs[i]? = some v → BagAt H' b (n + 1) → But b H H' → Q v H'
theorem cut_ints (ns : List Int) (lo hi : Option Int) : ∃ ms : List Int, cutV (ns.map V.int) lo hi = ms.map V.int := by
  unfold cutV
  rw [← List.map_drop, ← List.map_take]
  exact ⟨_, rfl⟩
section
variable {P : Program} {w : World} {K : PySem.W.Frag} {mg : Str → Option Value} {base : Heap}
theorem scBag : FnScope ["_law_script"] ["_law_script"] (defScope sBag) := ⟨rfl, rfl, rfl, by decide +kernel, rfl, by decide +kernel, by decide +kernel⟩
theorem ok_bag {f : Addr} {fd : FuncData} (F : Fun K "_law_bag" "_law_bag" sBag f fd) (T : Bn mg) : FnOk P w K mg base CX0 1 f fd ["_law_script"] (spBag K) := by
  refine F.ok scBag (fun vs H Q E h => ?_) (fun cdv A outer s H vs Q E hr h => ?_)
  · obtain ⟨a, ns, rfl, _⟩ := h
    rfl
  · obtain ⟨a, ns, rfl, hS, k⟩ := h
    refine ⟨_, pss_one (ps_ret (pe_lst (pa_cons (pe_callTy call_list_of (by rfl) T.tlist (by decide +kernel) (pa_cons (pe_slice sl_list (pv 0) po_none (po_some pe_int)) pa_nil)) (pa_cons pe_int (pa_cons pe_int (pa_cons pe_int (pa_cons pe_int pa_nil))))))), ?_⟩
    obtain ⟨ms, hm⟩ := cut_ints ns none (some 63)
    refine ⟨_, rfl, _, rfl, a, _, rfl, hS, fun p hp => ?_⟩
    rw [hm]
    refine ⟨p, _, rfl, .inl (SqL.of upd_same), fun l hl => ?_⟩
    refine ⟨(by show 5 ≤ sizeLine; decide), fun b hb => ?_⟩
    have nbl : b ≠ l := (ne_of_none upd_same hb).symm
    refine k b _ ⟨l, ms, 0, 0, 12004, 0, upd_same, ?_, nbl, by decide, by decide, by decide, by decide, by decide⟩ ?_ ?_
    · rw [upd_ne nbl.symm]
      exact upd_same
    · have e1 : H b ≠ none → False := fun z => by
        cases e : H b with
        | none => exact z e
        | some o =>
          have q : (upd (upd H p (.lst (ms.map V.int))) l (.lst (ms.map V.int))) b = some o := by
            rw [upd_ne nbl, upd_ne (ne_of_none e hp)]
            exact e
          rw [q] at hb
          cases hb
      exact Classical.byContradiction e1
    · intro c o e
      have h1 := ne_of_none e hp
      have s1 : upd H p (.lst (ms.map V.int)) c = some o := by
        rw [upd_ne h1]
        exact e
      have h2 := ne_of_none s1 hl
      have s2 : upd (upd H p (.lst (ms.map V.int))) l (.lst (ms.map V.int)) c = some o := by
        rw [upd_ne h2]
        exact s1
      rw [upd_ne (ne_of_none s2 hb)]
      exact s2
theorem scOf : FnScope ["_law_bag_here", "_law_things"] ["_law_bag_here", "_law_things"] (defScope sOf) := ⟨rfl, rfl, rfl, by decide +kernel, rfl, by decide +kernel, by decide +kernel⟩
theorem ok_of {f fP : Addr} {fd fdP : FuncData} (F : Fun K "_law_of" "_law_of" sOf f fd) (T : Bn mg) (D : Dn K mg "_law_pull" fP) (G : FnOk P w K mg base CX0 1 fP fdP ["_law_bag_here", "_law_many"] spPull) (bP : Binds K fdP ["_law_bag_here", "_law_many"] []) :
    FnOk P w K mg base CX0 2 f fd ["_law_bag_here", "_law_things"] spOf := by
  refine F.ok scOf (fun vs H Q E h => ?_) (fun cdv A outer s H vs Q E hr h => ?_)
  · obtain ⟨b, t, n, xs, rfl, _⟩ := h
    rfl
  · obtain ⟨b, t, n, xs, rfl, B, hn, nt, ht, l0, l1, k⟩ := h
    refine ⟨_, pss_one (ps_ret (pe_ix ix_list (pv 1) (pe_call G hr (by rfl) D.gl D.kp bP .nil pass0 (pa_cons (pv 0) (pa_cons (pe_callB call_len (by rfl) T.flen (by decide +kernel) (pa_cons (pv 1) pa_nil)) pa_nil))) (fun _ _ => rfl))), ?_⟩
    refine ⟨_, rfl, _, rfl, _, rfl, _, _, rfl, .inl ⟨_, .of ht, rfl⟩, b, _, n, rfl, by omega, by omega, B, hn, fun r H' r0 r1 B' f' => ?_⟩
    have hi : r.toNat < xs.length := by omega
    have q := List.getElem?_eq_getElem hi
    generalize xs[r.toNat] = y at q
    refine ⟨t, xs, r, y, rfl, rfl, .of (f' _ _ ht nt), ?_, k r.toNat y H' q B' f'⟩
    have z := atI_nat q
    rw [Int.toNat_of_nonneg r0] at z
    exact z
/-! ### same -/
/-- u and v are like data, less than n deep -/
def Like (H : Hp) : Nat → V → V → Prop
  | 0, _, _ => False
  | n + 1, u, v => (u = v ∧ (v = .non ∨ (∃ b, v = .bl b) ∨ (∃ i, v = .int i) ∨ ∃ x, v = .str x)) ∨
    ∃ (a b : Addr) (xs ys : List V), u = .ref a ∧ v = .ref b ∧ ((H a = some (.tup xs) ∧ H b = some (.tup ys)) ∨ (H a = some (.lst xs) ∧ H b = some (.lst ys))) ∧ xs.length = ys.length ∧ xs.length ≤ 1000 ∧ ∀ (i : Nat) (x y : V), xs[i]? = some x → ys[i]? = some y → Like H n x y
theorem Like.mono {H H' : Hp} (s : Same H H') : ∀ {n : Nat} {u v : V}, Like H n u v → Like H' n u v
  | 0, _, _, h => h.elim
  | n + 1, u, v, h => by
    rcases h with h | ⟨a, b, xs, ys, e1, e2, hh, l1, l2, k⟩
    · exact .inl h
    · refine .inr ⟨a, b, xs, ys, e1, e2, ?_, l1, l2, fun i x y hx hy => Like.mono s (k i x y hx hy)⟩
      rcases hh with ⟨h1, h2⟩ | ⟨h1, h2⟩
      · exact .inl ⟨s _ _ h1, s _ _ h2⟩
      · exact .inr ⟨s _ _ h1, s _ _ h2⟩
def spSame (n : Nat) : Sp := fun vs H Q _ => ∃ u v, vs = [u, v] ∧ Like H n u v ∧ ∀ H', Same H H' → Q (.bl true) H'
theorem Same.new {H H' : Hp} {p : Addr} {o : HO} (s : Same H H') (hp : H' p = none) : Same H (upd H' p o) := fun c u e => by
  rw [upd_ne (ne_of_none (s c u e) hp)]
  exact s c u e
theorem scSame : FnScope ["_law_found", "_law_due", "_law_a", "_law_b"] ["_law_found", "_law_due"] (defScope sSame) := ⟨rfl, rfl, rfl, by decide +kernel, rfl, by decide +kernel, by decide +kernel⟩
theorem walk_zipT {a b : Addr} {xs ys : List V} {n : Nat} (hn : n = min xs.length ys.length) : Walk (RZ.ItzT K a b) n (fun H => SqT K H a xs ∧ SqT K H b ys) (YPair (fun i => xs[i]?) (fun i => ys[i]?)) := by
  subst hn
  refine ⟨fun i _ hi q => ?_, fun _ q => ⟨xs, ys, q.1, q.2, ?_⟩, fun i H v H' _ q y => ?_⟩
  · have h1 : i < xs.length := by omega
    have h2 : i < ys.length := by omega
    refine ⟨xs, ys, xs[i], ys[i], q.1, q.2, List.getElem?_eq_getElem h1, List.getElem?_eq_getElem h2⟩
  · omega
  · obtain ⟨T, x, z, h1, h2, h3, h4, h5⟩ := y
    exact ⟨T, x, z, h1, h2, h3, h4 xs q.1, h5 ys q.2⟩
theorem all_true (n : Nat) : (List.replicate n true).all id = true := by
  induction n with
  | zero => rfl
  | succ n ih =>
    rw [List.replicate_succ, List.all_cons, ih]
    rfl
theorem any_no {T : String} (h1 : kitB T "list" = some false) (h2 : kitB T "tuple" = some false) : PySem.W.kitAny K (.type T) [.type "list", .type "tuple"] = some false :=
  kitAny_cons (kit_ty h1) (fun _ => kitAny_cons (kit_ty h2) (fun _ => kitAny_nil) (fun z => nomatch z)) (fun z => nomatch z)
theorem any_lst : PySem.W.kitAny K (.type "list") [.type "list", .type "tuple"] = some true :=
  kitAny_cons (b := true) (kit_ty (by decide +kernel)) (fun z => nomatch z) (fun _ => rfl)
theorem any_tup : PySem.W.kitAny K (.type "tuple") [.type "list", .type "tuple"] = some true :=
  kitAny_cons (b := false) (kit_ty (by decide +kernel)) (fun _ => kitAny_cons (b := true) (kit_ty (by decide +kernel)) (fun z => nomatch z) (fun _ => rfl)) (fun z => nomatch z)
theorem lt_tup : Paired ClsV [V.ty "list", V.ty "tuple"] [Value.type "list", Value.type "tuple"] := .cons (.ty _) (.cons (.ty _) .nil)
theorem ok_same_step {f : Addr} {fd : FuncData} {n k : Nat} (F : Fun K "_law_same" "_law_same" sSame f fd) (T : Bn mg) (D : Dn K mg "_law_same" f) (G : FnOk P w K mg base CX0 k f fd ["_law_found", "_law_due"] (spSame n)) (bS : Binds K fd ["_law_found", "_law_due"] []) :
    FnOk P w K mg base CX0 (k + 1) f fd ["_law_found", "_law_due"] (spSame (n + 1)) := by
  refine F.ok scSame (fun vs H Q E h => ?_) (fun cdv A outer s H vs Q E hr h => ?_)
  · obtain ⟨u, v, rfl, _⟩ := h
    rfl
  · obtain ⟨u, v, rfl, lk, kk⟩ := h
    refine ⟨_, pss_cons (ps_if (PW.pt (pw_or (pt_cmpR op_isN (pv 1) pe_non (nomark _)) (pw_or1 (pt_cmpR op_isN (pv 0) pe_non (nomark _)))))
        (pss_one (ps_ret (pe_and (pe_cmpR op_isN (pv 1) pe_non (nomark _)) (pe_one (pe_cmpR op_isN (pv 0) pe_non (nomark _)))))) pss_nil)
      (pss_cons (ps_if (PW.pt (pw_or (pt_val (pe_callB call_isi (by rfl) T.isin (by decide +kernel) (pa_cons (pv 1) (pa_cons (pe_bltn (v := .ty "bool") (by rfl) T.tbool (by decide +kernel) rfl) pa_nil)))) (pw_or1 (pt_val (pe_callB call_isi (by rfl) T.isin (by decide +kernel) (pa_cons (pv 0) (pa_cons (pe_bltn (v := .ty "bool") (by rfl) T.tbool (by decide +kernel) rfl) pa_nil)))))))
        (pss_one (ps_ret (pe_and (pe_callB call_isi (by rfl) T.isin (by decide +kernel) (pa_cons (pv 1) (pa_cons (pe_bltn (v := .ty "bool") (by rfl) T.tbool (by decide +kernel) rfl) pa_nil))) (pe_and (pe_callB call_isi (by rfl) T.isin (by decide +kernel) (pa_cons (pv 0) (pa_cons (pe_bltn (v := .ty "bool") (by rfl) T.tbool (by decide +kernel) rfl) pa_nil))) (pe_one (pe_cmpR op_eq (pv 0) (pv 1) (nomark _))))))) pss_nil)
      (pss_cons (ps_if (PW.pt (pw_or (pt_val (pe_callB call_isiT (by rfl) T.isin (by decide +kernel) (pa_cons (pv 1) (pa_cons (pe_tup (pa_cons (pe_bltn (v := .ty "list") (by rfl) T.tlist (by decide +kernel) rfl) (pa_cons (pe_bltn (v := .ty "tuple") (by rfl) T.ttuple (by decide +kernel) rfl) pa_nil))) pa_nil)))) (pw_or1 (pt_val (pe_callB call_isiT (by rfl) T.isin (by decide +kernel) (pa_cons (pv 0) (pa_cons (pe_tup (pa_cons (pe_bltn (v := .ty "list") (by rfl) T.tlist (by decide +kernel) rfl) (pa_cons (pe_bltn (v := .ty "tuple") (by rfl) T.ttuple (by decide +kernel) rfl) pa_nil))) pa_nil)))))))
        (pss_cons (ps_if (pt_cmpR op_ne (pe_callB call_isi (by rfl) T.isin (by decide +kernel) (pa_cons (pv 1) (pa_cons (pe_bltn (v := .ty "list") (by rfl) T.tlist (by decide +kernel) rfl) pa_nil))) (pe_callB call_isi (by rfl) T.isin (by decide +kernel) (pa_cons (pv 0) (pa_cons (pe_bltn (v := .ty "list") (by rfl) T.tlist (by decide +kernel) rfl) pa_nil))) (nomark _)) (pss_one (ps_ret pe_bl)) pss_nil)
        (pss_cons (ps_if (PW.pt (pw_or (pt_cmpR op_ne (pe_callB call_isi (by rfl) T.isin (by decide +kernel) (pa_cons (pv 1) (pa_cons (pe_bltn (v := .ty "tuple") (by rfl) T.ttuple (by decide +kernel) rfl) pa_nil))) (pe_callB call_isi (by rfl) T.isin (by decide +kernel) (pa_cons (pv 0) (pa_cons (pe_bltn (v := .ty "tuple") (by rfl) T.ttuple (by decide +kernel) rfl) pa_nil))) (nomark _)) (pw_or1 (pt_cmpR op_ne (pe_callB call_len (by rfl) T.flen (by decide +kernel) (pa_cons (pv 0) pa_nil)) (pe_callB call_len (by rfl) T.flen (by decide +kernel) (pa_cons (pv 1) pa_nil)) (nomark _))))) (pss_one (ps_ret pe_bl)) pss_nil)
        (pss_one (ps_ret (pe_callB (cr_all rfl) (by rfl) T.fall (by decide +kernel) (pa_cons (pe_lc (own := [("_law_a", 2), ("_law_b", 3)]) (g := gTup K 2 (gCons (gName 2) (gCons (gName 3) gNil))) rfl scSame.nd (RZ.pi_zipA (by rfl) T.fzip (pa_cons (pv 0) (pa_cons (pv 1) pa_nil))) (blkOk_by (own := [("_law_a", 2), ("_law_b", 3)]) (N := ["_law_found", "_law_due", "_law_a", "_law_b"]) (sc := defScope sSame) (by decide +kernel))
            (fun _ _ _ _ _ => pg_tup (n := 2) rfl (pgs_cons (pg_name (i := 2) scSame.nd rfl (Or.inl rfl) (hf := Or.inr rfl)) (pgs_cons (pg_name (i := 3) scSame.nd rfl (Or.inl rfl) (hf := Or.inr rfl)) pgs_nil))) (fun _ _ _ _ _ => pts_nil)
            (fun _ _ _ _ _ => pe_call G hr (by rfl) D.gl D.kp bS .nil pass0 (pa_cons (pv 2) (pa_cons (pv 3) pa_nil)))) pa_nil)))))) pss_nil)
      (pss_cons (ps_if (pt_cmpR op_ne (pe_callB call_isi (by rfl) T.isin (by decide +kernel) (pa_cons (pv 1) (pa_cons (pe_bltn (v := .ty "int") (by rfl) T.tint (by decide +kernel) rfl) pa_nil))) (pe_callB call_isi (by rfl) T.isin (by decide +kernel) (pa_cons (pv 0) (pa_cons (pe_bltn (v := .ty "int") (by rfl) T.tint (by decide +kernel) rfl) pa_nil))) (nomark _)) (pss_one (ps_ret pe_bl)) pss_nil)
      (pss_one (ps_ret (pe_and (pe_cmpR op_eq (pe_callB call_isi (by rfl) T.isin (by decide +kernel) (pa_cons (pv 1) (pa_cons (pe_bltn (v := .ty "str") (by rfl) T.tstr (by decide +kernel) rfl) pa_nil))) (pe_callB call_isi (by rfl) T.isin (by decide +kernel) (pa_cons (pv 0) (pa_cons (pe_bltn (v := .ty "str") (by rfl) T.tstr (by decide +kernel) rfl) pa_nil))) (nomark _)) (pe_one (pe_cmpR op_eq (pv 0) (pv 1) (nomark _))))))))), ?_⟩
    rcases lk with ⟨rfl, (rfl | ⟨b, rfl⟩ | ⟨i, rfl⟩ | ⟨x, rfl⟩)⟩ | ⟨a, b, xs, ys, rfl, rfl, hh, l1, l2, like⟩
    · refine ⟨_, rfl, rfl, _, rfl, iteT ?_⟩
      exact ⟨_, rfl, rfl, _, rfl, iteT ⟨_, rfl, rfl, kk _ (Same.refl _)⟩⟩
    · refine ⟨_, rfl, rfl, _, rfl, iteF ⟨_, rfl, rfl, _, rfl, iteF ?_⟩⟩
      refine ⟨_, rfl, _, _, _, _, true, rfl, .ty "bool", .base (.bl _), kit_ty (by decide +kernel), _, rfl, iteT ?_⟩
      refine ⟨_, rfl, _, _, _, _, true, rfl, .ty "bool", .base (.bl _), kit_ty (by decide +kernel), _, rfl, iteT ⟨_, rfl, _, _, _, _, true, rfl, .ty "bool", .base (.bl _), kit_ty (by decide +kernel), _, rfl, iteT ⟨_, rfl, _, rfl, rfl, ?_⟩⟩⟩
      rw [decide_eq_true rfl]
      exact kk _ (Same.refl _)
    · refine ⟨_, rfl, rfl, _, rfl, iteF ⟨_, rfl, rfl, _, rfl, iteF ?_⟩⟩
      refine ⟨_, rfl, _, _, _, _, false, rfl, .ty "bool", .base (.int _), kit_ty (by decide +kernel), _, rfl, iteF ⟨_, rfl, _, _, _, _, false, rfl, .ty "bool", .base (.int _), kit_ty (by decide +kernel), _, rfl, iteF ?_⟩⟩
      refine ⟨_, rfl, (by show 2 ≤ sizeLine; decide), fun p hp => ⟨_, p, _, _, _, false, rfl, upd_same, lt_tup, .base (.int _), any_no (by decide +kernel) (by decide +kernel), _, rfl, iteF ⟨_, rfl, (by show 2 ≤ sizeLine; decide), fun p2 hp2 => ⟨_, p2, _, _, _, false, rfl, upd_same, lt_tup, .base (.int _), any_no (by decide +kernel) (by decide +kernel), _, rfl, iteF ?_⟩⟩⟩⟩
      have s2 := (Same.new (Same.new (Same.refl H) hp (o := .tup [V.ty "list", V.ty "tuple"])) hp2 (o := .tup [V.ty "list", V.ty "tuple"]))
      refine ⟨_, rfl, _, _, _, _, true, rfl, .ty "int", .base (.int _), kit_ty (by decide +kernel), _, rfl, _, _, _, _, true, rfl, .ty "int", .base (.int _), kit_ty (by decide +kernel), rfl, _, rfl, iteF ?_⟩
      refine ⟨_, rfl, _, _, _, _, false, rfl, .ty "str", .base (.int _), kit_ty (by decide +kernel), _, rfl, _, _, _, _, false, rfl, .ty "str", .base (.int _), kit_ty (by decide +kernel), rfl, _, rfl, iteT ⟨_, rfl, _, rfl, rfl, ?_⟩⟩
      rw [decide_eq_true rfl]
      exact kk _ s2
    · refine ⟨_, rfl, rfl, _, rfl, iteF ⟨_, rfl, rfl, _, rfl, iteF ?_⟩⟩
      refine ⟨_, rfl, _, _, _, _, false, rfl, .ty "bool", .base (.str _), kit_ty (by decide +kernel), _, rfl, iteF ⟨_, rfl, _, _, _, _, false, rfl, .ty "bool", .base (.str _), kit_ty (by decide +kernel), _, rfl, iteF ?_⟩⟩
      refine ⟨_, rfl, (by show 2 ≤ sizeLine; decide), fun p hp => ⟨_, p, _, _, _, false, rfl, upd_same, lt_tup, .base (.str _), any_no (by decide +kernel) (by decide +kernel), _, rfl, iteF ⟨_, rfl, (by show 2 ≤ sizeLine; decide), fun p2 hp2 => ⟨_, p2, _, _, _, false, rfl, upd_same, lt_tup, .base (.str _), any_no (by decide +kernel) (by decide +kernel), _, rfl, iteF ?_⟩⟩⟩⟩
      have s2 := (Same.new (Same.new (Same.refl H) hp (o := .tup [V.ty "list", V.ty "tuple"])) hp2 (o := .tup [V.ty "list", V.ty "tuple"]))
      refine ⟨_, rfl, _, _, _, _, false, rfl, .ty "int", .base (.str _), kit_ty (by decide +kernel), _, rfl, _, _, _, _, false, rfl, .ty "int", .base (.str _), kit_ty (by decide +kernel), rfl, _, rfl, iteF ?_⟩
      refine ⟨_, rfl, _, _, _, _, true, rfl, .ty "str", .base (.str _), kit_ty (by decide +kernel), _, rfl, _, _, _, _, true, rfl, .ty "str", .base (.str _), kit_ty (by decide +kernel), rfl, _, rfl, iteT ⟨_, rfl, _, rfl, rfl, ?_⟩⟩
      rw [decide_eq_true rfl]
      exact kk _ s2
    · refine ⟨_, rfl, rfl, _, rfl, iteF ⟨_, rfl, rfl, _, rfl, iteF ?_⟩⟩
      rcases hh with ⟨ha, hb⟩ | ⟨ha, hb⟩
      · refine ⟨_, rfl, _, _, _, _, false, rfl, .ty "bool", .base (.tup hb), kit_ty (by decide +kernel), _, rfl, iteF ⟨_, rfl, _, _, _, _, false, rfl, .ty "bool", .base (.tup ha), kit_ty (by decide +kernel), _, rfl, iteF ?_⟩⟩
        refine ⟨_, rfl, (by show 2 ≤ sizeLine; decide), fun p hp => ?_⟩
        have s1 := Same.new (Same.refl H) hp (o := .tup [V.ty "list", V.ty "tuple"])
        have ha1 := s1 _ _ ha
        have hb1 := s1 _ _ hb
        refine ⟨_, p, _, _, _, true, rfl, upd_same, lt_tup, .base (.tup hb1), any_tup, _, rfl, iteT ?_⟩
        refine ⟨_, rfl, _, _, _, _, false, rfl, .ty "list", .base (.tup hb1), kit_ty (by decide +kernel), _, rfl, _, _, _, _, false, rfl, .ty "list", .base (.tup ha1), kit_ty (by decide +kernel), rfl, _, rfl, iteF ?_⟩
        refine ⟨_, rfl, _, _, _, _, true, rfl, .ty "tuple", .base (.tup hb1), kit_ty (by decide +kernel), _, rfl, _, _, _, _, true, rfl, .ty "tuple", .base (.tup ha1), kit_ty (by decide +kernel), rfl, _, rfl, iteF ⟨_, rfl, _, _, rfl, .inr ⟨_, .of ha1, rfl⟩, _, rfl, _, _, rfl, .inr ⟨_, .of hb1, rfl⟩, ?_⟩⟩
        refine ⟨rfl, _, rfl, ?_⟩
        rw [l1, decide_eq_true rfl]
        refine iteF ?_
        refine ⟨_, rfl, _, rfl, a, b, xs, ys, rfl, .inr ⟨SqT.of ha1, SqT.of hb1, fun D hD => ?_⟩⟩
        refine lc_it (walk_zipT (n := ys.length) (by rw [l1, Nat.min_self])) (fun i H' => Same (upd H p (.tup [V.ty "list", V.ty "tuple"])) H' ∧ H' D = some (.lst ((List.replicate i true).map V.bl))) ⟨Same.new (Same.refl _) hD, upd_same⟩ (fun i H' _ z => ⟨SqT.of (z.1 _ _ ha1), SqT.of (z.1 _ _ hb1)⟩) ?_ ?_
        · rintro i x H2 H3 hi ⟨t2, d2⟩ ⟨T1, y, z, rfl, nT, rfl, hy, hz⟩
          have t3 := Same.new t2 nT (o := .tup [y, z])
          refine ⟨T1, _, rfl, SqT.of upd_same, rfl, y, _, rfl, z, _, rfl, rfl, rfl, ?_⟩
          refine ⟨_, rfl, _, rfl, y, z, rfl, Like.mono (s1.trans t3) (like i y z hy hz), fun H4 s4 => ?_⟩
          have d4 : H4 D = some (.lst ((List.replicate i true).map V.bl)) := s4 _ _ (by rw [upd_ne (ne_of_none d2 nT)]; exact d2)
          refine ⟨_, d4, ?_, fun c o e => ?_, ?_⟩
          · rw [List.length_map, List.length_replicate]
            exact small1000 (by omega)
          · have q := s4 _ _ (t3 c o e)
            rw [upd_ne (ne_of_none e hD)]
            exact q
          · rw [upd_same, List.replicate_succ', List.map_append]
            rfl
        · rintro H2 ⟨t2, d2⟩
          refine ⟨D, _, rfl, .of d2, ?_⟩
          rw [all_true]
          exact kk _ (s1.trans t2)

      · refine ⟨_, rfl, _, _, _, _, false, rfl, .ty "bool", .base (.lst hb), kit_ty (by decide +kernel), _, rfl, iteF ⟨_, rfl, _, _, _, _, false, rfl, .ty "bool", .base (.lst ha), kit_ty (by decide +kernel), _, rfl, iteF ?_⟩⟩
        refine ⟨_, rfl, (by show 2 ≤ sizeLine; decide), fun p hp => ?_⟩
        have s1 := Same.new (Same.refl H) hp (o := .tup [V.ty "list", V.ty "tuple"])
        have ha1 := s1 _ _ ha
        have hb1 := s1 _ _ hb
        refine ⟨_, p, _, _, _, true, rfl, upd_same, lt_tup, .base (.lst hb1), any_lst, _, rfl, iteT ?_⟩
        refine ⟨_, rfl, _, _, _, _, true, rfl, .ty "list", .base (.lst hb1), kit_ty (by decide +kernel), _, rfl, _, _, _, _, true, rfl, .ty "list", .base (.lst ha1), kit_ty (by decide +kernel), rfl, _, rfl, iteF ?_⟩
        refine ⟨_, rfl, _, _, _, _, false, rfl, .ty "tuple", .base (.lst hb1), kit_ty (by decide +kernel), _, rfl, _, _, _, _, false, rfl, .ty "tuple", .base (.lst ha1), kit_ty (by decide +kernel), rfl, _, rfl, iteF ⟨_, rfl, _, _, rfl, .inl ⟨_, .of ha1, rfl⟩, _, rfl, _, _, rfl, .inl ⟨_, .of hb1, rfl⟩, ?_⟩⟩
        refine ⟨rfl, _, rfl, ?_⟩
        rw [l1, decide_eq_true rfl]
        refine iteF ?_
        refine ⟨_, rfl, _, rfl, a, b, xs, ys, rfl, .inl ⟨SqL.of ha1, SqL.of hb1, fun D hD => ?_⟩⟩
        refine lc_it (walk_zip (n := ys.length) (by rw [l1, Nat.min_self])) (fun i H' => Same (upd H p (.tup [V.ty "list", V.ty "tuple"])) H' ∧ H' D = some (.lst ((List.replicate i true).map V.bl))) ⟨Same.new (Same.refl _) hD, upd_same⟩ (fun i H' _ z => ⟨SqL.of (z.1 _ _ ha1), SqL.of (z.1 _ _ hb1)⟩) ?_ ?_
        · rintro i x H2 H3 hi ⟨t2, d2⟩ ⟨T1, y, z, rfl, nT, rfl, hy, hz⟩
          have t3 := Same.new t2 nT (o := .tup [y, z])
          refine ⟨T1, _, rfl, SqT.of upd_same, rfl, y, _, rfl, z, _, rfl, rfl, rfl, ?_⟩
          refine ⟨_, rfl, _, rfl, y, z, rfl, Like.mono (s1.trans t3) (like i y z hy hz), fun H4 s4 => ?_⟩
          have d4 : H4 D = some (.lst ((List.replicate i true).map V.bl)) := s4 _ _ (by rw [upd_ne (ne_of_none d2 nT)]; exact d2)
          refine ⟨_, d4, ?_, fun c o e => ?_, ?_⟩
          · rw [List.length_map, List.length_replicate]
            exact small1000 (by omega)
          · have q := s4 _ _ (t3 c o e)
            rw [upd_ne (ne_of_none e hD)]
            exact q
          · rw [upd_same, List.replicate_succ', List.map_append]
            rfl
        · rintro H2 ⟨t2, d2⟩
          refine ⟨D, _, rfl, .of d2, ?_⟩
          rw [all_true]
          exact kk _ (s1.trans t2)

end
end K31

set_option Elab.async false
set_option linter.all false
set_option maxRecDepth 100000
set_option maxHeartbeats 4000000
namespace K31
open PySem PySem.Spec PyProof.Rows L2 Ux
abbrev sField : Stmt := top 14
abbrev sOtherField : Stmt := top 15
abbrev sWhy : Stmt := top 16
/-- the names of the errors' fields -/
def fieldNames : List Str := ["code", "given", "at", "name", "what", "limit", "index", "line", "deed"]
/-- a caught error with the fields fs -/
structure Err (K : PySem.W.Frag) (H : Hp) (p : Addr × Obj) (C dd : Addr) (fs : List (Str × V)) : Prop where
  ca : Caught p C dd
  xf : XfC K C
  no : ∀ f ∈ fieldNames, PySem.W.findIn K (.ref C) f = some none
  at_ : H dd = some (.xd fs)
theorem Err.same {K : PySem.W.Frag} {H H' : Hp} {p : Addr × Obj} {C dd : Addr} {fs : List (Str × V)} (h : Err K H p C dd fs) (s : Same H H') : Err K H' p C dd fs := ⟨h.ca, h.xf, h.no, s _ _ h.at_⟩
/-- what such an error has beside its code -/
def Has (fs : List (Str × V)) (f : Str) (q : V → Prop) : Prop := ∃ v, fs.lookup f = some v ∧ q v
def otherF (code : Str) (fs : List (Str × V)) (q : V → Prop) : Prop :=
  if decide (V.str code = V.str "InvalidFact") = true then Has fs "what" q else if decide (V.str code = V.str "InvalidRow") = true then Has fs "index" q else if decide (V.str code = V.str "InvalidPage") = true then Has fs "line" q else
  if decide (V.str code = V.str "UnlikeWorlds") = true then q .non else Has fs "deed" q
def spOtherF (K : PySem.W.Frag) : Addr × Obj → Sp := fun p vs H Q _ => ∃ (C dd : Addr) (fs : List (Str × V)) (code : Str), vs = [.ref p.1] ∧ Err K H p C dd fs ∧ fs.lookup ("code" : Str) = some (V.str code) ∧ otherF code fs fun v => Q v H
def fieldF (code : Str) (fs : List (Str × V)) (q : V → Prop) (tup : V → V → Prop) : Prop :=
  if inV (.str code) [.str "InvalidName", .str "InvalidNumber"] = true then Has fs "given" q else if inV (.str code) [.str "InvalidText", .str "WrongKind", .str "InvalidBlank"] = true then Has fs "at" q else
  if inV (.str code) [.str "NameTaken", .str "InvalidWitness", .str "UnknownName"] = true then Has fs "name" q else
  if decide (V.str code = V.str "TooLarge") = true then Has fs "what" (fun v => Has fs "limit" fun u => tup v u) else otherF code fs q
def spFieldE (K : PySem.W.Frag) : Addr × Obj → Sp := fun p vs H Q _ => ∃ (C dd : Addr) (fs : List (Str × V)) (code : Str), vs = [.ref p.1] ∧ Err K H p C dd fs ∧ fs.lookup ("code" : Str) = some (V.str code) ∧
  fieldF code fs (fun v => ∀ H', Same H H' → Q v H') fun v u => ∀ (t : Addr) (H' : Hp), H' t = some (.tup [v, u]) → Same H H' → Q (.ref t) H'
theorem same_upd' {H : Hp} {a : Addr} {o : HO} (ha : H a = none) : Same H (upd H a o) := fun x u e => by
  rw [upd_ne (ne_of_none e ha)]
  exact e
theorem unT {A B : Prop} (h : if true = true then A else B) : A := by
  rw [if_pos rfl] at h
  exact h
theorem unF {A B : Prop} (h : if false = true then A else B) : B := by
  rw [if_neg Bool.false_ne_true] at h
  exact h
section
variable {P : Program} {w : World} {K : PySem.W.Frag} {mg : Str → Option Value} {base : Heap}
theorem scOtherField : FnScope ["_law_e"] ["_law_e"] (defScope sOtherField) := ⟨rfl, rfl, rfl, by decide +kernel, rfl, by decide +kernel, by decide +kernel⟩
theorem ok_otherField {f : Addr} {fd : FuncData} (F : Fun K "_law_other_field" "_law_other_field" sOtherField f fd) : FnQ P w K mg base 1 f fd ["_law_e"] (spOtherF K) := by
  refine Ux.Fun.okQ F scOtherField (fun p vs H Q E h => ?_) (fun cdv A outer s H vs Q E p hr h => ?_)
  · obtain ⟨_, _, _, _, rfl, _⟩ := h
    rfl
  · obtain ⟨C, dd, fs, code, rfl, er, lc, q⟩ := h
    have hp : p ∈ (L2H.cxH CX0 P w K mg base ["_law_e"] "_law_other_field" (defScope sOtherField) f cdv A outer s H E p).pn := List.mem_singleton.mpr rfl
    refine ⟨_, pss_cons (ps_if (pt_cmpR op_eq (pe_pf er.xf (er.no _ (by decide +kernel)) hp er.ca (pv 0)) pe_str (nomark _)) (pss_one (ps_ret (pe_pf er.xf (er.no _ (by decide +kernel)) hp er.ca (pv 0)))) pss_nil)
      (pss_cons (ps_if (pt_cmpR op_eq (pe_pf er.xf (er.no _ (by decide +kernel)) hp er.ca (pv 0)) pe_str (nomark _)) (pss_one (ps_ret (pe_pf er.xf (er.no _ (by decide +kernel)) hp er.ca (pv 0)))) pss_nil)
      (pss_cons (ps_if (pt_cmpR op_eq (pe_pf er.xf (er.no _ (by decide +kernel)) hp er.ca (pv 0)) pe_str (nomark _)) (pss_one (ps_ret (pe_pf er.xf (er.no _ (by decide +kernel)) hp er.ca (pv 0)))) pss_nil)
      (pss_one (ps_ret (pe_ifExp (pt_cmpR op_eq (pe_pf er.xf (er.no _ (by decide +kernel)) hp er.ca (pv 0)) pe_str (nomark _)) pe_non (pe_pf er.xf (er.no _ (by decide +kernel)) hp er.ca (pv 0))))))), ?_⟩
    have ha := er.at_
    unfold otherF at q
    refine ⟨_, rfl, fs, _, rfl, ha, lc, rfl, _, rfl, ?_⟩
    cases h1 : decide (V.str code = V.str "InvalidFact") with
    | true =>
      rw [h1] at q
      obtain ⟨v, lv, k⟩ := unT q
      exact iteT ⟨_, rfl, fs, v, rfl, ha, lv, k⟩
    | false =>
      rw [h1] at q
      have q := unF q
      refine iteF ⟨_, rfl, fs, _, rfl, ha, lc, rfl, _, rfl, ?_⟩
      cases h2 : decide (V.str code = V.str "InvalidRow") with
      | true =>
        rw [h2] at q
        obtain ⟨v, lv, k⟩ := unT q
        exact iteT ⟨_, rfl, fs, v, rfl, ha, lv, k⟩
      | false =>
        rw [h2] at q
        have q := unF q
        refine iteF ⟨_, rfl, fs, _, rfl, ha, lc, rfl, _, rfl, ?_⟩
        cases h3 : decide (V.str code = V.str "InvalidPage") with
        | true =>
          rw [h3] at q
          obtain ⟨v, lv, k⟩ := unT q
          exact iteT ⟨_, rfl, fs, v, rfl, ha, lv, k⟩
        | false =>
          rw [h3] at q
          have q := unF q
          refine iteF ⟨_, rfl, fs, _, rfl, ha, lc, rfl, _, rfl, ?_⟩
          cases h4 : decide (V.str code = V.str "UnlikeWorlds") with
          | true =>
            rw [h4] at q
            exact iteT (unT q)
          | false =>
            rw [h4] at q
            obtain ⟨v, lv, k⟩ := unF q
            exact iteF ⟨_, rfl, fs, v, rfl, ha, lv, k⟩
theorem scField : FnScope ["_law_e"] ["_law_e"] (defScope sField) := ⟨rfl, rfl, rfl, by decide +kernel, rfl, by decide +kernel, by decide +kernel⟩
theorem ok_field {f fO : Addr} {fd fdO : FuncData} (F : Fun K "_law_field" "_law_field" sField f fd) (D : Dn K mg "_law_other_field" fO) (G : FnQ P w K mg base 1 fO fdO ["_law_e"] (spOtherF K)) (bO : Binds K fdO ["_law_e"] []) : FnQ P w K mg base 2 f fd ["_law_e"] (spFieldE K) := by
  refine Ux.Fun.okQ F scField (fun p vs H Q E h => ?_) (fun cdv A outer s H vs Q E p hr h => ?_)
  · obtain ⟨_, _, _, _, rfl, _⟩ := h
    rfl
  · obtain ⟨C, dd, fs, code, rfl, er, lc, q⟩ := h
    have hp : p ∈ (L2H.cxH CX0 P w K mg base ["_law_e"] "_law_field" (defScope sField) f cdv A outer s H E p).pn := List.mem_singleton.mpr rfl
    refine ⟨_, pss_cons (ps_if (pt_cmpR op_in_seq (pe_pf er.xf (er.no _ (by decide +kernel)) hp er.ca (pv 0)) (pe_tup (pa_cons pe_str (pa_cons pe_str pa_nil))) (by rfl)) (pss_one (ps_ret (pe_pf er.xf (er.no _ (by decide +kernel)) hp er.ca (pv 0)))) pss_nil)
      (pss_cons (ps_if (pt_cmpR op_in_seq (pe_pf er.xf (er.no _ (by decide +kernel)) hp er.ca (pv 0)) (pe_tup (pa_cons pe_str (pa_cons pe_str (pa_cons pe_str pa_nil)))) (by rfl)) (pss_one (ps_ret (pe_pf er.xf (er.no _ (by decide +kernel)) hp er.ca (pv 0)))) pss_nil)
      (pss_cons (ps_if (pt_cmpR op_in_seq (pe_pf er.xf (er.no _ (by decide +kernel)) hp er.ca (pv 0)) (pe_tup (pa_cons pe_str (pa_cons pe_str (pa_cons pe_str pa_nil)))) (by rfl)) (pss_one (ps_ret (pe_pf er.xf (er.no _ (by decide +kernel)) hp er.ca (pv 0)))) pss_nil)
      (pss_cons (ps_if (pt_cmpR op_eq (pe_pf er.xf (er.no _ (by decide +kernel)) hp er.ca (pv 0)) pe_str (nomark _)) (pss_one (ps_ret (pe_tup (pa_cons (pe_pf er.xf (er.no _ (by decide +kernel)) hp er.ca (pv 0)) (pa_cons (pe_pf er.xf (er.no _ (by decide +kernel)) hp er.ca (pv 0)) pa_nil))))) pss_nil)
      (pss_one (ps_ret (pe_callQ G hr hp (by rfl) D.gl D.kp bO (pa_cons (pv 0) pa_nil))))))), ?_⟩
    have ha := er.at_
    unfold fieldF at q
    refine ⟨_, rfl, fs, _, rfl, ha, lc, (by show 2 ≤ sizeLine; decide), fun t1 n1 => ?_⟩
    have s1 := same_upd' (o := .tup [V.str "InvalidName", .str "InvalidNumber"]) n1
    refine ⟨t1, _, rfl, .inr (.of upd_same), rfl, rfl, _, rfl, ?_⟩
    show if inV (.str code) [.str "InvalidName", .str "InvalidNumber"] = true then _ else _
    cases h1 : inV (.str code) [.str "InvalidName", .str "InvalidNumber"] with
    | true =>
      rw [h1] at q
      obtain ⟨v, lv, k⟩ := unT q
      exact iteT ⟨_, rfl, fs, v, rfl, s1 _ _ ha, lv, k _ s1⟩
    | false =>
      rw [h1] at q
      have q := unF q
      refine iteF ⟨_, rfl, fs, _, rfl, s1 _ _ ha, lc, (by show 3 ≤ sizeLine; decide), fun t2 n2 => ?_⟩
      have s2 := s1.trans (same_upd' (o := .tup [V.str "InvalidText", .str "WrongKind", .str "InvalidBlank"]) n2)
      refine ⟨t2, _, rfl, .inr (.of upd_same), rfl, rfl, _, rfl, ?_⟩
      show if inV (.str code) [.str "InvalidText", .str "WrongKind", .str "InvalidBlank"] = true then _ else _
      cases h2 : inV (.str code) [.str "InvalidText", .str "WrongKind", .str "InvalidBlank"] with
      | true =>
        rw [h2] at q
        obtain ⟨v, lv, k⟩ := unT q
        exact iteT ⟨_, rfl, fs, v, rfl, s2 _ _ ha, lv, k _ s2⟩
      | false =>
        rw [h2] at q
        have q := unF q
        refine iteF ⟨_, rfl, fs, _, rfl, s2 _ _ ha, lc, (by show 3 ≤ sizeLine; decide), fun t3 n3 => ?_⟩
        have s3 := s2.trans (same_upd' (o := .tup [V.str "NameTaken", .str "InvalidWitness", .str "UnknownName"]) n3)
        refine ⟨t3, _, rfl, .inr (.of upd_same), rfl, rfl, _, rfl, ?_⟩
        show if inV (.str code) [.str "NameTaken", .str "InvalidWitness", .str "UnknownName"] = true then _ else _
        cases h3 : inV (.str code) [.str "NameTaken", .str "InvalidWitness", .str "UnknownName"] with
        | true =>
          rw [h3] at q
          obtain ⟨v, lv, k⟩ := unT q
          exact iteT ⟨_, rfl, fs, v, rfl, s3 _ _ ha, lv, k _ s3⟩
        | false =>
          rw [h3] at q
          have q := unF q
          refine iteF ⟨_, rfl, fs, _, rfl, s3 _ _ ha, lc, rfl, _, rfl, ?_⟩
          cases h4 : decide (V.str code = V.str "TooLarge") with
          | true =>
            rw [h4] at q
            obtain ⟨v, lv, u, lu, k⟩ := unT q
            refine iteT ⟨_, rfl, fs, v, rfl, s3 _ _ ha, lv, _, rfl, fs, u, rfl, s3 _ _ ha, lu, (by show 2 ≤ sizeLine; decide), fun t4 n4 => ?_⟩
            exact k t4 _ upd_same (s3.trans (same_upd' n4))
          | false =>
            rw [h4] at q
            have q := unF q
            refine iteF ⟨_, rfl, C, dd, fs, code, rfl, er.same s3, lc, ?_⟩
            unfold otherF at q ⊢
            have mono : ∀ {f : Str}, Has fs f (fun v => ∀ H', Same H H' → Q v H') → Has fs f fun v => Q v _ := fun ⟨v, l, k⟩ => ⟨v, l, k _ s3⟩
            split at q
            · rename_i c
              rw [if_pos c]
              exact mono q
            · rename_i c
              rw [if_neg c]
              split at q
              · rename_i c
                rw [if_pos c]
                exact mono q
              · rename_i c
                rw [if_neg c]
                split at q
                · rename_i c
                  rw [if_pos c]
                  exact mono q
                · rename_i c
                  rw [if_neg c]
                  split at q
                  · rename_i c
                    rw [if_pos c]
                    exact q _ s3
                  · rename_i c
                    rw [if_neg c]
                    exact mono q
end
end K31

set_option Elab.async false
set_option linter.all false
set_option maxRecDepth 100000
set_option maxHeartbeats 4000000
namespace K31
open PySem PySem.Spec PyProof.Rows L2 Ux
/-! ### _law_why, handed a lambda -/
/-- the wish of an error: told as its code and what it has -/
def Told (K : PySem.W.Frag) (C1 C2 : Addr) (Q : VK) : XK := fun cls d H => ∃ (C dd : Addr) (fs : List (Str × V)) (code : Str), cls = .ref C ∧ d = some dd ∧ H dd = some (.xd fs) ∧ PySem.W.exmAny K cls [.ref C1, .ref C2] = some true ∧ XfC K C ∧
  (∀ f ∈ fieldNames, PySem.W.findIn K (.ref C) f = some none) ∧ fs.lookup ("code" : Str) = some (V.str code) ∧
  fieldF code fs (fun v => ∀ (t : Addr) (H' : Hp), H' t = some (.tup [.str code, v]) → Same H H' → Q (.ref t) H')
    fun v u => ∀ (t t2 : Addr) (H' : Hp), H' t2 = some (.tup [v, u]) → H' t = some (.tup [.str code, .ref t2]) → Same H H' → Q (.ref t) H'
def TTwhy (K : PySem.W.Frag) (C1 C2 : Addr) : (XK → Hp → VK → Prop) → Hp → VK → Prop := fun tl H Q =>
  tl (Told K C1 C2 Q) H fun v H' => [V.str "value", v].length ≤ sizeLine ∧ ∀ t : Addr, H' t = none → Q (.ref t) (upd H' t (.tup [.str "value", v]))
theorem Has.imp {fs : List (Str × V)} {f : Str} {q q' : V → Prop} (h : Has fs f q) (k : ∀ v, q v → q' v) : Has fs f q' := by
  obtain ⟨v, l, z⟩ := h
  exact ⟨v, l, k v z⟩
theorem ite_imp {c : Prop} [Decidable c] {A B A' B' : Prop} (h : if c then A else B) (ha : A → A') (hb : B → B') : if c then A' else B' := by
  split
  · rename_i z
    rw [if_pos z] at h
    exact ha h
  · rename_i z
    rw [if_neg z] at h
    exact hb h
theorem fieldF_imp {code : Str} {fs : List (Str × V)} {q q' : V → Prop} {t t' : V → V → Prop} (h : fieldF code fs q t) (k : ∀ v, q v → q' v) (k2 : ∀ v u, t v u → t' v u) : fieldF code fs q' t' := by
  unfold fieldF at h ⊢
  refine ite_imp h (fun z => z.imp k) fun h => ite_imp h (fun z => z.imp k) fun h => ite_imp h (fun z => z.imp k) fun h => ite_imp h (fun z => z.imp fun v z => z.imp (k2 v)) fun h => ?_
  unfold otherF at h ⊢
  exact ite_imp h (fun z => z.imp k) fun h => ite_imp h (fun z => z.imp k) fun h => ite_imp h (fun z => z.imp k) fun h => ite_imp h (k _) fun z => z.imp k
/-- the suite's reading -/
def tsWhy (K : PySem.W.Frag) (a : Addr) (cls : Value) (d : Option Addr) : TS := fun D σ H => ∃ C dd : Addr, cls = .ref C ∧ d = some dd ∧ XfC K C ∧ (∀ f ∈ fieldNames, PySem.W.findIn K (.ref C) f = some none) ∧
  ∀ oe : Obj, Caught (a, oe) C dd → tRet (tTup (tCons (tPf a dd "code" (tVar 1)) (tCons (tCallQ (a, oe) (spFieldE K) (tCons (tVar 1) tNil)) tNil))) D σ H
theorem scWhy : FnScope ["_law_ask", "_law_e"] ["_law_ask"] (defScope sWhy) := ⟨rfl, rfl, rfl, by decide +kernel, rfl, by decide +kernel, by decide +kernel⟩
section
variable {X : Cx} {C1 C2 fF g : Addr} {fdF : FuncData} {q : Str} {cdg : Value}
theorem why_gives (hr : Room 3 X.A) (D : Dn X.K X.mg "_law_field" fF) (G : FnQ X.prog X.w X.K X.mg X.base 2 fF fdF ["_law_e"] (spFieldE X.K)) (bF : Binds X.K fdF ["_law_e"] []) (m1 : X.mg "SlopeError" = some (.ref C1)) (m2 : X.mg "Missing" = some (.ref C2)) :
    LamX.GivesTo X ["_law_ask", "_law_e"] "_law_why" (defScope sWhy) g cdg (defBody sWhy) "_law_ask" q (TTwhy X.K C1 C2) := by
  intro f c' s H Q tl act hc h
  have room : L2H.RoomH 2 (cxOf C8.CX0 X.prog X.w X.K X.mg X.base ["_law_ask", "_law_e"] "_law_why" (defScope sWhy) g cdg X.A X.stack s H C8.E0).A := (L2H.roomH_of hr).deeper _
  refine ⟨_, pss_one (ps_try_as2 (X := (cxOf C8.CX0 X.prog X.w X.K X.mg X.base ["_law_ask", "_law_e"] "_law_why" (defScope sWhy) g cdg X.A X.stack s H C8.E0).nox) (i := 1) (C1 := C1) (C2 := C2) (ts := tsWhy X.K)
      (tb := fun W D σ H => ∃ Ech : XK, (∀ cls d σ' H', Ech cls d H' → W cls d σ' H') ∧ σ[0]? = some (some (.ref f)) ∧ H c' = some (LamX.CodeO c' q) ∧ tl Ech H fun v H' => [V.str "value", v].length ≤ sizeLine ∧ ∀ t, H' t = none → D.rt (.ref t) (upd H' t (.tup [.str "value", v])))
      rfl rfl scWhy.nd rfl rfl rfl rfl m1 m2 (by decide +kernel) (by decide +kernel) (fun W pn xe tk _ => ?_) (fun a oe cls d pn hz hf => ?_)), ?_⟩
  · refine ⟨fun pins s' σ H' D I h' => ?_⟩
    obtain ⟨Ech, hW, h1, h2, h3⟩ := h'
    exact (pss_one (ps_ret (pe_tup (pa_cons pe_str (pa_cons (act W pn xe Ech _ _ tk hW) pa_nil))))).run pins s' σ H' D I ⟨h1, h2, h3⟩
  · refine ⟨fun pins s' σ H' D' I h' => ?_⟩
    obtain ⟨C, dd, rfl, rfl, xf, no, k⟩ := h'
    have hp : (a, oe) ∈ ((cxOf C8.CX0 X.prog X.w X.K X.mg X.base ["_law_ask", "_law_e"] "_law_why" (defScope sWhy) g cdg X.A X.stack s H C8.E0).nox.suite a ((a, oe) :: pn)).pn := List.mem_cons_self
    have room2 : L2H.RoomH 2 ((cxOf C8.CX0 X.prog X.w X.K X.mg X.base ["_law_ask", "_law_e"] "_law_why" (defScope sWhy) g cdg X.A X.stack s H C8.E0).nox.suite a ((a, oe) :: pn)).A := ⟨room.dp, room.un⟩
    refine PSs.run (X := (cxOf C8.CX0 X.prog X.w X.K X.mg X.base ["_law_ask", "_law_e"] "_law_why" (defScope sWhy) g cdg X.A X.stack s H C8.E0).nox.suite a ((a, oe) :: pn)) (t := tRet (tTup (tCons (tPf a dd "code" (tVar 1)) (tCons (tCallQ (a, oe) (spFieldE X.K) (tCons (tVar 1) tNil)) tNil)))) ?_ pins s' σ H' D' I (k oe ⟨hz, hf⟩)
    exact pss_one (ps_ret (pe_tup (pa_cons (pe_pf (p := (a, oe)) xf (no _ (by decide +kernel)) hp ⟨hz, hf⟩ (pv 1)) (pa_cons (pe_callQ (p := (a, oe)) G room2 hp (by rfl) D.gl D.kp bF (pa_cons (pv 1) pa_nil)) pa_nil))))
  · refine ⟨Told X.K C1 C2 Q, fun cls d σ' H' t => ?_, rfl, hc, h⟩
    obtain ⟨C, dd, fs, code, rfl, rfl, hdd, ex, xf, no, lc, ff⟩ := t
    refine ⟨ex, fun a na len => ⟨C, dd, rfl, rfl, xf, no, fun oe ca => ?_⟩⟩
    have got : (σ'.set 1 (some (V.ref a)))[1]? = some (some (V.ref a)) := List.getElem?_set_self (by rw [len]; show 1 < 2; decide)
    refine ⟨.ref a, got, fs, _, rfl, hdd, lc, .ref a, got, C, dd, fs, code, rfl, ⟨ca, xf, no, hdd⟩, lc, fieldF_imp ff (fun v hv H2 s2 => ?_) (fun v u hv t2 H2 h2 s2 => ?_)⟩
    · exact ⟨(by show 2 ≤ sizeLine; decide), fun t nt => hv t _ upd_same (s2.trans (same_upd' nt))⟩
    · exact ⟨(by show 2 ≤ sizeLine; decide), fun t nt => hv t t2 _ ((upd_ne (ne_of_none h2 nt)).trans h2) upd_same (s2.trans (same_upd' nt))⟩
end
end K31

set_option Elab.async false
set_option linter.all false
set_option maxRecDepth 100000
set_option maxHeartbeats 4000000
namespace K31
open PySem PySem.Spec PyProof.Rows L2 Ux
theorem fit {n m : Nat} (h : n ≤ m) (k : m ≤ 100000) : n ≤ sizeLine := by
  rw [sizeLine_eq]
  omega
abbrev sShown : Stmt := top 1
/-- the values that the law hands in -/
inductive Adm (H : Hp) : V → Prop where
  | non : Adm H .non
  | yes : Adm H (.bl true)
  | int {i : Int} (h : i.natAbs < 10 ^ 10) : Adm H (.int i)
  | str {x : Str} (h : (reprText x).length ≤ 1000) : Adm H (.str x)
  | tup {a : Addr} {xs : List V} (h : H a = some (.tup xs)) : Adm H (.ref a)
  | lst {a : Addr} {xs : List V} (h : H a = some (.lst xs)) : Adm H (.ref a)
def spShown : Sp := fun vs H Q _ => ∃ v, vs = [v] ∧ Adm H v ∧ ∀ z : Str, z.length ≤ 1000 → Q (.str z) H
theorem log2_small {i : Int} (h : i.natAbs < 10 ^ 10) : i.natAbs.log2 < 1920 := by
  by_cases z : i.natAbs = 0
  · rw [z]
    decide
  · have q := Nat.log2_self_le z
    have : i.natAbs.log2 < 40 := by
      refine Nat.lt_of_not_le fun c => ?_
      have q2 : 2 ^ 40 ≤ 2 ^ i.natAbs.log2 := Nat.pow_le_pow_right (by decide) c
      have q3 : (10 : Nat) ^ 10 < 2 ^ 40 := by decide
      omega
    omega
theorem text_small {i : Int} (h : i.natAbs < 10 ^ 10) : (toString i : Str).length ≤ 1000 := by
  show (Str.ofString (toString i)).length ≤ 1000
  have q := int_text_length_le10 (k := 10) (by decide) h
  rw [PySem.ofString_length]
  omega
section
variable {P : Program} {w : World} {K : PySem.W.Frag} {mg : Str → Option Value} {base : Heap}
theorem scShown : FnScope ["value"] ["value"] (defScope sShown) := ⟨rfl, rfl, rfl, by decide +kernel, rfl, by decide +kernel, by decide +kernel⟩
theorem ok_shown {f : Addr} {fd : FuncData} (F : Fun K "shown" "shown" sShown f fd) (T : Bn mg) : FnOk P w K mg base CX0 1 f fd ["value"] spShown := by
  refine F.ok scShown (fun vs H Q E h => ?_) (fun cdv A outer s H vs Q E hr h => ?_)
  · obtain ⟨v, rfl, _⟩ := h
    rfl
  · obtain ⟨v, rfl, adm, k⟩ := h
    refine ⟨_, pss_cons (ps_if (pt_val (pe_callB call_isi (by rfl) T.isin (by decide +kernel) (pa_cons (pv 0) (pa_cons (pe_bltn (v := .ty "str") (by rfl) T.tstr (by decide +kernel) rfl) pa_nil))))
        (pss_one (ps_ret (pe_callB call_reprS (by rfl) T.frepr (by decide +kernel) (pa_cons (pv 0) pa_nil)))) pss_nil)
      (pss_cons (ps_if (PW.pt (pw_and (pt_val (pe_callB call_isi (by rfl) T.isin (by decide +kernel) (pa_cons (pv 0) (pa_cons (pe_bltn (v := .ty "int") (by rfl) T.tint (by decide +kernel) rfl) pa_nil))))
          (pw_and1 (pt_cmpR op_lt (pe_callB call_absT (by rfl) T.fabs (by decide +kernel) (pa_cons (pv 0) pa_nil)) (pe_op op_pow pe_int pe_int) (nomark _)))))
        (pss_one (ps_ret (pe_callTy call_strT (by rfl) T.tstr (by decide +kernel) (pa_cons (pv 0) pa_nil)))) pss_nil)
      (pss_one (ps_ret pe_str))), ?_⟩
    cases adm with
    | non =>
      refine ⟨_, rfl, _, _, _, _, false, rfl, .ty "str", .base .non, kit_ty (by decide +kernel), _, rfl, ?_⟩
      refine iteF ?_
      refine ⟨_, rfl, _, _, _, _, false, rfl, .ty "int", .base .non, kit_ty (by decide +kernel), _, rfl, ?_⟩
      refine iteF (iteF ?_)
      exact k _ (by decide)
    | yes =>
      refine ⟨_, rfl, _, _, _, _, false, rfl, .ty "str", .base (.bl _), kit_ty (by decide +kernel), _, rfl, ?_⟩
      refine iteF ?_
      refine ⟨_, rfl, _, _, _, _, true, rfl, .ty "int", .base (.bl _), kit_ty (by decide +kernel), _, rfl, ?_⟩
      refine iteT ⟨_, rfl, .inr ⟨rfl, _, _, rfl, rfl, ⟨by decide, by decide, by decide⟩, _, _, rfl, rfl, _, rfl, ?_⟩⟩
      refine iteT ⟨_, rfl, .inr ⟨rfl, ?_⟩⟩
      exact k _ (by decide)
    | @int i hi =>
      refine ⟨_, rfl, _, _, _, _, false, rfl, .ty "str", .base (.int _), kit_ty (by decide +kernel), _, rfl, ?_⟩
      refine iteF ?_
      refine ⟨_, rfl, _, _, _, _, true, rfl, .ty "int", .base (.int _), kit_ty (by decide +kernel), _, rfl, ?_⟩
      refine iteT ⟨_, rfl, .inl ⟨_, rfl, _, _, rfl, rfl, ⟨by decide, by decide, by decide⟩, _, _, rfl, rfl, _, rfl, ?_⟩⟩
      have lt : (if i < 0 then -i else i) < 10 ^ Int.toNat 30 := by
        have e : ((10 : Int) ^ Int.toNat 30) = 1000000000000000000000000000000 := by decide +kernel
        have h10 : (10 : Nat) ^ 10 = 10000000000 := by decide
        rw [e]
        rw [h10] at hi
        split <;> omega
      rw [decide_eq_true lt]
      refine iteT ⟨_, rfl, .inl ⟨_, rfl, log2_small hi, ?_⟩⟩
      exact k _ (text_small hi)
    | @str x hx =>
      refine ⟨_, rfl, _, _, _, _, true, rfl, .ty "str", .base (.str _), kit_ty (by decide +kernel), _, rfl, ?_⟩
      refine iteT ⟨_, rfl, _, rfl, ?_, ?_⟩
      · rw [sizeLine_eq]
        omega
      · exact k _ hx
    | tup ha =>
      refine ⟨_, rfl, _, _, _, _, false, rfl, .ty "str", .base (.tup ha), kit_ty (by decide +kernel), _, rfl, ?_⟩
      refine iteF ?_
      refine ⟨_, rfl, _, _, _, _, false, rfl, .ty "int", .base (.tup ha), kit_ty (by decide +kernel), _, rfl, ?_⟩
      refine iteF (iteF ?_)
      exact k _ (by decide)
    | lst ha =>
      refine ⟨_, rfl, _, _, _, _, false, rfl, .ty "str", .base (.lst ha), kit_ty (by decide +kernel), _, rfl, ?_⟩
      refine iteF ?_
      refine ⟨_, rfl, _, _, _, _, false, rfl, .ty "int", .base (.lst ha), kit_ty (by decide +kernel), _, rfl, ?_⟩
      refine iteF (iteF ?_)
      exact k _ (by decide)
end
theorem e00 : Str.empty.length ≤ 0 := Nat.le_refl _
theorem app_le {x y : Str} {m n : Nat} (h : x.length ≤ m) (k : y.length ≤ n) : (x ++ y).length ≤ m + n := by
  rw [PySem.Str.length_append]
  omega
/-- a base of error classes, its __init__ read off it -/
structure Bs (K : PySem.W.Frag) (mg : Str → Option Value) (x : Str) (initId : String) (CB : Addr) : Prop where
  gl : mg x = some (.ref CB)
  sg : PySem.W.specialIn K (.ref CB) "__getattribute__" = some (some (.builtin "type.__getattribute__"))
  rd : PySem.W.readsIn K CB (.type "type") = true
  vV : PySem.W.findCls K (.ref CB) (.type "type") "__init__" = some (.val (.builtin initId))
  vh : PySem.W.handedIn (.builtin initId) = true
abbrev sI_InvalidName : Stmt := inClass (top 4) 0
/-- InvalidName.__init__ -/
def spI_InvalidName (K : PySem.W.Frag) : Sp := fun vs H Q _ => ∃ (a C : Addr) (v1 : V), vs = [.ref a, v1] ∧ EcI K "ValueError.__init__" C ∧ (PySem.W.findIn K (.ref C) "code" = some none ∧ PySem.W.findIn K (.ref C) "given" = some none) ∧ H a = some (exo a C none) ∧ Adm H v1 ∧
  ∀ (d : Addr) (H' : Hp), H d = none → d ≠ a → H' a = some (exo a C (some d)) → H' d = some (exd d [("given", v1), ("code", .str "InvalidName")]) → But a H H' → Q .non H'
section
variable {P : Program} {w : World} {K : PySem.W.Frag} {mg : Str → Option Value} {base : Heap}
theorem scI_InvalidName : FnScope ["self", "given"] ["self", "given"] (defScope sI_InvalidName) := ⟨rfl, rfl, rfl, by decide +kernel, rfl, by decide +kernel, by decide +kernel⟩
theorem okI_InvalidName {f CB fS : Addr} {fd fdS : FuncData} (F : Fun K "__init__" "InvalidName.__init__" sI_InvalidName f fd) (W : Bs K mg "SlopeError" "ValueError.__init__" CB) (D : Dn K mg "shown" fS) (G : FnOk P w K mg base CX0 1 fS fdS ["value"] spShown) (bS : Binds K fdS ["value"] []) :
    FnOk P w K mg base CX0 2 f fd ["self", "given"] (spI_InvalidName K) := by
  refine F.ok scI_InvalidName (fun vs H Q E h => ?_) (fun cdv A outer s H vs Q E hr h => ?_)
  · obtain ⟨a, C, v1, rfl, _⟩ := h
    rfl
  · obtain ⟨a, C, v1, rfl, ec, ⟨n0, n1⟩, ea, ad1, k⟩ := h
    refine ⟨_, pss_cons (ps_expr (pe_bi (initId := "ValueError.__init__") (by rfl) W.gl W.sg W.rd W.vV W.vh (pa_cons (pv 0) (pa_cons (pe_joined (PJ.cons (pe_fmt (pe_call G hr (by rfl) D.gl D.kp bS .nil pass0 (pa_cons (pv 1) pa_nil))) (PJ.cons pe_str PJ.nil))) pa_nil)))) (pss_cons (ps_est (pv 0) pe_str) (pss_one (ps_est (pv 0) (pv 1)))), ?_⟩
    have ea2 : EcA K C := ⟨_, ec⟩
    refine ⟨_, rfl, _, rfl, v1, rfl, ad1, fun z1 hz1 => .inl ⟨z1, rfl, fit hz1 (by decide), z1, rfl, fit (app_le e00 hz1) (by decide), _, rfl, fit (app_le (app_le e00 hz1) (show (Str.ofString " is no valid name").length ≤ 200 by decide)) (by decide), a, C, _, rfl, (by show 1 ≤ 1000; decide), ec, ea, ?_⟩⟩
    refine ⟨_, rfl, a, C, rfl, ea2, n0, .inl ⟨ea, fun d hd nd => ?_⟩⟩
    have xa : (upd (upd H d (exd d [("code", V.str "InvalidName")])) a (exo a C (some d))) a = some (exo a C (some d)) := upd_same
    have xd0 : (upd (upd H d (exd d [("code", V.str "InvalidName")])) a (exo a C (some d))) d = some (exd d [("code", V.str "InvalidName")]) := (upd_ne nd).trans upd_same
    have b0 : But a H (upd (upd H d (exd d [("code", V.str "InvalidName")])) a (exo a C (some d))) := fun x o e n => by
      rw [upd_ne n, upd_ne (ne_of_none e hd)]
      exact e
    refine ⟨_, rfl, _, rfl, a, C, rfl, ea2, n1, .inr ⟨d, _, xa, xd0, (by show 1 ≤ 900; decide), ?_⟩⟩
    replace xa : (upd (upd (upd H d (exd d [("code", V.str "InvalidName")])) a (exo a C (some d))) d (exd d (("given", v1) :: [("code", V.str "InvalidName")]))) a = some (exo a C (some d)) := (upd_ne nd.symm).trans xa
    have xd1 : (upd (upd (upd H d (exd d [("code", V.str "InvalidName")])) a (exo a C (some d))) d (exd d (("given", v1) :: [("code", V.str "InvalidName")]))) d = some (exd d (("given", v1) :: [("code", V.str "InvalidName")])) := upd_same
    have b1 : But a H (upd (upd (upd H d (exd d [("code", V.str "InvalidName")])) a (exo a C (some d))) d (exd d (("given", v1) :: [("code", V.str "InvalidName")]))) := fun x o e n => by
      rw [upd_ne (ne_of_none e hd)]
      exact b0 x o e n
    exact k d _ hd nd xa xd1 b1
end

theorem Adm.same {H H' : Hp} {v : V} (h : Adm H v) (s : Same H H') : Adm H' v := by
  cases h with
  | non => exact .non
  | yes => exact .yes
  | int h => exact .int h
  | str h => exact .str h
  | tup h => exact .tup (s _ _ h)
  | lst h => exact .lst (s _ _ h)
/-- the class InvalidName, raised -/
structure IN (K : PySem.W.Frag) (mg : Str → Option Value) (C fI : Addr) : Prop where
  gl : mg "InvalidName" = some (.ref C)
  ox : OexC K C
  ec : EcI K "ValueError.__init__" C
  n0 : PySem.W.findIn K (.ref C) "code" = some none
  n1 : PySem.W.findIn K (.ref C) "given" = some none
  ini : PySem.W.findIn K (.ref C) "__init__" = some (some (.ref fI))
  ty : PySem.W.typeIn K (.ref fI) = some (.type "function")
/-- how it flies -/
def inFs (v : V) : List (Str × V) := [("given", v), ("code", .str "InvalidName")]
theorem del_put {H H2 : Hp} {a d : Addr} {o o' : HO} (na : H a = none) (hd : H d = none) (bu : But a (upd H a o) H2) : Same H (upd (del H2 a) d o') := fun x u e => by
  have xa := ne_of_none e na
  rw [upd_ne (ne_of_none e hd), del_ne xa]
  exact bu x u ((upd_ne xa).trans e) xa
theorem in_made {K : PySem.W.Frag} {mg : Str → Option Value} {C fI : Addr} (T : IN K mg C fI) {σ : L2.St} {H : Hp} {Q : XK} {i : Nat} {v : V} (hi : σ[i]? = some (some v)) (hv : Adm H v) (h : ∀ d H', Same H H' → H' d = some (.xd (inFs v)) → Q (.ref C) (some d) H') :
    tMkO C (spI_InvalidName K) [] (tCons (tVar i) tNil) σ H Q := by
  refine ⟨v, hi, (by show 1 ≤ 1000; decide), fun a na => ⟨a, C, v, rfl, T.ec, ⟨T.n0, T.n1⟩, upd_same, hv.same (same_upd' na), fun d H2 hd nd ha hdd bu => ⟨rfl, d, _, ha, hdd, ?_, ?_⟩⟩⟩
  · rw [upd_ne nd] at hd
    exact hd
  · rw [upd_ne nd] at hd
    exact h d _ (del_put na hd bu) upd_same
end K31

set_option Elab.async false
set_option linter.all false
set_option maxRecDepth 100000
set_option maxHeartbeats 4000000
namespace Ux
open PySem PySem.Spec PyProof.Rows L2
/-! ### {o} in an f-string by o's own __str__; the inner walk of a comprehension with two for -/
structure FmO (K : PySem.W.Frag) (C : Addr) : Prop where
  fm : PySem.W.findIn K (.ref C) "__format__" = some (some (.builtin "object.__format__"))
  ob : PySem.W.mroIn K C (.type "object") = some true
def tFmtO (C : Addr) (sp : Sp) (te : TE) : TE := fun σ H Q => te σ H fun x H1 => ∃ (a dx : Addr) (fs : List (Str × V)), x = .ref a ∧ H1 a = some (.ins C dx fs) ∧ sp [.ref a] H1 (fun v H' => ∃ z, v = .str z ∧ Q (.str z) H') (fun _ _ _ => False)
section
variable {X : Cx} {k : Nat} {f C : Addr} {fd : FuncData} {sp : Sp} {e : Expr} {te : TE} {pos : Pos}
theorem pe_fmtO (M : OwnM X.K C "__str__" f) (N : FmO X.K C) (F : FnOk X.prog X.w X.K X.mg X.base CX0 k f fd ["self"] sp) (hb : Binds X.K fd ["self"] []) (hr : Room (k + 1) X.A) (he : PE X e te) : PE X (.FormattedValue e (-1) none pos) (tFmtO C sp te) := by
  refine ⟨fun pins s σ H Q I h => ?_⟩
  refine wpAny_FormattedValue_plain (thn (he.run pins s σ H _ I h) fun v s1 hv => ?_)
  obtain ⟨x, H1, I1, r1, a, dx, fs, rfl, ea, q⟩ := hv
  cases (show v = Value.ref a from r1)
  obtain ⟨mA, O, _⟩ := ins_get I1.hok ea
  obtain ⟨od, J, _⟩ := O.look
  refine PySem.W.kfo_fieldS hr.in1.units0 I1.kIn J N.fm N.ob M.at_ M.fn (own_run F hr.in1 (I1.tok _).env0.in1 hb (vs := [.ref a]) (I1.tok _) (.cons rfl .nil) q fun u s' hq => ?_)
  obtain ⟨v, H', I', rv, z, ev, q'⟩ := hq
  subst ev
  obtain ⟨t, rfl⟩ := rv
  exact ⟨.str z, H', I', ⟨t, rfl⟩, q'⟩
end
theorem lc_in {K : PySem.W.Frag} {a : Addr} {xs : List V} {H4 : Hp} {Nx : Hp → Prop} {T : V → Hp → (Hp → Prop) → Prop} (Pv : Nat → Hp → Prop) (h0 : Pv 0 H4) (hl : ∀ i H, i ≤ xs.length → Pv i H → SqT K H a xs)
    (hs : ∀ i x H, xs[i]? = some x → Pv i H → T x H (Pv (i + 1))) (hd : ∀ H, Pv xs.length H → Nx H) :
    ∃ W : Nat → Nat → Hp → Prop, (∃ m, W 0 m H4) ∧ ∀ i m H, W i m H →
      ((Itt K a).stop i H ∧ Nx H) ∨ ((Itt K a).go i H ∧ ∃ N1 : Hp → Prop, (∀ H', N1 H' → ∃ m', m' < m ∧ W (i + 1) m' H') ∧ ∀ x H', (Itt K a).yld i H x H' → T x H' N1) := by
  refine ⟨fun i m H => m = xs.length - i ∧ i ≤ xs.length ∧ Pv i H, ⟨xs.length, by simp, Nat.zero_le _, h0⟩, ?_⟩
  rintro i m H ⟨rfl, hi, p⟩
  have q := hl i H hi p
  by_cases hlt : i < xs.length
  · refine .inr ⟨⟨xs, xs[i], q, by simp [hlt]⟩, Pv (i + 1), fun H' p' => ⟨xs.length - (i + 1), by omega, rfl, hlt, p'⟩, fun x H' y => ?_⟩
    obtain ⟨e, y⟩ := y
    subst e
    exact hs i x _ (y xs q) p
  · have e : i = xs.length := by omega
    subst e
    exact .inl ⟨⟨xs, q, Nat.le_refl _⟩, hd H p⟩
end Ux

set_option Elab.async false
set_option linter.all false
set_option maxRecDepth 100000
set_option maxHeartbeats 4000000
set_option pp.maxSteps 400
namespace K31
open PySem PySem.Spec PyProof.Rows L2 Ux
abbrev sWord : Stmt := top 7
abbrev sInit : Stmt := inClass (top 8) 0
abbrev sEvery : Stmt := inClass (top 8) 1
abbrev sEq : Stmt := inClass (top 8) 2
abbrev sStr : Stmt := inClass (top 8) 3
abbrev sRepr : Stmt := inClass (top 8) 4
theorem same_upd {H : Hp} {a : Addr} {o : HO} (ha : H a = none) : Same H (upd H a o) := same_upd' ha
theorem made_same {H H' : Hp} {x dx : Addr} {o1 o2 : HO} (nx : H x = none) (nd : H dx = none) (bu : But x (upd (upd H dx o1) x o2) H') : Same H H' := fun c o e => by
  have n1 := ne_of_none e nx
  refine bu c o ?_ n1
  rw [upd_ne n1, upd_ne (ne_of_none e nd)]
  exact e
theorem neq (a b : Str) (h : decide (a = b) = false := by decide +kernel) : ¬ a = b := of_decide_eq_false h
/-- the class Rule -/
structure RT (K : PySem.W.Frag) (mg : Str → Option Value) (CR : Addr) : Prop where
  cl : Cls K CR
  n1 : NoAttr K CR "naming"
  n2 : NoAttr K CR "renewed"
  gl : mg "Rule" = some (.ref CR)
  ha : PySem.W.findIn K (.ref CR) "__class__" = some (some (.builtin "object.__class__"))
  hn : PySem.W.specialIn K (.builtin "object.__class__") "__get__" = some (some (.builtin "getset_descriptor.__get__"))
  ht : PySem.W.takesIn K (.builtin "object.__class__") = some true
  hm : PySem.W.mroIn K CR (.type "object") = some true
  kR : PySem.W.kitOne K (.ref CR) (.ref CR) = some true
  kS : PySem.W.kitOne K (.type "str") (.ref CR) = some false
  f1 : PySem.W.notFirst K CR (.ref CR) = true
  f2 : PySem.W.notFirst K CR (.type "str") = true
def namings : List Str := ["one", "site", "depth", "new"]
structure GN (K : PySem.W.Frag) (mg : Str → Option Value) (pN : Addr) : Prop where
  gN : mg "NAMINGS" = some (.ref pN)
  kN : ∀ H, SqT K H pN (namings.map V.str)
/-- the fields of a Rule -/
def ruf (z : Str) (r : Bool) : List (Str × V) := putF "renewed" (.bl r) (putF "naming" (.str z) [])
theorem gNa (z : Str) (r : Bool) : (ruf z r).lookup ("naming" : Str) = some (.str z) := by
  unfold ruf
  rw [lookup_putF, if_neg (neq _ _), lookup_putF, if_pos rfl]
theorem gRe (z : Str) (r : Bool) : (ruf z r).lookup ("renewed" : Str) = some (.bl r) := by
  unfold ruf
  rw [lookup_putF, if_pos rfl]
def RulAt (CR : Addr) (H : Hp) (a : Addr) (z : Str) (r : Bool) : Prop := ∃ dx, H a = some (.ins CR dx (ruf z r))
theorem RulAt.same {CR : Addr} {H H' : Hp} {a : Addr} {z : Str} {r : Bool} (h : RulAt CR H a z r) (s : Same H H') : RulAt CR H' a z r := by
  obtain ⟨dx, h⟩ := h
  exact ⟨dx, s _ _ h⟩
theorem RulAt.ty {K : PySem.W.Frag} {mg : Str → Option Value} {CR : Addr} {H : Hp} {a : Addr} {z : Str} {r : Bool} (T : RT K mg CR) (h : RulAt CR H a z r) : TyX K H (.ref a) (.ref CR) := by
  obtain ⟨dx, h⟩ := h
  exact .base (.ins h T.cl T.ha T.hn T.ht T.hm)
/-- no naming -/
def BadN (K : PySem.W.Frag) (H : Hp) (v : V) : Prop := (∃ z, v = .str z ∧ inV (.str z) (namings.map V.str) = false) ∨ ∃ t, TyX K H v t ∧ PySem.W.kitOne K t (.type "str") = some false
def spInit (K : PySem.W.Frag) (CR CI : Addr) : Sp := fun vs H Q E => ∃ (p dx : Addr), H p = some (.ins CR dx []) ∧
  ((∃ (z : Str) (r : Bool), vs = [.ref p, .str z, .bl r] ∧ inV (.str z) (namings.map V.str) = true ∧ ∀ H', H' p = some (.ins CR dx (ruf z r)) → But p H H' → Q .non H') ∨
   ∃ (v : V) (r : Bool), vs = [.ref p, v, .bl r] ∧ Adm H v ∧ BadN K H v ∧ ∀ d H', Same H H' → H' d = some (.xd (inFs v)) → E (.ref CI) (some d) H')
def wordB (r : Bool) : Str := if r = true then "renewed" else "kept"
def spWord : Sp := fun vs H Q _ => ∃ r : Bool, vs = [.bl r] ∧ Q (.str (wordB r)) H
def spEq (CR : Addr) : Sp := fun vs H Q _ => (∃ (a b : Addr) (z y : Str) (r q : Bool), vs = [.ref a, .ref b] ∧ RulAt CR H a z r ∧ RulAt CR H b y q ∧ Q (.bl (decide (z = y) && decide (r = q))) H) ∨ ∃ (a : Addr) (z y : Str) (r : Bool), vs = [.ref a, .str y] ∧ RulAt CR H a z r ∧ Q (.bl false) H
def rText (z : Str) (r : Bool) : Str := z ++ " " ++ wordB r
def spStr (CR : Addr) : Sp := fun vs H Q _ => ∃ (a : Addr) (z : Str) (r : Bool), vs = [.ref a] ∧ RulAt CR H a z r ∧ z.length ≤ 100 ∧ Q (.str (rText z r)) H
def spRepr (CR : Addr) : Sp := fun vs H Q _ => ∃ (a : Addr) (z : Str) (r : Bool), vs = [.ref a] ∧ RulAt CR H a z r ∧ z.length ≤ 100 ∧ Q (.str ("Rule(" ++ rText z r ++ ")")) H
theorem wordB_len (r : Bool) : (wordB r).length ≤ 10 := by cases r <;> decide
theorem empty_app (x : Str) : Str.empty ++ x = x := by
  show Str.mk (#[] ++ x.cps) = x
  rw [Array.empty_append]
theorem app_len {x y : Str} {m n : Nat} (h : x.length ≤ m) (k : y.length ≤ n) : (x ++ y).length ≤ m + n := app_le h k
section
variable {P : Program} {w : World} {K : PySem.W.Frag} {mg : Str → Option Value} {base : Heap} {CR CI fI pN : Addr}
theorem scInit : FnScope ["self", "naming", "renewed"] ["self", "naming", "renewed"] (defScope sInit) := ⟨rfl, rfl, rfl, by decide +kernel, rfl, by decide +kernel, by decide +kernel⟩
theorem ok_init {f : Addr} {fd fdI : FuncData} {dvs : List V} {kws : List (Str × V)} (F : FunD K "__init__" "Rule.__init__" (defArgs sInit) (defBody sInit) (defScope sInit) dvs kws f fd) (B : Bn mg) (T : RT K mg CR) (N : GN K mg pN) (I : IN K mg CI fI) (GI : FnOk P w K mg base CX0 2 fI fdI ["self", "given"] (spI_InvalidName K)) (bI : Binds K fdI ["self", "given"] []) :
    FnOk P w K mg base (L2.CX P w) 4 f fd ["self", "naming", "renewed"] (spInit K CR CI) := by
  refine F.ok scInit (fun vs H Q E h => ?_) (fun cdv A outer s H vs Q E hr h => ?_)
  · obtain ⟨p, dx, hp, ⟨z, r, rfl, _⟩ | ⟨v, r, rfl, _⟩⟩ := h <;> rfl
  · refine ⟨_, pss_cons (ps_if (PW.pt (pw_or (pt_not (pt_val (pe_callB call_isi (by rfl) B.isin (by decide +kernel) (pa_cons (pv 1) (pa_cons (pe_bltn (v := .ty "str") (by rfl) B.tstr (by decide +kernel) rfl) pa_nil)))))
          (pw_or1 (pt_cmpR op_notIn_seq (pv 1) (pe_glob (v := .ref pN) (by rfl) N.gN rfl) (by rfl)))))
          (pss_one (ps_raise rfl (takes_of rfl rfl rfl rfl) (pmk_oex I.ox I.ini I.ty GI hr bI .nil pass0 (by rfl) I.gl (pa_cons (pv 1) pa_nil)))) pss_nil)
      (pss_cons (ps_fld (pv 0) (pv 1) rfl) (pss_one (ps_fld (pv 0) (pv 2) rfl))), ?_⟩
    obtain ⟨p, dx, hp, ⟨z, r, rfl, hz, q⟩ | ⟨v, r, rfl, ad, bad, q⟩⟩ := h
    · refine ⟨_, rfl, _, _, _, _, true, rfl, .ty "str", .base (.str _), kit_ty (by decide +kernel), _, rfl, iteF ?_⟩
      refine ⟨_, rfl, pN, _, rfl, .inr (N.kN _), rfl, rfl, _, rfl, ?_⟩
      show if (if true = true then !inV (.str z) (namings.map V.str) else inV (.str z) (namings.map V.str)) = true then _ else _
      rw [if_pos rfl, hz]
      refine iteF ⟨_, rfl, _, rfl, p, CR, dx, [], rfl, hp, T.cl, T.n1, (by show 0 < 1000; decide), ?_⟩
      refine ⟨_, rfl, _, rfl, p, CR, dx, _, rfl, upd_same, T.cl, T.n2, (by show 1 < 1000; decide), ?_⟩
      exact q _ upd_same (But.refl.upd.upd)
    · rcases bad with ⟨z, rfl, hz⟩ | ⟨t, ty, kt⟩
      · refine ⟨_, rfl, _, _, _, _, true, rfl, .ty "str", .base (.str _), kit_ty (by decide +kernel), _, rfl, iteF ?_⟩
        refine ⟨_, rfl, pN, _, rfl, .inr (N.kN _), rfl, rfl, _, rfl, ?_⟩
        show if (if true = true then !inV (.str z) (namings.map V.str) else inV (.str z) (namings.map V.str)) = true then _ else _
        rw [if_pos rfl, hz]
        exact iteT (in_made I rfl ad q)
      · refine ⟨_, rfl, _, _, _, _, false, rfl, .ty "str", ty, kt, _, rfl, iteT ?_⟩
        exact in_made I rfl ad q
theorem scWord : FnScope ["renewed"] ["renewed"] (defScope sWord) := ⟨rfl, rfl, rfl, by decide +kernel, rfl, by decide +kernel, by decide +kernel⟩
theorem ok_word {f : Addr} {fd : FuncData} (F : Fun K "word_of" "word_of" sWord f fd) : FnOk P w K mg base CX0 1 f fd ["renewed"] spWord := by
  refine F.ok scWord (fun vs H Q E h => ?_) (fun cdv A outer s H vs Q E hr h => ?_)
  · obtain ⟨r, rfl, _⟩ := h
    rfl
  · obtain ⟨r, rfl, q⟩ := h
    refine ⟨_, pss_one (ps_ret (pe_ifExp (pt_val (pv 0)) pe_str pe_str)), ?_⟩
    refine ⟨_, rfl, r, rfl, ?_⟩
    cases r with
    | true => exact iteT q
    | false => exact iteF q
theorem scEq : FnScope ["self", "other"] ["self", "other"] (defScope sEq) := ⟨rfl, rfl, rfl, by decide +kernel, rfl, by decide +kernel, by decide +kernel⟩
theorem dec_str (z y : Str) : decide (V.str z = V.str y) = decide (z = y) := by
  by_cases e : z = y
  · rw [decide_eq_true e, decide_eq_true (by rw [e])]
  · rw [decide_eq_false e, decide_eq_false (fun h => e (V.str.inj h))]
theorem dec_bl (z y : Bool) : decide (V.bl z = V.bl y) = decide (z = y) := by
  by_cases e : z = y
  · rw [decide_eq_true e, decide_eq_true (by rw [e])]
  · rw [decide_eq_false e, decide_eq_false (fun h => e (V.bl.inj h))]
theorem ok_eq {f : Addr} {fd : FuncData} (F : Fun K "__eq__" "Rule.__eq__" sEq f fd) (B : Bn mg) (T : RT K mg CR) : FnOk P w K mg base CX0 1 f fd ["self", "other"] (spEq CR) := by
  refine F.ok scEq (fun vs H Q E h => ?_) (fun cdv A outer s H vs Q E hr h => ?_)
  · rcases h with ⟨a, b, z, y, r, q, rfl, _⟩ | ⟨a, z, y, r, rfl, _⟩ <;> rfl
  · refine ⟨_, pss_one (ps_ret (pe_and (pe_callB call_isi (by rfl) B.isin (by decide +kernel) (pa_cons (pv 1) (pa_cons (pe_glob (v := .ref CR) (by rfl) T.gl rfl) pa_nil)))
      (pe_and (pe_cmpR op_eq (pe_fld (pv 0) rfl) (pe_fld (pv 1) rfl) (nomark _)) (pe_one (pe_cmpR op_eq (pe_fld (pv 0) rfl) (pe_fld (pv 1) rfl) (nomark _)))))), ?_⟩
    rcases h with ⟨a, b, z, y, r, q, rfl, ua, ub, k⟩ | ⟨a, z, y, r, rfl, ua, k⟩
    · refine ⟨_, rfl, _, _, _, _, true, rfl, .own _, ub.ty T, T.kR, true, rfl, iteT ?_⟩
      obtain ⟨dx, ha⟩ := ua
      obtain ⟨dx2, hb⟩ := ub
      refine ⟨_, rfl, a, CR, dx, _, _, rfl, ha, T.cl, T.n1, gNa z r, _, rfl, b, CR, dx2, _, _, rfl, hb, T.cl, T.n1, gNa y q, rfl, _, rfl, ?_⟩
      show if decide (V.str z = V.str y) = true then _ else _
      rw [dec_str]
      cases h1 : decide (z = y) with
      | false =>
        rw [h1, Bool.false_and] at k
        exact iteF k
      | true =>
        rw [h1, Bool.true_and] at k
        refine iteT ⟨_, rfl, a, CR, dx, _, _, rfl, ha, T.cl, T.n2, gRe z r, _, rfl, b, CR, dx2, _, _, rfl, hb, T.cl, T.n2, gRe y q, rfl, ?_⟩
        rw [dec_bl]
        exact k
    · exact ⟨_, rfl, _, _, _, _, false, rfl, .own _, .base (.str _), T.kS, false, rfl, iteF k⟩
end
end K31

set_option Elab.async false
set_option linter.all false
set_option maxRecDepth 100000
set_option maxHeartbeats 4000000
set_option pp.maxSteps 400
namespace K31
open PySem PySem.Spec PyProof.Rows L2 Ux
/-- the n-th rule of all -/
def rN (j : Nat) : Str := namings.getD (j / 2) ""
def rB (j : Nat) : Bool := decide (j % 2 = 1)
def Evs (CR : Addr) (H : Hp) (rs : List Addr) (n : Nat) : Prop := rs.length = n ∧ ∀ (j : Nat) (a : Addr), rs[j]? = some a → RulAt CR H a (rN j) (rB j)
theorem Evs.same {CR : Addr} {H H' : Hp} {rs : List Addr} {n : Nat} (h : Evs CR H rs n) (s : Same H H') : Evs CR H' rs n := ⟨h.1, fun j a e => (h.2 j a e).same s⟩
theorem RulAt.updL {CR : Addr} {H : Hp} {a D : Addr} {z : Str} {r : Bool} {xs ys : List V} (h : RulAt CR H a z r) (hD : H D = some (.lst xs)) : RulAt CR (upd H D (.lst ys)) a z r := by
  obtain ⟨dx, h⟩ := h
  refine ⟨dx, (upd_ne fun e => ?_).trans h⟩
  rw [e, hD] at h
  cases h
theorem Evs.updL {CR : Addr} {H : Hp} {D : Addr} {rs : List Addr} {n : Nat} {xs ys : List V} (h : Evs CR H rs n) (hD : H D = some (.lst xs)) : Evs CR (upd H D (.lst ys)) rs n := ⟨h.1, fun j a e => (h.2 j a e).updL hD⟩
theorem Evs.snoc {CR : Addr} {H : Hp} {rs : List Addr} {n : Nat} {x : Addr} (h : Evs CR H rs n) (hx : RulAt CR H x (rN n) (rB n)) : Evs CR H (rs ++ [x]) (n + 1) := by
  refine ⟨by rw [List.length_append, h.1]; rfl, fun j a e => ?_⟩
  by_cases q : j < rs.length
  · rw [List.getElem?_append_left q] at e
    exact h.2 j a e
  · rw [List.getElem?_append_right (by omega)] at e
    have z : j - rs.length = 0 := by
      by_cases z : j - rs.length = 0
      · exact z
      · rw [List.getElem?_eq_none (by show 1 ≤ _; omega)] at e
        cases e
    rw [z] at e
    have ej : j = n := by have := h.1; omega
    obtain rfl := Option.some.inj e
    rw [ej]
    exact hx
def spEvery (CR : Addr) : Sp := fun vs H Q _ => vs = [] ∧ ∀ (L : Addr) (H' : Hp) (rs : List Addr), H' L = some (.lst (rs.map V.ref)) → Evs CR H' rs 8 → Same H H' → H L = none → Q (.ref L) H'
theorem same_list {H H1 : Hp} {D : Addr} {o : HO} (s : Same H H1) (hD : H D = none) : Same H (upd H1 D o) := fun x u e => by
  rw [upd_ne (ne_of_none e hD)]
  exact s x u e
section
variable {P : Program} {w : World} {K : PySem.W.Frag} {mg : Str → Option Value} {base : Heap} {CR CI fI pN fi : Addr}
theorem scStr : FnScope ["self"] ["self"] (defScope sStr) := ⟨rfl, rfl, rfl, by decide +kernel, rfl, by decide +kernel, by decide +kernel⟩
theorem ok_str {f fW : Addr} {fd fdW : FuncData} (F : Fun K "__str__" "Rule.__str__" sStr f fd) (T : RT K mg CR) (D : Dn K mg "word_of" fW) (G : FnOk P w K mg base CX0 1 fW fdW ["renewed"] spWord) (bW : Binds K fdW ["renewed"] []) : FnOk P w K mg base CX0 2 f fd ["self"] (spStr CR) := by
  refine F.ok scStr (fun vs H Q E h => ?_) (fun cdv A outer s H vs Q E hr h => ?_)
  · obtain ⟨a, z, r, rfl, _⟩ := h
    rfl
  · obtain ⟨a, z, r, rfl, ⟨dx, ha⟩, lz, q⟩ := h
    refine ⟨_, pss_one (ps_ret (pe_joined (PJ.cons (pe_fmt (pe_fld (pv 0) rfl)) (PJ.cons pe_str (PJ.cons (pe_fmt (pe_call G hr (by rfl) D.gl D.kp bW .nil pass0 (pa_cons (pe_fld (pv 0) rfl) pa_nil))) PJ.nil))))), ?_⟩
    have l1 : (Str.ofString " ").length ≤ 5 := by decide
    refine ⟨_, rfl, a, CR, dx, _, _, rfl, ha, T.cl, T.n1, gNa z r, .inl ⟨z, rfl, fit lz (by decide), _, rfl, fit (app_le e00 lz) (by decide), _, rfl, fit (app_le (app_le e00 lz) l1) (by decide), ?_⟩⟩
    refine ⟨_, rfl, a, CR, dx, _, _, rfl, ha, T.cl, T.n2, gRe z r, r, rfl, .inl ⟨_, rfl, fit (wordB_len r) (by decide), _, rfl, fit (app_le (app_le (app_le e00 lz) l1) (wordB_len r)) (by decide), ?_⟩⟩
    rw [empty_app]
    exact q
theorem rText_len {z : Str} {r : Bool} (h : z.length ≤ 100) : (rText z r).length ≤ 200 := Nat.le_trans (app_le (app_le h (show (" " : Str).length ≤ 5 by decide)) (wordB_len r)) (by decide)
theorem scRepr : FnScope ["self"] ["self"] (defScope sRepr) := ⟨rfl, rfl, rfl, by decide +kernel, rfl, by decide +kernel, by decide +kernel⟩
theorem ok_repr {f fS : Addr} {fd fdS : FuncData} (F : Fun K "__repr__" "Rule.__repr__" sRepr f fd) (M : OwnM K CR "__str__" fS) (N : FmO K CR) (G : FnOk P w K mg base CX0 2 fS fdS ["self"] (spStr CR)) (bS : Binds K fdS ["self"] []) : FnOk P w K mg base CX0 4 f fd ["self"] (spRepr CR) := by
  refine F.ok scRepr (fun vs H Q E h => ?_) (fun cdv A outer s H vs Q E hr h => ?_)
  · obtain ⟨a, z, r, rfl, _⟩ := h
    rfl
  · obtain ⟨a, z, r, rfl, ra, lz, q⟩ := h
    obtain ⟨dx, ha⟩ := id ra
    refine ⟨_, pss_one (ps_ret (pe_joined (PJ.cons pe_str (PJ.cons (pe_fmtO (X := Cx.nox _) M N G bS hr (pv 0)) (PJ.cons pe_str PJ.nil))))), ?_⟩
    have lt := rText_len (r := r) lz
    have l1 : (Str.ofString "Rule(").length ≤ 5 := by decide
    have l2 : (Str.ofString ")").length ≤ 5 := by decide
    refine ⟨_, rfl, fit (app_le e00 l1) (by decide), _, rfl, a, dx, _, rfl, ha, a, z, r, rfl, ra, lz, _, rfl, _, rfl, fit (app_le (app_le e00 l1) lt) (by decide), _, rfl, fit (app_le (app_le (app_le e00 l1) lt) l2) (by decide), ?_⟩
    rw [empty_app]
    exact q
theorem scEvery : FnScope ["naming", "renewed"] [] (defScope sEvery) := ⟨rfl, rfl, rfl, by decide +kernel, rfl, by decide +kernel, by decide +kernel⟩
theorem ok_every {f : Addr} {fd fdi : FuncData} {g : List Value → List Value → List Value} (F : Fun K "every" "Rule.every" sEvery f fd) (T : RT K mg CR) (N : GN K mg pN) (M : Mk K CR fi) (GI : FnOk P w K mg base (L2.CX P w) 4 fi fdi ["self", "naming", "renewed"] (spInit K CR CI)) (kI : KBn K fdi ["self", "naming", "renewed"] 2 ["renewed"] g (fun vs zs => vs ++ zs)) :
    FnOk P w K mg base CX0 6 f fd [] (spEvery CR) := by
  refine F.ok scEvery (fun vs H Q E h => ?_) (fun cdv A outer s H vs Q E hr h => ?_)
  · obtain ⟨rfl, _⟩ := h
    rfl
  · obtain ⟨rfl, q⟩ := h
    refine ⟨_, pss_one (ps_ret (pe_lc2 (own := [("naming", 0), ("renewed", 1)]) (vs1 := [1]) (g := gName 0) (g1 := gName 1) (wi1 := iTup K (tTup (tCons (tC (.bl false)) (tCons (tC (.bl true)) tNil)))) rfl scEvery.nd (pi_tup (pe_glob (v := .ref pN) (by rfl) N.gN rfl))
      (blkOk_by (own := [("naming", 0), ("renewed", 1)]) (N := ["naming", "renewed"]) (sc := defScope sEvery) (by decide +kernel)) (by decide)
      (fun _ _ _ _ _ => pg_name (i := 0) scEvery.nd rfl (Or.inl rfl) (hf := Or.inr rfl)) (fun _ _ _ _ _ => pts_nil)
      (fun _ _ _ _ _ => pi_tup (pe_tup (pa_cons pe_bl (pa_cons pe_bl pa_nil))))
      (fun _ _ _ _ _ => pg_name (i := 1) scEvery.nd rfl (Or.inl rfl) (hf := Or.inr rfl)) (fun _ _ _ _ _ => pts_nil)
      (fun _ _ _ _ _ => pe_makeK (E := E0) M GI hr (by rfl) T.gl kI passL (pa_cons (pv 0) pa_nil) (pk_cons (pv 1) pk_nil)))), ?_⟩
    refine ⟨pN, rfl, ⟨_, N.kN _⟩, fun D hD => lc_in (xs := namings.map V.str) (fun i H' => ∃ rs : List Addr, H' D = some (.lst (rs.map V.ref)) ∧ Evs CR H' rs (2 * i) ∧ Same H H') ⟨[], upd_same, ⟨rfl, fun j a e => by cases e⟩, same_upd hD⟩ (fun i H' _ _ => N.kN _) ?_ ?_⟩
    · rintro i x H0 hx ⟨rs, hr0, ev, s0⟩
      have hi : i < 4 := by
        have := List.getElem?_eq_some_iff.mp hx
        exact this.1
      refine ⟨rfl, ?_⟩
      refine ⟨(by show 2 ≤ sizeLine; decide), fun t ht => ⟨t, rfl, ⟨_, .of upd_same⟩, ?_⟩⟩
      have nt : t ≠ D := (ne_of_none hr0 ht).symm
      refine lc_in (xs := [V.bl false, .bl true]) (fun j H' => H' t = some (.tup [V.bl false, .bl true]) ∧ ∃ rs : List Addr, H' D = some (.lst (rs.map V.ref)) ∧ Evs CR H' rs (2 * i + j) ∧ Same H H') ⟨upd_same, rs, (upd_ne nt.symm).trans hr0, ev.same (same_upd ht), s0.trans (same_upd ht)⟩ (fun j H' _ z => .of z.1) ?_ ?_
      · rintro j y H1 hy ⟨t1, rs1, d1, ev1, s1⟩
        have hj : j < 2 := (List.getElem?_eq_some_iff.mp hy).1
        have ey : y = .bl (rB (2 * i + j)) := by
          have e : (2 * i + j) % 2 = j := by omega
          unfold rB
          rw [e]
          match j, hj, hy with
          | 0, _, hy => exact (Option.some.inj hy).symm
          | 1, _, hy => exact (Option.some.inj hy).symm
        have ex : x = .str (rN (2 * i + j)) ∧ inV (.str (rN (2 * i + j))) (namings.map V.str) = true := by
          have e : (2 * i + j) / 2 = i := by omega
          unfold rN
          rw [e]
          match i, hi, hx with
          | 0, _, hx => exact ⟨(Option.some.inj hx).symm, by decide +kernel⟩
          | 1, _, hx => exact ⟨(Option.some.inj hx).symm, by decide +kernel⟩
          | 2, _, hx => exact ⟨(Option.some.inj hx).symm, by decide +kernel⟩
          | 3, _, hx => exact ⟨(Option.some.inj hx).symm, by decide +kernel⟩
        obtain ⟨rfl, mem⟩ := ex
        subst ey
        refine ⟨rfl, ?_⟩
        refine ⟨_, rfl, _, rfl, rfl, rfl, fun x dx nx nd ne => ⟨x, dx, upd_same, .inl ⟨_, _, rfl, mem, fun H' hx bu => ⟨rfl, ?_⟩⟩⟩⟩
        have s2 := made_same nx nd bu
        have rx : RulAt CR H' x _ _ := ⟨dx, hx⟩
        refine ⟨_, s2 _ _ d1, ?_, ?_, rs1 ++ [x], ?_, ?_, ?_⟩
        · rw [List.length_map, ev1.1, sizeLine_eq]
          omega
        · rw [upd_ne]
          · exact s2 _ _ t1
          · intro e
            rw [e, d1] at t1
            cases t1
        · rw [upd_same, List.map_append]
          rfl
        · exact (((ev1.same s2).snoc rx).updL (s2 _ _ d1))
        · exact same_list (s1.trans s2) hD
      · rintro H1 ⟨_, rs1, d1, ev1, s1⟩
        refine ⟨rs1, d1, ?_, s1⟩
        have e : 2 * (i + 1) = 2 * i + 2 := by omega
        rw [e]
        exact ev1
    · rintro H1 ⟨rs, d1, ev, s1⟩
      exact q D H1 rs d1 ev s1 hD
end
end K31

set_option Elab.async false
set_option linter.all false
set_option maxRecDepth 100000
set_option maxHeartbeats 4000000
namespace Ux
open PySem PySem.Spec PyProof.Rows L2
section
variable {X : Cx} {CX : CXT} {k : Nat} {C p g : Addr} {x m : Str} {mc : Value} {fd : FuncData} {ps : List Str} {sp : Sp} {dvs : List V} {ds : List Value} {E : XK} {p1 p2 pos : Pos} {pl : Sem Bool}
/-- C.m(), m a staticmethod of an own class -/
theorem pe_smeth0 (hg : Gl X x) (hm : X.mg x = some (.ref C)) (S : StM X.K C m mc p g) (F : FnOk X.prog X.w X.K X.mg X.base CX k g fd ps sp) (hr : Room k X.A) (hb : Binds X.K fd ps ds) (hd : Vals dvs ds) (hx : Passes CX X E)
    (hdb : (x == ("__debug__" : Str)) = false := by decide)
    (hc : eval (.Call (.Attribute (.Name x p1) m p2) [] [] pos) X.env = (do
      let ov ← eval (.Name x p1) X.env
      standAt p2.atName
      let (f, first) ← holding [ov] (getMethod ov m pl)
      callWith pos f first (backTo pos (starEach [] X.env)) (backToKw pos (keywordEach [] X.env))) := by rfl) :
    PE X (.Call (.Attribute (.Name x p1) m p2) [] [] pos) (tCall sp dvs E tNil) := by
  constructor
  intro pins s σ H Q I h
  obtain ⟨rest, rc⟩ := S.rc
  refine PySem.W.methodCall_KW (ld_glob I hg hm ?_ hdb) hc
  refine PySem.W.method_cls I.kIn S.sg (PySem.W.cls_bind I.kIn S.rd S.fc (wpAny_call (PySem.W.sm_get (s := { s with toks := s.toks + 1 }) I.kIn rc (PySem.W.handed_on rfl ?_))))
  exact PySem.W.callWith_K0 (I.tok _).kIn S.kp (run_fn (us := []) F hr hb hd hx (I.tok _) .nil h)
end
end Ux

set_option Elab.async false
set_option linter.all false
set_option maxRecDepth 100000
set_option maxHeartbeats 8000000
set_option pp.maxSteps 400
namespace K31
open PySem PySem.Spec PyProof.Rows L2 Ux
abbrev sLaw : Stmt := top 17
abbrev nLaw : List Str := ["_law_script", "_law_bag_here", "_law_namings", "_law_rows", "_law_naming", "_law_k", "_law_j", "_law_one", "_law_other", "_law_text", "_law_found", "_law_odd", "_law_rule"]
theorem scLaw : FnScope nLaw ["_law_script"] (defScope sLaw) := ⟨rfl, rfl, rfl, by decide +kernel, rfl, by decide +kernel, by decide +kernel⟩
def qn : Str := (envOfC "law" (defScope sLaw) 0 0 .none).qual ++ "<lambda>"
def spLaw (K : PySem.W.Frag) (PT : Addr) : Sp := fun vs H Q _ => ∃ (a : Addr) (ns : List Int), vs = [.ref a] ∧ SqL K H a (ns.map V.int) ∧ ns.length ≤ 63 ∧ H PT = some (.tbl #[]) ∧ ∀ H', Q (.bl true) H'
theorem BagAt.more {H : Hp} {b : Addr} {n m : Nat} (h : BagAt H b n) (l : n ≤ m) : BagAt H b m := by
  obtain ⟨a, ns, p, g, s', c, h1, h2, h3, h4, h5, h6, h7, h8⟩ := h
  exact ⟨a, ns, p, g, s', c, h1, h2, h3, h4, h5, h6, h7, by omega⟩
theorem BagAt.same {H H' : Hp} {b : Addr} {n : Nat} (h : BagAt H b n) (s : Same H H') : BagAt H' b n := by
  obtain ⟨l, ns, p, g, s', c, hb, hl, z⟩ := h
  exact ⟨l, ns, p, g, s', c, s _ _ hb, s _ _ hl, z⟩
theorem BagAt.lst {H : Hp} {b : Addr} {n : Nat} (h : BagAt H b n) : ∃ xs, H b = some (.lst xs) := by
  obtain ⟨l, ns, p, g, s', c, hb, hl, z⟩ := h
  exact ⟨_, hb⟩
theorem Tabs.but {T : List (Addr × Str)} {H H' : Hp} {b : Addr} {xs : List V} (t : LamX.Tabs T H) (hb : H b = some (.lst xs)) (s : But b H H') : LamX.Tabs T H' := fun p hp => by
  obtain ⟨ps, h1, h2, h3⟩ := t p hp
  refine ⟨ps, s _ _ h1 fun e => ?_, h2, fun pos cv hc => ?_⟩
  · rw [e, hb] at h1
    cases h1
  · obtain ⟨c, e1, e2⟩ := h3 pos cv hc
    refine ⟨c, e1, s _ _ e2 fun e => ?_⟩
    rw [e, hb] at e2
    cases e2
theorem Tabs.same {T : List (Addr × Str)} {H H' : Hp} (t : LamX.Tabs T H) (s : Same H H') : LamX.Tabs T H' := LamX.Tabs.ext t s
theorem like_str {H : Hp} {n : Nat} (x : Str) : Like H (n + 1) (.str x) (.str x) := .inl ⟨rfl, .inr (.inr (.inr ⟨x, rfl⟩))⟩
theorem like_int {H : Hp} {n : Nat} (i : Int) : Like H (n + 1) (.int i) (.int i) := .inl ⟨rfl, .inr (.inr (.inl ⟨i, rfl⟩))⟩
theorem like_non {H : Hp} {n : Nat} : Like H (n + 1) .non .non := .inl ⟨rfl, .inl rfl⟩
theorem like_bl {H : Hp} {n : Nat} (b : Bool) : Like H (n + 1) (.bl b) (.bl b) := .inl ⟨rfl, .inr (.inl ⟨b, rfl⟩)⟩
def plainV : V → Bool
  | .non => true
  | .bl _ => true
  | .int _ => true
  | .str _ => true
  | _ => false
theorem like_plain {H : Hp} {n : Nat} {v : V} (h : plainV v = true) : Like H (n + 1) v v := by
  cases v with
  | non => exact like_non
  | bl b => exact like_bl b
  | int i => exact like_int i
  | str x => exact like_str x
  | _ => exact absurd h (by intro z; cases z)
/-- two lists, or two tuples, of the same plain values -/
theorem like_seq {H : Hp} {n : Nat} {a b : Addr} {xs : List V} (h : (H a = some (.tup xs) ∧ H b = some (.tup xs)) ∨ (H a = some (.lst xs) ∧ H b = some (.lst xs))) (hp : xs.all plainV = true) (hl : xs.length ≤ 1000) : Like H (n + 2) (.ref a) (.ref b) := by
  refine .inr ⟨a, b, _, _, rfl, rfl, h, rfl, hl, fun i x y hx hy => ?_⟩
  rw [hx] at hy
  obtain rfl := Option.some.inj hy
  exact like_plain (List.all_eq_true.mp hp x (List.mem_of_getElem? hx))
/-- a list of rows -/
def Rws (H : Hp) (R : Addr) (ts : List Addr) (n : Nat) : Prop := H R = some (.lst (ts.map V.ref)) ∧ ts.length = n ∧ ∀ (j : Nat) (t : Addr), ts[j]? = some t → H t = some (.tup [.str (rN j), .bl (rB j)])
theorem Rws.same {H H' : Hp} {R : Addr} {ts : List Addr} {n : Nat} (h : Rws H R ts n) (s : Same H H') : Rws H' R ts n := ⟨s _ _ h.1, h.2.1, fun j t e => s _ _ (h.2.2 j t e)⟩
theorem get_snoc {α : Type} {xs : List α} {x y : α} {j : Nat} (h : (xs ++ [x])[j]? = some y) : (j < xs.length ∧ xs[j]? = some y) ∨ (j = xs.length ∧ y = x) := by
  by_cases q : j < xs.length
  · rw [List.getElem?_append_left q] at h
    exact .inl ⟨q, h⟩
  · rw [List.getElem?_append_right (by omega)] at h
    by_cases z : j - xs.length = 0
    · rw [z] at h
      exact .inr ⟨by omega, (Option.some.inj h).symm⟩
    · rw [List.getElem?_eq_none (by show 1 ≤ _; omega)] at h
      cases h
theorem Rws.snoc {H H' : Hp} {R R' t : Addr} {ts : List Addr} {n : Nat} (h : Rws H R ts n) (s : ∀ x o, H x = some o → (∀ ys, o ≠ .lst ys) → H' x = some o) (hR : H' R' = some (.lst ((ts ++ [t]).map V.ref))) (ht : H' t = some (.tup [.str (rN n), .bl (rB n)])) : Rws H' R' (ts ++ [t]) (n + 1) := by
  refine ⟨hR, by rw [List.length_append, h.2.1]; rfl, fun j u e => ?_⟩
  rcases get_snoc e with ⟨_, e1⟩ | ⟨e1, e2⟩
  · exact s _ _ (h.2.2 j u e1) (fun ys z => by cases z)
  · rw [e1, e2, h.2.1]
    exact ht
theorem like_rws {H : Hp} {n : Nat} {C R : Addr} {us ts : List Addr} {k : Nat} (hC : Rws H C us k) (hR : Rws H R ts k) (hk : k ≤ 1000) : Like H (n + 3) (.ref C) (.ref R) := by
  refine .inr ⟨C, R, _, _, rfl, rfl, .inr ⟨hC.1, hR.1⟩, by rw [List.length_map, List.length_map, hC.2.1, hR.2.1], by rw [List.length_map, hC.2.1]; exact hk, fun i x y hx hy => ?_⟩
  rw [List.getElem?_map] at hx hy
  cases hu : us[i]? with
  | none => rw [hu] at hx; cases hx
  | some u =>
    rw [hu] at hx
    obtain rfl := Option.some.inj hx
    cases ht : ts[i]? with
    | none => rw [ht] at hy; cases hy
    | some t =>
      rw [ht] at hy
      obtain rfl := Option.some.inj hy
      exact like_seq (.inl ⟨hC.2.2 i u hu, hR.2.2 i t ht⟩) rfl (by show 2 ≤ 1000; decide)
theorem Rws.get {H : Hp} {R : Addr} {ts : List Addr} {n j : Nat} (h : Rws H R ts n) (hj : j < n) : ∃ t, (ts.map V.ref)[j]? = some (.ref t) ∧ H t = some (.tup [.str (rN j), .bl (rB j)]) := by
  have hj' : j < ts.length := by rw [h.2.1]; exact hj
  refine ⟨ts[j], ?_, h.2.2 j _ (List.getElem?_eq_getElem hj')⟩
  rw [List.getElem?_map, List.getElem?_eq_getElem hj']
  rfl
theorem at0 (x y : V) : atI [x, y] 0 = some x := rfl
theorem at1 (x y : V) : atI [x, y] 1 = some y := rfl
def tail (r : Bool) : Str := if r = true then " renewed" else " kept"
def okB : Bool := (List.range 8).all fun k => inV (.str (rN k)) (namings.map V.str) && (decide ((rN k).length ≤ 100) && (decide (rText (rN k) (rB k) = rN k ++ tail (rB k)) && (List.range 8).all fun j => (decide (rN k = rN j) && decide (rB k = rB j)) == decide (k = j)))
theorem ok_true : okB = true := by decide +kernel
theorem okE {k : Nat} (h : k < 8) : inV (.str (rN k)) (namings.map V.str) = true ∧ (rN k).length ≤ 100 ∧ rText (rN k) (rB k) = rN k ++ tail (rB k) ∧ ∀ j, j < 8 → (decide (rN k = rN j) && decide (rB k = rB j)) = decide (k = j) := by
  have q := List.all_eq_true.mp ok_true k (List.mem_range.mpr h)
  simp only [Bool.and_eq_true, decide_eq_true_eq] at q
  obtain ⟨q1, q2, q3, q4⟩ := q
  exact ⟨q1, q2, q3, fun j hj => eq_of_beq (List.all_eq_true.mp q4 j (List.mem_range.mpr hj))⟩
theorem Rws.but {H H' : Hp} {R b : Addr} {ts : List Addr} {m : Nat} (h : Rws H R ts 8) (B : BagAt H b m) (f : But b H H') : Rws H' R ts 8 := by
  obtain ⟨l, ns, p, g, s', c, hb, _⟩ := B
  refine ⟨f _ _ h.1 fun e => ?_, h.2.1, fun j t e => f _ _ (h.2.2 j t e) fun e2 => ?_⟩
  · have h1 := h.1
    rw [e, hb] at h1
    have h2 : BagL l p g s' c = ts.map V.ref := HO.lst.inj (Option.some.inj h1)
    have h3 := congrArg List.length h2
    rw [List.length_map, h.2.1] at h3
    exact absurd h3 (by show ¬ 5 = 8; decide)
  · have h1 := h.2.2 j t e
    rw [e2, hb] at h1
    cases h1
/-- the odd values -/
def OddV (H : Hp) (v : V) : Prop := v = .str "" ∨ v = .str "New" ∨ v = .str "none" ∨ v = .non ∨ v = .int 1 ∨ v = .bl true ∨ (∃ l, v = .ref l ∧ H l = some (.lst [.str "one"])) ∨ v = .str "one kept"
theorem OddV.extN {H H' : Hp} {v : V} (h : OddV H v) (s : LamX.ExtN H H') : OddV H' v := by
  rcases h with h | h | h | h | h | h | ⟨l, e, h⟩ | h
  · exact .inl h
  · exact .inr (.inl h)
  · exact .inr (.inr (.inl h))
  · exact .inr (.inr (.inr (.inl h)))
  · exact .inr (.inr (.inr (.inr (.inl h))))
  · exact .inr (.inr (.inr (.inr (.inr (.inl h)))))
  · exact .inr (.inr (.inr (.inr (.inr (.inr (.inl ⟨l, e, s _ _ h (fun ps z => by cases z)⟩))))))
  · exact .inr (.inr (.inr (.inr (.inr (.inr (.inr h))))))
theorem OddV.same {H H' : Hp} {v : V} (h : OddV H v) (s : Same H H') : OddV H' v := h.extN (LamX.ExtN.of s)
theorem OddV.adm {H : Hp} {v : V} (h : OddV H v) : Adm H v := by
  rcases h with rfl | rfl | rfl | rfl | rfl | rfl | ⟨l, rfl, h⟩ | rfl
  · exact .str (by decide +kernel)
  · exact .str (by decide +kernel)
  · exact .str (by decide +kernel)
  · exact .non
  · exact .int (by decide)
  · exact .yes
  · exact .lst h
  · exact .str (by decide +kernel)
theorem OddV.bad {K : PySem.W.Frag} {H : Hp} {v : V} (h : OddV H v) : BadN K H v := by
  rcases h with rfl | rfl | rfl | rfl | rfl | rfl | ⟨l, rfl, h⟩ | rfl
  · exact .inl ⟨_, rfl, by decide +kernel⟩
  · exact .inl ⟨_, rfl, by decide +kernel⟩
  · exact .inl ⟨_, rfl, by decide +kernel⟩
  · exact .inr ⟨_, .base .non, kit_ty (by decide +kernel)⟩
  · exact .inr ⟨_, .base (.int _), kit_ty (by decide +kernel)⟩
  · exact .inr ⟨_, .base (.bl _), kit_ty (by decide +kernel)⟩
  · exact .inr ⟨_, .base (.lst h), kit_ty (by decide +kernel)⟩
  · exact .inl ⟨_, rfl, by decide +kernel⟩
theorem OddV.like {H : Hp} {n : Nat} {v : V} (h : OddV H v) : Like H (n + 2) v v := by
  rcases h with rfl | rfl | rfl | rfl | rfl | rfl | ⟨l, rfl, h⟩ | rfl
  · exact like_plain rfl
  · exact like_plain rfl
  · exact like_plain rfl
  · exact like_plain rfl
  · exact like_plain rfl
  · exact like_plain rfl
  · exact like_seq (.inr ⟨h, h⟩) rfl (by show 1 ≤ 1000; decide)
  · exact like_plain rfl
/-- the error InvalidName, told -/
structure INk (K : PySem.W.Frag) (C1 C2 CI : Addr) : Prop where
  ex : PySem.W.exmAny K (.ref CI) [.ref C1, .ref C2] = some true
  xf : XfC K CI
  no : ∀ f ∈ fieldNames, PySem.W.findIn K (.ref CI) f = some none
theorem told_in {K : PySem.W.Frag} {C1 C2 CI : Addr} (T : INk K C1 C2 CI) {H H' : Hp} {Q : VK} {v : V} {d : Addr} (s : Same H H') (hd : H' d = some (.xd (inFs v))) (k : ∀ (t : Addr) (H' : Hp), H' t = some (.tup [.str "InvalidName", v]) → Same H H' → Q (.ref t) H') : Told K C1 C2 Q (.ref CI) (some d) H' := by
  refine ⟨CI, d, inFs v, "InvalidName", rfl, rfl, hd, T.ex, T.xf, T.no, rfl, ?_⟩
  have e1 : inV (.str "InvalidName") [.str "InvalidName", .str "InvalidNumber"] = true := by decide +kernel
  unfold fieldF
  rw [e1, if_pos rfl]
  exact ⟨v, rfl, fun t H2 ht s2 => k t H2 ht (s.trans s2)⟩
end K31

set_option Elab.async false
set_option linter.all false
set_option maxRecDepth 100000
set_option maxHeartbeats 8000000
set_option pp.maxSteps 600
namespace K31
open PySem PySem.Spec PyProof.Rows L2 Ux
section
variable {P : Program} {w : World} {K : PySem.W.Frag} {mg : Str → Option Value} {base : Heap} {CR CI C1 C2 c PT : Addr}
theorem ok_law {f fB fP fO fS fF gW fi fe fs fr fv pR : Addr} {fdB fdP fdO fdS fdF fdi fde fds fdr fdv : FuncData} {mc : Value} {gI gJ : List Value → List Value → List Value} {d0 d1 : List Value}
    {oc kV doc pm ct ocW kVW dcW pmW cdW ctW : Value} {od an odW anW : Option Addr} {osl slW : Array (Option Value)}
    (lk : K.lookup f = some ⟨oc, od, .func (PySem.W.fnOf "law" "law" (defArgs sLaw) (defBody sLaw) (defScope sLaw) .none kV doc pm an (.ref c) ct), osl⟩) (hcd : PySem.W.codeIn K (.ref c) "law" = true)
    (lkW : K.lookup gW = some ⟨ocW, odW, .func (PySem.W.fnOf "_law_why" "_law_why" (defArgs sWhy) (defBody sWhy) (defScope sWhy) .none kVW dcW pmW anW cdW ctW), slW⟩) (ccW : PySem.W.codeIn K cdW "_law_why" = true) (DW : Dn K mg "_law_why" gW)
    (bW : Binds K (PySem.W.fnOf "_law_why" "_law_why" (defArgs sWhy) (defBody sWhy) (defScope sWhy) .none kVW dcW pmW anW cdW ctW) ["_law_ask"] [])
    (TB : LamX.TabB base mg c PT) (m1 : mg "SlopeError" = some (.ref C1)) (m2 : mg "Missing" = some (.ref C2)) (DF : Dn K mg "_law_field" fF) (GF : FnQ P w K mg base 2 fF fdF ["_law_e"] (spFieldE K)) (bF : Binds K fdF ["_law_e"] [])
    (B : Bn mg) (T : RT K mg CR) (TI : INk K C1 C2 CI)
    (DB : Dn K mg "_law_bag" fB) (GB : FnOk P w K mg base CX0 1 fB fdB ["_law_script"] (spBag K)) (bB : Binds K fdB ["_law_script"] [])
    (DP : Dn K mg "_law_pull" fP) (GP : FnOk P w K mg base CX0 1 fP fdP ["_law_bag_here", "_law_many"] spPull) (bP : Binds K fdP ["_law_bag_here", "_law_many"] [])
    (DO : Dn K mg "_law_of" fO) (GO : FnOk P w K mg base CX0 2 fO fdO ["_law_bag_here", "_law_things"] spOf) (bO : Binds K fdO ["_law_bag_here", "_law_things"] [])
    (DS : Dn K mg "_law_same" fS) (GS : FnOk P w K mg base CX0 4 fS fdS ["_law_found", "_law_due"] (spSame 4)) (bS : Binds K fdS ["_law_found", "_law_due"] [])
    (M : Mk K CR fi) (GI : FnOk P w K mg base (L2.CX P w) 4 fi fdi ["self", "naming", "renewed"] (spInit K CR CI)) (b0 : Binds K fdi ["self", "naming", "renewed"] d0) (v0 : Vals [.str "new", .bl true] d0) (b1 : Binds K fdi ["self", "naming", "renewed"] d1) (v1 : Vals [.bl true] d1)
    (kI : KBn K fdi ["self", "naming", "renewed"] 2 ["renewed"] gI (fun vs zs => vs ++ zs)) (kJ : KBn K fdi ["self", "naming", "renewed"] 1 ["renewed", "naming"] gJ (fun vs zs => vs ++ (zs.drop 1 ++ zs.take 1)))
    (SM : StM K CR "every" mc pR fv) (GV : FnOk P w K mg base CX0 6 fv fdv [] (spEvery CR)) (bV : Binds K fdv [] [])
    (ME : OwnM K CR "__eq__" fe) (NE : NeO K CR) (GE : FnOk P w K mg base CX0 1 fe fde ["self", "other"] (spEq CR)) (bE : Binds K fde ["self", "other"] [])
    (MS : OwnM K CR "__str__" fs) (GSt : FnOk P w K mg base CX0 2 fs fds ["self"] (spStr CR)) (bSt : Binds K fds ["self"] [])
    (MR : OwnM K CR "__repr__" fr) (GRe : FnOk P w K mg base CX0 4 fr fdr ["self"] (spRepr CR)) (bRe : Binds K fdr ["self"] []) :
    FnOk P w K mg base CX0 8 f (PySem.W.fnOf "law" "law" (defArgs sLaw) (defBody sLaw) (defScope sLaw) .none kV doc pm an (.ref c) ct) ["_law_script"] (spLaw K PT) := by
  refine fn_of lk hcd scLaw (fun vs H Q E h => ?_) (fun A outer s H vs Q E hr h => ?_)
  · obtain ⟨a, ns, rfl, _⟩ := h
    rfl
  · obtain ⟨a, ns, rfl, hS, hlen, hP, q⟩ := h
    have r1 : Room 1 _ := hr.mono (by decide)
    have r2 : Room 2 _ := hr.mono (by decide)
    have r3 : Room 3 _ := hr.mono (by decide)
    have r4 : Room 4 _ := hr.mono (by decide)
    have r5 : Room 5 _ := hr.mono (by decide)
    have r6 : Room 6 _ := hr.mono (by decide)
    refine ⟨_, PSs.nox (pss_cons (ps_set (i := 1) scLaw.nd rfl (Or.inl rfl) (pe_call GB r1 (by rfl) DB.gl DB.kp bB .nil pass0 (pa_cons (pv 0) pa_nil)))
      (pss_cons (ps_set (i := 2) scLaw.nd rfl (Or.inl rfl) (pe_lst (pa_cons pe_str (pa_cons pe_str (pa_cons pe_str (pa_cons pe_str pa_nil))))))
      (pss_cons (ps_set (i := 3) scLaw.nd rfl (Or.inl rfl) (pe_lst pa_nil))
      (C8.pss_cut (ps_for PassesOwn.never rfl (pi_list (pv 2)) (pg_name (i := 4) scLaw.nd rfl (Or.inl rfl)) (pss_one (ps_set (i := 3) scLaw.nd rfl (Or.inl rfl) (pe_op op_cat (pv 3) (pe_lst (pa_cons (pe_tup (pa_cons (pv 4) (pa_cons pe_bl pa_nil))) (pa_cons (pe_tup (pa_cons (pv 4) (pa_cons pe_bl pa_nil))) pa_nil)))))))
      (C8.pss_cut (ps_par (i := 5) (j := 6) (by rfl) scLaw.nd rfl rfl (by decide) rfl rfl (pa_cons (pe_call GP r1 (by rfl) DP.gl DP.kp bP .nil pass0 (pa_cons (pv 1) (pa_cons pe_int pa_nil))) (pa_cons (pe_call GP r1 (by rfl) DP.gl DP.kp bP .nil pass0 (pa_cons (pv 1) (pa_cons pe_int pa_nil))) pa_nil)) (by rfl))
      (C8.pss_cut (ps_par (i := 7) (j := 8) (by rfl) scLaw.nd rfl rfl (by decide) rfl rfl (pa_cons (pe_makeK (E := E0) M GI r5 (by rfl) T.gl kI passL (pa_cons (pe_ix ix_tup (pe_ix ix_list (pv 3) (pv 5) (fun _ _ => rfl)) pe_int (fun _ _ => rfl)) pa_nil) (pk_cons (pe_ix ix_tup (pe_ix ix_list (pv 3) (pv 5) (fun _ _ => rfl)) pe_int (fun _ _ => rfl)) pk_nil)) (pa_cons (pe_makeK0 (E := E0) M GI r5 (by rfl) T.gl kJ passL (pk_cons (pe_ix ix_tup (pe_ix ix_list (pv 3) (pv 6) (fun _ _ => rfl)) pe_int (fun _ _ => rfl)) (pk_cons (pe_ix ix_tup (pe_ix ix_list (pv 3) (pv 6) (fun _ _ => rfl)) pe_int (fun _ _ => rfl)) pk_nil))) pa_nil)) (by rfl))
      (C8.pss_cut (ps_set (i := 9) scLaw.nd rfl (Or.inl rfl) (pe_op op_add_str (pe_ix ix_tup (pe_ix ix_list (pv 3) (pv 5) (fun _ _ => rfl)) pe_int (fun _ _ => rfl)) (pe_ifExp (pt_val (pe_ix ix_tup (pe_ix ix_list (pv 3) (pv 5) (fun _ _ => rfl)) pe_int (fun _ _ => rfl))) pe_str pe_str)))
      (C8.pss_cut (ps_if (pt_not (pt_val (pe_call GS r4 (by rfl) DS.gl DS.kp bS .nil pass0 (pa_cons (pe_lst (pa_cons (pe_fld (pv 7) rfl) (pa_cons (pe_fld (pv 7) rfl) (pa_cons (pe_callTy (call_strO MS GSt bSt r4) (by rfl) B.tstr (by decide +kernel) (pa_cons (pv 7) pa_nil)) (pa_cons (pe_callB (call_reprO MR GRe bRe r5) (by rfl) B.frepr (by decide +kernel) (pa_cons (pv 7) pa_nil)) pa_nil))))) (pa_cons (pe_lst (pa_cons (pe_ix ix_tup (pe_ix ix_list (pv 3) (pv 5) (fun _ _ => rfl)) pe_int (fun _ _ => rfl)) (pa_cons (pe_ix ix_tup (pe_ix ix_list (pv 3) (pv 5) (fun _ _ => rfl)) pe_int (fun _ _ => rfl)) (pa_cons (pv 9) (pa_cons (pe_op op_add_str (pe_op op_add_str pe_str (pv 9)) pe_str) pa_nil))))) pa_nil))))) (pss_one (ps_ret pe_bl)) pss_nil)
      (C8.pss_cut (ps_if (pt_not (pt_val (pe_call GS r4 (by rfl) DS.gl DS.kp bS .nil pass0 (pa_cons (pe_lst (pa_cons (pe_cmpR (op_eqO ME GE bE r1) (pv 7) (pv 8) (nomark _)) (pa_cons (pe_cmpR (op_neO ME NE GE bE r2) (pv 7) (pv 8) (nomark _)) (pa_cons (pe_cmpR (op_eqO ME GE bE r1) (pv 7) (pv 9) (nomark _)) pa_nil)))) (pa_cons (pe_lst (pa_cons (pe_cmpR op_eq (pv 5) (pv 6) (nomark _)) (pa_cons (pe_cmpR op_ne (pv 5) (pv 6) (nomark _)) (pa_cons pe_bl pa_nil)))) pa_nil))))) (pss_one (ps_ret pe_bl)) pss_nil)
      (pss_cons (ps_set (i := 10) scLaw.nd rfl (Or.inl rfl) (pe_smeth0 (E := E0) (by rfl) T.gl SM GV r6 bV .nil pass0))
      (C8.pss_cut (ps_if (PW.pt (pw_or (pt_not (pt_val (pe_call GS r4 (by rfl) DS.gl DS.kp bS .nil pass0 (pa_cons (pe_lc (own := [("_law_rule", 12)]) (g := gName 12) (te := tTup (tCons (tFld K (tVar 12) "naming") (tCons (tFld K (tVar 12) "renewed") tNil))) rfl scLaw.nd (pi_list (pv 10)) (blkOk_by (own := [("_law_rule", 12)]) (N := nLaw) (sc := defScope sLaw) (by decide +kernel)) (fun _ _ _ _ _ => pg_name (i := 12) scLaw.nd rfl (Or.inl rfl) (hf := Or.inr rfl)) (fun _ _ _ _ _ => pts_nil) (fun _ _ _ _ _ => (pe_tup (pa_cons (pe_fld (pv 12) rfl) (pa_cons (pe_fld (pv 12) rfl) pa_nil))))) (pa_cons (pv 3) pa_nil))))) (pw_or1 (pt_cmpR (op_neO ME NE GE bE r2) (pe_ix ix_list (pv 10) (pv 5) (fun _ _ => rfl)) (pv 7) (nomark _))))) (pss_one (ps_ret pe_bl)) pss_nil)
      (C8.pss_cut (ps_expr (pe_bm PySem.F.plainAttrs_list PySem.F.slot_list_append PySem.F.type_list_append mt_append (pv 10) (pa_cons pe_non pa_nil)))
      (C8.pss_cut (ps_if (PW.pt (pw_or (pt_cmpR op_ne (pe_callB call_len (by rfl) B.flen (by decide +kernel) (pa_cons (pe_smeth0 (E := E0) (by rfl) T.gl SM GV r6 bV .nil pass0) pa_nil)) pe_int (nomark _)) (pw_or1 (pt_cmpR (op_neO ME NE GE bE r2) (pe_make0 (E := E0) M GI r5 (by rfl) T.gl b0 v0 passL) (pe_makeK (E := E0) M GI r5 (by rfl) T.gl kI passL (pa_cons pe_str pa_nil) (pk_cons pe_bl pk_nil)) (nomark _))))) (pss_one (ps_ret pe_bl)) pss_nil)
      (C8.pss_cut (ps_set (i := 11) scLaw.nd rfl (Or.inr rfl) (pe_call GO r2 (by rfl) DO.gl DO.kp bO .nil pass0 (pa_cons (pv 1) (pa_cons (pe_lst (pa_cons pe_str (pa_cons pe_str (pa_cons pe_str (pa_cons pe_non (pa_cons pe_int (pa_cons pe_bl (pa_cons (pe_lst (pa_cons pe_str pa_nil)) (pa_cons pe_str pa_nil))))))))) pa_nil))))
      (pss_one (ps_ret (pe_call GS r4 (by rfl) DS.gl DS.kp bS .nil pass0 (pa_cons (LamX.pe_lamcall (T := [(PT, qn)]) (TT := TTwhy K C1 C2) (t := fun E => tMake CR (spInit K CR CI) [.bl true] E (tCons (tVar 11) tNil)) (k := 5) (by rfl) DW.gl DW.kp lkW ccW bW scWhy rfl (.inl rfl) (why_gives r3 DF GF bF m1 m2) TB rfl (List.mem_singleton.mpr rfl) (fun p hp _ => congrArg Prod.snd (List.mem_singleton.mp hp)) hr (LamX.lamS_by rfl) rfl (fun _ _ _ _ _ => rfl) (fun A outer s H E f c hr => pe_make (E := E) M GI hr (by rfl) T.gl b1 v1 (passes_call (takes_of rfl rfl rfl rfl) fun _ _ _ _ z => z) (pa_cons (pv 11) pa_nil))) (pa_cons (pe_tup (pa_cons pe_str (pa_cons (pv 11) pa_nil))) pa_nil))))))))))))))))))), ?_⟩
    refine ⟨_, rfl, a, ns, rfl, hS, fun b H1 B1 nb s1 => ?_⟩
    have T1 : LamX.Tabs [(PT, qn)] H1 := fun p hp => by
      cases List.mem_singleton.mp hp
      exact LamX.TabS.nil (s1 _ _ hP)
    clear hS hlen hP s1 nb
    refine ⟨(by show 4 ≤ sizeLine; decide), fun nm hnm => ⟨(by show 0 ≤ sizeLine; decide), fun R0 hR0 => ?_⟩⟩
    have B3 := (B1.same (same_upd (o := .lst (namings.map V.str)) hnm)).same (same_upd (o := .lst []) hR0)
    have T3 := Tabs.same (Tabs.same T1 (same_upd (o := .lst (namings.map V.str)) hnm)) (same_upd (o := .lst []) hR0)
    have n3 : (upd (upd H1 nm (.lst (namings.map V.str))) R0 (.lst [])) nm = some (.lst (namings.map V.str)) := (same_upd hR0) _ _ upd_same
    have w3 : Rws (upd (upd H1 nm (.lst (namings.map V.str))) R0 (.lst [])) R0 [] 0 := ⟨upd_same, rfl, fun j t e => by cases e⟩
    refine ⟨fun σ H' => ∃ (R : Addr) (ts : List Addr) (x4 : Option V), σ = [some (.ref a), some (.ref b), some (.ref nm), some (.ref R), x4, none, none, none, none, none, none, none, none] ∧ Rws H' R ts 8 ∧ BagAt H' b 0 ∧ LamX.Tabs [(PT, qn)] H', ?_, ?_⟩
    · refine ⟨_, rfl, nm, rfl, ⟨_, .of n3⟩, for_list (xs := namings.map V.str) (fun i σ H' => ∃ (R : Addr) (ts : List Addr) (x4 : Option V), σ = [some (.ref a), some (.ref b), some (.ref nm), some (.ref R), x4, none, none, none, none, none, none, none, none] ∧ Rws H' R ts (2 * i) ∧ H' nm = some (.lst (namings.map V.str)) ∧ BagAt H' b 0 ∧ LamX.Tabs [(PT, qn)] H') ⟨R0, [], none, rfl, w3, n3, B3, T3⟩ ?_ ?_ ?_⟩
      · rintro i σ H' _ ⟨R, ts, x4, rfl, w, n, _⟩
        exact .of n
      · clear B1 T1 hnm hR0 B3 T3 n3 w3 H1
        rintro i x σ H0 hx ⟨R, ts, x4, rfl, w, n, B0, T0⟩
        have hi : i < 4 := (List.getElem?_eq_some_iff.mp hx).1
        have ex : x = .str (rN (2 * i)) ∧ x = .str (rN (2 * i + 1)) ∧ rB (2 * i) = false ∧ rB (2 * i + 1) = true := by
          have e1 : 2 * i / 2 = i := by omega
          have e2 : (2 * i + 1) / 2 = i := by omega
          have e3 : ¬ 2 * i % 2 = 1 := by omega
          have e4 : (2 * i + 1) % 2 = 1 := by omega
          unfold rN rB
          rw [e1, e2, decide_eq_false e3, decide_eq_true e4]
          match i, hi, hx with
          | 0, _, hx => exact ⟨(Option.some.inj hx).symm, (Option.some.inj hx).symm, rfl, rfl⟩
          | 1, _, hx => exact ⟨(Option.some.inj hx).symm, (Option.some.inj hx).symm, rfl, rfl⟩
          | 2, _, hx => exact ⟨(Option.some.inj hx).symm, (Option.some.inj hx).symm, rfl, rfl⟩
          | 3, _, hx => exact ⟨(Option.some.inj hx).symm, (Option.some.inj hx).symm, rfl, rfl⟩
        obtain ⟨ex1, ex2, eb1, eb2⟩ := ex
        refine ⟨_, rfl, _, rfl, (by show 2 ≤ sizeLine; decide), fun t1 h1 => ⟨_, rfl, (by show 2 ≤ sizeLine; decide), fun t2 h2 => ⟨(by show 2 ≤ sizeLine; decide), fun L hL => ?_⟩⟩⟩
        have s1 : Same H0 (upd H0 t1 (.tup [x, .bl false])) := same_upd h1
        have s2 : Same H0 (upd (upd H0 t1 (.tup [x, .bl false])) t2 (.tup [x, .bl true])) := Same.new s1 h2
        have s3 : Same H0 (upd (upd (upd H0 t1 (.tup [x, .bl false])) t2 (.tup [x, .bl true])) L (.lst [.ref t1, .ref t2])) := Same.new s2 hL
        refine ⟨R, L, _, _, rfl, rfl, s3 _ _ w.1, upd_same, ?_, fun R' hR' => ?_⟩
        · have e := w.2.1
          rw [List.length_map, e, sizeLine_eq]
          show 2 * i + 2 ≤ _
          omega
        have s4 := Same.new s3 hR' (o := .lst (ts.map V.ref ++ [V.ref t1, V.ref t2]))
        refine ⟨R', ts ++ [t1] ++ [t2], _, rfl, ?_, s4 _ _ n, B0.same s4, Tabs.same T0 s4⟩
        have g2 : (upd (upd H0 t1 (.tup [x, .bl false])) t2 (.tup [x, .bl true])) t1 = some (.tup [x, .bl false]) := (same_upd h2) _ _ upd_same
        have a1 : ∀ {o : HO} {y : Addr}, (upd (upd H0 t1 (.tup [x, .bl false])) t2 (.tup [x, .bl true])) y = some o → (upd (upd (upd (upd H0 t1 (.tup [x, .bl false])) t2 (.tup [x, .bl true])) L (.lst [.ref t1, .ref t2])) R' (.lst (ts.map V.ref ++ [V.ref t1, V.ref t2]))) y = some o := fun e => (same_upd hR') _ _ ((same_upd hL) _ _ e)
        have w1 : Rws (upd (upd (upd (upd H0 t1 (.tup [x, .bl false])) t2 (.tup [x, .bl true])) L (.lst [.ref t1, .ref t2])) R' (.lst (ts.map V.ref ++ [V.ref t1, V.ref t2]))) R' (ts ++ [t1] ++ [t2]) (2 * i + 1 + 1) := by
          refine ⟨?_, ?_, fun j u e => ?_⟩
          · rw [upd_same, List.map_append, List.map_append, List.append_assoc]
            rfl
          · rw [List.length_append, List.length_append, w.2.1]
            rfl
          · rcases get_snoc e with ⟨_, e⟩ | ⟨e1, e2⟩
            · rcases get_snoc e with ⟨_, e⟩ | ⟨e1, e2⟩
              · exact s4 _ _ (w.2.2 j u e)
              · rw [e1, e2, w.2.1, ← ex1, eb1]
                exact a1 g2
            · rw [e1, e2, List.length_append, w.2.1]
              show _ = some (HO.tup [V.str (rN (2 * i + 1)), V.bl (rB (2 * i + 1))])
              rw [← ex2, eb2]
              exact a1 upd_same
        exact w1
      · rintro σ H' ⟨R, ts, x4, rfl, w, n, B, T⟩
        exact ⟨R, ts, x4, rfl, w, B, T⟩
    · clear B1 T1 hnm hR0 B3 T3 n3 w3 H1
      rintro σ H0 ⟨R, ts, x4, rfl, w0, B0, T0⟩
      refine ⟨fun σ H' => ∃ k j : Nat, k < 8 ∧ j < 8 ∧ σ = [some (.ref a), some (.ref b), some (.ref nm), some (.ref R), x4, some (.int k), some (.int j), none, none, none, none, none, none] ∧ Rws H' R ts 8 ∧ BagAt H' b 2 ∧ LamX.Tabs [(PT, qn)] H', ?_, ?_⟩
      · refine ⟨_, rfl, b, 8, 0, rfl, by decide, by decide, B0, by decide, fun r1 H1 r10 r11 B1 f1 => ⟨_, rfl, b, 8, 1, rfl, by decide, by decide, B1, by decide, fun r2 H2 r20 r21 B2 f2 => ⟨_, _, rfl, ?_⟩⟩⟩
        obtain ⟨ys, hb⟩ := B0.lst
        obtain ⟨ys1, hb1⟩ := B1.lst
        refine ⟨r1.toNat, r2.toNat, by omega, by omega, ?_, (w0.but B0 f1).but B1 f2, B2, Tabs.but (Tabs.but T0 hb f1) hb1 f2⟩
        rw [Int.toNat_of_nonneg r10, Int.toNat_of_nonneg r20]
        rfl
      · clear w0 B0 T0 H0
        rintro σ H0 ⟨k, j, hk, hj, rfl, w0, B0, T0⟩
        obtain ⟨tk, gk, ek⟩ := w0.get hk
        obtain ⟨tj, gj, ej⟩ := w0.get hj
        obtain ⟨ok1, ok2, ok3, ok4⟩ := okE hk
        obtain ⟨oj1, oj2, oj3, _⟩ := okE hj
        refine ⟨fun σ H' => ∃ u v : Addr, σ = [some (.ref a), some (.ref b), some (.ref nm), some (.ref R), x4, some (.int k), some (.int j), some (.ref u), some (.ref v), none, none, none, none] ∧ RulAt CR H' u (rN k) (rB k) ∧ RulAt CR H' v (rN j) (rB j) ∧ Rws H' R ts 8 ∧ BagAt H' b 2 ∧ LamX.Tabs [(PT, qn)] H', ?_, ?_⟩
        · refine ⟨_, rfl, _, rfl, R, _, _, _, rfl, rfl, .of w0.1, atI_nat gk, tk, _, 0, _, rfl, rfl, .of ek, rfl, _, rfl, _, rfl, R, _, _, _, rfl, rfl, .of w0.1, atI_nat gk, tk, _, 1, _, rfl, rfl, .of ek, rfl, rfl, rfl, fun x dx nx nd ne => ⟨x, dx, upd_same, .inl ⟨_, _, rfl, ok1, fun H1 hx bu => ⟨rfl, ?_⟩⟩⟩⟩
          have s1 := made_same nx nd bu
          have rx : RulAt CR H1 x (rN k) (rB k) := ⟨dx, hx⟩
          refine ⟨_, rfl, _, rfl, R, _, _, _, rfl, rfl, .of (s1 _ _ w0.1), atI_nat gj, tj, _, 1, _, rfl, rfl, .of (s1 _ _ ej), rfl, _, rfl, _, rfl, R, _, _, _, rfl, rfl, .of (s1 _ _ w0.1), atI_nat gj, tj, _, 0, _, rfl, rfl, .of (s1 _ _ ej), rfl, rfl, rfl, fun y dy ny nyd nye => ⟨y, dy, upd_same, .inl ⟨_, _, rfl, oj1, fun H2 hy bu2 => ⟨rfl, _, _, rfl, ?_⟩⟩⟩⟩
          have s2 := made_same ny nyd bu2
          exact ⟨x, y, rfl, rx.same s2, ⟨dy, hy⟩, w0.same (s1.trans s2), B0.same (s1.trans s2), Tabs.same T0 (s1.trans s2)⟩
        · clear w0 B0 T0 ek ej gj tj tk gk H0
          rintro σ H0 ⟨u, v, rfl, ru, rv, w0, B0, T0⟩
          obtain ⟨tk, gk, ek⟩ := w0.get hk
          have lk' : (rText (rN k) (rB k)).length ≤ 200 := rText_len ok2
          refine ⟨fun σ H' => σ = [some (.ref a), some (.ref b), some (.ref nm), some (.ref R), x4, some (.int k), some (.int j), some (.ref u), some (.ref v), some (.str (rText (rN k) (rB k))), none, none, none] ∧ H' = H0, ?_, ?_⟩
          · refine ⟨_, rfl, _, rfl, R, _, _, _, rfl, rfl, .of w0.1, atI_nat gk, tk, _, 0, _, rfl, rfl, .of ek, rfl, _, rfl, _, rfl, R, _, _, _, rfl, rfl, .of w0.1, atI_nat gk, tk, _, 1, _, rfl, rfl, .of ek, rfl, rB k, rfl, ?_⟩
            have lt : ∀ z : Str, z.length ≤ 20 → (rN k).length + z.length ≤ sizeLine := fun z hz => fit (m := 200) (by omega) (by decide)
            cases hb : rB k with
            | true =>
              have e : rText (rN k) true = rN k ++ " renewed" := by
                rw [hb] at ok3
                exact ok3
              refine iteT ⟨_, _, rfl, rfl, lt _ (by decide), ?_⟩
              rw [e]
              exact ⟨rfl, rfl⟩
            | false =>
              have e : rText (rN k) false = rN k ++ " kept" := by
                rw [hb] at ok3
                exact ok3
              refine iteF ⟨_, _, rfl, rfl, lt _ (by decide), ?_⟩
              rw [e]
              exact ⟨rfl, rfl⟩
          · rintro σ H' ⟨rfl, rfl⟩
            refine ⟨fun σ H1 => σ = [some (.ref a), some (.ref b), some (.ref nm), some (.ref R), x4, some (.int k), some (.int j), some (.ref u), some (.ref v), some (.str (rText (rN k) (rB k))), none, none, none] ∧ Same H' H1, ?_, ?_⟩
            · obtain ⟨du, hu⟩ := id ru
              refine ⟨_, rfl, u, CR, du, _, _, rfl, hu, T.cl, T.n1, gNa _ _, _, rfl, u, CR, du, _, _, rfl, hu, T.cl, T.n2, gRe _ _, _, rfl, u, du, _, rfl, hu, u, rN k, rB k, rfl, ru, ok2, _, rfl, _, rfl, u, du, _, rfl, hu, u, rN k, rB k, rfl, ru, ok2, _, rfl, (by show 4 ≤ sizeLine; decide), fun A1 hA1 => ?_⟩
              have sA : Same H' (upd H' A1 (.lst [.str (rN k), .bl (rB k), .str (rText (rN k) (rB k)), .str ("Rule(" ++ rText (rN k) (rB k) ++ ")")])) := same_upd hA1
              have l1 : ("Rule(" : Str).length ≤ 5 := by decide
              have l2 : (")" : Str).length ≤ 5 := by decide
              refine ⟨_, rfl, _, rfl, R, _, _, _, rfl, rfl, .of (sA _ _ w0.1), atI_nat gk, tk, _, 0, _, rfl, rfl, .of (sA _ _ ek), rfl, _, rfl, _, rfl, R, _, _, _, rfl, rfl, .of (sA _ _ w0.1), atI_nat gk, tk, _, 1, _, rfl, rfl, .of (sA _ _ ek), rfl, _, rfl, _, rfl, _, _, rfl, rfl, fit (m := 300) (by omega) (by decide), _, _, rfl, rfl, fit (m := 400) (by have := app_len l1 lk'; omega) (by decide), (by show 4 ≤ sizeLine; decide), fun A2 hA2 => ?_⟩
              have sB := Same.new sA hA2 (o := .lst [.str (rN k), .bl (rB k), .str (rText (rN k) (rB k)), .str ("Rule(" ++ rText (rN k) (rB k) ++ ")")])
              refine ⟨_, _, rfl, like_seq (.inr ⟨(same_upd hA2) _ _ upd_same, upd_same⟩) rfl (by show 4 ≤ 1000; decide), fun H3 s3 => ⟨_, rfl, iteF ⟨rfl, sB.trans s3⟩⟩⟩
            · rintro σ H1 ⟨rfl, s1⟩
              have ru1 := ru.same s1
              have rv1 := rv.same s1
              have w1 := w0.same s1
              have B1 := B0.same s1
              have T1 := Tabs.same T0 s1
              clear s1 ru rv w0 B0 T0 ek gk tk H'
              refine ⟨fun σ H2 => σ = [some (.ref a), some (.ref b), some (.ref nm), some (.ref R), x4, some (.int k), some (.int j), some (.ref u), some (.ref v), some (.str (rText (rN k) (rB k))), none, none, none] ∧ Same H1 H2, ?_, ?_⟩
              · obtain ⟨du, hu⟩ := id ru1
                refine ⟨_, rfl, _, rfl, u, du, _, .ref CR, rfl, hu, rv1.ty T, T.f1, .inl ⟨u, v, _, _, _, _, rfl, ru1, rv1, _, rfl, ?_⟩⟩
                refine ⟨_, rfl, _, rfl, u, du, _, .ref CR, rfl, hu, rv1.ty T, T.f1, .inl ⟨u, v, _, _, _, _, rfl, ru1, rv1, _, rfl, ?_⟩⟩
                refine ⟨_, rfl, _, rfl, u, du, _, .type "str", rfl, hu, .base (.str _), T.f2, .inr ⟨u, _, _, _, rfl, ru1, _, rfl, (by show 3 ≤ sizeLine; decide), fun A1 hA1 => ?_⟩⟩
                refine ⟨_, rfl, _, rfl, rfl, _, rfl, _, rfl, rfl, (by show 3 ≤ sizeLine; decide), fun A2 hA2 => ?_⟩
                refine ⟨_, _, rfl, ?_, fun H3 s3 => ⟨_, rfl, iteF ⟨rfl, ((same_upd hA1).trans (same_upd hA2)).trans s3⟩⟩⟩
                have e1 : decide (V.int (k : Int) = V.int (j : Int)) = decide (k = j) := by
                  by_cases e : k = j
                  · rw [decide_eq_true e, decide_eq_true (by rw [e])]
                  · rw [decide_eq_false e, decide_eq_false (fun h => e (by have := V.int.inj h; omega))]
                have e2 := ok4 j hj
                refine like_seq (xs := [.bl (decide (k = j)), .bl (!decide (k = j)), .bl false]) (.inr ⟨?_, ?_⟩) rfl (by show 3 ≤ 1000; decide)
                · rw [(upd_ne (ne_of_none upd_same hA2)), upd_same, e2]
                  cases decide (k = j) <;> rfl
                · rw [upd_same]
                  show some (HO.lst [V.bl (decide (V.int (k : Int) = V.int (j : Int))), V.bl (!decide (V.int (k : Int) = V.int (j : Int))), V.bl false]) = _
                  rw [e1]
              · rintro σ H2 ⟨rfl, s2⟩
                have ru2 := ru1.same s2
                have w2 := w1.same s2
                have B2 := B1.same s2
                have T2 := Tabs.same T1 s2
                clear s2 ru1 rv1 w1 B1 T1 H1
                refine ⟨rfl, fun L H3 rs hL ev s3 nL => ?_⟩
                refine ⟨fun σ H4 => σ = [some (.ref a), some (.ref b), some (.ref nm), some (.ref R), x4, some (.int k), some (.int j), some (.ref u), some (.ref v), some (.str (rText (rN k) (rB k))), some (.ref L), none, none] ∧ Same H3 H4, ?_, ?_⟩
                · obtain ⟨ak, gkL, eak⟩ : ∃ ak, (rs.map V.ref)[k]? = some (.ref ak) ∧ rs[k]? = some ak := by
                    have hk' : k < rs.length := by rw [ev.1]; exact hk
                    refine ⟨rs[k], ?_, List.getElem?_eq_getElem hk'⟩
                    rw [List.getElem?_map, List.getElem?_eq_getElem hk']
                    rfl
                  refine ⟨_, rfl, L, rfl, ⟨_, .of hL⟩, fun D hD => lc_list (xs := rs.map V.ref) (fun i H' => ∃ us : List Addr, Rws H' D us i ∧ Same H3 H') ⟨[], ⟨upd_same, rfl, fun j t e => by cases e⟩, same_upd hD⟩ (fun i H' _ z => by obtain ⟨us, _, s⟩ := z; exact .of (s _ _ hL)) ?_ ?_⟩
                  · rintro i x H' hx ⟨us, w, s⟩
                    obtain ⟨r, er, rfl⟩ : ∃ r, rs[i]? = some r ∧ x = .ref r := by
                      rw [List.getElem?_map] at hx
                      cases h : rs[i]? with
                      | none => rw [h] at hx; cases hx
                      | some r => rw [h] at hx; exact ⟨r, rfl, (Option.some.inj hx).symm⟩
                    obtain ⟨dr, hr0⟩ := (ev.2 i r er).same s
                    refine ⟨rfl, ?_⟩
                    refine ⟨_, rfl, r, CR, dr, _, _, rfl, hr0, T.cl, T.n1, gNa _ _, _, rfl, r, CR, dr, _, _, rfl, hr0, T.cl, T.n2, gRe _ _, (by show 2 ≤ sizeLine; decide), fun t ht => ?_⟩
                    have sT := same_upd (o := .tup [.str (rN i), .bl (rB i)]) ht
                    refine ⟨us.map V.ref, sT _ _ w.1, ?_, us ++ [t], w.snoc (fun y o e n => ?_) ?_ ?_, same_list (s.trans sT) hD⟩
                    · have hi := (List.getElem?_eq_some_iff.mp er).1
                      rw [List.length_map, w.2.1, sizeLine_eq]
                      have := ev.1
                      omega
                    · have nD : y ≠ D := fun z => by
                        rw [z, w.1] at e
                        exact n _ (Option.some.inj e).symm
                      rw [upd_ne nD]
                      exact sT _ _ e
                    · rw [upd_same, List.map_append]
                      rfl
                    · have nD : t ≠ D := (ne_of_none w.1 ht).symm
                      rw [upd_ne nD]
                      exact upd_same
                  · rintro H' ⟨us, w, s⟩
                    rw [List.length_map, ev.1] at w
                    refine ⟨_, rfl, _, _, rfl, like_rws w ((w2.same s3).same s) (by decide), fun H5 s5 => ⟨_, rfl, iteF ?_⟩⟩
                    have s35 := s.trans s5
                    obtain ⟨dk, hak⟩ := (ev.2 k ak eak).same s35
                    refine ⟨_, rfl, _, rfl, L, _, _, _, rfl, rfl, .of (s35 _ _ hL), atI_nat gkL, _, rfl, ak, dk, _, .ref CR, rfl, hak, (ru2.same (s3.trans s35)).ty T, T.f1, .inl ⟨ak, u, _, _, _, _, rfl, ⟨dk, hak⟩, ru2.same (s3.trans s35), _, rfl, ?_⟩⟩
                    have e0 : (decide (rN k = rN k) && decide (rB k = rB k)) = true := by simp
                    rw [e0]
                    exact ⟨_, rfl, iteF ⟨rfl, s35⟩⟩
                · rintro σ H4 ⟨rfl, s4⟩
                  refine ⟨fun σ H5 => σ = [some (.ref a), some (.ref b), some (.ref nm), some (.ref R), x4, some (.int k), some (.int j), some (.ref u), some (.ref v), some (.str (rText (rN k) (rB k))), some (.ref L), none, none] ∧ Same H2 H5, ?_, ?_⟩
                  · refine ⟨_, rfl, .inl ⟨rfl, _, .of (s4 _ _ hL)⟩, L, _, .non, rfl, rfl, s4 _ _ hL, ?_, rfl, same_list (s3.trans s4) nL⟩
                    rw [List.length_map, ev.1]
                    decide
                  · rintro σ H5 ⟨rfl, s5⟩
                    have B5 := B2.same s5
                    have T5 := Tabs.same T2 s5
                    clear s5 s4 H4 hL ev s3 nL B2 T2 ru2 w2 H3 H2
                    have mem : inV (.str "new") (namings.map V.str) = true := by decide +kernel
                    refine ⟨fun σ H6 => σ = [some (.ref a), some (.ref b), some (.ref nm), some (.ref R), x4, some (.int k), some (.int j), some (.ref u), some (.ref v), some (.str (rText (rN k) (rB k))), some (.ref L), none, none] ∧ Same H5 H6, ?_, ?_⟩
                    · refine ⟨rfl, fun L2 H6 rs2 hL2 ev2 s6 nL2 => ⟨_, _, rfl, .inl ⟨_, .of hL2, rfl⟩, rfl, _, rfl, ?_⟩⟩
                      have e8 : V.int (((rs2.map V.ref).length : Nat) : Int) = V.int 8 := by
                        rw [List.length_map, ev2.1]
                        rfl
                      rw [decide_eq_true e8]
                      refine iteF fun x dx nx nd ne => ⟨x, dx, upd_same, .inl ⟨_, true, rfl, mem, fun H7 hx bu => ⟨rfl, ?_⟩⟩⟩
                      have s7 := made_same nx nd bu
                      have rx : RulAt CR H7 x "new" true := ⟨dx, hx⟩
                      refine ⟨rfl, rfl, fun y dy ny nyd nye => ⟨y, dy, upd_same, .inl ⟨_, true, rfl, mem, fun H8 hy bu2 => ⟨rfl, ?_⟩⟩⟩⟩
                      have s8 := made_same ny nyd bu2
                      have ry : RulAt CR H8 y "new" true := ⟨dy, hy⟩
                      have rx8 := rx.same s8
                      refine ⟨x, dx, _, .ref CR, rfl, s8 _ _ hx, ry.ty T, T.f1, .inl ⟨x, y, _, _, _, _, rfl, rx8, ry, _, rfl, ?_⟩⟩
                      have e0 : (decide (("new" : Str) = "new") && decide (true = true)) = true := by decide +kernel
                      rw [e0]
                      exact ⟨_, rfl, iteF ⟨rfl, (s6.trans s7).trans s8⟩⟩
                    · rintro σ H6 ⟨rfl, s6⟩
                      have B6 := B5.same s6
                      have T6 := Tabs.same T5 s6
                      clear s6 B5 T5 H5
                      refine ⟨fun σ H7 => ∃ v0 : V, σ = [some (.ref a), some (.ref b), some (.ref nm), some (.ref R), x4, some (.int k), some (.int j), some (.ref u), some (.ref v), some (.str (rText (rN k) (rB k))), some (.ref L), some v0, none] ∧ OddV H7 v0 ∧ LamX.Tabs [(PT, qn)] H7, ?_, ?_⟩
                      · obtain ⟨ys, hb⟩ := B6.lst
                        refine ⟨_, rfl, (by show 1 ≤ sizeLine; decide), fun l hl => ⟨(by show 8 ≤ sizeLine; decide), fun Lo hLo => ?_⟩⟩
                        have sl := same_upd (o := .lst [V.str "one"]) hl
                        have sL := same_upd (o := .lst [V.str "", .str "New", .str "none", .non, .int 1, .bl true, .ref l, .str "one kept"]) hLo
                        have nLo : Lo ≠ b := (ne_of_none (sl _ _ hb) hLo).symm
                        have nl : l ≠ b := (ne_of_none hb hl).symm
                        refine ⟨b, Lo, 2, _, rfl, (B6.same sl).same sL, by decide, nLo, upd_same, (by show 0 < 8; decide), (by show 8 ≤ 1000; decide), fun i v H8 hi B8 f8 => ?_⟩
                        have hl2 := f8 _ _ (sL _ _ (upd_same (H := H6) (a := l) (o := .lst [V.str "one"]))) nl
                        refine ⟨v, rfl, ?_, Tabs.but (Tabs.same T6 (sl.trans sL)) ((sl.trans sL) _ _ hb) f8⟩
                        match i, hi with
                        | 0, hi => exact .inl (Option.some.inj hi).symm
                        | 1, hi => exact .inr (.inl (Option.some.inj hi).symm)
                        | 2, hi => exact .inr (.inr (.inl (Option.some.inj hi).symm))
                        | 3, hi => exact .inr (.inr (.inr (.inl (Option.some.inj hi).symm)))
                        | 4, hi => exact .inr (.inr (.inr (.inr (.inl (Option.some.inj hi).symm))))
                        | 5, hi => exact .inr (.inr (.inr (.inr (.inr (.inl (Option.some.inj hi).symm)))))
                        | 6, hi => exact .inr (.inr (.inr (.inr (.inr (.inr (.inl ⟨l, (Option.some.inj hi).symm, hl2⟩))))))
                        | 7, hi => exact .inr (.inr (.inr (.inr (.inr (.inr (.inr (Option.some.inj hi).symm))))))
                      · clear B6 T6 H6
                        rintro σ H7 ⟨v0, rfl, odd, T7⟩
                        refine ⟨T7, fun H8 x8 T8 => ?_⟩
                        have odd8 := odd.extN x8
                        refine ⟨_, rfl, fun x dx nx nd ne => ?_⟩
                        have sn : Same H8 (upd (upd H8 dx (.own x)) x (.ins CR dx [])) := made_same nx nd But.refl
                        refine ⟨x, dx, upd_same, .inr ⟨v0, true, rfl, (odd8.same sn).adm, (odd8.same sn).bad, fun d H9 s9 hd => told_in TI (sn.trans s9) hd fun t H10 ht s10 => ?_⟩⟩
                        refine ⟨_, rfl, (by show 2 ≤ sizeLine; decide), fun t2 ht2 => ?_⟩
                        have s11 := same_upd (o := .tup [.str "InvalidName", v0]) ht2
                        refine ⟨.ref t, .ref t2, rfl, .inr ⟨t, t2, _, _, rfl, rfl, .inl ⟨s11 _ _ ht, upd_same⟩, rfl, (by show 2 ≤ 1000; decide), fun i y z hy hz => ?_⟩, fun H12 s12 => q _⟩
                        match i, hy, hz with
                        | 0, hy, hz =>
                          obtain rfl := Option.some.inj hy
                          obtain rfl := Option.some.inj hz
                          exact like_str _
                        | 1, hy, hz =>
                          obtain rfl := Option.some.inj hy
                          obtain rfl := Option.some.inj hz
                          exact (odd8.same (s10.trans s11)).like
end
end K31

set_option Elab.async false
set_option linter.all false
set_option maxRecDepth 100000
set_option maxHeartbeats 8000000
set_option pp.maxSteps 400
namespace K31
open PySem PySem.Spec PyProof.Rows L2 Ux
def isB (a : Option (Option Value)) (v : Value) : Bool := decide (a = some (some v))
def isN (a : Option (Option Value)) : Bool := decide (a = some none)
theorem isB_of {a : Option (Option Value)} {v : Value} (h : isB a v = true) : a = some (some v) := of_decide_eq_true h
theorem isN_of {a : Option (Option Value)} (h : isN a = true) : a = some none := of_decide_eq_true h
/-- what every class of the text has -/
def chC (K : PySem.W.Frag) (C f : Addr) : Bool := PySem.W.plainGet K C Str.empty && (PySem.W.hasDictIn K C && (PySem.W.plainOver K C && (isB (PySem.W.findIn K (.ref C) "__setattr__") (.builtin "object.__setattr__") &&
  (isB (PySem.W.findIn K (.ref C) "__class__") (.builtin "object.__class__") && (decide (PySem.W.mroIn K C (.type "object") = some true) && (decide (PySem.W.kitOne K (.ref C) (.ref C) = some true) &&
  (PySem.W.makesIn K C && (isB (PySem.W.findIn K (.ref C) "__init__") (.ref f) && (PySem.W.isFn K (.ref f) && PySem.W.keepIn K (.ref C))))))))))
def chM (K : PySem.W.Frag) (C : Addr) (m : Str) (f : Addr) : Bool := isB (PySem.W.findIn K (.ref C) m) (.ref f) && PySem.W.isFn K (.ref f)
def chG (K : PySem.W.Frag) : Bool := isB (PySem.W.specialIn K (.builtin "object.__class__") "__get__") (.builtin "getset_descriptor.__get__") && decide (PySem.W.takesIn K (.builtin "object.__class__") = some true)
theorem cls_of {K : PySem.W.Frag} {C f : Addr} (h : chC K C f = true) : Cls K C ∧ PySem.W.findIn K (.ref C) "__class__" = some (some (.builtin "object.__class__")) ∧ PySem.W.mroIn K C (.type "object") = some true ∧ PySem.W.kitOne K (.ref C) (.ref C) = some true ∧ Mk K C f := by
  simp only [chC, Bool.and_eq_true] at h
  obtain ⟨h1, h2, h3, h4, h5, h6, h7, h8, h9, h10, h11⟩ := h
  exact ⟨⟨h1, h2, h3, isB_of h4⟩, isB_of h5, of_decide_eq_true h6, of_decide_eq_true h7, ⟨h8, isB_of h9, h10, h11⟩⟩
theorem own_of {K : PySem.W.Frag} {C : Addr} {m : Str} {f : Addr} (h : chM K C m f = true) : OwnM K C m f := ⟨isB_of (Bool.and_eq_true_iff.mp h).1, (Bool.and_eq_true_iff.mp h).2⟩
theorem same_zero {P : Program} {w : World} {K : PySem.W.Frag} {mg : Str → Option Value} {base : Heap} {f : Addr} {fd : FuncData} : FnOk P w K mg base CX0 0 f fd ["_law_found", "_law_due"] (spSame 0) :=
  ⟨fun _ _ _ _ h => by obtain ⟨_, _, rfl, z, _⟩ := h; exact z.elim, fun _ _ _ _ _ _ _ _ _ _ _ _ _ h => by obtain ⟨_, _, _, z, _⟩ := h; exact z.elim⟩
abbrev pU : List Str := ["self", "naming", "renewed"]
abbrev kwR : List (Str × V) := [("renewed", .bl true)]
section
variable {K : PySem.W.Frag} {f : Addr} {fd : FuncData} (F : FunD K "__init__" "Rule.__init__" (defArgs sInit) (defBody sInit) (defScope sInit) [.str "new"] kwR f fd)
include F
theorem r_b0 : ∃ ds, Vals [V.str "new", .bl true] ds ∧ Binds K fd pU ds :=
  F.binds 1 0 (by simp) rfl (fun T D doc pm an cdv ct us its ks h1 h2 h3 => match us, its, ks, h1, h2, h3 with | [_], [_], [_], _, _, _ => ⟨_, rfl, _, _, _, _, _, _, rfl, rfl, rfl⟩) (by simp)
theorem r_b1 : ∃ ds, Vals [V.bl true] ds ∧ Binds K fd pU ds :=
  F.binds 2 1 (by simp) rfl (fun T D doc pm an cdv ct us its ks h1 h2 h3 => match us, its, ks, h1, h2, h3 with | [_, _], [_], [_], _, _, _ => ⟨_, rfl, _, _, _, _, _, _, rfl, rfl, rfl⟩) (by simp)
theorem r_kI : ∃ its : List Value, KBn K fd pU 2 ["renewed"] (fun us ws => (fun {α : Type} (a b c : List α) => a ++ c) us its ws) (fun vs zs => vs ++ zs) :=
  F.kbindsD 2 ["renewed"] (fun {α : Type} (a b c : List α) => a ++ c) (by simp) (fun a b c => a.append c) fun T kV doc pm an cdv ct us its ws h1 h2 h3 => match us, its, ws, h1, h2, h3 with | [_, _], [_], [_], _, _, _ => ⟨_, rfl, rfl⟩
theorem r_kJ : ∃ its : List Value, KBn K fd pU 1 ["renewed", "naming"] (fun us ws => (fun {α : Type} (a b c : List α) => a ++ (c.drop 1 ++ c.take 1)) us its ws) (fun vs zs => vs ++ (zs.drop 1 ++ zs.take 1)) :=
  F.kbindsD 1 ["renewed", "naming"] (fun {α : Type} (a b c : List α) => a ++ (c.drop 1 ++ c.take 1)) (by simp) (fun a b c => a.append ((c.drop 1).append (c.take 1))) fun T kV doc pm an cdv ct us its ws h1 h2 h3 => match us, its, ws, h1, h2, h3 with | [_], [_], [_, _], _, _, _ => ⟨_, rfl, rfl⟩
end
def chR (K : PySem.W.Frag) (C fi fe fs fr : Addr) : Bool := chC K C fi && (isN (PySem.W.findIn K (.ref C) "naming") && (isN (PySem.W.findIn K (.ref C) "renewed") && (decide (PySem.W.kitOne K (.type "str") (.ref C) = some false) && (PySem.W.notFirst K C (.ref C) && (PySem.W.notFirst K C (.type "str") &&
  (chM K C "__eq__" fe && (chM K C "__str__" fs && (chM K C "__repr__" fr && (isB (PySem.W.findIn K (.ref C) "__ne__") (.builtin "object.__ne__") && isB (PySem.W.findIn K (.ref C) "__format__") (.builtin "object.__format__"))))))))))
def chB (K : PySem.W.Frag) (C : Addr) (ini : String) : Bool :=
  isB (PySem.W.specialIn K (.ref C) "__getattribute__") (.builtin "type.__getattribute__") && (PySem.W.readsIn K C (.type "type") && PySem.W.handedIn (.builtin ini))
abbrev veB : List Value := [.type "ValueError", .type "Exception", .type "BaseException", .type "object"]
def chI (K : PySem.W.Frag) (C CS CM f : Addr) : Bool :=
  PySem.W.excInitIn K C veB "ValueError.__new__" && (PySem.W.excOver K C veB && (PySem.W.hasDictIn K C && (isB (PySem.W.findIn K (.ref C) "__setattr__") (.builtin "object.__setattr__") && (PySem.W.keepIn K (.ref C) && (isB (PySem.W.findIn K (.ref C) "__getattribute__") (.builtin "BaseException.__getattribute__") &&
  (isN (PySem.W.findIn K (.ref C) "__getattr__") && (decide (PySem.W.subIn K (.ref C) (.type "BaseException") = some true) && (fieldNames.all (fun x => isN (PySem.W.findIn K (.ref C) x)) && decide (PySem.W.exmAny K (.ref C) [.ref CS, .ref CM] = some true)))))))))
def chX (K : PySem.W.Frag) (C : Addr) : Bool := isB (PySem.W.specialIn K (.ref C) "__getattribute__") (.builtin "type.__getattribute__") && PySem.W.readsIn K C (.type "type")
theorem rt_of {K : PySem.W.Frag} {mg : Str → Option Value} {C fi fe fs fr : Addr} (h : chR K C fi fe fs fr = true) (g : chG K = true) (gl : mg "Rule" = some (.ref C)) : RT K mg C ∧ Mk K C fi ∧ OwnM K C "__eq__" fe ∧ OwnM K C "__str__" fs ∧ OwnM K C "__repr__" fr ∧ NeO K C ∧ FmO K C := by
  simp only [chR, Bool.and_eq_true] at h
  obtain ⟨h0, n1, n2, h1, h2, h3, h4, h5, h6, h7, h8⟩ := h
  obtain ⟨c1, c2, c3, c4, c5⟩ := cls_of h0
  obtain ⟨g1, g2⟩ := Bool.and_eq_true_iff.mp g
  exact ⟨⟨c1, isN_of n1, isN_of n2, gl, c2, isB_of g1, of_decide_eq_true g2, c3, c4, of_decide_eq_true h1, h2, h3⟩, c5, own_of h4, own_of h5, own_of h6, ⟨isB_of h7, c3⟩, ⟨isB_of h8, c3⟩⟩
theorem all_mk {l : PySem.W.OpenLaw} {w : World} {K : PySem.W.Frag} {h : Heap} {mg : Str → Option Value} {fa CR CI CS CM pN pR cL PT g_sho g_wrd g_bag g_pul g_lof g_sam g_lfi g_lot g_why g_law g_req g_rst g_rre g_evr g_iin T_rin DR g_rin : Addr} (X : K.In h) (G : h.Ns mainGlobals mg) (hfa : mg "law" = some (.ref fa)) (hPT : h.get? PT = some { cls := .none, data := .fields #[] }) (nPT : K.lookup PT = none) (hCH : PySem.W.CodeHd h cL PT)
    {od_sho an_sho : Option Addr} {sl_sho : Array (Option Value)} {oc_sho kV_sho dc_sho pm_sho cd_sho ct_sho : Value}
    {od_wrd an_wrd : Option Addr} {sl_wrd : Array (Option Value)} {oc_wrd kV_wrd dc_wrd pm_wrd cd_wrd ct_wrd : Value}
    {od_bag an_bag : Option Addr} {sl_bag : Array (Option Value)} {oc_bag kV_bag dc_bag pm_bag cd_bag ct_bag : Value}
    {od_pul an_pul : Option Addr} {sl_pul : Array (Option Value)} {oc_pul kV_pul dc_pul pm_pul cd_pul ct_pul : Value}
    {od_lof an_lof : Option Addr} {sl_lof : Array (Option Value)} {oc_lof kV_lof dc_lof pm_lof cd_lof ct_lof : Value}
    {od_sam an_sam : Option Addr} {sl_sam : Array (Option Value)} {oc_sam kV_sam dc_sam pm_sam cd_sam ct_sam : Value}
    {od_lfi an_lfi : Option Addr} {sl_lfi : Array (Option Value)} {oc_lfi kV_lfi dc_lfi pm_lfi cd_lfi ct_lfi : Value}
    {od_lot an_lot : Option Addr} {sl_lot : Array (Option Value)} {oc_lot kV_lot dc_lot pm_lot cd_lot ct_lot : Value}
    {od_why an_why : Option Addr} {sl_why : Array (Option Value)} {oc_why kV_why dc_why pm_why cd_why ct_why : Value}
    {od_law an_law : Option Addr} {sl_law : Array (Option Value)} {oc_law kV_law dc_law pm_law ct_law : Value}
    {od_req an_req : Option Addr} {sl_req : Array (Option Value)} {oc_req kV_req dc_req pm_req cd_req ct_req : Value}
    {od_rst an_rst : Option Addr} {sl_rst : Array (Option Value)} {oc_rst kV_rst dc_rst pm_rst cd_rst ct_rst : Value}
    {od_rre an_rre : Option Addr} {sl_rre : Array (Option Value)} {oc_rre kV_rre dc_rre pm_rre cd_rre ct_rre : Value}
    {rest_evr : List Value}
    {od_evr an_evr : Option Addr} {sl_evr : Array (Option Value)} {oc_evr kV_evr dc_evr pm_evr cd_evr ct_evr : Value}
    {od_iin an_iin : Option Addr} {sl_iin : Array (Option Value)} {oc_iin kV_iin dc_iin pm_iin cd_iin ct_iin : Value}
    {od_rin an_rin : Option Addr} {sl_rin : Array (Option Value)} {oc_rin dc_rin pm_rin cd_rin ct_rin : Value}
    {oT_rin : Value} {oD_rin : Option Addr} {nT_rin : Nat} {tk_rin : Tok} {sT_rin : Array (Option Value)}
    {ocN : Option Addr} {nnN : Nat} {tN0 tN1 tN2 tN3 : Tok} {ssN : Array (Option Value)}
    {nmI qI : Str} {NI : Addr} {bsI bmI : List Value} {snI : List Str} {subI : List Value} {abI : Bool} {colI : Option Bool} {ddI : Option Addr} {kI0 kI1 kI2 kI3 kI5 : Option Value}
    (aR : PySem.W.nsIn K mainGlobals "Rule" = some (some (.ref CR))) (aI : PySem.W.nsIn K mainGlobals "InvalidName" = some (some (.ref CI))) (aS : PySem.W.nsIn K mainGlobals "SlopeError" = some (some (.ref CS))) (aM : PySem.W.nsIn K mainGlobals "Missing" = some (some (.ref CM)))
    (a_sho : PySem.W.nsIn K mainGlobals "shown" = some (some (.ref g_sho)))
    (l_sho : K.lookup g_sho = some ⟨oc_sho, od_sho, .func (PySem.W.fnOf "shown" "shown" (defArgs sShown) (defBody sShown) (defScope sShown) .none kV_sho dc_sho pm_sho an_sho cd_sho ct_sho), sl_sho⟩) (c_sho : PySem.W.codeIn K cd_sho "shown" = true) (k_sho : PySem.W.keepIn K (.ref g_sho) = true)
    (a_wrd : PySem.W.nsIn K mainGlobals "word_of" = some (some (.ref g_wrd)))
    (l_wrd : K.lookup g_wrd = some ⟨oc_wrd, od_wrd, .func (PySem.W.fnOf "word_of" "word_of" (defArgs sWord) (defBody sWord) (defScope sWord) .none kV_wrd dc_wrd pm_wrd an_wrd cd_wrd ct_wrd), sl_wrd⟩) (c_wrd : PySem.W.codeIn K cd_wrd "word_of" = true) (k_wrd : PySem.W.keepIn K (.ref g_wrd) = true)
    (a_bag : PySem.W.nsIn K mainGlobals "_law_bag" = some (some (.ref g_bag)))
    (l_bag : K.lookup g_bag = some ⟨oc_bag, od_bag, .func (PySem.W.fnOf "_law_bag" "_law_bag" (defArgs sBag) (defBody sBag) (defScope sBag) .none kV_bag dc_bag pm_bag an_bag cd_bag ct_bag), sl_bag⟩) (c_bag : PySem.W.codeIn K cd_bag "_law_bag" = true) (k_bag : PySem.W.keepIn K (.ref g_bag) = true)
    (a_pul : PySem.W.nsIn K mainGlobals "_law_pull" = some (some (.ref g_pul)))
    (l_pul : K.lookup g_pul = some ⟨oc_pul, od_pul, .func (PySem.W.fnOf "_law_pull" "_law_pull" (defArgs sPull) (defBody sPull) (defScope sPull) .none kV_pul dc_pul pm_pul an_pul cd_pul ct_pul), sl_pul⟩) (c_pul : PySem.W.codeIn K cd_pul "_law_pull" = true) (k_pul : PySem.W.keepIn K (.ref g_pul) = true)
    (a_lof : PySem.W.nsIn K mainGlobals "_law_of" = some (some (.ref g_lof)))
    (l_lof : K.lookup g_lof = some ⟨oc_lof, od_lof, .func (PySem.W.fnOf "_law_of" "_law_of" (defArgs sOf) (defBody sOf) (defScope sOf) .none kV_lof dc_lof pm_lof an_lof cd_lof ct_lof), sl_lof⟩) (c_lof : PySem.W.codeIn K cd_lof "_law_of" = true) (k_lof : PySem.W.keepIn K (.ref g_lof) = true)
    (a_sam : PySem.W.nsIn K mainGlobals "_law_same" = some (some (.ref g_sam)))
    (l_sam : K.lookup g_sam = some ⟨oc_sam, od_sam, .func (PySem.W.fnOf "_law_same" "_law_same" (defArgs sSame) (defBody sSame) (defScope sSame) .none kV_sam dc_sam pm_sam an_sam cd_sam ct_sam), sl_sam⟩) (c_sam : PySem.W.codeIn K cd_sam "_law_same" = true) (k_sam : PySem.W.keepIn K (.ref g_sam) = true)
    (a_lfi : PySem.W.nsIn K mainGlobals "_law_field" = some (some (.ref g_lfi)))
    (l_lfi : K.lookup g_lfi = some ⟨oc_lfi, od_lfi, .func (PySem.W.fnOf "_law_field" "_law_field" (defArgs sField) (defBody sField) (defScope sField) .none kV_lfi dc_lfi pm_lfi an_lfi cd_lfi ct_lfi), sl_lfi⟩) (c_lfi : PySem.W.codeIn K cd_lfi "_law_field" = true) (k_lfi : PySem.W.keepIn K (.ref g_lfi) = true)
    (a_lot : PySem.W.nsIn K mainGlobals "_law_other_field" = some (some (.ref g_lot)))
    (l_lot : K.lookup g_lot = some ⟨oc_lot, od_lot, .func (PySem.W.fnOf "_law_other_field" "_law_other_field" (defArgs sOtherField) (defBody sOtherField) (defScope sOtherField) .none kV_lot dc_lot pm_lot an_lot cd_lot ct_lot), sl_lot⟩) (c_lot : PySem.W.codeIn K cd_lot "_law_other_field" = true) (k_lot : PySem.W.keepIn K (.ref g_lot) = true)
    (a_why : PySem.W.nsIn K mainGlobals "_law_why" = some (some (.ref g_why)))
    (l_why : K.lookup g_why = some ⟨oc_why, od_why, .func (PySem.W.fnOf "_law_why" "_law_why" (defArgs sWhy) (defBody sWhy) (defScope sWhy) .none kV_why dc_why pm_why an_why cd_why ct_why), sl_why⟩) (c_why : PySem.W.codeIn K cd_why "_law_why" = true) (k_why : PySem.W.keepIn K (.ref g_why) = true)
    (a_law : PySem.W.nsIn K mainGlobals "law" = some (some (.ref g_law)))
    (l_law : K.lookup g_law = some ⟨oc_law, od_law, .func (PySem.W.fnOf "law" "law" (defArgs sLaw) (defBody sLaw) (defScope sLaw) .none kV_law dc_law pm_law an_law (.ref cL) ct_law), sl_law⟩) (c_law : PySem.W.codeIn K (.ref cL) "law" = true) (k_law : PySem.W.keepIn K (.ref g_law) = true)
    (i_req : PySem.W.findIn K (.ref CR) "__eq__" = some (some (.ref g_req)))
    (l_req : K.lookup g_req = some ⟨oc_req, od_req, .func (PySem.W.fnOf "__eq__" "Rule.__eq__" (defArgs sEq) (defBody sEq) (defScope sEq) .none kV_req dc_req pm_req an_req cd_req ct_req), sl_req⟩) (c_req : PySem.W.codeIn K cd_req "Rule.__eq__" = true) (k_req : PySem.W.keepIn K (.ref g_req) = true)
    (i_rst : PySem.W.findIn K (.ref CR) "__str__" = some (some (.ref g_rst)))
    (l_rst : K.lookup g_rst = some ⟨oc_rst, od_rst, .func (PySem.W.fnOf "__str__" "Rule.__str__" (defArgs sStr) (defBody sStr) (defScope sStr) .none kV_rst dc_rst pm_rst an_rst cd_rst ct_rst), sl_rst⟩) (c_rst : PySem.W.codeIn K cd_rst "Rule.__str__" = true) (k_rst : PySem.W.keepIn K (.ref g_rst) = true)
    (i_rre : PySem.W.findIn K (.ref CR) "__repr__" = some (some (.ref g_rre)))
    (l_rre : K.lookup g_rre = some ⟨oc_rre, od_rre, .func (PySem.W.fnOf "__repr__" "Rule.__repr__" (defArgs sRepr) (defBody sRepr) (defScope sRepr) .none kV_rre dc_rre pm_rre an_rre cd_rre ct_rre), sl_rre⟩) (c_rre : PySem.W.codeIn K cd_rre "Rule.__repr__" = true) (k_rre : PySem.W.keepIn K (.ref g_rre) = true)
    (f_evr : PySem.W.findCls K (.ref CR) (.type "type") "every" = some (.get (.builtin "staticmethod.__get__") (.ref pR) .none (.ref CR))) (r_evr : PySem.W.recIn K pR "staticmethod" = some (.ref g_evr :: rest_evr))
    (l_evr : K.lookup g_evr = some ⟨oc_evr, od_evr, .func (PySem.W.fnOf "every" "Rule.every" (defArgs sEvery) (defBody sEvery) (defScope sEvery) .none kV_evr dc_evr pm_evr an_evr cd_evr ct_evr), sl_evr⟩) (c_evr : PySem.W.codeIn K cd_evr "Rule.every" = true) (k_evr : PySem.W.keepIn K (.ref g_evr) = true)
    (i_iin : PySem.W.findIn K (.ref CI) "__init__" = some (some (.ref g_iin)))
    (l_iin : K.lookup g_iin = some ⟨oc_iin, od_iin, .func (PySem.W.fnOf "__init__" "InvalidName.__init__" (defArgs sI_InvalidName) (defBody sI_InvalidName) (defScope sI_InvalidName) .none kV_iin dc_iin pm_iin an_iin cd_iin ct_iin), sl_iin⟩) (c_iin : PySem.W.codeIn K cd_iin "InvalidName.__init__" = true) (k_iin : PySem.W.keepIn K (.ref g_iin) = true)
    (i_rin : PySem.W.findIn K (.ref CR) "__init__" = some (some (.ref g_rin)))
    (l_rin : K.lookup g_rin = some ⟨oc_rin, od_rin, .func (PySem.W.fnOf "__init__" "Rule.__init__" (defArgs sInit) (defBody sInit) (defScope sInit) (.ref T_rin) (.ref DR) dc_rin pm_rin an_rin cd_rin ct_rin), sl_rin⟩) (c_rin : PySem.W.codeIn K cd_rin "Rule.__init__" = true) (k_rin : PySem.W.keepIn K (.ref g_rin) = true)
    (t_rin : K.lookup T_rin = some ⟨oT_rin, oD_rin, .seq [Value.str "new" tk_rin].toArray nT_rin, sT_rin⟩)
    (d1 : PySem.W.nsIn K DR "renewed" = some (some (.bool true)))
    (bN : PySem.W.nsIn K mainGlobals "NAMINGS" = some (some (.ref pN))) (lN : K.lookup pN = some ⟨.type "tuple", ocN, .seq [Value.str "one" tN0, Value.str "site" tN1, Value.str "depth" tN2, Value.str "new" tN3].toArray nnN, ssN⟩)
    (z_isin : PySem.W.nsIn K mainGlobals "isinstance" = some none)
    (z_tstr : PySem.W.nsIn K mainGlobals "str" = some none)
    (z_tint : PySem.W.nsIn K mainGlobals "int" = some none)
    (z_tlist : PySem.W.nsIn K mainGlobals "list" = some none)
    (z_ttuple : PySem.W.nsIn K mainGlobals "tuple" = some none)
    (z_tbool : PySem.W.nsIn K mainGlobals "bool" = some none)
    (z_fabs : PySem.W.nsIn K mainGlobals "abs" = some none)
    (z_frepr : PySem.W.nsIn K mainGlobals "repr" = some none)
    (z_flen : PySem.W.nsIn K mainGlobals "len" = some none)
    (z_frange : PySem.W.nsIn K mainGlobals "range" = some none)
    (z_fzip : PySem.W.nsIn K mainGlobals "zip" = some none)
    (z_fall : PySem.W.nsIn K mainGlobals "all" = some none)
    (z_tve : PySem.W.nsIn K mainGlobals "ValueError" = some none)
    (z_tle : PySem.W.nsIn K mainGlobals "LookupError" = some none)
    (lCI : K.lookup CI = some (excClassObj nmI qI CI NI bsI bmI true snI subI abI colI ddI kI0 kI1 kI2 kI3 kI5 "ValueError.__new__")) (tyI : PySem.W.typeIn K (.ref CI) = some (.type "type")) (tyF : PySem.W.typeIn K (.ref g_iin) = some (.type "function")) (vS : PySem.W.findCls K (.ref CS) (.type "type") "__init__" = some (.val (.builtin "ValueError.__init__")))
    (hRv : PySem.HandSPX.refsVE bmI = true) (hR : chR K CR g_rin g_req g_rst g_rre = true) (hG : chG K = true) (hS : chB K CS "ValueError.__init__" = true) (hI : chI K CI CS CM g_iin = true) (hX : chX K CR = true) :
    LamX.LawAtS l w K CX0 8 63 "_law_script" mg fa h := by
  have e := hfa.symm.trans (PySem.W.mg_of X G a_law)
  cases e
  have gl : ∀ x v, PySem.W.nsIn K mainGlobals x = some (some v) → mg x = some v := fun x v z => PySem.W.mg_of X G z
  have B : Bn mg := ⟨PySem.W.mg_none_of X G z_isin, PySem.W.mg_none_of X G z_tstr, PySem.W.mg_none_of X G z_tint, PySem.W.mg_none_of X G z_tlist, PySem.W.mg_none_of X G z_ttuple, PySem.W.mg_none_of X G z_tbool, PySem.W.mg_none_of X G z_fabs, PySem.W.mg_none_of X G z_frepr, PySem.W.mg_none_of X G z_flen, PySem.W.mg_none_of X G z_frange, PySem.W.mg_none_of X G z_fzip, PySem.W.mg_none_of X G z_fall, PySem.W.mg_none_of X G z_tve, PySem.W.mg_none_of X G z_tle⟩
  obtain ⟨RTT, MkR, MEq, MSt, MRe, MNe, MFm⟩ := rt_of hR hG (gl _ _ aR)
  simp only [chI, Bool.and_eq_true] at hI
  obtain ⟨i1, i2, i3, i4, i5, i6, i7, i8, i9, i10⟩ := hI
  have noI : ∀ f ∈ fieldNames, PySem.W.findIn K (.ref CI) f = some none := fun f hf => isN_of (List.all_eq_true.mp i9 f hf)
  have EC : EcI K "ValueError.__init__" CI := ⟨_, _, _, ⟨PySem.F.excBase_ValueError, PySem.F.store_ValueError, i1, i2, i3, isB_of i4, i5, isB_of i6, isN_of i7, of_decide_eq_true i8⟩⟩
  have OX : OexC K CI := ⟨⟨_, _, _, _, _, _, _, _, _, _, _, _, _, _, _, lCI, hRv⟩, isB_of i4, of_decide_eq_true i8, tyI, i5⟩
  have ITT : IN K mg CI g_iin := ⟨gl _ _ aI, OX, EC, noI _ (by decide +kernel), noI _ (by decide +kernel), i_iin, tyF⟩
  have TKK : INk K CS CM CI := ⟨of_decide_eq_true i10, ⟨isB_of i6, isN_of i7, of_decide_eq_true i8, i3⟩, noI⟩
  obtain ⟨s1, s2, s3⟩ : PySem.W.specialIn K (.ref CS) "__getattribute__" = some (some (.builtin "type.__getattribute__")) ∧ PySem.W.readsIn K CS (.type "type") = true ∧ PySem.W.handedIn (.builtin "ValueError.__init__") = true := by
    simp only [chB, Bool.and_eq_true] at hS
    exact ⟨isB_of hS.1, hS.2.1, hS.2.2⟩
  have BSS : Bs K mg "SlopeError" "ValueError.__init__" CS := ⟨gl _ _ aS, s1, s2, vS, s3⟩
  simp only [chX, Bool.and_eq_true] at hX
  have SME : StM K CR "every" (.type "type") pR g_evr := ⟨isB_of hX.1, hX.2, f_evr, ⟨_, r_evr⟩, k_evr⟩
  have GNN : GN K mg pN := ⟨gl _ _ bN, fun H => .inr ⟨_, _, _, lN, rfl, rfl, (by show 4 ≤ sizeLine; decide), (.cons ⟨_, rfl⟩ (.cons ⟨_, rfl⟩ (.cons ⟨_, rfl⟩ (.cons ⟨_, rfl⟩ .nil))))⟩⟩
  have F_sho := fun_mk (st := sShown) l_sho c_sho k_sho
  have D_sho : Dn K mg "shown" g_sho := ⟨gl _ _ a_sho, k_sho⟩
  have b_sho := F_sho.binds (ps := ["value"]) fun _ _ _ _ _ _ us hl => match us, hl with | [_], _ => rfl
  have F_wrd := fun_mk (st := sWord) l_wrd c_wrd k_wrd
  have D_wrd : Dn K mg "word_of" g_wrd := ⟨gl _ _ a_wrd, k_wrd⟩
  have b_wrd := F_wrd.binds (ps := ["renewed"]) fun _ _ _ _ _ _ us hl => match us, hl with | [_], _ => rfl
  have F_bag := fun_mk (st := sBag) l_bag c_bag k_bag
  have D_bag : Dn K mg "_law_bag" g_bag := ⟨gl _ _ a_bag, k_bag⟩
  have b_bag := F_bag.binds (ps := ["_law_script"]) fun _ _ _ _ _ _ us hl => match us, hl with | [_], _ => rfl
  have F_pul := fun_mk (st := sPull) l_pul c_pul k_pul
  have D_pul : Dn K mg "_law_pull" g_pul := ⟨gl _ _ a_pul, k_pul⟩
  have b_pul := F_pul.binds (ps := ["_law_bag_here", "_law_many"]) fun _ _ _ _ _ _ us hl => match us, hl with | [_, _], _ => rfl
  have F_lof := fun_mk (st := sOf) l_lof c_lof k_lof
  have D_lof : Dn K mg "_law_of" g_lof := ⟨gl _ _ a_lof, k_lof⟩
  have b_lof := F_lof.binds (ps := ["_law_bag_here", "_law_things"]) fun _ _ _ _ _ _ us hl => match us, hl with | [_, _], _ => rfl
  have F_sam := fun_mk (st := sSame) l_sam c_sam k_sam
  have D_sam : Dn K mg "_law_same" g_sam := ⟨gl _ _ a_sam, k_sam⟩
  have b_sam := F_sam.binds (ps := ["_law_found", "_law_due"]) fun _ _ _ _ _ _ us hl => match us, hl with | [_, _], _ => rfl
  have F_lfi := fun_mk (st := sField) l_lfi c_lfi k_lfi
  have D_lfi : Dn K mg "_law_field" g_lfi := ⟨gl _ _ a_lfi, k_lfi⟩
  have b_lfi := F_lfi.binds (ps := ["_law_e"]) fun _ _ _ _ _ _ us hl => match us, hl with | [_], _ => rfl
  have F_lot := fun_mk (st := sOtherField) l_lot c_lot k_lot
  have D_lot : Dn K mg "_law_other_field" g_lot := ⟨gl _ _ a_lot, k_lot⟩
  have b_lot := F_lot.binds (ps := ["_law_e"]) fun _ _ _ _ _ _ us hl => match us, hl with | [_], _ => rfl
  have F_why := fun_mk (st := sWhy) l_why c_why k_why
  have D_why : Dn K mg "_law_why" g_why := ⟨gl _ _ a_why, k_why⟩
  have b_why := F_why.binds (ps := ["_law_ask"]) fun _ _ _ _ _ _ us hl => match us, hl with | [_], _ => rfl
  have F_req := fun_mk (st := sEq) l_req c_req k_req
  have b_req := F_req.binds (ps := ["self", "other"]) fun _ _ _ _ _ _ us hl => match us, hl with | [_, _], _ => rfl
  have F_rst := fun_mk (st := sStr) l_rst c_rst k_rst
  have b_rst := F_rst.binds (ps := ["self"]) fun _ _ _ _ _ _ us hl => match us, hl with | [_], _ => rfl
  have F_rre := fun_mk (st := sRepr) l_rre c_rre k_rre
  have b_rre := F_rre.binds (ps := ["self"]) fun _ _ _ _ _ _ us hl => match us, hl with | [_], _ => rfl
  have F_evr := fun_mk (st := sEvery) l_evr c_evr k_evr
  have b_evr := F_evr.binds (ps := []) fun _ _ _ _ _ _ us hl => match us, hl with | [], _ => rfl
  have F_iin := fun_mk (st := sI_InvalidName) l_iin c_iin k_iin
  have b_iin := F_iin.binds (ps := ["self", "given"]) fun _ _ _ _ _ _ us hl => match us, hl with | [_, _], _ => rfl
  have I_r : FunD K "__init__" "Rule.__init__" (defArgs sInit) (defBody sInit) (defScope sInit) [.str "new"] kwR g_rin (PySem.W.fnOf "__init__" "Rule.__init__" (defArgs sInit) (defBody sInit) (defScope sInit) (.ref T_rin) (.ref DR) dc_rin pm_rin an_rin cd_rin ct_rin) :=
    ⟨⟨_, _, _, _, _, _, _, _, _, _, rfl, l_rin, c_rin, .inr ⟨by simp, T_rin, _, [Value.str "new" tk_rin], _, rfl, t_rin, rfl, .cons ⟨_, rfl⟩ .nil⟩, .inr ⟨DR, rfl, fun q hq => by
      rw [List.mem_singleton] at hq
      subst hq
      exact ⟨_, d1, rfl⟩⟩⟩, k_rin⟩
  obtain ⟨d0, v0, b0⟩ := r_b0 I_r
  obtain ⟨dd1, v1, b1⟩ := r_b1 I_r
  obtain ⟨_, kI⟩ := r_kI I_r
  obtain ⟨_, kJ⟩ := r_kJ I_r
  refine ⟨PySem.W.fnOf "law" "law" (defArgs sLaw) (defBody sLaw) (defScope sLaw) .none kV_law dc_law pm_law an_law (.ref cL) ct_law, [(cL, PT)], spLaw K PT, fun p hp => by cases List.mem_singleton.mp hp; exact hPT, fun p hp => by cases List.mem_singleton.mp hp; exact nPT, fun p hp => by cases List.mem_singleton.mp hp; exact hCH, fun s v => .of_eq rfl,
    fun H a ns hl _ hT hS => ⟨a, ns, rfl, hS, hl, hT _ (List.mem_singleton.mpr rfl), fun _ => rfl⟩, fun base _ _ hTB => ?_⟩
  have G_sho : FnOk l.prog w K mg base CX0 1 g_sho _ ["value"] spShown := ok_shown F_sho B
  have G_iin : FnOk l.prog w K mg base CX0 2 g_iin _ ["self", "given"] (spI_InvalidName K) := okI_InvalidName F_iin BSS D_sho G_sho b_sho
  have G_wrd : FnOk l.prog w K mg base CX0 1 g_wrd _ ["renewed"] spWord := ok_word F_wrd
  have G_rin : FnOk l.prog w K mg base (L2.CX l.prog w) 4 g_rin _ pU (spInit K CR CI) := ok_init I_r B RTT GNN ITT G_iin b_iin
  have G_req : FnOk l.prog w K mg base CX0 1 g_req _ ["self", "other"] (spEq CR) := ok_eq F_req B RTT
  have G_rst : FnOk l.prog w K mg base CX0 2 g_rst _ ["self"] (spStr CR) := ok_str F_rst RTT D_wrd G_wrd b_wrd
  have G_rre : FnOk l.prog w K mg base CX0 4 g_rre _ ["self"] (spRepr CR) := ok_repr F_rre MSt MFm G_rst b_rst
  have G_evr : FnOk l.prog w K mg base CX0 6 g_evr _ [] (spEvery CR) := ok_every F_evr RTT GNN MkR G_rin kI
  have G_bag : FnOk l.prog w K mg base CX0 1 g_bag _ ["_law_script"] (spBag K) := ok_bag F_bag B
  have G_pul : FnOk l.prog w K mg base CX0 1 g_pul _ ["_law_bag_here", "_law_many"] spPull := ok_pull F_pul B
  have G_lof : FnOk l.prog w K mg base CX0 2 g_lof _ ["_law_bag_here", "_law_things"] spOf := ok_of F_lof B D_pul G_pul b_pul
  have S0 : FnOk l.prog w K mg base CX0 0 g_sam (PySem.W.fnOf "_law_same" "_law_same" (defArgs sSame) (defBody sSame) (defScope sSame) .none kV_sam dc_sam pm_sam an_sam cd_sam ct_sam) ["_law_found", "_law_due"] (spSame 0) := same_zero
  have S1 := ok_same_step F_sam B D_sam S0 b_sam
  have S2 := ok_same_step F_sam B D_sam S1 b_sam
  have S3 := ok_same_step F_sam B D_sam S2 b_sam
  have S4 := ok_same_step F_sam B D_sam S3 b_sam
  have G_lot : FnQ l.prog w K mg base 1 g_lot _ ["_law_e"] (spOtherF K) := ok_otherField F_lot
  have G_lfi : FnQ l.prog w K mg base 2 g_lfi _ ["_law_e"] (spFieldE K) := ok_field F_lfi D_lot G_lot b_lot
  exact ok_law l_law c_law l_why c_why D_why b_why (hTB _ (List.mem_singleton.mpr rfl)) (gl _ _ aS) (gl _ _ aM) D_lfi G_lfi b_lfi B RTT TKK D_bag G_bag b_bag D_pul G_pul b_pul D_lof G_lof b_lof D_sam S4 b_sam
    MkR G_rin b0 v0 b1 v1 kI kJ SME G_evr b_evr MEq MNe G_req b_req MSt G_rst b_rst MRe G_rre b_rre
end K31

set_option Elab.async false
open PySem PySem.W PyProof.Rows
set_option maxRecDepth 100000 in
set_option maxHeartbeats 0 in
theorem PySem.Challenge.cw_unseenslopes_k31_rules_told_holds : PySem.Challenge.rw_unseenslopes_k31_rules_told.Holds := by
  w_on; o_law; k_head; (case hw => w_witness2)
  k_fill
  refine LamX.walk_ofTsE (l := PySem.Challenge.rw_unseenslopes_k31_rules_told) (n := 63) (k := 8) (x := "_law_script") (CX := fun _ => L2.CX0) rfl (by decide) rfl ⟨rfl, by decide, by decide⟩ ?F (fun _ _ _ _ _ z => z)
  case F =>
    intro w mg fa h Y G hmg
    have KX := PySem.W.km_in_of Y
    refine' ⟨_, KX, K31.all_mk (PT := 175) KX G hmg (PySem.W.km_tabs_of Y 175 (List.mem_singleton.mpr rfl)) ?np (PySem.W.codeHd_of_K KX ?ch) ?aR ?aI ?aS ?aM ?a_sho ?l_sho ?c_sho ?k_sho ?a_wrd ?l_wrd ?c_wrd ?k_wrd ?a_bag ?l_bag ?c_bag ?k_bag ?a_pul ?l_pul ?c_pul ?k_pul ?a_lof ?l_lof ?c_lof ?k_lof ?a_sam ?l_sam ?c_sam ?k_sam ?a_lfi ?l_lfi ?c_lfi ?k_lfi ?a_lot ?l_lot ?c_lot ?k_lot ?a_why ?l_why ?c_why ?k_why ?a_law ?l_law ?c_law ?k_law ?i_req ?l_req ?c_req ?k_req ?i_rst ?l_rst ?c_rst ?k_rst ?i_rre ?l_rre ?c_rre ?k_rre ?f_evr ?r_evr ?l_evr ?c_evr ?k_evr ?i_iin ?l_iin ?c_iin ?k_iin ?i_rin ?l_rin ?c_rin ?k_rin ?t_rin ?d1 ?bN ?lN ?z_isin ?z_tstr ?z_tint ?z_tlist ?z_ttuple ?z_tbool ?z_fabs ?z_frepr ?z_flen ?z_frange ?z_fzip ?z_fall ?z_tve ?z_tle ?lCI ?tyI ?tyF ?vS ?hRv ?hR ?hG ?hS ?hI ?hX⟩
    (case aR => k_is); (case aI => k_is); (case aS => k_is); (case aM => k_is); (case a_sho => k_is); (case l_sho => k_is); (case c_sho => k_is); (case k_sho => k_is); (case a_wrd => k_is); (case l_wrd => k_is); (case c_wrd => k_is); (case k_wrd => k_is); (case a_bag => k_is); (case l_bag => k_is); (case c_bag => k_is); (case k_bag => k_is); (case a_pul => k_is); (case l_pul => k_is); (case c_pul => k_is); (case k_pul => k_is); (case a_lof => k_is); (case l_lof => k_is); (case c_lof => k_is); (case k_lof => k_is); (case a_sam => k_is); (case l_sam => k_is); (case c_sam => k_is); (case k_sam => k_is); (case a_lfi => k_is); (case l_lfi => k_is); (case c_lfi => k_is); (case k_lfi => k_is); (case a_lot => k_is); (case l_lot => k_is); (case c_lot => k_is); (case k_lot => k_is); (case a_why => k_is); (case l_why => k_is); (case c_why => k_is); (case k_why => k_is); (case a_law => k_is); (case l_law => k_is); (case c_law => k_is); (case k_law => k_is); (case i_req => k_is); (case l_req => k_is); (case c_req => k_is); (case k_req => k_is); (case i_rst => k_is); (case l_rst => k_is); (case c_rst => k_is); (case k_rst => k_is); (case i_rre => k_is); (case l_rre => k_is); (case c_rre => k_is); (case k_rre => k_is); (case f_evr => k_is); (case r_evr => k_is); (case l_evr => k_is); (case c_evr => k_is); (case k_evr => k_is); (case i_iin => k_is); (case l_iin => k_is); (case c_iin => k_is); (case k_iin => k_is); (case i_rin => k_is); (case l_rin => k_is); (case c_rin => k_is); (case k_rin => k_is); (case t_rin => k_is); (case d1 => k_is); (case bN => k_is); (case lN => k_is); (case z_isin => k_is); (case z_tstr => k_is); (case z_tint => k_is); (case z_tlist => k_is); (case z_ttuple => k_is); (case z_tbool => k_is); (case z_fabs => k_is); (case z_frepr => k_is); (case z_flen => k_is); (case z_frange => k_is); (case z_fzip => k_is); (case z_fall => k_is); (case z_tve => k_is); (case z_tle => k_is); (case lCI => k_is); (case tyI => k_is); (case tyF => k_is); (case vS => k_is)
    (case np => kernel_rfl); (case ch => kernel_rfl)
    (case hRv => kernel_rfl); (case hR => kernel_rfl); (case hG => kernel_rfl); (case hS => kernel_rfl); (case hI => kernel_rfl); (case hX => kernel_rfl)
