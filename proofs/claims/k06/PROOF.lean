import PyProof.Rows.All
import Wide.All
import OpenK.AllK
import Wide.FinOn
import KE.KExcInit
import HandS.ForMost
import HandS.Exc
import HandS.ExcInit
import HandS.IsInst
import HandS.Defaults
import HandS.MakeKw
import HandS.FStr
import HandS.RaiseMore
import HandS.ExcIs
import KE.KExcIs
import PyProof.FactsAll.bool_1
import KE.KCallOwn
import PyProof.InstEq
import HandS.Property
import HandS.Gcd
import HandS.MakeKwOnly
import KE.KTryMore
import HandS.HotCalls
import HandS.ExcField
import HandS.Codes
import HandS.Walk
import HandS.Zip
import HandS.Style
import HandS.Lambda
import KE.KFmtOwn
import KE.KOpsOwn
import HandS.Wide
import HandS.WordsExc
import HandS.EndTab
import HandS.HeadWalk
import KE.KNestM
import PySem.Challenge.RW_unseenslopes_k06_facts_refused
set_option Elab.async false
set_option linter.all false
set_option maxRecDepth 100000
set_option maxHeartbeats 4000000
/-! Own error classes over any built-in base: called with keywords too, held as values, their fields. -/
namespace Ux
open PySem PySem.Calls PySem.W
open Builtin Builtin.ObjectAttr
section
variable {M : Model} {prog : Program} {w : World} {A : Around} {E : Value → Shared → Prop} {h : Heap} {g : Array GenState} {d : Drawn} {t : Nat} {os : OsState}
variable {nm q : Str} {C N : Addr} {bs bm bmB : List Value} {hdct : Bool} {sn : List Str} {sub : List Value} {ab : Bool} {col : Option Bool} {dd : Option Addr} {k0 k1 k2 k3 k5 : Option Value} {B newId initId : String}
/-- the class object as the built-in rules read it -/
abbrev ClsO (nm q : Str) (C N : Addr) (bs bm : List Value) (hdct : Bool) (sn : List Str) (sub : List Value) (ab : Bool) (col : Option Bool) (dd : Option Addr) (k0 k1 k2 k3 k5 : Option Value) (newId : String) : Obj := excClassObj nm q C N bs bm hdct sn sub ab col dd k0 k1 k2 k3 k5 newId
theorem kw_check (F : ExcBaseFacts B newId initId bmB) (hT : ∀ Y : String, bm.contains (.type Y) = bmB.contains (.type Y)) {rest : List Value} {kw : List (Str × Value)} {Q : Unit → Shared → Prop}
    (oc : h.get? C = some (ClsO nm q C N bs bm hdct sn sub ab col dd k0 k1 k2 k3 k5 newId)) (z : Q () ⟨h, g, d, t, os⟩) : wpAny M A (checkBuiltinCall newId ⟨.ref C :: rest, kw⟩) Q E ⟨h, g, d, t, os⟩ := by
  have inB : (Value.ref C :: bm).contains (.type B) = true := by rw [List.contains_cons, hT B, F.hasB, Bool.or_true]
  have star := F.noStar
  simp only [checkBuiltinCall, F.newKind, F.newSplit, F.newRow]
  repeat (first
    | refine wpAny_loadPart_at oc ?_
    | (refine wpAny_isSubtype_exc oc ?_; rw [inB])
    | refine wpAny_staticBase_exc oc ?_
    | refine wpAny_madeBy_exc oc ?_
    | simp only [bne_self_eq_false, Bool.false_eq_true, if_false]
    | wp_step)
  exact z
theorem kw_new {R : Result → Shared → Prop} (F : ExcBaseFacts B newId initId bmB) (hT : ∀ Y : String, bm.contains (.type Y) = bmB.contains (.type Y)) {rest : List Value} {kw : List (Str × Value)}
    (oc : h.get? C = some (ClsO nm q C N bs bm hdct sn sub ab col dd k0 k1 k2 k3 k5 newId)) (z : R (.ok (.ret (.ref (h.objs.size + 1)))) ⟨(h.push (kdv_tup rest)).push (excObj C h.objs.size none .none), g, d, t, os⟩) (hz : rest.length ≤ sizeLine) :
    codeAny (model prog w) A (.builtin newId ⟨.ref C :: rest, kw⟩) R ⟨h, g, d, t, os⟩ := by
  have ends := F.ends
  have inB : (Value.ref C :: bm).contains (.type B) = true := by rw [List.contains_cons, hT B, F.hasB, Bool.or_true]
  have inA : (Value.ref C :: bm).contains (.type "AttributeError") = false := by rw [List.contains_cons, hT _, F.noAttr]; rfl
  have inN : (Value.ref C :: bm).contains (.type "NameError") = false := by rw [List.contains_cons, hT _, F.noName]; rfl
  refine codeAny_builtinAt F.entry ?_
  unfold Builtin.«BaseException.__new__»
  refine wpAt_bind ?_
  show wpAt _ _ _ (stack >>= _) _ _ _
  refine wpAt_bind (wpAt_stack fun p below => wpAt_of_wpAny ?_)
  wp_walk
  refine wpAt_of_wpAny ?_
  rw [F.owner]
  repeat (first
    | with_reducible refine wpAny_madeHere_exc F.canon oc ?_
    | with_reducible refine wpAny_loadPart_at oc ?_
    | (with_reducible refine wpAny_isSubtype_exc oc ?_; first | rw [inB] | rw [inA] | rw [inN])
    | wp_step)
  show R _ _
  rw [Heap.size_push]
  exact z
theorem kw_typecall (F : ExcBaseFacts B newId initId bmB) (hT : ∀ Y : String, bm.contains (.type Y) = bmB.contains (.type Y)) {rest : List Value} {kw : List (Str × Value)} {fI : Addr} {Q : Fin → Shared → Prop}
    (oc : h.get? C = some (ClsO nm q C N bs bm hdct sn sub ab col dd k0 k1 k2 k3 k5 newId)) (li : Looks (model prog w) h (typeLookup (.ref C) "__init__") (some (.ref fI)))
    (lb : ∀ self, Looks (model prog w) h (bindSpecial (.ref fI) self) (.ref fI, [self])) (hz : rest.length ≤ sizeLine)
    (z : codeAny (model prog w) A (.call (.ref fI) ⟨.ref (h.objs.size + 1) :: rest, kw⟩) (fun r s' => match r with | .ok (.ret v) => v = .none ∧ Q (.done (.ret (.ref (h.objs.size + 1)))) s' | .ok _ => False | .error e => E e s')
      ⟨(h.push (kdv_tup rest)).push (excObj C h.objs.size none .none), g, d, t, os⟩) :
    wpAny (model prog w) A (Builtin.«type.__call__» ⟨.ref C :: rest, kw⟩) Q E ⟨h, g, d, t, os⟩ := by
  repeat (first
    | with_reducible refine wpAny_loadPart_at oc ?_
    | with_reducible refine wpAny_madeBy_exc oc ?_
    | wp_step)
  refine codeAny_call_builtin_code (Code.quiet_builtin _ F.quiet) (kw_check F hT oc ?_)
  refine kw_new F hT oc ?_ hz
  show wpAny _ _ _ _ _ _
  have stays : ∀ b o, h.get? b = some o → ((h.push (kdv_tup rest)).push (excObj C h.objs.size none .none)).get? b = some o := fun b o y => Heap.get?_push_of_some _ (Heap.get?_push_of_some _ y)
  have oc' := stays _ _ oc
  have made : ((h.push (kdv_tup rest)).push (excObj C h.objs.size none .none)).get? (h.objs.size + 1) = some (excObj C h.objs.size none .none) := by heap_get
  have inC : (Value.ref C :: bm).contains (.ref C) = true := by simp
  have i1 := li.keeps stays
  have b1 := (lb (.ref (h.objs.size + 1))).keeps stays
  unfold isInstance
  repeat (first
    | with_reducible refine wpAny_loadPart_at made ?_
    | (with_reducible refine wpAny_isSubtype_exc oc' ?_; rw [inC])
    | wp_step)
  show wpAny _ _ (typeLookup (.ref C) _) _ _ _
  refine i1.at ?_
  refine wpAny_holding (wpAny_bind (b1.at ?_))
  refine wpAny_bind (wpAny_call (codeAny_mono z fun r s' y => ?_))
  rcases r with e | (v | _ | _ | _) <;> first | exact y | exact y.elim | skip
  obtain ⟨rfl, y⟩ := y
  first
    | exact wpAny_pure (wpAny_pure y)
    | (wp_walk; exact y)
theorem kw_call {R : Result → Shared → Prop} (F : ExcBaseFacts B newId initId bmB) (hT : ∀ Y : String, bm.contains (.type Y) = bmB.contains (.type Y)) {rest : List Value} {kw : List (Str × Value)} {fI : Addr}
    (oc : h.get? C = some (ClsO nm q C N bs bm hdct sn sub ab col dd k0 k1 k2 k3 k5 newId)) (li : Looks (model prog w) h (typeLookup (.ref C) "__init__") (some (.ref fI)))
    (lb : ∀ self, Looks (model prog w) h (bindSpecial (.ref fI) self) (.ref fI, [self])) (hz : rest.length ≤ sizeLine)
    (z : codeAny (model prog w) (A.under (.builtin "type.__call__" ⟨.ref C :: rest, kw⟩)) (.call (.ref fI) ⟨.ref (h.objs.size + 1) :: rest, kw⟩) (InitBack (h.objs.size + 1) R)
      ⟨(h.push (kdv_tup rest)).push (excObj C h.objs.size none .none), g, d, t, os⟩) :
    codeAny (model prog w) A (.call (.ref C) ⟨rest, kw⟩) R ⟨h, g, d, t, os⟩ := by
  have f1 := tc_lookup
  have f2 := tc_bind (.ref C)
  have ty : (⟨h, g, d, t, os⟩ : Shared).TypeIs (.ref C) "type" := ⟨_, oc, rfl⟩
  refine codeAny_of_tree ?_
  show wpAny _ _ (callAny (.ref C) _) _ _ _
  repeat (any_goals (first
    | assumption
    | with_reducible refine wpAny_loadPart_at oc ?_
    | wp_step))
  refine ⟨rfl, ?_⟩
  refine codeAny_call_builtin_at (Code.quiet_builtin _ (by decide +kernel)) entry_typeCall (wpAny_check_type_call_sub oc (kw_typecall F hT oc li lb hz ?_))
  refine codeAny_mono z fun r s' y => ?_
  rcases r with e | (v | _ | _ | _) <;> exact y
end
end Ux

set_option Elab.async false
set_option linter.all false
set_option maxRecDepth 100000
set_option maxHeartbeats 4000000
namespace Ux
open PySem PySem.Calls PySem.W
section
variable {prog : Program} {w : World} {A : Around} {E : Value → Shared → Prop} {R : Result → Shared → Prop} {hp : Heap} {g : Array GenState} {d : Drawn} {t : Nat} {os : OsState}
variable {K : Frag} {B : String} {bmB : List Value} {name : Str} {tk : Tok} {v : Value} {x C : Addr}
theorem taker_of (n : findIn K (.ref C) name = some none) : takerIn K C name = some none := by
  unfold takerIn
  rw [n]
  rfl
/-- the first field of an exception -/
theorem put_first {t0 : Addr} (SF : StoreFacts B bmB "object.__setattr__" "object") (IN : K.In hp) (ex : hp.get? x = some (excObj C t0 none .none)) (ov : excOver K C bmB = true) (nf : findIn K (.ref C) name = some none) (hd : hasDictIn K C = true)
    (z : ∀ h' tk' dx, (∀ b o, b ≠ x → hp.get? b = some o → h'.get? b = some o) → hp.objs.size ≤ dx → dx ≠ x → h'.get? x = some (excObj C t0 (some dx) .none) → h'.Ns1 dx (fun y => if y = name then some v else none) → R (.ok (.ret .none)) ⟨h', g, d, tk', os⟩) :
    codeAny (model prog w) A (.call (.builtin "object.__setattr__") ⟨[.ref x, .str name tk, v], []⟩) R ⟨hp, g, d, t, os⟩ := by
  refine osa_openX (s := ⟨hp, g, d, t, os⟩) (od := none) SF IN ⟨ex, rfl, rfl, trivial⟩ ov (taker_of nf) fun b => ?_
  obtain ⟨cd, hc, hdc⟩ := any_some hd
  have lx := Heap.lt_size ex
  have nx : hp.objs.size ≠ x := Nat.ne_of_gt lx
  have ex1 : (hp.push (dictOf [] 0)).get? x = some (excObj C t0 none .none) := Heap.get?_push_of_some _ ex
  refine wpAny_bind (wpAny_pure (wpAny_bind (instanceDict_exc (s := ⟨hp, g, d, t, os⟩) ex (looks_clsIn IN hc) hdc ?_)))
  show wpAny _ _ (Builtin.ObjectAttr.storeInDict hp.objs.size (.str name tk) name v) _ _ _
  refine HandSPX.store_in_new ⟨_, #[], _, (Heap.get?_update_ne _ _ _ _ nx).trans (Heap.get?_push_at rfl rfl), rfl, fun e he => absurd he (by simp), fun _ => rfl⟩ fun h' tk' hn same => ?_
  refine z h' tk' hp.objs.size (fun b o nb ho => ?_) (Nat.le_refl _) nx ?_ hn
  · exact (same.2 b (Nat.ne_of_lt (Heap.lt_size ho))).trans ((Heap.get?_update_ne _ _ _ _ nb).trans (Heap.get?_push_of_some _ ho))
  · exact (same.2 x nx.symm).trans (Heap.get?_update_self _ ex1 rfl)
/-- a further one -/
theorem put_more {t0 dx : Addr} {m0 : Str → Option Value} {ns : List Str} (SF : StoreFacts B bmB "object.__setattr__" "object") (IN : K.In hp) (ex : hp.get? x = some (excObj C t0 (some dx) .none)) (hn : hp.Ns1 dx m0) (hw : Within m0 ns) (hz : ns.length ≤ 1000)
    (ov : excOver K C bmB = true) (nf : findIn K (.ref C) name = some none) (hd : hasDictIn K C = true)
    (z : ∀ h' tk', (∀ b o, b ≠ dx → hp.get? b = some o → h'.get? b = some o) → h'.Ns1 dx (fun y => if y = name then some v else m0 y) → R (.ok (.ret .none)) ⟨h', g, d, tk', os⟩) :
    codeAny (model prog w) A (.call (.builtin "object.__setattr__") ⟨[.ref x, .str name tk, v], []⟩) R ⟨hp, g, d, t, os⟩ := by
  obtain ⟨oD, _, _, hoD, _, _⟩ := hn.count hw
  refine osa_openX (s := ⟨hp, g, d, t, os⟩) (od := some oD) SF IN ⟨ex, rfl, rfl, hoD⟩ ov (taker_of nf) fun b => ?_
  obtain ⟨cd, hc, hdc⟩ := any_some hd
  refine wpAny_bind (wpAny_pure (wpAny_bind (wpAny_bind (wpAny_loadPart ex (wpAny_bind ((looks_clsIn IN hc).here ?_))))))
  rw [hdc]
  refine wpAny_pure (a := some dx) ?_
  exact OEX.store_in_old hn hw hz fun h' tk' hn' same => z h' tk' (fun b o nb ho => (same.2 b nb).trans ho) hn'
end
end Ux

namespace Ux
open PySem PySem.Spec PyProof.Rows L2
/-- what the written part says of an error class over the built-in B -/
structure Ec (K : PySem.W.Frag) (B newId initId : String) (bmB : List Value) (C : Addr) : Prop where
  FB : ExcBaseFacts B newId initId bmB
  SF : StoreFacts B bmB "object.__setattr__" "object"
  ini : PySem.W.excInitIn K C bmB newId = true
  ovr : PySem.W.excOver K C bmB = true
  hdc : PySem.W.hasDictIn K C = true
  sa : PySem.W.findIn K (.ref C) "__setattr__" = some (some (.builtin "object.__setattr__"))
  kc : PySem.W.keepIn K (.ref C) = true
  ga : PySem.W.findIn K (.ref C) "__getattribute__" = some (some (.builtin "BaseException.__getattribute__"))
  gg : PySem.W.findIn K (.ref C) "__getattr__" = some none
  exC : PySem.W.subIn K (.ref C) (.type "BaseException") = some true
section
variable {X : Cx} {pins : List (Addr × Obj)} {σ : L2.St} {H : Hp} {s : Shared} {a C dx : Addr} {f : Str} {y : V} {u : Value} {fs : List (Str × V)} {Q : Unit → Shared → Prop} {E : Value → Shared → Prop} {A : Around} {B newId initId : String} {bmB : List Value}
theorem not_own {c x : Addr} {o : HO} (e : H c = some o) (n : ∀ y, o ≠ .own y) (z : H x = some (.own a)) : x ≠ c := fun q => by
  rw [q, e] at z
  exact n _ (Option.some.inj z)
theorem est_first (T : Ec X.K B newId initId bmB C) (I : Inv X pins σ H s) (ea : H a = some (exo a C none)) (nf : PySem.W.findIn X.K (.ref C) f = some none) (r : RelV y u)
    (z : ∀ dx s', H dx = none → dx ≠ a → Inv X pins σ (upd (upd H dx (exd dx [(f, y)])) a (exo a C (some dx))) s' → Q () s') : wpAny (model X.prog X.w) A (setAttr (.ref a) f u) Q E s := by
  obtain ⟨t1, ho⟩ := exo_at I.hok ea
  obtain ⟨hp, g, d, t, os⟩ := s
  refine PySem.W.set_plain I.kIn (ox := PySem.W.excObj C t1 none .none) (od := none) ⟨ho, rfl, rfl, trivial⟩ T.sa ?_
  refine put_first T.SF I.kIn ho T.ovr nf T.hdc fun h' tk' dx keep lo ne hx hn => ?_
  have fr : H dx = none := I.hok.fresh lo
  have nd : ∀ {b : Addr} {o : Obj}, hp.get? b = some o → b ≠ dx := fun q => Nat.ne_of_lt (Nat.lt_of_lt_of_le (Heap.lt_size q) lo)
  have na : ∀ {b : Addr}, H b = none → b ≠ a := fun n q => by
    rw [q, ea] at n
    cases n
  have U : Un X.fs [] H (upd (upd H dx (exd dx [(f, y)])) a (exo a C (some dx))) hp h' := by
    refine ⟨fun b o q n _ _ => keep b o (na n) q, fun b o q n _ _ => ⟨o.slots, keep b o (na n) q⟩, fun b o q n _ => ?_, fun b o q _ => ?_, fun b xs q => ?_, fun b o v q => ?_, fun b ps q => ⟨#[], ?_⟩⟩
    · rw [upd_ne (na n), upd_ne (nd q)]
      exact n
    · by_cases hb : b = a
      · subst hb
        exact ⟨_, hx⟩
      · exact ⟨o, keep b o hb q⟩
    · rw [upd_ne (at_ne ea q exo_tup), upd_ne (ne_of_none q fr)]
      exact q
    · rw [upd_ne (at_ne ea q exo_frz), upd_ne (ne_of_none q fr)]
      exact q
    · rw [upd_ne (at_ne ea q exo_tbl), upd_ne (ne_of_none q fr), q]
      simp
  refine z dx _ fr ne (I.un (t' := tk') U fun b o q => ?_)
  by_cases hb : b = a
  · subst hb
    rw [upd_same] at q
    cases q
    exact exo_ok hx
  · rw [upd_ne hb] at q
    by_cases hd : b = dx
    · subst hd
      rw [upd_same] at q
      cases q
      exact exd_ok hn (relO_put (fs := []) r fun _ => True.intro)
    · rw [upd_ne hd] at q
      refine (I.hok b o q).stay (fun c v hc w => keep c v ?_ w) (fun c hc => ?_) (fun c xs hc => ?_)
      · rcases hc with hc | hc
        · rw [hc]
          exact hb
        · exact at_ne ea hc exo_own
      · rw [upd_ne (at_ne ea hc exo_own), upd_ne (ne_of_none hc fr)]
        exact hc
      · rw [upd_ne (at_ne ea hc exo_tup), upd_ne (ne_of_none hc fr)]
        exact hc
theorem est_more (T : Ec X.K B newId initId bmB C) (I : Inv X pins σ H s) (ea : H a = some (exo a C (some dx))) (ed : H dx = some (exd dx fs)) (hl : fs.length ≤ 900) (nf : PySem.W.findIn X.K (.ref C) f = some none) (r : RelV y u)
    (z : ∀ s', Inv X pins σ (upd H dx (exd dx ((f, y) :: fs))) s' → Q () s') : wpAny (model X.prog X.w) A (setAttr (.ref a) f u) Q E s := by
  obtain ⟨t1, ho⟩ := exo_at I.hok ea
  obtain ⟨mA, hns, rel⟩ := exd_at I.hok ed
  have hw := within_of rel
  obtain ⟨hp, g, d, t, os⟩ := s
  obtain ⟨oD, _, _, hoD, _, _⟩ := hns.count hw
  refine PySem.W.set_plain I.kIn (ox := PySem.W.excObj C t1 (some dx) .none) (od := some oD) ⟨ho, rfl, rfl, hoD⟩ T.sa ?_
  refine put_more T.SF I.kIn ho hns hw (by rw [List.length_map]; omega) T.ovr nf T.hdc fun h' tk' keep hn => ?_
  have there : ∃ o, h'.get? dx = some o := by
    obtain ⟨o, _, _, q, _⟩ := hn
    exact ⟨o, q⟩
  exact z _ (I.write (t' := tk') (x := dx) (e := dx) (o := exd dx ((f, y) :: fs)) (by rw [ed]; exact True.intro) (.inl rfl) keep there (exd_ok hn (relO_put r rel)))
/-- the base's __init__ on it: nothing of it is told -/
theorem base_init {us : List Value} {Q : Value → Shared → Prop} (T : Ec X.K B newId initId bmB C) (I : Inv X pins σ H s) (ea : H a = some (exo a C none)) (hl : us.length ≤ sizeLine) (z : ∀ s', Inv X pins σ H s' → Q .none s') :
    wpAny (model X.prog X.w) A (call (.builtin initId) (.ref a :: us)) Q E s := by
  obtain ⟨t1, ho⟩ := exo_at I.hok ea
  obtain ⟨nm, N, qn, bs, bm, hdct, sn, sub, ab, col, dd, k0, k1, k2, k3, k5, oc, hT⟩ := PySem.W.excInit_of I.kIn T.ini
  obtain ⟨hp, g, d, t, os⟩ := s
  refine wpAny_call (PySem.HandSPX.init_base T.FB hT oc ho hl fun h' t2 keep hx => ?_)
  have J := I.write (t' := t) (x := a) (e := a) (o := exo a C none) (by rw [ea]; exact True.intro) (.inl rfl) keep ⟨_, hx⟩ (exo_ok hx)
  have same : upd H a (exo a C none) = H := by
    funext b
    by_cases hb : b = a
    · rw [hb, upd_same, ea]
    · rw [upd_ne hb]
  rw [same] at J
  exact z _ J
end
/-- .. whatever the base's other facts -/
def EcI (K : PySem.W.Frag) (initId : String) (C : Addr) : Prop := ∃ (B newId : String) (bmB : List Value), Ec K B newId initId bmB C
def EcA (K : PySem.W.Frag) (C : Addr) : Prop := ∃ initId : String, EcI K initId C
/-! ### readings and rules -/
/-- Base.__init__(self, ..) -/
def tBI (K : PySem.W.Frag) (initId : String) (ta : TA) : TE := fun σ H Q => ta σ H fun vs H1 => ∃ (a C : Addr) (ws : List V), vs = .ref a :: ws ∧ ws.length ≤ 1000 ∧ EcI K initId C ∧ H1 a = some (exo a C none) ∧ Q .non H1
/-- self.f = e -/
def tEst (K : PySem.W.Frag) (f : Str) (to te : TE) : TS := fun D σ H => te σ H fun y H1 => to σ H1 fun x H2 => ∃ a C : Addr, x = .ref a ∧ EcA K C ∧ PySem.W.findIn K (.ref C) f = some none ∧
  ((H2 a = some (exo a C none) ∧ ∀ dx, H2 dx = none → dx ≠ a → D.nx σ (upd (upd H2 dx (exd dx [(f, y)])) a (exo a C (some dx)))) ∨
    ∃ (dx : Addr) (fs : List (Str × V)), H2 a = some (exo a C (some dx)) ∧ H2 dx = some (exd dx fs) ∧ fs.length ≤ 900 ∧ D.nx σ (upd H2 dx (exd dx ((f, y) :: fs))))
/-- e.f -/
def tEf (K : PySem.W.Frag) (f : Str) (to : TE) : TE := fun σ H Q => to σ H fun x H1 => ∃ (a C dx : Addr) (fs : List (Str × V)) (v : V), x = .ref a ∧ EcA K C ∧ PySem.W.findIn K (.ref C) f = some none ∧
  H1 a = some (exo a C (some dx)) ∧ H1 dx = some (exd dx fs) ∧ fs.lookup f = some v ∧ Q v H1
section
variable {X : Cx} {o e : Expr} {es : List Expr} {to te : TE} {ta : TA} {f x : Str} {p p' p1 p2 pos : Pos} {B newId initId : String} {bmB : List Value} {CB : Addr} {mc : Value}
theorem pe_bi {pl : Sem Bool} (hg : Gl X x) (hm : X.mg x = some (.ref CB)) (sg : PySem.W.specialIn X.K (.ref CB) "__getattribute__" = some (some (.builtin "type.__getattribute__"))) (rd : PySem.W.readsIn X.K CB mc = true)
    (vV : PySem.W.findCls X.K (.ref CB) mc "__init__" = some (.val (.builtin initId))) (vh : PySem.W.handedIn (.builtin initId) = true) (ha : PA X (e :: es) ta) (hdb : (x == ("__debug__" : Str)) = false := by decide)
    (hc : eval (.Call (.Attribute (.Name x p1) "__init__" p2) (e :: es) [] pos) X.env = (do
      let ov ← eval (.Name x p1) X.env
      standAt p2.atName
      let (f, first) ← holding [ov] (getMethod ov "__init__" pl)
      callWith pos f first (backTo pos (starEach (e :: es) X.env)) (backToKw pos (keywordEach [] X.env))) := by rfl)
    (he : starEach (e :: es) X.env = (false, eval e X.env) :: starEach es X.env := by rfl) (hpl : (backTo pos (starEach es X.env)).any (·.1) = false := by rfl) :
    PE X (.Call (.Attribute (.Name x p1) "__init__" p2) (e :: es) [] pos) (tBI X.K initId ta) := by
  refine ⟨fun pins s σ H Q I h => ?_⟩
  refine PySem.W.methodCall_KW (ld_glob I hg hm ?_ hdb) hc
  refine PySem.W.method_cls I.kIn sg (PySem.W.cls_value I.kIn rd vV vh ?_)
  show wpAny _ _ (callWith pos (Value.builtin initId) [] (backTo pos (starEach (e :: es) X.env)) []) _ _ _
  refine PyProof.Rows.callWith_method1 (thn (ha.run pos pins _ σ H _ (I.tok _) h) fun us s1 ⟨vs, H1, I1, r1, a, C, ws, ev, hl, T, ea, q⟩ => ?_) he hpl
  subst ev
  obtain ⟨_, _, _, T⟩ := T
  cases r1 with
  | @cons _ u0 _ ur ra rw' =>
    obtain rfl : u0 = Value.ref a := ra
    have hz : ur.length ≤ sizeLine := by
      rw [← Paired.length rw', sizeLine_eq]
      omega
    exact base_init T I1 ea hz fun s' J => ⟨.non, H1, J, rfl, q⟩
theorem ps_est (ho : PE X o to) (he : PE X e te) (hs : swapsWith e (some (.Attribute o f p')) pos.line X.env = pure false := by rfl) : PS X (.Assign [.Attribute o f p'] e pos) (tEst X.K f to te) := by
  refine ⟨fun pins s σ H D I h => ?_⟩
  refine plainObj_wpAny_Assign_Attribute (thn (he.run pins s σ H _ I h) fun v s1 ⟨y, H1, I1, r1, q1⟩ => thn (ho.run pins s1 σ H1 _ I1 q1) fun u s2 ⟨x, H2, I2, r2, a, C, ex, T, nf, q⟩ => ?_) hs
  subst ex
  obtain rfl : u = Value.ref a := r2
  obtain ⟨_, _, _, _, T⟩ := T
  rcases q with ⟨ea, q⟩ | ⟨dx, fs, ea, ed, hl, q⟩
  · exact est_first T I2 ea nf r1 fun dx s' n ne J => ⟨σ, _, J, q dx n ne⟩
  · exact est_more T I2 ea ed hl nf r1 fun s' J => ⟨σ, _, J, q⟩
theorem pe_ef (ho : PE X o to) (hb : attributeBase o f X.env (eval o X.env) = eval o X.env := by rfl) : PE X (.Attribute o f pos) (tEf X.K f to) := by
  refine ⟨fun pins s σ H Q I h => ?_⟩
  refine attr_of hb (thn (ho.run pins s σ H _ I h) fun u s1 hh => ?_)
  obtain ⟨x, H1, I1, rx, a, C, dx, fs, v, ex, T, nf, ea, ed, l, q⟩ := hh
  subst ex
  obtain rfl : u = Value.ref a := rx
  obtain ⟨_, _, _, _, T⟩ := T
  obtain ⟨t1, hoa⟩ := exo_at I1.hok ea
  obtain ⟨mA, hns, hr⟩ := exd_at I1.hok ed
  obtain ⟨od, hod, hl⟩ := lookIn_ns hns
  obtain ⟨u, hu, ru⟩ := RelO.some_of (v := v) (o := mA f) (by rw [← l]; exact hr f)
  have J : PySem.W.InstAt s1.heap a (PySem.W.excObj C t1 (some dx) .none) C (some od) := ⟨hoa, rfl, rfl, hod⟩
  exact HandSPX.exc_get I1.kIn J T.ga T.gg T.exC (PySem.W.findObj_own T.hdc nf rfl (by rw [hl, hu])) (handed_of ru) ⟨v, H1, I1.tok _, ru, q⟩
end
/-! ### an error made -/
/-- C(..) by values vs and keywords zs: a new error a, then __init__ by its promise -/
def tMkE (C : Addr) (n m : Nat) (sp : Sp) (gV : List V → List V → List V) (ta tk : TA) : TE := fun σ H Q => ta σ H fun vs H1 => tk σ H1 fun zs H2 => vs.length = n ∧ zs.length = m ∧ ∀ a, H2 a = none → sp (gV (.ref a :: vs) zs) (upd H2 a (exo a C none)) (fun v H3 => v = .non ∧ Q (.ref a) H3) (fun _ _ _ => False)
section
variable {X : Cx} {CX : CXT} {k n : Nat} {fI C : Addr} {fd : FuncData} {ps ks : List Str} {sp : Sp} {B newId initId : String} {bmB : List Value} {g : List Value → List Value → List Value} {gV : List V → List V → List V}
theorem run_mkE {pins : List (Addr × Obj)} {σ : L2.St} {H : Hp} {s : Shared} {Q : VK} {us ws : List Value} {vs zs : List V} (T : Ec X.K B newId initId bmB C) (iC : PySem.W.findIn X.K (.ref C) "__init__" = some (some (.ref fI))) (tI : PySem.W.typeIn X.K (.ref fI) = some (.type "function"))
    (F : FnOk X.prog X.w X.K X.mg X.base CX k fI fd ps sp) (hr : Room (k + 1) X.A) (hb : KBn X.K fd ps (n + 1) ks g gV) (hx : Passes CX X (fun _ _ _ => False)) (I : Inv X pins σ H s) (r : Vals vs us) (rz : Vals zs ws) (l1 : vs.length = n) (l2 : zs.length = ks.length) (hn : n ≤ 1000)
    (z : ∀ a, H a = none → sp (gV (.ref a :: vs) zs) (upd H a (exo a C none)) (fun v H3 => v = .non ∧ Q (.ref a) H3) (fun _ _ _ => False)) :
    wpAny (model X.prog X.w) X.A (call (.ref C) us (ks.zip ws)) (EP X pins σ Q) X.xe s := by
  obtain ⟨nm, N, qn, bs, bm, hdct, sn, sub, ab, col, dd, k0, k1, k2, k3, k5, oc, hT⟩ := PySem.W.excInit_of I.kIn T.ini
  obtain ⟨hp, gn, dr, tk, os⟩ := s
  have lo : hp.objs.size ≤ hp.objs.size + 1 := Nat.le_succ _
  have fr : H (hp.objs.size + 1) = none := I.hok.fresh lo
  have hq := z _ fr
  have kk : ∀ b o, hp.get? b = some o → ((hp.push (PySem.W.kdv_tup us)).push (PySem.W.excObj C hp.objs.size none .none)).get? b = some o := fun b o e => Heap.get?_push_of_some _ (Heap.get?_push_of_some _ e)
  have made : ((hp.push (PySem.W.kdv_tup us)).push (PySem.W.excObj C hp.objs.size none .none)).get? (hp.objs.size + 1) = some (PySem.W.excObj C hp.objs.size none .none) := by heap_get
  have I2 : Inv X pins σ (upd H (hp.objs.size + 1) (exo (hp.objs.size + 1) C none)) ⟨(hp.push (PySem.W.kdv_tup us)).push (PySem.W.excObj C hp.objs.size none .none), gn, dr, tk, os⟩ :=
    I.laid (t' := tk) (a := hp.objs.size + 1) (o := exo (hp.objs.size + 1) C none) kk lo (exo_ok made)
  have r1 : Vals (V.ref (hp.objs.size + 1) :: vs) (Value.ref (hp.objs.size + 1) :: us) := .cons rfl r
  have r2 := hb.rel r1 rz
  have e1 : (Value.ref (hp.objs.size + 1) :: us).length = n + 1 := r1.length.symm.trans (congrArg Nat.succ l1)
  have e2 : ws.length = ks.length := rz.length.symm.trans l2
  have hus : us.length ≤ sizeLine := by
    rw [← Paired.length r, l1, sizeLine_eq]
    omega
  refine wpAny_call (kw_call T.FB hT oc (PySem.W.looks_findIn I.kIn iC) (fun self => PySem.W.bind_fn I.kIn self tI) hus
    (codeAny_mono (F.run _ X.stack _ _ ⟨Value.ref (hp.objs.size + 1) :: us, ks.zip ws⟩ (g (Value.ref (hp.objs.size + 1) :: us) ws) _ _ (fun _ _ _ => False) (hr.make C us (ks.zip ws)) (I2.env0.make C us (ks.zip ws)) (hb.to _ (Value.ref (hp.objs.size + 1) :: us) ws I2.kIn e1 e2) r2 hq) fun r s' hq' => ?_))
  cases r with
  | error er => exact hx pins σ _ _ er s' I2 hq'
  | ok fl =>
    cases fl with
    | ret u =>
      obtain ⟨v, H', I3, rv, ev, q3⟩ := I2.after hq'
      subst ev
      exact ⟨rv, ⟨V.ref (hp.objs.size + 1), H', I3, rfl, q3⟩⟩
    | next => exact False.elim hq'
    | brk => exact False.elim hq'
    | cont => exact False.elim hq'
end
end Ux

set_option Elab.async false
set_option linter.all false
set_option maxRecDepth 100000
set_option maxHeartbeats 4000000
namespace Ux
open PySem PySem.Spec PyProof.Rows L2
section
variable {X : Cx} {CX : CXT} {k n : Nat} {fI C : Addr} {fd : FuncData} {ps ks : List Str} {sp : Sp} {B newId initId : String} {bmB : List Value} {g : List Value → List Value → List Value} {gV : List V → List V → List V}
variable {x : Str} {p pos : Pos} {e : Expr} {es : List Expr} {kws : List Keyword} {ta tk : TA}
theorem kbn_pos {K : PySem.W.Frag} {fd : FuncData} {ps : List Str} (hb : Binds K fd ps []) (n : Nat) (hn : ps.length = n) : KBn K fd ps n [] (fun us _ => us) (fun vs _ => vs) := by
  refine ⟨fun s us ws IN l1 l2 => ?_, fun r _ => r⟩
  have hz : ws = [] := List.length_eq_zero_iff.mp l2
  subst hz
  have z := hb s us IN (by rw [List.append_nil, l1, hn])
  rw [List.append_nil] at z
  exact z
theorem kbn_mk {K : PySem.W.Frag} {y qual : Str} {st : Stmt} {f : Addr} {fd : FuncData} (F : Fun K y qual st f fd) (n : Nat) (ks : List Str) (g : {α : Type} → List α → List α → List α)
    (hrel : ∀ {vs zs : List V} {us ws : List Value}, Vals vs us → Vals zs ws → Vals (g vs zs) (g us ws))
    (h : ∀ (kV doc pm : Value) (an : Option Addr) (cdv ct : Value) (us ws : List Value), us.length = n → ws.length = ks.length → bindArgs (PySem.W.fnOf y qual (defArgs st) (defBody st) (defScope st) .none kV doc pm an cdv ct) ⟨us, ks.zip ws⟩ = pure (ps.zip (g us ws))) : KBn K fd ps n ks (fun us ws => g us ws) (fun vs zs => g vs zs) := by
  obtain ⟨oc, od, kV, doc, pm, an, cdv, ct, osl, rfl, lk, hcd⟩ := F.ex
  exact ⟨fun s us ws _ l1 l2 => .of_eq (h kV doc pm an cdv ct us ws l1 l2), fun r z => hrel r z⟩
/-- C(e, ..) -/
theorem pe_mkE (T : Ec X.K B newId initId bmB C) (iC : PySem.W.findIn X.K (.ref C) "__init__" = some (some (.ref fI))) (tI : PySem.W.typeIn X.K (.ref fI) = some (.type "function")) (F : FnOk X.prog X.w X.K X.mg X.base CX k fI fd ps sp) (hr : Room (k + 1) X.A)
    (hb : KBn X.K fd ps (n + 1) [] g gV) (hx : Passes CX X (fun _ _ _ => False)) (hn : n ≤ 1000) (hg : Gl X x) (hm : X.mg x = some (.ref C)) (ha : PA X (e :: es) ta)
    (hdb : (x == ("__debug__" : Str)) = false := by decide) (he : starEach (e :: es) X.env = (false, eval e X.env) :: starEach es X.env := by rfl) (hpl : (backTo pos (starEach es X.env)).any (·.1) = false := by rfl) :
    PE X (.Call (.Name x p) (e :: es) [] pos) (tMkE C n 0 sp gV ta tNil) := by
  refine ⟨fun pins s σ H Q I h => ?_⟩
  refine wpAny_Call_Name_kw (ld_glob I hg hm ?_ hdb)
  refine PySem.W.callWith_K (h₀ := X.base) I.ok.mod.kin T.kc (thn (ha.run pos pins s σ H _ I h) fun us s1 hh => ?_) he hpl
  obtain ⟨vs, H1, I1, r1, l1, _, z⟩ := hh
  refine ⟨I1.kIn, ?_⟩
  exact run_mkE (ks := []) (ws := []) (zs := []) T iC tI F hr hb hx I1 r1 .nil l1 rfl hn z
/-- C() -/
theorem pe_mkE0 (T : Ec X.K B newId initId bmB C) (iC : PySem.W.findIn X.K (.ref C) "__init__" = some (some (.ref fI))) (tI : PySem.W.typeIn X.K (.ref fI) = some (.type "function")) (F : FnOk X.prog X.w X.K X.mg X.base CX k fI fd ps sp) (hr : Room (k + 1) X.A)
    (hb : KBn X.K fd ps 1 [] g gV) (hx : Passes CX X (fun _ _ _ => False)) (hg : Gl X x) (hm : X.mg x = some (.ref C)) (hdb : (x == ("__debug__" : Str)) = false := by decide) : PE X (.Call (.Name x p) [] [] pos) (tMkE C 0 0 sp gV tNil tNil) := by
  refine ⟨fun pins s σ H Q I h => ?_⟩
  refine wpAny_Call_Name_kw (ld_glob I hg hm ?_ hdb)
  obtain ⟨l1, l2, z⟩ := h
  exact PySem.W.callWith_K0 I.kIn T.kc (run_mkE (ks := []) (ws := []) (zs := []) (us := []) (vs := []) T iC tI F hr hb hx I .nil .nil rfl rfl (Nat.zero_le _) z)
/-- C(k = e, ..) -/
theorem pe_mkEK (T : Ec X.K B newId initId bmB C) (iC : PySem.W.findIn X.K (.ref C) "__init__" = some (some (.ref fI))) (tI : PySem.W.typeIn X.K (.ref fI) = some (.type "function")) (F : FnOk X.prog X.w X.K X.mg X.base CX k fI fd ps sp) (hr : Room (k + 1) X.A)
    (hb : KBn X.K fd ps 1 ks g gV) (hx : Passes CX X (fun _ _ _ => False)) (hg : Gl X x) (hm : X.mg x = some (.ref C)) (hkw : PK X kws tk)
    (hall : (backToKw pos (keywordEach kws X.env)).all (·.1.isSome) = true := by rfl) (hks : (backToKw pos (keywordEach kws X.env)).filterMap (·.1) = ks := by rfl) (hdb : (x == ("__debug__" : Str)) = false := by decide)
    (hpl : ((backTo pos (starEach [] X.env)).any (·.1) || (backToKw pos (keywordEach kws X.env)).any (·.1.isNone)) = false := by rfl) :
    PE X (.Call (.Name x p) [] kws pos) (tMkE C 0 ks.length sp gV tNil tk) := by
  refine ⟨fun pins s σ H Q I h => ?_⟩
  refine wpAny_Call_Name_kw (ld_glob I hg hm ?_ hdb)
  refine PySem.W.callWith_KW0 (h₀ := X.base) I.ok.mod.kin T.kc hall ?_ hpl
  refine thn (hkw.run pos pins s σ H _ I h) fun ws s2 hh => ?_
  obtain ⟨zs, H2, I2, rz, l1, l2, z⟩ := hh
  refine ⟨I2.kIn, ?_⟩
  rw [hks]
  exact run_mkE (us := []) (vs := []) T iC tI F hr hb hx I2 .nil rz rfl l2 (Nat.zero_le _) z
end
/-! ### isinstance of an error -/
structure Ei (K : PySem.W.Frag) (C : Addr) : Prop where
  cl : (PySem.W.clsIn K C).isSome = true
  hg : PySem.W.findIn K (.ref C) "__getattribute__" = some (some (.builtin "BaseException.__getattribute__"))
  hk : PySem.W.findIn K (.ref C) "__getattr__" = some none
  hs : PySem.W.subIn K (.ref C) (.type "BaseException") = some true
  ha : PySem.W.findIn K (.ref C) "__class__" = some (some (.builtin "object.__class__"))
  hn : PySem.W.specialIn K (.builtin "object.__class__") "__get__" = some (some (.builtin "getset_descriptor.__get__"))
  ht : PySem.W.takesIn K (.builtin "object.__class__") = some true
  hm : PySem.W.mroIn K C (.type "object") = some true
/-- isinstance(e, c), e an error with its dict -/
def rIsEr (K : PySem.W.Frag) : List V → Hp → VK → Prop := fun xs H Q => ∃ (a C dx : Addr) (fs : List (Str × V)) (c : V) (u : Value) (b : Bool), xs = [.ref a, c] ∧ ClsV c u ∧ Ei K C ∧ H a = some (exo a C (some dx)) ∧ H dx = some (exd dx fs) ∧ PySem.W.kitOne K (.ref C) u = some b ∧ Q (.bl b) H
theorem call_isEr {X : Cx} : CallR X (.builtin "isinstance") (rIsEr X.K) := by
  intro pins s σ H xs us Q I r h
  obtain ⟨a, C, dx, fs, c, u, b, rfl, kc, E, ea, ed, e, q⟩ := h
  obtain ⟨u1, u2, rfl, r1, r2⟩ := vals2 r
  cases (show u1 = Value.ref a from r1)
  have ec := kc.eq r2
  subst ec
  obtain ⟨t1, hoa⟩ := exo_at I.hok ea
  obtain ⟨mA, hns, hr⟩ := exd_at I.hok ed
  obtain ⟨od, hod, hl⟩ := lookIn_ns hns
  have J : PySem.W.InstAt s.heap a (PySem.W.excObj C t1 (some dx) .none) C (some od) := ⟨hoa, rfl, rfl, hod⟩
  exact PySem.W.kia_one (PySem.W.kitx_exc E.cl E.hg E.hk E.hs E.ha E.hn E.ht E.hm) I.kIn J e (fun z => nomatch z) fun tk => ⟨.bl b, H, I.tok tk, rfl, q⟩
/-! ### abs and str of a truth value -/
theorem abs_true {prog : Program} {w : World} {A : Around} {E : Value → Shared → Prop} {s : Shared} {Q : Value → Shared → Prop} (h : ∀ u tk, Q (.int 1 u) { s with toks := tk }) : wpAny (model prog w) A (call (.builtin "abs") [.bool true]) Q E s := by
  refine PySem.Calls.call_function_entry kind_abs plain_abs entry_abs (args_abs _) ?_
  unfold Builtin.«abs»
  refine wpAny_bind (m := oneArg "abs" _) (wpAny_pure ?_)
  refine wpAny_bind (m := callSpecial? (.bool true) (Str.ofString "__abs__")) (wpAny_callSpecial?_slot (name := Str.ofString "__abs__") (PySem.typeIs_bool s true) F.slot_bool_abs
    (wpAny_call_entry F.slot_bool_abs (PySem.typeIs_bool s true) entry_int_abs ?_ (args_int_abs _)))
  have h' := h s.toks (s.toks + 1)
  exact wpAny_ret_mkInt (wpAny_pure ⟨_, rfl, h'⟩)
theorem call_absT {X : Cx} : CallR X (.builtin "abs") (fun xs H Q => (∃ i, xs = [.int i] ∧ Q (.int (if i < 0 then -i else i)) H) ∨ (xs = [.bl true] ∧ Q (.int 1) H)) := by
  intro pins s σ H xs us Q I r h
  rcases h with ⟨i, rfl, q⟩ | ⟨rfl, q⟩
  · obtain ⟨u, rfl, t, rfl⟩ := vals1 r
    exact call_abs_int fun u tk => ⟨.int (if i < 0 then -i else i), H, I.tok _, ⟨_, rfl⟩, q⟩
  · obtain ⟨u, rfl, r1⟩ := vals1 r
    cases (show u = Value.bool true from r1)
    exact abs_true fun u tk => ⟨.int 1, H, I.tok _, ⟨_, rfl⟩, q⟩
theorem str_true {prog : Program} {w : World} {A : Around} {E : Value → Shared → Prop} {s : Shared} {Q : Value → Shared → Prop} (h : Q (.str "True" s.toks) { s with toks := s.toks + 1 }) : wpAny (model prog w) A (call (.type "str") [.bool true]) Q E s :=
  callType_new F.called_str (by decide) (F.typeCall_str_1 _) (F.newCall_str_1 _) (fun obj => F.args_object_init_2 obj _) F.entry_str_new
    (meets_str_new (S := fun _ R s => R (.ok (.ret (.str "True" s.toks))) { s with toks := s.toks + 1 }) fun _ _ _ _ s hq =>
      wpAny_strOf_gives rfl (PySem.typeIs_bool s true) F.slot_bool_str F.slot_bool_repr F.entry_bool_repr (F.args_bool_repr_1 _) (gives_bool_repr true) hq (hsz := by decide)) ⟨typeIs_str _ _ _, h⟩
theorem call_strT {X : Cx} : CallR X (.type "str") (fun xs H Q => (∃ i, xs = [.int i] ∧ i.natAbs.log2 < 1920 ∧ Q (.str (toString i)) H) ∨ (xs = [.bl true] ∧ Q (.str "True") H)) := by
  intro pins s σ H xs us Q I r h
  rcases h with ⟨i, rfl, hz, q⟩ | ⟨rfl, q⟩
  · obtain ⟨u, rfl, t, rfl⟩ := vals1 r
    exact PySem.P.str_of_int hz ⟨.str _, H, I.tok _, ⟨_, rfl⟩, q⟩
  · obtain ⟨u, rfl, r1⟩ := vals1 r
    cases (show u = Value.bool true from r1)
    exact str_true ⟨.str _, H, I.tok _, ⟨_, rfl⟩, q⟩
theorem call_reprS {X : Cx} : CallR X (.builtin "repr") (fun xs H Q => ∃ x, xs = [.str x] ∧ (reprText x).length ≤ sizeLine ∧ Q (.str (reprText x)) H) := by
  intro pins s σ H xs us Q I r h
  obtain ⟨x, rfl, hz, q⟩ := h
  obtain ⟨u, rfl, t, rfl⟩ := vals1 r
  exact PySem.P.repr_of_str (hsz := hz) ⟨.str _, H, I.tok _, ⟨_, rfl⟩, q⟩
end Ux

set_option Elab.async false
set_option linter.all false
set_option maxRecDepth 100000
set_option maxHeartbeats 4000000
/-! Own classes: str, repr, == and != by the text's own methods. -/
namespace Ux
open PySem PySem.Spec PyProof.Rows L2
section
variable {X : Cx} {pins : List (Addr × Obj)} {σ : L2.St} {H : Hp} {s : Shared} {k : Nat} {f C : Addr} {fd : FuncData} {ps : List Str} {sp : Sp}
theorem own_run {A' : Around} {us : List Value} {vs : List V} {Q : VK} {R : Value → Shared → Prop} {E' : Value → Shared → Prop} (F : FnOk X.prog X.w X.K X.mg X.base CX0 k f fd ps sp) (hr : Room k A') (e0 : Env0 X.prog X.w X.K X.mg X.base A' X.stack s H)
    (hb : Binds X.K fd ps []) (I : Inv X pins σ H s) (r : Vals vs us) (h : sp vs H Q (fun _ _ _ => False)) (z : ∀ u s', EP X pins σ Q u s' → R u s') : wpAny (model X.prog X.w) A' (call (.ref f) us) R E' s := by
  have hl : us.length = ps.length := r.length.symm.trans (F.len _ _ _ _ h)
  have b := hb s us I.kIn (by rw [List.append_nil]; exact hl)
  rw [List.append_nil] at b
  refine wpAny_call (codeAny_mono (F.run A' X.stack s H ⟨us, []⟩ us vs Q (fun _ _ _ => False) hr e0 b r h) fun r s' hq => ?_)
  cases r with
  | error e => exact False.elim hq
  | ok fl =>
    cases fl with
    | ret u => exact z u s' (I.after hq)
    | next => exact False.elim hq
    | brk => exact False.elim hq
    | cont => exact False.elim hq
/-- an own method by its name, on an instance -/
structure OwnM (K : PySem.W.Frag) (C : Addr) (m : Str) (f : Addr) : Prop where
  at_ : PySem.W.findIn K (.ref C) m = some (some (.ref f))
  fn : PySem.W.isFn K (.ref f) = true
/-- a text handed back -/
def rOwnS (C : Addr) (sp : Sp) : List V → Hp → VK → Prop := fun xs H Q => ∃ (a dx : Addr) (fs : List (Str × V)), xs = [.ref a] ∧ H a = some (.ins C dx fs) ∧ sp [.ref a] H (fun v H' => ∃ z, v = .str z ∧ Q (.str z) H') (fun _ _ _ => False)
theorem call_strO (M : OwnM X.K C "__str__" f) (F : FnOk X.prog X.w X.K X.mg X.base CX0 k f fd ["self"] sp) (hb : Binds X.K fd ["self"] []) (hr : Room (k + 2) X.A) : CallR X (.type "str") (rOwnS C sp) := by
  intro pins s σ H xs us Q I r h
  obtain ⟨a, dx, fs, rfl, ea, q⟩ := h
  obtain ⟨u, rfl, rx⟩ := vals1 r
  cases (show u = Value.ref a from rx)
  obtain ⟨mA, O, _⟩ := ins_get I.hok ea
  obtain ⟨od, J, _⟩ := O.look
  refine PySem.W.kso_call hr.in1.in1.units0 I.kIn J M.at_ M.fn (own_run F hr.in1.in1 I.env0.in1.in1 hb (vs := [.ref a]) I (.cons rfl .nil) q fun u s' hq => ?_)
  obtain ⟨v, H', I', rv, z, ev, q'⟩ := hq
  subst ev
  obtain ⟨t, rfl⟩ := rv
  exact ⟨.str z, H', I', ⟨t, rfl⟩, q'⟩
theorem call_reprO (M : OwnM X.K C "__repr__" f) (F : FnOk X.prog X.w X.K X.mg X.base CX0 k f fd ["self"] sp) (hb : Binds X.K fd ["self"] []) (hr : Room (k + 1) X.A) : CallR X (.builtin "repr") (rOwnS C sp) := by
  intro pins s σ H xs us Q I r h
  obtain ⟨a, dx, fs, rfl, ea, q⟩ := h
  obtain ⟨u, rfl, rx⟩ := vals1 r
  cases (show u = Value.ref a from rx)
  obtain ⟨mA, O, _⟩ := ins_get I.hok ea
  obtain ⟨od, J, _⟩ := O.look
  obtain ⟨m, hF⟩ := I.fr
  refine PySem.W.repr_K hr.in1.units0 hF I.ok.mod.kin J M.at_ M.fn (own_run F hr.in1 I.env0.in1 hb (vs := [.ref a]) I (.cons rfl .nil) q fun u s' hq => ?_)
  obtain ⟨v, H', I', rv, z, ev, q'⟩ := hq
  subst ev
  obtain ⟨t, rfl⟩ := rv
  exact ⟨.str z, H', I', ⟨t, rfl⟩, q'⟩
/-- o == y, o != y by o's own __eq__ -/
def rOwnEq (K : PySem.W.Frag) (C : Addr) (sp : Sp) (neg : Bool) : R2 := fun x y H Q => ∃ (a dx : Addr) (fs : List (Str × V)) (t : Value), x = .ref a ∧ H a = some (.ins C dx fs) ∧ TyX K H y t ∧ PySem.W.notFirst K C t = true ∧ sp [x, y] H (fun v H' => ∃ b, v = .bl b ∧ Q (.bl (b != neg)) H') (fun _ _ _ => False)
theorem op_eqO (M : OwnM X.K C "__eq__" f) (F : FnOk X.prog X.w X.K X.mg X.base CX0 k f fd ["self", "other"] sp) (hb : Binds X.K fd ["self", "other"] []) (hr : Room k X.A) : OpR X (compareOp .Eq) (rOwnEq X.K C sp false) := by
  intro pins s σ H x y v u Q I rx ry h
  obtain ⟨a, dx, fs, t, rfl, ea, ty, nf, q⟩ := h
  cases (show v = Value.ref a from rx)
  obtain ⟨mA, O, _⟩ := ins_get I.hok ea
  obtain ⟨od, J, _⟩ := O.look
  obtain ⟨m, hF⟩ := I.fr
  obtain ⟨P', Z, hp, _⟩ := kit_of I ry ty
  show wpAny (model X.prog X.w) X.A (richCompare .Eq (.ref a) u) (EP X pins σ Q) X.xe s
  refine PySem.W.cmp_K (op := .Eq) (tb := t) hr.units0 hF I.ok.mod.kin J (Z.ty _ _ I.kIn hp) nf M.at_ M.fn (own_run F hr I.env0 hb (vs := [.ref a, y]) I (.cons rfl (.cons ry .nil)) q fun w s' hq => ?_)
  obtain ⟨v, H', I', rv, b, ev, q'⟩ := hq
  subst ev
  cases (show w = Value.bool b from rv)
  have e : (b != false) = b := by cases b <;> rfl
  rw [e] at q'
  exact ⟨.bl b, H', I', rfl, q'⟩
/-- what != wants besides: the class keeps object's __ne__ -/
structure NeO (K : PySem.W.Frag) (C : Addr) : Prop where
  ne : PySem.W.findIn K (.ref C) "__ne__" = some (some (.builtin "object.__ne__"))
  ob : PySem.W.mroIn K C (.type "object") = some true
end
end Ux
namespace Ux
open PySem PySem.W
section
variable {prog : Program} {w : World} {M : Model} {A : Around} {E : Value → Shared → Prop} {s : Shared} {K : Frag} {x C L f : Addr} {h₀ : Heap} {m : Str → Option Value} {ox : Obj} {od : Option Obj} {tb b : Value}
theorem ifBound_bi {name : Str} {id : String} {args : List Value} {Q : Option Value → Shared → Prop} (IN : K.In s.heap) (I : InstAt s.heap x ox C od) (hs : findIn K (.ref C) name = some (some (.builtin id))) (hb : ∀ self, bindSpecial (.builtin id) self = pure (.builtin id, [self]))
    (hn : (Value.builtin id == Value.none) = false) (h : wpAny M A (call (.builtin id) (.ref x :: args)) (fun v => Q (some v)) E s) : wpAny M A (callSpecialIfBound? (.ref x) name args) Q E s := by
  simp only [callSpecialIfBound?, bindSpecialIfBound?]
  refine wpAny_holding (wpAny_bind (wpAny_bind (wpAny_bind (I.type.here ((looks_findIn IN hs).here ?_)))))
  simp only [hb]
  refine wpAny_bind (wpAny_askSetting (wpAny_ite ?_))
  have last : wpAny M A (call (.builtin id) ([.ref x] ++ args) >>= fun v => pure (some v)) Q E s := wpAny_bind (wpAny_mono h (fun v s' z => wpAny_pure z) fun _ _ z => z)
  split
  · exact wpAny_bind (wpAny_pure (wpAny_pure last))
  · exact wpAny_tryCatch (wpAny_bind (wpAny_pure (wpAny_pure last)))
/-- o != b where o has its own __eq__ and keeps object's __ne__ -/
theorem ne_own {Q : Value → Shared → Prop} (hu : A.units < cLine) (hu1 : A.in1.units < cLine) (IN : K.In s.heap) (I : InstAt s.heap x ox C od) (hb : Looks (model prog w) s.heap (typeOf b) tb) (hn : notFirst K C tb = true)
    (hne : findIn K (.ref C) "__ne__" = some (some (.builtin "object.__ne__"))) (hm : mroIn K C (.type "object") = some true) (hs : findIn K (.ref C) "__eq__" = some (some (.ref f))) (hf : isFn K (.ref f) = true)
    (h : wpAny (model prog w) A.in1 (call (.ref f) [.ref x, b]) (fun v s' => ∃ r, v = .bool r ∧ Q (.bool (!r)) s') E s) : wpAny (model prog w) A (richCompare .NotEq (.ref x) b) Q E s := by
  have SL := PySem.F.cmp_object.ne
  have one : wpAny (model prog w) A (tryCompare (.ref x) "__ne__" b) (fun r s' => ∃ v, r = some v ∧ Q v s') E s := by
    unfold tryCompare
    refine wpAny_bind (ifBound_bi IN I hne SL.bind rfl ?_)
    refine wpAny_call (codeAny_call_builtin SL.plain PySem.F.cmpEntry_ne (check_slot (i := "object.__ne__") (owner := "object") (n := "__ne__") PySem.F.cmpKind_ne PySem.F.cmpSplit_ne (I.type.andThen (looks_mroIn IN hm)) (PySem.F.cmpArgs_ne _ _) ?_))
    unfold Builtin.«object.__ne__»
    refine wpAny_bind (m := slotArgs "__ne__" 1 _) (wpAny_pure ?_)
    refine wpAny_bind (m := cRoomFor _ _) (wpAny_cRoomFor hu1 ?_)
    refine wpAny_bind (m := callSpecialIfBound? (.ref x) (Str.ofString "__eq__") _) (ifBound_K IN I hs hf (wpAny_mono h (fun v s' z => ?_) fun _ _ z => z))
    obtain ⟨r, rfl, q⟩ := z
    refine wpAny_bind (wpAny_truthy_bool ?_)
    exact wpAny_pure (wpAny_pure ⟨_, rfl, q⟩)
  have SN : (cmpInfo .NotEq).2.1 = ("__ne__" : Str) := rfl
  unfold richCompare
  simp only [oneThing_ref, cmpInfo_NotEq]
  refine wpAny_holding (wpAny_bind (wpAny_cRoomFor hu ?_))
  refine wpAny_bind (I.type.here (wpAny_bind (hb.here ?_)))
  split
  · rename_i q
    have e : subIn K tb (.ref C) = some false := by
      rcases Bool.or_eq_true_iff.mp hn with e | e
      · rw [beq_iff_eq.mp e] at q
        simp at q
      · exact beq_iff_eq.mp e
    refine wpAny_bind ((looks_subIn IN e).here ?_)
    simp only [Bool.false_eq_true, if_false]
    refine wpAny_bind (wpAny_mono one (fun r s' z => ?_) fun _ _ e => e)
    obtain ⟨v, rfl, hq⟩ := z
    exact wpAny_pure hq
  · refine wpAny_bind (wpAny_pure ?_)
    simp only [Bool.false_eq_true, if_false]
    refine wpAny_bind (wpAny_mono one (fun r s' z => ?_) fun _ _ e => e)
    obtain ⟨v, rfl, hq⟩ := z
    exact wpAny_pure hq
end
end Ux
namespace Ux
open PySem PySem.Spec PyProof.Rows L2
section
variable {X : Cx} {k : Nat} {f C : Addr} {fd : FuncData} {sp : Sp}
theorem op_neO (M : OwnM X.K C "__eq__" f) (N : NeO X.K C) (F : FnOk X.prog X.w X.K X.mg X.base CX0 k f fd ["self", "other"] sp) (hb : Binds X.K fd ["self", "other"] []) (hr : Room (k + 1) X.A) : OpR X (compareOp .NotEq) (rOwnEq X.K C sp true) := by
  intro pins s σ H x y v u Q I rx ry h
  obtain ⟨a, dx, fs, t, rfl, ea, ty, nf, q⟩ := h
  cases (show v = Value.ref a from rx)
  obtain ⟨mA, O, _⟩ := ins_get I.hok ea
  obtain ⟨od, J, _⟩ := O.look
  obtain ⟨P', Z, hp, _⟩ := kit_of I ry ty
  show wpAny (model X.prog X.w) X.A (richCompare .NotEq (.ref a) u) (EP X pins σ Q) X.xe s
  refine ne_own (tb := t) hr.units0 hr.in1.units0 I.kIn J (Z.ty _ _ I.kIn hp) nf N.ne N.ob M.at_ M.fn (own_run F hr.in1 I.env0.in1 hb (vs := [.ref a, y]) I (.cons rfl (.cons ry .nil)) q fun w s' hq => ?_)
  obtain ⟨v, H', I', rv, b, ev, q'⟩ := hq
  subst ev
  cases (show w = Value.bool b from rv)
  have e : (b != true) = !b := by cases b <;> rfl
  rw [e] at q'
  exact ⟨b, rfl, .bl (!b), H', I', rfl, q'⟩
end
end Ux

set_option Elab.async false
set_option linter.all false
set_option maxRecDepth 100000
set_option maxHeartbeats 4000000
namespace Ux
open PySem PySem.Spec PyProof.Rows L2
/-! ### try: .. except (A, B) as n: .., where every exception of the body is caught -/
/-- what such a clause wishes of an exception -/
def wAs2 (K : PySem.W.Frag) (C1 C2 : Addr) (len i : Nat) (ts : Addr → Value → Option Addr → TS) (D : Ends) : WX := fun cls d σ H =>
  PySem.W.exmAny K cls [.ref C1, .ref C2] = some true ∧ ∀ a, H a = none → σ.length = len →
    ts a cls d ⟨fun σ' H' => D.nx (σ'.set i none) H', D.rt, fun σ' H' => D.bk (σ'.set i none) H', fun σ' H' => D.ct (σ'.set i none) H'⟩ (σ.set i (some (.ref a))) H
theorem fly_push {B h : Heap} {l : List Env} {e : Addr} {Z : Obj → Prop} {o : Obj} (f : HandSPX.FlyingZ B l e Z h) : HandSPX.FlyingZ B l e Z (h.push o) := by
  obtain ⟨k1, k2, k3, oe, vs, T, oT, ts, a1, a2, a3, a4, a5, a6, a7, a8, a9⟩ := f
  have kp : ∀ {b u}, h.get? b = some u → (h.push o).get? b = some u := fun z => Heap.get?_push_of_some _ z
  exact ⟨fun b u z => kp (k1 b u z), k2, k3.of_keeps fun b u z _ => ⟨u, kp z, rfl⟩, oe, vs, T, oT, ts, kp a1, a2, a3, a4, a5, a6, kp a7, a8, a9⟩
section
variable {X : Cx} {x1 x2 n : Str} {C1 C2 : Addr} {i : Nat} {body suite : List Stmt} {b₀ : Stmt} {p1 p2 tpos pos pos' : Pos} {kk : Nat} {tb : WX → TS} {ts : Addr → Value → Option Addr → TS}
theorem ps_try_as2 (hs : X.stack = X.env :: X.outer) (hf : X.env.frame = some X.env.locals) (hN : X.N.Nodup) (hi : X.N[i]? = some n) (hln : X.env.kindOf n = some .local)
    (g1 : Gl X x1) (g2 : Gl X x2) (m1 : X.mg x1 = some (.ref C1)) (m2 : X.mg x2 = some (.ref C2)) (d1 : (x1 == ("__debug__" : Str)) = false) (d2 : (x2 == ("__debug__" : Str)) = false)
    (hb : ∀ (W : WX) (pn : List (Addr × Obj)) (xe : Value → Shared → Prop), Takes (X.tr pn xe) W → PassesOwn (model X.prog X.w) X.A X.env xe → PSs (X.tr pn xe) body (tb W))
    (hsu : ∀ (a : Addr) (oe : Obj) (cls : Value) (d : Option Addr) (pn : List (Addr × Obj)), Zc cls d oe → (∃ vs, oe.data = .fields vs) → PSs (X.suite a ((a, oe) :: pn)) (b₀ :: suite) (ts a cls d)) :
    PS X (.Try body [.ExceptHandler (some (.Tuple [.Name x1 p1, .Name x2 p2] kk tpos)) (some n) (b₀ :: suite) pos'] [] [] pos) (fun D σ H => tb (wAs2 X.K C1 C2 X.N.length i ts D) D σ H) := by
  constructor
  intro pins s σ H D I h
  have ok := I.ok
  have frm : X.A.frames = some (X.env :: X.outer) := ok.frames.trans (congrArg some hs)
  refine wpAny_Try_except (wpAny_mono ((hb (wAs2 X.K C1 C2 X.N.length i ts D) (X.pn ++ pins) (fun e s₁ => wpAny (model X.prog X.w) X.A (noteFrame e X.env) (fun _ s₂ => wpAny (model X.prog X.w) X.A (setFlight e none)
    (fun _ s₃ => wpAny (model X.prog X.w) X.A (handleBy e X.env [.ExceptHandler (some (.Tuple [.Name x1 p1, .Name x2 p2] kk tpos)) (some n) (b₀ :: suite) pos']) (SP X pins D) X.xe s₃) X.xe s₂) X.xe s₁)
    (fun u sx caught => ?_) PassesOwn.looking).run [] s σ H D (I.toTry _) h) (fun f sf done => ?_) (fun _ _ z => z))
  · obtain ⟨a, B, sI, pins', σc, Hc, cls, d, rfl, Jt, nb, up, sky, na, os, ag, hm, go⟩ := caught
    have J := Jt.ofTry ok
    rw [hs] at sky
    show wpAny (model X.prog X.w) X.A (noteFrame (.ref a) X.env) _ _ _
    refine Sky.land Zc.steady frm hf sky fun h1 fl1 up1 => ?_
    have J1 : Inv X pins σc Hc { sx with heap := h1 } := J.landed nb fl1.1 (up.trans up1) os ag
    obtain ⟨oe, vs, he, hz, hd⟩ := fl1.there
    have out : a ∉ frs (X.env :: X.outer) := fun m => by
      obtain ⟨_, o', e', hnf⟩ := fl1.2.2.1.mem m
      have q := Option.some.inj (he.symm.trans e')
      exact hnf vs (q ▸ hd)
    have nL : a ≠ X.env.locals := fun z => out (List.mem_filterMap.mpr ⟨X.env, List.mem_cons_self, hf.trans (congrArg some z.symm)⟩)
    have nF : a ∉ X.fs := fun m => by
      obtain ⟨e, h2, h3⟩ := List.mem_filterMap.mp m
      exact out (List.mem_filterMap.mpr ⟨e, List.mem_cons_of_mem _ h2, h3⟩)
    have S1 := J1.suite he hd na nL nF
    refine wpAny_handleBy_cons (codeAny_handlers_test ?_) (by intro q; cases q)
    have LT : PySem.W.Looks (model X.prog X.w) h1 (typeOf (.ref a)) cls := fun A Q E s k q => wpAny_typeOf_ref (k _ _ he) (hz.1.symm ▸ q)
    refine wpAny_Tuple (wpAny_items_cons (ld_glob (X := X.suite a ((a, oe) :: (X.pn ++ pins))) S1 g1 m1 ?_ d1))
    refine wpAny_items_cons (ld_glob (X := X.suite a ((a, oe) :: (X.pn ++ pins))) S1 g2 m2 ?_ d2)
    refine wpAny_items_nil ⟨(by show 2 ≤ sizeLine; decide), ?_⟩
    have kp : ∀ q o, h1.get? q = some o → (h1.push { cls := .type "tuple", data := .seq [Value.ref C1, Value.ref C2].toArray }).get? q = some o := fun _ _ z => Heap.get?_push_of_some _ z
    refine (PySem.W.exm_tup2 (J1.kIn.keeps kp) (LT.keeps kp) (Heap.get?_push_size h1 rfl) hm).here ?_
    refine codeAny_handlers_suite_as (HandSPX.lands_againZ (fly_push fl1) fun h2 fl2 up2 => ?_)
    have J2 : Inv X pins σc Hc { sx with heap := h2 } := J.landed nb fl2.1 (((up.trans up1).trans (Heap.UpToSlots.of_keeps kp)).trans up2) os ag
    obtain ⟨oe2, vs2, he2, hz2, hd2⟩ := fl2.there
    have S2 := J2.suite he2 hd2 na nL nF
    refine store_ok (X := X.suite a ((a, oe2) :: (X.pn ++ pins))) (v := .ref a) S2 hN hi (.inl hln) rfl (fun s3 S3 => ?_) (.inr hln)
    refine wpAny_mono ((hsu a oe2 cls d (X.pn ++ pins) hz2 ⟨_, hd2⟩).run [] s3 _ Hc _ S3 (go a na J.len)) (fun f s4 fin => ?_) (fun _ _ z => z.elim)
    have gone : ∀ {σ4 : L2.St} {H4 : Hp} {Q : Shared → Prop}, Inv (X.suite a ((a, oe2) :: (X.pn ++ pins))) [] σ4 H4 s4 → (∀ s5, Inv X pins (σ4.set i none) H4 s5 → Q s5) →
        wpAny (model X.prog X.w) X.A (do bindName X.env n .none; unbindBehindTheSuite X.env n pos') (fun _ s5 => Q s5) X.xe s4 := fun S4 q4 => gone_ok (S4.unsuite ok) hN hi hln q4
    cases f with
    | ret u =>
      obtain ⟨v4, σ4, H4, S4, r4, q4⟩ := fin
      exact gone S4 fun s5 J5 => ⟨_, _, _, J5, r4, q4⟩
    | next =>
      obtain ⟨σ4, H4, S4, q4⟩ := fin
      exact gone S4 fun s5 J5 => ⟨_, _, J5, q4⟩
    | brk =>
      obtain ⟨σ4, H4, S4, q4⟩ := fin
      exact gone S4 fun s5 J5 => ⟨_, _, J5, q4⟩
    | cont =>
      obtain ⟨σ4, H4, S4, q4⟩ := fin
      exact gone S4 fun s5 J5 => ⟨_, _, J5, q4⟩
  · cases f with
    | ret u =>
      obtain ⟨v, σ5, H5, J5, r, q⟩ := done
      exact ⟨v, σ5, H5, J5.ofTry ok, r, q⟩
    | next =>
      obtain ⟨σ5, H5, J5, q⟩ := done
      exact wpAny_execs_nil ⟨σ5, H5, J5.ofTry ok, q⟩
    | brk =>
      obtain ⟨σ5, H5, J5, q⟩ := done
      exact ⟨σ5, H5, J5.ofTry ok, q⟩
    | cont =>
      obtain ⟨σ5, H5, J5, q⟩ := done
      exact ⟨σ5, H5, J5.ofTry ok, q⟩
end
end Ux

set_option Elab.async false
set_option linter.all false
set_option maxRecDepth 100000
set_option maxHeartbeats 4000000
namespace Ux
open PySem PySem.Spec PyProof.Rows L2
/-! ### within an except suite: fields of the caught exception, defs that are handed it -/
/-- a caught exception: its class C, its dict dd -/
def Caught (p : Addr × Obj) (C dd : Addr) : Prop := Zc (.ref C) (some dd) p.2 ∧ ∃ vs, p.2.data = .fields vs
/-- e.f, e the exception of a pin -/
def tPf (a dd : Addr) (f : Str) (te : TE) : TE := fun σ H Q => te σ H fun x H1 => ∃ (fs : List (Str × V)) (v : V), x = .ref a ∧ H1 dd = some (.xd fs) ∧ fs.lookup f = some v ∧ Q v H1
section
variable {X : Cx} {C dd : Addr} {p : Addr × Obj} {e : Expr} {te : TE} {pos : Pos} {f : Str}
theorem pe_pf (T : XfC X.K C) (no : PySem.W.findIn X.K (.ref C) f = some none) (hp : p ∈ X.pn) (c : Caught p C dd) (he : PE X e te) (hb : attributeBase e f X.env (eval e X.env) = eval e X.env := by rfl) : PE X (.Attribute e f pos) (tPf p.1 dd f te) := by
  constructor
  intro pins s σ H Q I h
  refine attr_of hb (thn (he.run pins s σ H _ I h) fun u s1 got => ?_)
  obtain ⟨x, H1, I1, rx, fs, v, rfl, hx, l, q⟩ := got
  cases (show u = Value.ref p.1 from rx)
  obtain ⟨⟨z1, z2⟩, vs, hd⟩ := c
  have ok : ObjOk X.prog X.w H1 s1.heap dd (.xd fs) := I1.hok dd _ hx
  obtain ⟨mA, ns, rel⟩ := ok
  obtain ⟨od, ho, hl⟩ := lookIn_ns ns
  obtain ⟨w, hw, rw'⟩ := RelO.some_of (v := v) (o := mA f) (l ▸ rel f)
  have J : PySem.W.InstAt s1.heap p.1 p.2 C (some od) := ⟨(I1.pin p (List.mem_append_left _ hp)).1, z1, by unfold PySem.W.notCls; rw [hd] <;> rfl, by rw [z2]; exact ho⟩
  exact HandSPX.exc_get I1.kIn J T.ga T.gg T.exC (PySem.W.findObj_own T.hdC no rfl ((hl f).trans (congrArg some hw))) (handed_of rw') ⟨v, H1, I1.tok _, rw', q⟩
end
/-- what a def promises that is called while p's exception is handled -/
structure FnQ (P : Program) (w : World) (K : PySem.W.Frag) (mg : Str → Option Value) (base : Heap) (k : Nat) (f : Addr) (fd : FuncData) (ps : List Str) (sp : Addr × Obj → Sp) : Prop where
  len : ∀ p vs H Q E, sp p vs H Q E → vs.length = ps.length
  run : ∀ (A : Around) (outer : List Env) (s : Shared) (H : Hp) (args : Args) (us : List Value) (vs : List V) (Q : VK) (E : XK) (p : Addr × Obj), L2H.RoomH k A → L2H.PinOk outer H s p → Env0 P w K mg base A outer s H → BindsTo s fd args (ps.zip us) → Vals vs us → sp p vs H Q E →
    codeAny (model P w) A (.call (.ref f) args) (CR CX0 outer P w H s Q E) s
theorem Fun.okQ {P : Program} {w : World} {K : PySem.W.Frag} {mg : Str → Option Value} {base : Heap} {k : Nat} {f : Addr} {fd : FuncData} {x qual : Str} {st : Stmt} {N ps : List Str} {sp : Addr × Obj → Sp} (F : Fun K x qual st f fd) (S : FnScope N ps (defScope st))
    (len : ∀ p vs H Q E, sp p vs H Q E → vs.length = ps.length)
    (body : ∀ (cdv : Value) (A : Around) (outer : List Env) (s : Shared) (H : Hp) (vs : List V) (Q : VK) (E : XK) (p : Addr × Obj), L2H.RoomH k (A.deeper (envOfC qual (defScope st) s.heap.objs.size f cdv)) → sp p vs H Q E →
      ∃ t, PSs (L2H.cxH CX0 P w K mg base N qual (defScope st) f cdv A outer s H E p) (defBody st) t ∧ t { nx := fun _ H' => Q .non H', rt := Q } (L2.start N vs) H) :
    FnQ P w K mg base (k + 1) f fd ps sp := by
  obtain ⟨oc, od, kV, doc, pm, an, cdv, ct, osl, rfl, lk, hcd⟩ := F.ex
  refine ⟨len, fun A outer s H args us vs Q E p hr pin e0 hb r want => ?_⟩
  have kin : K.In s.heap := e0.mod.kin.keeps fun b o z => (e0.bs b o z).1
  have lim : s.heap.NoLimit := e0.mod.nolimit.keeps fun b o z => (e0.bs b o z).1
  have kinds : ∀ y ∈ ps.zip us, (defScope st).names.lookup y.1 = some .local ∨ ((defScope st).names.lookup y.1 = some .cell ∧ ((cellsFrom (s.heap.objs.size + 1) (defScope st).names []).lookup y.1).isSome = true) := by
    rintro ⟨n, v⟩ hy
    rcases S.par n (List.of_mem_zip hy).1 with z | z
    · exact .inl z
    · exact .inr ⟨z, PySem.W.cellsFrom_some _ _ _ (.inl z)⟩
  refine codeAny_call_function hr.depth (kin _ _ lk) rfl S.co S.gen rfl (PySem.W.codeRec_of kin hcd) (hb _ _ _ _ (wpAny_newFunctionEnv_cells S.kind kinds fun env he s1 inn => ?_))
  subst he
  obtain ⟨t, ht, hq⟩ := body cdv A outer s H vs Q E p (hr.deeper _) want
  have I := L2H.inv_startH (CX := CX0) (E := E) S pin e0 (len _ _ _ _ _ want) r inn
  refine ⟨lim.keeps inn.toInCall.keep, codeAny_func (wpAny_mono (ht.run [] s1 (L2.start N vs) H _ I hq) (fun fl s2 fin => ?_) fun _ _ z => z)⟩
  cases fl with
  | ret u =>
    obtain ⟨v, σ2, H2, J, rv, q⟩ := fin
    exact ⟨v, H2, J.os, J.bare, J.base, J.hok, rv, q⟩
  | next =>
    obtain ⟨σ2, H2, J, q⟩ := fin
    exact ⟨.non, H2, J.os, J.bare, J.base, J.hok, rfl, q⟩
  | brk =>
    obtain ⟨_, _, _, q⟩ := fin
    exact q.elim
  | cont =>
    obtain ⟨_, _, _, q⟩ := fin
    exact q.elim
/-- such a call, with one argument -/
def tCallQ (p : Addr × Obj) (sp : Addr × Obj → Sp) (t : TA) : TE := fun σ H Q => t σ H fun vs H1 => sp p vs H1 Q E0
section
variable {X : Cx} {k : Nat} {f : Addr} {fd : FuncData} {ps : List Str} {sp : Addr × Obj → Sp} {x : Str} {q pos : Pos} {e : Expr} {es : List Expr} {t : TA} {p : Addr × Obj}
theorem pe_callQ (F : FnQ X.prog X.w X.K X.mg X.base k f fd ps sp) (hr : L2H.RoomH k X.A) (hp : p ∈ X.pn) (hg : Gl X x) (hm : X.mg x = some (.ref f)) (hk : PySem.W.keepIn X.K (.ref f) = true) (hb : Binds X.K fd ps [])
    (ha : PA X (e :: es) t) (hdb : (x == ("__debug__" : Str)) = false := by decide) (he : starEach (e :: es) X.env = (false, eval e X.env) :: starEach es X.env := by rfl) (hpl : (backTo pos (starEach es X.env)).any (·.1) = false := by rfl) :
    PE X (.Call (.Name x q) (e :: es) [] pos) (tCallQ p sp t) := by
  constructor
  intro pins s σ H Q I h
  refine wpAny_Call_Name_kw (ld_glob I hg hm ?_ hdb)
  refine PySem.W.callWith_K (h₀ := X.base) I.ok.mod.kin hk (thn (ha.run pos pins s σ H _ I h) fun us s1 got => ?_) he hpl
  obtain ⟨vs, H1, I1, r, want⟩ := got
  refine ⟨I1.kIn, ?_⟩
  have b := hb s1 us I1.kIn (by rw [List.append_nil, ← r.length]; exact F.len _ _ _ _ _ want)
  rw [List.append_nil] at b
  obtain ⟨a1, a2, a3, a4, a5⟩ := I1.pin p (List.mem_append_left _ hp)
  refine wpAny_call (codeAny_mono (F.run X.A X.stack s1 H1 ⟨us, []⟩ us vs Q E0 p hr ⟨a1, a2, fun m => (List.mem_cons.mp (I1.stkSub p.1 m)).elim a3 a4, a5⟩ I1.env0 b r want) fun r2 s2 fin => ?_)
  cases r2 with
  | error e => exact pass0 (X := X) pins σ H1 s1 e s2 I1 fin
  | ok fl =>
    cases fl with
    | ret u => exact I1.after fin
    | next => exact fin.elim
    | brk => exact fin.elim
    | cont => exact fin.elim
end
end Ux

set_option Elab.async false
set_option linter.all false
set_option maxRecDepth 100000
set_option maxHeartbeats 4000000
namespace Ux
open PySem PySem.Spec PyProof.Rows L2
/-! ### C.m(..), m a staticmethod of an own class -/
structure StM (K : PySem.W.Frag) (C : Addr) (m : Str) (mc : Value) (p g : Addr) : Prop where
  sg : PySem.W.specialIn K (.ref C) "__getattribute__" = some (some (.builtin "type.__getattribute__"))
  rd : PySem.W.readsIn K C mc = true
  fc : PySem.W.findCls K (.ref C) mc m = some (.get (.builtin "staticmethod.__get__") (.ref p) .none (.ref C))
  rc : ∃ rest, PySem.W.recIn K p "staticmethod" = some (.ref g :: rest)
  kp : PySem.W.keepIn K (.ref g) = true
section
variable {X : Cx} {CX : CXT} {k : Nat} {C p g : Addr} {x m : Str} {mc : Value} {fd : FuncData} {ps : List Str} {sp : Sp} {dvs : List V} {ds : List Value} {E : XK} {e : Expr} {es : List Expr} {t : TA} {p1 p2 pos : Pos} {pl : Sem Bool}
theorem pe_smeth (hg : Gl X x) (hm : X.mg x = some (.ref C)) (S : StM X.K C m mc p g) (F : FnOk X.prog X.w X.K X.mg X.base CX k g fd ps sp) (hr : Room k X.A) (hb : Binds X.K fd ps ds) (hd : Vals dvs ds) (hx : Passes CX X E) (ha : PA X (e :: es) t)
    (hdb : (x == ("__debug__" : Str)) = false := by decide)
    (hc : eval (.Call (.Attribute (.Name x p1) m p2) (e :: es) [] pos) X.env = (do
      let ov ← eval (.Name x p1) X.env
      standAt p2.atName
      let (f, first) ← holding [ov] (getMethod ov m pl)
      callWith pos f first (backTo pos (starEach (e :: es) X.env)) (backToKw pos (keywordEach [] X.env))) := by rfl)
    (he : starEach (e :: es) X.env = (false, eval e X.env) :: starEach es X.env := by rfl) (hpl : (backTo pos (starEach es X.env)).any (·.1) = false := by rfl) :
    PE X (.Call (.Attribute (.Name x p1) m p2) (e :: es) [] pos) (tCall sp dvs E t) := by
  constructor
  intro pins s σ H Q I h
  obtain ⟨rest, rc⟩ := S.rc
  refine PySem.W.methodCall_KW (ld_glob I hg hm ?_ hdb) hc
  refine PySem.W.method_cls I.kIn S.sg (PySem.W.cls_bind I.kIn S.rd S.fc (wpAny_call (PySem.W.sm_get (s := { s with toks := s.toks + 1 }) I.kIn rc (PySem.W.handed_on rfl ?_))))
  show wpAny _ _ (callWith pos (Value.ref g) [] (backTo pos (starEach (e :: es) X.env)) []) _ _ _
  refine PySem.W.callWith_K (h₀ := X.base) I.ok.mod.kin S.kp (thn (ha.run pos pins _ σ H _ (I.tok _) h) fun us s1 got => ?_) he hpl
  obtain ⟨vs, H1, I1, r, q⟩ := got
  exact ⟨I1.kIn, run_fn F hr hb hd hx I1 r q⟩
end
end Ux

set_option Elab.async false
set_option linter.all false
set_option maxRecDepth 100000
set_option maxHeartbeats 4000000
namespace Ux
open PySem PySem.Spec PyProof.Rows L2
section
variable {X : Cx} {CX : CXT} {k : Nat} {C p g : Addr} {x m : Str} {mc : Value} {fd : FuncData} {ps ks : List Str} {sp : Sp} {E : XK} {kws : List Keyword} {tk : TA} {p1 p2 pos : Pos} {pl : Sem Bool} {gg : List Value → List Value → List Value} {gV : List V → List V → List V}
/-- C.m(k = v, ..), m a staticmethod of an own class -/
theorem pe_smethK (hg : Gl X x) (hm : X.mg x = some (.ref C)) (S : StM X.K C m mc p g) (F : FnOk X.prog X.w X.K X.mg X.base CX k g fd ps sp) (hr : Room k X.A) (hb : KBinds X.K fd ps ks gg gV) (hx : Passes CX X E) (hkw : PK X kws tk)
    (hall : (backToKw pos (keywordEach kws X.env)).all (·.1.isSome) = true := by rfl) (hks : (backToKw pos (keywordEach kws X.env)).filterMap (·.1) = ks := by rfl)
    (hdb : (x == ("__debug__" : Str)) = false := by decide)
    (hc : eval (.Call (.Attribute (.Name x p1) m p2) [] kws pos) X.env = (do
      let ov ← eval (.Name x p1) X.env
      standAt p2.atName
      let (f, first) ← holding [ov] (getMethod ov m pl)
      callWith pos f first (backTo pos (starEach [] X.env)) (backToKw pos (keywordEach kws X.env))) := by rfl)
    (hpl : ((backTo pos (starEach [] X.env)).any (·.1) || (backToKw pos (keywordEach kws X.env)).any (·.1.isNone)) = false := by rfl) :
    PE X (.Call (.Attribute (.Name x p1) m p2) [] kws pos) (fun σ H Q => tk σ H fun zs H2 => sp (gV [] zs) H2 Q E) := by
  constructor
  intro pins s σ H Q I h
  obtain ⟨rest, rc⟩ := S.rc
  refine PySem.W.methodCall_KW (ld_glob I hg hm ?_ hdb) hc
  refine PySem.W.method_cls I.kIn S.sg (PySem.W.cls_bind I.kIn S.rd S.fc (wpAny_call (PySem.W.sm_get (s := { s with toks := s.toks + 1 }) I.kIn rc (PySem.W.handed_on rfl ?_))))
  refine PySem.W.callWith_KW0 (h₀ := X.base) I.ok.mod.kin S.kp hall ?_ hpl
  refine thn (hkw.run pos pins _ σ H _ (I.tok _) h) fun ws s2 got => ?_
  obtain ⟨zs, H2, I2, rz, q2⟩ := got
  refine ⟨I2.kIn, ?_⟩
  rw [hks]
  exact run_fnk (us := []) (vs := []) F hr hb hx I2 .nil rz q2
end
end Ux

set_option Elab.async false
set_option linter.all false
set_option maxRecDepth 100000
set_option maxHeartbeats 4000000
namespace K06
open PySem PySem.Spec PyProof.Rows L2 Ux
def top (i : Nat) : Stmt := PySem.Challenge.pw_unseenslopes_k06_facts_refused.main.body.getD i (.Pass ⟨0, 0, 0, 0⟩)
abbrev sBag : Stmt := top 39
abbrev sPull : Stmt := top 40
abbrev sOf : Stmt := top 41
abbrev sSame : Stmt := top 42
/-- the built-ins that the text calls still stand -/
structure Bn (mg : Str → Option Value) : Prop where
  isin : mg "isinstance" = none
  tstr : mg "str" = none
  tint : mg "int" = none
  tlist : mg "list" = none
  ttuple : mg "tuple" = none
  tbool : mg "bool" = none
  fabs : mg "abs" = none
  frepr : mg "repr" = none
  flen : mg "len" = none
  frange : mg "range" = none
  fzip : mg "zip" = none
  fall : mg "all" = none
  tve : mg "ValueError" = none
  tle : mg "LookupError" = none
def BagL (l : Addr) (p : Nat) (g s c : Int) : List V := [.ref l, .int p, .int g, .int s, .int c]
/-- the bag of numbers at b, asked at most n times -/
structure BagAt (H : Hp) (b : Addr) (n : Nat) : Prop where
  ex : ∃ (l : Addr) (ns : List Int) (p : Nat) (g s c : Int), H b = some (.lst (BagL l p g s c)) ∧ H l = some (.lst (ns.map V.int)) ∧ b ≠ l ∧ 0 ≤ g ∧ 0 ≤ s ∧ s < 2147483549 ∧ 0 ≤ c ∧ c ≤ n
/-- all that was told stands, but what is at b -/
def But (b : Addr) (H H' : Hp) : Prop := ∀ x o, H x = some o → x ≠ b → H' x = some o
theorem But.refl {b : Addr} {H : Hp} : But b H H := fun _ _ h _ => h
theorem But.upd {b : Addr} {H H' : Hp} {o : HO} (h : But b H H') : But b H (upd H' b o) := fun x u e n => by
  rw [upd_ne n]
  exact h x u e n
theorem But.trans {b : Addr} {H H1 H2 : Hp} (h : But b H H1) (k : But b H1 H2) : But b H H2 := fun x o e n => k x o (h x o e n) n
def spPull : Sp := fun vs H Q _ => ∃ (b : Addr) (m : Int) (n : Nat), vs = [.ref b, .int m] ∧ 0 < m ∧ m < 1073741824 ∧ BagAt H b n ∧ n ≤ 1000000000 ∧ ∀ (r : Int) (H' : Hp), 0 ≤ r → r < m → BagAt H' b (n + 1) → But b H H' → Q (.int r) H'
section
variable {P : Program} {w : World} {K : PySem.W.Frag} {mg : Str → Option Value} {base : Heap}
theorem scPull : FnScope ["_law_bag_here", "_law_many", "_law_cell", "_law_small", "_law_digit", "_law_seed", "_law_step"] ["_law_bag_here", "_law_many"] (defScope sPull) := ⟨rfl, rfl, rfl, by decide +kernel, rfl, by decide +kernel, by decide +kernel⟩
theorem ok_pull {f : Addr} {fd : FuncData} (F : Fun K "_law_pull" "_law_pull" sPull f fd) (T : Bn mg) : FnOk P w K mg base CX0 1 f fd ["_law_bag_here", "_law_many"] spPull := by
  refine F.ok scPull (fun vs H Q E h => ?_) (fun cdv A outer s H vs Q E hr h => ?_)
  · obtain ⟨b, m, n, rfl, _⟩ := h
    rfl
  · obtain ⟨b, m, n, rfl, m0, m1, ⟨l, ns, p, g, s', c, hb, hl, nbl, g0, s0, s1, c0, c1⟩, hn, k⟩ := h
    refine ⟨_, pss_cons (ps_asg (pe_op op_add (pe_ix ix_list (pv 0) pe_int (fun _ _ => rfl)) pe_int) (pg_sub (pv 0) pe_int set_list))
      (C8.pss_cut (ps_if (PW.pt (pw_and (pt_cmpR op_eq (pe_ix ix_list (pv 0) pe_int (fun _ _ => rfl)) pe_int (nomark _))
            (pw_and1 (pt_cmpR op_lt (pe_ix ix_list (pv 0) pe_int (fun _ _ => rfl)) (pe_callB call_len (by rfl) T.flen (by decide +kernel) (pa_cons (pe_ix ix_list (pv 0) pe_int (fun _ _ => rfl)) pa_nil)) (nomark _)))))
          (pss_cons (ps_set (i := 2) scPull.nd rfl (Or.inl rfl) (pe_ix ix_list (pe_ix ix_list (pv 0) pe_int (fun _ _ => rfl)) (pe_ix ix_list (pv 0) pe_int (fun _ _ => rfl)) (fun _ _ => rfl)))
          (pss_cons (ps_asg (pe_op op_add (pe_ix ix_list (pv 0) pe_int (fun _ _ => rfl)) pe_int) (pg_sub (pv 0) pe_int set_list))
          (pss_one (ps_if (pt_cmpR op_ge (pe_callB call_abs (by rfl) T.fabs (by decide +kernel) (pa_cons (pv 2) pa_nil)) (pe_op op_pow pe_int pe_int) (nomark _))
            (pss_one (ps_asg (pe_callB call_abs (by rfl) T.fabs (by decide +kernel) (pa_cons (pv 2) pa_nil)) (pg_sub (pv 0) pe_int set_list)))
            (pss_cons (ps_set (i := 3) scPull.nd rfl (Or.inl rfl) (pe_op op_add (pe_op op_mul (pe_op op_mod (pe_callTy call_int1 (by rfl) T.tint (by decide +kernel) (pa_cons (pv 2) pa_nil)) pe_int) pe_int) pe_int))
            (pss_one (ps_asg (pe_op op_mod (pe_callTy call_int1 (by rfl) T.tint (by decide +kernel) (pa_cons (pe_op op_add (pe_op op_mul (pe_ix ix_list (pv 0) pe_int (fun _ _ => rfl)) pe_int) (pv 3)) pa_nil)) pe_int) (pg_sub (pv 0) pe_int set_list))))))))
          pss_nil)
      (pss_cons (ps_if (pt_cmpR op_gt (pe_ix ix_list (pv 0) pe_int (fun _ _ => rfl)) pe_int (nomark _))
          (pss_cons (ps_set (i := 4) scPull.nd rfl (Or.inl rfl) (pe_op op_mod (pe_callTy call_int1 (by rfl) T.tint (by decide +kernel) (pa_cons (pe_ix ix_list (pv 0) pe_int (fun _ _ => rfl)) pa_nil)) (pv 1)))
          (pss_cons (ps_asg (pe_op op_fdiv (pe_ix ix_list (pv 0) pe_int (fun _ _ => rfl)) (pv 1)) (pg_sub (pv 0) pe_int set_list))
          (pss_one (ps_ret (pv 4))))) pss_nil)
      (pss_cons (ps_set (i := 5) scPull.nd rfl (Or.inl rfl) (pe_ix ix_list (pv 0) pe_int (fun _ _ => rfl)))
      (pss_cons (ps_set (i := 6) scPull.nd rfl (Or.inl rfl) (pe_op op_add (pe_op op_add (pe_op op_mul (pv 5) pe_int) (pe_op op_mul (pe_ix ix_list (pv 0) pe_int (fun _ _ => rfl)) pe_int)) pe_int))
      (pss_cons (ps_asg (pe_op op_mod (pe_callTy call_int1 (by rfl) T.tint (by decide +kernel) (pa_cons (pe_op op_add (pe_op op_mul (pe_op op_mul (pv 5) (pv 5)) pe_int) (pv 6)) pa_nil)) pe_int) (pg_sub (pv 0) pe_int set_list))
      (pss_one (ps_ret (pe_op op_mod (pe_callTy call_int1 (by rfl) T.tint (by decide +kernel) (pa_cons (pe_op op_add (pe_op op_fdiv (pe_ix ix_list (pv 0) pe_int (fun _ _ => rfl)) pe_int) (pe_op op_mul (pe_op op_mod (pe_callTy call_int1 (by rfl) T.tint (by decide +kernel) (pa_cons (pe_ix ix_list (pv 0) pe_int (fun _ _ => rfl)) pa_nil)) pe_int) pe_int)) pa_nil)) (pv 1))))))))), ?_⟩
    -- bag[4] = bag[4] + 1
    refine ⟨_, rfl, b, _, 4, _, rfl, rfl, .of hb, rfl, _, _, rfl, rfl, _, rfl, b, _, 4, 4, rfl, rfl, hb, rfl, ?_⟩
    have hb1 : upd H b (.lst (BagL l p g s' (c + 1))) b = some (.lst (BagL l p g s' (c + 1))) := upd_same
    have hl1 : upd H b (.lst (BagL l p g s' (c + 1))) l = some (.lst (ns.map V.int)) := (upd_ne (Ne.symm nbl)).trans hl
    have f1 : But b H (upd H b (.lst (BagL l p g s' (c + 1)))) := But.refl.upd
    -- the first if: the bag again
    refine ⟨fun σ H2 => ∃ (v2 v3 : Option V) (p : Nat) (g s : Int), σ = [some (.ref b), some (.int m), v2, v3, none, none, none] ∧ H2 b = some (.lst (BagL l p g s (c + 1))) ∧ H2 l = some (.lst (ns.map V.int)) ∧ 0 ≤ g ∧ 0 ≤ s ∧ s < 2147483549 ∧ But b H H2, ?_, ?_⟩
    · refine ⟨_, rfl, b, _, 2, _, rfl, rfl, .of hb1, rfl, rfl, _, rfl, ?_⟩
      by_cases hg : (V.int g) = V.int 0
      · rw [decide_eq_true hg]
        refine iteT ⟨_, rfl, b, _, 1, _, rfl, rfl, .of hb1, rfl, _, rfl, b, _, 0, _, rfl, rfl, .of hb1, rfl, _, _, rfl, .inl ⟨_, .of hl1, rfl⟩, _, _, rfl, rfl, _, rfl, ?_⟩
        by_cases hp : (p : Int) < ((ns.map V.int).length : Nat)
        · rw [decide_eq_true hp]
          have hp' : p < ns.length := by
            rw [List.length_map] at hp
            omega
          have hat : (ns.map V.int)[p]? = some (V.int ns[p]) := by
            rw [List.getElem?_map, List.getElem?_eq_getElem hp']
            rfl
          refine iteT ⟨_, rfl, b, _, 0, _, rfl, rfl, .of hb1, rfl, _, rfl, b, _, 1, _, rfl, rfl, .of hb1, rfl, l, _, _, _, rfl, rfl, .of hl1, atI_nat hat, ?_⟩
          refine ⟨_, rfl, b, _, 1, _, rfl, rfl, .of hb1, rfl, _, _, rfl, rfl, _, rfl, b, _, 1, 1, rfl, rfl, hb1, rfl, ?_⟩
          generalize ns[p] = z
          have hb2 : ∀ H2 : Hp, upd H2 b (.lst (BagL l (p + 1) g s' (c + 1))) b = some (.lst (BagL l (p + 1) g s' (c + 1))) := fun _ => upd_same
          refine ⟨_, rfl, _, rfl, _, _, rfl, rfl, ⟨by decide, by decide, by decide⟩, _, _, rfl, rfl, _, rfl, ?_⟩
          refine ite2 (fun big => ?_) (fun _ => ?_)
          · refine ⟨_, rfl, _, rfl, _, rfl, b, _, 2, 2, rfl, rfl, hb2 _, rfl, ?_⟩
            refine ⟨_, _, p + 1, _, s', rfl, upd_same, ?_, ?_, s0, s1, ((f1.upd).upd)⟩
            · rw [upd_ne (Ne.symm nbl), upd_ne (Ne.symm nbl)]
              exact hl1
            · show (0 : Int) ≤ if z < 0 then -z else z
              split <;> omega
          · refine ⟨_, rfl, .inl ⟨_, rfl, _, _, rfl, rfl, (by show (0 : Int) < 1000000007; decide), _, _, rfl, rfl, ?_, _, _, rfl, rfl, ?_⟩⟩
            · have q1 := Int.emod_nonneg z (show (1000000007 : Int) ≠ 0 by decide)
              have q2 := Int.emod_lt_of_pos z (show (0 : Int) < 1000000007 by decide)
              exact .inl ⟨by omega, by omega⟩
            · refine ⟨_, rfl, b, _, 3, _, rfl, rfl, .of (hb2 _), rfl, _, _, rfl, rfl, .inl ⟨by omega, by omega⟩, _, rfl, _, _, rfl, rfl, .inl ⟨_, rfl, _, _, rfl, rfl, (by show (0 : Int) < 2147483549; decide), ?_⟩⟩
              refine ⟨_, rfl, b, _, 3, 3, rfl, rfl, hb2 _, rfl, ?_⟩
              refine ⟨_, _, p + 1, g, _, rfl, upd_same, ?_, g0, Int.emod_nonneg _ (by decide), Int.emod_lt_of_pos _ (by decide), ((f1.upd).upd)⟩
              rw [upd_ne (Ne.symm nbl), upd_ne (Ne.symm nbl)]
              exact hl1
        · rw [decide_eq_false hp]
          refine iteF ?_
          exact ⟨_, _, p, g, s', rfl, hb1, hl1, g0, s0, s1, f1⟩
      · rw [decide_eq_false hg]
        refine iteF (iteF ?_)
        exact ⟨_, _, p, g, s', rfl, hb1, hl1, g0, s0, s1, f1⟩
    · clear hb1 hl1 f1 g0 s0 s1
      rintro σ H2 ⟨v2, v3, p, g, s, rfl, hb2, hl2, g0, s0, s1, f2⟩
      refine ⟨_, rfl, b, _, 2, _, rfl, rfl, .of hb2, rfl, _, _, rfl, rfl, _, rfl, ?_⟩
      refine ite2 (fun big => ?_) (fun _ => ?_)
      · refine ⟨_, rfl, b, _, 2, _, rfl, rfl, .of hb2, rfl, .inl ⟨_, rfl, _, rfl, _, _, rfl, rfl, m0, ?_⟩⟩
        refine ⟨_, rfl, b, _, 2, _, rfl, rfl, .of hb2, rfl, _, rfl, _, _, rfl, rfl, ⟨m0, m1⟩, _, rfl, b, _, 2, 2, rfl, rfl, hb2, rfl, ?_⟩
        refine ⟨_, rfl, ?_⟩
        refine k _ _ (Int.emod_nonneg _ (by omega)) (Int.emod_lt_of_pos _ m0) ⟨l, ns, p, g / m, s, c + 1, upd_same, ?_, nbl, Int.ediv_nonneg g0 (by omega), s0, s1, by omega, by omega⟩ f2.upd
        rw [upd_ne (Ne.symm nbl)]
        exact hl2
      · refine ⟨_, rfl, b, _, 3, _, rfl, rfl, .of hb2, rfl, ?_⟩
        refine ⟨_, rfl, _, _, rfl, rfl, .inl ⟨by omega, by omega⟩, _, rfl, b, _, 4, _, rfl, rfl, .of hb2, rfl, _, _, rfl, rfl, .inl ⟨by omega, by omega⟩, _, _, rfl, rfl, _, _, rfl, rfl, ?_⟩
        have sq : s * s ≤ 2147483549 * 2147483549 := Int.mul_le_mul (by omega) (by omega) s0 (by decide)
        have sq0 : 0 ≤ s * s := Int.mul_nonneg s0 s0
        refine ⟨_, rfl, _, rfl, _, _, rfl, rfl, .inl ⟨by omega, by omega⟩, _, _, rfl, rfl, .inl ⟨by omega, by omega⟩, _, rfl, _, _, rfl, rfl, .inl ⟨_, rfl, _, _, rfl, rfl, (by show (0 : Int) < 2147483549; decide), ?_⟩⟩
        refine ⟨_, rfl, b, _, 3, 3, rfl, rfl, hb2, rfl, ?_⟩
        have hb3 : ∀ y, upd H2 b (.lst (BagL l p g y (c + 1))) b = some (.lst (BagL l p g y (c + 1))) := fun _ => upd_same
        refine ⟨_, rfl, b, _, 3, _, rfl, rfl, .of (hb3 _), rfl, _, _, rfl, rfl, ⟨by decide, by decide⟩, _, rfl, b, _, 3, _, rfl, rfl, .of (hb3 _), rfl, .inl ⟨_, rfl, _, _, rfl, rfl, (by show (0 : Int) < 7901; decide), _, _, rfl, rfl, ?_, _, _, rfl, rfl, .inl ⟨_, rfl, _, rfl, _, _, rfl, rfl, m0, ?_⟩⟩⟩
        · refine .inr ⟨by decide, by decide⟩
        · refine k _ _ (Int.emod_nonneg _ (by omega)) (Int.emod_lt_of_pos _ m0) ⟨l, ns, p, g, _, c + 1, upd_same, ?_, nbl, g0, Int.emod_nonneg _ (by decide), Int.emod_lt_of_pos _ (by decide), by omega, by omega⟩ f2.upd
          rw [upd_ne (Ne.symm nbl)]
          exact hl2
end
/-- a def of the text under its name -/
structure Dn (K : PySem.W.Frag) (mg : Str → Option Value) (x : Str) (f : Addr) : Prop where
  gl : mg x = some (.ref f)
  kp : PySem.W.keepIn K (.ref f) = true
def spBag (K : PySem.W.Frag) : Sp := fun vs H Q _ => ∃ (a : Addr) (ns : List Int), vs = [.ref a] ∧ SqL K H a (ns.map V.int) ∧ ∀ (b : Addr) (H' : Hp), BagAt H' b 0 → H b = none → Same H H' → Q (.ref b) H'
def spOf : Sp := fun vs H Q _ => ∃ (b t : Addr) (n : Nat) (xs : List V), vs = [.ref b, .ref t] ∧ BagAt H b n ∧ n ≤ 1000000000 ∧ t ≠ b ∧ H t = some (.lst xs) ∧ 0 < xs.length ∧ xs.length ≤ 1000 ∧ ∀ (i : Nat) (v : V) (H' : Hp), xs[i]? = some v → BagAt H' b (n + 1) → But b H H' → Q v H'
theorem cut_ints (ns : List Int) (lo hi : Option Int) : ∃ ms : List Int, cutV (ns.map V.int) lo hi = ms.map V.int := by
  unfold cutV
  rw [← List.map_drop, ← List.map_take]
  exact ⟨_, rfl⟩
section
variable {P : Program} {w : World} {K : PySem.W.Frag} {mg : Str → Option Value} {base : Heap}
theorem scBag : FnScope ["_law_script"] ["_law_script"] (defScope sBag) := ⟨rfl, rfl, rfl, by decide +kernel, rfl, by decide +kernel, by decide +kernel⟩
theorem ok_bag {f : Addr} {fd : FuncData} (F : Fun K "_law_bag" "_law_bag" sBag f fd) (T : Bn mg) : FnOk P w K mg base CX0 1 f fd ["_law_script"] (spBag K) := by
  refine F.ok scBag (fun vs H Q E h => ?_) (fun cdv A outer s H vs Q E hr h => ?_)
  · obtain ⟨a, ns, rfl, _⟩ := h
    rfl
  · obtain ⟨a, ns, rfl, hS, k⟩ := h
    refine ⟨_, pss_one (ps_ret (pe_lst (pa_cons (pe_callTy call_list_of (by rfl) T.tlist (by decide +kernel) (pa_cons (pe_slice sl_list (pv 0) po_none (po_some pe_int)) pa_nil)) (pa_cons pe_int (pa_cons pe_int (pa_cons pe_int (pa_cons pe_int pa_nil))))))), ?_⟩
    obtain ⟨ms, hm⟩ := cut_ints ns none (some 63)
    refine ⟨_, rfl, _, rfl, a, _, rfl, hS, fun p hp => ?_⟩
    rw [hm]
    refine ⟨p, _, rfl, .inl (SqL.of upd_same), fun l hl => ?_⟩
    refine ⟨(by show 5 ≤ sizeLine; decide), fun b hb => ?_⟩
    have nbl : b ≠ l := (ne_of_none upd_same hb).symm
    refine k b _ ⟨l, ms, 0, 0, 12004, 0, upd_same, ?_, nbl, by decide, by decide, by decide, by decide, by decide⟩ ?_ ?_
    · rw [upd_ne nbl.symm]
      exact upd_same
    · have e1 : H b ≠ none → False := fun z => by
        cases e : H b with
        | none => exact z e
        | some o =>
          have q : (upd (upd H p (.lst (ms.map V.int))) l (.lst (ms.map V.int))) b = some o := by
            rw [upd_ne nbl, upd_ne (ne_of_none e hp)]
            exact e
          rw [q] at hb
          cases hb
      exact Classical.byContradiction e1
    · intro c o e
      have h1 := ne_of_none e hp
      have s1 : upd H p (.lst (ms.map V.int)) c = some o := by
        rw [upd_ne h1]
        exact e
      have h2 := ne_of_none s1 hl
      have s2 : upd (upd H p (.lst (ms.map V.int))) l (.lst (ms.map V.int)) c = some o := by
        rw [upd_ne h2]
        exact s1
      rw [upd_ne (ne_of_none s2 hb)]
      exact s2
theorem scOf : FnScope ["_law_bag_here", "_law_things"] ["_law_bag_here", "_law_things"] (defScope sOf) := ⟨rfl, rfl, rfl, by decide +kernel, rfl, by decide +kernel, by decide +kernel⟩
theorem ok_of {f fP : Addr} {fd fdP : FuncData} (F : Fun K "_law_of" "_law_of" sOf f fd) (T : Bn mg) (D : Dn K mg "_law_pull" fP) (G : FnOk P w K mg base CX0 1 fP fdP ["_law_bag_here", "_law_many"] spPull) (bP : Binds K fdP ["_law_bag_here", "_law_many"] []) :
    FnOk P w K mg base CX0 2 f fd ["_law_bag_here", "_law_things"] spOf := by
  refine F.ok scOf (fun vs H Q E h => ?_) (fun cdv A outer s H vs Q E hr h => ?_)
  · obtain ⟨b, t, n, xs, rfl, _⟩ := h
    rfl
  · obtain ⟨b, t, n, xs, rfl, B, hn, nt, ht, l0, l1, k⟩ := h
    refine ⟨_, pss_one (ps_ret (pe_ix ix_list (pv 1) (pe_call G hr (by rfl) D.gl D.kp bP .nil pass0 (pa_cons (pv 0) (pa_cons (pe_callB call_len (by rfl) T.flen (by decide +kernel) (pa_cons (pv 1) pa_nil)) pa_nil))) (fun _ _ => rfl))), ?_⟩
    refine ⟨_, rfl, _, rfl, _, rfl, _, _, rfl, .inl ⟨_, .of ht, rfl⟩, b, _, n, rfl, by omega, by omega, B, hn, fun r H' r0 r1 B' f' => ?_⟩
    have hi : r.toNat < xs.length := by omega
    have q := List.getElem?_eq_getElem hi
    generalize xs[r.toNat] = y at q
    refine ⟨t, xs, r, y, rfl, rfl, .of (f' _ _ ht nt), ?_, k r.toNat y H' q B' f'⟩
    have z := atI_nat q
    rw [Int.toNat_of_nonneg r0] at z
    exact z
/-! ### same -/
/-- u and v are like data, less than n deep -/
def Like (H : Hp) : Nat → V → V → Prop
  | 0, _, _ => False
  | n + 1, u, v => (u = v ∧ (v = .non ∨ (∃ b, v = .bl b) ∨ (∃ i, v = .int i) ∨ ∃ x, v = .str x)) ∨
    ∃ (a b : Addr) (xs ys : List V), u = .ref a ∧ v = .ref b ∧ ((H a = some (.tup xs) ∧ H b = some (.tup ys)) ∨ (H a = some (.lst xs) ∧ H b = some (.lst ys))) ∧ xs.length = ys.length ∧ xs.length ≤ 1000 ∧ ∀ (i : Nat) (x y : V), xs[i]? = some x → ys[i]? = some y → Like H n x y
theorem Like.mono {H H' : Hp} (s : Same H H') : ∀ {n : Nat} {u v : V}, Like H n u v → Like H' n u v
  | 0, _, _, h => h.elim
  | n + 1, u, v, h => by
    rcases h with h | ⟨a, b, xs, ys, e1, e2, hh, l1, l2, k⟩
    · exact .inl h
    · refine .inr ⟨a, b, xs, ys, e1, e2, ?_, l1, l2, fun i x y hx hy => Like.mono s (k i x y hx hy)⟩
      rcases hh with ⟨h1, h2⟩ | ⟨h1, h2⟩
      · exact .inl ⟨s _ _ h1, s _ _ h2⟩
      · exact .inr ⟨s _ _ h1, s _ _ h2⟩
def spSame (n : Nat) : Sp := fun vs H Q _ => ∃ u v, vs = [u, v] ∧ Like H n u v ∧ ∀ H', Same H H' → Q (.bl true) H'
theorem Same.new {H H' : Hp} {p : Addr} {o : HO} (s : Same H H') (hp : H' p = none) : Same H (upd H' p o) := fun c u e => by
  rw [upd_ne (ne_of_none (s c u e) hp)]
  exact s c u e
theorem scSame : FnScope ["_law_found", "_law_due", "_law_a", "_law_b"] ["_law_found", "_law_due"] (defScope sSame) := ⟨rfl, rfl, rfl, by decide +kernel, rfl, by decide +kernel, by decide +kernel⟩
theorem walk_zipT {a b : Addr} {xs ys : List V} {n : Nat} (hn : n = min xs.length ys.length) : Walk (RZ.ItzT K a b) n (fun H => SqT K H a xs ∧ SqT K H b ys) (YPair (fun i => xs[i]?) (fun i => ys[i]?)) := by
  subst hn
  refine ⟨fun i _ hi q => ?_, fun _ q => ⟨xs, ys, q.1, q.2, ?_⟩, fun i H v H' _ q y => ?_⟩
  · have h1 : i < xs.length := by omega
    have h2 : i < ys.length := by omega
    refine ⟨xs, ys, xs[i], ys[i], q.1, q.2, List.getElem?_eq_getElem h1, List.getElem?_eq_getElem h2⟩
  · omega
  · obtain ⟨T, x, z, h1, h2, h3, h4, h5⟩ := y
    exact ⟨T, x, z, h1, h2, h3, h4 xs q.1, h5 ys q.2⟩
theorem all_true (n : Nat) : (List.replicate n true).all id = true := by
  induction n with
  | zero => rfl
  | succ n ih =>
    rw [List.replicate_succ, List.all_cons, ih]
    rfl
theorem any_no {T : String} (h1 : kitB T "list" = some false) (h2 : kitB T "tuple" = some false) : PySem.W.kitAny K (.type T) [.type "list", .type "tuple"] = some false :=
  kitAny_cons (kit_ty h1) (fun _ => kitAny_cons (kit_ty h2) (fun _ => kitAny_nil) (fun z => nomatch z)) (fun z => nomatch z)
theorem any_lst : PySem.W.kitAny K (.type "list") [.type "list", .type "tuple"] = some true :=
  kitAny_cons (b := true) (kit_ty (by decide +kernel)) (fun z => nomatch z) (fun _ => rfl)
theorem any_tup : PySem.W.kitAny K (.type "tuple") [.type "list", .type "tuple"] = some true :=
  kitAny_cons (b := false) (kit_ty (by decide +kernel)) (fun _ => kitAny_cons (b := true) (kit_ty (by decide +kernel)) (fun z => nomatch z) (fun _ => rfl)) (fun z => nomatch z)
theorem lt_tup : Paired ClsV [V.ty "list", V.ty "tuple"] [Value.type "list", Value.type "tuple"] := .cons (.ty _) (.cons (.ty _) .nil)
theorem ok_same_step {f : Addr} {fd : FuncData} {n k : Nat} (F : Fun K "_law_same" "_law_same" sSame f fd) (T : Bn mg) (D : Dn K mg "_law_same" f) (G : FnOk P w K mg base CX0 k f fd ["_law_found", "_law_due"] (spSame n)) (bS : Binds K fd ["_law_found", "_law_due"] []) :
    FnOk P w K mg base CX0 (k + 1) f fd ["_law_found", "_law_due"] (spSame (n + 1)) := by
  refine F.ok scSame (fun vs H Q E h => ?_) (fun cdv A outer s H vs Q E hr h => ?_)
  · obtain ⟨u, v, rfl, _⟩ := h
    rfl
  · obtain ⟨u, v, rfl, lk, kk⟩ := h
    refine ⟨_, pss_cons (ps_if (PW.pt (pw_or (pt_cmpR op_isN (pv 1) pe_non (nomark _)) (pw_or1 (pt_cmpR op_isN (pv 0) pe_non (nomark _)))))
        (pss_one (ps_ret (pe_and (pe_cmpR op_isN (pv 1) pe_non (nomark _)) (pe_one (pe_cmpR op_isN (pv 0) pe_non (nomark _)))))) pss_nil)
      (pss_cons (ps_if (PW.pt (pw_or (pt_val (pe_callB call_isi (by rfl) T.isin (by decide +kernel) (pa_cons (pv 1) (pa_cons (pe_bltn (v := .ty "bool") (by rfl) T.tbool (by decide +kernel) rfl) pa_nil)))) (pw_or1 (pt_val (pe_callB call_isi (by rfl) T.isin (by decide +kernel) (pa_cons (pv 0) (pa_cons (pe_bltn (v := .ty "bool") (by rfl) T.tbool (by decide +kernel) rfl) pa_nil)))))))
        (pss_one (ps_ret (pe_and (pe_callB call_isi (by rfl) T.isin (by decide +kernel) (pa_cons (pv 1) (pa_cons (pe_bltn (v := .ty "bool") (by rfl) T.tbool (by decide +kernel) rfl) pa_nil))) (pe_and (pe_callB call_isi (by rfl) T.isin (by decide +kernel) (pa_cons (pv 0) (pa_cons (pe_bltn (v := .ty "bool") (by rfl) T.tbool (by decide +kernel) rfl) pa_nil))) (pe_one (pe_cmpR op_eq (pv 0) (pv 1) (nomark _))))))) pss_nil)
      (pss_cons (ps_if (PW.pt (pw_or (pt_val (pe_callB call_isiT (by rfl) T.isin (by decide +kernel) (pa_cons (pv 1) (pa_cons (pe_tup (pa_cons (pe_bltn (v := .ty "list") (by rfl) T.tlist (by decide +kernel) rfl) (pa_cons (pe_bltn (v := .ty "tuple") (by rfl) T.ttuple (by decide +kernel) rfl) pa_nil))) pa_nil)))) (pw_or1 (pt_val (pe_callB call_isiT (by rfl) T.isin (by decide +kernel) (pa_cons (pv 0) (pa_cons (pe_tup (pa_cons (pe_bltn (v := .ty "list") (by rfl) T.tlist (by decide +kernel) rfl) (pa_cons (pe_bltn (v := .ty "tuple") (by rfl) T.ttuple (by decide +kernel) rfl) pa_nil))) pa_nil)))))))
        (pss_cons (ps_if (pt_cmpR op_ne (pe_callB call_isi (by rfl) T.isin (by decide +kernel) (pa_cons (pv 1) (pa_cons (pe_bltn (v := .ty "list") (by rfl) T.tlist (by decide +kernel) rfl) pa_nil))) (pe_callB call_isi (by rfl) T.isin (by decide +kernel) (pa_cons (pv 0) (pa_cons (pe_bltn (v := .ty "list") (by rfl) T.tlist (by decide +kernel) rfl) pa_nil))) (nomark _)) (pss_one (ps_ret pe_bl)) pss_nil)
        (pss_cons (ps_if (PW.pt (pw_or (pt_cmpR op_ne (pe_callB call_isi (by rfl) T.isin (by decide +kernel) (pa_cons (pv 1) (pa_cons (pe_bltn (v := .ty "tuple") (by rfl) T.ttuple (by decide +kernel) rfl) pa_nil))) (pe_callB call_isi (by rfl) T.isin (by decide +kernel) (pa_cons (pv 0) (pa_cons (pe_bltn (v := .ty "tuple") (by rfl) T.ttuple (by decide +kernel) rfl) pa_nil))) (nomark _)) (pw_or1 (pt_cmpR op_ne (pe_callB call_len (by rfl) T.flen (by decide +kernel) (pa_cons (pv 0) pa_nil)) (pe_callB call_len (by rfl) T.flen (by decide +kernel) (pa_cons (pv 1) pa_nil)) (nomark _))))) (pss_one (ps_ret pe_bl)) pss_nil)
        (pss_one (ps_ret (pe_callB (cr_all rfl) (by rfl) T.fall (by decide +kernel) (pa_cons (pe_lc (own := [("_law_a", 2), ("_law_b", 3)]) (g := gTup K 2 (gCons (gName 2) (gCons (gName 3) gNil))) rfl scSame.nd (RZ.pi_zipA (by rfl) T.fzip (pa_cons (pv 0) (pa_cons (pv 1) pa_nil))) (blkOk_by (own := [("_law_a", 2), ("_law_b", 3)]) (N := ["_law_found", "_law_due", "_law_a", "_law_b"]) (sc := defScope sSame) (by decide +kernel))
            (fun _ _ _ _ _ => pg_tup (n := 2) rfl (pgs_cons (pg_name (i := 2) scSame.nd rfl (Or.inl rfl) (hf := Or.inr rfl)) (pgs_cons (pg_name (i := 3) scSame.nd rfl (Or.inl rfl) (hf := Or.inr rfl)) pgs_nil))) (fun _ _ _ _ _ => pts_nil)
            (fun _ _ _ _ _ => pe_call G hr (by rfl) D.gl D.kp bS .nil pass0 (pa_cons (pv 2) (pa_cons (pv 3) pa_nil)))) pa_nil)))))) pss_nil)
      (pss_cons (ps_if (pt_cmpR op_ne (pe_callB call_isi (by rfl) T.isin (by decide +kernel) (pa_cons (pv 1) (pa_cons (pe_bltn (v := .ty "int") (by rfl) T.tint (by decide +kernel) rfl) pa_nil))) (pe_callB call_isi (by rfl) T.isin (by decide +kernel) (pa_cons (pv 0) (pa_cons (pe_bltn (v := .ty "int") (by rfl) T.tint (by decide +kernel) rfl) pa_nil))) (nomark _)) (pss_one (ps_ret pe_bl)) pss_nil)
      (pss_one (ps_ret (pe_and (pe_cmpR op_eq (pe_callB call_isi (by rfl) T.isin (by decide +kernel) (pa_cons (pv 1) (pa_cons (pe_bltn (v := .ty "str") (by rfl) T.tstr (by decide +kernel) rfl) pa_nil))) (pe_callB call_isi (by rfl) T.isin (by decide +kernel) (pa_cons (pv 0) (pa_cons (pe_bltn (v := .ty "str") (by rfl) T.tstr (by decide +kernel) rfl) pa_nil))) (nomark _)) (pe_one (pe_cmpR op_eq (pv 0) (pv 1) (nomark _))))))))), ?_⟩
    rcases lk with ⟨rfl, (rfl | ⟨b, rfl⟩ | ⟨i, rfl⟩ | ⟨x, rfl⟩)⟩ | ⟨a, b, xs, ys, rfl, rfl, hh, l1, l2, like⟩
    · refine ⟨_, rfl, rfl, _, rfl, iteT ?_⟩
      exact ⟨_, rfl, rfl, _, rfl, iteT ⟨_, rfl, rfl, kk _ (Same.refl _)⟩⟩
    · refine ⟨_, rfl, rfl, _, rfl, iteF ⟨_, rfl, rfl, _, rfl, iteF ?_⟩⟩
      refine ⟨_, rfl, _, _, _, _, true, rfl, .ty "bool", .base (.bl _), kit_ty (by decide +kernel), _, rfl, iteT ?_⟩
      refine ⟨_, rfl, _, _, _, _, true, rfl, .ty "bool", .base (.bl _), kit_ty (by decide +kernel), _, rfl, iteT ⟨_, rfl, _, _, _, _, true, rfl, .ty "bool", .base (.bl _), kit_ty (by decide +kernel), _, rfl, iteT ⟨_, rfl, _, rfl, rfl, ?_⟩⟩⟩
      rw [decide_eq_true rfl]
      exact kk _ (Same.refl _)
    · refine ⟨_, rfl, rfl, _, rfl, iteF ⟨_, rfl, rfl, _, rfl, iteF ?_⟩⟩
      refine ⟨_, rfl, _, _, _, _, false, rfl, .ty "bool", .base (.int _), kit_ty (by decide +kernel), _, rfl, iteF ⟨_, rfl, _, _, _, _, false, rfl, .ty "bool", .base (.int _), kit_ty (by decide +kernel), _, rfl, iteF ?_⟩⟩
      refine ⟨_, rfl, (by show 2 ≤ sizeLine; decide), fun p hp => ⟨_, p, _, _, _, false, rfl, upd_same, lt_tup, .base (.int _), any_no (by decide +kernel) (by decide +kernel), _, rfl, iteF ⟨_, rfl, (by show 2 ≤ sizeLine; decide), fun p2 hp2 => ⟨_, p2, _, _, _, false, rfl, upd_same, lt_tup, .base (.int _), any_no (by decide +kernel) (by decide +kernel), _, rfl, iteF ?_⟩⟩⟩⟩
      have s2 := (Same.new (Same.new (Same.refl H) hp (o := .tup [V.ty "list", V.ty "tuple"])) hp2 (o := .tup [V.ty "list", V.ty "tuple"]))
      refine ⟨_, rfl, _, _, _, _, true, rfl, .ty "int", .base (.int _), kit_ty (by decide +kernel), _, rfl, _, _, _, _, true, rfl, .ty "int", .base (.int _), kit_ty (by decide +kernel), rfl, _, rfl, iteF ?_⟩
      refine ⟨_, rfl, _, _, _, _, false, rfl, .ty "str", .base (.int _), kit_ty (by decide +kernel), _, rfl, _, _, _, _, false, rfl, .ty "str", .base (.int _), kit_ty (by decide +kernel), rfl, _, rfl, iteT ⟨_, rfl, _, rfl, rfl, ?_⟩⟩
      rw [decide_eq_true rfl]
      exact kk _ s2
    · refine ⟨_, rfl, rfl, _, rfl, iteF ⟨_, rfl, rfl, _, rfl, iteF ?_⟩⟩
      refine ⟨_, rfl, _, _, _, _, false, rfl, .ty "bool", .base (.str _), kit_ty (by decide +kernel), _, rfl, iteF ⟨_, rfl, _, _, _, _, false, rfl, .ty "bool", .base (.str _), kit_ty (by decide +kernel), _, rfl, iteF ?_⟩⟩
      refine ⟨_, rfl, (by show 2 ≤ sizeLine; decide), fun p hp => ⟨_, p, _, _, _, false, rfl, upd_same, lt_tup, .base (.str _), any_no (by decide +kernel) (by decide +kernel), _, rfl, iteF ⟨_, rfl, (by show 2 ≤ sizeLine; decide), fun p2 hp2 => ⟨_, p2, _, _, _, false, rfl, upd_same, lt_tup, .base (.str _), any_no (by decide +kernel) (by decide +kernel), _, rfl, iteF ?_⟩⟩⟩⟩
      have s2 := (Same.new (Same.new (Same.refl H) hp (o := .tup [V.ty "list", V.ty "tuple"])) hp2 (o := .tup [V.ty "list", V.ty "tuple"]))
      refine ⟨_, rfl, _, _, _, _, false, rfl, .ty "int", .base (.str _), kit_ty (by decide +kernel), _, rfl, _, _, _, _, false, rfl, .ty "int", .base (.str _), kit_ty (by decide +kernel), rfl, _, rfl, iteF ?_⟩
      refine ⟨_, rfl, _, _, _, _, true, rfl, .ty "str", .base (.str _), kit_ty (by decide +kernel), _, rfl, _, _, _, _, true, rfl, .ty "str", .base (.str _), kit_ty (by decide +kernel), rfl, _, rfl, iteT ⟨_, rfl, _, rfl, rfl, ?_⟩⟩
      rw [decide_eq_true rfl]
      exact kk _ s2
    · refine ⟨_, rfl, rfl, _, rfl, iteF ⟨_, rfl, rfl, _, rfl, iteF ?_⟩⟩
      rcases hh with ⟨ha, hb⟩ | ⟨ha, hb⟩
      · refine ⟨_, rfl, _, _, _, _, false, rfl, .ty "bool", .base (.tup hb), kit_ty (by decide +kernel), _, rfl, iteF ⟨_, rfl, _, _, _, _, false, rfl, .ty "bool", .base (.tup ha), kit_ty (by decide +kernel), _, rfl, iteF ?_⟩⟩
        refine ⟨_, rfl, (by show 2 ≤ sizeLine; decide), fun p hp => ?_⟩
        have s1 := Same.new (Same.refl H) hp (o := .tup [V.ty "list", V.ty "tuple"])
        have ha1 := s1 _ _ ha
        have hb1 := s1 _ _ hb
        refine ⟨_, p, _, _, _, true, rfl, upd_same, lt_tup, .base (.tup hb1), any_tup, _, rfl, iteT ?_⟩
        refine ⟨_, rfl, _, _, _, _, false, rfl, .ty "list", .base (.tup hb1), kit_ty (by decide +kernel), _, rfl, _, _, _, _, false, rfl, .ty "list", .base (.tup ha1), kit_ty (by decide +kernel), rfl, _, rfl, iteF ?_⟩
        refine ⟨_, rfl, _, _, _, _, true, rfl, .ty "tuple", .base (.tup hb1), kit_ty (by decide +kernel), _, rfl, _, _, _, _, true, rfl, .ty "tuple", .base (.tup ha1), kit_ty (by decide +kernel), rfl, _, rfl, iteF ⟨_, rfl, _, _, rfl, .inr ⟨_, .of ha1, rfl⟩, _, rfl, _, _, rfl, .inr ⟨_, .of hb1, rfl⟩, ?_⟩⟩
        refine ⟨rfl, _, rfl, ?_⟩
        rw [l1, decide_eq_true rfl]
        refine iteF ?_
        refine ⟨_, rfl, _, rfl, a, b, xs, ys, rfl, .inr ⟨SqT.of ha1, SqT.of hb1, fun D hD => ?_⟩⟩
        refine lc_it (walk_zipT (n := ys.length) (by rw [l1, Nat.min_self])) (fun i H' => Same (upd H p (.tup [V.ty "list", V.ty "tuple"])) H' ∧ H' D = some (.lst ((List.replicate i true).map V.bl))) ⟨Same.new (Same.refl _) hD, upd_same⟩ (fun i H' _ z => ⟨SqT.of (z.1 _ _ ha1), SqT.of (z.1 _ _ hb1)⟩) ?_ ?_
        · rintro i x H2 H3 hi ⟨t2, d2⟩ ⟨T1, y, z, rfl, nT, rfl, hy, hz⟩
          have t3 := Same.new t2 nT (o := .tup [y, z])
          refine ⟨T1, _, rfl, SqT.of upd_same, rfl, y, _, rfl, z, _, rfl, rfl, rfl, ?_⟩
          refine ⟨_, rfl, _, rfl, y, z, rfl, Like.mono (s1.trans t3) (like i y z hy hz), fun H4 s4 => ?_⟩
          have d4 : H4 D = some (.lst ((List.replicate i true).map V.bl)) := s4 _ _ (by rw [upd_ne (ne_of_none d2 nT)]; exact d2)
          refine ⟨_, d4, ?_, fun c o e => ?_, ?_⟩
          · rw [List.length_map, List.length_replicate]
            exact small1000 (by omega)
          · have q := s4 _ _ (t3 c o e)
            rw [upd_ne (ne_of_none e hD)]
            exact q
          · rw [upd_same, List.replicate_succ', List.map_append]
            rfl
        · rintro H2 ⟨t2, d2⟩
          refine ⟨D, _, rfl, .of d2, ?_⟩
          rw [all_true]
          exact kk _ (s1.trans t2)

      · refine ⟨_, rfl, _, _, _, _, false, rfl, .ty "bool", .base (.lst hb), kit_ty (by decide +kernel), _, rfl, iteF ⟨_, rfl, _, _, _, _, false, rfl, .ty "bool", .base (.lst ha), kit_ty (by decide +kernel), _, rfl, iteF ?_⟩⟩
        refine ⟨_, rfl, (by show 2 ≤ sizeLine; decide), fun p hp => ?_⟩
        have s1 := Same.new (Same.refl H) hp (o := .tup [V.ty "list", V.ty "tuple"])
        have ha1 := s1 _ _ ha
        have hb1 := s1 _ _ hb
        refine ⟨_, p, _, _, _, true, rfl, upd_same, lt_tup, .base (.lst hb1), any_lst, _, rfl, iteT ?_⟩
        refine ⟨_, rfl, _, _, _, _, true, rfl, .ty "list", .base (.lst hb1), kit_ty (by decide +kernel), _, rfl, _, _, _, _, true, rfl, .ty "list", .base (.lst ha1), kit_ty (by decide +kernel), rfl, _, rfl, iteF ?_⟩
        refine ⟨_, rfl, _, _, _, _, false, rfl, .ty "tuple", .base (.lst hb1), kit_ty (by decide +kernel), _, rfl, _, _, _, _, false, rfl, .ty "tuple", .base (.lst ha1), kit_ty (by decide +kernel), rfl, _, rfl, iteF ⟨_, rfl, _, _, rfl, .inl ⟨_, .of ha1, rfl⟩, _, rfl, _, _, rfl, .inl ⟨_, .of hb1, rfl⟩, ?_⟩⟩
        refine ⟨rfl, _, rfl, ?_⟩
        rw [l1, decide_eq_true rfl]
        refine iteF ?_
        refine ⟨_, rfl, _, rfl, a, b, xs, ys, rfl, .inl ⟨SqL.of ha1, SqL.of hb1, fun D hD => ?_⟩⟩
        refine lc_it (walk_zip (n := ys.length) (by rw [l1, Nat.min_self])) (fun i H' => Same (upd H p (.tup [V.ty "list", V.ty "tuple"])) H' ∧ H' D = some (.lst ((List.replicate i true).map V.bl))) ⟨Same.new (Same.refl _) hD, upd_same⟩ (fun i H' _ z => ⟨SqL.of (z.1 _ _ ha1), SqL.of (z.1 _ _ hb1)⟩) ?_ ?_
        · rintro i x H2 H3 hi ⟨t2, d2⟩ ⟨T1, y, z, rfl, nT, rfl, hy, hz⟩
          have t3 := Same.new t2 nT (o := .tup [y, z])
          refine ⟨T1, _, rfl, SqT.of upd_same, rfl, y, _, rfl, z, _, rfl, rfl, rfl, ?_⟩
          refine ⟨_, rfl, _, rfl, y, z, rfl, Like.mono (s1.trans t3) (like i y z hy hz), fun H4 s4 => ?_⟩
          have d4 : H4 D = some (.lst ((List.replicate i true).map V.bl)) := s4 _ _ (by rw [upd_ne (ne_of_none d2 nT)]; exact d2)
          refine ⟨_, d4, ?_, fun c o e => ?_, ?_⟩
          · rw [List.length_map, List.length_replicate]
            exact small1000 (by omega)
          · have q := s4 _ _ (t3 c o e)
            rw [upd_ne (ne_of_none e hD)]
            exact q
          · rw [upd_same, List.replicate_succ', List.map_append]
            rfl
        · rintro H2 ⟨t2, d2⟩
          refine ⟨D, _, rfl, .of d2, ?_⟩
          rw [all_true]
          exact kk _ (s1.trans t2)

end
end K06

set_option Elab.async false
set_option linter.all false
set_option maxRecDepth 100000
set_option maxHeartbeats 4000000
namespace K06
open PySem PySem.Spec PyProof.Rows L2 Ux
abbrev sField : Stmt := top 43
abbrev sOtherField : Stmt := top 44
abbrev sWhy : Stmt := top 45
/-- the names of the errors' fields -/
def fieldNames : List Str := ["code", "given", "at", "name", "what", "limit", "index", "line", "deed"]
/-- a caught error with the fields fs -/
structure Err (K : PySem.W.Frag) (H : Hp) (p : Addr × Obj) (C dd : Addr) (fs : List (Str × V)) : Prop where
  ca : Caught p C dd
  xf : XfC K C
  no : ∀ f ∈ fieldNames, PySem.W.findIn K (.ref C) f = some none
  at_ : H dd = some (.xd fs)
theorem Err.same {K : PySem.W.Frag} {H H' : Hp} {p : Addr × Obj} {C dd : Addr} {fs : List (Str × V)} (h : Err K H p C dd fs) (s : Same H H') : Err K H' p C dd fs := ⟨h.ca, h.xf, h.no, s _ _ h.at_⟩
/-- what such an error has beside its code -/
def Has (fs : List (Str × V)) (f : Str) (q : V → Prop) : Prop := ∃ v, fs.lookup f = some v ∧ q v
def otherF (code : Str) (fs : List (Str × V)) (q : V → Prop) : Prop :=
  if decide (V.str code = V.str "InvalidFact") = true then Has fs "what" q else if decide (V.str code = V.str "InvalidRow") = true then Has fs "index" q else if decide (V.str code = V.str "InvalidPage") = true then Has fs "line" q else
  if decide (V.str code = V.str "UnlikeWorlds") = true then q .non else Has fs "deed" q
def spOtherF (K : PySem.W.Frag) : Addr × Obj → Sp := fun p vs H Q _ => ∃ (C dd : Addr) (fs : List (Str × V)) (code : Str), vs = [.ref p.1] ∧ Err K H p C dd fs ∧ fs.lookup ("code" : Str) = some (V.str code) ∧ otherF code fs fun v => Q v H
def fieldF (code : Str) (fs : List (Str × V)) (q : V → Prop) (tup : V → V → Prop) : Prop :=
  if inV (.str code) [.str "InvalidName", .str "InvalidNumber"] = true then Has fs "given" q else if inV (.str code) [.str "InvalidText", .str "WrongKind", .str "InvalidBlank"] = true then Has fs "at" q else
  if inV (.str code) [.str "NameTaken", .str "InvalidWitness", .str "UnknownName"] = true then Has fs "name" q else
  if decide (V.str code = V.str "TooLarge") = true then Has fs "what" (fun v => Has fs "limit" fun u => tup v u) else otherF code fs q
def spFieldE (K : PySem.W.Frag) : Addr × Obj → Sp := fun p vs H Q _ => ∃ (C dd : Addr) (fs : List (Str × V)) (code : Str), vs = [.ref p.1] ∧ Err K H p C dd fs ∧ fs.lookup ("code" : Str) = some (V.str code) ∧
  fieldF code fs (fun v => ∀ H', Same H H' → Q v H') fun v u => ∀ (t : Addr) (H' : Hp), H' t = some (.tup [v, u]) → Same H H' → Q (.ref t) H'
theorem same_upd' {H : Hp} {a : Addr} {o : HO} (ha : H a = none) : Same H (upd H a o) := fun x u e => by
  rw [upd_ne (ne_of_none e ha)]
  exact e
theorem unT {A B : Prop} (h : if true = true then A else B) : A := by
  rw [if_pos rfl] at h
  exact h
theorem unF {A B : Prop} (h : if false = true then A else B) : B := by
  rw [if_neg Bool.false_ne_true] at h
  exact h
section
variable {P : Program} {w : World} {K : PySem.W.Frag} {mg : Str → Option Value} {base : Heap}
theorem scOtherField : FnScope ["_law_e"] ["_law_e"] (defScope sOtherField) := ⟨rfl, rfl, rfl, by decide +kernel, rfl, by decide +kernel, by decide +kernel⟩
theorem ok_otherField {f : Addr} {fd : FuncData} (F : Fun K "_law_other_field" "_law_other_field" sOtherField f fd) : FnQ P w K mg base 1 f fd ["_law_e"] (spOtherF K) := by
  refine Ux.Fun.okQ F scOtherField (fun p vs H Q E h => ?_) (fun cdv A outer s H vs Q E p hr h => ?_)
  · obtain ⟨_, _, _, _, rfl, _⟩ := h
    rfl
  · obtain ⟨C, dd, fs, code, rfl, er, lc, q⟩ := h
    have hp : p ∈ (L2H.cxH CX0 P w K mg base ["_law_e"] "_law_other_field" (defScope sOtherField) f cdv A outer s H E p).pn := List.mem_singleton.mpr rfl
    refine ⟨_, pss_cons (ps_if (pt_cmpR op_eq (pe_pf er.xf (er.no _ (by decide +kernel)) hp er.ca (pv 0)) pe_str (nomark _)) (pss_one (ps_ret (pe_pf er.xf (er.no _ (by decide +kernel)) hp er.ca (pv 0)))) pss_nil)
      (pss_cons (ps_if (pt_cmpR op_eq (pe_pf er.xf (er.no _ (by decide +kernel)) hp er.ca (pv 0)) pe_str (nomark _)) (pss_one (ps_ret (pe_pf er.xf (er.no _ (by decide +kernel)) hp er.ca (pv 0)))) pss_nil)
      (pss_cons (ps_if (pt_cmpR op_eq (pe_pf er.xf (er.no _ (by decide +kernel)) hp er.ca (pv 0)) pe_str (nomark _)) (pss_one (ps_ret (pe_pf er.xf (er.no _ (by decide +kernel)) hp er.ca (pv 0)))) pss_nil)
      (pss_one (ps_ret (pe_ifExp (pt_cmpR op_eq (pe_pf er.xf (er.no _ (by decide +kernel)) hp er.ca (pv 0)) pe_str (nomark _)) pe_non (pe_pf er.xf (er.no _ (by decide +kernel)) hp er.ca (pv 0))))))), ?_⟩
    have ha := er.at_
    unfold otherF at q
    refine ⟨_, rfl, fs, _, rfl, ha, lc, rfl, _, rfl, ?_⟩
    cases h1 : decide (V.str code = V.str "InvalidFact") with
    | true =>
      rw [h1] at q
      obtain ⟨v, lv, k⟩ := unT q
      exact iteT ⟨_, rfl, fs, v, rfl, ha, lv, k⟩
    | false =>
      rw [h1] at q
      have q := unF q
      refine iteF ⟨_, rfl, fs, _, rfl, ha, lc, rfl, _, rfl, ?_⟩
      cases h2 : decide (V.str code = V.str "InvalidRow") with
      | true =>
        rw [h2] at q
        obtain ⟨v, lv, k⟩ := unT q
        exact iteT ⟨_, rfl, fs, v, rfl, ha, lv, k⟩
      | false =>
        rw [h2] at q
        have q := unF q
        refine iteF ⟨_, rfl, fs, _, rfl, ha, lc, rfl, _, rfl, ?_⟩
        cases h3 : decide (V.str code = V.str "InvalidPage") with
        | true =>
          rw [h3] at q
          obtain ⟨v, lv, k⟩ := unT q
          exact iteT ⟨_, rfl, fs, v, rfl, ha, lv, k⟩
        | false =>
          rw [h3] at q
          have q := unF q
          refine iteF ⟨_, rfl, fs, _, rfl, ha, lc, rfl, _, rfl, ?_⟩
          cases h4 : decide (V.str code = V.str "UnlikeWorlds") with
          | true =>
            rw [h4] at q
            exact iteT (unT q)
          | false =>
            rw [h4] at q
            obtain ⟨v, lv, k⟩ := unF q
            exact iteF ⟨_, rfl, fs, v, rfl, ha, lv, k⟩
theorem scField : FnScope ["_law_e"] ["_law_e"] (defScope sField) := ⟨rfl, rfl, rfl, by decide +kernel, rfl, by decide +kernel, by decide +kernel⟩
theorem ok_field {f fO : Addr} {fd fdO : FuncData} (F : Fun K "_law_field" "_law_field" sField f fd) (D : Dn K mg "_law_other_field" fO) (G : FnQ P w K mg base 1 fO fdO ["_law_e"] (spOtherF K)) (bO : Binds K fdO ["_law_e"] []) : FnQ P w K mg base 2 f fd ["_law_e"] (spFieldE K) := by
  refine Ux.Fun.okQ F scField (fun p vs H Q E h => ?_) (fun cdv A outer s H vs Q E p hr h => ?_)
  · obtain ⟨_, _, _, _, rfl, _⟩ := h
    rfl
  · obtain ⟨C, dd, fs, code, rfl, er, lc, q⟩ := h
    have hp : p ∈ (L2H.cxH CX0 P w K mg base ["_law_e"] "_law_field" (defScope sField) f cdv A outer s H E p).pn := List.mem_singleton.mpr rfl
    refine ⟨_, pss_cons (ps_if (pt_cmpR op_in_seq (pe_pf er.xf (er.no _ (by decide +kernel)) hp er.ca (pv 0)) (pe_tup (pa_cons pe_str (pa_cons pe_str pa_nil))) (by rfl)) (pss_one (ps_ret (pe_pf er.xf (er.no _ (by decide +kernel)) hp er.ca (pv 0)))) pss_nil)
      (pss_cons (ps_if (pt_cmpR op_in_seq (pe_pf er.xf (er.no _ (by decide +kernel)) hp er.ca (pv 0)) (pe_tup (pa_cons pe_str (pa_cons pe_str (pa_cons pe_str pa_nil)))) (by rfl)) (pss_one (ps_ret (pe_pf er.xf (er.no _ (by decide +kernel)) hp er.ca (pv 0)))) pss_nil)
      (pss_cons (ps_if (pt_cmpR op_in_seq (pe_pf er.xf (er.no _ (by decide +kernel)) hp er.ca (pv 0)) (pe_tup (pa_cons pe_str (pa_cons pe_str (pa_cons pe_str pa_nil)))) (by rfl)) (pss_one (ps_ret (pe_pf er.xf (er.no _ (by decide +kernel)) hp er.ca (pv 0)))) pss_nil)
      (pss_cons (ps_if (pt_cmpR op_eq (pe_pf er.xf (er.no _ (by decide +kernel)) hp er.ca (pv 0)) pe_str (nomark _)) (pss_one (ps_ret (pe_tup (pa_cons (pe_pf er.xf (er.no _ (by decide +kernel)) hp er.ca (pv 0)) (pa_cons (pe_pf er.xf (er.no _ (by decide +kernel)) hp er.ca (pv 0)) pa_nil))))) pss_nil)
      (pss_one (ps_ret (pe_callQ G hr hp (by rfl) D.gl D.kp bO (pa_cons (pv 0) pa_nil))))))), ?_⟩
    have ha := er.at_
    unfold fieldF at q
    refine ⟨_, rfl, fs, _, rfl, ha, lc, (by show 2 ≤ sizeLine; decide), fun t1 n1 => ?_⟩
    have s1 := same_upd' (o := .tup [V.str "InvalidName", .str "InvalidNumber"]) n1
    refine ⟨t1, _, rfl, .inr (.of upd_same), rfl, rfl, _, rfl, ?_⟩
    show if inV (.str code) [.str "InvalidName", .str "InvalidNumber"] = true then _ else _
    cases h1 : inV (.str code) [.str "InvalidName", .str "InvalidNumber"] with
    | true =>
      rw [h1] at q
      obtain ⟨v, lv, k⟩ := unT q
      exact iteT ⟨_, rfl, fs, v, rfl, s1 _ _ ha, lv, k _ s1⟩
    | false =>
      rw [h1] at q
      have q := unF q
      refine iteF ⟨_, rfl, fs, _, rfl, s1 _ _ ha, lc, (by show 3 ≤ sizeLine; decide), fun t2 n2 => ?_⟩
      have s2 := s1.trans (same_upd' (o := .tup [V.str "InvalidText", .str "WrongKind", .str "InvalidBlank"]) n2)
      refine ⟨t2, _, rfl, .inr (.of upd_same), rfl, rfl, _, rfl, ?_⟩
      show if inV (.str code) [.str "InvalidText", .str "WrongKind", .str "InvalidBlank"] = true then _ else _
      cases h2 : inV (.str code) [.str "InvalidText", .str "WrongKind", .str "InvalidBlank"] with
      | true =>
        rw [h2] at q
        obtain ⟨v, lv, k⟩ := unT q
        exact iteT ⟨_, rfl, fs, v, rfl, s2 _ _ ha, lv, k _ s2⟩
      | false =>
        rw [h2] at q
        have q := unF q
        refine iteF ⟨_, rfl, fs, _, rfl, s2 _ _ ha, lc, (by show 3 ≤ sizeLine; decide), fun t3 n3 => ?_⟩
        have s3 := s2.trans (same_upd' (o := .tup [V.str "NameTaken", .str "InvalidWitness", .str "UnknownName"]) n3)
        refine ⟨t3, _, rfl, .inr (.of upd_same), rfl, rfl, _, rfl, ?_⟩
        show if inV (.str code) [.str "NameTaken", .str "InvalidWitness", .str "UnknownName"] = true then _ else _
        cases h3 : inV (.str code) [.str "NameTaken", .str "InvalidWitness", .str "UnknownName"] with
        | true =>
          rw [h3] at q
          obtain ⟨v, lv, k⟩ := unT q
          exact iteT ⟨_, rfl, fs, v, rfl, s3 _ _ ha, lv, k _ s3⟩
        | false =>
          rw [h3] at q
          have q := unF q
          refine iteF ⟨_, rfl, fs, _, rfl, s3 _ _ ha, lc, rfl, _, rfl, ?_⟩
          cases h4 : decide (V.str code = V.str "TooLarge") with
          | true =>
            rw [h4] at q
            obtain ⟨v, lv, u, lu, k⟩ := unT q
            refine iteT ⟨_, rfl, fs, v, rfl, s3 _ _ ha, lv, _, rfl, fs, u, rfl, s3 _ _ ha, lu, (by show 2 ≤ sizeLine; decide), fun t4 n4 => ?_⟩
            exact k t4 _ upd_same (s3.trans (same_upd' n4))
          | false =>
            rw [h4] at q
            have q := unF q
            refine iteF ⟨_, rfl, C, dd, fs, code, rfl, er.same s3, lc, ?_⟩
            unfold otherF at q ⊢
            have mono : ∀ {f : Str}, Has fs f (fun v => ∀ H', Same H H' → Q v H') → Has fs f fun v => Q v _ := fun ⟨v, l, k⟩ => ⟨v, l, k _ s3⟩
            split at q
            · rename_i c
              rw [if_pos c]
              exact mono q
            · rename_i c
              rw [if_neg c]
              split at q
              · rename_i c
                rw [if_pos c]
                exact mono q
              · rename_i c
                rw [if_neg c]
                split at q
                · rename_i c
                  rw [if_pos c]
                  exact mono q
                · rename_i c
                  rw [if_neg c]
                  split at q
                  · rename_i c
                    rw [if_pos c]
                    exact q _ s3
                  · rename_i c
                    rw [if_neg c]
                    exact mono q
end
end K06

set_option Elab.async false
set_option linter.all false
set_option maxRecDepth 100000
set_option maxHeartbeats 4000000
namespace K06
open PySem PySem.Spec PyProof.Rows L2 Ux
/-! ### _law_why, handed a lambda -/
/-- the wish of an error: told as its code and what it has -/
def Told (K : PySem.W.Frag) (C1 C2 : Addr) (Q : VK) : XK := fun cls d H => ∃ (C dd : Addr) (fs : List (Str × V)) (code : Str), cls = .ref C ∧ d = some dd ∧ H dd = some (.xd fs) ∧ PySem.W.exmAny K cls [.ref C1, .ref C2] = some true ∧ XfC K C ∧
  (∀ f ∈ fieldNames, PySem.W.findIn K (.ref C) f = some none) ∧ fs.lookup ("code" : Str) = some (V.str code) ∧
  fieldF code fs (fun v => ∀ (t : Addr) (H' : Hp), H' t = some (.tup [.str code, v]) → Same H H' → Q (.ref t) H')
    fun v u => ∀ (t t2 : Addr) (H' : Hp), H' t2 = some (.tup [v, u]) → H' t = some (.tup [.str code, .ref t2]) → Same H H' → Q (.ref t) H'
def TTwhy (K : PySem.W.Frag) (C1 C2 : Addr) : (XK → Hp → VK → Prop) → Hp → VK → Prop := fun tl H Q =>
  tl (Told K C1 C2 Q) H fun v H' => [V.str "value", v].length ≤ sizeLine ∧ ∀ t : Addr, H' t = none → Q (.ref t) (upd H' t (.tup [.str "value", v]))
theorem Has.imp {fs : List (Str × V)} {f : Str} {q q' : V → Prop} (h : Has fs f q) (k : ∀ v, q v → q' v) : Has fs f q' := by
  obtain ⟨v, l, z⟩ := h
  exact ⟨v, l, k v z⟩
theorem ite_imp {c : Prop} [Decidable c] {A B A' B' : Prop} (h : if c then A else B) (ha : A → A') (hb : B → B') : if c then A' else B' := by
  split
  · rename_i z
    rw [if_pos z] at h
    exact ha h
  · rename_i z
    rw [if_neg z] at h
    exact hb h
theorem fieldF_imp {code : Str} {fs : List (Str × V)} {q q' : V → Prop} {t t' : V → V → Prop} (h : fieldF code fs q t) (k : ∀ v, q v → q' v) (k2 : ∀ v u, t v u → t' v u) : fieldF code fs q' t' := by
  unfold fieldF at h ⊢
  refine ite_imp h (fun z => z.imp k) fun h => ite_imp h (fun z => z.imp k) fun h => ite_imp h (fun z => z.imp k) fun h => ite_imp h (fun z => z.imp fun v z => z.imp (k2 v)) fun h => ?_
  unfold otherF at h ⊢
  exact ite_imp h (fun z => z.imp k) fun h => ite_imp h (fun z => z.imp k) fun h => ite_imp h (fun z => z.imp k) fun h => ite_imp h (k _) fun z => z.imp k
/-- the suite's reading -/
def tsWhy (K : PySem.W.Frag) (a : Addr) (cls : Value) (d : Option Addr) : TS := fun D σ H => ∃ C dd : Addr, cls = .ref C ∧ d = some dd ∧ XfC K C ∧ (∀ f ∈ fieldNames, PySem.W.findIn K (.ref C) f = some none) ∧
  ∀ oe : Obj, Caught (a, oe) C dd → tRet (tTup (tCons (tPf a dd "code" (tVar 1)) (tCons (tCallQ (a, oe) (spFieldE K) (tCons (tVar 1) tNil)) tNil))) D σ H
theorem scWhy : FnScope ["_law_ask", "_law_e"] ["_law_ask"] (defScope sWhy) := ⟨rfl, rfl, rfl, by decide +kernel, rfl, by decide +kernel, by decide +kernel⟩
section
variable {X : Cx} {C1 C2 fF g : Addr} {fdF : FuncData} {q : Str} {cdg : Value}
theorem why_gives (hr : Room 3 X.A) (D : Dn X.K X.mg "_law_field" fF) (G : FnQ X.prog X.w X.K X.mg X.base 2 fF fdF ["_law_e"] (spFieldE X.K)) (bF : Binds X.K fdF ["_law_e"] []) (m1 : X.mg "SlopeError" = some (.ref C1)) (m2 : X.mg "Missing" = some (.ref C2)) :
    LamX.GivesTo X ["_law_ask", "_law_e"] "_law_why" (defScope sWhy) g cdg (defBody sWhy) "_law_ask" q (TTwhy X.K C1 C2) := by
  intro f c' s H Q tl act hc h
  have room : L2H.RoomH 2 (cxOf C8.CX0 X.prog X.w X.K X.mg X.base ["_law_ask", "_law_e"] "_law_why" (defScope sWhy) g cdg X.A X.stack s H C8.E0).A := (L2H.roomH_of hr).deeper _
  refine ⟨_, pss_one (ps_try_as2 (X := (cxOf C8.CX0 X.prog X.w X.K X.mg X.base ["_law_ask", "_law_e"] "_law_why" (defScope sWhy) g cdg X.A X.stack s H C8.E0).nox) (i := 1) (C1 := C1) (C2 := C2) (ts := tsWhy X.K)
      (tb := fun W D σ H => ∃ Ech : XK, (∀ cls d σ' H', Ech cls d H' → W cls d σ' H') ∧ σ[0]? = some (some (.ref f)) ∧ H c' = some (LamX.CodeO c' q) ∧ tl Ech H fun v H' => [V.str "value", v].length ≤ sizeLine ∧ ∀ t, H' t = none → D.rt (.ref t) (upd H' t (.tup [.str "value", v])))
      rfl rfl scWhy.nd rfl rfl rfl rfl m1 m2 (by decide +kernel) (by decide +kernel) (fun W pn xe tk _ => ?_) (fun a oe cls d pn hz hf => ?_)), ?_⟩
  · refine ⟨fun pins s' σ H' D I h' => ?_⟩
    obtain ⟨Ech, hW, h1, h2, h3⟩ := h'
    exact (pss_one (ps_ret (pe_tup (pa_cons pe_str (pa_cons (act W pn xe Ech _ _ tk hW) pa_nil))))).run pins s' σ H' D I ⟨h1, h2, h3⟩
  · refine ⟨fun pins s' σ H' D' I h' => ?_⟩
    obtain ⟨C, dd, rfl, rfl, xf, no, k⟩ := h'
    have hp : (a, oe) ∈ ((cxOf C8.CX0 X.prog X.w X.K X.mg X.base ["_law_ask", "_law_e"] "_law_why" (defScope sWhy) g cdg X.A X.stack s H C8.E0).nox.suite a ((a, oe) :: pn)).pn := List.mem_cons_self
    have room2 : L2H.RoomH 2 ((cxOf C8.CX0 X.prog X.w X.K X.mg X.base ["_law_ask", "_law_e"] "_law_why" (defScope sWhy) g cdg X.A X.stack s H C8.E0).nox.suite a ((a, oe) :: pn)).A := ⟨room.dp, room.un⟩
    refine PSs.run (X := (cxOf C8.CX0 X.prog X.w X.K X.mg X.base ["_law_ask", "_law_e"] "_law_why" (defScope sWhy) g cdg X.A X.stack s H C8.E0).nox.suite a ((a, oe) :: pn)) (t := tRet (tTup (tCons (tPf a dd "code" (tVar 1)) (tCons (tCallQ (a, oe) (spFieldE X.K) (tCons (tVar 1) tNil)) tNil)))) ?_ pins s' σ H' D' I (k oe ⟨hz, hf⟩)
    exact pss_one (ps_ret (pe_tup (pa_cons (pe_pf (p := (a, oe)) xf (no _ (by decide +kernel)) hp ⟨hz, hf⟩ (pv 1)) (pa_cons (pe_callQ (p := (a, oe)) G room2 hp (by rfl) D.gl D.kp bF (pa_cons (pv 1) pa_nil)) pa_nil))))
  · refine ⟨Told X.K C1 C2 Q, fun cls d σ' H' t => ?_, rfl, hc, h⟩
    obtain ⟨C, dd, fs, code, rfl, rfl, hdd, ex, xf, no, lc, ff⟩ := t
    refine ⟨ex, fun a na len => ⟨C, dd, rfl, rfl, xf, no, fun oe ca => ?_⟩⟩
    have got : (σ'.set 1 (some (V.ref a)))[1]? = some (some (V.ref a)) := List.getElem?_set_self (by rw [len]; show 1 < 2; decide)
    refine ⟨.ref a, got, fs, _, rfl, hdd, lc, .ref a, got, C, dd, fs, code, rfl, ⟨ca, xf, no, hdd⟩, lc, fieldF_imp ff (fun v hv H2 s2 => ?_) (fun v u hv t2 H2 h2 s2 => ?_)⟩
    · exact ⟨(by show 2 ≤ sizeLine; decide), fun t nt => hv t _ upd_same (s2.trans (same_upd' nt))⟩
    · exact ⟨(by show 2 ≤ sizeLine; decide), fun t nt => hv t t2 _ ((upd_ne (ne_of_none h2 nt)).trans h2) upd_same (s2.trans (same_upd' nt))⟩
end
end K06

set_option Elab.async false
set_option linter.all false
set_option maxRecDepth 100000
set_option maxHeartbeats 4000000
namespace Ux
open PySem PySem.Spec PyProof.Rows L2
/-! ### {o} in an f-string by o's own __str__; the inner walk of a comprehension with two for -/
structure FmO (K : PySem.W.Frag) (C : Addr) : Prop where
  fm : PySem.W.findIn K (.ref C) "__format__" = some (some (.builtin "object.__format__"))
  ob : PySem.W.mroIn K C (.type "object") = some true
def tFmtO (C : Addr) (sp : Sp) (te : TE) : TE := fun σ H Q => te σ H fun x H1 => ∃ (a dx : Addr) (fs : List (Str × V)), x = .ref a ∧ H1 a = some (.ins C dx fs) ∧ sp [.ref a] H1 (fun v H' => ∃ z, v = .str z ∧ Q (.str z) H') (fun _ _ _ => False)
section
variable {X : Cx} {k : Nat} {f C : Addr} {fd : FuncData} {sp : Sp} {e : Expr} {te : TE} {pos : Pos}
theorem pe_fmtO (M : OwnM X.K C "__str__" f) (N : FmO X.K C) (F : FnOk X.prog X.w X.K X.mg X.base CX0 k f fd ["self"] sp) (hb : Binds X.K fd ["self"] []) (hr : Room (k + 1) X.A) (he : PE X e te) : PE X (.FormattedValue e (-1) none pos) (tFmtO C sp te) := by
  refine ⟨fun pins s σ H Q I h => ?_⟩
  refine wpAny_FormattedValue_plain (thn (he.run pins s σ H _ I h) fun v s1 hv => ?_)
  obtain ⟨x, H1, I1, r1, a, dx, fs, rfl, ea, q⟩ := hv
  cases (show v = Value.ref a from r1)
  obtain ⟨mA, O, _⟩ := ins_get I1.hok ea
  obtain ⟨od, J, _⟩ := O.look
  refine PySem.W.kfo_fieldS hr.in1.units0 I1.kIn J N.fm N.ob M.at_ M.fn (own_run F hr.in1 (I1.tok _).env0.in1 hb (vs := [.ref a]) (I1.tok _) (.cons rfl .nil) q fun u s' hq => ?_)
  obtain ⟨v, H', I', rv, z, ev, q'⟩ := hq
  subst ev
  obtain ⟨t, rfl⟩ := rv
  exact ⟨.str z, H', I', ⟨t, rfl⟩, q'⟩
end
theorem lc_in {K : PySem.W.Frag} {a : Addr} {xs : List V} {H4 : Hp} {Nx : Hp → Prop} {T : V → Hp → (Hp → Prop) → Prop} (Pv : Nat → Hp → Prop) (h0 : Pv 0 H4) (hl : ∀ i H, i ≤ xs.length → Pv i H → SqT K H a xs)
    (hs : ∀ i x H, xs[i]? = some x → Pv i H → T x H (Pv (i + 1))) (hd : ∀ H, Pv xs.length H → Nx H) :
    ∃ W : Nat → Nat → Hp → Prop, (∃ m, W 0 m H4) ∧ ∀ i m H, W i m H →
      ((Itt K a).stop i H ∧ Nx H) ∨ ((Itt K a).go i H ∧ ∃ N1 : Hp → Prop, (∀ H', N1 H' → ∃ m', m' < m ∧ W (i + 1) m' H') ∧ ∀ x H', (Itt K a).yld i H x H' → T x H' N1) := by
  refine ⟨fun i m H => m = xs.length - i ∧ i ≤ xs.length ∧ Pv i H, ⟨xs.length, by simp, Nat.zero_le _, h0⟩, ?_⟩
  rintro i m H ⟨rfl, hi, p⟩
  have q := hl i H hi p
  by_cases hlt : i < xs.length
  · refine .inr ⟨⟨xs, xs[i], q, by simp [hlt]⟩, Pv (i + 1), fun H' p' => ⟨xs.length - (i + 1), by omega, rfl, hlt, p'⟩, fun x H' y => ?_⟩
    obtain ⟨e, y⟩ := y
    subst e
    exact hs i x _ (y xs q) p
  · have e : i = xs.length := by omega
    subst e
    exact .inl ⟨⟨xs, q, Nat.le_refl _⟩, hd H p⟩
end Ux

set_option Elab.async false
set_option linter.all false
set_option maxRecDepth 100000
set_option maxHeartbeats 4000000
namespace Ux
open PySem PySem.Spec PyProof.Rows L2
section
variable {X : Cx} {CX : CXT} {k : Nat} {C p g : Addr} {x m : Str} {mc : Value} {fd : FuncData} {ps : List Str} {sp : Sp} {dvs : List V} {ds : List Value} {E : XK} {p1 p2 pos : Pos} {pl : Sem Bool}
/-- C.m(), m a staticmethod of an own class -/
theorem pe_smeth0 (hg : Gl X x) (hm : X.mg x = some (.ref C)) (S : StM X.K C m mc p g) (F : FnOk X.prog X.w X.K X.mg X.base CX k g fd ps sp) (hr : Room k X.A) (hb : Binds X.K fd ps ds) (hd : Vals dvs ds) (hx : Passes CX X E)
    (hdb : (x == ("__debug__" : Str)) = false := by decide)
    (hc : eval (.Call (.Attribute (.Name x p1) m p2) [] [] pos) X.env = (do
      let ov ← eval (.Name x p1) X.env
      standAt p2.atName
      let (f, first) ← holding [ov] (getMethod ov m pl)
      callWith pos f first (backTo pos (starEach [] X.env)) (backToKw pos (keywordEach [] X.env))) := by rfl) :
    PE X (.Call (.Attribute (.Name x p1) m p2) [] [] pos) (tCall sp dvs E tNil) := by
  constructor
  intro pins s σ H Q I h
  obtain ⟨rest, rc⟩ := S.rc
  refine PySem.W.methodCall_KW (ld_glob I hg hm ?_ hdb) hc
  refine PySem.W.method_cls I.kIn S.sg (PySem.W.cls_bind I.kIn S.rd S.fc (wpAny_call (PySem.W.sm_get (s := { s with toks := s.toks + 1 }) I.kIn rc (PySem.W.handed_on rfl ?_))))
  exact PySem.W.callWith_K0 (I.tok _).kIn S.kp (run_fn (us := []) F hr hb hd hx (I.tok _) .nil h)
end
end Ux

set_option Elab.async false
set_option linter.all false
set_option maxRecDepth 100000
set_option maxHeartbeats 4000000
namespace Ux
open PySem PySem.W
/-! ### own binary operators: the right side of the same class, an int, or the int on the left; own unary minus and abs; // by any divisor -/
section
variable {prog : Program} {w : World} {M : Model} {A : Around} {E : Value → Shared → Prop} {s : Shared} {K : Frag} {x C L f : Addr} {h₀ : Heap} {m : Str → Option Value} {ox : Obj} {od : Option Obj}
theorem intBin_ref {name : String} {g : Int → Int → Sem Fin} {refl : Bool} {i : Int} {t : Tok} {Q : Fin → Shared → Prop} (ho : s.heap.get? x = some ox) (np : ∀ j u, ox.data ≠ .prim (.int j u)) (h : Q (.done (.ret .notImplemented)) s) :
    wpAny M A (Builtin.Int.intBinary name g refl ⟨[.int i t, .ref x], []⟩) Q E s := by
  unfold Builtin.Int.intBinary
  refine wpAny_bind (m := slotArgs name 1 _) (wpAny_pure ?_)
  unfold Builtin.Int.intOfSelf
  refine wpAny_bind (wpAny_bind (m := asInt? (.int i t)) (wpAny_pure (wpAny_pure ?_)))
  refine wpAny_bind (m := asInt? (.ref x)) ?_
  unfold asInt?
  refine wpAny_bind (wpAny_load ho ?_)
  split
  · rename_i j u e
    exact absurd e (np j u)
  · refine wpAny_pure ?_
    exact wpAny_bind (wpAny_rule (wpAny_pure h))
theorem intSlot_ref {name : Str} {id nm : String} {g : Int → Int → Sem Fin} {i : Int} {t : Tok} {Q : Option Value → Shared → Prop} (h : Slot "int" name id) (hb : entryFor table id = some (Builtin.Int.intBinary nm g)) (ha : argsOk id ⟨[.int i t, .ref x], []⟩) (ho : s.heap.get? x = some ox) (np : ∀ j u, ox.data ≠ .prim (.int j u)) (hq : Q none s) :
    wpAny (model prog w) A (tryMethod (.int i t) name (.ref x)) Q E s :=
  wpAny_tryMethod_declines (typeIs_int s i t) h (wpAny_call_entry h (typeIs_int s i t) hb (intBin_ref ho np ⟨_, rfl, rfl, hq⟩) ha)
/-- i + x, x of a class with its own reflected method -/
theorem bin_refl {op : Operator} {nm sym idl : String} {g : Int → Int → Sem Fin} {n0 : String} {f' : Addr} {i : Int} {t : Tok} {Q : Value → Shared → Prop} (hi : op.info = (sym, nm)) (X : K.In s.heap) (I : InstAt s.heap x ox C od) (np : ∀ j u, ox.data ≠ .prim (.int j u)) (hc : selfFirst K C = true)
    (hs : findIn K (.ref C) (PySem.dunder nm) = some (some (.ref f'))) (hr : findIn K (.ref C) (dunderR nm) = some (some (.ref f))) (hf : isFn K (.ref f) = true) (hsub : subIn K (.ref C) (.type "int") = some false)
    (fills : fillsNumberSlot (.type "int") nm = pure true) (slot : Slot "int" (PySem.dunder nm) idl) (hb : entryFor table idl = some (Builtin.Int.intBinary n0 g)) (ha : argsOk idl ⟨[.int i t, .ref x], []⟩)
    (h : wpAny (model prog w) A (call (.ref f) [.ref x, .int i t]) (CmpBack Q) E s) : wpAny (model prog w) A (binaryOp op (.int i t) (.ref x)) Q E s := by
  obtain ⟨cd, rest, hcd, hm⟩ := ksp_first hc
  have one := ksp_try X I hr hf h
  have L3 : Looks (model prog w) s.heap (fillsNumberSlot (.ref C) nm) true := fills_K X hcd hm hs
  simp only [binaryOp, hi]
  refine wpAny_holding (wpAny_bind ?_)
  unfold binaryOp1
  refine wpAny_bind (wpAny_typeOf (typeIs_int s i t) (wpAny_bind (I.type.here (wpAny_bind (wpAny_of_eq fills ?_)))))
  have hne : (Value.type "int" == Value.ref C) = false := Bool.eq_false_iff.mpr fun q => by cases beq_iff_eq.mp q
  simp only [hne, Bool.false_eq_true, if_false]
  refine wpAny_bind (L3.here ?_)
  simp only [Bool.and_self, if_true]
  refine wpAny_bind ((looks_subIn X hsub).here ?_)
  have hpy : numberSlotInPython (.type "int") nm = pure false := rfl
  simp only [Bool.false_eq_true, if_false, pure_bind, Bool.not_false, Bool.and_self, if_true, hpy]
  refine wpAny_bind (intSlot_ref slot hb ha I.1 np ?_)
  dsimp only
  refine wpAny_bind (wpAny_mono one (fun r s' hr' => ?_) fun _ _ e => e)
  obtain ⟨v, rfl, hq⟩ := hr'
  exact wpAny_bind (wpAny_rule (wpAny_pure (wpAny_pure hq)))
end
end Ux
namespace Ux
open PySem PySem.Spec PyProof.Rows L2
/-- o op y by o's own method -/
structure BinM (K : PySem.W.Frag) (C : Addr) (nm : String) (f : Addr) : Prop where
  sf : PySem.W.selfFirst K C = true
  at_ : PySem.W.findIn K (.ref C) (PySem.dunder nm) = some (some (.ref f))
  fn : PySem.W.isFn K (.ref f) = true
/-- .. with an int on the right -/
structure BinI (K : PySem.W.Frag) (C : Addr) (nm : String) : Prop where
  rc : ∃ g : Addr, PySem.W.findIn K (.ref C) (dunderR nm) = some (some (.ref g))
  t1 : ∃ fo, PySem.W.findIn K (.type "int") (PySem.dunder nm) = some fo
  t2 : ∃ ro, PySem.W.findIn K (.type "int") (dunderR nm) = some ro
  sb : PySem.W.subIn K (.type "int") (.ref C) = some false
/-- .. with an int on the left -/
structure BinL (K : PySem.W.Frag) (C : Addr) (nm : String) (f : Addr) : Prop where
  sf : PySem.W.selfFirst K C = true
  lt : ∃ g : Addr, PySem.W.findIn K (.ref C) (PySem.dunder nm) = some (some (.ref g))
  at_ : PySem.W.findIn K (.ref C) (dunderR nm) = some (some (.ref f))
  fn : PySem.W.isFn K (.ref f) = true
  sb : PySem.W.subIn K (.ref C) (.type "int") = some false
/-- an object handed back -/
def Ob (Q : VK) : VK := fun v H => ∃ p, v = .ref p ∧ Q (.ref p) H
def rBinO (K : PySem.W.Frag) (C : Addr) (sp : Sp) : R2 := fun x y H Q => ∃ (a dx : Addr) (fs : List (Str × V)), x = .ref a ∧ H a = some (.ins C dx fs) ∧ TyX K H y (.ref C) ∧ sp [x, y] H (Ob Q) (fun _ _ _ => False)
def rBinI (C : Addr) (sp : Sp) : R2 := fun x y H Q => ∃ (a dx : Addr) (fs : List (Str × V)) (i : Int), x = .ref a ∧ y = .int i ∧ H a = some (.ins C dx fs) ∧ sp [x, y] H (Ob Q) (fun _ _ _ => False)
def rBinL (C : Addr) (sp : Sp) : R2 := fun x y H Q => ∃ (a dx : Addr) (fs : List (Str × V)) (i : Int), x = .int i ∧ y = .ref a ∧ H a = some (.ins C dx fs) ∧ sp [y, x] H (Ob Q) (fun _ _ _ => False)
section
variable {X : Cx} {k : Nat} {f C : Addr} {fd : FuncData} {sp : Sp} {op : Operator} {ps : List Str}
theorem ob_back {pins : List (Addr × Obj)} {σ : L2.St} {Q : VK} {u : Value} {s' : Shared} (hq : EP X pins σ (Ob Q) u s') : PySem.W.CmpBack (EP X pins σ Q) u s' := by
  obtain ⟨v, H', I', rv, p, ev, q'⟩ := hq
  subst ev
  cases (show u = Value.ref p from rv)
  exact ⟨.ref p, H', I', rfl, q'⟩
theorem op_binO (M : BinM X.K C op.info.2 f) (F : FnOk X.prog X.w X.K X.mg X.base CX0 k f fd ps sp) (hb : Binds X.K fd ps []) (hr : Room k X.A) : OpR X (binaryOp op) (rBinO X.K C sp) := by
  intro pins s σ H x y v u Q I rx ry h
  obtain ⟨a, dx, fs, rfl, ea, ty, q⟩ := h
  cases (show v = Value.ref a from rx)
  obtain ⟨mA, O, _⟩ := ins_get I.hok ea
  obtain ⟨od, J, _⟩ := O.look
  obtain ⟨m, hF⟩ := I.fr
  obtain ⟨P', Z, hp, _⟩ := kit_of I ry ty
  exact PySem.W.binop_K hF I.ok.mod.kin J (Z.ty _ _ I.kIn hp) M.sf M.at_ M.fn (own_run F hr I.env0 hb (vs := [.ref a, y]) I (.cons rfl (.cons ry .nil)) q fun u s' hq => ob_back hq)
theorem op_binI (M : BinM X.K C op.info.2 f) (N : BinI X.K C op.info.2) (F : FnOk X.prog X.w X.K X.mg X.base CX0 k f fd ps sp) (hb : Binds X.K fd ps []) (hr : Room k X.A) : OpR X (binaryOp op) (rBinI C sp) := by
  intro pins s σ H x y v u Q I rx ry h
  obtain ⟨a, dx, fs, i, rfl, rfl, ea, q⟩ := h
  cases (show v = Value.ref a from rx)
  obtain ⟨mA, O, _⟩ := ins_get I.hok ea
  obtain ⟨od, J, _⟩ := O.look
  obtain ⟨m, hF⟩ := I.fr
  obtain ⟨t, rfl⟩ := ry
  obtain ⟨g, rc⟩ := N.rc
  obtain ⟨fo, t1⟩ := N.t1
  obtain ⟨ro, t2⟩ := N.t2
  exact PySem.W.ksp_binT (T := "int") hF I.ok.mod.kin J rfl M.sf M.at_ M.fn rc (.inr ⟨g, rfl⟩) t1 t2 N.sb (own_run F hr I.env0 hb (vs := [.ref a, .int i]) I (.cons rfl (.cons ⟨t, rfl⟩ .nil)) q fun u s' hq => ob_back hq)
theorem op_binL {nm sym idl n0 : String} {g : Int → Int → Sem Fin} (hi : op.info = (sym, nm)) (M : BinL X.K C nm f) (F : FnOk X.prog X.w X.K X.mg X.base CX0 k f fd ps sp) (hb : Binds X.K fd ps []) (hr : Room k X.A)
    (fills : fillsNumberSlot (.type "int") nm = pure true) (slot : Slot "int" (PySem.dunder nm) idl) (he : entryFor table idl = some (Builtin.Int.intBinary n0 g)) (ha : ∀ a b, argsOk idl ⟨[a, b], []⟩) : OpR X (binaryOp op) (rBinL C sp) := by
  intro pins s σ H x y v u Q I rx ry h
  obtain ⟨a, dx, fs, i, rfl, rfl, ea, q⟩ := h
  cases (show u = Value.ref a from ry)
  obtain ⟨mA, O, _⟩ := ins_get I.hok ea
  obtain ⟨od, J, _⟩ := O.look
  obtain ⟨t, rfl⟩ := rx
  obtain ⟨g', lt⟩ := M.lt
  exact bin_refl hi I.kIn J (fun j u e => by cases e) M.sf lt M.at_ M.fn M.sb fills slot he (ha _ _) (own_run F hr I.env0 hb (vs := [.ref a, .int i]) I (.cons rfl (.cons ⟨t, rfl⟩ .nil)) q fun u s' hq => ob_back hq)
theorem op_addL (M : BinL X.K C "add" f) (F : FnOk X.prog X.w X.K X.mg X.base CX0 k f fd ps sp) (hb : Binds X.K fd ps []) (hr : Room k X.A) : OpR X (binaryOp .Add) (rBinL C sp) :=
  op_binL rfl M F hb hr PySem.F.fills_int_add PySem.F.slot_int_add PySem.F.entry_int_add PySem.F.args_int_add_2
theorem op_subL (M : BinL X.K C "sub" f) (F : FnOk X.prog X.w X.K X.mg X.base CX0 k f fd ps sp) (hb : Binds X.K fd ps []) (hr : Room k X.A) : OpR X (binaryOp .Sub) (rBinL C sp) :=
  op_binL rfl M F hb hr PySem.F.fills_int_sub PySem.F.slot_int_sub PySem.F.entry_int_sub PySem.F.args_int_sub_2
/-- -o by o's own __neg__ -/
def rOwnNeg (C : Addr) (sp : Sp) : V → Hp → VK → Prop := fun x H Q => ∃ (a dx : Addr) (fs : List (Str × V)), x = .ref a ∧ H a = some (.ins C dx fs) ∧ sp [.ref a] H Q (fun _ _ _ => False)
theorem un_negO (M : OwnM X.K C "__neg__" f) (F : FnOk X.prog X.w X.K X.mg X.base CX0 k f fd ["self"] sp) (hb : Binds X.K fd ["self"] []) (hr : Room k X.A) : UnR X (unaryOp .USub) (rOwnNeg C sp) := by
  intro pins s σ H x v Q I rx h
  obtain ⟨a, dx, fs, rfl, ea, q⟩ := h
  cases (show v = Value.ref a from rx)
  obtain ⟨mA, O, _⟩ := ins_get I.hok ea
  obtain ⟨od, J, _⟩ := O.look
  obtain ⟨m, hF⟩ := I.fr
  exact PySem.W.ksp_neg hF I.ok.mod.kin J M.at_ M.fn (own_run F hr I.env0 hb (vs := [.ref a]) I (.cons rfl .nil) q fun u s' hq => hq)
theorem op_any {f : Value → Value → Sem Value} {r1 r2 : R2} (h1 : OpR X f r1) (h2 : OpR X f r2) : OpR X f (fun x y H Q => r1 x y H Q ∨ r2 x y H Q) := by
  intro pins s σ H x y v u Q I rx ry h
  rcases h with h | h
  · exact h1 pins s σ H x y v u Q I rx ry h
  · exact h2 pins s σ H x y v u Q I rx ry h
/-- // by any divisor but 0, below 2 ^ 9000 -/
theorem op_fdivX : OpR X (binaryOp .FloorDiv) (rI (fun _ j => j ≠ 0 ∧ j.natAbs.log2 < 9000) fun i j => .int (i.fdiv j)) := opI fun _ _ _ _ _ _ _ hc q => floordiv_int hc.1 q (.inl (PyProof.noPylong_of_log2 hc.2))
end
end Ux

set_option Elab.async false
set_option linter.all false
set_option maxRecDepth 100000
set_option maxHeartbeats 4000000
namespace Ux
open PySem PySem.Spec PyProof.Rows L2
/-! ### abs(o) by o's own __abs__; o.m(k = e) -/
section
variable {X : Cx} {k : Nat} {f C : Addr} {fd : FuncData} {sp : Sp}
theorem call_absO (M : OwnM X.K C "__abs__" f) (F : FnOk X.prog X.w X.K X.mg X.base CX0 k f fd ["self"] sp) (hb : Binds X.K fd ["self"] []) (hr : Room (k + 1) X.A) : CallR X (.builtin "abs") (fun xs H Q => ∃ (a dx : Addr) (fs : List (Str × V)), xs = [.ref a] ∧ H a = some (.ins C dx fs) ∧ sp [.ref a] H (Ob Q) (fun _ _ _ => False)) := by
  intro pins s σ H xs us Q I r h
  obtain ⟨a, dx, fs, rfl, ea, q⟩ := h
  obtain ⟨u, rfl, rx⟩ := vals1 r
  cases (show u = Value.ref a from rx)
  obtain ⟨mA, O, _⟩ := ins_get I.hok ea
  obtain ⟨od, J, _⟩ := O.look
  refine PySem.Calls.call_function_entry kind_abs plain_abs entry_abs (args_abs _) ?_
  unfold Builtin.«abs»
  refine wpAny_bind (m := oneArg "abs" _) (wpAny_pure ?_)
  refine wpAny_bind (m := callSpecial? (.ref a) (Str.ofString "__abs__")) (PySem.W.special_fn I.kIn J M.at_ (beq_iff_eq.mp M.fn) (own_run F hr.in1 I.env0.in1 hb (vs := [.ref a]) I (.cons rfl .nil) q fun u s' hq => ?_))
  obtain ⟨v, H', I', rv, p, ev, q'⟩ := hq
  subst ev
  cases (show u = Value.ref p from rv)
  exact wpAny_pure ⟨_, rfl, .ref p, H', I', rfl, q'⟩
end
section
variable {X : Cx} {o : Expr} {m : Str} {pos apos : Pos} {ta : TE} {CX : CXT} {k : Nat} {f C : Addr} {fd : FuncData} {ps ks : List Str} {sp : Sp} {E : XK} {kws : List Keyword} {tk : TA} {gg : List Value → List Value → List Value} {gV : List V → List V → List V}
def tMethK0 (C : Addr) (m : Str) (sp : Sp) (gV : List V → List V → List V) (E : XK) (ta : TE) (tk : TA) : TE := fun σ H Q => ta σ H fun x H1 => ∃ a dx fs, x = .ref a ∧ H1 a = some (.ins C dx fs) ∧ fs.lookup m = none ∧ tk σ H1 fun zs H2 => sp (gV [x] zs) H2 Q E
theorem pe_methK0 {pl : Sem Bool} (he : PE X o ta) (c : Cls X.K C) (hm : Meth X.K C m f) (F : FnOk X.prog X.w X.K X.mg X.base CX k f fd ps sp) (hr : Room k X.A) (hb : KBinds X.K fd ps ks gg gV) (hx : Passes CX X E) (hkw : PK X kws tk)
    (hall : (backToKw pos (keywordEach kws X.env)).all (·.1.isSome) = true := by rfl) (hks : (backToKw pos (keywordEach kws X.env)).filterMap (·.1) = ks := by rfl)
    (ht : eval (.Call (.Attribute o m apos) [] kws pos) X.env = (do
      let ov ← eval o X.env
      standAt apos.atName
      let (f, first) ← holding [ov] (getMethod ov m pl)
      callWith pos f first (backTo pos (starEach [] X.env)) (backToKw pos (keywordEach kws X.env))) := by rfl)
    (hpl : ((backTo pos (starEach [] X.env)).any (·.1) || (backToKw pos (keywordEach kws X.env)).any (·.1.isNone)) = false := by rfl) :
    PE X (.Call (.Attribute o m apos) [] kws pos) (tMethK0 C m sp gV E ta tk) := by
  refine ⟨fun pins s σ H Q I h => ?_⟩
  refine PySem.W.methodCall_KW (pl := pl) (thn (he.run pins s σ H _ I h) fun u s1 ⟨x, H1, I1, rx, a, dx, fs, ex, ea, l, q⟩ => ?_) ht
  subst ex
  obtain rfl : u = Value.ref a := rx
  refine getmeth_ok I1 ea c hm l ?_
  refine PySem.W.callWith_KW0 (first := [.ref a]) (h₀ := X.base) I.ok.mod.kin hm.kp hall (thn (hkw.run pos pins s1 σ H1 _ I1 q) fun ws s2 got => ?_) hpl
  obtain ⟨zs, H2, I2, rz, q2⟩ := got
  refine ⟨I2.kIn, ?_⟩
  rw [hks]
  exact run_fnk (us := [.ref a]) (vs := [.ref a]) F hr hb hx I2 (.cons rfl .nil) rz q2
end
end Ux
/-! ### abs and str of False -/
namespace Ux
open PySem PySem.Spec PyProof.Rows L2
theorem abs_false {prog : Program} {w : World} {A : Around} {E : Value → Shared → Prop} {s : Shared} {Q : Value → Shared → Prop} (h : ∀ u tk, Q (.int 0 u) { s with toks := tk }) : wpAny (model prog w) A (call (.builtin "abs") [.bool false]) Q E s := by
  refine PySem.Calls.call_function_entry kind_abs plain_abs entry_abs (args_abs _) ?_
  unfold Builtin.«abs»
  refine wpAny_bind (m := oneArg "abs" _) (wpAny_pure ?_)
  refine wpAny_bind (m := callSpecial? (.bool false) (Str.ofString "__abs__")) (wpAny_callSpecial?_slot (name := Str.ofString "__abs__") (PySem.typeIs_bool s false) F.slot_bool_abs
    (wpAny_call_entry F.slot_bool_abs (PySem.typeIs_bool s false) entry_int_abs ?_ (args_int_abs _)))
  have h' := h s.toks (s.toks + 1)
  exact wpAny_ret_mkInt (wpAny_pure ⟨_, rfl, h'⟩)
theorem str_false {prog : Program} {w : World} {A : Around} {E : Value → Shared → Prop} {s : Shared} {Q : Value → Shared → Prop} (h : Q (.str "False" s.toks) { s with toks := s.toks + 1 }) : wpAny (model prog w) A (call (.type "str") [.bool false]) Q E s :=
  callType_new F.called_str (by decide) (F.typeCall_str_1 _) (F.newCall_str_1 _) (fun obj => F.args_object_init_2 obj _) F.entry_str_new
    (meets_str_new (S := fun _ R s => R (.ok (.ret (.str "False" s.toks))) { s with toks := s.toks + 1 }) fun _ _ _ _ s hq =>
      wpAny_strOf_gives rfl (PySem.typeIs_bool s false) F.slot_bool_str F.slot_bool_repr F.entry_bool_repr (F.args_bool_repr_1 _) (gives_bool_repr false) hq (hsz := by decide)) ⟨typeIs_str _ _ _, h⟩
theorem call_absB {X : Cx} : CallR X (.builtin "abs") (fun xs H Q => ((∃ i, xs = [.int i] ∧ Q (.int (if i < 0 then -i else i)) H) ∨ (xs = [.bl true] ∧ Q (.int 1) H)) ∨ (xs = [.bl false] ∧ Q (.int 0) H)) := by
  intro pins s σ H xs us Q I r h
  rcases h with h | ⟨rfl, q⟩
  · exact call_absT pins s σ H xs us Q I r h
  · obtain ⟨u, rfl, r1⟩ := vals1 r
    cases (show u = Value.bool false from r1)
    exact abs_false fun u tk => ⟨.int 0, H, I.tok _, ⟨_, rfl⟩, q⟩
theorem call_strB {X : Cx} : CallR X (.type "str") (fun xs H Q => ((∃ i, xs = [.int i] ∧ i.natAbs.log2 < 1920 ∧ Q (.str (toString i)) H) ∨ (xs = [.bl true] ∧ Q (.str "True") H)) ∨ (xs = [.bl false] ∧ Q (.str "False") H)) := by
  intro pins s σ H xs us Q I r h
  rcases h with h | ⟨rfl, q⟩
  · exact call_strT pins s σ H xs us Q I r h
  · obtain ⟨u, rfl, r1⟩ := vals1 r
    cases (show u = Value.bool false from r1)
    exact str_false ⟨.str _, H, I.tok _, ⟨_, rfl⟩, q⟩
end Ux

set_option Elab.async false
set_option linter.all false
set_option maxRecDepth 100000
set_option maxHeartbeats 4000000
/-! A lambda without parameters held as a value: in a tuple, in a list; a def called with such a value. -/
namespace Ux
open PySem PySem.Spec PyProof.Rows L2 LamX
/-- a lambda of the text, and what its body is read as -/
structure LamD where
  params : Arguments
  body : Expr
  scope : Scope
  t : XK → TE
/-- its function object at f, made where the cells are cl -/
def LamO (cl : List (Str × Addr)) (q : Str) (d : LamD) (f c' : Addr) : HO := .ext fun h => ∃ pm ctv : Value, h.get? f = some (PySem.W.kla_obj "<lambda>" q d.params d.body d.scope (cloFrom cl d.scope.names []) pm c' ctv)
structure LamAt (cl : List (Str × Addr)) (q : Str) (H : Hp) (d : LamD) (f c' : Addr) : Prop where
  fn : H f = some (LamO cl q d f c')
  co : H c' = some (CodeO c' q)
theorem lamO_ne {cl : List (Str × Addr)} {q : Str} {d : LamD} {f c' : Addr} (ps : Array Value) : LamO cl q d f c' ≠ .tbl ps := fun z => by
  unfold LamO at z
  cases z
/-- tuples and what is told by one object are kept -/
structure Kp (H H' : Hp) : Prop where
  tup : ∀ b xs, H b = some (.tup xs) → H' b = some (.tup xs)
  ext : ∀ b φ, H b = some (.ext φ) → H' b = some (.ext φ)
theorem Kp.of {H H' : Hp} (e : ∀ b o, H b = some o → H' b = some o) : Kp H H' := ⟨fun b xs => e b _, fun b φ => e b _⟩
theorem Kp.ofN {H H' : Hp} (e : ExtN H H') : Kp H H' := ⟨fun b xs h => e b _ h (fun _ z => by cases z), fun b φ h => e b _ h (fun _ z => by cases z)⟩
theorem Kp.trans {H H1 H2 : Hp} (a : Kp H H1) (b : Kp H1 H2) : Kp H H2 := ⟨fun c xs h => b.tup _ _ (a.tup _ _ h), fun c φ h => b.ext _ _ (a.ext _ _ h)⟩
theorem Kp.but {H H' : Hp} {c : Addr} {xs : List V} (hc : H c = some (.lst xs)) (e : ∀ b o, H b = some o → b ≠ c → H' b = some o) : Kp H H' :=
  ⟨fun b ys h => e b _ h (fun z => by rw [z, hc] at h; cases h), fun b φ h => e b _ h (fun z => by rw [z, hc] at h; cases h)⟩
theorem LamAt.kp {cl : List (Str × Addr)} {q : Str} {H H' : Hp} {d : LamD} {f c' : Addr} (l : LamAt cl q H d f c') (k : Kp H H') : LamAt cl q H' d f c' := ⟨k.ext _ _ l.fn, k.ext _ _ l.co⟩
section
variable {X : Cx} {pins : List (Addr × Obj)} {σ : L2.St} {H : Hp} {s : Shared}
theorem lam_track {h' : Heap} {tk : Nat} {d : LamD} {c' : Addr} {pm ctv : Value} {q : Str} {cl : List (Str × Addr)} {s1 : Shared} (I : Inv X pins σ H s1) (ho : s1.heap = h') :
    Inv X pins σ (upd H h'.objs.size (LamO cl q d h'.objs.size c')) { s1 with heap := h'.push (PySem.W.kla_obj "<lambda>" q d.params d.body d.scope (cloFrom cl d.scope.names []) pm c' ctv), toks := tk } := by
  subst ho
  exact I.laid (fun b u e => Heap.get?_push_of_some _ e) (Nat.le_refl _) ⟨⟨pm, ctv, Heap.get?_push_size _ rfl⟩, ⟨_, Heap.get?_push_size _ rfl⟩, fun h1 h2 ⟨p, v, e⟩ st => ⟨p, v, st _ e⟩⟩
def tLamV (T : List (Addr × Str)) (cl : List (Str × Addr)) (q : Str) (d : LamD) : TE := fun σ H Q => Tabs T H ∧ ∀ (H1 : Hp) (f c' : Addr), ExtN H H1 → Tabs T H1 → LamAt cl q H1 d f c' → Q (.ref f) H1
theorem pe_lamV {T : List (Addr × Str)} {c P : Addr} {params : Arguments} {body : Expr} {scope : Scope} {lpos : Pos} (t : XK → TE) (TB : TabB X.base X.mg c P) (hcode : X.env.code = .ref c)
    (hm : (P, X.env.qual ++ "<lambda>") ∈ T) (hu : ∀ p ∈ T, p.1 = P → p.2 = X.env.qual ++ "<lambda>") (L : LamS X.env.scope scope) (hdef : defaultsOf params X.env = ([], [])) :
    PE X (.Lambda params body scope lpos) (tLamV T X.env.cells (X.env.qual ++ "<lambda>") ⟨params, body, scope, t⟩) := by
  refine ⟨fun pins s σ H Q I h => ?_⟩
  obtain ⟨hT, h⟩ := h
  obtain ⟨ps, hP, htr, ha⟩ := hT _ hm
  refine PySem.W.kla_eval hdef ?_
  have bP := TB.bm.keeps I.bk
  have hP2 : s.heap.get? P = some { cls := .none, data := .fields ps } := I.hok P _ hP
  have fin : ∀ (f c' : Addr) (H1 : Hp) (s' : Shared), Inv X pins σ H1 s' → ExtN H H1 → Tabs T H1 → LamAt X.env.cells (X.env.qual ++ "<lambda>") H1 ⟨params, body, scope, t⟩ f c' → ∃ (v : V) (H' : Hp), Inv X pins σ H' s' ∧ L2.RelV v (.ref f) ∧ Q v H' :=
    fun f c' H1 s' I1 e1 t1 l1 => ⟨.ref f, H1, I1, rfl, h H1 f c' e1 t1 l1⟩
  cases hcd : codeAmong lpos ps.toList with
  | none =>
    refine PySem.W.kla_makeFunction (mg := X.mg) (c := c) (P := P) (ps := ps) (closure_ok (L.has I.ok)) I.ok.glob (I.mod.glob.keeps I.bk) hcode (TB.code.keeps I.bk) hP2 htr hcd TB.gP bP fun c' ctv h' tk hx hge hlt hrec htb => ?_
    obtain ⟨c2, oc, vs, tok, e2, hoc, hd, hv⟩ := hrec
    cases e2
    have nC : H c' = none := I.hok.fresh hge
    have I1 := inv_table (t' := s.toks) (more := #[rawInt lpos.line, rawInt lpos.col, .ref c']) (h' := h') I hP (fun b o hb e => hx b o hb e) htb hge ⟨oc, vs, tok, hoc, hd, hv⟩
    have I2 := lam_track (tk := tk) (d := ⟨params, body, scope, t⟩) (c' := c') (pm := (X.mg "__name__").getD .none) (ctv := ctv) (q := X.env.qual ++ "<lambda>") (cl := X.env.cells) I1 rfl
    have hE : ExtN H (upd (upd H P (.tbl (ps ++ #[rawInt lpos.line, rawInt lpos.col, .ref c']))) c' (CodeO c' (X.env.qual ++ "<lambda>"))) := fun b o e n => by
      have b1 := ne_of_none e nC
      have b2 : b ≠ P := fun z => n ps (by rw [z, hP] at e; exact (Option.some.inj e).symm)
      rw [upd_ne b1, upd_ne b2, e]
    have eL : (ps ++ #[rawInt lpos.line, rawInt lpos.col, .ref c']).toList = ps.toList ++ [rawInt lpos.line, rawInt lpos.col, .ref c'] := by simp
    have nF : (upd (upd H P (.tbl (ps ++ #[rawInt lpos.line, rawInt lpos.col, .ref c']))) c' (CodeO c' (X.env.qual ++ "<lambda>"))) h'.objs.size = none := I1.hok.fresh (Nat.le_refl _)
    have T1 : Tabs T (upd (upd H P (.tbl (ps ++ #[rawInt lpos.line, rawInt lpos.col, .ref c']))) c' (CodeO c' (X.env.qual ++ "<lambda>"))) := fun p hp => by
      by_cases hb : p.1 = P
      · have hq := hu p hp hb
        rw [hq, hb]
        refine ⟨_, (upd_ne (ne_of_none hP nC)).trans upd_same, eL ▸ PySem.TriplesOk_snoc _ _ _ _ htr, fun p' cv hcv => ?_⟩
        rw [eL] at hcv
        rcases among_app _ htr hcv with z | z
        · obtain ⟨c0, w1, w2⟩ := ha p' cv z
          exact ⟨c0, w1, hE _ _ w2 codeO_ne⟩
        · exact ⟨c', z, upd_same⟩
      · obtain ⟨ps', a1, a2, a3⟩ := hT p hp
        refine ⟨ps', ((upd_ne (ne_of_none a1 nC)).trans (upd_ne hb)).trans a1, a2, fun p' cv hcv => ?_⟩
        obtain ⟨c0, w1, w2⟩ := a3 p' cv hcv
        exact ⟨c0, w1, hE _ _ w2 codeO_ne⟩
    have sm : ∀ b o, (upd (upd H P (.tbl (ps ++ #[rawInt lpos.line, rawInt lpos.col, .ref c']))) c' (CodeO c' (X.env.qual ++ "<lambda>"))) b = some o → (upd (upd (upd H P (.tbl (ps ++ #[rawInt lpos.line, rawInt lpos.col, .ref c']))) c' (CodeO c' (X.env.qual ++ "<lambda>"))) h'.objs.size (LamO X.env.cells (X.env.qual ++ "<lambda>") ⟨params, body, scope, t⟩ h'.objs.size c')) b = some o :=
      fun b o e => (upd_ne (ne_of_none e nF)).trans e
    exact fin _ c' _ _ I2 (hE.trans (ExtN.of sm)) (T1.ext sm) ⟨upd_same, sm _ _ upd_same⟩
  | some cv =>
    obtain ⟨c', e, hco⟩ := ha lpos cv hcd
    subst e
    refine PySem.W.kla_makeFunctionHit (mg := X.mg) (c := c) (P := P) (ps := ps) (closure_ok (L.has I.ok)) I.ok.glob (I.mod.glob.keeps I.bk) hcode (TB.code.keeps I.bk) hP2 htr hcd bP fun ctv h' tk hx hsz => ?_
    have I1 : Inv X pins σ H { s with heap := h', toks := s.toks } := I.kept hx
    have I2 := lam_track (tk := tk) (d := ⟨params, body, scope, t⟩) (c' := c') (pm := (X.mg "__name__").getD .none) (ctv := ctv) (q := X.env.qual ++ "<lambda>") (cl := X.env.cells) I1 rfl
    have nF : H h'.objs.size = none := I1.hok.fresh (Nat.le_refl _)
    have sm : ∀ b o, H b = some o → (upd H h'.objs.size (LamO X.env.cells (X.env.qual ++ "<lambda>") ⟨params, body, scope, t⟩ h'.objs.size c')) b = some o := fun b o e => (upd_ne (ne_of_none e nF)).trans e
    exact fin _ c' _ _ I2 (ExtN.of sm) (hT.ext sm) ⟨upd_same, sm _ _ hco⟩
/-- what is asked of a lambda that is called -/
structure LamOk (X : Cx) (k : Nat) (d : LamD) : Prop where
  L : LamS X.env.scope d.scope
  bind : ∀ (q : Str) (cl : List (Str × Addr)) (pm cv ctv : Value), bindArgs (PySem.W.kla_fn "<lambda>" q d.params d.body d.scope cl pm cv ctv) ⟨[], []⟩ = pure []
  body : ∀ (A : Around) (outer : List Env) (s : Shared) (H : Hp) (E : XK) (f c' : Addr), Room k (A.deeper (lamEnv X d.scope s.heap.objs.size f c')) → PE (lamCx X A outer s H E d.scope f c') d.body (d.t E)
/-- x() in the def that got it, the function object told -/
theorem pe_actV {CXg : CXT} {Eg : XK} {Ng : List Str} {qg : Str} {sg : Scope} {g f c' : Addr} {cdg : Value} {k i : Nat} {a : Str} {pn : List (Addr × Obj)} {xe : Value → Shared → Prop} {W : WX} {E : XK} {d : LamD} {p1 p2 : Pos}
    (I : Inv X pins σ H s) (D : LamOk X k d) (tk : Takes ((cxOf CXg X.prog X.w X.K X.mg X.base Ng qg sg g cdg X.A X.stack s H Eg).tr pn xe) W) (hW : ∀ cls dd σ' H', E cls dd H' → W cls dd σ' H')
    (hr : Room (k + 1) (X.A.deeper (envOfC qg sg s.heap.objs.size g cdg))) (hN : Ng[i]? = some a) (hv : Vis sg a) (hd : (a == ("__debug__" : Str)) = false := by decide) (hcd : (a == ("__classdict__" : Str)) = false := by decide) :
    PE ((cxOf CXg X.prog X.w X.K X.mg X.base Ng qg sg g cdg X.A X.stack s H Eg).tr pn xe) (.Call (.Name a p1) [] [] p2)
      (fun σZ HZ Q => σZ[i]? = some (some (.ref f)) ∧ HZ c' = some (CodeO c' (X.env.qual ++ "<lambda>")) ∧ HZ f = some (LamO X.env.cells (X.env.qual ++ "<lambda>") d f c') ∧ d.t E σ HZ Q) := by
  refine ⟨fun pinsZ sZ σZ HZ Q IZ h => ?_⟩
  obtain ⟨hs, hc, hf, ht⟩ := h
  refine wpAny_Call_Name_kw (thn ((pe_var (pos := p1) (i := i) hN hv hd hcd).run pinsZ sZ σZ HZ (fun v H1 => v = .ref f ∧ H1 = HZ) IZ ⟨.ref f, hs, rfl, rfl⟩) fun u s1 ⟨v, H1, I1, r1, q1⟩ => ?_)
  obtain ⟨rfl, eH⟩ := q1
  rw [eH] at I1
  obtain rfl : u = Value.ref f := r1
  obtain ⟨⟨pm, ctv, of1⟩, _, _⟩ := I1.hok f _ hf
  refine PySem.W.callWith_F0 ⟨_, _, _, _, of1⟩ ?_
  have un : Un (frs X.stack) [] H HZ s.heap s1.heap := I1.base
  obtain ⟨⟨oc, vs, tok, hoc, hdc, hvc⟩, _, _⟩ := I1.hok c' _ hc
  have rc : codeAny (model X.prog X.w) (X.A.deeper (envOfC qg sg s.heap.objs.size g cdg)) (.call (.ref f) ⟨[], []⟩) (CR (L2.CX X.prog X.w) (envOfC qg sg s.heap.objs.size g cdg :: X.stack) X.prog X.w HZ s1 Q E) s1 := by
    refine PySem.W.kla_callFunE hr.depth of1 rfl D.L.co D.L.gen rfl ⟨c', oc, vs, tok, rfl, hoc, hdc, hvc⟩ ?_
    rw [D.bind]
    refine wpAny_pure (wpAny_newFunctionEnv (fun y hy => (D.L.own y hy).2) (fun y hy => absurd hy (by simp)) (fun h₁ hns hsb => ⟨I1.nolimit.fresh _ hsb, ?_⟩) D.L.kind)
    show codeAny _ _ (.expr d.body (lamEnv X d.scope s1.heap.objs.size f c')) _ _
    have kp2 : ∀ b o, s1.heap.get? b = some o → h₁.get? b = some o := fun b o e => hsb.extBut b o (Nat.ne_of_lt (Heap.lt_size e)) (Heap.get?_push_of_some _ e)
    have J : Inv (lamCx X (X.A.deeper (envOfC qg sg s.heap.objs.size g cdg)) (envOfC qg sg s.heap.objs.size g cdg :: X.stack) s1 HZ E d.scope f c') [] σ HZ { s1 with heap := h₁, toks := s1.toks + ([] : List (Str × Value)).length } := lam_start2 I D.L I1.env0 hr.hd un hns kp2
    refine PySem.W.kla_codeExpr (wpAny_mono ((D.body _ _ s1 HZ E f c' (hr.deeper _)).run [] _ _ HZ Q J ht) (fun v s' ⟨w', H', J', rv, q⟩ => ⟨w', H', J'.os, J'.bare, J'.base, J'.hok, rv, q⟩) fun e s' hq => hq)
  have hx : Passes (L2.CX X.prog X.w) ((cxOf CXg X.prog X.w X.K X.mg X.base Ng qg sg g cdg X.A X.stack s H Eg).tr pn xe) E := passes_call tk hW
  refine wpAny_call (codeAny_mono rc fun r s' hq => ?_)
  rcases r with e | (_ | _ | _ | u)
  · exact hx pinsZ σZ HZ s1 e s' I1 hq
  · exact False.elim hq
  · exact False.elim hq
  · exact False.elim hq
  · exact I1.after hq
def tLamCall (cl : List (Str × Addr)) (q : Str) (TT : (XK → Hp → VK → Prop) → Hp → VK → Prop) (ds : List LamD) (te : TE) : TE := fun σ H Q => te σ H fun v H1 => ∃ (f c' : Addr) (d : LamD), d ∈ ds ∧ v = .ref f ∧ LamAt cl q H1 d f c' ∧
  TT (fun E H' Q' => H' f = some (LamO cl q d f c') ∧ d.t E σ H' Q') H1 Q
/-- x(y), where y is one of some lambdas -/
theorem pe_lamval {ds : List LamD} {te : TE} {TT : (XK → Hp → VK → Prop) → Hp → VK → Prop} {x a y : Str} {g : Addr} {k : Nat} {pg : Arguments} {bg : List Stmt} {sg : Scope} {dV kV doc pm cdv ct oc : Value} {an od : Option Addr} {osl : Array (Option Value)} {Ng : List Str} {p py pos : Pos}
    (hg : Gl X x) (hm : X.mg x = some (.ref g)) (hk : PySem.W.keepIn X.K (.ref g) = true) (lk : X.K.lookup g = some ⟨oc, od, .func (PySem.W.fnOf x x pg bg sg dV kV doc pm an cdv ct), osl⟩) (hcg : PySem.W.codeIn X.K cdv x = true)
    (hb : L2.Binds X.K (PySem.W.fnOf x x pg bg sg dV kV doc pm an cdv ct) [a] []) (Sg : FnScope Ng [a] sg) (hNg : Ng[0]? = some a) (hva : Vis sg a) (hG : GivesTo X Ng x sg g cdv bg a (X.env.qual ++ "<lambda>") TT) (hr : Room (k + 2) X.A)
    (hds : ∀ d ∈ ds, LamOk X k d) (he : PE X (.Name y py) te) (hdb : (x == ("__debug__" : Str)) = false := by decide) (hd : (a == ("__debug__" : Str)) = false := by decide) (hcd : (a == ("__classdict__" : Str)) = false := by decide) :
    PE X (.Call (.Name x p) [.Name y py] [] pos) (tLamCall X.env.cells (X.env.qual ++ "<lambda>") TT ds te) := by
  refine ⟨fun pins s σ H Q I h => ?_⟩
  refine wpAny_Call_Name_kw (ld_glob I hg hm ?_ hdb)
  refine PySem.W.callWith_K (h₀ := X.base) I.ok.mod.kin hk ?_ (by rfl) (by rfl)
  show wpAny _ _ (spliced ((false, eval (.Name y py) X.env) :: backTo pos (starEach [] X.env))) _ _ s
  refine Calls.spliced_cons (thn (he.run pins s σ H _ I h) fun u s' ⟨v, H1, I1, rv, hq⟩ => ?_)
  obtain ⟨f, c', d, hmem, rfl, la, htt⟩ := hq
  obtain rfl : u = Value.ref f := rv
  refine Calls.spliced_nil ⟨I1.kIn, ?_⟩
  have rc : codeAny (model X.prog X.w) X.A (.call (.ref g) ⟨[.ref f], []⟩) (CR C8.CX0 X.stack X.prog X.w H1 s' Q C8.E0) s' := by
    refine run_ofS (N := Ng) (ps := [a]) (us := [.ref f]) (vs := [.ref f]) lk hcg Sg hr I1.env0 (hb s' [.ref f] I1.kIn rfl) (.cons rfl .nil) rfl fun hr2 => ?_
    obtain ⟨t', ht', hq'⟩ := hG f c' s' H1 Q (fun E H' Q' => H' f = some (LamO X.env.cells (X.env.qual ++ "<lambda>") d f c') ∧ d.t E σ H' Q') (fun W pn xe E p1 p2 tk hW => pe_actV (i := 0) I1 (hds d hmem) tk hW hr2 hNg hva hd hcd) la.co htt
    exact ⟨t', ht'.nox, hq'⟩
  refine wpAny_call (codeAny_mono rc fun r s2 hq => ?_)
  rcases r with e | (_ | _ | _ | u)
  · exact (show False from hq).elim
  · exact False.elim hq
  · exact False.elim hq
  · exact False.elim hq
  · exact I1.after hq
end
/-! ### a list of pairs of a lambda and a text -/
def tPairs (T : List (Addr × Str)) (cl : List (Str × Addr)) (q : Str) : List (LamD × Str) → TA
  | [] => tNil
  | (d, w) :: r => tCons (tTup (tCons (tLamV T cl q d) (tCons (tC (.str w)) tNil))) (tPairs T cl q r)
def Prs (cl : List (Str × Addr)) (q : Str) (H : Hp) : List Addr → List (LamD × Str) → Prop
  | [], [] => True
  | t :: ts, (d, w) :: r => (∃ f c' : Addr, H t = some (.tup [.ref f, .str w]) ∧ LamAt cl q H d f c') ∧ Prs cl q H ts r
  | _, _ => False
theorem Prs.kp {cl : List (Str × Addr)} {q : Str} {H H' : Hp} (k : Kp H H') : ∀ {ts : List Addr} {ds : List (LamD × Str)}, Prs cl q H ts ds → Prs cl q H' ts ds
  | [], [], _ => True.intro
  | t :: ts, (d, w) :: r, h => by
    obtain ⟨⟨f, c', h1, h2⟩, h3⟩ := h
    exact ⟨⟨f, c', k.tup _ _ h1, h2.kp k⟩, h3.kp k⟩
  | [], _ :: _, h => h.elim
  | _ :: _, [], h => h.elim
theorem Prs.at {cl : List (Str × Addr)} {q : Str} {H : Hp} : ∀ {ts : List Addr} {ds : List (LamD × Str)}, Prs cl q H ts ds → ts.length = ds.length ∧ ∀ (i : Nat) (d : LamD) (w : Str), ds[i]? = some (d, w) → ∃ t f c' : Addr, ts[i]? = some t ∧ H t = some (.tup [.ref f, .str w]) ∧ LamAt cl q H d f c'
  | [], [], _ => ⟨rfl, fun i d w e => by cases e⟩
  | t :: ts, (d, w) :: r, h => by
    obtain ⟨⟨f, c', h1, h2⟩, h3⟩ := h
    have z := h3.at
    refine ⟨by simp [z.1], fun i d' w' e => ?_⟩
    cases i with
    | zero =>
      cases e
      exact ⟨t, f, c', rfl, h1, h2⟩
    | succ j => exact z.2 j d' w' e
  | [], _ :: _, h => h.elim
  | _ :: _, [], h => h.elim
theorem pairs_of {T : List (Addr × Str)} {cl : List (Str × Addr)} {q : Str} {σ : L2.St} : ∀ (ds : List (LamD × Str)) {H : Hp} {Q : List V → Hp → Prop}, Tabs T H → (∀ (H1 : Hp) (ts : List Addr), ExtN H H1 → Tabs T H1 → Prs cl q H1 ts ds → Q (ts.map V.ref) H1) → tPairs T cl q ds σ H Q
  | [], H, Q, hT, h => h H [] (ExtN.refl H) hT True.intro
  | (d, w) :: r, H, Q, hT, h => by
    refine ⟨hT, fun H1 f c' e1 T1 la => ⟨(by show 2 ≤ sizeLine; decide), fun t nt => ?_⟩⟩
    have sm : ∀ b o, H1 b = some o → (upd H1 t (.tup [.ref f, .str w])) b = some o := fun b o e => (upd_ne (ne_of_none e nt)).trans e
    refine pairs_of r (T1.ext sm) fun H3 ts e3 T3 pr => h H3 (t :: ts) (e1.trans ((ExtN.of sm).trans e3)) T3 ⟨⟨f, c', e3 _ _ upd_same (fun _ z => by cases z), (la.kp (Kp.of sm)).kp (Kp.ofN e3)⟩, pr⟩
end Ux

set_option Elab.async false
set_option linter.all false
set_option maxRecDepth 100000
set_option maxHeartbeats 4000000
namespace K06
open PySem PySem.Spec PyProof.Rows L2 Ux
abbrev sIsInt : Stmt := top 14
abbrev sIsNum : Stmt := top 15
abbrev sRatioOf : Stmt := top 16
abbrev sIntText : Stmt := top 19
abbrev sRatText : Stmt := top 20
abbrev sRInit : Stmt := inClass (top 21) 0
abbrev sREq : Stmt := inClass (top 21) 12
abbrev sRStr : Stmt := inClass (top 21) 13
/-- the class Ratio -/
structure RT (K : PySem.W.Frag) (mg : Str → Option Value) (CR : Addr) : Prop where
  cl : Cls K CR
  nT : NoAttr K CR "top"
  nB : NoAttr K CR "bottom"
  gl : mg "Ratio" = some (.ref CR)
  ha : PySem.W.findIn K (.ref CR) "__class__" = some (some (.builtin "object.__class__"))
  hn : PySem.W.specialIn K (.builtin "object.__class__") "__get__" = some (some (.builtin "getset_descriptor.__get__"))
  ht : PySem.W.takesIn K (.builtin "object.__class__") = some true
  hm : PySem.W.mroIn K CR (.type "object") = some true
  kR : PySem.W.kitOne K (.ref CR) (.ref CR) = some true
  kI : PySem.W.kitOne K (.type "int") (.ref CR) = some false
  kN : PySem.W.kitOne K (.type "NoneType") (.ref CR) = some false
  kB : PySem.W.kitOne K (.type "bool") (.ref CR) = some false
  kS : PySem.W.kitOne K (.type "str") (.ref CR) = some false
/-- the fields of a Ratio -/
def rf (t b : Int) : List (Str × V) := putF "bottom" (.int b) (putF "top" (.int t) [])
theorem ntb : ¬ (("top" : Str) = "bottom") := by decide +kernel
theorem rf_top (t b : Int) : (rf t b).lookup ("top" : Str) = some (.int t) := by
  unfold rf
  rw [lookup_putF, if_neg ntb, lookup_putF, if_pos rfl]
theorem rf_bot (t b : Int) : (rf t b).lookup ("bottom" : Str) = some (.int b) := by
  unfold rf
  rw [lookup_putF, if_pos rfl]
def RatAt (CR : Addr) (H : Hp) (a : Addr) (t b : Int) : Prop := ∃ dx, H a = some (.ins CR dx (rf t b))
theorem RatAt.same {CR : Addr} {H H' : Hp} {a : Addr} {t b : Int} (h : RatAt CR H a t b) (s : Same H H') : RatAt CR H' a t b := by
  obtain ⟨dx, h⟩ := h
  exact ⟨dx, s _ _ h⟩
theorem RatAt.ty {K : PySem.W.Frag} {mg : Str → Option Value} {CR : Addr} {H : Hp} {a : Addr} {t b : Int} (T : RT K mg CR) (h : RatAt CR H a t b) : TyX K H (.ref a) (.ref CR) := by
  obtain ⟨dx, h⟩ := h
  exact .base (.ins h T.cl T.ha T.hn T.ht T.hm)
theorem same_upd {H : Hp} {a : Addr} {o : HO} (ha : H a = none) : Same H (upd H a o) := fun x u e => by
  rw [upd_ne (ne_of_none e ha)]
  exact e
/-! ### is_integer, is_number -/
def spIsInt (K : PySem.W.Frag) : Sp := fun vs H Q _ => ∃ (v : V) (t : Value) (b1 b2 : Bool), vs = [v] ∧ TyX K H v t ∧ PySem.W.kitOne K t (.type "int") = some b1 ∧ PySem.W.kitOne K t (.type "bool") = some b2 ∧ Q (.bl (b1 && !b2)) H
/-- the kinds of values that are handed in as facts -/
inductive AV where
  | non
  | bl (b : Bool)
  | int (i : Int)
  | str (z : Str)
  | lst
  | rat (t b : Int)
def IsAV (CR : Addr) (H : Hp) : AV → V → Prop
  | .non, v => v = .non
  | .bl b, v => v = .bl b
  | .int i, v => v = .int i
  | .str z, v => v = .str z
  | .lst, v => ∃ a xs, v = .ref a ∧ H a = some (.lst xs)
  | .rat t b, v => ∃ a, v = .ref a ∧ RatAt CR H a t b
/-- no list -/
def AV.noL : AV → Bool
  | .lst => false
  | _ => true
/-- no Ratio -/
def AV.noR : AV → Bool
  | .rat _ _ => false
  | _ => true
def numA : AV → Bool
  | .int _ => true
  | .rat _ _ => true
  | _ => false
theorem IsAV.same {CR : Addr} {H H' : Hp} {a : AV} {v : V} (h : IsAV CR H a v) (s : Same H H') : IsAV CR H' a v := by
  cases a with
  | lst =>
    obtain ⟨x, xs, e, h⟩ := h
    exact ⟨x, xs, e, s _ _ h⟩
  | rat t b =>
    obtain ⟨x, e, h⟩ := h
    exact ⟨x, e, h.same s⟩
  | _ => exact h
def spIsNum (K : PySem.W.Frag) (CR : Addr) : Sp := fun vs H Q _ => ∃ (a : AV) (v : V), vs = [v] ∧ IsAV CR H a v ∧ a.noL = true ∧ Q (.bl (numA a)) H
def spRInit (CR : Addr) : Sp := fun vs H Q _ => ∃ (p dx : Addr) (t b : Int), vs = [.ref p, .int t, .int b] ∧ H p = some (.ins CR dx []) ∧ 0 < b ∧ b < 1073741824 ∧
  ∀ H', H' p = some (.ins CR dx (rf (t / (Nat.gcd t.natAbs b.natAbs : Nat)) (b / (Nat.gcd t.natAbs b.natAbs : Nat)))) → But p H H' → Q .non H'
def spRatioOf (CR : Addr) : Sp := fun vs H Q _ => (∃ a t b, vs = [.ref a] ∧ RatAt CR H a t b ∧ Q (.ref a) H) ∨ ∃ i : Int, vs = [.int i] ∧ ∀ (p : Addr) (H' : Hp), RatAt CR H' p i 1 → Same H H' → H p = none → Q (.ref p) H'
section
variable {P : Program} {w : World} {K : PySem.W.Frag} {mg : Str → Option Value} {base : Heap} {CR : Addr}
theorem scIsInt : FnScope ["value"] ["value"] (defScope sIsInt) := ⟨rfl, rfl, rfl, by decide +kernel, rfl, by decide +kernel, by decide +kernel⟩
theorem ok_isInt {f : Addr} {fd : FuncData} (F : Fun K "is_integer" "is_integer" sIsInt f fd) (B : Bn mg) : FnOk P w K mg base CX0 1 f fd ["value"] (spIsInt K) := by
  refine F.ok scIsInt (fun vs H Q E h => ?_) (fun cdv A outer s H vs Q E hr h => ?_)
  · obtain ⟨v, t, b1, b2, rfl, _⟩ := h
    rfl
  · obtain ⟨v, t, b1, b2, rfl, ty, k1, k2, q⟩ := h
    refine ⟨_, pss_one (ps_ret (pe_and (pe_callB call_isi (by rfl) B.isin (by decide +kernel) (pa_cons (pv 0) (pa_cons (pe_bltn (v := .ty "int") (by rfl) B.tint (by decide +kernel) rfl) pa_nil)))
      (pe_one (pe_not (pe_callB call_isi (by rfl) B.isin (by decide +kernel) (pa_cons (pv 0) (pa_cons (pe_bltn (v := .ty "bool") (by rfl) B.tbool (by decide +kernel) rfl) pa_nil))))))), ?_⟩
    refine ⟨_, rfl, _, _, _, _, b1, rfl, .ty "int", ty, k1, b1, rfl, ?_⟩
    cases b1 with
    | false => exact iteF q
    | true => exact iteT ⟨_, rfl, _, _, _, _, b2, rfl, .ty "bool", ty, k2, b2, rfl, q⟩
theorem scIsNum : FnScope ["value"] ["value"] (defScope sIsNum) := ⟨rfl, rfl, rfl, by decide +kernel, rfl, by decide +kernel, by decide +kernel⟩
theorem ok_isNum {f fI : Addr} {fd fdI : FuncData} (F : Fun K "is_number" "is_number" sIsNum f fd) (B : Bn mg) (T : RT K mg CR) (D : Dn K mg "is_integer" fI) (G : FnOk P w K mg base CX0 1 fI fdI ["value"] (spIsInt K)) (bI : Binds K fdI ["value"] []) : FnOk P w K mg base CX0 2 f fd ["value"] (spIsNum K CR) := by
  refine F.ok scIsNum (fun vs H Q E h => ?_) (fun cdv A outer s H vs Q E hr h => ?_)
  · obtain ⟨a, v, rfl, _⟩ := h
    rfl
  · obtain ⟨a, v, rfl, hv, nl, q⟩ := h
    refine ⟨_, pss_one (ps_ret (pe_or (pe_callB call_isi (by rfl) B.isin (by decide +kernel) (pa_cons (pv 0) (pa_cons (pe_glob (v := .ref CR) (by rfl) T.gl rfl) pa_nil))) (pe_one (pe_call G hr (by rfl) D.gl D.kp bI .nil pass0 (pa_cons (pv 0) pa_nil))))), ?_⟩
    cases a with
    | lst => exact absurd nl Bool.false_ne_true
    | rat t b =>
      obtain ⟨a, rfl, ra⟩ := hv
      exact ⟨_, rfl, _, _, _, _, true, rfl, .own _, ra.ty T, T.kR, true, rfl, iteT q⟩
    | int i =>
      obtain rfl : v = .int i := hv
      refine ⟨_, rfl, _, _, _, _, false, rfl, .own _, .base (.int _), T.kI, false, rfl, iteF ?_⟩
      exact ⟨_, rfl, _, _, true, false, rfl, .base (.int _), kit_ty (by decide +kernel), kit_ty (by decide +kernel), q⟩
    | non =>
      obtain rfl : v = .non := hv
      refine ⟨_, rfl, _, _, _, _, false, rfl, .own _, .base .non, T.kN, false, rfl, iteF ?_⟩
      exact ⟨_, rfl, _, _, false, false, rfl, .base .non, kit_ty (by decide +kernel), kit_ty (by decide +kernel), q⟩
    | bl b =>
      obtain rfl : v = .bl b := hv
      refine ⟨_, rfl, _, _, _, _, false, rfl, .own _, .base (.bl _), T.kB, false, rfl, iteF ?_⟩
      exact ⟨_, rfl, _, _, true, true, rfl, .base (.bl _), kit_ty (by decide +kernel), kit_ty (by decide +kernel), q⟩
    | str z =>
      obtain rfl : v = .str z := hv
      refine ⟨_, rfl, _, _, _, _, false, rfl, .own _, .base (.str _), T.kS, false, rfl, iteF ?_⟩
      exact ⟨_, rfl, _, _, false, false, rfl, .base (.str _), kit_ty (by decide +kernel), kit_ty (by decide +kernel), q⟩
theorem scRInit : FnScope ["self", "top", "bottom", "common"] ["self", "top", "bottom"] (defScope sRInit) := ⟨rfl, rfl, rfl, by decide +kernel, rfl, by decide +kernel, by decide +kernel⟩
theorem ok_rinit {f fI : Addr} {fd fdI : FuncData} {dvs : List V} (F : FunD K "__init__" "Ratio.__init__" (defArgs sRInit) (defBody sRInit) (defScope sRInit) dvs [] f fd) (T : RT K mg CR) (gcd : mg "gcd" = some (.builtin "math.gcd")) (D : Dn K mg "is_integer" fI) (G : FnOk P w K mg base CX0 1 fI fdI ["value"] (spIsInt K)) (bI : Binds K fdI ["value"] []) :
    FnOk P w K mg base CX0 2 f fd ["self", "top", "bottom"] (spRInit CR) := by
  refine F.ok scRInit (fun vs H Q E h => ?_) (fun cdv A outer s H vs Q E hr h => ?_)
  · obtain ⟨p, dx, t, b, rfl, _⟩ := h
    rfl
  · obtain ⟨p, dx, t, b, rfl, hp, b0, b1, q⟩ := h
    refine ⟨_, pss_cons (ps_if (pt_not (pt_val (pe_call G hr (by rfl) D.gl D.kp bI .nil pass0 (pa_cons (pv 1) pa_nil)))) (pss_one ps_never) pss_nil)
      (pss_cons (ps_if (PW.pt (pw_or (pt_not (pt_val (pe_call G hr (by rfl) D.gl D.kp bI .nil pass0 (pa_cons (pv 2) pa_nil)))) (pw_or1 (pt_cmpR op_eq (pv 2) pe_int (nomark _))))) (pss_one ps_never) pss_nil)
      (pss_cons (ps_set (i := 3) scRInit.nd rfl (Or.inl rfl) (pe_callBfun cr_gcd (by rfl) gcd (pa_cons (pv 1) (pa_cons (pv 2) pa_nil))))
      (pss_cons (ps_if (pt_cmpR op_lt (pv 2) pe_int (nomark _)) (pss_one ps_never) pss_nil)
      (pss_cons (ps_fld (pv 0) (pe_op op_fdivN (pv 1) (pv 3)) rfl)
      (pss_one (ps_fld (pv 0) (pe_op op_fdivN (pv 2) (pv 3)) rfl)))))), ?_⟩
    refine ⟨_, rfl, _, _, true, false, rfl, .base (.int _), kit_ty (by decide +kernel), kit_ty (by decide +kernel), _, rfl, iteF ?_⟩
    refine ⟨_, rfl, _, _, true, false, rfl, .base (.int _), kit_ty (by decide +kernel), kit_ty (by decide +kernel), _, rfl, iteF ?_⟩
    have nb : ¬ (V.int b) = V.int 0 := fun z => by
      have := V.int.inj z
      omega
    refine ⟨_, rfl, rfl, _, rfl, ?_⟩
    rw [decide_eq_false nb]
    refine iteF ?_
    refine ⟨_, rfl, _, rfl, t, b, rfl, ?_⟩
    have nlt : ¬ b < 0 := by omega
    refine ⟨_, rfl, _, _, rfl, rfl, _, rfl, ?_⟩
    rw [decide_eq_false nlt]
    refine iteF ?_
    have g0 : 0 < Nat.gcd t.natAbs b.natAbs := Nat.gcd_pos_of_pos_right _ (by omega)
    have g1 : Nat.gcd t.natAbs b.natAbs ≤ b.natAbs := Nat.le_of_dvd (by omega) (Nat.gcd_dvd_right _ _)
    generalize hgg : Nat.gcd t.natAbs b.natAbs = g at *
    refine ⟨_, rfl, _, rfl, _, _, rfl, rfl, ⟨by omega, by omega⟩, _, rfl, p, CR, dx, [], rfl, hp, T.cl, T.nT, (by show 0 < 1000; decide), ?_⟩
    refine ⟨_, rfl, _, rfl, _, _, rfl, rfl, ⟨by omega, by omega⟩, _, rfl, p, CR, dx, _, rfl, upd_same, T.cl, T.nB, (by show 1 < 1000; decide), ?_⟩
    refine q _ ?_ ((But.refl.upd).upd)
    rw [upd_same]
    show some (HO.ins CR dx (putF ("bottom" : Str) (V.int (b.fdiv (g : Int))) (putF ("top" : Str) (V.int (t.fdiv (g : Int))) []))) = _
    rw [Int.fdiv_eq_ediv_of_nonneg t (by omega), Int.fdiv_eq_ediv_of_nonneg b (by omega)]
    rfl
theorem scRatioOf : FnScope ["number"] ["number"] (defScope sRatioOf) := ⟨rfl, rfl, rfl, by decide +kernel, rfl, by decide +kernel, by decide +kernel⟩
theorem ok_ratioOf {f fN : Addr} {fd fdN : FuncData} {ds : List Value} (F : Fun K "ratio_of" "ratio_of" sRatioOf f fd) (B : Bn mg) (T : RT K mg CR) (M : Mk K CR fN) (G : FnOk P w K mg base CX0 2 fN fdN ["self", "top", "bottom"] (spRInit CR)) (vD : Vals [V.int 1] ds) (bN : Binds K fdN ["self", "top", "bottom"] ds) :
    FnOk P w K mg base CX0 4 f fd ["number"] (spRatioOf CR) := by
  refine F.ok scRatioOf (fun vs H Q E h => ?_) (fun cdv A outer s H vs Q E hr h => ?_)
  · rcases h with ⟨a, t, b, rfl, _⟩ | ⟨i, rfl, _⟩ <;> rfl
  · refine ⟨_, pss_cons (ps_if (pt_val (pe_callB call_isi (by rfl) B.isin (by decide +kernel) (pa_cons (pv 0) (pa_cons (pe_glob (v := .ref CR) (by rfl) T.gl rfl) pa_nil)))) (pss_one (ps_ret (pv 0))) pss_nil)
      (pss_one (ps_ret (pe_make M G hr (by rfl) T.gl bN vD pass0 (pa_cons (pv 0) pa_nil)))), ?_⟩
    rcases h with ⟨a, t, b, rfl, ra, q⟩ | ⟨i, rfl, q⟩
    · refine ⟨_, rfl, _, _, _, _, true, rfl, .own _, ra.ty T, T.kR, true, rfl, iteT ?_⟩
      exact ⟨_, rfl, q⟩
    · refine ⟨_, rfl, _, _, _, _, false, rfl, .own _, .base (.int _), T.kI, false, rfl, iteF ?_⟩
      refine ⟨_, rfl, fun x dx nx nd ne => ?_⟩
      refine ⟨x, dx, i, 1, rfl, upd_same, by decide, by decide, fun H' hx bu => ⟨rfl, ?_⟩⟩
      have g1 : Nat.gcd i.natAbs (1 : Int).natAbs = 1 := Nat.gcd_one_right _
      rw [g1] at hx
      refine q x H' ⟨dx, ?_⟩ (fun c o e => bu c o ?_ (ne_of_none e nx)) nx
      · rw [hx]
        show some (HO.ins CR dx (rf (i / 1) (1 / 1))) = _
        rw [Int.ediv_one]
        rfl
      · rw [upd_ne (ne_of_none e nx), upd_ne (ne_of_none e nd)]
        exact e
end
end K06

set_option Elab.async false
set_option linter.all false
set_option maxRecDepth 100000
set_option maxHeartbeats 4000000
namespace K06
open PySem PySem.Spec PyProof.Rows L2 Ux
/-! ### the texts of small Ratios -/
/-- a text of one number over another -/
def ctext (t b : Int) : Str := if b = 1 then (toString t : Str) else (toString t : Str) ++ "/" ++ (toString b : Str)
def spIntText : Sp := fun vs H Q _ => ∃ n : Int, vs = [.int n] ∧ -100 ≤ n ∧ n ≤ 100 ∧ ∀ H', Same H H' → Q (.str (toString n)) H'
def spRatText (CR : Addr) : Sp := fun vs H Q _ => ∃ (a : Addr) (t b : Int), vs = [.ref a] ∧ RatAt CR H a t b ∧ -100 ≤ t ∧ t ≤ 100 ∧ 0 < b ∧ b ≤ 100 ∧ ∀ H', Same H H' → Q (.str (ctext t b)) H'
def spREq (CR : Addr) : Sp := fun vs H Q _ => ∃ (a : Addr) (t b i : Int), vs = [.ref a, .int i] ∧ RatAt CR H a t b ∧ Q (.bl (decide (b = 1) && decide (t = i))) H
def smalls : List Int := (List.range 201).map fun (n : Nat) => (n : Int) - 100
theorem smalls_in {n : Int} (h0 : -100 ≤ n) (h1 : n ≤ 100) : n ∈ smalls := by
  unfold smalls
  rw [List.mem_map]
  exact ⟨(n + 100).toNat, List.mem_range.mpr (by omega), by omega⟩
theorem text_pos : ∀ n ∈ smalls, 0 ≤ n → Txt.join "" [(toString (if n < 0 then -n else n) : Str)] = (toString n : Str) := by decide +kernel
theorem text_neg : ∀ n ∈ smalls, n < 0 → Txt.join "" [("-" : Str), (toString (if n < 0 then -n else n) : Str)] = (toString n : Str) := by decide +kernel
theorem text_len {n : Int} (h0 : -100 ≤ n) (h1 : n ≤ 100) : (toString n : Str).length ≤ 12 := by
  show (Str.ofString (toString n)).length ≤ 12
  have q := int_text_length_le10 (a := n) (k := 10) (by decide) (by
    have : n.natAbs ≤ 100 := by omega
    have e : (10 : Nat) ^ 10 = 10000000000 := by decide
    omega)
  rw [PySem.ofString_length]
  omega
theorem log2_100 {n : Int} (h0 : -100 ≤ n) (h1 : n ≤ 100) : n.natAbs.log2 < 1920 := by
  by_cases z : n.natAbs = 0
  · rw [z]
    decide
  · have q := Nat.log2_self_le z
    have : n.natAbs.log2 < 10 := by
      refine Nat.lt_of_not_le fun c => ?_
      have q2 : 2 ^ 10 ≤ 2 ^ n.natAbs.log2 := Nat.pow_le_pow_right (by decide) c
      omega
    omega
theorem app_len {x y : Str} {m n : Nat} (h : x.length ≤ m) (k : y.length ≤ n) : (x ++ y).length ≤ m + n := by
  rw [PySem.Str.length_append]
  omega
theorem fit {n m : Nat} (h : n ≤ m) (k : m ≤ 100000) : n ≤ sizeLine := by
  rw [sizeLine_eq]
  omega
theorem ctext_len {t b : Int} (h0 : -100 ≤ t) (h1 : t ≤ 100) (b0 : 0 < b) (b1 : b ≤ 100) : (ctext t b).length ≤ 30 := by
  unfold ctext
  split
  · exact Nat.le_trans (text_len h0 h1) (by decide)
  · exact Nat.le_trans (app_len (app_len (text_len h0 h1) (show (Str.ofString "/").length ≤ 1 by decide)) (text_len (by omega) b1)) (by decide)
theorem empty_app (x : Str) : Str.empty ++ x = x := by
  show Str.mk (#[] ++ x.cps) = x
  rw [Array.empty_append]
section
variable {P : Program} {w : World} {K : PySem.W.Frag} {mg : Str → Option Value} {base : Heap} {CR : Addr}
theorem scIntText : FnScope ["number", "pieces", "rest", "low"] ["number"] (defScope sIntText) := ⟨rfl, rfl, rfl, by decide +kernel, rfl, by decide +kernel, by decide +kernel⟩
theorem ok_intText {f : Addr} {fd : FuncData} (F : Fun K "integer_text" "integer_text" sIntText f fd) (B : Bn mg) (cb : ∃ t, mg "CHUNK_BASE" = some (.int 1000000000000000000000000000000000000000000000000000000000000 t)) : FnOk P w K mg base CX0 1 f fd ["number"] spIntText := by
  refine F.ok scIntText (fun vs H Q E h => ?_) (fun cdv A outer s H vs Q E hr h => ?_)
  · obtain ⟨n, rfl, _⟩ := h
    rfl
  · obtain ⟨n, rfl, h0, h1, q⟩ := h
    obtain ⟨ct, cb⟩ := cb
    refine ⟨_, pss_cons (ps_set (i := 1) scIntText.nd rfl (Or.inl rfl) (pe_lst pa_nil))
      (pss_cons (ps_set (i := 2) scIntText.nd rfl (Or.inl rfl) (pe_callB call_abs (by rfl) B.fabs (by decide +kernel) (pa_cons (pv 0) pa_nil)))
      (pss_cons (ps_while PassesOwn.never (pt_cmpR op_ge (pv 2) (pe_glob (v := .int 1000000000000000000000000000000000000000000000000000000000000) (by rfl) cb ⟨_, rfl⟩) (nomark _)) pss_never)
      (pss_cons (ps_expr (pe_bm PySem.F.plainAttrs_list PySem.F.slot_list_append PySem.F.type_list_append mt_append (pv 1) (pa_cons (pe_callTy call_str_int (by rfl) B.tstr (by decide +kernel) (pa_cons (pv 2) pa_nil)) pa_nil)))
      (pss_cons (ps_if (pt_cmpR op_lt (pv 0) pe_int (nomark _)) (pss_one (ps_expr (pe_bm PySem.F.plainAttrs_list PySem.F.slot_list_append PySem.F.type_list_append mt_append (pv 1) (pa_cons pe_str pa_nil)))) pss_nil)
      (pss_one (ps_ret (pe_join pe_str (pe_revL (pv 1))))))))), ?_⟩
    refine ⟨(by show 0 ≤ sizeLine; decide), fun p hp => ?_⟩
    refine ⟨_, rfl, _, rfl, ?_⟩
    refine while_by (fun σ H' => σ = [some (.int n), some (.ref p), some (.int (if n < 0 then -n else n)), none] ∧ H' = upd H p (.lst [])) (fun _ _ => 0) ⟨rfl, rfl⟩ ?_ ?_
    · rintro σ H' ⟨rfl, rfl⟩
      refine ⟨_, rfl, _, _, rfl, rfl, _, rfl, ?_⟩
      have nb : ¬ (1000000000000000000000000000000000000000000000000000000000000 : Int) ≤ (if n < 0 then -n else n) := by split <;> omega
      rw [decide_eq_false nb]
      refine iteF ?_
      have hp1 : upd H p (.lst []) p = some (.lst []) := upd_same
      have ab0 : -100 ≤ (if n < 0 then -n else n) := by split <;> omega
      have ab1 : (if n < 0 then -n else n) ≤ 100 := by split <;> omega
      refine ⟨_, rfl, .inl ⟨rfl, _, SqL.of hp1⟩, _, rfl, _, rfl, log2_100 ab0 ab1, p, _, _, rfl, rfl, hp1, (by show 0 < sizeLine; decide), ?_⟩
      have hp2 : upd (upd H p (.lst [])) p (.lst ([] ++ [V.str (toString (if n < 0 then -n else n))])) p = some (.lst [V.str (toString (if n < 0 then -n else n))]) := upd_same
      refine ⟨_, rfl, _, _, rfl, rfl, _, rfl, ?_⟩
      have sm : ∀ o, Same H (upd (upd H p (.lst [])) p o) := fun o => by
        rw [upd_upd]
        exact same_upd hp
      have tl := text_len ab0 ab1
      have ine := smalls_in h0 h1
      by_cases neg : n < 0
      · rw [decide_eq_true neg]
        refine iteT ⟨_, rfl, .inl ⟨rfl, _, SqL.of hp2⟩, p, _, _, rfl, rfl, hp2, (by show 1 < sizeLine; decide), ?_⟩
        refine ⟨⟨_, rfl⟩, _, rfl, p, _, rfl, .of upd_same, fun p2 hp3 => ?_⟩
        refine ⟨_, p2, [("-" : Str), (toString (if n < 0 then -n else n) : Str)], rfl, rfl, .inl (.of upd_same), ?_, ?_⟩
        · show ([("-" : Str).length, (toString (if n < 0 then -n else n) : Str).length]).sum + 2 * ("" : Str).length ≤ 16777216
          have e1 : ("-" : Str).length = 1 := by decide
          have e2 : ("" : Str).length = 0 := by decide
          simp only [List.sum_cons, List.sum_nil, e1, e2]
          omega
        · rw [text_neg n ine neg]
          refine q _ fun c o e => ?_
          have nc := ne_of_none e hp
          have e1 : (upd (upd (upd H p (.lst [])) p (.lst ([] ++ [V.str (toString (if n < 0 then -n else n))]))) p (.lst ([V.str (toString (if n < 0 then -n else n))] ++ [V.str "-"]))) c = some o := by
            rw [upd_ne nc, upd_ne nc, upd_ne nc]
            exact e
          rw [upd_ne (ne_of_none e1 hp3)]
          exact e1
      · rw [decide_eq_false neg]
        refine iteF ?_
        refine ⟨⟨_, rfl⟩, _, rfl, p, _, rfl, .of hp2, fun p2 hp3 => ?_⟩
        refine ⟨_, p2, [(toString (if n < 0 then -n else n) : Str)], rfl, rfl, .inl (.of upd_same), ?_, ?_⟩
        · show ([(toString (if n < 0 then -n else n) : Str).length]).sum + 1 * ("" : Str).length ≤ 16777216
          have e2 : ("" : Str).length = 0 := by decide
          simp only [List.sum_cons, List.sum_nil, e2]
          omega
        · rw [text_pos n ine (by omega)]
          refine q _ fun c o e => ?_
          have nc := ne_of_none e hp
          have e1 : (upd (upd H p (.lst [])) p (.lst ([] ++ [V.str (toString (if n < 0 then -n else n))]))) c = some o := by
            rw [upd_ne nc, upd_ne nc]
            exact e
          rw [upd_ne (ne_of_none e1 hp3)]
          exact e1
    · rintro σ H' Q1 Q2 hq ⟨x, hx, i, j, e1, e2, k, e3, z⟩
      exact ⟨x, hx, i, j, e1, e2, k, e3, hq _ _ z⟩
theorem scRatText : FnScope ["ratio"] ["ratio"] (defScope sRatText) := ⟨rfl, rfl, rfl, by decide +kernel, rfl, by decide +kernel, by decide +kernel⟩
theorem ok_ratText {f fI : Addr} {fd fdI : FuncData} (F : Fun K "ratio_text" "ratio_text" sRatText f fd) (T : RT K mg CR) (D : Dn K mg "integer_text" fI) (G : FnOk P w K mg base CX0 1 fI fdI ["number"] spIntText) (bI : Binds K fdI ["number"] []) : FnOk P w K mg base CX0 2 f fd ["ratio"] (spRatText CR) := by
  refine F.ok scRatText (fun vs H Q E h => ?_) (fun cdv A outer s H vs Q E hr h => ?_)
  · obtain ⟨a, t, b, rfl, _⟩ := h
    rfl
  · obtain ⟨a, t, b, rfl, ra, t0, t1, b0, b1, q⟩ := h
    refine ⟨_, pss_cons (ps_if (pt_cmpR op_eq (pe_fld (pv 0) rfl) pe_int (nomark _)) (pss_one (ps_ret (pe_call G hr (by rfl) D.gl D.kp bI .nil pass0 (pa_cons (pe_fld (pv 0) rfl) pa_nil)))) pss_nil)
      (pss_one (ps_ret (pe_joined (PJ.cons (pe_fmt (pe_call G hr (by rfl) D.gl D.kp bI .nil pass0 (pa_cons (pe_fld (pv 0) rfl) pa_nil))) (PJ.cons pe_str (PJ.cons (pe_fmt (pe_call G hr (by rfl) D.gl D.kp bI .nil pass0 (pa_cons (pe_fld (pv 0) rfl) pa_nil))) PJ.nil)))))), ?_⟩
    obtain ⟨dx, ha⟩ := id ra
    refine ⟨_, rfl, a, CR, dx, _, _, rfl, ha, T.cl, T.nB, rf_bot t b, rfl, _, rfl, ?_⟩
    by_cases e1 : (V.int b) = V.int 1
    · rw [decide_eq_true e1]
      have eb : b = 1 := V.int.inj e1
      refine iteT ⟨_, rfl, a, CR, dx, _, _, rfl, ha, T.cl, T.nT, rf_top t b, t, rfl, t0, t1, fun H1 s1 => ?_⟩
      have z := q H1 s1
      unfold ctext at z
      rw [if_pos eb] at z
      exact z
    · rw [decide_eq_false e1]
      have nb : ¬ b = 1 := fun z => e1 (by rw [z])
      refine iteF ⟨_, rfl, a, CR, dx, _, _, rfl, ha, T.cl, T.nT, rf_top t b, t, rfl, t0, t1, fun H1 s1 => .inl ⟨_, rfl, fit (text_len t0 t1) (by decide), _, rfl, ?_, ?_⟩⟩
      · rw [empty_app]
        exact fit (text_len t0 t1) (by decide)
      · rw [empty_app]
        refine ⟨_, rfl, fit (app_len (text_len t0 t1) (show (Str.ofString "/").length ≤ 1 by decide)) (by decide), ?_⟩
        refine ⟨_, rfl, a, CR, dx, _, _, rfl, s1 _ _ ha, T.cl, T.nB, rf_bot t b, b, rfl, by omega, b1, fun H2 s2 => .inl ⟨_, rfl, fit (text_len (by omega) b1) (by decide), _, rfl, ?_, ?_⟩⟩
        · exact fit (app_len (app_len (text_len t0 t1) (show (Str.ofString "/").length ≤ 1 by decide)) (text_len (n := b) (by omega) b1)) (by decide)
        · have z := q H2 (s1.trans s2)
          unfold ctext at z
          rw [if_neg nb] at z
          exact z
theorem scRStr : FnScope ["self"] ["self"] (defScope sRStr) := ⟨rfl, rfl, rfl, by decide +kernel, rfl, by decide +kernel, by decide +kernel⟩
theorem ok_rstr {f fI : Addr} {fd fdI : FuncData} (F : Fun K "__str__" "Ratio.__str__" sRStr f fd) (D : Dn K mg "ratio_text" fI) (G : FnOk P w K mg base CX0 2 fI fdI ["ratio"] (spRatText CR)) (bI : Binds K fdI ["ratio"] []) : FnOk P w K mg base CX0 3 f fd ["self"] (spRatText CR) := by
  refine F.ok scRStr (fun vs H Q E h => ?_) (fun cdv A outer s H vs Q E hr h => ?_)
  · obtain ⟨a, t, b, rfl, _⟩ := h
    rfl
  · obtain ⟨a, t, b, rfl, ra, t0, t1, b0, b1, q⟩ := h
    refine ⟨_, pss_one (ps_ret (pe_joined1 (pe_fmt (pe_call G hr (by rfl) D.gl D.kp bI .nil pass0 (pa_cons (pv 0) pa_nil))))), ?_⟩
    exact ⟨_, rfl, a, t, b, rfl, ra, t0, t1, b0, b1, fun H1 s1 => .inl ⟨_, rfl, fit (ctext_len t0 t1 b0 b1) (by decide), q H1 s1⟩⟩
theorem scREq : FnScope ["self", "other"] ["self", "other"] (defScope sREq) := ⟨rfl, rfl, rfl, by decide +kernel, rfl, by decide +kernel, by decide +kernel⟩
theorem ok_req {f fI : Addr} {fd fdI : FuncData} (F : Fun K "__eq__" "Ratio.__eq__" sREq f fd) (B : Bn mg) (T : RT K mg CR) (D : Dn K mg "is_integer" fI) (G : FnOk P w K mg base CX0 1 fI fdI ["value"] (spIsInt K)) (bI : Binds K fdI ["value"] []) : FnOk P w K mg base CX0 2 f fd ["self", "other"] (spREq CR) := by
  refine F.ok scREq (fun vs H Q E h => ?_) (fun cdv A outer s H vs Q E hr h => ?_)
  · obtain ⟨a, t, b, i, rfl, _⟩ := h
    rfl
  · obtain ⟨a, t, b, i, rfl, ⟨dx, ha⟩, q⟩ := h
    refine ⟨_, pss_cons (ps_if (pt_val (pe_callB call_isi (by rfl) B.isin (by decide +kernel) (pa_cons (pv 1) (pa_cons (pe_glob (v := .ref CR) (by rfl) T.gl rfl) pa_nil)))) (pss_one ps_never) pss_nil)
      (pss_one (ps_ret (pe_and (pe_call G hr (by rfl) D.gl D.kp bI .nil pass0 (pa_cons (pv 1) pa_nil)) (pe_and (pe_cmpR op_eq (pe_fld (pv 0) rfl) pe_int (nomark _)) (pe_one (pe_cmpR op_eq (pe_fld (pv 0) rfl) (pv 1) (nomark _))))))), ?_⟩
    refine ⟨_, rfl, _, _, _, _, false, rfl, .own _, .base (.int _), T.kI, _, rfl, iteF ?_⟩
    refine ⟨_, rfl, _, _, true, false, rfl, .base (.int _), kit_ty (by decide +kernel), kit_ty (by decide +kernel), true, rfl, iteT ?_⟩
    refine ⟨_, rfl, a, CR, dx, _, _, rfl, ha, T.cl, T.nB, rf_bot t b, rfl, _, rfl, ?_⟩
    by_cases e1 : b = 1
    · rw [decide_eq_true (show V.int b = V.int 1 by rw [e1])]
      rw [decide_eq_true e1] at q
      refine iteT ⟨_, rfl, a, CR, dx, _, _, rfl, ha, T.cl, T.nT, rf_top t b, _, rfl, rfl, ?_⟩
      have e2 : decide (V.int t = V.int i) = decide (t = i) := by
        by_cases z : t = i
        · rw [decide_eq_true z, decide_eq_true (by rw [z])]
        · rw [decide_eq_false z, decide_eq_false (fun y => z (V.int.inj y))]
      rw [e2]
      exact q
    · rw [decide_eq_false (fun z => e1 (V.int.inj z) : ¬ V.int b = V.int 1)]
      rw [decide_eq_false e1] at q
      exact iteF q
end
end K06

set_option Elab.async false
set_option linter.all false
set_option maxRecDepth 100000
set_option maxHeartbeats 4000000
namespace K06
open PySem PySem.Spec PyProof.Rows L2 Ux
abbrev sShown : Stmt := top 3
/-- the values that the law hands in -/
inductive Adm (H : Hp) : V → Prop where
  | non : Adm H .non
  | yes : Adm H (.bl true)
  | int {i : Int} (h : i.natAbs < 10 ^ 10) : Adm H (.int i)
  | str {x : Str} (h : (reprText x).length ≤ 1000) : Adm H (.str x)
  | tup {a : Addr} {xs : List V} (h : H a = some (.tup xs)) : Adm H (.ref a)
  | lst {a : Addr} {xs : List V} (h : H a = some (.lst xs)) : Adm H (.ref a)
def spShown : Sp := fun vs H Q _ => ∃ v, vs = [v] ∧ Adm H v ∧ ∀ z : Str, z.length ≤ 1000 → Q (.str z) H
theorem log2_small {i : Int} (h : i.natAbs < 10 ^ 10) : i.natAbs.log2 < 1920 := by
  by_cases z : i.natAbs = 0
  · rw [z]
    decide
  · have q := Nat.log2_self_le z
    have : i.natAbs.log2 < 40 := by
      refine Nat.lt_of_not_le fun c => ?_
      have q2 : 2 ^ 40 ≤ 2 ^ i.natAbs.log2 := Nat.pow_le_pow_right (by decide) c
      have q3 : (10 : Nat) ^ 10 < 2 ^ 40 := by decide
      omega
    omega
theorem text_small {i : Int} (h : i.natAbs < 10 ^ 10) : (toString i : Str).length ≤ 1000 := by
  show (Str.ofString (toString i)).length ≤ 1000
  have q := int_text_length_le10 (k := 10) (by decide) h
  rw [PySem.ofString_length]
  omega
section
variable {P : Program} {w : World} {K : PySem.W.Frag} {mg : Str → Option Value} {base : Heap}
theorem scShown : FnScope ["value"] ["value"] (defScope sShown) := ⟨rfl, rfl, rfl, by decide +kernel, rfl, by decide +kernel, by decide +kernel⟩
theorem ok_shown {f : Addr} {fd : FuncData} (F : Fun K "shown" "shown" sShown f fd) (T : Bn mg) : FnOk P w K mg base CX0 1 f fd ["value"] spShown := by
  refine F.ok scShown (fun vs H Q E h => ?_) (fun cdv A outer s H vs Q E hr h => ?_)
  · obtain ⟨v, rfl, _⟩ := h
    rfl
  · obtain ⟨v, rfl, adm, k⟩ := h
    refine ⟨_, pss_cons (ps_if (pt_val (pe_callB call_isi (by rfl) T.isin (by decide +kernel) (pa_cons (pv 0) (pa_cons (pe_bltn (v := .ty "str") (by rfl) T.tstr (by decide +kernel) rfl) pa_nil))))
        (pss_one (ps_ret (pe_callB call_reprS (by rfl) T.frepr (by decide +kernel) (pa_cons (pv 0) pa_nil)))) pss_nil)
      (pss_cons (ps_if (PW.pt (pw_and (pt_val (pe_callB call_isi (by rfl) T.isin (by decide +kernel) (pa_cons (pv 0) (pa_cons (pe_bltn (v := .ty "int") (by rfl) T.tint (by decide +kernel) rfl) pa_nil))))
          (pw_and1 (pt_cmpR op_lt (pe_callB call_absT (by rfl) T.fabs (by decide +kernel) (pa_cons (pv 0) pa_nil)) (pe_op op_pow pe_int pe_int) (nomark _)))))
        (pss_one (ps_ret (pe_callTy call_strT (by rfl) T.tstr (by decide +kernel) (pa_cons (pv 0) pa_nil)))) pss_nil)
      (pss_one (ps_ret pe_str))), ?_⟩
    cases adm with
    | non =>
      refine ⟨_, rfl, _, _, _, _, false, rfl, .ty "str", .base .non, kit_ty (by decide +kernel), _, rfl, ?_⟩
      refine iteF ?_
      refine ⟨_, rfl, _, _, _, _, false, rfl, .ty "int", .base .non, kit_ty (by decide +kernel), _, rfl, ?_⟩
      refine iteF (iteF ?_)
      exact k _ (by decide)
    | yes =>
      refine ⟨_, rfl, _, _, _, _, false, rfl, .ty "str", .base (.bl _), kit_ty (by decide +kernel), _, rfl, ?_⟩
      refine iteF ?_
      refine ⟨_, rfl, _, _, _, _, true, rfl, .ty "int", .base (.bl _), kit_ty (by decide +kernel), _, rfl, ?_⟩
      refine iteT ⟨_, rfl, .inr ⟨rfl, _, _, rfl, rfl, ⟨by decide, by decide, by decide⟩, _, _, rfl, rfl, _, rfl, ?_⟩⟩
      refine iteT ⟨_, rfl, .inr ⟨rfl, ?_⟩⟩
      exact k _ (by decide)
    | @int i hi =>
      refine ⟨_, rfl, _, _, _, _, false, rfl, .ty "str", .base (.int _), kit_ty (by decide +kernel), _, rfl, ?_⟩
      refine iteF ?_
      refine ⟨_, rfl, _, _, _, _, true, rfl, .ty "int", .base (.int _), kit_ty (by decide +kernel), _, rfl, ?_⟩
      refine iteT ⟨_, rfl, .inl ⟨_, rfl, _, _, rfl, rfl, ⟨by decide, by decide, by decide⟩, _, _, rfl, rfl, _, rfl, ?_⟩⟩
      have lt : (if i < 0 then -i else i) < 10 ^ Int.toNat 30 := by
        have e : ((10 : Int) ^ Int.toNat 30) = 1000000000000000000000000000000 := by decide +kernel
        have h10 : (10 : Nat) ^ 10 = 10000000000 := by decide
        rw [e]
        rw [h10] at hi
        split <;> omega
      rw [decide_eq_true lt]
      refine iteT ⟨_, rfl, .inl ⟨_, rfl, log2_small hi, ?_⟩⟩
      exact k _ (text_small hi)
    | @str x hx =>
      refine ⟨_, rfl, _, _, _, _, true, rfl, .ty "str", .base (.str _), kit_ty (by decide +kernel), _, rfl, ?_⟩
      refine iteT ⟨_, rfl, _, rfl, ?_, ?_⟩
      · rw [sizeLine_eq]
        omega
      · exact k _ hx
    | tup ha =>
      refine ⟨_, rfl, _, _, _, _, false, rfl, .ty "str", .base (.tup ha), kit_ty (by decide +kernel), _, rfl, ?_⟩
      refine iteF ?_
      refine ⟨_, rfl, _, _, _, _, false, rfl, .ty "int", .base (.tup ha), kit_ty (by decide +kernel), _, rfl, ?_⟩
      refine iteF (iteF ?_)
      exact k _ (by decide)
    | lst ha =>
      refine ⟨_, rfl, _, _, _, _, false, rfl, .ty "str", .base (.lst ha), kit_ty (by decide +kernel), _, rfl, ?_⟩
      refine iteF ?_
      refine ⟨_, rfl, _, _, _, _, false, rfl, .ty "int", .base (.lst ha), kit_ty (by decide +kernel), _, rfl, ?_⟩
      refine iteF (iteF ?_)
      exact k _ (by decide)
end
theorem e00 : Str.empty.length ≤ 0 := Nat.le_refl _
theorem app_le {x y : Str} {m n : Nat} (h : x.length ≤ m) (k : y.length ≤ n) : (x ++ y).length ≤ m + n := by
  rw [PySem.Str.length_append]
  omega
/-- a base of error classes, its __init__ read off it -/
structure Bs (K : PySem.W.Frag) (mg : Str → Option Value) (x : Str) (initId : String) (CB : Addr) : Prop where
  gl : mg x = some (.ref CB)
  sg : PySem.W.specialIn K (.ref CB) "__getattribute__" = some (some (.builtin "type.__getattribute__"))
  rd : PySem.W.readsIn K CB (.type "type") = true
  vV : PySem.W.findCls K (.ref CB) (.type "type") "__init__" = some (.val (.builtin initId))
  vh : PySem.W.handedIn (.builtin initId) = true
abbrev sI_InvalidFact : Stmt := inClass (top 7) 0
/-- InvalidFact.__init__ -/
def spI_InvalidFact (K : PySem.W.Frag) : Sp := fun vs H Q _ => ∃ (a C : Addr) (v1 : V), vs = [.ref a, v1] ∧ EcI K "ValueError.__init__" C ∧ (PySem.W.findIn K (.ref C) "code" = some none ∧ PySem.W.findIn K (.ref C) "what" = some none) ∧ H a = some (exo a C none) ∧ Adm H v1 ∧
  ∀ (d : Addr) (H' : Hp), H d = none → d ≠ a → H' a = some (exo a C (some d)) → H' d = some (exd d [("what", v1), ("code", .str "InvalidFact")]) → But a H H' → Q .non H'
section
variable {P : Program} {w : World} {K : PySem.W.Frag} {mg : Str → Option Value} {base : Heap}
theorem scI_InvalidFact : FnScope ["self", "what"] ["self", "what"] (defScope sI_InvalidFact) := ⟨rfl, rfl, rfl, by decide +kernel, rfl, by decide +kernel, by decide +kernel⟩
theorem okI_InvalidFact {f CB fS : Addr} {fd fdS : FuncData} (F : Fun K "__init__" "InvalidFact.__init__" sI_InvalidFact f fd) (W : Bs K mg "SlopeError" "ValueError.__init__" CB) (D : Dn K mg "shown" fS) (G : FnOk P w K mg base CX0 1 fS fdS ["value"] spShown) (bS : Binds K fdS ["value"] []) :
    FnOk P w K mg base CX0 2 f fd ["self", "what"] (spI_InvalidFact K) := by
  refine F.ok scI_InvalidFact (fun vs H Q E h => ?_) (fun cdv A outer s H vs Q E hr h => ?_)
  · obtain ⟨a, C, v1, rfl, _⟩ := h
    rfl
  · obtain ⟨a, C, v1, rfl, ec, ⟨n0, n1⟩, ea, ad1, k⟩ := h
    refine ⟨_, pss_cons (ps_expr (pe_bi (initId := "ValueError.__init__") (by rfl) W.gl W.sg W.rd W.vV W.vh (pa_cons (pv 0) (pa_cons (pe_joined (PJ.cons pe_str (PJ.cons (pe_fmt (pe_call G hr (by rfl) D.gl D.kp bS .nil pass0 (pa_cons (pv 1) pa_nil))) PJ.nil))) pa_nil)))) (pss_cons (ps_est (pv 0) pe_str) (pss_one (ps_est (pv 0) (pv 1)))), ?_⟩
    have ea2 : EcA K C := ⟨_, ec⟩
    refine ⟨_, rfl, _, rfl, fit (app_le e00 (show (Str.ofString "no valid fact: ").length ≤ 200 by decide)) (by decide), _, rfl, v1, rfl, ad1, fun z1 hz1 => .inl ⟨z1, rfl, fit hz1 (by decide), z1, rfl, fit (app_le (app_le e00 (show (Str.ofString "no valid fact: ").length ≤ 200 by decide)) hz1) (by decide), a, C, _, rfl, (by show 1 ≤ 1000; decide), ec, ea, ?_⟩⟩
    refine ⟨_, rfl, a, C, rfl, ea2, n0, .inl ⟨ea, fun d hd nd => ?_⟩⟩
    have xa : (upd (upd H d (exd d [("code", V.str "InvalidFact")])) a (exo a C (some d))) a = some (exo a C (some d)) := upd_same
    have xd0 : (upd (upd H d (exd d [("code", V.str "InvalidFact")])) a (exo a C (some d))) d = some (exd d [("code", V.str "InvalidFact")]) := (upd_ne nd).trans upd_same
    have b0 : But a H (upd (upd H d (exd d [("code", V.str "InvalidFact")])) a (exo a C (some d))) := fun x o e n => by
      rw [upd_ne n, upd_ne (ne_of_none e hd)]
      exact e
    refine ⟨_, rfl, _, rfl, a, C, rfl, ea2, n1, .inr ⟨d, _, xa, xd0, (by show 1 ≤ 900; decide), ?_⟩⟩
    replace xa : (upd (upd (upd H d (exd d [("code", V.str "InvalidFact")])) a (exo a C (some d))) d (exd d (("what", v1) :: [("code", V.str "InvalidFact")]))) a = some (exo a C (some d)) := (upd_ne nd.symm).trans xa
    have xd1 : (upd (upd (upd H d (exd d [("code", V.str "InvalidFact")])) a (exo a C (some d))) d (exd d (("what", v1) :: [("code", V.str "InvalidFact")]))) d = some (exd d (("what", v1) :: [("code", V.str "InvalidFact")])) := upd_same
    have b1 : But a H (upd (upd (upd H d (exd d [("code", V.str "InvalidFact")])) a (exo a C (some d))) d (exd d (("what", v1) :: [("code", V.str "InvalidFact")]))) := fun x o e n => by
      rw [upd_ne (ne_of_none e hd)]
      exact b0 x o e n
    exact k d _ hd nd xa xd1 b1
end

/-- the class InvalidFact, raised -/
structure IT (K : PySem.W.Frag) (mg : Str → Option Value) (C fI : Addr) : Prop where
  gl : mg "InvalidFact" = some (.ref C)
  ox : OexC K C
  ec : EcI K "ValueError.__init__" C
  n0 : PySem.W.findIn K (.ref C) "code" = some none
  n1 : PySem.W.findIn K (.ref C) "what" = some none
  ini : PySem.W.findIn K (.ref C) "__init__" = some (some (.ref fI))
  ty : PySem.W.typeIn K (.ref fI) = some (.type "function")
/-- how it flies -/
def itFs (z : Str) : List (Str × V) := [("what", .str z), ("code", .str "InvalidFact")]
theorem del_put {H H2 : Hp} {a d : Addr} {o o' : HO} (na : H a = none) (hd : H d = none) (bu : But a (upd H a o) H2) : Same H (upd (del H2 a) d o') := fun x u e => by
  have xa := ne_of_none e na
  rw [upd_ne (ne_of_none e hd), del_ne xa]
  exact bu x u ((upd_ne xa).trans e) xa
theorem it_made {K : PySem.W.Frag} {mg : Str → Option Value} {C fI : Addr} (T : IT K mg C fI) {σ : L2.St} {H : Hp} {Q : XK} {z : Str} (hz : (reprText z).length ≤ 1000) (h : ∀ d H', Same H H' → H' d = some (.xd (itFs z)) → Q (.ref C) (some d) H') : tMkO C (spI_InvalidFact K) [] (tCons (tC (.str z)) tNil) σ H Q := by
  refine ⟨(by show 1 ≤ 1000; decide), fun a na => ⟨a, C, .str z, rfl, T.ec, ⟨T.n0, T.n1⟩, upd_same, .str hz, fun d H2 hd nd ha hdd bu => ⟨rfl, d, _, ha, hdd, ?_, ?_⟩⟩⟩
  · rw [upd_ne nd] at hd
    exact hd
  · rw [upd_ne nd] at hd
    exact h d _ (del_put na hd bu) upd_same
end K06

set_option Elab.async false
set_option linter.all false
set_option maxRecDepth 100000
set_option maxHeartbeats 4000000
namespace K06
open PySem PySem.Spec PyProof.Rows L2 Ux
abbrev sChoice : Stmt := top 26
abbrev sWhole : Stmt := top 27
abbrev sMirror : Stmt := top 28
abbrev sCentre : Stmt := top 29
abbrev sDegree : Stmt := top 30
abbrev sSwap : Stmt := top 31
abbrev sCheck : Stmt := top 32
/-- the constants of the text -/
structure GC (K : PySem.W.Frag) (mg : Str → Option Value) (pM pS : Addr) : Prop where
  md : ∃ t, mg "MOST_DEGREE" = some (.int 3 t)
  gM : mg "MIRRORS" = some (.ref pM)
  kM : ∀ H, SqT K H pM [.str "even", .str "odd"]
  gS : mg "SWAPS" = some (.ref pS)
  kS : ∀ H, SqT K H pS [.str "same", .str "minus"]
def letters : List Nat := ("abcdefghijklmnopqrstuvwxyz" : Str).cps.toList
/-- whether a text is a name -/
def nameB (z : Str) : Bool := decide (1 ≤ z.length) && decide (z.length ≤ 6) && (z.cps.toList.all (fun c => decide (c ∈ letters)) && !inV (.str z) [.str "fn", .str "let", .str "slope"])
def choiceA : AV → List V → Bool
  | .str z, xs => inV (.str z) xs
  | _, _ => false
def wholeA : AV → Int → Int → Bool
  | .int i, lo, hi => decide (lo ≤ i) && decide (i ≤ hi)
  | _, _, _ => false
def arI : Bool → Int
  | false => 1
  | true => 2
def mirA (two : Bool) : AV → Bool
  | .non => true
  | a => !two && choiceA a [.str "even", .str "odd"]
def zeroA : AV → Bool
  | .int i => decide (V.int i = V.int 0)
  | .rat t b => decide (b = 1) && decide (t = 0)
  | _ => false
def cenA (has : Bool) (c : AV) : Bool := numA c && (has || zeroA c)
def degA (two : Bool) : AV → Bool
  | .non => true
  | a => !two && wholeA a 0 3
def swA (two : Bool) : AV → Bool
  | .non => true
  | a => two && choiceA a [.str "same", .str "minus"]
def twoA : AV → Bool
  | .int i => decide (i = 2)
  | _ => false
def hasA : AV → Bool
  | .non => false
  | _ => true
/-- the first fault -/
def fault (a m c d s : AV) : Option Str :=
  bif wholeA a 1 2 then (bif mirA (twoA a) m then (bif cenA (hasA m) c then (bif degA (twoA a) d then (bif swA (twoA a) s then none else some "swap") else some "degree") else some "centre") else some "mirror") else some "arity"
theorem two_ar (tw : Bool) : twoA (.int (arI tw)) = tw := by cases tw <;> rfl
theorem whole_two {a : AV} (h : wholeA a 1 2 = true) : ∃ tw, a = .int (arI tw) := by
  cases a with
  | int i =>
    have h1 : (decide (1 ≤ i) && decide (i ≤ 2)) = true := h
    simp only [Bool.and_eq_true, decide_eq_true_eq] at h1
    have : i = 1 ∨ i = 2 := by omega
    rcases this with rfl | rfl
    · exact ⟨false, rfl⟩
    · exact ⟨true, rfl⟩
  | _ => cases h
def spChoice (CR : Addr) (K : PySem.W.Frag) : Sp := fun vs H Q _ => ∃ (a : AV) (v : V) (p : Addr) (xs : List V), vs = [v, .ref p] ∧ SqT K H p xs ∧ xs.all flatV = true ∧ IsAV CR H a v ∧ a.noR = true ∧ Q (.bl (choiceA a xs)) H
def spWhole (CR : Addr) : Sp := fun vs H Q _ => ∃ (a : AV) (v : V) (lo hi : Int), vs = [v, .int lo, .int hi] ∧ IsAV CR H a v ∧ a.noR = true ∧ Q (.bl (wholeA a lo hi)) H
/-- facts -/
structure FT where
  ar : Int
  mi : Option Str
  t : Int
  b : Int
  dg : Option Int
  sw : Option Str
  deriving DecidableEq
def ov : Option Str → V
  | none => .non
  | some z => .str z
def oi : Option Int → V
  | none => .non
  | some i => .int i
/-- good facts -/
def FOk (f : FT) : Prop := -100 ≤ f.t ∧ f.t ≤ 100 ∧ 0 < f.b ∧ f.b ≤ 100 ∧
  ((f.ar = 2 ∧ f.mi = none ∧ f.dg = none ∧ (f.sw = none ∨ f.sw = some "same" ∨ f.sw = some "minus")) ∨ (f.ar = 1 ∧ f.sw = none ∧ (f.mi = none ∨ f.mi = some "even" ∨ f.mi = some "odd") ∧ (f.dg = none ∨ ∃ d, f.dg = some d ∧ 0 ≤ d ∧ d ≤ 3))) ∧ (f.mi = none → f.t = 0 ∧ f.b = 1)
/-- a centre as it is handed in -/
def CenV (CR : Addr) (H : Hp) (c : V) (t b : Int) : Prop := (∃ r, c = .ref r ∧ RatAt CR H r t b) ∨ (c = .int t ∧ b = 1)
def avs : Option Str → AV
  | none => .non
  | some z => .str z
theorem mir_ov {tw : Bool} {m : AV} (h : mirA tw m = true) : ∃ mo, m = avs mo := by
  cases m with
  | non => exact ⟨none, rfl⟩
  | str z => exact ⟨some z, rfl⟩
  | _ => cases tw <;> cases h
theorem has_avs (mo : Option Str) : hasA (avs mo) = mo.isSome := by cases mo <;> rfl
theorem isav_avs {CR : Addr} {H : Hp} {mo : Option Str} {v : V} (h : IsAV CR H (avs mo) v) : v = ov mo := by
  cases mo <;> exact h
def spMirror (CR : Addr) : Sp := fun vs H Q _ => ∃ (tw : Bool) (a : AV) (v : V), vs = [.int (arI tw), v] ∧ IsAV CR H a v ∧ a.noR = true ∧ Q (.bl (mirA tw a)) H
def spCentre (CR : Addr) : Sp := fun vs H Q _ => ∃ (mo : Option Str) (a : AV) (c : V), vs = [ov mo, c] ∧ IsAV CR H a c ∧ a.noL = true ∧ Q (.bl (cenA mo.isSome a)) H
def spDegree (CR : Addr) : Sp := fun vs H Q _ => ∃ (tw : Bool) (a : AV) (v : V), vs = [.int (arI tw), v] ∧ IsAV CR H a v ∧ a.noR = true ∧ Q (.bl (degA tw a)) H
def spSwap (CR : Addr) : Sp := fun vs H Q _ => ∃ (tw : Bool) (a : AV) (v : V), vs = [.int (arI tw), v] ∧ IsAV CR H a v ∧ a.noR = true ∧ Q (.bl (swA tw a)) H
abbrev RaisesF (CI : Addr) (w : Str) (H : Hp) (E : XK) : Prop := ∀ (d : Addr) (H' : Hp), Same H H' → H' d = some (.xd (itFs w)) → E (.ref CI) (some d) H'
/-- the values of the facts, of their kinds -/
structure Fcts (CR : Addr) (H : Hp) (a m c d s : AV) (va vm vc vd vs : V) : Prop where
  ia : IsAV CR H a va
  im : IsAV CR H m vm
  ic : IsAV CR H c vc
  jd : IsAV CR H d vd
  js : IsAV CR H s vs
  na : a.noR = true
  nm : m.noR = true
  nc : c.noL = true
  nd : d.noR = true
  ns : s.noR = true
def spCheck (CR CI : Addr) : Sp := fun vs H Q E => ∃ (a m c d s : AV) (va vm vc vd vs' : V), vs = [va, vm, vc, vd, vs'] ∧ Fcts CR H a m c d s va vm vc vd vs' ∧ (∀ w, fault a m c d s = some w → RaisesF CI w H E) ∧ (fault a m c d s = none → Q .non H)
theorem op_or {X : Cx} {f : Value → Value → Sem Value} {r1 r2 : R2} (h1 : OpR X f r1) (h2 : OpR X f r2) : OpR X f (fun x y H Q => r1 x y H Q ∨ r2 x y H Q) := by
  intro pins s σ H x y v u Q I rx ry h
  rcases h with h | h
  · exact h1 pins s σ H x y v u Q I rx ry h
  · exact h2 pins s σ H x y v u Q I rx ry h
section
variable {P : Program} {w : World} {K : PySem.W.Frag} {mg : Str → Option Value} {base : Heap} {CR pM pS : Addr}
theorem scChoice : FnScope ["value", "words"] ["value", "words"] (defScope sChoice) := ⟨rfl, rfl, rfl, by decide +kernel, rfl, by decide +kernel, by decide +kernel⟩
theorem ok_choice {f : Addr} {fd : FuncData} (F : Fun K "is_choice" "is_choice" sChoice f fd) (B : Bn mg) : FnOk P w K mg base CX0 1 f fd ["value", "words"] (spChoice CR K) := by
  refine F.ok scChoice (fun vs H Q E h => ?_) (fun cdv A outer s H vs Q E hr h => ?_)
  · obtain ⟨a, v, p, xs, rfl, _⟩ := h
    rfl
  · obtain ⟨a, v, p, xs, rfl, hs, fl, hv, nr, q⟩ := h
    refine ⟨_, pss_one (ps_ret (pe_and (pe_callB call_isi (by rfl) B.isin (by decide +kernel) (pa_cons (pv 0) (pa_cons (pe_bltn (v := .ty "str") (by rfl) B.tstr (by decide +kernel) rfl) pa_nil))) (pe_one (pe_cmpR op_in_seq (pv 0) (pv 1) (by rfl))))), ?_⟩
    cases a with
    | str z =>
      obtain rfl : v = .str z := hv
      exact ⟨_, rfl, _, _, _, _, true, rfl, .ty "str", .base (.str _), kit_ty (by decide +kernel), true, rfl, iteT ⟨_, rfl, _, rfl, p, xs, rfl, .inr hs, rfl, fl, q⟩⟩
    | non =>
      obtain rfl : v = .non := hv
      exact ⟨_, rfl, _, _, _, _, false, rfl, .ty "str", .base .non, kit_ty (by decide +kernel), false, rfl, iteF q⟩
    | bl b =>
      obtain rfl : v = .bl b := hv
      exact ⟨_, rfl, _, _, _, _, false, rfl, .ty "str", .base (.bl _), kit_ty (by decide +kernel), false, rfl, iteF q⟩
    | int i =>
      obtain rfl : v = .int i := hv
      exact ⟨_, rfl, _, _, _, _, false, rfl, .ty "str", .base (.int _), kit_ty (by decide +kernel), false, rfl, iteF q⟩
    | lst =>
      obtain ⟨x, ys, rfl, hx⟩ := hv
      exact ⟨_, rfl, _, _, _, _, false, rfl, .ty "str", .base (.lst hx), kit_ty (by decide +kernel), false, rfl, iteF q⟩
    | rat t b => exact absurd nr Bool.false_ne_true
theorem scWhole : FnScope ["value", "low", "high"] ["value", "low", "high"] (defScope sWhole) := ⟨rfl, rfl, rfl, by decide +kernel, rfl, by decide +kernel, by decide +kernel⟩
theorem ok_whole {f fI : Addr} {fd fdI : FuncData} (F : Fun K "is_whole_within" "is_whole_within" sWhole f fd) (D : Dn K mg "is_integer" fI) (G : FnOk P w K mg base CX0 1 fI fdI ["value"] (spIsInt K)) (bI : Binds K fdI ["value"] []) : FnOk P w K mg base CX0 2 f fd ["value", "low", "high"] (spWhole CR) := by
  refine F.ok scWhole (fun vs H Q E h => ?_) (fun cdv A outer s H vs Q E hr h => ?_)
  · obtain ⟨a, v, lo, hi, rfl, _⟩ := h
    rfl
  · obtain ⟨a, v, lo, hi, rfl, hv, nr, q⟩ := h
    refine ⟨_, pss_one (ps_ret (pe_and (pe_call G hr (by rfl) D.gl D.kp bI .nil pass0 (pa_cons (pv 0) pa_nil)) (pe_one (pe_chain op_le op_le (pv 1) (pv 0) (pv 2))))), ?_⟩
    cases a with
    | int i =>
      obtain rfl : v = .int i := hv
      replace q : Q (.bl (decide (lo ≤ i) && decide (i ≤ hi))) H := q
      refine ⟨_, rfl, _, _, true, false, rfl, .base (.int _), kit_ty (by decide +kernel), kit_ty (by decide +kernel), true, rfl, iteT ?_⟩
      refine ⟨_, rfl, _, rfl, _, _, rfl, rfl, _, rfl, ?_⟩
      cases hlo : decide (lo ≤ i) with
      | true =>
        rw [hlo] at q
        exact iteT ⟨_, rfl, _, _, rfl, rfl, q⟩
      | false =>
        rw [hlo] at q
        exact iteF q
    | non =>
      obtain rfl : v = .non := hv
      exact ⟨_, rfl, _, _, false, false, rfl, .base .non, kit_ty (by decide +kernel), kit_ty (by decide +kernel), false, rfl, iteF q⟩
    | bl b =>
      obtain rfl : v = .bl b := hv
      exact ⟨_, rfl, _, _, true, true, rfl, .base (.bl _), kit_ty (by decide +kernel), kit_ty (by decide +kernel), false, rfl, iteF q⟩
    | str z =>
      obtain rfl : v = .str z := hv
      exact ⟨_, rfl, _, _, false, false, rfl, .base (.str _), kit_ty (by decide +kernel), kit_ty (by decide +kernel), false, rfl, iteF q⟩
    | lst =>
      obtain ⟨x, ys, rfl, hx⟩ := hv
      exact ⟨_, rfl, _, _, false, false, rfl, .base (.lst hx), kit_ty (by decide +kernel), kit_ty (by decide +kernel), false, rfl, iteF q⟩
    | rat t b => exact absurd nr Bool.false_ne_true
theorem scMirror : FnScope ["arity", "mirror"] ["arity", "mirror"] (defScope sMirror) := ⟨rfl, rfl, rfl, by decide +kernel, rfl, by decide +kernel, by decide +kernel⟩
theorem ok_mirror {f fC : Addr} {fd fdC : FuncData} (F : Fun K "is_mirror" "is_mirror" sMirror f fd) (C : GC K mg pM pS) (D : Dn K mg "is_choice" fC) (G : FnOk P w K mg base CX0 1 fC fdC ["value", "words"] (spChoice CR K)) (bC : Binds K fdC ["value", "words"] []) : FnOk P w K mg base CX0 2 f fd ["arity", "mirror"] (spMirror CR) := by
  refine F.ok scMirror (fun vs H Q E h => ?_) (fun cdv A outer s H vs Q E hr h => ?_)
  · obtain ⟨tw, a, v, rfl, _⟩ := h
    rfl
  · obtain ⟨tw, a, v, rfl, hv, nr, q⟩ := h
    refine ⟨_, pss_one (ps_ret (pe_or (pe_cmpR op_isN (pv 1) pe_non (nomark _)) (pe_one (pe_and (pe_cmpR op_eq (pv 0) pe_int (nomark _)) (pe_one (pe_call G hr (by rfl) D.gl D.kp bC .nil pass0 (pa_cons (pv 1) (pa_cons (pe_glob (v := .ref pM) (by rfl) C.gM rfl) pa_nil)))))))), ?_⟩
    cases a with
    | non =>
      obtain rfl : v = .non := hv
      exact ⟨_, rfl, rfl, true, rfl, iteT q⟩
    | rat t b => exact absurd nr Bool.false_ne_true
    | bl b =>
      obtain rfl : v = .bl b := hv
      refine ⟨_, rfl, rfl, false, rfl, iteF ?_⟩
      cases tw with
      | true => exact ⟨_, rfl, rfl, false, rfl, iteF q⟩
      | false => exact ⟨_, rfl, rfl, true, rfl, iteT ⟨_, rfl, .bl b, _, pM, _, rfl, C.kM _, rfl, rfl, rfl, q⟩⟩
    | int i =>
      obtain rfl : v = .int i := hv
      refine ⟨_, rfl, rfl, false, rfl, iteF ?_⟩
      cases tw with
      | true => exact ⟨_, rfl, rfl, false, rfl, iteF q⟩
      | false => exact ⟨_, rfl, rfl, true, rfl, iteT ⟨_, rfl, .int i, _, pM, _, rfl, C.kM _, rfl, rfl, rfl, q⟩⟩
    | str z =>
      obtain rfl : v = .str z := hv
      refine ⟨_, rfl, rfl, false, rfl, iteF ?_⟩
      cases tw with
      | true => exact ⟨_, rfl, rfl, false, rfl, iteF q⟩
      | false => exact ⟨_, rfl, rfl, true, rfl, iteT ⟨_, rfl, .str z, _, pM, _, rfl, C.kM _, rfl, rfl, rfl, q⟩⟩
    | lst =>
      obtain ⟨x, ys, rfl, hx⟩ := hv
      refine ⟨_, rfl, rfl, false, rfl, iteF ?_⟩
      cases tw with
      | true => exact ⟨_, rfl, rfl, false, rfl, iteF q⟩
      | false => exact ⟨_, rfl, rfl, true, rfl, iteT ⟨_, rfl, .lst, _, pM, _, rfl, C.kM _, rfl, ⟨x, ys, rfl, hx⟩, rfl, q⟩⟩
theorem scSwap : FnScope ["arity", "swap"] ["arity", "swap"] (defScope sSwap) := ⟨rfl, rfl, rfl, by decide +kernel, rfl, by decide +kernel, by decide +kernel⟩
theorem ok_swap {f fC : Addr} {fd fdC : FuncData} (F : Fun K "is_swap" "is_swap" sSwap f fd) (C : GC K mg pM pS) (D : Dn K mg "is_choice" fC) (G : FnOk P w K mg base CX0 1 fC fdC ["value", "words"] (spChoice CR K)) (bC : Binds K fdC ["value", "words"] []) : FnOk P w K mg base CX0 2 f fd ["arity", "swap"] (spSwap CR) := by
  refine F.ok scSwap (fun vs H Q E h => ?_) (fun cdv A outer s H vs Q E hr h => ?_)
  · obtain ⟨tw, a, v, rfl, _⟩ := h
    rfl
  · obtain ⟨tw, a, v, rfl, hv, nr, q⟩ := h
    refine ⟨_, pss_one (ps_ret (pe_or (pe_cmpR op_isN (pv 1) pe_non (nomark _)) (pe_one (pe_and (pe_cmpR op_eq (pv 0) pe_int (nomark _)) (pe_one (pe_call G hr (by rfl) D.gl D.kp bC .nil pass0 (pa_cons (pv 1) (pa_cons (pe_glob (v := .ref pS) (by rfl) C.gS rfl) pa_nil)))))))), ?_⟩
    cases a with
    | non =>
      obtain rfl : v = .non := hv
      exact ⟨_, rfl, rfl, true, rfl, iteT q⟩
    | rat t b => exact absurd nr Bool.false_ne_true
    | bl b =>
      obtain rfl : v = .bl b := hv
      refine ⟨_, rfl, rfl, false, rfl, iteF ?_⟩
      cases tw with
      | false => exact ⟨_, rfl, rfl, false, rfl, iteF q⟩
      | true => exact ⟨_, rfl, rfl, true, rfl, iteT ⟨_, rfl, .bl b, _, pS, _, rfl, C.kS _, rfl, rfl, rfl, q⟩⟩
    | int i =>
      obtain rfl : v = .int i := hv
      refine ⟨_, rfl, rfl, false, rfl, iteF ?_⟩
      cases tw with
      | false => exact ⟨_, rfl, rfl, false, rfl, iteF q⟩
      | true => exact ⟨_, rfl, rfl, true, rfl, iteT ⟨_, rfl, .int i, _, pS, _, rfl, C.kS _, rfl, rfl, rfl, q⟩⟩
    | str z =>
      obtain rfl : v = .str z := hv
      refine ⟨_, rfl, rfl, false, rfl, iteF ?_⟩
      cases tw with
      | false => exact ⟨_, rfl, rfl, false, rfl, iteF q⟩
      | true => exact ⟨_, rfl, rfl, true, rfl, iteT ⟨_, rfl, .str z, _, pS, _, rfl, C.kS _, rfl, rfl, rfl, q⟩⟩
    | lst =>
      obtain ⟨x, ys, rfl, hx⟩ := hv
      refine ⟨_, rfl, rfl, false, rfl, iteF ?_⟩
      cases tw with
      | false => exact ⟨_, rfl, rfl, false, rfl, iteF q⟩
      | true => exact ⟨_, rfl, rfl, true, rfl, iteT ⟨_, rfl, .lst, _, pS, _, rfl, C.kS _, rfl, ⟨x, ys, rfl, hx⟩, rfl, q⟩⟩
theorem scDegree : FnScope ["arity", "degree"] ["arity", "degree"] (defScope sDegree) := ⟨rfl, rfl, rfl, by decide +kernel, rfl, by decide +kernel, by decide +kernel⟩
theorem ok_degree {f fC : Addr} {fd fdC : FuncData} (F : Fun K "is_degree" "is_degree" sDegree f fd) (C : GC K mg pM pS) (D : Dn K mg "is_whole_within" fC) (G : FnOk P w K mg base CX0 2 fC fdC ["value", "low", "high"] (spWhole CR)) (bC : Binds K fdC ["value", "low", "high"] []) : FnOk P w K mg base CX0 3 f fd ["arity", "degree"] (spDegree CR) := by
  refine F.ok scDegree (fun vs H Q E h => ?_) (fun cdv A outer s H vs Q E hr h => ?_)
  · obtain ⟨tw, a, v, rfl, _⟩ := h
    rfl
  · obtain ⟨tw, a, v, rfl, hv, nr, q⟩ := h
    obtain ⟨t3, md⟩ := C.md
    refine ⟨_, pss_one (ps_ret (pe_or (pe_cmpR op_isN (pv 1) pe_non (nomark _)) (pe_one (pe_and (pe_cmpR op_eq (pv 0) pe_int (nomark _)) (pe_one (pe_call G hr (by rfl) D.gl D.kp bC .nil pass0 (pa_cons (pv 1) (pa_cons pe_int (pa_cons (pe_glob (v := .int 3) (by rfl) md ⟨_, rfl⟩) pa_nil))))))))), ?_⟩
    cases a with
    | non =>
      obtain rfl : v = .non := hv
      exact ⟨_, rfl, rfl, true, rfl, iteT q⟩
    | rat t b => exact absurd nr Bool.false_ne_true
    | bl b =>
      obtain rfl : v = .bl b := hv
      refine ⟨_, rfl, rfl, false, rfl, iteF ?_⟩
      cases tw with
      | true => exact ⟨_, rfl, rfl, false, rfl, iteF q⟩
      | false => exact ⟨_, rfl, rfl, true, rfl, iteT ⟨_, rfl, .bl b, _, 0, 3, rfl, rfl, rfl, q⟩⟩
    | int i =>
      obtain rfl : v = .int i := hv
      refine ⟨_, rfl, rfl, false, rfl, iteF ?_⟩
      cases tw with
      | true => exact ⟨_, rfl, rfl, false, rfl, iteF q⟩
      | false => exact ⟨_, rfl, rfl, true, rfl, iteT ⟨_, rfl, .int i, _, 0, 3, rfl, rfl, rfl, q⟩⟩
    | str z =>
      obtain rfl : v = .str z := hv
      refine ⟨_, rfl, rfl, false, rfl, iteF ?_⟩
      cases tw with
      | true => exact ⟨_, rfl, rfl, false, rfl, iteF q⟩
      | false => exact ⟨_, rfl, rfl, true, rfl, iteT ⟨_, rfl, .str z, _, 0, 3, rfl, rfl, rfl, q⟩⟩
    | lst =>
      obtain ⟨x, ys, rfl, hx⟩ := hv
      refine ⟨_, rfl, rfl, false, rfl, iteF ?_⟩
      cases tw with
      | true => exact ⟨_, rfl, rfl, false, rfl, iteF q⟩
      | false => exact ⟨_, rfl, rfl, true, rfl, iteT ⟨_, rfl, .lst, _, 0, 3, rfl, ⟨x, ys, rfl, hx⟩, rfl, q⟩⟩
theorem scCentre : FnScope ["mirror", "centre"] ["mirror", "centre"] (defScope sCentre) := ⟨rfl, rfl, rfl, by decide +kernel, rfl, by decide +kernel, by decide +kernel⟩
theorem ok_centre {f fN fE : Addr} {fd fdN fdE : FuncData} (F : Fun K "is_centre" "is_centre" sCentre f fd) (T : RT K mg CR) (nf : PySem.W.notFirst K CR (.type "int") = true) (M : OwnM K CR "__eq__" fE) (GE : FnOk P w K mg base CX0 2 fE fdE ["self", "other"] (spREq CR)) (bE : Binds K fdE ["self", "other"] [])
    (D : Dn K mg "is_number" fN) (G : FnOk P w K mg base CX0 2 fN fdN ["value"] (spIsNum K CR)) (bN : Binds K fdN ["value"] []) : FnOk P w K mg base CX0 3 f fd ["mirror", "centre"] (spCentre CR) := by
  refine F.ok scCentre (fun vs H Q E h => ?_) (fun cdv A outer s H vs Q E hr h => ?_)
  · obtain ⟨mo, a, c, rfl, _⟩ := h
    rfl
  · obtain ⟨mo, a, c, rfl, hv, nl, q⟩ := h
    refine ⟨_, pss_one (ps_ret (pe_and (pe_call G hr (by rfl) D.gl D.kp bN .nil pass0 (pa_cons (pv 1) pa_nil)) (pe_one (pe_or (pe_cmpR op_notN (pv 0) pe_non (nomark _)) (pe_one (pe_cmpR (op_or op_eq (op_eqO M GE bE hr)) (pv 1) pe_int (nomark _))))))), ?_⟩
    refine ⟨_, rfl, a, c, rfl, hv, nl, ?_⟩
    cases a with
    | lst => exact absurd nl Bool.false_ne_true
    | non => exact ⟨false, rfl, iteF q⟩
    | bl b => exact ⟨false, rfl, iteF q⟩
    | str z => exact ⟨false, rfl, iteF q⟩
    | int i =>
      obtain rfl : c = .int i := hv
      refine ⟨true, rfl, iteT ?_⟩
      cases mo with
      | some z => exact ⟨_, rfl, rfl, true, rfl, iteT q⟩
      | none => exact ⟨_, rfl, rfl, false, rfl, iteF ⟨_, rfl, .inl ⟨rfl, q⟩⟩⟩
    | rat t b =>
      obtain ⟨r, rfl, ra⟩ := hv
      refine ⟨true, rfl, iteT ?_⟩
      cases mo with
      | some z => exact ⟨_, rfl, rfl, true, rfl, iteT q⟩
      | none =>
        obtain ⟨dx, hx⟩ := id ra
        have e : ((decide (b = 1) && decide (t = 0)) != false) = (decide (b = 1) && decide (t = 0)) := by cases (decide (b = 1) && decide (t = 0)) <;> rfl
        exact ⟨_, rfl, rfl, false, rfl, iteF ⟨_, rfl, .inr ⟨r, dx, _, .type "int", rfl, hx, .base (.int _), nf, r, t, b, 0, rfl, ra, _, rfl, (by show Q (.bl ((decide (b = 1) && decide (t = 0)) != false)) H; rw [e]; exact q)⟩⟩⟩
theorem scCheck : FnScope ["arity", "mirror", "centre", "degree", "swap"] ["arity", "mirror", "centre", "degree", "swap"] (defScope sCheck) := ⟨rfl, rfl, rfl, by decide +kernel, rfl, by decide +kernel, by decide +kernel⟩
theorem ok_check {CI fI : Addr} {fdI : FuncData} {f fW fM fC fD fS : Addr} {fd fdW fdM fdC fdD fdS : FuncData} (I : IT K mg CI fI) (GI : FnOk P w K mg base CX0 2 fI fdI ["self", "what"] (spI_InvalidFact K)) (bI : Binds K fdI ["self", "what"] []) (F : Fun K "check_facts" "check_facts" sCheck f fd)
    (DW : Dn K mg "is_whole_within" fW) (GW : FnOk P w K mg base CX0 2 fW fdW ["value", "low", "high"] (spWhole CR)) (bW : Binds K fdW ["value", "low", "high"] [])
    (DM : Dn K mg "is_mirror" fM) (GM : FnOk P w K mg base CX0 2 fM fdM ["arity", "mirror"] (spMirror CR)) (bM : Binds K fdM ["arity", "mirror"] [])
    (DC : Dn K mg "is_centre" fC) (GCe : FnOk P w K mg base CX0 3 fC fdC ["mirror", "centre"] (spCentre CR)) (bC : Binds K fdC ["mirror", "centre"] [])
    (DD : Dn K mg "is_degree" fD) (GD : FnOk P w K mg base CX0 3 fD fdD ["arity", "degree"] (spDegree CR)) (bD : Binds K fdD ["arity", "degree"] [])
    (DS : Dn K mg "is_swap" fS) (GS : FnOk P w K mg base CX0 2 fS fdS ["arity", "swap"] (spSwap CR)) (bS : Binds K fdS ["arity", "swap"] []) : FnOk P w K mg base (L2.CX P w) 4 f fd ["arity", "mirror", "centre", "degree", "swap"] (spCheck CR CI) := by
  refine F.okX scCheck (fun vs H Q E h => ?_) (fun cdv A outer s H vs Q E hr h => ?_)
  · obtain ⟨a, m, c, d, s, va, vm, vc, vd, vs', rfl, _⟩ := h
    rfl
  · obtain ⟨a, m, c, d, s, va, vm, vc, vd, vs', rfl, ⟨ha, hm, hc, hd, hs, na, nm, nc, nd, ns⟩, er, q⟩ := h
    have r2 : Room 2 _ := hr.mono (by decide)
    refine ⟨_, pss_cons (ps_if (pt_not (pt_val (pe_call GW r2 (by rfl) DW.gl DW.kp bW .nil pass0 (pa_cons (pv 0) (pa_cons pe_int (pa_cons pe_int pa_nil)))))) (pss_one (ps_raise rfl (takes_of rfl rfl rfl rfl) (pmk_oex I.ox I.ini I.ty GI hr bI .nil pass0 (by rfl) I.gl (pa_cons pe_str pa_nil)))) pss_nil)
      (pss_cons (ps_if (pt_not (pt_val (pe_call GM r2 (by rfl) DM.gl DM.kp bM .nil pass0 (pa_cons (pv 0) (pa_cons (pv 1) pa_nil))))) (pss_one (ps_raise rfl (takes_of rfl rfl rfl rfl) (pmk_oex I.ox I.ini I.ty GI hr bI .nil pass0 (by rfl) I.gl (pa_cons pe_str pa_nil)))) pss_nil)
      (pss_cons (ps_if (pt_not (pt_val (pe_call GCe hr (by rfl) DC.gl DC.kp bC .nil pass0 (pa_cons (pv 1) (pa_cons (pv 2) pa_nil))))) (pss_one (ps_raise rfl (takes_of rfl rfl rfl rfl) (pmk_oex I.ox I.ini I.ty GI hr bI .nil pass0 (by rfl) I.gl (pa_cons pe_str pa_nil)))) pss_nil)
      (pss_cons (ps_if (pt_not (pt_val (pe_call GD hr (by rfl) DD.gl DD.kp bD .nil pass0 (pa_cons (pv 0) (pa_cons (pv 3) pa_nil))))) (pss_one (ps_raise rfl (takes_of rfl rfl rfl rfl) (pmk_oex I.ox I.ini I.ty GI hr bI .nil pass0 (by rfl) I.gl (pa_cons pe_str pa_nil)))) pss_nil)
      (pss_one (ps_if (pt_not (pt_val (pe_call GS r2 (by rfl) DS.gl DS.kp bS .nil pass0 (pa_cons (pv 0) (pa_cons (pv 4) pa_nil))))) (pss_one (ps_raise rfl (takes_of rfl rfl rfl rfl) (pmk_oex I.ox I.ini I.ty GI hr bI .nil pass0 (by rfl) I.gl (pa_cons pe_str pa_nil)))) pss_nil))))), ?_⟩
    refine ⟨_, rfl, a, va, 1, 2, rfl, ha, na, _, rfl, ?_⟩
    cases h1 : wholeA a 1 2 with
    | false => exact iteT (it_made I (by decide +kernel) (er "arity" (by unfold fault; simp only [h1, cond_true, cond_false])))
    | true =>
    obtain ⟨tw, rfl⟩ := whole_two h1
    obtain rfl : va = .int (arI tw) := ha
    refine iteF ⟨_, rfl, _, rfl, tw, m, vm, rfl, hm, nm, _, rfl, ?_⟩
    cases h2 : mirA tw m with
    | false => exact iteT (it_made I (by decide +kernel) (er "mirror" (by unfold fault; simp only [h1, two_ar, h2, cond_true, cond_false])))
    | true =>
    obtain ⟨mo, rfl⟩ := mir_ov h2
    obtain rfl := isav_avs hm
    refine iteF ⟨_, rfl, _, rfl, mo, c, vc, rfl, hc, nc, _, rfl, ?_⟩
    cases h3 : cenA mo.isSome c with
    | false => exact iteT (it_made I (by decide +kernel) (er "centre" (by unfold fault; simp only [h1, two_ar, h2, has_avs, h3, cond_true, cond_false])))
    | true =>
    refine iteF ⟨_, rfl, _, rfl, tw, d, vd, rfl, hd, nd, _, rfl, ?_⟩
    cases h4 : degA tw d with
    | false => exact iteT (it_made I (by decide +kernel) (er "degree" (by unfold fault; simp only [h1, two_ar, h2, has_avs, h3, h4, cond_true, cond_false])))
    | true =>
    refine iteF ⟨_, rfl, _, rfl, tw, s, vs', rfl, hs, ns, _, rfl, ?_⟩
    cases h5 : swA tw s with
    | false => exact iteT (it_made I (by decide +kernel) (er "swap" (by unfold fault; simp only [h1, two_ar, h2, has_avs, h3, h4, h5, cond_true, cond_false])))
    | true => exact iteF (q (by unfold fault; simp only [h1, two_ar, h2, has_avs, h3, h4, h5, cond_true, cond_false]))
end
end K06

set_option Elab.async false
set_option linter.all false
set_option maxRecDepth 100000
set_option maxHeartbeats 4000000
namespace K06
open PySem PySem.Spec PyProof.Rows L2 Ux
abbrev sFText : Stmt := top 33
abbrev sUInit : Stmt := inClass (top 34) 0
abbrev sFree : Stmt := inClass (top 34) 2
abbrev sUEq : Stmt := inClass (top 34) 3
abbrev sUStr : Stmt := inClass (top 34) 4
abbrev sURepr : Stmt := inClass (top 34) 5
/-! ### the text of facts -/
def mw (f : FT) : List Str := match f.mi with
  | none => []
  | some z => [z, ctext f.t f.b]
def dw (f : FT) : List Str := match f.dg with
  | none => []
  | some d => ["degree", (toString d : Str)]
def sw' (f : FT) : List Str := match f.sw with
  | none => []
  | some z => [z]
def fwords (f : FT) : List Str := (([(toString f.ar : Str)] ++ mw f) ++ dw f) ++ sw' f
def ftext (f : FT) : Str := Txt.join " " (fwords f)
/-- a list of few short words -/
def Short (n : Nat) (ws : List Str) : Prop := ws.length ≤ n ∧ ∀ x ∈ ws, x.length ≤ 30
theorem Short.app {n m : Nat} {a b : List Str} (h : Short n a) (k : Short m b) : Short (n + m) (a ++ b) := by
  refine ⟨?_, fun x hx => ?_⟩
  · rw [List.length_append]
    have := h.1
    have := k.1
    omega
  · rcases List.mem_append.mp hx with z | z
    · exact h.2 x z
    · exact k.2 x z
theorem Short.sum {n : Nat} : ∀ {ws : List Str}, Short n ws → (ws.map (·.length)).sum ≤ 30 * ws.length
  | [], _ => Nat.zero_le _
  | x :: ws, h => by
    have h1 := h.2 x (List.mem_cons_self ..)
    have h2 : Short ws.length ws := ⟨Nat.le_refl _, fun y hy => h.2 y (List.mem_cons_of_mem _ hy)⟩
    have h3 := Short.sum h2
    rw [List.map_cons, List.sum_cons, List.length_cons]
    omega
theorem short_ar {f : FT} (ok : FOk f) : Short 1 [(toString f.ar : Str)] := ⟨Nat.le_refl _, fun x hx => by
  rw [List.mem_singleton] at hx
  subst hx
  obtain ⟨_, _, _, _, ⟨h, _⟩ | ⟨h, _⟩, _⟩ := ok <;> rw [h] <;> decide⟩
theorem short_mw {f : FT} (ok : FOk f) : Short 2 (mw f) := by
  unfold mw
  cases hm : f.mi with
  | none => exact ⟨Nat.zero_le _, fun x hx => by cases hx⟩
  | some z =>
    refine ⟨Nat.le_refl _, fun x hx => ?_⟩
    obtain ⟨t0, t1, b0, b1, ⟨_, h, _⟩ | ⟨_, _, h, _⟩, _⟩ := ok
    · rw [hm] at h
      cases h
    · rcases List.mem_cons.mp hx with e | e
      · subst e
        rw [hm] at h
        rcases h with h | h | h
        · cases h
        · obtain rfl := Option.some.inj h
          decide
        · obtain rfl := Option.some.inj h
          decide
      · rw [List.mem_singleton] at e
        subst e
        exact ctext_len t0 t1 b0 b1
theorem short_dw {f : FT} (ok : FOk f) : Short 2 (dw f) := by
  unfold dw
  cases hm : f.dg with
  | none => exact ⟨Nat.zero_le _, fun x hx => by cases hx⟩
  | some d =>
    refine ⟨Nat.le_refl _, fun x hx => ?_⟩
    obtain ⟨_, _, _, _, ⟨_, _, h, _⟩ | ⟨_, _, _, h⟩, _⟩ := ok
    · rw [hm] at h
      cases h
    · rw [hm] at h
      rcases h with h | ⟨d', h, d0, d3⟩
      · cases h
      · obtain rfl := Option.some.inj h
        rcases List.mem_cons.mp hx with e | e
        · subst e
          decide
        · rw [List.mem_singleton] at e
          subst e
          exact Nat.le_trans (text_len (by omega) (by omega)) (by decide)
theorem short_sw {f : FT} (ok : FOk f) : Short 1 (sw' f) := by
  unfold sw'
  cases hm : f.sw with
  | none => exact ⟨Nat.zero_le _, fun x hx => by cases hx⟩
  | some z =>
    refine ⟨Nat.le_refl _, fun x hx => ?_⟩
    rw [List.mem_singleton] at hx
    subst hx
    obtain ⟨_, _, _, _, ⟨_, _, _, h⟩ | ⟨_, h, _⟩, _⟩ := ok
    · rw [hm] at h
      rcases h with h | h | h
      · cases h
      · obtain rfl := Option.some.inj h
        decide
      · obtain rfl := Option.some.inj h
        decide
    · rw [hm] at h
      cases h
def spFText (CR : Addr) : Sp := fun vs H Q _ => ∃ (f : FT) (r : Addr), vs = [.int f.ar, ov f.mi, .ref r, oi f.dg, ov f.sw] ∧ FOk f ∧ RatAt CR H r f.t f.b ∧ ∀ H', Same H H' → Q (.str (ftext f)) H'
section
variable {P : Program} {w : World} {K : PySem.W.Frag} {mg : Str → Option Value} {base : Heap} {CR CU : Addr}
theorem scFText : FnScope ["arity", "mirror", "centre", "degree", "swap", "words"] ["arity", "mirror", "centre", "degree", "swap"] (defScope sFText) := ⟨rfl, rfl, rfl, by decide +kernel, rfl, by decide +kernel, by decide +kernel⟩
theorem ov_some (z : Str) : decide (ov (some z) = V.non) = false := rfl
theorem ok_fText {f fS : Addr} {fd fdS : FuncData} (F : Fun K "facts_text" "facts_text" sFText f fd) (B : Bn mg) (M : OwnM K CR "__str__" fS) (G : FnOk P w K mg base CX0 3 fS fdS ["self"] (spRatText CR)) (bS : Binds K fdS ["self"] []) : FnOk P w K mg base CX0 6 f fd ["arity", "mirror", "centre", "degree", "swap"] (spFText CR) := by
  refine F.ok scFText (fun vs H Q E h => ?_) (fun cdv A outer s H vs Q E hr h => ?_)
  · obtain ⟨f, r, rfl, _⟩ := h
    rfl
  · obtain ⟨f, r, rfl, ok, ra, q⟩ := h
    refine ⟨_, pss_cons (ps_set (i := 5) scFText.nd rfl (Or.inl rfl) (pe_lst (pa_cons (pe_callTy call_str_int (by rfl) B.tstr (by decide +kernel) (pa_cons (pv 0) pa_nil)) pa_nil)))
      (C8.pss_cut (ps_if (pt_cmpR op_notN (pv 1) pe_non (nomark _)) (pss_one (ps_expr (pe_bm PySem.F.plainAttrs_list PySem.F.slot_list_extend PySem.F.type_list_extend mt_extend (pv 5) (pa_cons (pe_lst (pa_cons (pv 1) (pa_cons (pe_callTy (call_strO M G bS hr) (by rfl) B.tstr (by decide +kernel) (pa_cons (pv 2) pa_nil)) pa_nil))) pa_nil)))) pss_nil)
      (C8.pss_cut (ps_if (pt_cmpR op_notN (pv 3) pe_non (nomark _)) (pss_one (ps_expr (pe_bm PySem.F.plainAttrs_list PySem.F.slot_list_extend PySem.F.type_list_extend mt_extend (pv 5) (pa_cons (pe_lst (pa_cons pe_str (pa_cons (pe_callTy call_str_int (by rfl) B.tstr (by decide +kernel) (pa_cons (pv 3) pa_nil)) pa_nil))) pa_nil)))) pss_nil)
      (C8.pss_cut (ps_if (pt_cmpR op_notN (pv 4) pe_non (nomark _)) (pss_one (ps_expr (pe_bm PySem.F.plainAttrs_list PySem.F.slot_list_append PySem.F.type_list_append mt_append (pv 5) (pa_cons (pv 4) pa_nil)))) pss_nil)
      (pss_one (ps_ret (pe_join pe_str (pv 5))))))), ?_⟩
    obtain ⟨t0, t1, b0, b1, kind, _⟩ := id ok
    have ar0 : -100 ≤ f.ar ∧ f.ar ≤ 100 := by rcases kind with ⟨h, _⟩ | ⟨h, _⟩ <;> omega
    have sa := short_ar ok
    have sm := short_mw ok
    have sd := short_dw ok
    have ss := short_sw ok
    refine ⟨_, rfl, _, rfl, log2_100 ar0.1 ar0.2, (by show 1 ≤ sizeLine; decide), fun p hp => ?_⟩
    refine ⟨fun σ H' => σ = [some (.int f.ar), some (ov f.mi), some (.ref r), some (oi f.dg), some (ov f.sw), some (.ref p)] ∧ Same H H' ∧ H' p = some (.lst (([(toString f.ar : Str)] ++ mw f).map V.str)), ?_, ?_⟩
    · refine ⟨_, rfl, rfl, _, rfl, ?_⟩
      cases hm : f.mi with
      | none =>
        refine iteF ⟨by first | rfl | (rw [← hm]; done) | (rw [← hm]; rfl), same_upd hp, ?_⟩
        have e : mw f = [] := by unfold mw; rw [hm]
        rw [e, upd_same]
        rfl
      | some z =>
        refine iteT ?_
        have hp1 : upd H p (.lst [V.str (toString f.ar)]) p = some (.lst [V.str (toString f.ar)]) := upd_same
        obtain ⟨dx, hx⟩ := id ra
        have s1 : Same H (upd H p (.lst [V.str (toString f.ar)])) := same_upd hp
        refine ⟨_, rfl, .inl ⟨rfl, _, SqL.of hp1⟩, _, rfl, _, rfl, r, dx, _, rfl, s1 _ _ hx, r, f.t, f.b, rfl, ra.same s1, t0, t1, b0, b1, fun H2 s2 => ⟨_, rfl, (by show 2 ≤ sizeLine; decide), fun l hl => ?_⟩⟩
        have n2 := s2 _ _ hp1
        have n3 : upd H2 l (.lst [V.str z, V.str (ctext f.t f.b)]) p = some (.lst [V.str (toString f.ar)]) := (upd_ne (ne_of_none n2 hl)).trans n2
        refine ⟨p, l, _, _, rfl, rfl, n3, upd_same, (by show 1 + 2 ≤ sizeLine; decide), ?_⟩
        refine ⟨by first | rfl | (rw [← hm]; done) | (rw [← hm]; rfl), fun c o e => ?_, ?_⟩
        · rw [upd_ne (ne_of_none e hp)]
          have e1 := s2 _ _ (s1 _ _ e)
          rw [upd_ne (ne_of_none e1 hl)]
          exact e1
        · have e : mw f = [z, ctext f.t f.b] := by unfold mw; rw [hm]
          rw [e, upd_same]
          rfl
    · rintro σ H1 ⟨rfl, s1, hp1⟩
      refine ⟨fun σ H' => σ = [some (.int f.ar), some (ov f.mi), some (.ref r), some (oi f.dg), some (ov f.sw), some (.ref p)] ∧ Same H H' ∧ H' p = some (.lst ((([(toString f.ar : Str)] ++ mw f) ++ dw f).map V.str)), ?_, ?_⟩
      · refine ⟨_, rfl, rfl, _, rfl, ?_⟩
        cases hm : f.dg with
        | none =>
          refine iteF ⟨by first | rfl | (rw [← hm]; done) | (rw [← hm]; rfl), s1, ?_⟩
          have e : dw f = [] := by unfold dw; rw [hm]
          rw [e, List.append_nil]
          exact hp1
        | some d =>
          refine iteT ?_
          have d03 : -100 ≤ d ∧ d ≤ 100 := by
            rcases kind with ⟨_, _, h, _⟩ | ⟨_, _, _, h⟩
            · rw [hm] at h
              cases h
            · rw [hm] at h
              rcases h with h | ⟨d', h, d0, d3⟩
              · cases h
              · have := Option.some.inj h
                omega
          refine ⟨_, rfl, .inl ⟨rfl, _, SqL.of hp1⟩, _, rfl, _, rfl, log2_100 d03.1 d03.2, (by show 2 ≤ sizeLine; decide), fun l hl => ?_⟩
          have n3 : upd H1 l (.lst [V.str "degree", V.str (toString d)]) p = _ := (upd_ne (ne_of_none hp1 hl)).trans hp1
          refine ⟨p, l, _, _, rfl, rfl, n3, upd_same, ?_, ?_⟩
          · rw [List.length_map]
            have := (sa.app sm).1
            exact fit (m := 10) (by show _ + 2 ≤ 10; omega) (by decide)
          · refine ⟨by first | rfl | (rw [← hm]; done) | (rw [← hm]; rfl), fun c o e => ?_, ?_⟩
            · rw [upd_ne (ne_of_none e hp)]
              have e1 := s1 _ _ e
              rw [upd_ne (ne_of_none e1 hl)]
              exact e1
            · have e : dw f = [("degree" : Str), (toString d : Str)] := by unfold dw; rw [hm]
              rw [e, upd_same]
              simp only [List.map_append]
              rfl
      · clear hp1 s1 H1
        rintro σ H1 ⟨rfl, s1, hp1⟩
        refine ⟨fun σ H' => σ = [some (.int f.ar), some (ov f.mi), some (.ref r), some (oi f.dg), some (ov f.sw), some (.ref p)] ∧ Same H H' ∧ H' p = some (.lst ((fwords f).map V.str)), ?_, ?_⟩
        · refine ⟨_, rfl, rfl, _, rfl, ?_⟩
          cases hm : f.sw with
          | none =>
            refine iteF ⟨by first | rfl | (rw [← hm]; done) | (rw [← hm]; rfl), s1, ?_⟩
            have e : sw' f = [] := by unfold sw'; rw [hm]
            unfold fwords
            rw [e, List.append_nil]
            exact hp1
          | some z =>
            refine iteT ⟨_, rfl, .inl ⟨rfl, _, SqL.of hp1⟩, _, rfl, p, _, _, rfl, rfl, hp1, ?_, ?_⟩
            · rw [List.length_map]
              have := ((sa.app sm).app sd).1
              exact small1000 (by omega)
            · refine ⟨by first | rfl | (rw [← hm]; done) | (rw [← hm]; rfl), fun c o e => ?_, ?_⟩
              · rw [upd_ne (ne_of_none e hp)]
                exact s1 _ _ e
              · have e : sw' f = [z] := by unfold sw'; rw [hm]
                unfold fwords
                rw [e, upd_same]
                simp only [List.map_append]
                rfl
        · clear hp1 s1 H1
          rintro σ H1 ⟨rfl, s1, hp1⟩
          have sf : Short 6 (fwords f) := ((sa.app sm).app sd).app ss
          refine ⟨⟨_, rfl⟩, _, rfl, _, p, fwords f, rfl, rfl, .inl (.of hp1), ?_, q H1 s1⟩
          have h1 := sf.sum
          have h2 := sf.1
          have h3 : (" " : Str).length = 1 := by decide
          rw [h3]
          omega
end
end K06

set_option Elab.async false
set_option linter.all false
set_option maxRecDepth 100000
set_option maxHeartbeats 4000000
namespace K06
open PySem PySem.Spec PyProof.Rows L2 Ux
theorem putF_len (f : Str) (v : V) : ∀ fs : List (Str × V), (putF f v fs).length ≤ fs.length + 1
  | [] => Nat.le_refl _
  | (g, x) :: r => by
    unfold putF
    split
    · exact Nat.le_succ _
    · have := putF_len f v r
      simp only [List.length_cons]
      omega
theorem ftext_len {f : FT} (ok : FOk f) : (ftext f).length ≤ 400 := by
  have sf : Short 6 (fwords f) := (((short_ar ok).app (short_mw ok)).app (short_dw ok)).app (short_sw ok)
  have h1 := sf.sum
  have h2 := sf.1
  have e0 : Txt.join " " (fwords f) = Str.join " " (fwords f) := StrLaws.glued_eq_join _ _
  unfold ftext
  rw [e0]
  refine Nat.le_trans (StrLaws.join_length_le _ _) ?_
  have e : (" " : Str).length = 1 := by decide
  rw [e]
  omega
/-- the class Unseen -/
structure UT (K : PySem.W.Frag) (mg : Str → Option Value) (CU : Addr) : Prop where
  cl : Cls K CU
  n1 : NoAttr K CU "arity"
  n2 : NoAttr K CU "mirror"
  n3 : NoAttr K CU "centre"
  n4 : NoAttr K CU "degree"
  n5 : NoAttr K CU "swap"
  n6 : NoAttr K CU "text"
  gl : mg "Unseen" = some (.ref CU)
  ha : PySem.W.findIn K (.ref CU) "__class__" = some (some (.builtin "object.__class__"))
  hn : PySem.W.specialIn K (.builtin "object.__class__") "__get__" = some (some (.builtin "getset_descriptor.__get__"))
  ht : PySem.W.takesIn K (.builtin "object.__class__") = some true
  hm : PySem.W.mroIn K CU (.type "object") = some true
  kU : PySem.W.kitOne K (.ref CU) (.ref CU) = some true
  kS : PySem.W.kitOne K (.type "str") (.ref CU) = some false
  f1 : PySem.W.notFirst K CU (.ref CU) = true
  f2 : PySem.W.notFirst K CU (.type "str") = true
/-- the fields of an Unseen -/
def u1 (f : FT) : List (Str × V) := putF "arity" (.int f.ar) []
def u2 (f : FT) : List (Str × V) := putF "mirror" (ov f.mi) (u1 f)
def u3 (f : FT) (r : Addr) : List (Str × V) := putF "centre" (.ref r) (u2 f)
def u4 (f : FT) (r : Addr) : List (Str × V) := putF "degree" (oi f.dg) (u3 f r)
def u5 (f : FT) (r : Addr) : List (Str × V) := putF "swap" (ov f.sw) (u4 f r)
def u6 (f : FT) (r : Addr) : List (Str × V) := putF "text" (.str (ftext f)) (u5 f r)
theorem l1 (f : FT) : (u1 f).length < 1000 := Nat.lt_of_le_of_lt (putF_len _ _ _) (by show 1 < 1000; decide)
theorem l1' (f : FT) : (u1 f).length ≤ 1 := putF_len _ _ _
theorem l2' (f : FT) : (u2 f).length ≤ 2 := Nat.le_trans (putF_len _ _ _) (Nat.succ_le_succ (l1' f))
theorem l3' (f : FT) (r : Addr) : (u3 f r).length ≤ 3 := Nat.le_trans (putF_len _ _ _) (Nat.succ_le_succ (l2' f))
theorem l4' (f : FT) (r : Addr) : (u4 f r).length ≤ 4 := Nat.le_trans (putF_len _ _ _) (Nat.succ_le_succ (l3' f r))
theorem l5' (f : FT) (r : Addr) : (u5 f r).length ≤ 5 := Nat.le_trans (putF_len _ _ _) (Nat.succ_le_succ (l4' f r))
theorem neq (a b : Str) (h : decide (a = b) = false := by decide +kernel) : ¬ a = b := of_decide_eq_false h
theorem gAr (f : FT) (r : Addr) : (u6 f r).lookup ("arity" : Str) = some (.int f.ar) := by
  unfold u6 u5 u4 u3 u2 u1
  rw [lookup_putF, if_neg (neq _ _), lookup_putF, if_neg (neq _ _), lookup_putF, if_neg (neq _ _), lookup_putF, if_neg (neq _ _), lookup_putF, if_neg (neq _ _), lookup_putF, if_pos rfl]
theorem gMi (f : FT) (r : Addr) : (u6 f r).lookup ("mirror" : Str) = some (ov f.mi) := by
  unfold u6 u5 u4 u3 u2
  rw [lookup_putF, if_neg (neq _ _), lookup_putF, if_neg (neq _ _), lookup_putF, if_neg (neq _ _), lookup_putF, if_neg (neq _ _), lookup_putF, if_pos rfl]
theorem gCe5 (f : FT) (r : Addr) : (u5 f r).lookup ("centre" : Str) = some (.ref r) := by
  unfold u5 u4 u3
  rw [lookup_putF, if_neg (neq _ _), lookup_putF, if_neg (neq _ _), lookup_putF, if_pos rfl]
theorem gCe (f : FT) (r : Addr) : (u6 f r).lookup ("centre" : Str) = some (.ref r) := by
  unfold u6
  rw [lookup_putF, if_neg (neq _ _), gCe5]
theorem gDg (f : FT) (r : Addr) : (u6 f r).lookup ("degree" : Str) = some (oi f.dg) := by
  unfold u6 u5 u4
  rw [lookup_putF, if_neg (neq _ _), lookup_putF, if_neg (neq _ _), lookup_putF, if_pos rfl]
theorem gSw (f : FT) (r : Addr) : (u6 f r).lookup ("swap" : Str) = some (ov f.sw) := by
  unfold u6 u5
  rw [lookup_putF, if_neg (neq _ _), lookup_putF, if_pos rfl]
theorem gTx (f : FT) (r : Addr) : (u6 f r).lookup ("text" : Str) = some (.str (ftext f)) := by
  unfold u6
  rw [lookup_putF, if_pos rfl]
/-- an Unseen at a -/
def UnsAt (CR CU : Addr) (H : Hp) (a : Addr) (f : FT) : Prop := ∃ dx r, H a = some (.ins CU dx (u6 f r)) ∧ RatAt CR H r f.t f.b
theorem UnsAt.same {CR CU : Addr} {H H' : Hp} {a : Addr} {f : FT} (h : UnsAt CR CU H a f) (s : Same H H') : UnsAt CR CU H' a f := by
  obtain ⟨dx, r, h, k⟩ := h
  exact ⟨dx, r, s _ _ h, k.same s⟩
theorem UnsAt.ty {K : PySem.W.Frag} {mg : Str → Option Value} {CR CU : Addr} {H : Hp} {a : Addr} {f : FT} (T : UT K mg CU) (h : UnsAt CR CU H a f) : TyX K H (.ref a) (.ref CU) := by
  obtain ⟨dx, r, h, _⟩ := h
  exact .base (.ins h T.cl T.ha T.hn T.ht T.hm)
def freeB (f : FT) : Bool := f.mi.isNone && f.dg.isNone && f.sw.isNone
def spUInit (CR CU CI : Addr) : Sp := fun vs H Q E => ∃ (p dx : Addr) (a m c d s : AV) (va vm vc vd vs' : V), vs = [.ref p, va, vm, vc, vd, vs'] ∧ H p = some (.ins CU dx []) ∧ Fcts CR H a m c d s va vm vc vd vs' ∧ (∀ w, fault a m c d s = some w → RaisesF CI w H E) ∧
  (fault a m c d s = none → ∃ f : FT, va = .int f.ar ∧ vm = ov f.mi ∧ vd = oi f.dg ∧ vs' = ov f.sw ∧ FOk f ∧ CenV CR H vc f.t f.b ∧ ∀ H', UnsAt CR CU H' p f → But p H H' → Q .non H')
def spFree (CR CU : Addr) : Sp := fun vs H Q _ => ∃ (a : Addr) (f : FT), vs = [.ref a] ∧ UnsAt CR CU H a f ∧ Q (.bl (freeB f)) H
def spUEq (CR CU : Addr) : Sp := fun vs H Q _ => (∃ (a b : Addr) (f g : FT), vs = [.ref a, .ref b] ∧ UnsAt CR CU H a f ∧ UnsAt CR CU H b g ∧ Q (.bl (decide (ftext f = ftext g))) H) ∨ ∃ (a : Addr) (f : FT) (z : Str), vs = [.ref a, .str z] ∧ UnsAt CR CU H a f ∧ Q (.bl false) H
def spUStr (CR CU : Addr) : Sp := fun vs H Q _ => ∃ (a : Addr) (f : FT), vs = [.ref a] ∧ UnsAt CR CU H a f ∧ FOk f ∧ Q (.str (ftext f)) H
def spURepr (CR CU : Addr) : Sp := fun vs H Q _ => ∃ (a : Addr) (f : FT), vs = [.ref a] ∧ UnsAt CR CU H a f ∧ FOk f ∧ Q (.str ("Unseen(" ++ ftext f ++ ")")) H
section
variable {P : Program} {w : World} {K : PySem.W.Frag} {mg : Str → Option Value} {base : Heap} {CR CU : Addr}
theorem RatAt.upd {H : Hp} {r p : Addr} {t b : Int} {o : HO} (h : RatAt CR H r t b) (n : r ≠ p) : RatAt CR (upd H p o) r t b := by
  obtain ⟨dx, h⟩ := h
  exact ⟨dx, (upd_ne n).trans h⟩
theorem RatAt.ne {H : Hp} {r p dx : Addr} {t b : Int} {fs : List (Str × V)} (h : RatAt CR H r t b) (hp : H p = some (.ins CU dx fs)) (nf : fs.lookup ("bottom" : Str) = none) : r ≠ p := fun e => by
  obtain ⟨dx', h⟩ := h
  rw [e, hp] at h
  have e1 := Option.some.inj h
  have e2 : fs = rf t b := by injection e1
  rw [e2, rf_bot] at nf
  cases nf
theorem scUInit : FnScope ["self", "arity", "mirror", "centre", "degree", "swap"] ["self", "arity", "mirror", "centre", "degree", "swap"] (defScope sUInit) := ⟨rfl, rfl, rfl, by decide +kernel, rfl, by decide +kernel, by decide +kernel⟩
theorem ok_uinit {CI : Addr} {f fC fR fT : Addr} {fd fdC fdR fdT : FuncData} {dvs : List V} {kws : List (Str × V)} (F : FunD K "__init__" "Unseen.__init__" (defArgs sUInit) (defBody sUInit) (defScope sUInit) dvs kws f fd) (T : RT K mg CR) (U : UT K mg CU)
    (DC : Dn K mg "check_facts" fC) (GCh : FnOk P w K mg base (L2.CX P w) 4 fC fdC ["arity", "mirror", "centre", "degree", "swap"] (spCheck CR CI)) (bC : Binds K fdC ["arity", "mirror", "centre", "degree", "swap"] [])
    (DR : Dn K mg "ratio_of" fR) (GR : FnOk P w K mg base CX0 4 fR fdR ["number"] (spRatioOf CR)) (bR : Binds K fdR ["number"] [])
    (DT : Dn K mg "facts_text" fT) (GT : FnOk P w K mg base CX0 6 fT fdT ["arity", "mirror", "centre", "degree", "swap"] (spFText CR)) (bT : Binds K fdT ["arity", "mirror", "centre", "degree", "swap"] []) :
    FnOk P w K mg base (L2.CX P w) 7 f fd ["self", "arity", "mirror", "centre", "degree", "swap"] (spUInit CR CU CI) := by
  refine F.ok scUInit (fun vs H Q E h => ?_) (fun cdv A outer s H vs Q E hr h => ?_)
  · obtain ⟨p, dx, a, m, c0, d, s, va, vm, vc, vd, vs', rfl, _⟩ := h
    rfl
  · obtain ⟨p, dx, a, m, c0, d, s0, va, vm, vc, vd, vs', rfl, hp, fc, er, good⟩ := h
    have r4 : Room 4 _ := hr.mono (by decide)
    refine ⟨_, pss_cons (ps_expr (pe_call (E := E) GCh r4 (by rfl) DC.gl DC.kp bC .nil (passes_call (takes_of rfl rfl rfl rfl) fun _ _ _ _ z => z) (pa_cons (pv 1) (pa_cons (pv 2) (pa_cons (pv 3) (pa_cons (pv 4) (pa_cons (pv 5) pa_nil)))))))
      (pss_cons (ps_fld (pv 0) (pv 1) rfl)
      (pss_cons (ps_fld (pv 0) (pv 2) rfl)
      (C8.pss_cut (ps_fld (pv 0) (pe_call GR r4 (by rfl) DR.gl DR.kp bR .nil pass0 (pa_cons (pv 3) pa_nil)) rfl)
      (pss_cons (ps_fld (pv 0) (pv 4) rfl)
      (pss_cons (ps_fld (pv 0) (pv 5) rfl)
      (pss_one (ps_fld (pv 0) (pe_call GT hr (by rfl) DT.gl DT.kp bT .nil pass0 (pa_cons (pv 1) (pa_cons (pv 2) (pa_cons (pe_fld (pv 0) rfl) (pa_cons (pv 4) (pa_cons (pv 5) pa_nil)))))) rfl))))))), ?_⟩
    refine ⟨_, rfl, _, rfl, _, rfl, _, rfl, _, rfl, a, m, c0, d, s0, va, vm, vc, vd, vs', rfl, fc, er, fun hg => ?_⟩
    obtain ⟨f, rfl, rfl, rfl, rfl, ok, cv, q⟩ := good hg
    refine ⟨_, rfl, _, rfl, p, CU, dx, _, rfl, hp, U.cl, U.n1, (by show 0 < 1000; decide), ?_⟩
    refine ⟨_, rfl, _, rfl, p, CU, dx, u1 f, rfl, upd_same, U.cl, U.n2, by have := l1' f; omega, ?_⟩
    have b2 : But p H (upd (upd H p (.ins CU dx (u1 f))) p (.ins CU dx (u2 f))) := But.refl.upd.upd
    have h2 : upd (upd H p (.ins CU dx (u1 f))) p (.ins CU dx (u2 f)) p = some (.ins CU dx (u2 f)) := upd_same
    have n2 : (u2 f).lookup ("bottom" : Str) = none := by
      unfold u2 u1
      rw [lookup_putF, if_neg (neq _ _), lookup_putF, if_neg (neq _ _)]
      rfl
    refine ⟨fun σ H4 => ∃ r, σ = [some (.ref p), some (.int f.ar), some (ov f.mi), some vc, some (oi f.dg), some (ov f.sw)] ∧ RatAt CR H4 r f.t f.b ∧ But p H H4 ∧ H4 p = some (.ins CU dx (u3 f r)) ∧ r ≠ p, ?_, ?_⟩
    · refine ⟨_, rfl, ?_⟩
      rcases cv with ⟨r, rfl, ra⟩ | ⟨rfl, eb⟩
      · have nr : r ≠ p := ra.ne hp rfl
        obtain ⟨dx', hr'⟩ := ra
        have ra2 : RatAt CR (upd (upd H p (.ins CU dx (u1 f))) p (.ins CU dx (u2 f))) r f.t f.b := ⟨dx', b2 _ _ hr' nr⟩
        refine .inl ⟨r, _, _, rfl, ra2, ?_⟩
        refine ⟨_, rfl, p, CU, dx, u2 f, rfl, h2, U.cl, U.n3, by have := l2' f; omega, r, rfl, ra2.upd nr, b2.upd, upd_same, nr⟩
      · refine .inr ⟨f.t, rfl, fun p' H3 ra3 s3 n3 => ?_⟩
        have nr : p' ≠ p := (ne_of_none h2 n3).symm
        rw [← eb] at ra3
        refine ⟨_, rfl, p, CU, dx, u2 f, rfl, s3 _ _ h2, U.cl, U.n3, by have := l2' f; omega, p', rfl, ra3.upd nr, ?_, upd_same, nr⟩
        exact But.upd fun x o e n => s3 _ _ (b2 x o e n)
    · clear b2 h2
      rintro σ H4 ⟨r, rfl, ra, bt, h4, nr⟩
      refine ⟨_, rfl, _, rfl, p, CU, dx, u3 f r, rfl, h4, U.cl, U.n4, by have := l3' f r; omega, ?_⟩
      refine ⟨_, rfl, _, rfl, p, CU, dx, u4 f r, rfl, upd_same, U.cl, U.n5, by have := l4' f r; omega, ?_⟩
      have b6 : But p H (upd (upd H4 p (.ins CU dx (u4 f r))) p (.ins CU dx (u5 f r))) := bt.upd.upd
      have h6 : upd (upd H4 p (.ins CU dx (u4 f r))) p (.ins CU dx (u5 f r)) p = some (.ins CU dx (u5 f r)) := upd_same
      have ra6 : RatAt CR (upd (upd H4 p (.ins CU dx (u4 f r))) p (.ins CU dx (u5 f r))) r f.t f.b := (ra.upd nr).upd nr
      refine ⟨_, rfl, _, rfl, _, rfl, p, CU, dx, u5 f r, _, rfl, h6, U.cl, U.n3, gCe5 f r, _, rfl, _, rfl, f, r, rfl, ok, ra6, fun H7 s7 => ?_⟩
      refine ⟨_, rfl, p, CU, dx, u5 f r, rfl, s7 _ _ h6, U.cl, U.n6, by have := l5' f r; omega, ?_⟩
      refine q _ ⟨dx, r, upd_same, (ra6.same s7).upd nr⟩ (But.upd fun x o e n => s7 _ _ (b6 x o e n))
theorem scUEq : FnScope ["self", "other"] ["self", "other"] (defScope sUEq) := ⟨rfl, rfl, rfl, by decide +kernel, rfl, by decide +kernel, by decide +kernel⟩
theorem ok_ueq {f : Addr} {fd : FuncData} (F : Fun K "__eq__" "Unseen.__eq__" sUEq f fd) (B : Bn mg) (U : UT K mg CU) : FnOk P w K mg base CX0 1 f fd ["self", "other"] (spUEq CR CU) := by
  refine F.ok scUEq (fun vs H Q E h => ?_) (fun cdv A outer s H vs Q E hr h => ?_)
  · rcases h with ⟨a, b, f, g, rfl, _⟩ | ⟨a, f, z, rfl, _⟩ <;> rfl
  · refine ⟨_, pss_one (ps_ret (pe_and (pe_callB call_isi (by rfl) B.isin (by decide +kernel) (pa_cons (pv 1) (pa_cons (pe_glob (v := .ref CU) (by rfl) U.gl rfl) pa_nil))) (pe_one (pe_cmpR op_eq (pe_fld (pv 0) rfl) (pe_fld (pv 1) rfl) (nomark _))))), ?_⟩
    rcases h with ⟨a, b, f, g, rfl, ua, ub, q⟩ | ⟨a, f, z, rfl, ua, q⟩
    · refine ⟨_, rfl, _, _, _, _, true, rfl, .own _, ub.ty U, U.kU, true, rfl, iteT ?_⟩
      obtain ⟨dx, r, ha, _⟩ := ua
      obtain ⟨dx2, r2, hb, _⟩ := ub
      refine ⟨_, rfl, a, CU, dx, _, _, rfl, ha, U.cl, U.n6, gTx f r, _, rfl, b, CU, dx2, _, _, rfl, hb, U.cl, U.n6, gTx g r2, rfl, ?_⟩
      have e2 : decide (V.str (ftext f) = V.str (ftext g)) = decide (ftext f = ftext g) := by
        by_cases z : ftext f = ftext g
        · rw [decide_eq_true z, decide_eq_true (by rw [z])]
        · rw [decide_eq_false z, decide_eq_false (fun y => z (V.str.inj y))]
      rw [e2]
      exact q
    · exact ⟨_, rfl, _, _, _, _, false, rfl, .own _, .base (.str _), U.kS, false, rfl, iteF q⟩
theorem scUStr : FnScope ["self"] ["self"] (defScope sUStr) := ⟨rfl, rfl, rfl, by decide +kernel, rfl, by decide +kernel, by decide +kernel⟩
theorem ok_ustr {f : Addr} {fd : FuncData} (F : Fun K "__str__" "Unseen.__str__" sUStr f fd) (U : UT K mg CU) : FnOk P w K mg base CX0 1 f fd ["self"] (spUStr CR CU) := by
  refine F.ok scUStr (fun vs H Q E h => ?_) (fun cdv A outer s H vs Q E hr h => ?_)
  · obtain ⟨a, f, rfl, _⟩ := h
    rfl
  · obtain ⟨a, f, rfl, ⟨dx, r, ha, ra⟩, ok, q⟩ := h
    refine ⟨_, pss_one (ps_ret (pe_joined1 (pe_fmt (pe_fld (pv 0) rfl)))), ?_⟩
    exact ⟨_, rfl, a, CU, dx, _, _, rfl, ha, U.cl, U.n6, gTx f r, .inl ⟨_, rfl, fit (ftext_len ok) (by decide), q⟩⟩
end
end K06

set_option Elab.async false
set_option linter.all false
set_option maxRecDepth 100000
set_option maxHeartbeats 8000000
set_option pp.maxSteps 600
namespace K06
open PySem PySem.Spec PyProof.Rows L2 Ux
abbrev sLaw : Stmt := top 46
abbrev nLaw : List Str := ["_law_script", "_law_bag_here", "_law_odd", "_law_calls", "_law_turn", "_law_ask", "_law_what", "_law_good", "_law_one"]
theorem scLaw : FnScope nLaw ["_law_script"] (defScope sLaw) := ⟨rfl, rfl, rfl, by decide +kernel, rfl, by decide +kernel, by decide +kernel⟩
def qn : Str := (envOfC "law" (defScope sLaw) 0 0 .none).qual ++ "<lambda>"
def spLaw (K : PySem.W.Frag) (PT : Addr) : Sp := fun vs H Q _ => ∃ (a : Addr) (ns : List Int), vs = [.ref a] ∧ SqL K H a (ns.map V.int) ∧ ns.length ≤ 63 ∧ H PT = some (.tbl #[]) ∧ ∀ H', Q (.bl true) H'
theorem BagAt.more {H : Hp} {b : Addr} {n m : Nat} (h : BagAt H b n) (l : n ≤ m) : BagAt H b m := by
  obtain ⟨a, ns, p, g, s', c, h1, h2, h3, h4, h5, h6, h7, h8⟩ := h
  exact ⟨a, ns, p, g, s', c, h1, h2, h3, h4, h5, h6, h7, by omega⟩
theorem BagAt.same {H H' : Hp} {b : Addr} {n : Nat} (h : BagAt H b n) (s : Same H H') : BagAt H' b n := by
  obtain ⟨l, ns, p, g, s', c, hb, hl, z⟩ := h
  exact ⟨l, ns, p, g, s', c, s _ _ hb, s _ _ hl, z⟩
theorem BagAt.lst {H : Hp} {b : Addr} {n : Nat} (h : BagAt H b n) : ∃ xs, H b = some (.lst xs) := by
  obtain ⟨l, ns, p, g, s', c, hb, hl, z⟩ := h
  exact ⟨_, hb⟩
theorem Tabs.but {T : List (Addr × Str)} {H H' : Hp} {b : Addr} {xs : List V} (t : LamX.Tabs T H) (hb : H b = some (.lst xs)) (s : But b H H') : LamX.Tabs T H' := fun p hp => by
  obtain ⟨ps, h1, h2, h3⟩ := t p hp
  refine ⟨ps, s _ _ h1 fun e => ?_, h2, fun pos cv hc => ?_⟩
  · rw [e, hb] at h1
    cases h1
  · obtain ⟨c, e1, e2⟩ := h3 pos cv hc
    refine ⟨c, e1, s _ _ e2 fun e => ?_⟩
    rw [e, hb] at e2
    cases e2
theorem Tabs.same {T : List (Addr × Str)} {H H' : Hp} (t : LamX.Tabs T H) (s : Same H H') : LamX.Tabs T H' := LamX.Tabs.ext t s
theorem like_str {H : Hp} {n : Nat} (x : Str) : Like H (n + 1) (.str x) (.str x) := .inl ⟨rfl, .inr (.inr (.inr ⟨x, rfl⟩))⟩
theorem like_int {H : Hp} {n : Nat} (i : Int) : Like H (n + 1) (.int i) (.int i) := .inl ⟨rfl, .inr (.inr (.inl ⟨i, rfl⟩))⟩
theorem like_non {H : Hp} {n : Nat} : Like H (n + 1) .non .non := .inl ⟨rfl, .inl rfl⟩
theorem like_bl {H : Hp} {n : Nat} (b : Bool) : Like H (n + 1) (.bl b) (.bl b) := .inl ⟨rfl, .inr (.inl ⟨b, rfl⟩)⟩
def plainV : V → Bool
  | .non => true
  | .bl _ => true
  | .int _ => true
  | .str _ => true
  | _ => false
theorem like_plain {H : Hp} {n : Nat} {v : V} (h : plainV v = true) : Like H (n + 1) v v := by
  cases v with
  | non => exact like_non
  | bl b => exact like_bl b
  | int i => exact like_int i
  | str x => exact like_str x
  | _ => exact absurd h (by intro z; cases z)
/-- two lists, or two tuples, of the same plain values -/
theorem like_seq {H : Hp} {n : Nat} {a b : Addr} {xs : List V} (h : (H a = some (.tup xs) ∧ H b = some (.tup xs)) ∨ (H a = some (.lst xs) ∧ H b = some (.lst xs))) (hp : xs.all plainV = true) (hl : xs.length ≤ 1000) : Like H (n + 2) (.ref a) (.ref b) := by
  refine .inr ⟨a, b, _, _, rfl, rfl, h, rfl, hl, fun i x y hx hy => ?_⟩
  rw [hx] at hy
  obtain rfl := Option.some.inj hy
  exact like_plain (List.all_eq_true.mp hp x (List.mem_of_getElem? hx))
theorem BagAt.extN {H H' : Hp} {b : Addr} {n : Nat} (h : BagAt H b n) (s : LamX.ExtN H H') : BagAt H' b n := by
  obtain ⟨l, ns, p, g, s', c, hb, hl, z⟩ := h
  exact ⟨l, ns, p, g, s', c, s _ _ hb (fun ps e => by cases e), s _ _ hl (fun ps e => by cases e), z⟩
theorem made_same {H H' : Hp} {x dx : Addr} {o1 o2 : HO} (nx : H x = none) (nd : H dx = none) (bu : But x (upd (upd H dx o1) x o2) H') : Same H H' := fun c o e => by
  have n1 := ne_of_none e nx
  refine bu c o ?_ n1
  rw [upd_ne n1, upd_ne (ne_of_none e nd)]
  exact e
/-- the odd values -/
def odds : List AV := [.str "x", .bl true, .int (-1), .int 7, .str "", .str "Even", .lst]
theorem odd_all (f : AV → Option Str) (w : Str) (h : odds.all (fun a => decide (f a = some w)) = true) {a : AV} (m : a ∈ odds) : f a = some w := of_decide_eq_true (List.all_eq_true.mp h a m)
theorem noR_odd {a : AV} (m : a ∈ odds) : a.noR = true := List.all_eq_true.mp (show odds.all AV.noR = true by decide +kernel) a m
theorem pull_fault {r : Int} (h0 : 0 ≤ r) (h5 : r < 5) : fault (.int 1) .non (.int (1 + r)) .non .non = some "centre" := by
  have : r = 0 ∨ r = 1 ∨ r = 2 ∨ r = 3 ∨ r = 4 := by omega
  rcases this with rfl | rfl | rfl | rfl | rfl <;> decide +kernel
theorem IsAV.extN {CR : Addr} {H H' : Hp} {a : AV} {v : V} (h : IsAV CR H a v) (s : LamX.ExtN H H') : IsAV CR H' a v := by
  cases a with
  | lst =>
    obtain ⟨x, xs, e, h⟩ := h
    exact ⟨x, xs, e, s _ _ h (fun ps e => by cases e)⟩
  | rat t b =>
    obtain ⟨x, e, dx, h⟩ := h
    exact ⟨x, e, dx, s _ _ h (fun ps e => by cases e)⟩
  | _ => exact h
theorem IsAV.but {CR : Addr} {H H' : Hp} {a : AV} {v : V} {b : Addr} {n m : Nat} (h : IsAV CR H a v) (B : BagAt H b n) (B' : BagAt H' b m) (s : But b H H') : IsAV CR H' a v := by
  cases a with
  | lst =>
    obtain ⟨x, xs, e, h⟩ := h
    by_cases z : x = b
    · obtain ⟨ys, hb⟩ := B'.lst
      exact ⟨x, ys, e, z ▸ hb⟩
    · exact ⟨x, xs, e, s _ _ h z⟩
  | rat t c =>
    obtain ⟨x, e, dx, h⟩ := h
    obtain ⟨ys, hb⟩ := B.lst
    exact ⟨x, e, dx, s _ _ h fun z => by rw [z, hb] at h; cases h⟩
  | _ => exact h
/-- where a lambda is called -/
structure CxL (CR : Addr) (σ : L2.St) (H : Hp) (b : Addr) (n : Nat) (v0 : V) (a0 : AV) : Prop where
  c1 : σ[1]? = some (some (.ref b))
  c2 : σ[2]? = some (some v0)
  av : IsAV CR H a0 v0
  od : a0 ∈ odds
  bag : BagAt H b n
  le : n ≤ 1000000000
theorem CxL.same {CR : Addr} {σ : L2.St} {H H' : Hp} {b : Addr} {n : Nat} {v0 : V} {a0 : AV} (c : CxL CR σ H b n v0 a0) (s : Same H H') : CxL CR σ H' b n v0 a0 := ⟨c.c1, c.c2, c.av.same s, c.od, c.bag.same s, c.le⟩
theorem CxL.more {CR : Addr} {σ : L2.St} {H : Hp} {b : Addr} {n : Nat} {v0 : V} {a0 : AV} (c : CxL CR σ H b n v0 a0) : BagAt H b (n + 1) := c.bag.more (Nat.le_succ _)
theorem sameBut {b : Addr} {H H' : Hp} (s : Same H H') : But b H H' := fun y o e _ => s y o e
/-- the error that flies from a lambda -/
abbrev FlyF (CI b : Addr) (n : Nat) (w : Str) (H : Hp) (E : XK) : Prop := ∀ (d : Addr) (H' : Hp), BagAt H' b (n + 1) → But b H H' → H' d = some (.xd (itFs w)) → E (.ref CI) (some d) H'
theorem Fcts.same {CR : Addr} {H H' : Hp} {a m c d s : AV} {va vm vc vd vs : V} (f : Fcts CR H a m c d s va vm vc vd vs) (k : Same H H') : Fcts CR H' a m c d s va vm vc vd vs :=
  ⟨f.ia.same k, f.im.same k, f.ic.same k, f.jd.same k, f.js.same k, f.na, f.nm, f.nc, f.nd, f.ns⟩
theorem init_raise {CR CU CI b : Addr} {n : Nat} {H0 H : Hp} {x dx : Addr} {a m c d s : AV} {va vm vc vd vs : V} {w : Str} {Q : VK} {E : XK} (nx : H x = none) (nd : H dx = none) (B : BagAt H b (n + 1)) (f : But b H0 H) (F : Fcts CR H a m c d s va vm vc vd vs) (hw : fault a m c d s = some w) (k : FlyF CI b n w H0 E) :
    spUInit CR CU CI [.ref x, va, vm, vc, vd, vs] (upd (upd H dx (.own x)) x (.ins CU dx [])) Q E := by
  have sn : Same H (upd (upd H dx (.own x)) x (.ins CU dx [])) := made_same nx nd But.refl
  refine ⟨x, dx, a, m, c, d, s, va, vm, vc, vd, vs, rfl, upd_same, F.same sn, fun w' e' dd H' s2 hd => ?_, fun e => by rw [hw] at e; cases e⟩
  obtain rfl := Option.some.inj (hw.symm.trans e')
  exact k dd H' (B.same (sn.trans s2)) (fun y o e z => s2 _ _ (sn _ _ (f y o e z))) hd
theorem init_good {CR CU CI : Addr} {H : Hp} {x dx : Addr} {a m c d s : AV} {va vm vc vd vs : V} {f : FT} {Qp : Hp → Prop} {E : XK} (nx : H x = none) (nd : H dx = none) (F : Fcts CR H a m c d s va vm vc vd vs) (hw : fault a m c d s = none) (e1 : va = .int f.ar) (e2 : vm = ov f.mi) (e3 : vd = oi f.dg) (e4 : vs = ov f.sw) (ok : FOk f) (cv : CenV CR H vc f.t f.b)
    (k : ∀ H', UnsAt CR CU H' x f → Same H H' → Qp H') : spUInit CR CU CI [.ref x, va, vm, vc, vd, vs] (upd (upd H dx (.own x)) x (.ins CU dx [])) (fun v H3 => v = .non ∧ Qp H3) E := by
  have sn : Same H (upd (upd H dx (.own x)) x (.ins CU dx [])) := made_same nx nd But.refl
  refine ⟨x, dx, a, m, c, d, s, va, vm, vc, vd, vs, rfl, upd_same, F.same sn, (fun w' e' => by rw [hw] at e'; cases e'), fun _ => ⟨f, e1, e2, e3, e4, ok, ?_, fun H' un bu => ⟨rfl, k H' un (made_same nx nd bu)⟩⟩⟩
  rcases cv with ⟨r, h1, h2⟩ | h
  · exact .inl ⟨r, h1, h2.same sn⟩
  · exact .inr h
theorem ratio_made {CR : Addr} {H : Hp} {x dx : Addr} {t b t' b' : Int} {Qp : Hp → Prop} {E : XK} (nx : H x = none) (nd : H dx = none) (b0 : 0 < b) (b1 : b < 1073741824) (et : t / ((Nat.gcd t.natAbs b.natAbs : Nat) : Int) = t') (eb : b / ((Nat.gcd t.natAbs b.natAbs : Nat) : Int) = b') (k : ∀ H', RatAt CR H' x t' b' → Same H H' → Qp H') :
    spRInit CR [.ref x, .int t, .int b] (upd (upd H dx (.own x)) x (.ins CR dx [])) (fun v H3 => v = .non ∧ Qp H3) E := by
  refine ⟨x, dx, t, b, rfl, upd_same, b0, b1, fun H' hx bu => ⟨rfl, k H' ⟨dx, ?_⟩ (made_same nx nd bu)⟩⟩
  rw [et, eb] at hx
  exact hx
/-- the error InvalidFact, told -/
structure ITk (K : PySem.W.Frag) (C1 C2 CI : Addr) : Prop where
  ex : PySem.W.exmAny K (.ref CI) [.ref C1, .ref C2] = some true
  xf : XfC K CI
  no : ∀ f ∈ fieldNames, PySem.W.findIn K (.ref CI) f = some none
theorem told_f {K : PySem.W.Frag} {C1 C2 CI : Addr} (T : ITk K C1 C2 CI) {H : Hp} {Q : VK} {w : Str} {d : Addr} (hd : H d = some (.xd (itFs w))) (k : ∀ (t : Addr) (H' : Hp), H' t = some (.tup [.str "InvalidFact", .str w]) → Same H H' → Q (.ref t) H') : Told K C1 C2 Q (.ref CI) (some d) H := by
  refine ⟨CI, d, itFs w, "InvalidFact", rfl, rfl, hd, T.ex, T.xf, T.no, rfl, ?_⟩
  have e1 : inV (.str "InvalidFact") [.str "InvalidName", .str "InvalidNumber"] = false := by decide +kernel
  have e2 : inV (.str "InvalidFact") [.str "InvalidText", .str "WrongKind", .str "InvalidBlank"] = false := by decide +kernel
  have e3 : inV (.str "InvalidFact") [.str "NameTaken", .str "InvalidWitness", .str "UnknownName"] = false := by decide +kernel
  have e4 : decide (V.str "InvalidFact" = V.str "TooLarge") = false := by decide +kernel
  unfold fieldF otherF
  rw [e1, if_neg Bool.false_ne_true, e2, if_neg Bool.false_ne_true, e3, if_neg Bool.false_ne_true, e4, if_neg Bool.false_ne_true, if_pos (decide_eq_true rfl)]
  exact ⟨.str w, rfl, fun t H2 ht s2 => k t H2 ht s2⟩
/-! ### the sixteen lambdas -/
abbrev RADD : R2 := rI0 fun i j => .int (i + j)
def tl0 (CR CU CI : Addr) (E : XK) : TE := tMakeK CU 1 (["mirror"] : List Str).length (spUInit CR CU CI) (fun vs zs => vs ++ ((zs.drop 0).take 1 ++ ((([.int 0, .non, .non] : List V).drop 0).take 1 ++ ((([.int 0, .non, .non] : List V).drop 1).take 1 ++ ((([.int 0, .non, .non] : List V).drop 2).take 1))))) E (tCons (tVar 2) tNil) (tCons (tVar 2) tNil)
def tl1 (CR CU CI : Addr) (E : XK) : TE := tMakeK CU 1 (["mirror", "degree"] : List Str).length (spUInit CR CU CI) (fun vs zs => vs ++ ((zs.drop 0).take 1 ++ ((([.int 0, .non] : List V).drop 0).take 1 ++ ((zs.drop 1).take 1 ++ ((([.int 0, .non] : List V).drop 1).take 1))))) E (tCons (tC (.int 2)) tNil) (tCons (tC (.str "even")) (tCons (tC (.int 1)) tNil))
def tl2 (CR CU CI : Addr) (E : XK) : TE := tMakeK CU 0 (["mirror", "centre"] : List Str).length (spUInit CR CU CI) (fun vs zs => vs ++ ([V.int 1] ++ ((zs.drop 0).take 1 ++ ((zs.drop 1).take 1 ++ ((([.non, .non] : List V).drop 0).take 1 ++ ((([.non, .non] : List V).drop 1).take 1)))))) E tNil (tCons (tVar 2) (tCons (tC .non) tNil))
def tl3 (CR CU CI : Addr) (E : XK) : TE := tMakeK CU 0 (["mirror", "centre", "degree"] : List Str).length (spUInit CR CU CI) (fun vs zs => vs ++ ([V.int 1] ++ ((zs.drop 0).take 1 ++ ((zs.drop 1).take 1 ++ ((zs.drop 2).take 1 ++ ((([.non] : List V).drop 0).take 1)))))) E tNil (tCons (tC (.str "odd")) (tCons (tC (.str "0")) (tCons (tVar 2) tNil)))
def tl4 (CR CU CI : Addr) (E : XK) : TE := tMakeK CU 0 (["centre"] : List Str).length (spUInit CR CU CI) (fun vs zs => vs ++ ([V.int 1] ++ ((([.non, .non, .non] : List V).drop 0).take 1 ++ ((zs.drop 0).take 1 ++ ((([.non, .non, .non] : List V).drop 1).take 1 ++ ((([.non, .non, .non] : List V).drop 2).take 1)))))) E tNil (tCons (tOp RADD (tC (.int 1)) (tCall spPull [] E0 (tCons (tVar 1) (tCons (tC (.int 5)) tNil)))) tNil)
def tl5 (CR CU CI : Addr) (E : XK) : TE := tMakeK CU 1 (["centre", "swap"] : List Str).length (spUInit CR CU CI) (fun vs zs => vs ++ ((([.non, .non] : List V).drop 0).take 1 ++ ((zs.drop 0).take 1 ++ ((([.non, .non] : List V).drop 1).take 1 ++ ((zs.drop 1).take 1))))) E (tCons (tC (.int 2)) tNil) (tCons (tMake CR (spRInit CR) [] E0 (tCons (tC (.int 1)) (tCons (tC (.int 3)) tNil))) (tCons (tVar 2) tNil))
def tl6 (CR CU CI : Addr) (E : XK) : TE := tMakeK CU 0 (["degree", "swap"] : List Str).length (spUInit CR CU CI) (fun vs zs => vs ++ ([V.int 1] ++ ((([.non, .int 0] : List V).drop 0).take 1 ++ ((([.non, .int 0] : List V).drop 1).take 1 ++ ((zs.drop 0).take 1 ++ ((zs.drop 1).take 1)))))) E tNil (tCons (tVar 2) (tCons (tC (.str "same")) tNil))
def tl7 (CR CU CI : Addr) (E : XK) : TE := tMakeK CU 1 (["degree", "swap"] : List Str).length (spUInit CR CU CI) (fun vs zs => vs ++ ((([.non, .int 0] : List V).drop 0).take 1 ++ ((([.non, .int 0] : List V).drop 1).take 1 ++ ((zs.drop 0).take 1 ++ ((zs.drop 1).take 1))))) E (tCons (tC (.int 2)) tNil) (tCons (tC (.int 2)) (tCons (tC (.str "minus")) tNil))
def tl8 (CR CU CI : Addr) (E : XK) : TE := tMakeK CU 1 (["swap"] : List Str).length (spUInit CR CU CI) (fun vs zs => vs ++ ((([.non, .int 0, .non] : List V).drop 0).take 1 ++ ((([.non, .int 0, .non] : List V).drop 1).take 1 ++ ((([.non, .int 0, .non] : List V).drop 2).take 1 ++ ((zs.drop 0).take 1))))) E (tCons (tC (.int 1)) tNil) (tCons (tC (.str "minus")) tNil)
def tl9 (CR CU CI : Addr) (E : XK) : TE := tMakeK CU 1 (["swap"] : List Str).length (spUInit CR CU CI) (fun vs zs => vs ++ ((([.non, .int 0, .non] : List V).drop 0).take 1 ++ ((([.non, .int 0, .non] : List V).drop 1).take 1 ++ ((([.non, .int 0, .non] : List V).drop 2).take 1 ++ ((zs.drop 0).take 1))))) E (tCons (tC (.int 2)) tNil) (tCons (tVar 2) tNil)
def tl10 (CR CU CI : Addr) (E : XK) : TE := tMake CU (spUInit CR CU CI) [.non, .int 0, .non, .non] E (tCons (tC (.int 3)) tNil)
def tl11 (CR CU CI : Addr) (E : XK) : TE := tMakeK CU 0 (["mirror", "centre"] : List Str).length (spUInit CR CU CI) (fun vs zs => vs ++ ([V.int 1] ++ ((zs.drop 0).take 1 ++ ((zs.drop 1).take 1 ++ ((([.non, .non] : List V).drop 0).take 1 ++ ((([.non, .non] : List V).drop 1).take 1)))))) E tNil (tCons (tC (.str "even")) (tCons (tC (.bl true)) tNil))
def tl12 (CR CU CI : Addr) (E : XK) : TE := tMakeK CU 0 (["degree"] : List Str).length (spUInit CR CU CI) (fun vs zs => vs ++ ([V.int 1] ++ ((([.non, .int 0, .non] : List V).drop 0).take 1 ++ ((([.non, .int 0, .non] : List V).drop 1).take 1 ++ ((zs.drop 0).take 1 ++ ((([.non, .int 0, .non] : List V).drop 2).take 1)))))) E tNil (tCons (tC (.int 4)) tNil)
def tl13 (CR CU CI : Addr) (E : XK) : TE := tMake CU (spUInit CR CU CI) [.non, .int 0, .non, .non] E (tCons (tC (.int 0)) tNil)
def tl14 (CR CU CI : Addr) (E : XK) : TE := tMakeK CU 0 (["mirror"] : List Str).length (spUInit CR CU CI) (fun vs zs => vs ++ ([V.int 1] ++ ((zs.drop 0).take 1 ++ ((([.int 0, .non, .non] : List V).drop 0).take 1 ++ ((([.int 0, .non, .non] : List V).drop 1).take 1 ++ ((([.int 0, .non, .non] : List V).drop 2).take 1)))))) E tNil (tCons (tC (.str "same")) tNil)
def tl15 (CR CU CI : Addr) (E : XK) : TE := tMakeK CU 1 (["swap"] : List Str).length (spUInit CR CU CI) (fun vs zs => vs ++ ((([.non, .int 0, .non] : List V).drop 0).take 1 ++ ((([.non, .int 0, .non] : List V).drop 1).take 1 ++ ((([.non, .int 0, .non] : List V).drop 2).take 1 ++ ((zs.drop 0).take 1))))) E (tCons (tC (.int 2)) tNil) (tCons (tC (.str "even")) tNil)
def elts : List Expr := match List.getD (defBody sLaw) 2 (Stmt.Pass ⟨0, 0, 0, 0⟩) with
  | Stmt.Assign _ (.List es _) _ => es
  | _ => []
def lamE (i : Nat) : Expr := match List.getD elts i (Expr.Constant .none 0 ⟨0, 0, 0, 0⟩) with
  | Expr.Tuple (e :: _) _ _ => e
  | e => e
def lamPa (i : Nat) : Arguments := match lamE i with
  | .Lambda p _ _ _ => p
  | _ => defArgs sLaw
def lamBo (i : Nat) : Expr := match lamE i with
  | .Lambda _ b _ _ => b
  | e => e
def lamSc (i : Nat) : Scope := match lamE i with
  | .Lambda _ _ s _ => s
  | _ => defScope sLaw
def dsL (CR CU CI : Addr) : List LamD := [⟨lamPa 0, lamBo 0, lamSc 0, tl0 CR CU CI⟩, ⟨lamPa 1, lamBo 1, lamSc 1, tl1 CR CU CI⟩, ⟨lamPa 2, lamBo 2, lamSc 2, tl2 CR CU CI⟩, ⟨lamPa 3, lamBo 3, lamSc 3, tl3 CR CU CI⟩, ⟨lamPa 4, lamBo 4, lamSc 4, tl4 CR CU CI⟩, ⟨lamPa 5, lamBo 5, lamSc 5, tl5 CR CU CI⟩, ⟨lamPa 6, lamBo 6, lamSc 6, tl6 CR CU CI⟩, ⟨lamPa 7, lamBo 7, lamSc 7, tl7 CR CU CI⟩, ⟨lamPa 8, lamBo 8, lamSc 8, tl8 CR CU CI⟩, ⟨lamPa 9, lamBo 9, lamSc 9, tl9 CR CU CI⟩, ⟨lamPa 10, lamBo 10, lamSc 10, tl10 CR CU CI⟩, ⟨lamPa 11, lamBo 11, lamSc 11, tl11 CR CU CI⟩, ⟨lamPa 12, lamBo 12, lamSc 12, tl12 CR CU CI⟩, ⟨lamPa 13, lamBo 13, lamSc 13, tl13 CR CU CI⟩, ⟨lamPa 14, lamBo 14, lamSc 14, tl14 CR CU CI⟩, ⟨lamPa 15, lamBo 15, lamSc 15, tl15 CR CU CI⟩]
def dsP (CR CU CI : Addr) : List (LamD × Str) := [(⟨lamPa 0, lamBo 0, lamSc 0, tl0 CR CU CI⟩, "arity"), (⟨lamPa 1, lamBo 1, lamSc 1, tl1 CR CU CI⟩, "mirror"), (⟨lamPa 2, lamBo 2, lamSc 2, tl2 CR CU CI⟩, "mirror"), (⟨lamPa 3, lamBo 3, lamSc 3, tl3 CR CU CI⟩, "centre"), (⟨lamPa 4, lamBo 4, lamSc 4, tl4 CR CU CI⟩, "centre"), (⟨lamPa 5, lamBo 5, lamSc 5, tl5 CR CU CI⟩, "centre"), (⟨lamPa 6, lamBo 6, lamSc 6, tl6 CR CU CI⟩, "degree"), (⟨lamPa 7, lamBo 7, lamSc 7, tl7 CR CU CI⟩, "degree"), (⟨lamPa 8, lamBo 8, lamSc 8, tl8 CR CU CI⟩, "swap"), (⟨lamPa 9, lamBo 9, lamSc 9, tl9 CR CU CI⟩, "swap"), (⟨lamPa 10, lamBo 10, lamSc 10, tl10 CR CU CI⟩, "arity"), (⟨lamPa 11, lamBo 11, lamSc 11, tl11 CR CU CI⟩, "centre"), (⟨lamPa 12, lamBo 12, lamSc 12, tl12 CR CU CI⟩, "degree"), (⟨lamPa 13, lamBo 13, lamSc 13, tl13 CR CU CI⟩, "arity"), (⟨lamPa 14, lamBo 14, lamSc 14, tl14 CR CU CI⟩, "mirror"), (⟨lamPa 15, lamBo 15, lamSc 15, tl15 CR CU CI⟩, "swap")]
section
variable {CR CU CI : Addr}
theorem lr0 {σ : L2.St} {H : Hp} {Q : VK} {E : XK} {b : Addr} {n : Nat} {v0 : V} {a0 : AV} (cx : CxL CR σ H b n v0 a0) (k : FlyF CI b n "arity" H E) : tl0 CR CU CI E σ H Q := by
  refine ⟨_, cx.c2, _, cx.c2, rfl, rfl, fun x dx nx nd ne => ?_⟩
  exact init_raise (a := a0) (m := a0) (c := (.int 0)) (d := .non) (s := .non) nx nd cx.more (fun _ _ e _ => e) ⟨cx.av, cx.av, rfl, rfl, rfl, noR_odd cx.od, noR_odd cx.od, rfl, rfl, rfl⟩ (odd_all (fun a0 => fault a0 a0 (.int 0) .non .non) "arity" (by decide +kernel) cx.od) k
theorem lr1 {σ : L2.St} {H : Hp} {Q : VK} {E : XK} {b : Addr} {n : Nat} {v0 : V} {a0 : AV} (cx : CxL CR σ H b n v0 a0) (k : FlyF CI b n "mirror" H E) : tl1 CR CU CI E σ H Q := by
  refine ⟨rfl, rfl, fun x dx nx nd ne => ?_⟩
  exact init_raise (a := (.int 2)) (m := (.str "even")) (c := (.int 0)) (d := (.int 1)) (s := .non) nx nd cx.more (fun _ _ e _ => e) ⟨rfl, rfl, rfl, rfl, rfl, rfl, rfl, rfl, rfl, rfl⟩ ((by decide +kernel)) k
theorem lr2 {σ : L2.St} {H : Hp} {Q : VK} {E : XK} {b : Addr} {n : Nat} {v0 : V} {a0 : AV} (cx : CxL CR σ H b n v0 a0) (k : FlyF CI b n "mirror" H E) : tl2 CR CU CI E σ H Q := by
  refine ⟨_, cx.c2, rfl, rfl, fun x dx nx nd ne => ?_⟩
  exact init_raise (a := (.int 1)) (m := a0) (c := .non) (d := .non) (s := .non) nx nd cx.more (fun _ _ e _ => e) ⟨rfl, cx.av, rfl, rfl, rfl, rfl, noR_odd cx.od, rfl, rfl, rfl⟩ (odd_all (fun a0 => fault (.int 1) a0 .non .non .non) "mirror" (by decide +kernel) cx.od) k
theorem lr3 {σ : L2.St} {H : Hp} {Q : VK} {E : XK} {b : Addr} {n : Nat} {v0 : V} {a0 : AV} (cx : CxL CR σ H b n v0 a0) (k : FlyF CI b n "centre" H E) : tl3 CR CU CI E σ H Q := by
  refine ⟨_, cx.c2, rfl, rfl, fun x dx nx nd ne => ?_⟩
  exact init_raise (a := (.int 1)) (m := (.str "odd")) (c := (.str "0")) (d := a0) (s := .non) nx nd cx.more (fun _ _ e _ => e) ⟨rfl, rfl, rfl, cx.av, rfl, rfl, rfl, rfl, noR_odd cx.od, rfl⟩ (odd_all (fun a0 => fault (.int 1) (.str "odd") (.str "0") a0 .non) "centre" (by decide +kernel) cx.od) k
theorem lr4 {σ : L2.St} {H : Hp} {Q : VK} {E : XK} {b : Addr} {n : Nat} {v0 : V} {a0 : AV} (cx : CxL CR σ H b n v0 a0) (k : FlyF CI b n "centre" H E) : tl4 CR CU CI E σ H Q := by
  obtain ⟨ys, hb⟩ := cx.bag.lst
  refine ⟨_, cx.c1, b, 5, n, rfl, by decide, by decide, cx.bag, cx.le, fun r H1 h0 h5 B1 f1 => ⟨_, _, rfl, rfl, rfl, rfl, fun x dx nx nd ne => ?_⟩⟩
  exact init_raise (a := .int 1) (m := .non) (c := .int (1 + r)) (d := .non) (s := .non) nx nd B1 f1 ⟨rfl, rfl, rfl, rfl, rfl, rfl, rfl, rfl, rfl, rfl⟩ (pull_fault h0 h5) k
theorem lr5 {σ : L2.St} {H : Hp} {Q : VK} {E : XK} {b : Addr} {n : Nat} {v0 : V} {a0 : AV} (cx : CxL CR σ H b n v0 a0) (k : FlyF CI b n "centre" H E) : tl5 CR CU CI E σ H Q := by
  refine fun p dp np npd npe => ratio_made (t := 1) (b := 3) (t' := 1) (b' := 3) np npd (by decide) (by decide) (by decide +kernel) (by decide +kernel) fun H1 ra s1 => ⟨_, cx.c2, rfl, rfl, fun x dx nx nd ne => ?_⟩
  have cx := cx.same s1
  exact init_raise (a := (.int 2)) (m := .non) (c := (.rat 1 3)) (d := .non) (s := a0) nx nd cx.more (sameBut s1) ⟨rfl, rfl, ⟨p, rfl, ra⟩, rfl, cx.av, rfl, rfl, rfl, rfl, noR_odd cx.od⟩ (odd_all (fun a0 => fault (.int 2) .non (.rat 1 3) .non a0) "centre" (by decide +kernel) cx.od) fun d H2 B2 f2 h2 => k d H2 B2 f2 h2
theorem lr6 {σ : L2.St} {H : Hp} {Q : VK} {E : XK} {b : Addr} {n : Nat} {v0 : V} {a0 : AV} (cx : CxL CR σ H b n v0 a0) (k : FlyF CI b n "degree" H E) : tl6 CR CU CI E σ H Q := by
  refine ⟨_, cx.c2, rfl, rfl, fun x dx nx nd ne => ?_⟩
  exact init_raise (a := (.int 1)) (m := .non) (c := (.int 0)) (d := a0) (s := (.str "same")) nx nd cx.more (fun _ _ e _ => e) ⟨rfl, rfl, rfl, cx.av, rfl, rfl, rfl, rfl, noR_odd cx.od, rfl⟩ (odd_all (fun a0 => fault (.int 1) .non (.int 0) a0 (.str "same")) "degree" (by decide +kernel) cx.od) k
theorem lr7 {σ : L2.St} {H : Hp} {Q : VK} {E : XK} {b : Addr} {n : Nat} {v0 : V} {a0 : AV} (cx : CxL CR σ H b n v0 a0) (k : FlyF CI b n "degree" H E) : tl7 CR CU CI E σ H Q := by
  refine ⟨rfl, rfl, fun x dx nx nd ne => ?_⟩
  exact init_raise (a := (.int 2)) (m := .non) (c := (.int 0)) (d := (.int 2)) (s := (.str "minus")) nx nd cx.more (fun _ _ e _ => e) ⟨rfl, rfl, rfl, rfl, rfl, rfl, rfl, rfl, rfl, rfl⟩ ((by decide +kernel)) k
theorem lr8 {σ : L2.St} {H : Hp} {Q : VK} {E : XK} {b : Addr} {n : Nat} {v0 : V} {a0 : AV} (cx : CxL CR σ H b n v0 a0) (k : FlyF CI b n "swap" H E) : tl8 CR CU CI E σ H Q := by
  refine ⟨rfl, rfl, fun x dx nx nd ne => ?_⟩
  exact init_raise (a := (.int 1)) (m := .non) (c := (.int 0)) (d := .non) (s := (.str "minus")) nx nd cx.more (fun _ _ e _ => e) ⟨rfl, rfl, rfl, rfl, rfl, rfl, rfl, rfl, rfl, rfl⟩ ((by decide +kernel)) k
theorem lr9 {σ : L2.St} {H : Hp} {Q : VK} {E : XK} {b : Addr} {n : Nat} {v0 : V} {a0 : AV} (cx : CxL CR σ H b n v0 a0) (k : FlyF CI b n "swap" H E) : tl9 CR CU CI E σ H Q := by
  refine ⟨_, cx.c2, rfl, rfl, fun x dx nx nd ne => ?_⟩
  exact init_raise (a := (.int 2)) (m := .non) (c := (.int 0)) (d := .non) (s := a0) nx nd cx.more (fun _ _ e _ => e) ⟨rfl, rfl, rfl, rfl, cx.av, rfl, rfl, rfl, rfl, noR_odd cx.od⟩ (odd_all (fun a0 => fault (.int 2) .non (.int 0) .non a0) "swap" (by decide +kernel) cx.od) k
theorem lr10 {σ : L2.St} {H : Hp} {Q : VK} {E : XK} {b : Addr} {n : Nat} {v0 : V} {a0 : AV} (cx : CxL CR σ H b n v0 a0) (k : FlyF CI b n "arity" H E) : tl10 CR CU CI E σ H Q := by
  refine fun x dx nx nd ne => ?_
  exact init_raise (a := (.int 3)) (m := .non) (c := (.int 0)) (d := .non) (s := .non) nx nd cx.more (fun _ _ e _ => e) ⟨rfl, rfl, rfl, rfl, rfl, rfl, rfl, rfl, rfl, rfl⟩ ((by decide +kernel)) k
theorem lr11 {σ : L2.St} {H : Hp} {Q : VK} {E : XK} {b : Addr} {n : Nat} {v0 : V} {a0 : AV} (cx : CxL CR σ H b n v0 a0) (k : FlyF CI b n "centre" H E) : tl11 CR CU CI E σ H Q := by
  refine ⟨rfl, rfl, fun x dx nx nd ne => ?_⟩
  exact init_raise (a := (.int 1)) (m := (.str "even")) (c := (.bl true)) (d := .non) (s := .non) nx nd cx.more (fun _ _ e _ => e) ⟨rfl, rfl, rfl, rfl, rfl, rfl, rfl, rfl, rfl, rfl⟩ ((by decide +kernel)) k
theorem lr12 {σ : L2.St} {H : Hp} {Q : VK} {E : XK} {b : Addr} {n : Nat} {v0 : V} {a0 : AV} (cx : CxL CR σ H b n v0 a0) (k : FlyF CI b n "degree" H E) : tl12 CR CU CI E σ H Q := by
  refine ⟨rfl, rfl, fun x dx nx nd ne => ?_⟩
  exact init_raise (a := (.int 1)) (m := .non) (c := (.int 0)) (d := (.int 4)) (s := .non) nx nd cx.more (fun _ _ e _ => e) ⟨rfl, rfl, rfl, rfl, rfl, rfl, rfl, rfl, rfl, rfl⟩ ((by decide +kernel)) k
theorem lr13 {σ : L2.St} {H : Hp} {Q : VK} {E : XK} {b : Addr} {n : Nat} {v0 : V} {a0 : AV} (cx : CxL CR σ H b n v0 a0) (k : FlyF CI b n "arity" H E) : tl13 CR CU CI E σ H Q := by
  refine fun x dx nx nd ne => ?_
  exact init_raise (a := (.int 0)) (m := .non) (c := (.int 0)) (d := .non) (s := .non) nx nd cx.more (fun _ _ e _ => e) ⟨rfl, rfl, rfl, rfl, rfl, rfl, rfl, rfl, rfl, rfl⟩ ((by decide +kernel)) k
theorem lr14 {σ : L2.St} {H : Hp} {Q : VK} {E : XK} {b : Addr} {n : Nat} {v0 : V} {a0 : AV} (cx : CxL CR σ H b n v0 a0) (k : FlyF CI b n "mirror" H E) : tl14 CR CU CI E σ H Q := by
  refine ⟨rfl, rfl, fun x dx nx nd ne => ?_⟩
  exact init_raise (a := (.int 1)) (m := (.str "same")) (c := (.int 0)) (d := .non) (s := .non) nx nd cx.more (fun _ _ e _ => e) ⟨rfl, rfl, rfl, rfl, rfl, rfl, rfl, rfl, rfl, rfl⟩ ((by decide +kernel)) k
theorem lr15 {σ : L2.St} {H : Hp} {Q : VK} {E : XK} {b : Addr} {n : Nat} {v0 : V} {a0 : AV} (cx : CxL CR σ H b n v0 a0) (k : FlyF CI b n "swap" H E) : tl15 CR CU CI E σ H Q := by
  refine ⟨rfl, rfl, fun x dx nx nd ne => ?_⟩
  exact init_raise (a := (.int 2)) (m := .non) (c := (.int 0)) (d := .non) (s := (.str "even")) nx nd cx.more (fun _ _ e _ => e) ⟨rfl, rfl, rfl, rfl, rfl, rfl, rfl, rfl, rfl, rfl⟩ ((by decide +kernel)) k
end
end K06

set_option Elab.async false
set_option linter.all false
set_option maxRecDepth 100000
set_option maxHeartbeats 1000000
set_option pp.maxSteps 600
namespace K06
open PySem PySem.Spec PyProof.Rows L2 Ux
abbrev pU : List Str := ["self", "arity", "mirror", "centre", "degree", "swap"]
abbrev kwU : List (Str × V) := [("mirror", .non), ("centre", .int 0), ("degree", .non), ("swap", .non)]
theorem same_list {H H1 : Hp} {D : Addr} {o : HO} (s : Same H H1) (hD : H D = none) : Same H (upd H1 D o) := fun x u e => by
  rw [upd_ne (ne_of_none e hD)]
  exact s x u e
section
variable {K : PySem.W.Frag} {f : Addr} {fd : FuncData} (F : FunD K "__init__" "Unseen.__init__" (defArgs sUInit) (defBody sUInit) (defScope sUInit) [.int 1] kwU f fd)
include F
theorem u_binds1 : ∃ ds, Vals [V.non, .int 0, .non, .non] ds ∧ Binds K fd pU ds :=
  F.binds 2 1 (by simp) rfl (fun T D doc pm an cdv ct us its ks h1 h2 h3 => match us, its, ks, h1, h2, h3 with | [_, _], [_], [_, _, _, _], _, _, _ => ⟨_, rfl, _, _, _, _, _, _, rfl, rfl, _, _, _, _, _, _, rfl, rfl, _, _, _, _, _, _, rfl, rfl, _, _, _, _, _, _, rfl, rfl, rfl⟩) (by simp)
theorem u_kPm : ∃ its mv : List Value, KBn K fd pU 2 ["mirror"] (fun us ws => (fun {α : Type} (a b m c : List α) => a ++ ((c.drop 0).take 1 ++ ((m.drop 0).take 1 ++ ((m.drop 1).take 1 ++ ((m.drop 2).take 1))))) us its mv ws) (fun vs zs => vs ++ ((zs.drop 0).take 1 ++ ((([.int 0, .non, .non] : List V).drop 0).take 1 ++ ((([.int 0, .non, .non] : List V).drop 1).take 1 ++ ((([.int 0, .non, .non] : List V).drop 2).take 1))))) :=
  F.kbinds 2 ["mirror"] [("centre", .int 0), ("degree", .non), ("swap", .non)] (fun {α : Type} (a b m c : List α) => a ++ ((c.drop 0).take 1 ++ ((m.drop 0).take 1 ++ ((m.drop 1).take 1 ++ ((m.drop 2).take 1))))) (by simp) (by simp) (fun q hq => by simp only [List.mem_cons, List.mem_nil_iff, or_false] at hq; rcases hq with rfl | rfl | rfl <;> simp) (fun a b m c => a.append (((c.drop 0).take 1).append (((m.drop 0).take 1).append (((m.drop 1).take 1).append ((m.drop 2).take 1)))))
    fun T D doc pm an cdv ct us its mv ws h1 h2 h3 h4 => match us, its, mv, ws, h1, h2, h3, h4 with | [_, _], [_], [_, _, _], [_], _, _, _, _ => ⟨_, rfl, _, _, _, _, _, _, rfl, rfl, _, _, _, _, _, _, rfl, rfl, _, _, _, _, _, _, rfl, rfl, rfl⟩
theorem u_kPmd : ∃ its mv : List Value, KBn K fd pU 2 ["mirror", "degree"] (fun us ws => (fun {α : Type} (a b m c : List α) => a ++ ((c.drop 0).take 1 ++ ((m.drop 0).take 1 ++ ((c.drop 1).take 1 ++ ((m.drop 1).take 1))))) us its mv ws) (fun vs zs => vs ++ ((zs.drop 0).take 1 ++ ((([.int 0, .non] : List V).drop 0).take 1 ++ ((zs.drop 1).take 1 ++ ((([.int 0, .non] : List V).drop 1).take 1))))) :=
  F.kbinds 2 ["mirror", "degree"] [("centre", .int 0), ("swap", .non)] (fun {α : Type} (a b m c : List α) => a ++ ((c.drop 0).take 1 ++ ((m.drop 0).take 1 ++ ((c.drop 1).take 1 ++ ((m.drop 1).take 1))))) (by simp) (by simp) (fun q hq => by simp only [List.mem_cons, List.mem_nil_iff, or_false] at hq; rcases hq with rfl | rfl <;> simp) (fun a b m c => a.append (((c.drop 0).take 1).append (((m.drop 0).take 1).append (((c.drop 1).take 1).append ((m.drop 1).take 1)))))
    fun T D doc pm an cdv ct us its mv ws h1 h2 h3 h4 => match us, its, mv, ws, h1, h2, h3, h4 with | [_, _], [_], [_, _], [_, _], _, _, _, _ => ⟨_, rfl, _, _, _, _, _, _, rfl, rfl, _, _, _, _, _, _, rfl, rfl, rfl⟩
theorem u_kZmc : ∃ its mv : List Value, KBn K fd pU 1 ["mirror", "centre"] (fun us ws => (fun {α : Type} (a b m c : List α) => a ++ (b ++ ((c.drop 0).take 1 ++ ((c.drop 1).take 1 ++ ((m.drop 0).take 1 ++ ((m.drop 1).take 1)))))) us its mv ws) (fun vs zs => vs ++ ([V.int 1] ++ ((zs.drop 0).take 1 ++ ((zs.drop 1).take 1 ++ ((([.non, .non] : List V).drop 0).take 1 ++ ((([.non, .non] : List V).drop 1).take 1)))))) :=
  F.kbinds 1 ["mirror", "centre"] [("degree", .non), ("swap", .non)] (fun {α : Type} (a b m c : List α) => a ++ (b ++ ((c.drop 0).take 1 ++ ((c.drop 1).take 1 ++ ((m.drop 0).take 1 ++ ((m.drop 1).take 1)))))) (by simp) (by simp) (fun q hq => by simp only [List.mem_cons, List.mem_nil_iff, or_false] at hq; rcases hq with rfl | rfl <;> simp) (fun a b m c => a.append (b.append (((c.drop 0).take 1).append (((c.drop 1).take 1).append (((m.drop 0).take 1).append ((m.drop 1).take 1))))))
    fun T D doc pm an cdv ct us its mv ws h1 h2 h3 h4 => match us, its, mv, ws, h1, h2, h3, h4 with | [_], [_], [_, _], [_, _], _, _, _, _ => ⟨_, rfl, _, _, _, _, _, _, rfl, rfl, _, _, _, _, _, _, rfl, rfl, rfl⟩
theorem u_kZmcd : ∃ its mv : List Value, KBn K fd pU 1 ["mirror", "centre", "degree"] (fun us ws => (fun {α : Type} (a b m c : List α) => a ++ (b ++ ((c.drop 0).take 1 ++ ((c.drop 1).take 1 ++ ((c.drop 2).take 1 ++ ((m.drop 0).take 1)))))) us its mv ws) (fun vs zs => vs ++ ([V.int 1] ++ ((zs.drop 0).take 1 ++ ((zs.drop 1).take 1 ++ ((zs.drop 2).take 1 ++ ((([.non] : List V).drop 0).take 1)))))) :=
  F.kbinds 1 ["mirror", "centre", "degree"] [("swap", .non)] (fun {α : Type} (a b m c : List α) => a ++ (b ++ ((c.drop 0).take 1 ++ ((c.drop 1).take 1 ++ ((c.drop 2).take 1 ++ ((m.drop 0).take 1)))))) (by simp) (by simp) (fun q hq => by simp only [List.mem_cons, List.mem_nil_iff, or_false] at hq; rcases hq with rfl <;> simp) (fun a b m c => a.append (b.append (((c.drop 0).take 1).append (((c.drop 1).take 1).append (((c.drop 2).take 1).append ((m.drop 0).take 1))))))
    fun T D doc pm an cdv ct us its mv ws h1 h2 h3 h4 => match us, its, mv, ws, h1, h2, h3, h4 with | [_], [_], [_], [_, _, _], _, _, _, _ => ⟨_, rfl, _, _, _, _, _, _, rfl, rfl, rfl⟩
theorem u_kZc : ∃ its mv : List Value, KBn K fd pU 1 ["centre"] (fun us ws => (fun {α : Type} (a b m c : List α) => a ++ (b ++ ((m.drop 0).take 1 ++ ((c.drop 0).take 1 ++ ((m.drop 1).take 1 ++ ((m.drop 2).take 1)))))) us its mv ws) (fun vs zs => vs ++ ([V.int 1] ++ ((([.non, .non, .non] : List V).drop 0).take 1 ++ ((zs.drop 0).take 1 ++ ((([.non, .non, .non] : List V).drop 1).take 1 ++ ((([.non, .non, .non] : List V).drop 2).take 1)))))) :=
  F.kbinds 1 ["centre"] [("mirror", .non), ("degree", .non), ("swap", .non)] (fun {α : Type} (a b m c : List α) => a ++ (b ++ ((m.drop 0).take 1 ++ ((c.drop 0).take 1 ++ ((m.drop 1).take 1 ++ ((m.drop 2).take 1)))))) (by simp) (by simp) (fun q hq => by simp only [List.mem_cons, List.mem_nil_iff, or_false] at hq; rcases hq with rfl | rfl | rfl <;> simp) (fun a b m c => a.append (b.append (((m.drop 0).take 1).append (((c.drop 0).take 1).append (((m.drop 1).take 1).append ((m.drop 2).take 1))))))
    fun T D doc pm an cdv ct us its mv ws h1 h2 h3 h4 => match us, its, mv, ws, h1, h2, h3, h4 with | [_], [_], [_, _, _], [_], _, _, _, _ => ⟨_, rfl, _, _, _, _, _, _, rfl, rfl, _, _, _, _, _, _, rfl, rfl, _, _, _, _, _, _, rfl, rfl, rfl⟩
theorem u_kPcs : ∃ its mv : List Value, KBn K fd pU 2 ["centre", "swap"] (fun us ws => (fun {α : Type} (a b m c : List α) => a ++ ((m.drop 0).take 1 ++ ((c.drop 0).take 1 ++ ((m.drop 1).take 1 ++ ((c.drop 1).take 1))))) us its mv ws) (fun vs zs => vs ++ ((([.non, .non] : List V).drop 0).take 1 ++ ((zs.drop 0).take 1 ++ ((([.non, .non] : List V).drop 1).take 1 ++ ((zs.drop 1).take 1))))) :=
  F.kbinds 2 ["centre", "swap"] [("mirror", .non), ("degree", .non)] (fun {α : Type} (a b m c : List α) => a ++ ((m.drop 0).take 1 ++ ((c.drop 0).take 1 ++ ((m.drop 1).take 1 ++ ((c.drop 1).take 1))))) (by simp) (by simp) (fun q hq => by simp only [List.mem_cons, List.mem_nil_iff, or_false] at hq; rcases hq with rfl | rfl <;> simp) (fun a b m c => a.append (((m.drop 0).take 1).append (((c.drop 0).take 1).append (((m.drop 1).take 1).append ((c.drop 1).take 1)))))
    fun T D doc pm an cdv ct us its mv ws h1 h2 h3 h4 => match us, its, mv, ws, h1, h2, h3, h4 with | [_, _], [_], [_, _], [_, _], _, _, _, _ => ⟨_, rfl, _, _, _, _, _, _, rfl, rfl, _, _, _, _, _, _, rfl, rfl, rfl⟩
theorem u_kZds : ∃ its mv : List Value, KBn K fd pU 1 ["degree", "swap"] (fun us ws => (fun {α : Type} (a b m c : List α) => a ++ (b ++ ((m.drop 0).take 1 ++ ((m.drop 1).take 1 ++ ((c.drop 0).take 1 ++ ((c.drop 1).take 1)))))) us its mv ws) (fun vs zs => vs ++ ([V.int 1] ++ ((([.non, .int 0] : List V).drop 0).take 1 ++ ((([.non, .int 0] : List V).drop 1).take 1 ++ ((zs.drop 0).take 1 ++ ((zs.drop 1).take 1)))))) :=
  F.kbinds 1 ["degree", "swap"] [("mirror", .non), ("centre", .int 0)] (fun {α : Type} (a b m c : List α) => a ++ (b ++ ((m.drop 0).take 1 ++ ((m.drop 1).take 1 ++ ((c.drop 0).take 1 ++ ((c.drop 1).take 1)))))) (by simp) (by simp) (fun q hq => by simp only [List.mem_cons, List.mem_nil_iff, or_false] at hq; rcases hq with rfl | rfl <;> simp) (fun a b m c => a.append (b.append (((m.drop 0).take 1).append (((m.drop 1).take 1).append (((c.drop 0).take 1).append ((c.drop 1).take 1))))))
    fun T D doc pm an cdv ct us its mv ws h1 h2 h3 h4 => match us, its, mv, ws, h1, h2, h3, h4 with | [_], [_], [_, _], [_, _], _, _, _, _ => ⟨_, rfl, _, _, _, _, _, _, rfl, rfl, _, _, _, _, _, _, rfl, rfl, rfl⟩
theorem u_kPds : ∃ its mv : List Value, KBn K fd pU 2 ["degree", "swap"] (fun us ws => (fun {α : Type} (a b m c : List α) => a ++ ((m.drop 0).take 1 ++ ((m.drop 1).take 1 ++ ((c.drop 0).take 1 ++ ((c.drop 1).take 1))))) us its mv ws) (fun vs zs => vs ++ ((([.non, .int 0] : List V).drop 0).take 1 ++ ((([.non, .int 0] : List V).drop 1).take 1 ++ ((zs.drop 0).take 1 ++ ((zs.drop 1).take 1))))) :=
  F.kbinds 2 ["degree", "swap"] [("mirror", .non), ("centre", .int 0)] (fun {α : Type} (a b m c : List α) => a ++ ((m.drop 0).take 1 ++ ((m.drop 1).take 1 ++ ((c.drop 0).take 1 ++ ((c.drop 1).take 1))))) (by simp) (by simp) (fun q hq => by simp only [List.mem_cons, List.mem_nil_iff, or_false] at hq; rcases hq with rfl | rfl <;> simp) (fun a b m c => a.append (((m.drop 0).take 1).append (((m.drop 1).take 1).append (((c.drop 0).take 1).append ((c.drop 1).take 1)))))
    fun T D doc pm an cdv ct us its mv ws h1 h2 h3 h4 => match us, its, mv, ws, h1, h2, h3, h4 with | [_, _], [_], [_, _], [_, _], _, _, _, _ => ⟨_, rfl, _, _, _, _, _, _, rfl, rfl, _, _, _, _, _, _, rfl, rfl, rfl⟩
theorem u_kPs : ∃ its mv : List Value, KBn K fd pU 2 ["swap"] (fun us ws => (fun {α : Type} (a b m c : List α) => a ++ ((m.drop 0).take 1 ++ ((m.drop 1).take 1 ++ ((m.drop 2).take 1 ++ ((c.drop 0).take 1))))) us its mv ws) (fun vs zs => vs ++ ((([.non, .int 0, .non] : List V).drop 0).take 1 ++ ((([.non, .int 0, .non] : List V).drop 1).take 1 ++ ((([.non, .int 0, .non] : List V).drop 2).take 1 ++ ((zs.drop 0).take 1))))) :=
  F.kbinds 2 ["swap"] [("mirror", .non), ("centre", .int 0), ("degree", .non)] (fun {α : Type} (a b m c : List α) => a ++ ((m.drop 0).take 1 ++ ((m.drop 1).take 1 ++ ((m.drop 2).take 1 ++ ((c.drop 0).take 1))))) (by simp) (by simp) (fun q hq => by simp only [List.mem_cons, List.mem_nil_iff, or_false] at hq; rcases hq with rfl | rfl | rfl <;> simp) (fun a b m c => a.append (((m.drop 0).take 1).append (((m.drop 1).take 1).append (((m.drop 2).take 1).append ((c.drop 0).take 1)))))
    fun T D doc pm an cdv ct us its mv ws h1 h2 h3 h4 => match us, its, mv, ws, h1, h2, h3, h4 with | [_, _], [_], [_, _, _], [_], _, _, _, _ => ⟨_, rfl, _, _, _, _, _, _, rfl, rfl, _, _, _, _, _, _, rfl, rfl, _, _, _, _, _, _, rfl, rfl, rfl⟩
theorem u_kZd : ∃ its mv : List Value, KBn K fd pU 1 ["degree"] (fun us ws => (fun {α : Type} (a b m c : List α) => a ++ (b ++ ((m.drop 0).take 1 ++ ((m.drop 1).take 1 ++ ((c.drop 0).take 1 ++ ((m.drop 2).take 1)))))) us its mv ws) (fun vs zs => vs ++ ([V.int 1] ++ ((([.non, .int 0, .non] : List V).drop 0).take 1 ++ ((([.non, .int 0, .non] : List V).drop 1).take 1 ++ ((zs.drop 0).take 1 ++ ((([.non, .int 0, .non] : List V).drop 2).take 1)))))) :=
  F.kbinds 1 ["degree"] [("mirror", .non), ("centre", .int 0), ("swap", .non)] (fun {α : Type} (a b m c : List α) => a ++ (b ++ ((m.drop 0).take 1 ++ ((m.drop 1).take 1 ++ ((c.drop 0).take 1 ++ ((m.drop 2).take 1)))))) (by simp) (by simp) (fun q hq => by simp only [List.mem_cons, List.mem_nil_iff, or_false] at hq; rcases hq with rfl | rfl | rfl <;> simp) (fun a b m c => a.append (b.append (((m.drop 0).take 1).append (((m.drop 1).take 1).append (((c.drop 0).take 1).append ((m.drop 2).take 1))))))
    fun T D doc pm an cdv ct us its mv ws h1 h2 h3 h4 => match us, its, mv, ws, h1, h2, h3, h4 with | [_], [_], [_, _, _], [_], _, _, _, _ => ⟨_, rfl, _, _, _, _, _, _, rfl, rfl, _, _, _, _, _, _, rfl, rfl, _, _, _, _, _, _, rfl, rfl, rfl⟩
theorem u_kZm : ∃ its mv : List Value, KBn K fd pU 1 ["mirror"] (fun us ws => (fun {α : Type} (a b m c : List α) => a ++ (b ++ ((c.drop 0).take 1 ++ ((m.drop 0).take 1 ++ ((m.drop 1).take 1 ++ ((m.drop 2).take 1)))))) us its mv ws) (fun vs zs => vs ++ ([V.int 1] ++ ((zs.drop 0).take 1 ++ ((([.int 0, .non, .non] : List V).drop 0).take 1 ++ ((([.int 0, .non, .non] : List V).drop 1).take 1 ++ ((([.int 0, .non, .non] : List V).drop 2).take 1)))))) :=
  F.kbinds 1 ["mirror"] [("centre", .int 0), ("degree", .non), ("swap", .non)] (fun {α : Type} (a b m c : List α) => a ++ (b ++ ((c.drop 0).take 1 ++ ((m.drop 0).take 1 ++ ((m.drop 1).take 1 ++ ((m.drop 2).take 1)))))) (by simp) (by simp) (fun q hq => by simp only [List.mem_cons, List.mem_nil_iff, or_false] at hq; rcases hq with rfl | rfl | rfl <;> simp) (fun a b m c => a.append (b.append (((c.drop 0).take 1).append (((m.drop 0).take 1).append (((m.drop 1).take 1).append ((m.drop 2).take 1))))))
    fun T D doc pm an cdv ct us its mv ws h1 h2 h3 h4 => match us, its, mv, ws, h1, h2, h3, h4 with | [_], [_], [_, _, _], [_], _, _, _, _ => ⟨_, rfl, _, _, _, _, _, _, rfl, rfl, _, _, _, _, _, _, rfl, rfl, _, _, _, _, _, _, rfl, rfl, rfl⟩
theorem u_kPcd : ∃ its mv : List Value, KBn K fd pU 2 ["centre", "degree"] (fun us ws => (fun {α : Type} (a b m c : List α) => a ++ ((m.drop 0).take 1 ++ ((c.drop 0).take 1 ++ ((c.drop 1).take 1 ++ ((m.drop 1).take 1))))) us its mv ws) (fun vs zs => vs ++ ((([.non, .non] : List V).drop 0).take 1 ++ ((zs.drop 0).take 1 ++ ((zs.drop 1).take 1 ++ ((([.non, .non] : List V).drop 1).take 1))))) :=
  F.kbinds 2 ["centre", "degree"] [("mirror", .non), ("swap", .non)] (fun {α : Type} (a b m c : List α) => a ++ ((m.drop 0).take 1 ++ ((c.drop 0).take 1 ++ ((c.drop 1).take 1 ++ ((m.drop 1).take 1))))) (by simp) (by simp) (fun q hq => by simp only [List.mem_cons, List.mem_nil_iff, or_false] at hq; rcases hq with rfl | rfl <;> simp) (fun a b m c => a.append (((m.drop 0).take 1).append (((c.drop 0).take 1).append (((c.drop 1).take 1).append ((m.drop 1).take 1)))))
    fun T D doc pm an cdv ct us its mv ws h1 h2 h3 h4 => match us, its, mv, ws, h1, h2, h3, h4 with | [_, _], [_], [_, _], [_, _], _, _, _, _ => ⟨_, rfl, _, _, _, _, _, _, rfl, rfl, _, _, _, _, _, _, rfl, rfl, rfl⟩
end
theorem lam_all {CR CU CI : Addr} {σ : L2.St} {H : Hp} {Q : VK} {E : XK} {b : Addr} {n : Nat} {v0 : V} {a0 : AV} {d : LamD} {w : Str} : ∀ (k : Nat), (dsP CR CU CI)[k]? = some (d, w) → CxL CR σ H b n v0 a0 → FlyF CI b n w H E → d.t E σ H Q := fun k hd cx fl => match k, hd with
  | 0, hd => by
    obtain ⟨rfl, rfl⟩ := Prod.mk.inj (Option.some.inj hd)
    exact lr0 cx fl
  | 1, hd => by
    obtain ⟨rfl, rfl⟩ := Prod.mk.inj (Option.some.inj hd)
    exact lr1 cx fl
  | 2, hd => by
    obtain ⟨rfl, rfl⟩ := Prod.mk.inj (Option.some.inj hd)
    exact lr2 cx fl
  | 3, hd => by
    obtain ⟨rfl, rfl⟩ := Prod.mk.inj (Option.some.inj hd)
    exact lr3 cx fl
  | 4, hd => by
    obtain ⟨rfl, rfl⟩ := Prod.mk.inj (Option.some.inj hd)
    exact lr4 cx fl
  | 5, hd => by
    obtain ⟨rfl, rfl⟩ := Prod.mk.inj (Option.some.inj hd)
    exact lr5 cx fl
  | 6, hd => by
    obtain ⟨rfl, rfl⟩ := Prod.mk.inj (Option.some.inj hd)
    exact lr6 cx fl
  | 7, hd => by
    obtain ⟨rfl, rfl⟩ := Prod.mk.inj (Option.some.inj hd)
    exact lr7 cx fl
  | 8, hd => by
    obtain ⟨rfl, rfl⟩ := Prod.mk.inj (Option.some.inj hd)
    exact lr8 cx fl
  | 9, hd => by
    obtain ⟨rfl, rfl⟩ := Prod.mk.inj (Option.some.inj hd)
    exact lr9 cx fl
  | 10, hd => by
    obtain ⟨rfl, rfl⟩ := Prod.mk.inj (Option.some.inj hd)
    exact lr10 cx fl
  | 11, hd => by
    obtain ⟨rfl, rfl⟩ := Prod.mk.inj (Option.some.inj hd)
    exact lr11 cx fl
  | 12, hd => by
    obtain ⟨rfl, rfl⟩ := Prod.mk.inj (Option.some.inj hd)
    exact lr12 cx fl
  | 13, hd => by
    obtain ⟨rfl, rfl⟩ := Prod.mk.inj (Option.some.inj hd)
    exact lr13 cx fl
  | 14, hd => by
    obtain ⟨rfl, rfl⟩ := Prod.mk.inj (Option.some.inj hd)
    exact lr14 cx fl
  | 15, hd => by
    obtain ⟨rfl, rfl⟩ := Prod.mk.inj (Option.some.inj hd)
    exact lr15 cx fl
  | _ + 16, hd => nomatch hd
theorem dsL_mem {CR CU CI : Addr} {d : LamD} {w : Str} {k : Nat} (h : (dsP CR CU CI)[k]? = some (d, w)) : d ∈ dsL CR CU CI := by
  show d ∈ (dsP CR CU CI).map Prod.fst
  exact List.mem_map.mpr ⟨(d, w), List.mem_of_getElem? h, rfl⟩
def Fs (CR CU CI : Addr) (cl : List (Str × Addr)) (H : Hp) (b L : Addr) (n : Nat) (v0 : V) : Prop := ∃ (a0 : AV) (ts : List Addr), a0 ∈ odds ∧ IsAV CR H a0 v0 ∧ BagAt H b n ∧ H L = some (.lst (ts.map V.ref)) ∧ Prs cl qn H ts (dsP CR CU CI) ∧ L ≠ b
def fa : FT := ⟨2, none, 0, 1, none, some "minus"⟩
def fb : FT := ⟨1, some "even", -1, 2, some 0, none⟩
def fc : FT := ⟨1, none, 0, 1, some 3, none⟩
theorem ok_fa : FOk fa := ⟨by decide, by decide, by decide, by decide, .inl ⟨rfl, rfl, rfl, .inr (.inr rfl)⟩, fun _ => ⟨rfl, rfl⟩⟩
theorem ok_fb : FOk fb := ⟨by decide, by decide, by decide, by decide, .inr ⟨rfl, rfl, .inr (.inl rfl), .inr ⟨0, rfl, by decide, by decide⟩⟩, fun h => by cases h⟩
theorem ok_fc : FOk fc := ⟨by decide, by decide, by decide, by decide, .inr ⟨rfl, rfl, .inl rfl, .inr ⟨3, rfl, by decide, by decide⟩⟩, fun _ => ⟨rfl, rfl⟩⟩
theorem pa_calls {X : Cx} {CR CU CI c PT f hs : Addr} (TB : LamX.TabB X.base X.mg c PT) (he : X.env = envOfC "law" (defScope sLaw) hs f (.ref c)) : PA X elts (tPairs [(PT, qn)] X.env.cells (X.env.qual ++ "<lambda>") (dsP CR CU CI)) := by
  have hcode : X.env.code = .ref c := by rw [he]; rfl
  have hm : (PT, X.env.qual ++ "<lambda>") ∈ [(PT, qn)] := by rw [he]; exact List.mem_singleton.mpr rfl
  have hu : ∀ p ∈ [(PT, qn)], p.1 = PT → p.2 = X.env.qual ++ "<lambda>" := fun p hp _ => by
    rw [he]
    exact congrArg Prod.snd (List.mem_singleton.mp hp)
  refine pa_cons (pe_tup (pa_cons (pe_lamV (tl0 CR CU CI) TB hcode hm hu (LamX.lamS_by (by rw [he]; rfl)) rfl) (pa_cons pe_str pa_nil))) ?_
  refine pa_cons (pe_tup (pa_cons (pe_lamV (tl1 CR CU CI) TB hcode hm hu (LamX.lamS_by (by rw [he]; rfl)) rfl) (pa_cons pe_str pa_nil))) ?_
  refine pa_cons (pe_tup (pa_cons (pe_lamV (tl2 CR CU CI) TB hcode hm hu (LamX.lamS_by (by rw [he]; rfl)) rfl) (pa_cons pe_str pa_nil))) ?_
  refine pa_cons (pe_tup (pa_cons (pe_lamV (tl3 CR CU CI) TB hcode hm hu (LamX.lamS_by (by rw [he]; rfl)) rfl) (pa_cons pe_str pa_nil))) ?_
  refine pa_cons (pe_tup (pa_cons (pe_lamV (tl4 CR CU CI) TB hcode hm hu (LamX.lamS_by (by rw [he]; rfl)) rfl) (pa_cons pe_str pa_nil))) ?_
  refine pa_cons (pe_tup (pa_cons (pe_lamV (tl5 CR CU CI) TB hcode hm hu (LamX.lamS_by (by rw [he]; rfl)) rfl) (pa_cons pe_str pa_nil))) ?_
  refine pa_cons (pe_tup (pa_cons (pe_lamV (tl6 CR CU CI) TB hcode hm hu (LamX.lamS_by (by rw [he]; rfl)) rfl) (pa_cons pe_str pa_nil))) ?_
  refine pa_cons (pe_tup (pa_cons (pe_lamV (tl7 CR CU CI) TB hcode hm hu (LamX.lamS_by (by rw [he]; rfl)) rfl) (pa_cons pe_str pa_nil))) ?_
  refine pa_cons (pe_tup (pa_cons (pe_lamV (tl8 CR CU CI) TB hcode hm hu (LamX.lamS_by (by rw [he]; rfl)) rfl) (pa_cons pe_str pa_nil))) ?_
  refine pa_cons (pe_tup (pa_cons (pe_lamV (tl9 CR CU CI) TB hcode hm hu (LamX.lamS_by (by rw [he]; rfl)) rfl) (pa_cons pe_str pa_nil))) ?_
  refine pa_cons (pe_tup (pa_cons (pe_lamV (tl10 CR CU CI) TB hcode hm hu (LamX.lamS_by (by rw [he]; rfl)) rfl) (pa_cons pe_str pa_nil))) ?_
  refine pa_cons (pe_tup (pa_cons (pe_lamV (tl11 CR CU CI) TB hcode hm hu (LamX.lamS_by (by rw [he]; rfl)) rfl) (pa_cons pe_str pa_nil))) ?_
  refine pa_cons (pe_tup (pa_cons (pe_lamV (tl12 CR CU CI) TB hcode hm hu (LamX.lamS_by (by rw [he]; rfl)) rfl) (pa_cons pe_str pa_nil))) ?_
  refine pa_cons (pe_tup (pa_cons (pe_lamV (tl13 CR CU CI) TB hcode hm hu (LamX.lamS_by (by rw [he]; rfl)) rfl) (pa_cons pe_str pa_nil))) ?_
  refine pa_cons (pe_tup (pa_cons (pe_lamV (tl14 CR CU CI) TB hcode hm hu (LamX.lamS_by (by rw [he]; rfl)) rfl) (pa_cons pe_str pa_nil))) ?_
  refine pa_cons (pe_tup (pa_cons (pe_lamV (tl15 CR CU CI) TB hcode hm hu (LamX.lamS_by (by rw [he]; rfl)) rfl) (pa_cons pe_str pa_nil))) ?_
  exact pa_nil
structure PBox (PT : Addr) (cl : List (Str × Addr)) (CR CU CI : Addr) (σ : L2.St) (H : Hp) (Q : List V → Hp → Prop) : Prop where
  out : tPairs [(PT, qn)] cl qn (dsP CR CU CI) σ H Q
theorem pbox_of {PT : Addr} {cl : List (Str × Addr)} {CR CU CI : Addr} {σ : L2.St} {H : Hp} {Q : List V → Hp → Prop} (hT : LamX.Tabs [(PT, qn)] H) (h : ∀ (H1 : Hp) (ts : List Addr), LamX.ExtN H H1 → LamX.Tabs [(PT, qn)] H1 → Prs cl qn H1 ts (dsP CR CU CI) → Q (ts.map V.ref) H1) : PBox PT cl CR CU CI σ H Q := ⟨pairs_of _ hT h⟩
theorem pa_box {X : Cx} {CR CU CI c PT f hs : Addr} (TB : LamX.TabB X.base X.mg c PT) (he : X.env = envOfC "law" (defScope sLaw) hs f (.ref c)) : PA X elts (PBox PT X.env.cells CR CU CI) := by
  have eq : X.env.qual ++ "<lambda>" = qn := by rw [he]; rfl
  have z := pa_calls (CR := CR) (CU := CU) (CI := CI) TB he
  rw [eq] at z
  exact ⟨fun pos pins s σ H Q I h => z.run pos pins s σ H Q I h.out⟩
theorem dsP_len (CR CU CI : Addr) : (dsP CR CU CI).length = 16 := rfl
end K06

set_option Elab.async false
set_option linter.all false
set_option maxRecDepth 100000
set_option maxHeartbeats 1000000
set_option pp.maxSteps 600
namespace K06
open PySem PySem.Spec PyProof.Rows L2 Ux
/-- what the lambdas lean on -/
structure LamH (X : Cx) (CR CU CI fP fi fr : Addr) (fdP fdi fdr : FuncData) (d1 : List Value) : Prop where
  N : X.N = nLaw
  sc : X.env.scope = defScope sLaw
  gU : X.mg "Unseen" = some (.ref CU)
  gR : X.mg "Ratio" = some (.ref CR)
  DP : Dn X.K X.mg "_law_pull" fP
  GP : FnOk X.prog X.w X.K X.mg X.base CX0 1 fP fdP ["_law_bag_here", "_law_many"] spPull
  bP : Binds X.K fdP ["_law_bag_here", "_law_many"] []
  M : Mk X.K CU fi
  GM : FnOk X.prog X.w X.K X.mg X.base (L2.CX X.prog X.w) 7 fi fdi pU (spUInit CR CU CI)
  b1 : Binds X.K fdi pU d1
  v1 : Vals [.non, .int 0, .non, .non] d1
  MR : Mk X.K CR fr
  GR : FnOk X.prog X.w X.K X.mg X.base CX0 2 fr fdr ["self", "top", "bottom"] (spRInit CR)
  bR3 : Binds X.K fdr ["self", "top", "bottom"] []
section
variable {X : Cx} {CR CU CI fP fi fr : Addr} {fdP fdi fdr : FuncData} {d1 : List Value}
theorem lo0 (h : LamH X CR CU CI fP fi fr fdP fdi fdr d1) {g : List Value → List Value → List Value} (kPm : KBn X.K fdi pU 2 ["mirror"] g (fun vs zs => vs ++ ((zs.drop 0).take 1 ++ ((([.int 0, .non, .non] : List V).drop 0).take 1 ++ ((([.int 0, .non, .non] : List V).drop 1).take 1 ++ ((([.int 0, .non, .non] : List V).drop 2).take 1)))))) : LamOk X 8 ⟨lamPa 0, lamBo 0, lamSc 0, tl0 CR CU CI⟩ := by
  obtain ⟨hN, hsc, gU, gR, DP, GP, bP, M, GM, b1, v1, MR, GR, bR3⟩ := h
  refine ⟨LamX.lamS_by (by rw [hsc]; rfl), fun _ _ _ _ _ => rfl, fun A outer s H E f c hr => ?_⟩
  have r1 : Room 1 (A.deeper (LamX.lamEnv X (lamSc 0) s.heap.objs.size f c)) := hr.mono (by decide)
  have r3 : Room 3 (A.deeper (LamX.lamEnv X (lamSc 0) s.heap.objs.size f c)) := hr.mono (by decide)
  show PE (LamX.lamCx X A outer s H E (lamSc 0) f c) (lamBo 0) (tMakeK CU 1 (["mirror"] : List Str).length (spUInit CR CU CI) (fun vs zs => vs ++ ((zs.drop 0).take 1 ++ ((([.int 0, .non, .non] : List V).drop 0).take 1 ++ ((([.int 0, .non, .non] : List V).drop 1).take 1 ++ ((([.int 0, .non, .non] : List V).drop 2).take 1))))) E (tCons (tVar 2) tNil) (tCons (tVar 2) tNil))
  exact pe_makeK (E := E) M GM hr (by rfl) gU kPm (passes_call (takes_of rfl rfl rfl rfl) fun _ _ _ _ z => z) (pa_cons (pv 2 (by show X.N[2]? = _; rw [hN]; rfl)) pa_nil) (pk_cons (pv 2 (by show X.N[2]? = _; rw [hN]; rfl)) pk_nil)
theorem lo1 (h : LamH X CR CU CI fP fi fr fdP fdi fdr d1) {g : List Value → List Value → List Value} (kPmd : KBn X.K fdi pU 2 ["mirror", "degree"] g (fun vs zs => vs ++ ((zs.drop 0).take 1 ++ ((([.int 0, .non] : List V).drop 0).take 1 ++ ((zs.drop 1).take 1 ++ ((([.int 0, .non] : List V).drop 1).take 1)))))) : LamOk X 8 ⟨lamPa 1, lamBo 1, lamSc 1, tl1 CR CU CI⟩ := by
  obtain ⟨hN, hsc, gU, gR, DP, GP, bP, M, GM, b1, v1, MR, GR, bR3⟩ := h
  refine ⟨LamX.lamS_by (by rw [hsc]; rfl), fun _ _ _ _ _ => rfl, fun A outer s H E f c hr => ?_⟩
  have r1 : Room 1 (A.deeper (LamX.lamEnv X (lamSc 1) s.heap.objs.size f c)) := hr.mono (by decide)
  have r3 : Room 3 (A.deeper (LamX.lamEnv X (lamSc 1) s.heap.objs.size f c)) := hr.mono (by decide)
  show PE (LamX.lamCx X A outer s H E (lamSc 1) f c) (lamBo 1) (tMakeK CU 1 (["mirror", "degree"] : List Str).length (spUInit CR CU CI) (fun vs zs => vs ++ ((zs.drop 0).take 1 ++ ((([.int 0, .non] : List V).drop 0).take 1 ++ ((zs.drop 1).take 1 ++ ((([.int 0, .non] : List V).drop 1).take 1))))) E (tCons (tC (.int 2)) tNil) (tCons (tC (.str "even")) (tCons (tC (.int 1)) tNil)))
  exact pe_makeK (E := E) M GM hr (by rfl) gU kPmd (passes_call (takes_of rfl rfl rfl rfl) fun _ _ _ _ z => z) (pa_cons pe_int pa_nil) (pk_cons pe_str (pk_cons pe_int pk_nil))
theorem lo2 (h : LamH X CR CU CI fP fi fr fdP fdi fdr d1) {g : List Value → List Value → List Value} (kZmc : KBn X.K fdi pU 1 ["mirror", "centre"] g (fun vs zs => vs ++ ([V.int 1] ++ ((zs.drop 0).take 1 ++ ((zs.drop 1).take 1 ++ ((([.non, .non] : List V).drop 0).take 1 ++ ((([.non, .non] : List V).drop 1).take 1))))))) : LamOk X 8 ⟨lamPa 2, lamBo 2, lamSc 2, tl2 CR CU CI⟩ := by
  obtain ⟨hN, hsc, gU, gR, DP, GP, bP, M, GM, b1, v1, MR, GR, bR3⟩ := h
  refine ⟨LamX.lamS_by (by rw [hsc]; rfl), fun _ _ _ _ _ => rfl, fun A outer s H E f c hr => ?_⟩
  have r1 : Room 1 (A.deeper (LamX.lamEnv X (lamSc 2) s.heap.objs.size f c)) := hr.mono (by decide)
  have r3 : Room 3 (A.deeper (LamX.lamEnv X (lamSc 2) s.heap.objs.size f c)) := hr.mono (by decide)
  show PE (LamX.lamCx X A outer s H E (lamSc 2) f c) (lamBo 2) (tMakeK CU 0 (["mirror", "centre"] : List Str).length (spUInit CR CU CI) (fun vs zs => vs ++ ([V.int 1] ++ ((zs.drop 0).take 1 ++ ((zs.drop 1).take 1 ++ ((([.non, .non] : List V).drop 0).take 1 ++ ((([.non, .non] : List V).drop 1).take 1)))))) E tNil (tCons (tVar 2) (tCons (tC .non) tNil)))
  exact pe_makeK0 (E := E) M GM hr (by rfl) gU kZmc (passes_call (takes_of rfl rfl rfl rfl) fun _ _ _ _ z => z) (pk_cons (pv 2 (by show X.N[2]? = _; rw [hN]; rfl)) (pk_cons pe_non pk_nil))
theorem lo3 (h : LamH X CR CU CI fP fi fr fdP fdi fdr d1) {g : List Value → List Value → List Value} (kZmcd : KBn X.K fdi pU 1 ["mirror", "centre", "degree"] g (fun vs zs => vs ++ ([V.int 1] ++ ((zs.drop 0).take 1 ++ ((zs.drop 1).take 1 ++ ((zs.drop 2).take 1 ++ ((([.non] : List V).drop 0).take 1))))))) : LamOk X 8 ⟨lamPa 3, lamBo 3, lamSc 3, tl3 CR CU CI⟩ := by
  obtain ⟨hN, hsc, gU, gR, DP, GP, bP, M, GM, b1, v1, MR, GR, bR3⟩ := h
  refine ⟨LamX.lamS_by (by rw [hsc]; rfl), fun _ _ _ _ _ => rfl, fun A outer s H E f c hr => ?_⟩
  have r1 : Room 1 (A.deeper (LamX.lamEnv X (lamSc 3) s.heap.objs.size f c)) := hr.mono (by decide)
  have r3 : Room 3 (A.deeper (LamX.lamEnv X (lamSc 3) s.heap.objs.size f c)) := hr.mono (by decide)
  show PE (LamX.lamCx X A outer s H E (lamSc 3) f c) (lamBo 3) (tMakeK CU 0 (["mirror", "centre", "degree"] : List Str).length (spUInit CR CU CI) (fun vs zs => vs ++ ([V.int 1] ++ ((zs.drop 0).take 1 ++ ((zs.drop 1).take 1 ++ ((zs.drop 2).take 1 ++ ((([.non] : List V).drop 0).take 1)))))) E tNil (tCons (tC (.str "odd")) (tCons (tC (.str "0")) (tCons (tVar 2) tNil))))
  exact pe_makeK0 (E := E) M GM hr (by rfl) gU kZmcd (passes_call (takes_of rfl rfl rfl rfl) fun _ _ _ _ z => z) (pk_cons pe_str (pk_cons pe_str (pk_cons (pv 2 (by show X.N[2]? = _; rw [hN]; rfl)) pk_nil)))
theorem lo4 (h : LamH X CR CU CI fP fi fr fdP fdi fdr d1) {g : List Value → List Value → List Value} (kZc : KBn X.K fdi pU 1 ["centre"] g (fun vs zs => vs ++ ([V.int 1] ++ ((([.non, .non, .non] : List V).drop 0).take 1 ++ ((zs.drop 0).take 1 ++ ((([.non, .non, .non] : List V).drop 1).take 1 ++ ((([.non, .non, .non] : List V).drop 2).take 1))))))) : LamOk X 8 ⟨lamPa 4, lamBo 4, lamSc 4, tl4 CR CU CI⟩ := by
  obtain ⟨hN, hsc, gU, gR, DP, GP, bP, M, GM, b1, v1, MR, GR, bR3⟩ := h
  refine ⟨LamX.lamS_by (by rw [hsc]; rfl), fun _ _ _ _ _ => rfl, fun A outer s H E f c hr => ?_⟩
  have r1 : Room 1 (A.deeper (LamX.lamEnv X (lamSc 4) s.heap.objs.size f c)) := hr.mono (by decide)
  have r3 : Room 3 (A.deeper (LamX.lamEnv X (lamSc 4) s.heap.objs.size f c)) := hr.mono (by decide)
  show PE (LamX.lamCx X A outer s H E (lamSc 4) f c) (lamBo 4) (tMakeK CU 0 (["centre"] : List Str).length (spUInit CR CU CI) (fun vs zs => vs ++ ([V.int 1] ++ ((([.non, .non, .non] : List V).drop 0).take 1 ++ ((zs.drop 0).take 1 ++ ((([.non, .non, .non] : List V).drop 1).take 1 ++ ((([.non, .non, .non] : List V).drop 2).take 1)))))) E tNil (tCons (tOp RADD (tC (.int 1)) (tCall spPull [] E0 (tCons (tVar 1) (tCons (tC (.int 5)) tNil)))) tNil))
  exact pe_makeK0 (E := E) M GM hr (by rfl) gU kZc (passes_call (takes_of rfl rfl rfl rfl) fun _ _ _ _ z => z) (pk_cons (pe_op op_add pe_int (pe_call GP r1 (by rfl) DP.gl DP.kp bP .nil pass0 (pa_cons (pv 1 (by show X.N[1]? = _; rw [hN]; rfl)) (pa_cons pe_int pa_nil)))) pk_nil)
theorem lo5 (h : LamH X CR CU CI fP fi fr fdP fdi fdr d1) {g : List Value → List Value → List Value} (kPcs : KBn X.K fdi pU 2 ["centre", "swap"] g (fun vs zs => vs ++ ((([.non, .non] : List V).drop 0).take 1 ++ ((zs.drop 0).take 1 ++ ((([.non, .non] : List V).drop 1).take 1 ++ ((zs.drop 1).take 1)))))) : LamOk X 8 ⟨lamPa 5, lamBo 5, lamSc 5, tl5 CR CU CI⟩ := by
  obtain ⟨hN, hsc, gU, gR, DP, GP, bP, M, GM, b1, v1, MR, GR, bR3⟩ := h
  refine ⟨LamX.lamS_by (by rw [hsc]; rfl), fun _ _ _ _ _ => rfl, fun A outer s H E f c hr => ?_⟩
  have r1 : Room 1 (A.deeper (LamX.lamEnv X (lamSc 5) s.heap.objs.size f c)) := hr.mono (by decide)
  have r3 : Room 3 (A.deeper (LamX.lamEnv X (lamSc 5) s.heap.objs.size f c)) := hr.mono (by decide)
  show PE (LamX.lamCx X A outer s H E (lamSc 5) f c) (lamBo 5) (tMakeK CU 1 (["centre", "swap"] : List Str).length (spUInit CR CU CI) (fun vs zs => vs ++ ((([.non, .non] : List V).drop 0).take 1 ++ ((zs.drop 0).take 1 ++ ((([.non, .non] : List V).drop 1).take 1 ++ ((zs.drop 1).take 1))))) E (tCons (tC (.int 2)) tNil) (tCons (tMake CR (spRInit CR) [] E0 (tCons (tC (.int 1)) (tCons (tC (.int 3)) tNil))) (tCons (tVar 2) tNil)))
  exact pe_makeK (E := E) M GM hr (by rfl) gU kPcs (passes_call (takes_of rfl rfl rfl rfl) fun _ _ _ _ z => z) (pa_cons pe_int pa_nil) (pk_cons (pe_make MR GR r3 (by rfl) gR bR3 .nil pass0 (pa_cons pe_int (pa_cons pe_int pa_nil))) (pk_cons (pv 2 (by show X.N[2]? = _; rw [hN]; rfl)) pk_nil))
theorem lo6 (h : LamH X CR CU CI fP fi fr fdP fdi fdr d1) {g : List Value → List Value → List Value} (kZds : KBn X.K fdi pU 1 ["degree", "swap"] g (fun vs zs => vs ++ ([V.int 1] ++ ((([.non, .int 0] : List V).drop 0).take 1 ++ ((([.non, .int 0] : List V).drop 1).take 1 ++ ((zs.drop 0).take 1 ++ ((zs.drop 1).take 1))))))) : LamOk X 8 ⟨lamPa 6, lamBo 6, lamSc 6, tl6 CR CU CI⟩ := by
  obtain ⟨hN, hsc, gU, gR, DP, GP, bP, M, GM, b1, v1, MR, GR, bR3⟩ := h
  refine ⟨LamX.lamS_by (by rw [hsc]; rfl), fun _ _ _ _ _ => rfl, fun A outer s H E f c hr => ?_⟩
  have r1 : Room 1 (A.deeper (LamX.lamEnv X (lamSc 6) s.heap.objs.size f c)) := hr.mono (by decide)
  have r3 : Room 3 (A.deeper (LamX.lamEnv X (lamSc 6) s.heap.objs.size f c)) := hr.mono (by decide)
  show PE (LamX.lamCx X A outer s H E (lamSc 6) f c) (lamBo 6) (tMakeK CU 0 (["degree", "swap"] : List Str).length (spUInit CR CU CI) (fun vs zs => vs ++ ([V.int 1] ++ ((([.non, .int 0] : List V).drop 0).take 1 ++ ((([.non, .int 0] : List V).drop 1).take 1 ++ ((zs.drop 0).take 1 ++ ((zs.drop 1).take 1)))))) E tNil (tCons (tVar 2) (tCons (tC (.str "same")) tNil)))
  exact pe_makeK0 (E := E) M GM hr (by rfl) gU kZds (passes_call (takes_of rfl rfl rfl rfl) fun _ _ _ _ z => z) (pk_cons (pv 2 (by show X.N[2]? = _; rw [hN]; rfl)) (pk_cons pe_str pk_nil))
theorem lo7 (h : LamH X CR CU CI fP fi fr fdP fdi fdr d1) {g : List Value → List Value → List Value} (kPds : KBn X.K fdi pU 2 ["degree", "swap"] g (fun vs zs => vs ++ ((([.non, .int 0] : List V).drop 0).take 1 ++ ((([.non, .int 0] : List V).drop 1).take 1 ++ ((zs.drop 0).take 1 ++ ((zs.drop 1).take 1)))))) : LamOk X 8 ⟨lamPa 7, lamBo 7, lamSc 7, tl7 CR CU CI⟩ := by
  obtain ⟨hN, hsc, gU, gR, DP, GP, bP, M, GM, b1, v1, MR, GR, bR3⟩ := h
  refine ⟨LamX.lamS_by (by rw [hsc]; rfl), fun _ _ _ _ _ => rfl, fun A outer s H E f c hr => ?_⟩
  have r1 : Room 1 (A.deeper (LamX.lamEnv X (lamSc 7) s.heap.objs.size f c)) := hr.mono (by decide)
  have r3 : Room 3 (A.deeper (LamX.lamEnv X (lamSc 7) s.heap.objs.size f c)) := hr.mono (by decide)
  show PE (LamX.lamCx X A outer s H E (lamSc 7) f c) (lamBo 7) (tMakeK CU 1 (["degree", "swap"] : List Str).length (spUInit CR CU CI) (fun vs zs => vs ++ ((([.non, .int 0] : List V).drop 0).take 1 ++ ((([.non, .int 0] : List V).drop 1).take 1 ++ ((zs.drop 0).take 1 ++ ((zs.drop 1).take 1))))) E (tCons (tC (.int 2)) tNil) (tCons (tC (.int 2)) (tCons (tC (.str "minus")) tNil)))
  exact pe_makeK (E := E) M GM hr (by rfl) gU kPds (passes_call (takes_of rfl rfl rfl rfl) fun _ _ _ _ z => z) (pa_cons pe_int pa_nil) (pk_cons pe_int (pk_cons pe_str pk_nil))
theorem lo8 (h : LamH X CR CU CI fP fi fr fdP fdi fdr d1) {g : List Value → List Value → List Value} (kPs : KBn X.K fdi pU 2 ["swap"] g (fun vs zs => vs ++ ((([.non, .int 0, .non] : List V).drop 0).take 1 ++ ((([.non, .int 0, .non] : List V).drop 1).take 1 ++ ((([.non, .int 0, .non] : List V).drop 2).take 1 ++ ((zs.drop 0).take 1)))))) : LamOk X 8 ⟨lamPa 8, lamBo 8, lamSc 8, tl8 CR CU CI⟩ := by
  obtain ⟨hN, hsc, gU, gR, DP, GP, bP, M, GM, b1, v1, MR, GR, bR3⟩ := h
  refine ⟨LamX.lamS_by (by rw [hsc]; rfl), fun _ _ _ _ _ => rfl, fun A outer s H E f c hr => ?_⟩
  have r1 : Room 1 (A.deeper (LamX.lamEnv X (lamSc 8) s.heap.objs.size f c)) := hr.mono (by decide)
  have r3 : Room 3 (A.deeper (LamX.lamEnv X (lamSc 8) s.heap.objs.size f c)) := hr.mono (by decide)
  show PE (LamX.lamCx X A outer s H E (lamSc 8) f c) (lamBo 8) (tMakeK CU 1 (["swap"] : List Str).length (spUInit CR CU CI) (fun vs zs => vs ++ ((([.non, .int 0, .non] : List V).drop 0).take 1 ++ ((([.non, .int 0, .non] : List V).drop 1).take 1 ++ ((([.non, .int 0, .non] : List V).drop 2).take 1 ++ ((zs.drop 0).take 1))))) E (tCons (tC (.int 1)) tNil) (tCons (tC (.str "minus")) tNil))
  exact pe_makeK (E := E) M GM hr (by rfl) gU kPs (passes_call (takes_of rfl rfl rfl rfl) fun _ _ _ _ z => z) (pa_cons pe_int pa_nil) (pk_cons pe_str pk_nil)
theorem lo9 (h : LamH X CR CU CI fP fi fr fdP fdi fdr d1) {g : List Value → List Value → List Value} (kPs : KBn X.K fdi pU 2 ["swap"] g (fun vs zs => vs ++ ((([.non, .int 0, .non] : List V).drop 0).take 1 ++ ((([.non, .int 0, .non] : List V).drop 1).take 1 ++ ((([.non, .int 0, .non] : List V).drop 2).take 1 ++ ((zs.drop 0).take 1)))))) : LamOk X 8 ⟨lamPa 9, lamBo 9, lamSc 9, tl9 CR CU CI⟩ := by
  obtain ⟨hN, hsc, gU, gR, DP, GP, bP, M, GM, b1, v1, MR, GR, bR3⟩ := h
  refine ⟨LamX.lamS_by (by rw [hsc]; rfl), fun _ _ _ _ _ => rfl, fun A outer s H E f c hr => ?_⟩
  have r1 : Room 1 (A.deeper (LamX.lamEnv X (lamSc 9) s.heap.objs.size f c)) := hr.mono (by decide)
  have r3 : Room 3 (A.deeper (LamX.lamEnv X (lamSc 9) s.heap.objs.size f c)) := hr.mono (by decide)
  show PE (LamX.lamCx X A outer s H E (lamSc 9) f c) (lamBo 9) (tMakeK CU 1 (["swap"] : List Str).length (spUInit CR CU CI) (fun vs zs => vs ++ ((([.non, .int 0, .non] : List V).drop 0).take 1 ++ ((([.non, .int 0, .non] : List V).drop 1).take 1 ++ ((([.non, .int 0, .non] : List V).drop 2).take 1 ++ ((zs.drop 0).take 1))))) E (tCons (tC (.int 2)) tNil) (tCons (tVar 2) tNil))
  exact pe_makeK (E := E) M GM hr (by rfl) gU kPs (passes_call (takes_of rfl rfl rfl rfl) fun _ _ _ _ z => z) (pa_cons pe_int pa_nil) (pk_cons (pv 2 (by show X.N[2]? = _; rw [hN]; rfl)) pk_nil)
theorem lo10 (h : LamH X CR CU CI fP fi fr fdP fdi fdr d1) : LamOk X 8 ⟨lamPa 10, lamBo 10, lamSc 10, tl10 CR CU CI⟩ := by
  obtain ⟨hN, hsc, gU, gR, DP, GP, bP, M, GM, b1, v1, MR, GR, bR3⟩ := h
  refine ⟨LamX.lamS_by (by rw [hsc]; rfl), fun _ _ _ _ _ => rfl, fun A outer s H E f c hr => ?_⟩
  have r1 : Room 1 (A.deeper (LamX.lamEnv X (lamSc 10) s.heap.objs.size f c)) := hr.mono (by decide)
  have r3 : Room 3 (A.deeper (LamX.lamEnv X (lamSc 10) s.heap.objs.size f c)) := hr.mono (by decide)
  show PE (LamX.lamCx X A outer s H E (lamSc 10) f c) (lamBo 10) (tMake CU (spUInit CR CU CI) [.non, .int 0, .non, .non] E (tCons (tC (.int 3)) tNil))
  exact pe_make (E := E) M GM hr (by rfl) gU b1 v1 (passes_call (takes_of rfl rfl rfl rfl) fun _ _ _ _ z => z) (pa_cons pe_int pa_nil)
theorem lo11 (h : LamH X CR CU CI fP fi fr fdP fdi fdr d1) {g : List Value → List Value → List Value} (kZmc : KBn X.K fdi pU 1 ["mirror", "centre"] g (fun vs zs => vs ++ ([V.int 1] ++ ((zs.drop 0).take 1 ++ ((zs.drop 1).take 1 ++ ((([.non, .non] : List V).drop 0).take 1 ++ ((([.non, .non] : List V).drop 1).take 1))))))) : LamOk X 8 ⟨lamPa 11, lamBo 11, lamSc 11, tl11 CR CU CI⟩ := by
  obtain ⟨hN, hsc, gU, gR, DP, GP, bP, M, GM, b1, v1, MR, GR, bR3⟩ := h
  refine ⟨LamX.lamS_by (by rw [hsc]; rfl), fun _ _ _ _ _ => rfl, fun A outer s H E f c hr => ?_⟩
  have r1 : Room 1 (A.deeper (LamX.lamEnv X (lamSc 11) s.heap.objs.size f c)) := hr.mono (by decide)
  have r3 : Room 3 (A.deeper (LamX.lamEnv X (lamSc 11) s.heap.objs.size f c)) := hr.mono (by decide)
  show PE (LamX.lamCx X A outer s H E (lamSc 11) f c) (lamBo 11) (tMakeK CU 0 (["mirror", "centre"] : List Str).length (spUInit CR CU CI) (fun vs zs => vs ++ ([V.int 1] ++ ((zs.drop 0).take 1 ++ ((zs.drop 1).take 1 ++ ((([.non, .non] : List V).drop 0).take 1 ++ ((([.non, .non] : List V).drop 1).take 1)))))) E tNil (tCons (tC (.str "even")) (tCons (tC (.bl true)) tNil)))
  exact pe_makeK0 (E := E) M GM hr (by rfl) gU kZmc (passes_call (takes_of rfl rfl rfl rfl) fun _ _ _ _ z => z) (pk_cons pe_str (pk_cons pe_bl pk_nil))
theorem lo12 (h : LamH X CR CU CI fP fi fr fdP fdi fdr d1) {g : List Value → List Value → List Value} (kZd : KBn X.K fdi pU 1 ["degree"] g (fun vs zs => vs ++ ([V.int 1] ++ ((([.non, .int 0, .non] : List V).drop 0).take 1 ++ ((([.non, .int 0, .non] : List V).drop 1).take 1 ++ ((zs.drop 0).take 1 ++ ((([.non, .int 0, .non] : List V).drop 2).take 1))))))) : LamOk X 8 ⟨lamPa 12, lamBo 12, lamSc 12, tl12 CR CU CI⟩ := by
  obtain ⟨hN, hsc, gU, gR, DP, GP, bP, M, GM, b1, v1, MR, GR, bR3⟩ := h
  refine ⟨LamX.lamS_by (by rw [hsc]; rfl), fun _ _ _ _ _ => rfl, fun A outer s H E f c hr => ?_⟩
  have r1 : Room 1 (A.deeper (LamX.lamEnv X (lamSc 12) s.heap.objs.size f c)) := hr.mono (by decide)
  have r3 : Room 3 (A.deeper (LamX.lamEnv X (lamSc 12) s.heap.objs.size f c)) := hr.mono (by decide)
  show PE (LamX.lamCx X A outer s H E (lamSc 12) f c) (lamBo 12) (tMakeK CU 0 (["degree"] : List Str).length (spUInit CR CU CI) (fun vs zs => vs ++ ([V.int 1] ++ ((([.non, .int 0, .non] : List V).drop 0).take 1 ++ ((([.non, .int 0, .non] : List V).drop 1).take 1 ++ ((zs.drop 0).take 1 ++ ((([.non, .int 0, .non] : List V).drop 2).take 1)))))) E tNil (tCons (tC (.int 4)) tNil))
  exact pe_makeK0 (E := E) M GM hr (by rfl) gU kZd (passes_call (takes_of rfl rfl rfl rfl) fun _ _ _ _ z => z) (pk_cons pe_int pk_nil)
theorem lo13 (h : LamH X CR CU CI fP fi fr fdP fdi fdr d1) : LamOk X 8 ⟨lamPa 13, lamBo 13, lamSc 13, tl13 CR CU CI⟩ := by
  obtain ⟨hN, hsc, gU, gR, DP, GP, bP, M, GM, b1, v1, MR, GR, bR3⟩ := h
  refine ⟨LamX.lamS_by (by rw [hsc]; rfl), fun _ _ _ _ _ => rfl, fun A outer s H E f c hr => ?_⟩
  have r1 : Room 1 (A.deeper (LamX.lamEnv X (lamSc 13) s.heap.objs.size f c)) := hr.mono (by decide)
  have r3 : Room 3 (A.deeper (LamX.lamEnv X (lamSc 13) s.heap.objs.size f c)) := hr.mono (by decide)
  show PE (LamX.lamCx X A outer s H E (lamSc 13) f c) (lamBo 13) (tMake CU (spUInit CR CU CI) [.non, .int 0, .non, .non] E (tCons (tC (.int 0)) tNil))
  exact pe_make (E := E) M GM hr (by rfl) gU b1 v1 (passes_call (takes_of rfl rfl rfl rfl) fun _ _ _ _ z => z) (pa_cons pe_int pa_nil)
theorem lo14 (h : LamH X CR CU CI fP fi fr fdP fdi fdr d1) {g : List Value → List Value → List Value} (kZm : KBn X.K fdi pU 1 ["mirror"] g (fun vs zs => vs ++ ([V.int 1] ++ ((zs.drop 0).take 1 ++ ((([.int 0, .non, .non] : List V).drop 0).take 1 ++ ((([.int 0, .non, .non] : List V).drop 1).take 1 ++ ((([.int 0, .non, .non] : List V).drop 2).take 1))))))) : LamOk X 8 ⟨lamPa 14, lamBo 14, lamSc 14, tl14 CR CU CI⟩ := by
  obtain ⟨hN, hsc, gU, gR, DP, GP, bP, M, GM, b1, v1, MR, GR, bR3⟩ := h
  refine ⟨LamX.lamS_by (by rw [hsc]; rfl), fun _ _ _ _ _ => rfl, fun A outer s H E f c hr => ?_⟩
  have r1 : Room 1 (A.deeper (LamX.lamEnv X (lamSc 14) s.heap.objs.size f c)) := hr.mono (by decide)
  have r3 : Room 3 (A.deeper (LamX.lamEnv X (lamSc 14) s.heap.objs.size f c)) := hr.mono (by decide)
  show PE (LamX.lamCx X A outer s H E (lamSc 14) f c) (lamBo 14) (tMakeK CU 0 (["mirror"] : List Str).length (spUInit CR CU CI) (fun vs zs => vs ++ ([V.int 1] ++ ((zs.drop 0).take 1 ++ ((([.int 0, .non, .non] : List V).drop 0).take 1 ++ ((([.int 0, .non, .non] : List V).drop 1).take 1 ++ ((([.int 0, .non, .non] : List V).drop 2).take 1)))))) E tNil (tCons (tC (.str "same")) tNil))
  exact pe_makeK0 (E := E) M GM hr (by rfl) gU kZm (passes_call (takes_of rfl rfl rfl rfl) fun _ _ _ _ z => z) (pk_cons pe_str pk_nil)
theorem lo15 (h : LamH X CR CU CI fP fi fr fdP fdi fdr d1) {g : List Value → List Value → List Value} (kPs : KBn X.K fdi pU 2 ["swap"] g (fun vs zs => vs ++ ((([.non, .int 0, .non] : List V).drop 0).take 1 ++ ((([.non, .int 0, .non] : List V).drop 1).take 1 ++ ((([.non, .int 0, .non] : List V).drop 2).take 1 ++ ((zs.drop 0).take 1)))))) : LamOk X 8 ⟨lamPa 15, lamBo 15, lamSc 15, tl15 CR CU CI⟩ := by
  obtain ⟨hN, hsc, gU, gR, DP, GP, bP, M, GM, b1, v1, MR, GR, bR3⟩ := h
  refine ⟨LamX.lamS_by (by rw [hsc]; rfl), fun _ _ _ _ _ => rfl, fun A outer s H E f c hr => ?_⟩
  have r1 : Room 1 (A.deeper (LamX.lamEnv X (lamSc 15) s.heap.objs.size f c)) := hr.mono (by decide)
  have r3 : Room 3 (A.deeper (LamX.lamEnv X (lamSc 15) s.heap.objs.size f c)) := hr.mono (by decide)
  show PE (LamX.lamCx X A outer s H E (lamSc 15) f c) (lamBo 15) (tMakeK CU 1 (["swap"] : List Str).length (spUInit CR CU CI) (fun vs zs => vs ++ ((([.non, .int 0, .non] : List V).drop 0).take 1 ++ ((([.non, .int 0, .non] : List V).drop 1).take 1 ++ ((([.non, .int 0, .non] : List V).drop 2).take 1 ++ ((zs.drop 0).take 1))))) E (tCons (tC (.int 2)) tNil) (tCons (tC (.str "even")) tNil))
  exact pe_makeK (E := E) M GM hr (by rfl) gU kPs (passes_call (takes_of rfl rfl rfl rfl) fun _ _ _ _ z => z) (pa_cons pe_int pa_nil) (pk_cons pe_str pk_nil)
end
end K06

set_option Elab.async false
set_option linter.all false
set_option maxRecDepth 100000
set_option maxHeartbeats 600000
set_option pp.maxSteps 600
namespace K06
open PySem PySem.Spec PyProof.Rows L2 Ux
section
variable {P : Program} {w : World} {K : PySem.W.Frag} {mg : Str → Option Value} {base : Heap} {CR CU CI C1 C2 c PT : Addr}
theorem ok_law {f fB fP fO fS fF gW fi fr : Addr} {fdB fdP fdO fdS fdF fdi fdr : FuncData} {g_kPm g_kPmd g_kZmc g_kZmcd g_kZc g_kPcs g_kZds g_kPds g_kPs g_kZd g_kZm g_kPcd : List Value → List Value → List Value} {d1 dR : List Value}
    {oc kV doc pm ct ocW kVW dcW pmW cdW ctW : Value} {od an odW anW : Option Addr} {osl slW : Array (Option Value)}
    (lk : K.lookup f = some ⟨oc, od, .func (PySem.W.fnOf "law" "law" (defArgs sLaw) (defBody sLaw) (defScope sLaw) .none kV doc pm an (.ref c) ct), osl⟩) (hcd : PySem.W.codeIn K (.ref c) "law" = true)
    (lkW : K.lookup gW = some ⟨ocW, odW, .func (PySem.W.fnOf "_law_why" "_law_why" (defArgs sWhy) (defBody sWhy) (defScope sWhy) .none kVW dcW pmW anW cdW ctW), slW⟩) (ccW : PySem.W.codeIn K cdW "_law_why" = true) (DW : Dn K mg "_law_why" gW)
    (bW : Binds K (PySem.W.fnOf "_law_why" "_law_why" (defArgs sWhy) (defBody sWhy) (defScope sWhy) .none kVW dcW pmW anW cdW ctW) ["_law_ask"] [])
    (TB : LamX.TabB base mg c PT) (m1 : mg "SlopeError" = some (.ref C1)) (m2 : mg "Missing" = some (.ref C2)) (DF : Dn K mg "_law_field" fF) (GF : FnQ P w K mg base 2 fF fdF ["_law_e"] (spFieldE K)) (bF : Binds K fdF ["_law_e"] [])
    (B : Bn mg) (T : RT K mg CR) (U : UT K mg CU) (TI : ITk K C1 C2 CI)
    (DB : Dn K mg "_law_bag" fB) (GB : FnOk P w K mg base CX0 1 fB fdB ["_law_script"] (spBag K)) (bB : Binds K fdB ["_law_script"] [])
    (DP : Dn K mg "_law_pull" fP) (GP : FnOk P w K mg base CX0 1 fP fdP ["_law_bag_here", "_law_many"] spPull) (bP : Binds K fdP ["_law_bag_here", "_law_many"] [])
    (DO : Dn K mg "_law_of" fO) (GO : FnOk P w K mg base CX0 2 fO fdO ["_law_bag_here", "_law_things"] spOf) (bO : Binds K fdO ["_law_bag_here", "_law_things"] [])
    (DS : Dn K mg "_law_same" fS) (GS : FnOk P w K mg base CX0 4 fS fdS ["_law_found", "_law_due"] (spSame 4)) (bS : Binds K fdS ["_law_found", "_law_due"] [])
    (M : Mk K CU fi) (GM : FnOk P w K mg base (L2.CX P w) 7 fi fdi pU (spUInit CR CU CI)) (b1 : Binds K fdi pU d1) (v1 : Vals [.non, .int 0, .non, .non] d1)
    (kPm : KBn K fdi pU 2 ["mirror"] g_kPm (fun vs zs => vs ++ ((zs.drop 0).take 1 ++ ((([.int 0, .non, .non] : List V).drop 0).take 1 ++ ((([.int 0, .non, .non] : List V).drop 1).take 1 ++ ((([.int 0, .non, .non] : List V).drop 2).take 1))))))
    (kPmd : KBn K fdi pU 2 ["mirror", "degree"] g_kPmd (fun vs zs => vs ++ ((zs.drop 0).take 1 ++ ((([.int 0, .non] : List V).drop 0).take 1 ++ ((zs.drop 1).take 1 ++ ((([.int 0, .non] : List V).drop 1).take 1))))))
    (kZmc : KBn K fdi pU 1 ["mirror", "centre"] g_kZmc (fun vs zs => vs ++ ([V.int 1] ++ ((zs.drop 0).take 1 ++ ((zs.drop 1).take 1 ++ ((([.non, .non] : List V).drop 0).take 1 ++ ((([.non, .non] : List V).drop 1).take 1)))))))
    (kZmcd : KBn K fdi pU 1 ["mirror", "centre", "degree"] g_kZmcd (fun vs zs => vs ++ ([V.int 1] ++ ((zs.drop 0).take 1 ++ ((zs.drop 1).take 1 ++ ((zs.drop 2).take 1 ++ ((([.non] : List V).drop 0).take 1)))))))
    (kZc : KBn K fdi pU 1 ["centre"] g_kZc (fun vs zs => vs ++ ([V.int 1] ++ ((([.non, .non, .non] : List V).drop 0).take 1 ++ ((zs.drop 0).take 1 ++ ((([.non, .non, .non] : List V).drop 1).take 1 ++ ((([.non, .non, .non] : List V).drop 2).take 1)))))))
    (kPcs : KBn K fdi pU 2 ["centre", "swap"] g_kPcs (fun vs zs => vs ++ ((([.non, .non] : List V).drop 0).take 1 ++ ((zs.drop 0).take 1 ++ ((([.non, .non] : List V).drop 1).take 1 ++ ((zs.drop 1).take 1))))))
    (kZds : KBn K fdi pU 1 ["degree", "swap"] g_kZds (fun vs zs => vs ++ ([V.int 1] ++ ((([.non, .int 0] : List V).drop 0).take 1 ++ ((([.non, .int 0] : List V).drop 1).take 1 ++ ((zs.drop 0).take 1 ++ ((zs.drop 1).take 1)))))))
    (kPds : KBn K fdi pU 2 ["degree", "swap"] g_kPds (fun vs zs => vs ++ ((([.non, .int 0] : List V).drop 0).take 1 ++ ((([.non, .int 0] : List V).drop 1).take 1 ++ ((zs.drop 0).take 1 ++ ((zs.drop 1).take 1))))))
    (kPs : KBn K fdi pU 2 ["swap"] g_kPs (fun vs zs => vs ++ ((([.non, .int 0, .non] : List V).drop 0).take 1 ++ ((([.non, .int 0, .non] : List V).drop 1).take 1 ++ ((([.non, .int 0, .non] : List V).drop 2).take 1 ++ ((zs.drop 0).take 1))))))
    (kZd : KBn K fdi pU 1 ["degree"] g_kZd (fun vs zs => vs ++ ([V.int 1] ++ ((([.non, .int 0, .non] : List V).drop 0).take 1 ++ ((([.non, .int 0, .non] : List V).drop 1).take 1 ++ ((zs.drop 0).take 1 ++ ((([.non, .int 0, .non] : List V).drop 2).take 1)))))))
    (kZm : KBn K fdi pU 1 ["mirror"] g_kZm (fun vs zs => vs ++ ([V.int 1] ++ ((zs.drop 0).take 1 ++ ((([.int 0, .non, .non] : List V).drop 0).take 1 ++ ((([.int 0, .non, .non] : List V).drop 1).take 1 ++ ((([.int 0, .non, .non] : List V).drop 2).take 1)))))))
    (kPcd : KBn K fdi pU 2 ["centre", "degree"] g_kPcd (fun vs zs => vs ++ ((([.non, .non] : List V).drop 0).take 1 ++ ((zs.drop 0).take 1 ++ ((zs.drop 1).take 1 ++ ((([.non, .non] : List V).drop 1).take 1))))))
    (MR : Mk K CR fr) (GR : FnOk P w K mg base CX0 2 fr fdr ["self", "top", "bottom"] (spRInit CR)) (bR3 : Binds K fdr ["self", "top", "bottom"] []) (bR2 : Binds K fdr ["self", "top", "bottom"] dR) (vR : Vals [V.int 1] dR) :
    FnOk P w K mg base CX0 11 f (PySem.W.fnOf "law" "law" (defArgs sLaw) (defBody sLaw) (defScope sLaw) .none kV doc pm an (.ref c) ct) ["_law_script"] (spLaw K PT) := by
  refine fn_of lk hcd scLaw (fun vs H Q E h => ?_) (fun A outer s H vs Q E hr h => ?_)
  · obtain ⟨a, ns, rfl, _⟩ := h
    rfl
  · obtain ⟨a, ns, rfl, hS, hlen, hP, q⟩ := h
    have r1 : Room 1 _ := hr.mono (by decide)
    have r2 : Room 2 _ := hr.mono (by decide)
    have r3 : Room 3 _ := hr.mono (by decide)
    have r4 : Room 4 _ := hr.mono (by decide)
    have r8 : Room 8 _ := hr.mono (by decide)
    refine ⟨_, PSs.nox (pss_cons (ps_set (i := 1) scLaw.nd rfl (Or.inr rfl) (pe_call GB r1 (by rfl) DB.gl DB.kp bB .nil pass0 (pa_cons (pv 0) pa_nil)))
      (C8.pss_cut (ps_set (i := 2) scLaw.nd rfl (Or.inr rfl) (pe_call GO r2 (by rfl) DO.gl DO.kp bO .nil pass0 (pa_cons (pv 1) (pa_cons (pe_lst (pa_cons pe_str (pa_cons pe_bl (pa_cons (pe_un un_neg pe_int) (pa_cons pe_int (pa_cons pe_str (pa_cons pe_str (pa_cons (pe_lst (pa_cons pe_int pa_nil)) pa_nil)))))))) pa_nil))))
      (C8.pss_cut (ps_set (i := 3) scLaw.nd rfl (Or.inl rfl) (pe_lst (pa_box (CR := CR) (CU := CU) (CI := CI) TB (by rfl))))
      (pss_cons (ps_for PassesOwn.never rfl (pi_range1 rfl B.frange (pa_cons pe_int pa_nil)) (pg_name (i := 4) scLaw.nd rfl (Or.inl rfl))
        (C8.pss_cut (ps_asg (pe_ix ix_list (pv 3) (pe_call GP r1 (by rfl) DP.gl DP.kp bP .nil pass0 (pa_cons (pv 1) (pa_cons pe_int pa_nil))) (fun _ _ => rfl)) (pg_tup rfl (pgs_cons (pg_name (i := 5) scLaw.nd rfl (Or.inl rfl)) (pgs_cons (pg_name (i := 6) scLaw.nd rfl (Or.inl rfl)) pgs_nil))))
        (pss_one (ps_if (pt_not (pt_val (pe_call GS r4 (by rfl) DS.gl DS.kp bS .nil pass0 (pa_cons (pe_lamval (ds := dsL CR CU CI) (TT := TTwhy K C1 C2) (k := 8) (by rfl) DW.gl DW.kp lkW ccW bW scWhy rfl (.inl rfl) (why_gives r3 DF GF bF m1 m2) hr (fun d hd => by
        unfold dsL at hd
        simp only [List.mem_cons, List.mem_nil_iff, or_false] at hd
        rcases hd with rfl | rfl | rfl | rfl | rfl | rfl | rfl | rfl | rfl | rfl | rfl | rfl | rfl | rfl | rfl | rfl
        · exact lo0 ⟨rfl, rfl, U.gl, T.gl, DP, GP, bP, M, GM, b1, v1, MR, GR, bR3⟩ kPm
        · exact lo1 ⟨rfl, rfl, U.gl, T.gl, DP, GP, bP, M, GM, b1, v1, MR, GR, bR3⟩ kPmd
        · exact lo2 ⟨rfl, rfl, U.gl, T.gl, DP, GP, bP, M, GM, b1, v1, MR, GR, bR3⟩ kZmc
        · exact lo3 ⟨rfl, rfl, U.gl, T.gl, DP, GP, bP, M, GM, b1, v1, MR, GR, bR3⟩ kZmcd
        · exact lo4 ⟨rfl, rfl, U.gl, T.gl, DP, GP, bP, M, GM, b1, v1, MR, GR, bR3⟩ kZc
        · exact lo5 ⟨rfl, rfl, U.gl, T.gl, DP, GP, bP, M, GM, b1, v1, MR, GR, bR3⟩ kPcs
        · exact lo6 ⟨rfl, rfl, U.gl, T.gl, DP, GP, bP, M, GM, b1, v1, MR, GR, bR3⟩ kZds
        · exact lo7 ⟨rfl, rfl, U.gl, T.gl, DP, GP, bP, M, GM, b1, v1, MR, GR, bR3⟩ kPds
        · exact lo8 ⟨rfl, rfl, U.gl, T.gl, DP, GP, bP, M, GM, b1, v1, MR, GR, bR3⟩ kPs
        · exact lo9 ⟨rfl, rfl, U.gl, T.gl, DP, GP, bP, M, GM, b1, v1, MR, GR, bR3⟩ kPs
        · exact lo10 ⟨rfl, rfl, U.gl, T.gl, DP, GP, bP, M, GM, b1, v1, MR, GR, bR3⟩
        · exact lo11 ⟨rfl, rfl, U.gl, T.gl, DP, GP, bP, M, GM, b1, v1, MR, GR, bR3⟩ kZmc
        · exact lo12 ⟨rfl, rfl, U.gl, T.gl, DP, GP, bP, M, GM, b1, v1, MR, GR, bR3⟩ kZd
        · exact lo13 ⟨rfl, rfl, U.gl, T.gl, DP, GP, bP, M, GM, b1, v1, MR, GR, bR3⟩
        · exact lo14 ⟨rfl, rfl, U.gl, T.gl, DP, GP, bP, M, GM, b1, v1, MR, GR, bR3⟩ kZm
        · exact lo15 ⟨rfl, rfl, U.gl, T.gl, DP, GP, bP, M, GM, b1, v1, MR, GR, bR3⟩ kPs) (pv 5)) (pa_cons (pe_tup (pa_cons pe_str (pa_cons (pv 6) pa_nil))) pa_nil))))) (pss_one (ps_ret pe_bl)) pss_nil))))
      (C8.pss_cut (ps_set (i := 7) scLaw.nd rfl (Or.inl rfl) (pe_lst (pa_cons (pe_makeK (E := E0) M GM r8 (by rfl) U.gl kPcs passL (pa_cons pe_int pa_nil) (pk_cons pe_int (pk_cons pe_str pk_nil))) (pa_cons (pe_makeK0 (E := E0) M GM r8 (by rfl) U.gl kZmcd passL (pk_cons pe_str (pk_cons (pe_make MR GR r3 (by rfl) T.gl bR3 .nil pass0 (pa_cons (pe_un un_neg pe_int) (pa_cons pe_int pa_nil))) (pk_cons pe_int pk_nil)))) (pa_cons (pe_makeK (E := E0) M GM r8 (by rfl) U.gl kPcd passL (pa_cons pe_int pa_nil) (pk_cons (pe_make MR GR r3 (by rfl) T.gl bR2 vR pass0 (pa_cons pe_int pa_nil)) (pk_cons pe_int pk_nil))) pa_nil)))))
      (pss_one (ps_ret (pe_cmpR (op_eqD hr.units) (pe_lc (own := [("_law_one", 8)]) (g := gName 8) (te := tFld K (tVar 8) "text") rfl scLaw.nd (pi_list (pv 7)) (blkOk_by (own := [("_law_one", 8)]) (N := nLaw) (sc := defScope sLaw) (by decide +kernel)) (fun _ _ _ _ _ => pg_name (i := 8) scLaw.nd rfl (Or.inl rfl) (hf := Or.inr rfl)) (fun _ _ _ _ _ => pts_nil) (fun _ _ _ _ _ => pe_fld (pv 8) rfl)) (pe_lst (pa_cons pe_str (pa_cons pe_str (pa_cons pe_str pa_nil)))) (nomark _))))))))), ?_⟩
    refine ⟨_, rfl, a, ns, rfl, hS, fun b H1 B1 nb s1 => ?_⟩
    have T1 : LamX.Tabs [(PT, qn)] H1 := fun p hp => by
      cases List.mem_singleton.mp hp
      exact LamX.TabS.nil (s1 _ _ hP)
    clear hS hlen hP s1 nb
    refine ⟨fun σ H' => ∃ (v0 : V) (a0 : AV), σ = [some (.ref a), some (.ref b), some v0, none, none, none, none, none, none] ∧ a0 ∈ odds ∧ IsAV CR H' a0 v0 ∧ BagAt H' b 1 ∧ LamX.Tabs [(PT, qn)] H', ?_, ?_⟩
    · obtain ⟨ys, hb⟩ := B1.lst
      refine ⟨_, rfl, _, rfl, (by show 1 ≤ sizeLine; decide), fun l hl => ⟨(by show 7 ≤ sizeLine; decide), fun Lo hLo => ?_⟩⟩
      have sl := same_upd (o := .lst [V.int 1]) hl
      have sL := same_upd (o := .lst [V.str "x", .bl true, .int (-1), .int 7, .str "", .str "Even", .ref l]) hLo
      have nLo : Lo ≠ b := (ne_of_none (sl _ _ hb) hLo).symm
      have nl : l ≠ b := (ne_of_none hb hl).symm
      refine ⟨b, Lo, 0, _, rfl, (B1.same sl).same sL, by decide, nLo, upd_same, (by show 0 < 7; decide), (by show 7 ≤ 1000; decide), fun i v H8 hi B8 f8 => ?_⟩
      have hl2 := f8 _ _ (sL _ _ (upd_same (H := H1) (a := l) (o := .lst [V.int 1]))) nl
      have T8 := Tabs.but (Tabs.same T1 (sl.trans sL)) ((sl.trans sL) _ _ hb) f8
      match i, hi with

      | 0, hi => exact ⟨v, .str "x", rfl, List.mem_of_getElem? (i := 0) rfl, (Option.some.inj hi).symm, B8, T8⟩
      | 1, hi => exact ⟨v, .bl true, rfl, List.mem_of_getElem? (i := 1) rfl, (Option.some.inj hi).symm, B8, T8⟩
      | 2, hi => exact ⟨v, .int (-1), rfl, List.mem_of_getElem? (i := 2) rfl, (Option.some.inj hi).symm, B8, T8⟩
      | 3, hi => exact ⟨v, .int 7, rfl, List.mem_of_getElem? (i := 3) rfl, (Option.some.inj hi).symm, B8, T8⟩
      | 4, hi => exact ⟨v, .str "", rfl, List.mem_of_getElem? (i := 4) rfl, (Option.some.inj hi).symm, B8, T8⟩
      | 5, hi => exact ⟨v, .str "Even", rfl, List.mem_of_getElem? (i := 5) rfl, (Option.some.inj hi).symm, B8, T8⟩
      | 6, hi => exact ⟨v, .lst, rfl, List.mem_of_getElem? (i := 6) rfl, ⟨l, _, (Option.some.inj hi).symm, hl2⟩, B8, T8⟩
    · clear B1 T1 H1
      rintro σ H1 ⟨v0, a0, rfl, od0, av, B1, T1⟩
      refine ⟨fun σ H' => ∃ L : Addr, σ = [some (.ref a), some (.ref b), some v0, some (.ref L), none, none, none, none, none] ∧ Fs CR CU CI (envOfC "law" (defScope sLaw) s.heap.objs.size f (.ref c)).cells H' b L 1 v0, ?_, ?_⟩
      · refine pbox_of T1 fun H3 ts e3 T3 pr => ⟨?_, fun L hL => ?_⟩
        · rw [List.length_map, pr.at.1, dsP_len]
          decide
        · have sL := same_upd (o := .lst (ts.map V.ref)) hL
          have B3 := B1.extN e3
          obtain ⟨ys, hb⟩ := B3.lst
          exact ⟨L, rfl, a0, ts, od0, (av.extN e3).same sL, B3.same sL, upd_same, pr.kp (Kp.of sL), (ne_of_none hb hL).symm⟩
      · clear B1 T1 av od0 a0 H1
        rintro σ H2 ⟨L, rfl, F0⟩
        refine ⟨8, rfl, by decide, by decide, for_range (n := 8) (fun i σ H' => ∃ x4 x5 x6 : Option V, σ = [some (.ref a), some (.ref b), some v0, some (.ref L), x4, x5, x6, none, none] ∧ Fs CR CU CI (envOfC "law" (defScope sLaw) s.heap.objs.size f (.ref c)).cells H' b L (i * 3 + 1) v0) ⟨none, none, none, rfl, F0⟩ ?_ ?_⟩
        · clear F0 H2
          rintro i σ H3 hi ⟨x4, x5, x6, rfl, a0, ts, od0, av, B3, hL, pr, nL⟩
          refine ⟨fun σ H' => ∃ (k : Nat) (d : LamD) (w : Str) (fk ck : Addr), (dsP CR CU CI)[k]? = some (d, w) ∧ σ = [some (.ref a), some (.ref b), some v0, some (.ref L), some (.int (0 + (i : Int))), some (.ref fk), some (.str w), none, none] ∧ LamAt (envOfC "law" (defScope sLaw) s.heap.objs.size f (.ref c)).cells qn H' d fk ck ∧ Fs CR CU CI (envOfC "law" (defScope sLaw) s.heap.objs.size f (.ref c)).cells H' b L (i * 3 + 2) v0, ?_, ?_⟩
          · refine ⟨_, rfl, _, rfl, b, 16, i * 3 + 1, rfl, by decide, by decide, B3, by omega, fun r H4 r0 r16 B4 f4 => ?_⟩
            obtain ⟨k, rfl⟩ := Int.eq_ofNat_of_zero_le r0
            have hk : k < (dsP CR CU CI).length := by
              rw [dsP_len]
              omega
            obtain ⟨⟨d, w⟩, hd⟩ : ∃ p, (dsP CR CU CI)[k]? = some p := ⟨_, List.getElem?_eq_getElem hk⟩
            obtain ⟨t, fk, ck, et, ht, la⟩ := pr.at.2 k d w hd
            obtain ⟨ys, hb⟩ := B3.lst
            have kp : Kp H3 H4 := Kp.but hb f4
            exact ⟨L, _, _, _, rfl, rfl, .of (f4 _ _ hL nL), atI_nat (by rw [List.getElem?_map, et]; rfl), t, _, rfl, .of (kp.tup _ _ ht), rfl, _, _, rfl, _, _, rfl, rfl, k, d, w, fk, ck, hd, rfl, la.kp kp, a0, ts, od0, av.but B3 B4 f4, B4, f4 _ _ hL nL, pr.kp kp, nL⟩
          · clear pr hL B3 av od0 nL a0 ts H3
            rintro σ H4 ⟨k, d, w, fk, ck, hd, rfl, la, a0, ts, od0, av, B4, hL, pr, nL⟩
            refine ⟨_, rfl, fk, ck, d, dsL_mem hd, rfl, la, la.fn, lam_all k hd (b := b) (n := i * 3 + 2) (v0 := v0) (a0 := a0) ⟨rfl, rfl, av, od0, B4, by omega⟩ fun dd H5 B5 f5 h5 => told_f TI h5 fun t H6 ht s6 => ?_⟩
            refine ⟨_, rfl, (by show 2 ≤ sizeLine; decide), fun t2 ht2 => ?_⟩
            have s7 := same_upd (o := .tup [.str "InvalidFact", .str w]) ht2
            refine ⟨.ref t, .ref t2, rfl, like_seq (.inl ⟨s7 _ _ ht, upd_same⟩) rfl (by show 2 ≤ 1000; decide), fun H8 s8 => ⟨_, rfl, iteF ?_⟩⟩
            have S := (s6.trans s7).trans s8
            obtain ⟨ys, hb⟩ := B4.lst
            exact ⟨_, _, _, rfl, a0, ts, od0, (av.but B4 B5 f5).same S, (B5.same S).more (by omega), S _ _ (f5 _ _ hL nL), (pr.kp (Kp.but hb f5)).kp (Kp.of S), nL⟩
        · clear F0 H2
          rintro σ H2 ⟨x4, x5, x6, rfl, _⟩
          refine ⟨fun σ H' => ∃ (G g1 g2 g3 : Addr), σ = [some (.ref a), some (.ref b), some v0, some (.ref L), x4, x5, x6, some (.ref G), none] ∧ H' G = some (.lst [.ref g1, .ref g2, .ref g3]) ∧ UnsAt CR CU H' g1 fa ∧ UnsAt CR CU H' g2 fb ∧ UnsAt CR CU H' g3 fc, ?_, ?_⟩
          · refine ⟨rfl, rfl, fun x dx nx nd ne => init_good nx nd (a := .int 2) (m := .non) (c := .int 0) (d := .non) (s := .str "minus") (f := fa) ⟨rfl, rfl, rfl, rfl, rfl, rfl, rfl, rfl, rfl, rfl⟩ (by decide +kernel) rfl rfl rfl rfl ok_fa (.inr ⟨rfl, rfl⟩) fun H3 un1 s3 => ?_⟩
            refine ⟨_, rfl, fun p dp np npd npe => ratio_made (t := -1) (b := 2) (t' := -1) (b' := 2) np npd (by decide) (by decide) (by decide +kernel) (by decide +kernel) fun H4 ra s4 => ⟨rfl, rfl, fun y dy ny nyd nye => init_good ny nyd (a := .int 1) (m := .str "even") (c := .rat (-1) 2) (d := .int 0) (s := .non) (f := fb) ⟨rfl, rfl, ⟨p, rfl, ra⟩, rfl, rfl, rfl, rfl, rfl, rfl, rfl⟩ (by decide +kernel) rfl rfl rfl rfl ok_fb (.inl ⟨p, rfl, ra⟩) fun H5 un2 s5 => ?_⟩⟩
            refine fun p2 dp2 np2 npd2 npe2 => ratio_made (t := 0) (b := 1) (t' := 0) (b' := 1) np2 npd2 (by decide) (by decide) (by decide +kernel) (by decide +kernel) fun H6 ra2 s6 => ⟨rfl, rfl, fun z dz nz nzd nze => init_good nz nzd (a := .int 1) (m := .non) (c := .rat 0 1) (d := .int 3) (s := .non) (f := fc) ⟨rfl, rfl, ⟨p2, rfl, ra2⟩, rfl, rfl, rfl, rfl, rfl, rfl, rfl⟩ (by decide +kernel) rfl rfl rfl rfl ok_fc (.inl ⟨p2, rfl, ra2⟩) fun H7 un3 s7 => ?_⟩
            refine ⟨(by show 3 ≤ sizeLine; decide), fun G hG => ?_⟩
            have sG := same_upd (o := .lst [V.ref x, .ref y, .ref z]) hG
            exact ⟨G, x, y, z, rfl, upd_same, ((((un1.same s4).same s5).same s6).same s7).same sG, ((un2.same s6).same s7).same sG, un3.same sG⟩
          · rintro σ H3 ⟨G, g1, g2, g3, rfl, hG, u1, u2, u3⟩
            refine ⟨_, rfl, G, rfl, ⟨_, .of hG⟩, fun C hC => lc_list (xs := [.ref g1, .ref g2, .ref g3]) (fun i H' => H' C = some (.lst ([V.str (ftext fa), .str (ftext fb), .str (ftext fc)].take i)) ∧ Same H3 H') ⟨upd_same, same_upd hC⟩ (fun i H' _ z => .of (z.2 _ _ hG)) ?_ ?_⟩
            · rintro i x H' hx ⟨hC', s9⟩
              refine ⟨rfl, ?_⟩
              match i, hx, hC' with
              | 0, hx, hC' =>
                obtain rfl := Option.some.inj hx
                obtain ⟨dx, r, hh, _⟩ := u1.same s9
                exact ⟨_, rfl, g1, CU, dx, _, _, rfl, hh, U.cl, U.n6, gTx _ _, _, hC', (by show 0 < sizeLine; decide), upd_same, same_list s9 hC⟩
              | 1, hx, hC' =>
                obtain rfl := Option.some.inj hx
                obtain ⟨dx, r, hh, _⟩ := u2.same s9
                exact ⟨_, rfl, g2, CU, dx, _, _, rfl, hh, U.cl, U.n6, gTx _ _, _, hC', (by show 1 < sizeLine; decide), upd_same, same_list s9 hC⟩
              | 2, hx, hC' =>
                obtain rfl := Option.some.inj hx
                obtain ⟨dx, r, hh, _⟩ := u3.same s9
                exact ⟨_, rfl, g3, CU, dx, _, _, rfl, hh, U.cl, U.n6, gTx _ _, _, hC', (by show 2 < sizeLine; decide), upd_same, same_list s9 hC⟩
            · rintro H' ⟨hC', s9⟩
              refine ⟨(by show 3 ≤ sizeLine; decide), fun D hD => ?_⟩
              have sD := same_upd (o := .lst [V.str "2 minus", .str "1 even -1/2 degree 0", .str "1 degree 3"]) hD
              refine ⟨.list [.str (ftext fa), .str (ftext fb), .str (ftext fc)], .list [.str "2 minus", .str "1 even -1/2 degree 0", .str "1 degree 3"], .lst (.of (sD _ _ hC')) (.cons (.str _) (.cons (.str _) (.cons (.str _) .nil))), .lst (.of upd_same) (.cons (.str _) (.cons (.str _) (.cons (.str _) .nil))), (by decide +kernel), (by decide +kernel), ?_⟩
              have e : PyData.eqv (.list [.str (ftext fa), .str (ftext fb), .str (ftext fc)]) (.list [.str "2 minus", .str "1 even -1/2 degree 0", .str "1 degree 3"]) = true := by decide +kernel
              rw [e]
              exact q _
end
end K06

set_option Elab.async false
set_option linter.all false
set_option maxRecDepth 100000
set_option maxHeartbeats 8000000
set_option pp.maxSteps 400
namespace K06
open PySem PySem.Spec PyProof.Rows L2 Ux
def isB (a : Option (Option Value)) (v : Value) : Bool := decide (a = some (some v))
def isN (a : Option (Option Value)) : Bool := decide (a = some none)
theorem isB_of {a : Option (Option Value)} {v : Value} (h : isB a v = true) : a = some (some v) := of_decide_eq_true h
theorem isN_of {a : Option (Option Value)} (h : isN a = true) : a = some none := of_decide_eq_true h
/-- what every class of the text has -/
def chC (K : PySem.W.Frag) (C f : Addr) : Bool := PySem.W.plainGet K C Str.empty && (PySem.W.hasDictIn K C && (PySem.W.plainOver K C && (isB (PySem.W.findIn K (.ref C) "__setattr__") (.builtin "object.__setattr__") &&
  (isB (PySem.W.findIn K (.ref C) "__class__") (.builtin "object.__class__") && (decide (PySem.W.mroIn K C (.type "object") = some true) && (decide (PySem.W.kitOne K (.ref C) (.ref C) = some true) &&
  (PySem.W.makesIn K C && (isB (PySem.W.findIn K (.ref C) "__init__") (.ref f) && (PySem.W.isFn K (.ref f) && PySem.W.keepIn K (.ref C))))))))))
def chM (K : PySem.W.Frag) (C : Addr) (m : Str) (f : Addr) : Bool := isB (PySem.W.findIn K (.ref C) m) (.ref f) && PySem.W.isFn K (.ref f)
def chG (K : PySem.W.Frag) : Bool := isB (PySem.W.specialIn K (.builtin "object.__class__") "__get__") (.builtin "getset_descriptor.__get__") && decide (PySem.W.takesIn K (.builtin "object.__class__") = some true)
theorem cls_of {K : PySem.W.Frag} {C f : Addr} (h : chC K C f = true) : Cls K C ∧ PySem.W.findIn K (.ref C) "__class__" = some (some (.builtin "object.__class__")) ∧ PySem.W.mroIn K C (.type "object") = some true ∧ PySem.W.kitOne K (.ref C) (.ref C) = some true ∧ Mk K C f := by
  simp only [chC, Bool.and_eq_true] at h
  obtain ⟨h1, h2, h3, h4, h5, h6, h7, h8, h9, h10, h11⟩ := h
  exact ⟨⟨h1, h2, h3, isB_of h4⟩, isB_of h5, of_decide_eq_true h6, of_decide_eq_true h7, ⟨h8, isB_of h9, h10, h11⟩⟩
theorem own_of {K : PySem.W.Frag} {C : Addr} {m : Str} {f : Addr} (h : chM K C m f = true) : OwnM K C m f := ⟨isB_of (Bool.and_eq_true_iff.mp h).1, (Bool.and_eq_true_iff.mp h).2⟩
theorem same_zero {P : Program} {w : World} {K : PySem.W.Frag} {mg : Str → Option Value} {base : Heap} {f : Addr} {fd : FuncData} : FnOk P w K mg base CX0 0 f fd ["_law_found", "_law_due"] (spSame 0) :=
  ⟨fun _ _ _ _ h => by obtain ⟨_, _, rfl, z, _⟩ := h; exact z.elim, fun _ _ _ _ _ _ _ _ _ _ _ _ _ h => by obtain ⟨_, _, _, z, _⟩ := h; exact z.elim⟩
theorem r_binds2 {K : PySem.W.Frag} {f : Addr} {fd : FuncData} (F : FunD K "__init__" "Ratio.__init__" (defArgs sRInit) (defBody sRInit) (defScope sRInit) [.int 1] [] f fd) : ∃ ds, Vals [V.int 1] ds ∧ Binds K fd ["self", "top", "bottom"] ds :=
  F.binds1 2 0 (by simp) rfl fun T kV doc pm an cdv ct us its h1 h2 => match us, its, h1, h2 with | [_, _], [_], _, _ => ⟨_, rfl, rfl⟩
theorem r_binds3 {K : PySem.W.Frag} {f : Addr} {fd : FuncData} (F : FunD K "__init__" "Ratio.__init__" (defArgs sRInit) (defBody sRInit) (defScope sRInit) [.int 1] [] f fd) : Binds K fd ["self", "top", "bottom"] [] := by
  obtain ⟨ds, v, b⟩ := F.binds1 (ps := ["self", "top", "bottom"]) 3 1 (by simp) rfl fun T kV doc pm an cdv ct us its h1 h2 => match us, its, h1, h2 with | [_, _, _], [_], _, _ => ⟨_, rfl, rfl⟩
  cases v
  exact b
def chR (K : PySem.W.Frag) (C fi fe fs : Addr) : Bool := chC K C fi && (isN (PySem.W.findIn K (.ref C) "top") && (isN (PySem.W.findIn K (.ref C) "bottom") && (decide (PySem.W.kitOne K (.type "int") (.ref C) = some false) && (decide (PySem.W.kitOne K (.type "NoneType") (.ref C) = some false) &&
  (decide (PySem.W.kitOne K (.type "bool") (.ref C) = some false) && (decide (PySem.W.kitOne K (.type "str") (.ref C) = some false) && (chM K C "__eq__" fe && (chM K C "__str__" fs && PySem.W.notFirst K C (.type "int")))))))))
def chU (K : PySem.W.Frag) (C fi : Addr) : Bool := chC K C fi && ((isN (PySem.W.findIn K (.ref C) "arity") && (isN (PySem.W.findIn K (.ref C) "mirror") && (isN (PySem.W.findIn K (.ref C) "centre") && (isN (PySem.W.findIn K (.ref C) "degree") && (isN (PySem.W.findIn K (.ref C) "swap") && isN (PySem.W.findIn K (.ref C) "text")))))) &&
  (decide (PySem.W.kitOne K (.type "str") (.ref C) = some false) && (PySem.W.notFirst K C (.ref C) && PySem.W.notFirst K C (.type "str"))))
def chB (K : PySem.W.Frag) (C : Addr) (ini : String) : Bool :=
  isB (PySem.W.specialIn K (.ref C) "__getattribute__") (.builtin "type.__getattribute__") && (PySem.W.readsIn K C (.type "type") && PySem.W.handedIn (.builtin ini))
abbrev veB : List Value := [.type "ValueError", .type "Exception", .type "BaseException", .type "object"]
def chI (K : PySem.W.Frag) (C CS CM f : Addr) : Bool :=
  PySem.W.excInitIn K C veB "ValueError.__new__" && (PySem.W.excOver K C veB && (PySem.W.hasDictIn K C && (isB (PySem.W.findIn K (.ref C) "__setattr__") (.builtin "object.__setattr__") && (PySem.W.keepIn K (.ref C) && (isB (PySem.W.findIn K (.ref C) "__getattribute__") (.builtin "BaseException.__getattribute__") &&
  (isN (PySem.W.findIn K (.ref C) "__getattr__") && (decide (PySem.W.subIn K (.ref C) (.type "BaseException") = some true) && (fieldNames.all (fun x => isN (PySem.W.findIn K (.ref C) x)) && decide (PySem.W.exmAny K (.ref C) [.ref CS, .ref CM] = some true)))))))))
theorem rt_of {K : PySem.W.Frag} {mg : Str → Option Value} {C fi fe fs : Addr} (h : chR K C fi fe fs = true) (g : chG K = true) (gl : mg "Ratio" = some (.ref C)) : RT K mg C ∧ Mk K C fi ∧ OwnM K C "__eq__" fe ∧ OwnM K C "__str__" fs ∧ PySem.W.notFirst K C (.type "int") = true := by
  simp only [chR, Bool.and_eq_true] at h
  obtain ⟨h0, h1, h2, h3, h4, hb, hs, h5, h6, h7⟩ := h
  obtain ⟨c1, c2, c3, c4, c5⟩ := cls_of h0
  obtain ⟨g1, g2⟩ := Bool.and_eq_true_iff.mp g
  exact ⟨⟨c1, isN_of h1, isN_of h2, gl, c2, isB_of g1, of_decide_eq_true g2, c3, c4, of_decide_eq_true h3, of_decide_eq_true h4, of_decide_eq_true hb, of_decide_eq_true hs⟩, c5, own_of h5, own_of h6, h7⟩
theorem ut_of {K : PySem.W.Frag} {mg : Str → Option Value} {C fi : Addr} (h : chU K C fi = true) (g : chG K = true) (gl : mg "Unseen" = some (.ref C)) : UT K mg C ∧ Mk K C fi := by
  simp only [chU, Bool.and_eq_true] at h
  obtain ⟨h0, ⟨n1, n2, n3, n4, n5, n6⟩, h1, h2, h3⟩ := h
  obtain ⟨c1, c2, c3, c4, c5⟩ := cls_of h0
  obtain ⟨g1, g2⟩ := Bool.and_eq_true_iff.mp g
  exact ⟨⟨c1, isN_of n1, isN_of n2, isN_of n3, isN_of n4, isN_of n5, isN_of n6, gl, c2, isB_of g1, of_decide_eq_true g2, c3, c4, of_decide_eq_true h1, h2, h3⟩, c5⟩
theorem all_mk {l : PySem.W.OpenLaw} {w : World} {K : PySem.W.Frag} {h : Heap} {mg : Str → Option Value} {fa CR CU CI CS CM pM pS cL PT g_sho g_isi g_isn g_rof g_itx g_rtx g_cho g_who g_mir g_cen g_deg g_swp g_chk g_ftx g_bag g_pul g_lof g_sam g_lfi g_lot g_why g_law g_req g_rst g_iin T_rin g_rin T_uin g_uin DU : Addr} (X : K.In h) (G : h.Ns mainGlobals mg) (hfa : mg "law" = some (.ref fa)) (hPT : h.get? PT = some { cls := .none, data := .fields #[] }) (nPT : K.lookup PT = none) (hCH : PySem.W.CodeHd h cL PT)
    {od_sho an_sho : Option Addr} {sl_sho : Array (Option Value)} {oc_sho kV_sho dc_sho pm_sho cd_sho ct_sho : Value}
    {od_isi an_isi : Option Addr} {sl_isi : Array (Option Value)} {oc_isi kV_isi dc_isi pm_isi cd_isi ct_isi : Value}
    {od_isn an_isn : Option Addr} {sl_isn : Array (Option Value)} {oc_isn kV_isn dc_isn pm_isn cd_isn ct_isn : Value}
    {od_rof an_rof : Option Addr} {sl_rof : Array (Option Value)} {oc_rof kV_rof dc_rof pm_rof cd_rof ct_rof : Value}
    {od_itx an_itx : Option Addr} {sl_itx : Array (Option Value)} {oc_itx kV_itx dc_itx pm_itx cd_itx ct_itx : Value}
    {od_rtx an_rtx : Option Addr} {sl_rtx : Array (Option Value)} {oc_rtx kV_rtx dc_rtx pm_rtx cd_rtx ct_rtx : Value}
    {od_cho an_cho : Option Addr} {sl_cho : Array (Option Value)} {oc_cho kV_cho dc_cho pm_cho cd_cho ct_cho : Value}
    {od_who an_who : Option Addr} {sl_who : Array (Option Value)} {oc_who kV_who dc_who pm_who cd_who ct_who : Value}
    {od_mir an_mir : Option Addr} {sl_mir : Array (Option Value)} {oc_mir kV_mir dc_mir pm_mir cd_mir ct_mir : Value}
    {od_cen an_cen : Option Addr} {sl_cen : Array (Option Value)} {oc_cen kV_cen dc_cen pm_cen cd_cen ct_cen : Value}
    {od_deg an_deg : Option Addr} {sl_deg : Array (Option Value)} {oc_deg kV_deg dc_deg pm_deg cd_deg ct_deg : Value}
    {od_swp an_swp : Option Addr} {sl_swp : Array (Option Value)} {oc_swp kV_swp dc_swp pm_swp cd_swp ct_swp : Value}
    {od_chk an_chk : Option Addr} {sl_chk : Array (Option Value)} {oc_chk kV_chk dc_chk pm_chk cd_chk ct_chk : Value}
    {od_ftx an_ftx : Option Addr} {sl_ftx : Array (Option Value)} {oc_ftx kV_ftx dc_ftx pm_ftx cd_ftx ct_ftx : Value}
    {od_bag an_bag : Option Addr} {sl_bag : Array (Option Value)} {oc_bag kV_bag dc_bag pm_bag cd_bag ct_bag : Value}
    {od_pul an_pul : Option Addr} {sl_pul : Array (Option Value)} {oc_pul kV_pul dc_pul pm_pul cd_pul ct_pul : Value}
    {od_lof an_lof : Option Addr} {sl_lof : Array (Option Value)} {oc_lof kV_lof dc_lof pm_lof cd_lof ct_lof : Value}
    {od_sam an_sam : Option Addr} {sl_sam : Array (Option Value)} {oc_sam kV_sam dc_sam pm_sam cd_sam ct_sam : Value}
    {od_lfi an_lfi : Option Addr} {sl_lfi : Array (Option Value)} {oc_lfi kV_lfi dc_lfi pm_lfi cd_lfi ct_lfi : Value}
    {od_lot an_lot : Option Addr} {sl_lot : Array (Option Value)} {oc_lot kV_lot dc_lot pm_lot cd_lot ct_lot : Value}
    {od_why an_why : Option Addr} {sl_why : Array (Option Value)} {oc_why kV_why dc_why pm_why cd_why ct_why : Value}
    {od_law an_law : Option Addr} {sl_law : Array (Option Value)} {oc_law kV_law dc_law pm_law ct_law : Value}
    {od_req an_req : Option Addr} {sl_req : Array (Option Value)} {oc_req kV_req dc_req pm_req cd_req ct_req : Value}
    {od_rst an_rst : Option Addr} {sl_rst : Array (Option Value)} {oc_rst kV_rst dc_rst pm_rst cd_rst ct_rst : Value}
    {od_iin an_iin : Option Addr} {sl_iin : Array (Option Value)} {oc_iin kV_iin dc_iin pm_iin cd_iin ct_iin : Value}
    {od_rin an_rin : Option Addr} {sl_rin : Array (Option Value)} {oc_rin kV_rin dc_rin pm_rin cd_rin ct_rin : Value}
    {oT_rin : Value} {oD_rin : Option Addr} {nT_rin : Nat} {tk_rin : Tok} {sT_rin : Array (Option Value)}
    {od_uin an_uin : Option Addr} {sl_uin : Array (Option Value)} {oc_uin dc_uin pm_uin cd_uin ct_uin : Value}
    {oT_uin : Value} {oD_uin : Option Addr} {nT_uin : Nat} {tk_uin : Tok} {sT_uin : Array (Option Value)}
    {tk0 : Tok}
    {tD tC : Tok}
    {ocM : Option Addr} {nnM : Nat} {tM0 tM1 : Tok} {ssM : Array (Option Value)}
    {ocS : Option Addr} {nnS : Nat} {tS0 tS1 : Tok} {ssS : Array (Option Value)}
    {nmI qI : Str} {NI : Addr} {bsI bmI : List Value} {snI : List Str} {subI : List Value} {abI : Bool} {colI : Option Bool} {ddI : Option Addr} {kI0 kI1 kI2 kI3 kI5 : Option Value}
    (aR : PySem.W.nsIn K mainGlobals "Ratio" = some (some (.ref CR))) (aU : PySem.W.nsIn K mainGlobals "Unseen" = some (some (.ref CU))) (aI : PySem.W.nsIn K mainGlobals "InvalidFact" = some (some (.ref CI))) (aS : PySem.W.nsIn K mainGlobals "SlopeError" = some (some (.ref CS))) (aM : PySem.W.nsIn K mainGlobals "Missing" = some (some (.ref CM)))
    (a_sho : PySem.W.nsIn K mainGlobals "shown" = some (some (.ref g_sho)))
    (l_sho : K.lookup g_sho = some ⟨oc_sho, od_sho, .func (PySem.W.fnOf "shown" "shown" (defArgs sShown) (defBody sShown) (defScope sShown) .none kV_sho dc_sho pm_sho an_sho cd_sho ct_sho), sl_sho⟩) (c_sho : PySem.W.codeIn K cd_sho "shown" = true) (k_sho : PySem.W.keepIn K (.ref g_sho) = true)
    (a_isi : PySem.W.nsIn K mainGlobals "is_integer" = some (some (.ref g_isi)))
    (l_isi : K.lookup g_isi = some ⟨oc_isi, od_isi, .func (PySem.W.fnOf "is_integer" "is_integer" (defArgs sIsInt) (defBody sIsInt) (defScope sIsInt) .none kV_isi dc_isi pm_isi an_isi cd_isi ct_isi), sl_isi⟩) (c_isi : PySem.W.codeIn K cd_isi "is_integer" = true) (k_isi : PySem.W.keepIn K (.ref g_isi) = true)
    (a_isn : PySem.W.nsIn K mainGlobals "is_number" = some (some (.ref g_isn)))
    (l_isn : K.lookup g_isn = some ⟨oc_isn, od_isn, .func (PySem.W.fnOf "is_number" "is_number" (defArgs sIsNum) (defBody sIsNum) (defScope sIsNum) .none kV_isn dc_isn pm_isn an_isn cd_isn ct_isn), sl_isn⟩) (c_isn : PySem.W.codeIn K cd_isn "is_number" = true) (k_isn : PySem.W.keepIn K (.ref g_isn) = true)
    (a_rof : PySem.W.nsIn K mainGlobals "ratio_of" = some (some (.ref g_rof)))
    (l_rof : K.lookup g_rof = some ⟨oc_rof, od_rof, .func (PySem.W.fnOf "ratio_of" "ratio_of" (defArgs sRatioOf) (defBody sRatioOf) (defScope sRatioOf) .none kV_rof dc_rof pm_rof an_rof cd_rof ct_rof), sl_rof⟩) (c_rof : PySem.W.codeIn K cd_rof "ratio_of" = true) (k_rof : PySem.W.keepIn K (.ref g_rof) = true)
    (a_itx : PySem.W.nsIn K mainGlobals "integer_text" = some (some (.ref g_itx)))
    (l_itx : K.lookup g_itx = some ⟨oc_itx, od_itx, .func (PySem.W.fnOf "integer_text" "integer_text" (defArgs sIntText) (defBody sIntText) (defScope sIntText) .none kV_itx dc_itx pm_itx an_itx cd_itx ct_itx), sl_itx⟩) (c_itx : PySem.W.codeIn K cd_itx "integer_text" = true) (k_itx : PySem.W.keepIn K (.ref g_itx) = true)
    (a_rtx : PySem.W.nsIn K mainGlobals "ratio_text" = some (some (.ref g_rtx)))
    (l_rtx : K.lookup g_rtx = some ⟨oc_rtx, od_rtx, .func (PySem.W.fnOf "ratio_text" "ratio_text" (defArgs sRatText) (defBody sRatText) (defScope sRatText) .none kV_rtx dc_rtx pm_rtx an_rtx cd_rtx ct_rtx), sl_rtx⟩) (c_rtx : PySem.W.codeIn K cd_rtx "ratio_text" = true) (k_rtx : PySem.W.keepIn K (.ref g_rtx) = true)
    (a_cho : PySem.W.nsIn K mainGlobals "is_choice" = some (some (.ref g_cho)))
    (l_cho : K.lookup g_cho = some ⟨oc_cho, od_cho, .func (PySem.W.fnOf "is_choice" "is_choice" (defArgs sChoice) (defBody sChoice) (defScope sChoice) .none kV_cho dc_cho pm_cho an_cho cd_cho ct_cho), sl_cho⟩) (c_cho : PySem.W.codeIn K cd_cho "is_choice" = true) (k_cho : PySem.W.keepIn K (.ref g_cho) = true)
    (a_who : PySem.W.nsIn K mainGlobals "is_whole_within" = some (some (.ref g_who)))
    (l_who : K.lookup g_who = some ⟨oc_who, od_who, .func (PySem.W.fnOf "is_whole_within" "is_whole_within" (defArgs sWhole) (defBody sWhole) (defScope sWhole) .none kV_who dc_who pm_who an_who cd_who ct_who), sl_who⟩) (c_who : PySem.W.codeIn K cd_who "is_whole_within" = true) (k_who : PySem.W.keepIn K (.ref g_who) = true)
    (a_mir : PySem.W.nsIn K mainGlobals "is_mirror" = some (some (.ref g_mir)))
    (l_mir : K.lookup g_mir = some ⟨oc_mir, od_mir, .func (PySem.W.fnOf "is_mirror" "is_mirror" (defArgs sMirror) (defBody sMirror) (defScope sMirror) .none kV_mir dc_mir pm_mir an_mir cd_mir ct_mir), sl_mir⟩) (c_mir : PySem.W.codeIn K cd_mir "is_mirror" = true) (k_mir : PySem.W.keepIn K (.ref g_mir) = true)
    (a_cen : PySem.W.nsIn K mainGlobals "is_centre" = some (some (.ref g_cen)))
    (l_cen : K.lookup g_cen = some ⟨oc_cen, od_cen, .func (PySem.W.fnOf "is_centre" "is_centre" (defArgs sCentre) (defBody sCentre) (defScope sCentre) .none kV_cen dc_cen pm_cen an_cen cd_cen ct_cen), sl_cen⟩) (c_cen : PySem.W.codeIn K cd_cen "is_centre" = true) (k_cen : PySem.W.keepIn K (.ref g_cen) = true)
    (a_deg : PySem.W.nsIn K mainGlobals "is_degree" = some (some (.ref g_deg)))
    (l_deg : K.lookup g_deg = some ⟨oc_deg, od_deg, .func (PySem.W.fnOf "is_degree" "is_degree" (defArgs sDegree) (defBody sDegree) (defScope sDegree) .none kV_deg dc_deg pm_deg an_deg cd_deg ct_deg), sl_deg⟩) (c_deg : PySem.W.codeIn K cd_deg "is_degree" = true) (k_deg : PySem.W.keepIn K (.ref g_deg) = true)
    (a_swp : PySem.W.nsIn K mainGlobals "is_swap" = some (some (.ref g_swp)))
    (l_swp : K.lookup g_swp = some ⟨oc_swp, od_swp, .func (PySem.W.fnOf "is_swap" "is_swap" (defArgs sSwap) (defBody sSwap) (defScope sSwap) .none kV_swp dc_swp pm_swp an_swp cd_swp ct_swp), sl_swp⟩) (c_swp : PySem.W.codeIn K cd_swp "is_swap" = true) (k_swp : PySem.W.keepIn K (.ref g_swp) = true)
    (a_chk : PySem.W.nsIn K mainGlobals "check_facts" = some (some (.ref g_chk)))
    (l_chk : K.lookup g_chk = some ⟨oc_chk, od_chk, .func (PySem.W.fnOf "check_facts" "check_facts" (defArgs sCheck) (defBody sCheck) (defScope sCheck) .none kV_chk dc_chk pm_chk an_chk cd_chk ct_chk), sl_chk⟩) (c_chk : PySem.W.codeIn K cd_chk "check_facts" = true) (k_chk : PySem.W.keepIn K (.ref g_chk) = true)
    (a_ftx : PySem.W.nsIn K mainGlobals "facts_text" = some (some (.ref g_ftx)))
    (l_ftx : K.lookup g_ftx = some ⟨oc_ftx, od_ftx, .func (PySem.W.fnOf "facts_text" "facts_text" (defArgs sFText) (defBody sFText) (defScope sFText) .none kV_ftx dc_ftx pm_ftx an_ftx cd_ftx ct_ftx), sl_ftx⟩) (c_ftx : PySem.W.codeIn K cd_ftx "facts_text" = true) (k_ftx : PySem.W.keepIn K (.ref g_ftx) = true)
    (a_bag : PySem.W.nsIn K mainGlobals "_law_bag" = some (some (.ref g_bag)))
    (l_bag : K.lookup g_bag = some ⟨oc_bag, od_bag, .func (PySem.W.fnOf "_law_bag" "_law_bag" (defArgs sBag) (defBody sBag) (defScope sBag) .none kV_bag dc_bag pm_bag an_bag cd_bag ct_bag), sl_bag⟩) (c_bag : PySem.W.codeIn K cd_bag "_law_bag" = true) (k_bag : PySem.W.keepIn K (.ref g_bag) = true)
    (a_pul : PySem.W.nsIn K mainGlobals "_law_pull" = some (some (.ref g_pul)))
    (l_pul : K.lookup g_pul = some ⟨oc_pul, od_pul, .func (PySem.W.fnOf "_law_pull" "_law_pull" (defArgs sPull) (defBody sPull) (defScope sPull) .none kV_pul dc_pul pm_pul an_pul cd_pul ct_pul), sl_pul⟩) (c_pul : PySem.W.codeIn K cd_pul "_law_pull" = true) (k_pul : PySem.W.keepIn K (.ref g_pul) = true)
    (a_lof : PySem.W.nsIn K mainGlobals "_law_of" = some (some (.ref g_lof)))
    (l_lof : K.lookup g_lof = some ⟨oc_lof, od_lof, .func (PySem.W.fnOf "_law_of" "_law_of" (defArgs sOf) (defBody sOf) (defScope sOf) .none kV_lof dc_lof pm_lof an_lof cd_lof ct_lof), sl_lof⟩) (c_lof : PySem.W.codeIn K cd_lof "_law_of" = true) (k_lof : PySem.W.keepIn K (.ref g_lof) = true)
    (a_sam : PySem.W.nsIn K mainGlobals "_law_same" = some (some (.ref g_sam)))
    (l_sam : K.lookup g_sam = some ⟨oc_sam, od_sam, .func (PySem.W.fnOf "_law_same" "_law_same" (defArgs sSame) (defBody sSame) (defScope sSame) .none kV_sam dc_sam pm_sam an_sam cd_sam ct_sam), sl_sam⟩) (c_sam : PySem.W.codeIn K cd_sam "_law_same" = true) (k_sam : PySem.W.keepIn K (.ref g_sam) = true)
    (a_lfi : PySem.W.nsIn K mainGlobals "_law_field" = some (some (.ref g_lfi)))
    (l_lfi : K.lookup g_lfi = some ⟨oc_lfi, od_lfi, .func (PySem.W.fnOf "_law_field" "_law_field" (defArgs sField) (defBody sField) (defScope sField) .none kV_lfi dc_lfi pm_lfi an_lfi cd_lfi ct_lfi), sl_lfi⟩) (c_lfi : PySem.W.codeIn K cd_lfi "_law_field" = true) (k_lfi : PySem.W.keepIn K (.ref g_lfi) = true)
    (a_lot : PySem.W.nsIn K mainGlobals "_law_other_field" = some (some (.ref g_lot)))
    (l_lot : K.lookup g_lot = some ⟨oc_lot, od_lot, .func (PySem.W.fnOf "_law_other_field" "_law_other_field" (defArgs sOtherField) (defBody sOtherField) (defScope sOtherField) .none kV_lot dc_lot pm_lot an_lot cd_lot ct_lot), sl_lot⟩) (c_lot : PySem.W.codeIn K cd_lot "_law_other_field" = true) (k_lot : PySem.W.keepIn K (.ref g_lot) = true)
    (a_why : PySem.W.nsIn K mainGlobals "_law_why" = some (some (.ref g_why)))
    (l_why : K.lookup g_why = some ⟨oc_why, od_why, .func (PySem.W.fnOf "_law_why" "_law_why" (defArgs sWhy) (defBody sWhy) (defScope sWhy) .none kV_why dc_why pm_why an_why cd_why ct_why), sl_why⟩) (c_why : PySem.W.codeIn K cd_why "_law_why" = true) (k_why : PySem.W.keepIn K (.ref g_why) = true)
    (a_law : PySem.W.nsIn K mainGlobals "law" = some (some (.ref g_law)))
    (l_law : K.lookup g_law = some ⟨oc_law, od_law, .func (PySem.W.fnOf "law" "law" (defArgs sLaw) (defBody sLaw) (defScope sLaw) .none kV_law dc_law pm_law an_law (.ref cL) ct_law), sl_law⟩) (c_law : PySem.W.codeIn K (.ref cL) "law" = true) (k_law : PySem.W.keepIn K (.ref g_law) = true)
    (i_req : PySem.W.findIn K (.ref CR) "__eq__" = some (some (.ref g_req)))
    (l_req : K.lookup g_req = some ⟨oc_req, od_req, .func (PySem.W.fnOf "__eq__" "Ratio.__eq__" (defArgs sREq) (defBody sREq) (defScope sREq) .none kV_req dc_req pm_req an_req cd_req ct_req), sl_req⟩) (c_req : PySem.W.codeIn K cd_req "Ratio.__eq__" = true) (k_req : PySem.W.keepIn K (.ref g_req) = true)
    (i_rst : PySem.W.findIn K (.ref CR) "__str__" = some (some (.ref g_rst)))
    (l_rst : K.lookup g_rst = some ⟨oc_rst, od_rst, .func (PySem.W.fnOf "__str__" "Ratio.__str__" (defArgs sRStr) (defBody sRStr) (defScope sRStr) .none kV_rst dc_rst pm_rst an_rst cd_rst ct_rst), sl_rst⟩) (c_rst : PySem.W.codeIn K cd_rst "Ratio.__str__" = true) (k_rst : PySem.W.keepIn K (.ref g_rst) = true)
    (i_iin : PySem.W.findIn K (.ref CI) "__init__" = some (some (.ref g_iin)))
    (l_iin : K.lookup g_iin = some ⟨oc_iin, od_iin, .func (PySem.W.fnOf "__init__" "InvalidFact.__init__" (defArgs sI_InvalidFact) (defBody sI_InvalidFact) (defScope sI_InvalidFact) .none kV_iin dc_iin pm_iin an_iin cd_iin ct_iin), sl_iin⟩) (c_iin : PySem.W.codeIn K cd_iin "InvalidFact.__init__" = true) (k_iin : PySem.W.keepIn K (.ref g_iin) = true)
    (i_rin : PySem.W.findIn K (.ref CR) "__init__" = some (some (.ref g_rin)))
    (l_rin : K.lookup g_rin = some ⟨oc_rin, od_rin, .func (PySem.W.fnOf "__init__" "Ratio.__init__" (defArgs sRInit) (defBody sRInit) (defScope sRInit) (.ref T_rin) kV_rin dc_rin pm_rin an_rin cd_rin ct_rin), sl_rin⟩) (c_rin : PySem.W.codeIn K cd_rin "Ratio.__init__" = true) (k_rin : PySem.W.keepIn K (.ref g_rin) = true)
    (t_rin : K.lookup T_rin = some ⟨oT_rin, oD_rin, .seq [Value.int 1 tk_rin].toArray nT_rin, sT_rin⟩)
    (i_uin : PySem.W.findIn K (.ref CU) "__init__" = some (some (.ref g_uin)))
    (l_uin : K.lookup g_uin = some ⟨oc_uin, od_uin, .func (PySem.W.fnOf "__init__" "Unseen.__init__" (defArgs sUInit) (defBody sUInit) (defScope sUInit) (.ref T_uin) (.ref DU) dc_uin pm_uin an_uin cd_uin ct_uin), sl_uin⟩) (c_uin : PySem.W.codeIn K cd_uin "Unseen.__init__" = true) (k_uin : PySem.W.keepIn K (.ref g_uin) = true)
    (t_uin : K.lookup T_uin = some ⟨oT_uin, oD_uin, .seq [Value.int 1 tk_uin].toArray nT_uin, sT_uin⟩)
    (d1 : PySem.W.nsIn K DU "mirror" = some (some .none)) (d2 : PySem.W.nsIn K DU "centre" = some (some (.int 0 tk0))) (d3 : PySem.W.nsIn K DU "degree" = some (some .none)) (d4 : PySem.W.nsIn K DU "swap" = some (some .none))
    (aMd : PySem.W.nsIn K mainGlobals "MOST_DEGREE" = some (some (.int 3 tD))) (aCb : PySem.W.nsIn K mainGlobals "CHUNK_BASE" = some (some (.int 1000000000000000000000000000000000000000000000000000000000000 tC))) (aGc : PySem.W.nsIn K mainGlobals "gcd" = some (some (.builtin "math.gcd")))
    (bM : PySem.W.nsIn K mainGlobals "MIRRORS" = some (some (.ref pM))) (lM : K.lookup pM = some ⟨.type "tuple", ocM, .seq [Value.str "even" tM0, Value.str "odd" tM1].toArray nnM, ssM⟩)
    (bS : PySem.W.nsIn K mainGlobals "SWAPS" = some (some (.ref pS))) (lS : K.lookup pS = some ⟨.type "tuple", ocS, .seq [Value.str "same" tS0, Value.str "minus" tS1].toArray nnS, ssS⟩)
    (z_isin : PySem.W.nsIn K mainGlobals "isinstance" = some none)
    (z_tstr : PySem.W.nsIn K mainGlobals "str" = some none)
    (z_tint : PySem.W.nsIn K mainGlobals "int" = some none)
    (z_tlist : PySem.W.nsIn K mainGlobals "list" = some none)
    (z_ttuple : PySem.W.nsIn K mainGlobals "tuple" = some none)
    (z_tbool : PySem.W.nsIn K mainGlobals "bool" = some none)
    (z_fabs : PySem.W.nsIn K mainGlobals "abs" = some none)
    (z_frepr : PySem.W.nsIn K mainGlobals "repr" = some none)
    (z_flen : PySem.W.nsIn K mainGlobals "len" = some none)
    (z_frange : PySem.W.nsIn K mainGlobals "range" = some none)
    (z_fzip : PySem.W.nsIn K mainGlobals "zip" = some none)
    (z_fall : PySem.W.nsIn K mainGlobals "all" = some none)
    (z_tve : PySem.W.nsIn K mainGlobals "ValueError" = some none)
    (z_tle : PySem.W.nsIn K mainGlobals "LookupError" = some none)
    (lCI : K.lookup CI = some (excClassObj nmI qI CI NI bsI bmI true snI subI abI colI ddI kI0 kI1 kI2 kI3 kI5 "ValueError.__new__")) (tyI : PySem.W.typeIn K (.ref CI) = some (.type "type")) (tyF : PySem.W.typeIn K (.ref g_iin) = some (.type "function")) (vS : PySem.W.findCls K (.ref CS) (.type "type") "__init__" = some (.val (.builtin "ValueError.__init__")))
    (hRv : PySem.HandSPX.refsVE bmI = true) (hR : chR K CR g_rin g_req g_rst = true) (hU : chU K CU g_uin = true) (hG : chG K = true) (hS : chB K CS "ValueError.__init__" = true) (hI : chI K CI CS CM g_iin = true) :
    LamX.LawAtS l w K CX0 11 63 "_law_script" mg fa h := by
  have e := hfa.symm.trans (PySem.W.mg_of X G a_law)
  cases e
  have gl : ∀ x v, PySem.W.nsIn K mainGlobals x = some (some v) → mg x = some v := fun x v z => PySem.W.mg_of X G z
  have B : Bn mg := ⟨PySem.W.mg_none_of X G z_isin, PySem.W.mg_none_of X G z_tstr, PySem.W.mg_none_of X G z_tint, PySem.W.mg_none_of X G z_tlist, PySem.W.mg_none_of X G z_ttuple, PySem.W.mg_none_of X G z_tbool, PySem.W.mg_none_of X G z_fabs, PySem.W.mg_none_of X G z_frepr, PySem.W.mg_none_of X G z_flen, PySem.W.mg_none_of X G z_frange, PySem.W.mg_none_of X G z_fzip, PySem.W.mg_none_of X G z_fall, PySem.W.mg_none_of X G z_tve, PySem.W.mg_none_of X G z_tle⟩
  obtain ⟨RTT, MkR, MEq, MSt, nfi⟩ := rt_of hR hG (gl _ _ aR)
  obtain ⟨UTT, MkU⟩ := ut_of hU hG (gl _ _ aU)
  simp only [chI, Bool.and_eq_true] at hI
  obtain ⟨i1, i2, i3, i4, i5, i6, i7, i8, i9, i10⟩ := hI
  have noI : ∀ f ∈ fieldNames, PySem.W.findIn K (.ref CI) f = some none := fun f hf => isN_of (List.all_eq_true.mp i9 f hf)
  have EC : EcI K "ValueError.__init__" CI := ⟨_, _, _, ⟨PySem.F.excBase_ValueError, PySem.F.store_ValueError, i1, i2, i3, isB_of i4, i5, isB_of i6, isN_of i7, of_decide_eq_true i8⟩⟩
  have OX : OexC K CI := ⟨⟨_, _, _, _, _, _, _, _, _, _, _, _, _, _, _, lCI, hRv⟩, isB_of i4, of_decide_eq_true i8, tyI, i5⟩
  have ITT : IT K mg CI g_iin := ⟨gl _ _ aI, OX, EC, noI _ (by decide +kernel), noI _ (by decide +kernel), i_iin, tyF⟩
  have TKK : ITk K CS CM CI := ⟨of_decide_eq_true i10, ⟨isB_of i6, isN_of i7, of_decide_eq_true i8, i3⟩, noI⟩
  obtain ⟨s1, s2, s3⟩ : PySem.W.specialIn K (.ref CS) "__getattribute__" = some (some (.builtin "type.__getattribute__")) ∧ PySem.W.readsIn K CS (.type "type") = true ∧ PySem.W.handedIn (.builtin "ValueError.__init__") = true := by
    simp only [chB, Bool.and_eq_true] at hS
    exact ⟨isB_of hS.1, hS.2.1, hS.2.2⟩
  have BSS : Bs K mg "SlopeError" "ValueError.__init__" CS := ⟨gl _ _ aS, s1, s2, vS, s3⟩
  have GCC : GC K mg pM pS := ⟨⟨_, gl _ _ aMd⟩, gl _ _ bM, fun H => .inr ⟨_, _, _, lM, rfl, rfl, (by show 2 ≤ sizeLine; decide), (.cons ⟨_, rfl⟩ (.cons ⟨_, rfl⟩ .nil))⟩, gl _ _ bS, fun H => .inr ⟨_, _, _, lS, rfl, rfl, (by show 2 ≤ sizeLine; decide), (.cons ⟨_, rfl⟩ (.cons ⟨_, rfl⟩ .nil))⟩⟩
  have F_sho := fun_mk (st := sShown) l_sho c_sho k_sho
  have D_sho : Dn K mg "shown" g_sho := ⟨gl _ _ a_sho, k_sho⟩
  have b_sho := F_sho.binds (ps := ["value"]) fun _ _ _ _ _ _ us hl => match us, hl with | [_], _ => rfl
  have F_isi := fun_mk (st := sIsInt) l_isi c_isi k_isi
  have D_isi : Dn K mg "is_integer" g_isi := ⟨gl _ _ a_isi, k_isi⟩
  have b_isi := F_isi.binds (ps := ["value"]) fun _ _ _ _ _ _ us hl => match us, hl with | [_], _ => rfl
  have F_isn := fun_mk (st := sIsNum) l_isn c_isn k_isn
  have D_isn : Dn K mg "is_number" g_isn := ⟨gl _ _ a_isn, k_isn⟩
  have b_isn := F_isn.binds (ps := ["value"]) fun _ _ _ _ _ _ us hl => match us, hl with | [_], _ => rfl
  have F_rof := fun_mk (st := sRatioOf) l_rof c_rof k_rof
  have D_rof : Dn K mg "ratio_of" g_rof := ⟨gl _ _ a_rof, k_rof⟩
  have b_rof := F_rof.binds (ps := ["number"]) fun _ _ _ _ _ _ us hl => match us, hl with | [_], _ => rfl
  have F_itx := fun_mk (st := sIntText) l_itx c_itx k_itx
  have D_itx : Dn K mg "integer_text" g_itx := ⟨gl _ _ a_itx, k_itx⟩
  have b_itx := F_itx.binds (ps := ["number"]) fun _ _ _ _ _ _ us hl => match us, hl with | [_], _ => rfl
  have F_rtx := fun_mk (st := sRatText) l_rtx c_rtx k_rtx
  have D_rtx : Dn K mg "ratio_text" g_rtx := ⟨gl _ _ a_rtx, k_rtx⟩
  have b_rtx := F_rtx.binds (ps := ["ratio"]) fun _ _ _ _ _ _ us hl => match us, hl with | [_], _ => rfl
  have F_cho := fun_mk (st := sChoice) l_cho c_cho k_cho
  have D_cho : Dn K mg "is_choice" g_cho := ⟨gl _ _ a_cho, k_cho⟩
  have b_cho := F_cho.binds (ps := ["value", "words"]) fun _ _ _ _ _ _ us hl => match us, hl with | [_, _], _ => rfl
  have F_who := fun_mk (st := sWhole) l_who c_who k_who
  have D_who : Dn K mg "is_whole_within" g_who := ⟨gl _ _ a_who, k_who⟩
  have b_who := F_who.binds (ps := ["value", "low", "high"]) fun _ _ _ _ _ _ us hl => match us, hl with | [_, _, _], _ => rfl
  have F_mir := fun_mk (st := sMirror) l_mir c_mir k_mir
  have D_mir : Dn K mg "is_mirror" g_mir := ⟨gl _ _ a_mir, k_mir⟩
  have b_mir := F_mir.binds (ps := ["arity", "mirror"]) fun _ _ _ _ _ _ us hl => match us, hl with | [_, _], _ => rfl
  have F_cen := fun_mk (st := sCentre) l_cen c_cen k_cen
  have D_cen : Dn K mg "is_centre" g_cen := ⟨gl _ _ a_cen, k_cen⟩
  have b_cen := F_cen.binds (ps := ["mirror", "centre"]) fun _ _ _ _ _ _ us hl => match us, hl with | [_, _], _ => rfl
  have F_deg := fun_mk (st := sDegree) l_deg c_deg k_deg
  have D_deg : Dn K mg "is_degree" g_deg := ⟨gl _ _ a_deg, k_deg⟩
  have b_deg := F_deg.binds (ps := ["arity", "degree"]) fun _ _ _ _ _ _ us hl => match us, hl with | [_, _], _ => rfl
  have F_swp := fun_mk (st := sSwap) l_swp c_swp k_swp
  have D_swp : Dn K mg "is_swap" g_swp := ⟨gl _ _ a_swp, k_swp⟩
  have b_swp := F_swp.binds (ps := ["arity", "swap"]) fun _ _ _ _ _ _ us hl => match us, hl with | [_, _], _ => rfl
  have F_chk := fun_mk (st := sCheck) l_chk c_chk k_chk
  have D_chk : Dn K mg "check_facts" g_chk := ⟨gl _ _ a_chk, k_chk⟩
  have b_chk := F_chk.binds (ps := ["arity", "mirror", "centre", "degree", "swap"]) fun _ _ _ _ _ _ us hl => match us, hl with | [_, _, _, _, _], _ => rfl
  have F_ftx := fun_mk (st := sFText) l_ftx c_ftx k_ftx
  have D_ftx : Dn K mg "facts_text" g_ftx := ⟨gl _ _ a_ftx, k_ftx⟩
  have b_ftx := F_ftx.binds (ps := ["arity", "mirror", "centre", "degree", "swap"]) fun _ _ _ _ _ _ us hl => match us, hl with | [_, _, _, _, _], _ => rfl
  have F_bag := fun_mk (st := sBag) l_bag c_bag k_bag
  have D_bag : Dn K mg "_law_bag" g_bag := ⟨gl _ _ a_bag, k_bag⟩
  have b_bag := F_bag.binds (ps := ["_law_script"]) fun _ _ _ _ _ _ us hl => match us, hl with | [_], _ => rfl
  have F_pul := fun_mk (st := sPull) l_pul c_pul k_pul
  have D_pul : Dn K mg "_law_pull" g_pul := ⟨gl _ _ a_pul, k_pul⟩
  have b_pul := F_pul.binds (ps := ["_law_bag_here", "_law_many"]) fun _ _ _ _ _ _ us hl => match us, hl with | [_, _], _ => rfl
  have F_lof := fun_mk (st := sOf) l_lof c_lof k_lof
  have D_lof : Dn K mg "_law_of" g_lof := ⟨gl _ _ a_lof, k_lof⟩
  have b_lof := F_lof.binds (ps := ["_law_bag_here", "_law_things"]) fun _ _ _ _ _ _ us hl => match us, hl with | [_, _], _ => rfl
  have F_sam := fun_mk (st := sSame) l_sam c_sam k_sam
  have D_sam : Dn K mg "_law_same" g_sam := ⟨gl _ _ a_sam, k_sam⟩
  have b_sam := F_sam.binds (ps := ["_law_found", "_law_due"]) fun _ _ _ _ _ _ us hl => match us, hl with | [_, _], _ => rfl
  have F_lfi := fun_mk (st := sField) l_lfi c_lfi k_lfi
  have D_lfi : Dn K mg "_law_field" g_lfi := ⟨gl _ _ a_lfi, k_lfi⟩
  have b_lfi := F_lfi.binds (ps := ["_law_e"]) fun _ _ _ _ _ _ us hl => match us, hl with | [_], _ => rfl
  have F_lot := fun_mk (st := sOtherField) l_lot c_lot k_lot
  have D_lot : Dn K mg "_law_other_field" g_lot := ⟨gl _ _ a_lot, k_lot⟩
  have b_lot := F_lot.binds (ps := ["_law_e"]) fun _ _ _ _ _ _ us hl => match us, hl with | [_], _ => rfl
  have F_why := fun_mk (st := sWhy) l_why c_why k_why
  have D_why : Dn K mg "_law_why" g_why := ⟨gl _ _ a_why, k_why⟩
  have b_why := F_why.binds (ps := ["_law_ask"]) fun _ _ _ _ _ _ us hl => match us, hl with | [_], _ => rfl
  have F_req := fun_mk (st := sREq) l_req c_req k_req
  have b_req := F_req.binds (ps := ["self", "other"]) fun _ _ _ _ _ _ us hl => match us, hl with | [_, _], _ => rfl
  have F_rst := fun_mk (st := sRStr) l_rst c_rst k_rst
  have b_rst := F_rst.binds (ps := ["self"]) fun _ _ _ _ _ _ us hl => match us, hl with | [_], _ => rfl
  have F_iin := fun_mk (st := sI_InvalidFact) l_iin c_iin k_iin
  have b_iin := F_iin.binds (ps := ["self", "what"]) fun _ _ _ _ _ _ us hl => match us, hl with | [_, _], _ => rfl
  have I_r : FunD K "__init__" "Ratio.__init__" (defArgs sRInit) (defBody sRInit) (defScope sRInit) [.int 1] [] g_rin (PySem.W.fnOf "__init__" "Ratio.__init__" (defArgs sRInit) (defBody sRInit) (defScope sRInit) (.ref T_rin) kV_rin dc_rin pm_rin an_rin cd_rin ct_rin) :=
    ⟨⟨_, _, _, _, _, _, _, _, _, _, rfl, l_rin, c_rin, .inr ⟨by simp, T_rin, _, [Value.int 1 tk_rin], _, rfl, t_rin, rfl, .cons ⟨_, rfl⟩ .nil⟩, .inl rfl⟩, k_rin⟩
  have I_u : FunD K "__init__" "Unseen.__init__" (defArgs sUInit) (defBody sUInit) (defScope sUInit) [.int 1] kwU g_uin (PySem.W.fnOf "__init__" "Unseen.__init__" (defArgs sUInit) (defBody sUInit) (defScope sUInit) (.ref T_uin) (.ref DU) dc_uin pm_uin an_uin cd_uin ct_uin) :=
    ⟨⟨_, _, _, _, _, _, _, _, _, _, rfl, l_uin, c_uin, .inr ⟨by simp, T_uin, _, [Value.int 1 tk_uin], _, rfl, t_uin, rfl, .cons ⟨_, rfl⟩ .nil⟩, .inr ⟨DU, rfl, fun q hq => by
      simp only [kwU, List.mem_cons, List.mem_nil_iff, or_false] at hq
      rcases hq with rfl | rfl | rfl | rfl
      · exact ⟨_, d1, rfl⟩
      · exact ⟨_, d2, ⟨_, rfl⟩⟩
      · exact ⟨_, d3, rfl⟩
      · exact ⟨_, d4, rfl⟩⟩⟩, k_uin⟩
  obtain ⟨dR, vR, bR⟩ := r_binds2 I_r
  have bR3 := r_binds3 I_r
  obtain ⟨dU1, vU1, bU1⟩ := u_binds1 I_u
  obtain ⟨_, _, kb_kPm⟩ := u_kPm I_u
  obtain ⟨_, _, kb_kPmd⟩ := u_kPmd I_u
  obtain ⟨_, _, kb_kZmc⟩ := u_kZmc I_u
  obtain ⟨_, _, kb_kZmcd⟩ := u_kZmcd I_u
  obtain ⟨_, _, kb_kZc⟩ := u_kZc I_u
  obtain ⟨_, _, kb_kPcs⟩ := u_kPcs I_u
  obtain ⟨_, _, kb_kZds⟩ := u_kZds I_u
  obtain ⟨_, _, kb_kPds⟩ := u_kPds I_u
  obtain ⟨_, _, kb_kPs⟩ := u_kPs I_u
  obtain ⟨_, _, kb_kZd⟩ := u_kZd I_u
  obtain ⟨_, _, kb_kZm⟩ := u_kZm I_u
  obtain ⟨_, _, kb_kPcd⟩ := u_kPcd I_u
  refine ⟨PySem.W.fnOf "law" "law" (defArgs sLaw) (defBody sLaw) (defScope sLaw) .none kV_law dc_law pm_law an_law (.ref cL) ct_law, [(cL, PT)], spLaw K PT, fun p hp => by cases List.mem_singleton.mp hp; exact hPT, fun p hp => by cases List.mem_singleton.mp hp; exact nPT, fun p hp => by cases List.mem_singleton.mp hp; exact hCH, fun s v => .of_eq rfl,
    fun H a ns hl _ hT hS => ⟨a, ns, rfl, hS, hl, hT _ (List.mem_singleton.mpr rfl), fun _ => rfl⟩, fun base _ _ hTB => ?_⟩
  have G_sho : FnOk l.prog w K mg base CX0 1 g_sho _ ["value"] spShown := ok_shown F_sho B
  have G_iin : FnOk l.prog w K mg base CX0 2 g_iin _ ["self", "what"] (spI_InvalidFact K) := okI_InvalidFact F_iin BSS D_sho G_sho b_sho
  have G_isi : FnOk l.prog w K mg base CX0 1 g_isi _ ["value"] (spIsInt K) := ok_isInt F_isi B
  have G_isn : FnOk l.prog w K mg base CX0 2 g_isn _ ["value"] (spIsNum K CR) := ok_isNum F_isn B RTT D_isi G_isi b_isi
  have G_rin : FnOk l.prog w K mg base CX0 2 g_rin _ ["self", "top", "bottom"] (spRInit CR) := ok_rinit I_r RTT (gl _ _ aGc) D_isi G_isi b_isi
  have G_rof : FnOk l.prog w K mg base CX0 4 g_rof _ ["number"] (spRatioOf CR) := ok_ratioOf F_rof B RTT MkR G_rin vR bR
  have G_itx : FnOk l.prog w K mg base CX0 1 g_itx _ ["number"] spIntText := ok_intText F_itx B ⟨_, gl _ _ aCb⟩
  have G_rtx : FnOk l.prog w K mg base CX0 2 g_rtx _ ["ratio"] (spRatText CR) := ok_ratText F_rtx RTT D_itx G_itx b_itx
  have G_rst : FnOk l.prog w K mg base CX0 3 g_rst _ ["self"] (spRatText CR) := ok_rstr F_rst D_rtx G_rtx b_rtx
  have G_req : FnOk l.prog w K mg base CX0 2 g_req _ ["self", "other"] (spREq CR) := ok_req F_req B RTT D_isi G_isi b_isi
  have G_cho : FnOk l.prog w K mg base CX0 1 g_cho _ ["value", "words"] (spChoice CR K) := ok_choice F_cho B
  have G_who : FnOk l.prog w K mg base CX0 2 g_who _ ["value", "low", "high"] (spWhole CR) := ok_whole F_who D_isi G_isi b_isi
  have G_mir : FnOk l.prog w K mg base CX0 2 g_mir _ ["arity", "mirror"] (spMirror CR) := ok_mirror F_mir GCC D_cho G_cho b_cho
  have G_swp : FnOk l.prog w K mg base CX0 2 g_swp _ ["arity", "swap"] (spSwap CR) := ok_swap F_swp GCC D_cho G_cho b_cho
  have G_deg : FnOk l.prog w K mg base CX0 3 g_deg _ ["arity", "degree"] (spDegree CR) := ok_degree F_deg GCC D_who G_who b_who
  have G_cen : FnOk l.prog w K mg base CX0 3 g_cen _ ["mirror", "centre"] (spCentre CR) := ok_centre F_cen RTT nfi MEq G_req b_req D_isn G_isn b_isn
  have G_chk : FnOk l.prog w K mg base (L2.CX l.prog w) 4 g_chk _ ["arity", "mirror", "centre", "degree", "swap"] (spCheck CR CI) := ok_check ITT G_iin b_iin F_chk D_who G_who b_who D_mir G_mir b_mir D_cen G_cen b_cen D_deg G_deg b_deg D_swp G_swp b_swp
  have G_ftx : FnOk l.prog w K mg base CX0 6 g_ftx _ ["arity", "mirror", "centre", "degree", "swap"] (spFText CR) := ok_fText F_ftx B MSt G_rst b_rst
  have G_uin : FnOk l.prog w K mg base (L2.CX l.prog w) 7 g_uin _ pU (spUInit CR CU CI) := ok_uinit I_u RTT UTT D_chk G_chk b_chk D_rof G_rof b_rof D_ftx G_ftx b_ftx
  have G_bag : FnOk l.prog w K mg base CX0 1 g_bag _ ["_law_script"] (spBag K) := ok_bag F_bag B
  have G_pul : FnOk l.prog w K mg base CX0 1 g_pul _ ["_law_bag_here", "_law_many"] spPull := ok_pull F_pul B
  have G_lof : FnOk l.prog w K mg base CX0 2 g_lof _ ["_law_bag_here", "_law_things"] spOf := ok_of F_lof B D_pul G_pul b_pul
  have S0 : FnOk l.prog w K mg base CX0 0 g_sam (PySem.W.fnOf "_law_same" "_law_same" (defArgs sSame) (defBody sSame) (defScope sSame) .none kV_sam dc_sam pm_sam an_sam cd_sam ct_sam) ["_law_found", "_law_due"] (spSame 0) := same_zero
  have S1 := ok_same_step F_sam B D_sam S0 b_sam
  have S2 := ok_same_step F_sam B D_sam S1 b_sam
  have S3 := ok_same_step F_sam B D_sam S2 b_sam
  have S4 := ok_same_step F_sam B D_sam S3 b_sam
  have G_lot : FnQ l.prog w K mg base 1 g_lot _ ["_law_e"] (spOtherF K) := ok_otherField F_lot
  have G_lfi : FnQ l.prog w K mg base 2 g_lfi _ ["_law_e"] (spFieldE K) := ok_field F_lfi D_lot G_lot b_lot
  exact ok_law l_law c_law l_why c_why D_why b_why (hTB _ (List.mem_singleton.mpr rfl)) (gl _ _ aS) (gl _ _ aM) D_lfi G_lfi b_lfi B RTT UTT TKK D_bag G_bag b_bag D_pul G_pul b_pul D_lof G_lof b_lof D_sam S4 b_sam
    MkU G_uin bU1 vU1 kb_kPm kb_kPmd kb_kZmc kb_kZmcd kb_kZc kb_kPcs kb_kZds kb_kPds kb_kPs kb_kZd kb_kZm kb_kPcd MkR G_rin bR3 bR vR
end K06

set_option Elab.async false
open PySem PySem.W PyProof.Rows
set_option maxRecDepth 100000 in
set_option maxHeartbeats 0 in
theorem PySem.Challenge.cw_unseenslopes_k06_facts_refused_holds : PySem.Challenge.rw_unseenslopes_k06_facts_refused.Holds := by
  w_on; o_law; k_head; (case hw => w_witness2)
  k_fill
  refine LamX.walk_ofTsE (l := PySem.Challenge.rw_unseenslopes_k06_facts_refused) (n := 63) (k := 11) (x := "_law_script") (CX := fun _ => L2.CX0) rfl (by decide) rfl ⟨rfl, by decide, by decide⟩ ?F (fun _ _ _ _ _ z => z)
  case F =>
    intro w mg fa h Y G hmg
    have KX := PySem.W.km_in_of Y
    refine' ⟨_, KX, K06.all_mk (PT := 500) KX G hmg (PySem.W.km_tabs_of Y 500 (List.mem_singleton.mpr rfl)) ?np (PySem.W.codeHd_of_K KX ?ch) ?aR ?aU ?aI ?aS ?aM ?a_sho ?l_sho ?c_sho ?k_sho ?a_isi ?l_isi ?c_isi ?k_isi ?a_isn ?l_isn ?c_isn ?k_isn ?a_rof ?l_rof ?c_rof ?k_rof ?a_itx ?l_itx ?c_itx ?k_itx ?a_rtx ?l_rtx ?c_rtx ?k_rtx ?a_cho ?l_cho ?c_cho ?k_cho ?a_who ?l_who ?c_who ?k_who ?a_mir ?l_mir ?c_mir ?k_mir ?a_cen ?l_cen ?c_cen ?k_cen ?a_deg ?l_deg ?c_deg ?k_deg ?a_swp ?l_swp ?c_swp ?k_swp ?a_chk ?l_chk ?c_chk ?k_chk ?a_ftx ?l_ftx ?c_ftx ?k_ftx ?a_bag ?l_bag ?c_bag ?k_bag ?a_pul ?l_pul ?c_pul ?k_pul ?a_lof ?l_lof ?c_lof ?k_lof ?a_sam ?l_sam ?c_sam ?k_sam ?a_lfi ?l_lfi ?c_lfi ?k_lfi ?a_lot ?l_lot ?c_lot ?k_lot ?a_why ?l_why ?c_why ?k_why ?a_law ?l_law ?c_law ?k_law ?i_req ?l_req ?c_req ?k_req ?i_rst ?l_rst ?c_rst ?k_rst ?i_iin ?l_iin ?c_iin ?k_iin ?i_rin ?l_rin ?c_rin ?k_rin ?t_rin ?i_uin ?l_uin ?c_uin ?k_uin ?t_uin ?d1 ?d2 ?d3 ?d4 ?aMd ?aCb ?aGc ?bM ?lM ?bS ?lS ?z_isin ?z_tstr ?z_tint ?z_tlist ?z_ttuple ?z_tbool ?z_fabs ?z_frepr ?z_flen ?z_frange ?z_fzip ?z_fall ?z_tve ?z_tle ?lCI ?tyI ?tyF ?vS ?hRv ?hR ?hU ?hG ?hS ?hI⟩
    (case aR => k_is); (case aU => k_is); (case aI => k_is); (case aS => k_is); (case aM => k_is); (case a_sho => k_is); (case l_sho => k_is); (case c_sho => k_is); (case k_sho => k_is); (case a_isi => k_is); (case l_isi => k_is); (case c_isi => k_is); (case k_isi => k_is); (case a_isn => k_is); (case l_isn => k_is); (case c_isn => k_is); (case k_isn => k_is); (case a_rof => k_is); (case l_rof => k_is); (case c_rof => k_is); (case k_rof => k_is); (case a_itx => k_is); (case l_itx => k_is); (case c_itx => k_is); (case k_itx => k_is); (case a_rtx => k_is); (case l_rtx => k_is); (case c_rtx => k_is); (case k_rtx => k_is); (case a_cho => k_is); (case l_cho => k_is); (case c_cho => k_is); (case k_cho => k_is); (case a_who => k_is); (case l_who => k_is); (case c_who => k_is); (case k_who => k_is); (case a_mir => k_is); (case l_mir => k_is); (case c_mir => k_is); (case k_mir => k_is); (case a_cen => k_is); (case l_cen => k_is); (case c_cen => k_is); (case k_cen => k_is); (case a_deg => k_is); (case l_deg => k_is); (case c_deg => k_is); (case k_deg => k_is); (case a_swp => k_is); (case l_swp => k_is); (case c_swp => k_is); (case k_swp => k_is); (case a_chk => k_is); (case l_chk => k_is); (case c_chk => k_is); (case k_chk => k_is); (case a_ftx => k_is); (case l_ftx => k_is); (case c_ftx => k_is); (case k_ftx => k_is); (case a_bag => k_is); (case l_bag => k_is); (case c_bag => k_is); (case k_bag => k_is); (case a_pul => k_is); (case l_pul => k_is); (case c_pul => k_is); (case k_pul => k_is); (case a_lof => k_is); (case l_lof => k_is); (case c_lof => k_is); (case k_lof => k_is); (case a_sam => k_is); (case l_sam => k_is); (case c_sam => k_is); (case k_sam => k_is); (case a_lfi => k_is); (case l_lfi => k_is); (case c_lfi => k_is); (case k_lfi => k_is); (case a_lot => k_is); (case l_lot => k_is); (case c_lot => k_is); (case k_lot => k_is); (case a_why => k_is); (case l_why => k_is); (case c_why => k_is); (case k_why => k_is); (case a_law => k_is); (case l_law => k_is); (case c_law => k_is); (case k_law => k_is); (case i_req => k_is); (case l_req => k_is); (case c_req => k_is); (case k_req => k_is); (case i_rst => k_is); (case l_rst => k_is); (case c_rst => k_is); (case k_rst => k_is); (case i_iin => k_is); (case l_iin => k_is); (case c_iin => k_is); (case k_iin => k_is); (case i_rin => k_is); (case l_rin => k_is); (case c_rin => k_is); (case k_rin => k_is); (case t_rin => k_is); (case i_uin => k_is); (case l_uin => k_is); (case c_uin => k_is); (case k_uin => k_is); (case t_uin => k_is); (case d1 => k_is); (case d2 => k_is); (case d3 => k_is); (case d4 => k_is); (case aMd => k_is); (case aCb => k_is); (case aGc => k_is); (case bM => k_is); (case lM => k_is); (case bS => k_is); (case lS => k_is); (case z_isin => k_is); (case z_tstr => k_is); (case z_tint => k_is); (case z_tlist => k_is); (case z_ttuple => k_is); (case z_tbool => k_is); (case z_fabs => k_is); (case z_frepr => k_is); (case z_flen => k_is); (case z_frange => k_is); (case z_fzip => k_is); (case z_fall => k_is); (case z_tve => k_is); (case z_tle => k_is); (case lCI => k_is); (case tyI => k_is); (case tyF => k_is); (case vS => k_is)
    (case np => kernel_rfl); (case ch => kernel_rfl)
    (case hRv => kernel_rfl); (case hR => kernel_rfl); (case hU => kernel_rfl); (case hG => kernel_rfl); (case hS => kernel_rfl); (case hI => kernel_rfl)
