import PyProof.Rows.All
import Wide.All
import OpenK.AllK
import Wide.FinOn
import KE.KExcInit
import HandS.ForMost
import HandS.Exc
import HandS.ExcInit
import HandS.IsInst
import HandS.Defaults
import HandS.MakeKw
import HandS.FStr
import HandS.RaiseMore
import HandS.ExcIs
import KE.KExcIs
import PyProof.FactsAll.bool_1
import KE.KCallOwn
import PyProof.InstEq
import HandS.Property
import HandS.Gcd
import HandS.MakeKwOnly
import KE.KTryMore
import HandS.HotCalls
import HandS.ExcField
import HandS.Codes
import HandS.Walk
import HandS.Zip
import HandS.Style
import HandS.Lambda
import KE.KFmtOwn
import KE.KOpsOwn
import HandS.Wide
import HandS.StrMore
import PyProof.StrLawsAffix
import PyProof.StrBlockL
import HandS.WordsExc
import HandS.EndTab
import HandS.HeadWalk
import KE.KNestM
import PySem.Challenge.RW_unseenslopes_k02_ratios_made
set_option Elab.async false
set_option linter.all false
set_option maxRecDepth 100000
set_option maxHeartbeats 4000000
/-! Own error classes over any built-in base: called with keywords too, held as values, their fields. -/
namespace Ux
open PySem PySem.Calls PySem.W
open Builtin Builtin.ObjectAttr
section
variable {M : Model} {prog : Program} {w : World} {A : Around} {E : Value → Shared → Prop} {h : Heap} {g : Array GenState} {d : Drawn} {t : Nat} {os : OsState}
variable {nm q : Str} {C N : Addr} {bs bm bmB : List Value} {hdct : Bool} {sn : List Str} {sub : List Value} {ab : Bool} {col : Option Bool} {dd : Option Addr} {k0 k1 k2 k3 k5 : Option Value} {B newId initId : String}
/-- the class object as the built-in rules read it -/
abbrev ClsO (nm q : Str) (C N : Addr) (bs bm : List Value) (hdct : Bool) (sn : List Str) (sub : List Value) (ab : Bool) (col : Option Bool) (dd : Option Addr) (k0 k1 k2 k3 k5 : Option Value) (newId : String) : Obj := excClassObj nm q C N bs bm hdct sn sub ab col dd k0 k1 k2 k3 k5 newId
theorem kw_check (F : ExcBaseFacts B newId initId bmB) (hT : ∀ Y : String, bm.contains (.type Y) = bmB.contains (.type Y)) {rest : List Value} {kw : List (Str × Value)} {Q : Unit → Shared → Prop}
    (oc : h.get? C = some (ClsO nm q C N bs bm hdct sn sub ab col dd k0 k1 k2 k3 k5 newId)) (z : Q () ⟨h, g, d, t, os⟩) : wpAny M A (checkBuiltinCall newId ⟨.ref C :: rest, kw⟩) Q E ⟨h, g, d, t, os⟩ := by
  have inB : (Value.ref C :: bm).contains (.type B) = true := by rw [List.contains_cons, hT B, F.hasB, Bool.or_true]
  have star := F.noStar
  simp only [checkBuiltinCall, F.newKind, F.newSplit, F.newRow]
  repeat (first
    | refine wpAny_loadPart_at oc ?_
    | (refine wpAny_isSubtype_exc oc ?_; rw [inB])
    | refine wpAny_staticBase_exc oc ?_
    | refine wpAny_madeBy_exc oc ?_
    | simp only [bne_self_eq_false, Bool.false_eq_true, if_false]
    | wp_step)
  exact z
theorem kw_new {R : Result → Shared → Prop} (F : ExcBaseFacts B newId initId bmB) (hT : ∀ Y : String, bm.contains (.type Y) = bmB.contains (.type Y)) {rest : List Value} {kw : List (Str × Value)}
    (oc : h.get? C = some (ClsO nm q C N bs bm hdct sn sub ab col dd k0 k1 k2 k3 k5 newId)) (z : R (.ok (.ret (.ref (h.objs.size + 1)))) ⟨(h.push (kdv_tup rest)).push (excObj C h.objs.size none .none), g, d, t, os⟩) (hz : rest.length ≤ sizeLine) :
    codeAny (model prog w) A (.builtin newId ⟨.ref C :: rest, kw⟩) R ⟨h, g, d, t, os⟩ := by
  have ends := F.ends
  have inB : (Value.ref C :: bm).contains (.type B) = true := by rw [List.contains_cons, hT B, F.hasB, Bool.or_true]
  have inA : (Value.ref C :: bm).contains (.type "AttributeError") = false := by rw [List.contains_cons, hT _, F.noAttr]; rfl
  have inN : (Value.ref C :: bm).contains (.type "NameError") = false := by rw [List.contains_cons, hT _, F.noName]; rfl
  refine codeAny_builtinAt F.entry ?_
  unfold Builtin.«BaseException.__new__»
  refine wpAt_bind ?_
  show wpAt _ _ _ (stack >>= _) _ _ _
  refine wpAt_bind (wpAt_stack fun p below => wpAt_of_wpAny ?_)
  wp_walk
  refine wpAt_of_wpAny ?_
  rw [F.owner]
  repeat (first
    | with_reducible refine wpAny_madeHere_exc F.canon oc ?_
    | with_reducible refine wpAny_loadPart_at oc ?_
    | (with_reducible refine wpAny_isSubtype_exc oc ?_; first | rw [inB] | rw [inA] | rw [inN])
    | wp_step)
  show R _ _
  rw [Heap.size_push]
  exact z
theorem kw_typecall (F : ExcBaseFacts B newId initId bmB) (hT : ∀ Y : String, bm.contains (.type Y) = bmB.contains (.type Y)) {rest : List Value} {kw : List (Str × Value)} {fI : Addr} {Q : Fin → Shared → Prop}
    (oc : h.get? C = some (ClsO nm q C N bs bm hdct sn sub ab col dd k0 k1 k2 k3 k5 newId)) (li : Looks (model prog w) h (typeLookup (.ref C) "__init__") (some (.ref fI)))
    (lb : ∀ self, Looks (model prog w) h (bindSpecial (.ref fI) self) (.ref fI, [self])) (hz : rest.length ≤ sizeLine)
    (z : codeAny (model prog w) A (.call (.ref fI) ⟨.ref (h.objs.size + 1) :: rest, kw⟩) (fun r s' => match r with | .ok (.ret v) => v = .none ∧ Q (.done (.ret (.ref (h.objs.size + 1)))) s' | .ok _ => False | .error e => E e s')
      ⟨(h.push (kdv_tup rest)).push (excObj C h.objs.size none .none), g, d, t, os⟩) :
    wpAny (model prog w) A (Builtin.«type.__call__» ⟨.ref C :: rest, kw⟩) Q E ⟨h, g, d, t, os⟩ := by
  repeat (first
    | with_reducible refine wpAny_loadPart_at oc ?_
    | with_reducible refine wpAny_madeBy_exc oc ?_
    | wp_step)
  refine codeAny_call_builtin_code (Code.quiet_builtin _ F.quiet) (kw_check F hT oc ?_)
  refine kw_new F hT oc ?_ hz
  show wpAny _ _ _ _ _ _
  have stays : ∀ b o, h.get? b = some o → ((h.push (kdv_tup rest)).push (excObj C h.objs.size none .none)).get? b = some o := fun b o y => Heap.get?_push_of_some _ (Heap.get?_push_of_some _ y)
  have oc' := stays _ _ oc
  have made : ((h.push (kdv_tup rest)).push (excObj C h.objs.size none .none)).get? (h.objs.size + 1) = some (excObj C h.objs.size none .none) := by heap_get
  have inC : (Value.ref C :: bm).contains (.ref C) = true := by simp
  have i1 := li.keeps stays
  have b1 := (lb (.ref (h.objs.size + 1))).keeps stays
  unfold isInstance
  repeat (first
    | with_reducible refine wpAny_loadPart_at made ?_
    | (with_reducible refine wpAny_isSubtype_exc oc' ?_; rw [inC])
    | wp_step)
  show wpAny _ _ (typeLookup (.ref C) _) _ _ _
  refine i1.at ?_
  refine wpAny_holding (wpAny_bind (b1.at ?_))
  refine wpAny_bind (wpAny_call (codeAny_mono z fun r s' y => ?_))
  rcases r with e | (v | _ | _ | _) <;> first | exact y | exact y.elim | skip
  obtain ⟨rfl, y⟩ := y
  first
    | exact wpAny_pure (wpAny_pure y)
    | (wp_walk; exact y)
theorem kw_call {R : Result → Shared → Prop} (F : ExcBaseFacts B newId initId bmB) (hT : ∀ Y : String, bm.contains (.type Y) = bmB.contains (.type Y)) {rest : List Value} {kw : List (Str × Value)} {fI : Addr}
    (oc : h.get? C = some (ClsO nm q C N bs bm hdct sn sub ab col dd k0 k1 k2 k3 k5 newId)) (li : Looks (model prog w) h (typeLookup (.ref C) "__init__") (some (.ref fI)))
    (lb : ∀ self, Looks (model prog w) h (bindSpecial (.ref fI) self) (.ref fI, [self])) (hz : rest.length ≤ sizeLine)
    (z : codeAny (model prog w) (A.under (.builtin "type.__call__" ⟨.ref C :: rest, kw⟩)) (.call (.ref fI) ⟨.ref (h.objs.size + 1) :: rest, kw⟩) (InitBack (h.objs.size + 1) R)
      ⟨(h.push (kdv_tup rest)).push (excObj C h.objs.size none .none), g, d, t, os⟩) :
    codeAny (model prog w) A (.call (.ref C) ⟨rest, kw⟩) R ⟨h, g, d, t, os⟩ := by
  have f1 := tc_lookup
  have f2 := tc_bind (.ref C)
  have ty : (⟨h, g, d, t, os⟩ : Shared).TypeIs (.ref C) "type" := ⟨_, oc, rfl⟩
  refine codeAny_of_tree ?_
  show wpAny _ _ (callAny (.ref C) _) _ _ _
  repeat (any_goals (first
    | assumption
    | with_reducible refine wpAny_loadPart_at oc ?_
    | wp_step))
  refine ⟨rfl, ?_⟩
  refine codeAny_call_builtin_at (Code.quiet_builtin _ (by decide +kernel)) entry_typeCall (wpAny_check_type_call_sub oc (kw_typecall F hT oc li lb hz ?_))
  refine codeAny_mono z fun r s' y => ?_
  rcases r with e | (v | _ | _ | _) <;> exact y
end
end Ux

set_option Elab.async false
set_option linter.all false
set_option maxRecDepth 100000
set_option maxHeartbeats 4000000
namespace Ux
open PySem PySem.Calls PySem.W
section
variable {prog : Program} {w : World} {A : Around} {E : Value → Shared → Prop} {R : Result → Shared → Prop} {hp : Heap} {g : Array GenState} {d : Drawn} {t : Nat} {os : OsState}
variable {K : Frag} {B : String} {bmB : List Value} {name : Str} {tk : Tok} {v : Value} {x C : Addr}
theorem taker_of (n : findIn K (.ref C) name = some none) : takerIn K C name = some none := by
  unfold takerIn
  rw [n]
  rfl
/-- the first field of an exception -/
theorem put_first {t0 : Addr} (SF : StoreFacts B bmB "object.__setattr__" "object") (IN : K.In hp) (ex : hp.get? x = some (excObj C t0 none .none)) (ov : excOver K C bmB = true) (nf : findIn K (.ref C) name = some none) (hd : hasDictIn K C = true)
    (z : ∀ h' tk' dx, (∀ b o, b ≠ x → hp.get? b = some o → h'.get? b = some o) → hp.objs.size ≤ dx → dx ≠ x → h'.get? x = some (excObj C t0 (some dx) .none) → h'.Ns1 dx (fun y => if y = name then some v else none) → R (.ok (.ret .none)) ⟨h', g, d, tk', os⟩) :
    codeAny (model prog w) A (.call (.builtin "object.__setattr__") ⟨[.ref x, .str name tk, v], []⟩) R ⟨hp, g, d, t, os⟩ := by
  refine osa_openX (s := ⟨hp, g, d, t, os⟩) (od := none) SF IN ⟨ex, rfl, rfl, trivial⟩ ov (taker_of nf) fun b => ?_
  obtain ⟨cd, hc, hdc⟩ := any_some hd
  have lx := Heap.lt_size ex
  have nx : hp.objs.size ≠ x := Nat.ne_of_gt lx
  have ex1 : (hp.push (dictOf [] 0)).get? x = some (excObj C t0 none .none) := Heap.get?_push_of_some _ ex
  refine wpAny_bind (wpAny_pure (wpAny_bind (instanceDict_exc (s := ⟨hp, g, d, t, os⟩) ex (looks_clsIn IN hc) hdc ?_)))
  show wpAny _ _ (Builtin.ObjectAttr.storeInDict hp.objs.size (.str name tk) name v) _ _ _
  refine HandSPX.store_in_new ⟨_, #[], _, (Heap.get?_update_ne _ _ _ _ nx).trans (Heap.get?_push_at rfl rfl), rfl, fun e he => absurd he (by simp), fun _ => rfl⟩ fun h' tk' hn same => ?_
  refine z h' tk' hp.objs.size (fun b o nb ho => ?_) (Nat.le_refl _) nx ?_ hn
  · exact (same.2 b (Nat.ne_of_lt (Heap.lt_size ho))).trans ((Heap.get?_update_ne _ _ _ _ nb).trans (Heap.get?_push_of_some _ ho))
  · exact (same.2 x nx.symm).trans (Heap.get?_update_self _ ex1 rfl)
/-- a further one -/
theorem put_more {t0 dx : Addr} {m0 : Str → Option Value} {ns : List Str} (SF : StoreFacts B bmB "object.__setattr__" "object") (IN : K.In hp) (ex : hp.get? x = some (excObj C t0 (some dx) .none)) (hn : hp.Ns1 dx m0) (hw : Within m0 ns) (hz : ns.length ≤ 1000)
    (ov : excOver K C bmB = true) (nf : findIn K (.ref C) name = some none) (hd : hasDictIn K C = true)
    (z : ∀ h' tk', (∀ b o, b ≠ dx → hp.get? b = some o → h'.get? b = some o) → h'.Ns1 dx (fun y => if y = name then some v else m0 y) → R (.ok (.ret .none)) ⟨h', g, d, tk', os⟩) :
    codeAny (model prog w) A (.call (.builtin "object.__setattr__") ⟨[.ref x, .str name tk, v], []⟩) R ⟨hp, g, d, t, os⟩ := by
  obtain ⟨oD, _, _, hoD, _, _⟩ := hn.count hw
  refine osa_openX (s := ⟨hp, g, d, t, os⟩) (od := some oD) SF IN ⟨ex, rfl, rfl, hoD⟩ ov (taker_of nf) fun b => ?_
  obtain ⟨cd, hc, hdc⟩ := any_some hd
  refine wpAny_bind (wpAny_pure (wpAny_bind (wpAny_bind (wpAny_loadPart ex (wpAny_bind ((looks_clsIn IN hc).here ?_))))))
  rw [hdc]
  refine wpAny_pure (a := some dx) ?_
  exact OEX.store_in_old hn hw hz fun h' tk' hn' same => z h' tk' (fun b o nb ho => (same.2 b nb).trans ho) hn'
end
end Ux

namespace Ux
open PySem PySem.Spec PyProof.Rows L2
/-- what the written part says of an error class over the built-in B -/
structure Ec (K : PySem.W.Frag) (B newId initId : String) (bmB : List Value) (C : Addr) : Prop where
  FB : ExcBaseFacts B newId initId bmB
  SF : StoreFacts B bmB "object.__setattr__" "object"
  ini : PySem.W.excInitIn K C bmB newId = true
  ovr : PySem.W.excOver K C bmB = true
  hdc : PySem.W.hasDictIn K C = true
  sa : PySem.W.findIn K (.ref C) "__setattr__" = some (some (.builtin "object.__setattr__"))
  kc : PySem.W.keepIn K (.ref C) = true
  ga : PySem.W.findIn K (.ref C) "__getattribute__" = some (some (.builtin "BaseException.__getattribute__"))
  gg : PySem.W.findIn K (.ref C) "__getattr__" = some none
  exC : PySem.W.subIn K (.ref C) (.type "BaseException") = some true
section
variable {X : Cx} {pins : List (Addr × Obj)} {σ : L2.St} {H : Hp} {s : Shared} {a C dx : Addr} {f : Str} {y : V} {u : Value} {fs : List (Str × V)} {Q : Unit → Shared → Prop} {E : Value → Shared → Prop} {A : Around} {B newId initId : String} {bmB : List Value}
theorem not_own {c x : Addr} {o : HO} (e : H c = some o) (n : ∀ y, o ≠ .own y) (z : H x = some (.own a)) : x ≠ c := fun q => by
  rw [q, e] at z
  exact n _ (Option.some.inj z)
theorem est_first (T : Ec X.K B newId initId bmB C) (I : Inv X pins σ H s) (ea : H a = some (exo a C none)) (nf : PySem.W.findIn X.K (.ref C) f = some none) (r : RelV y u)
    (z : ∀ dx s', H dx = none → dx ≠ a → Inv X pins σ (upd (upd H dx (exd dx [(f, y)])) a (exo a C (some dx))) s' → Q () s') : wpAny (model X.prog X.w) A (setAttr (.ref a) f u) Q E s := by
  obtain ⟨t1, ho⟩ := exo_at I.hok ea
  obtain ⟨hp, g, d, t, os⟩ := s
  refine PySem.W.set_plain I.kIn (ox := PySem.W.excObj C t1 none .none) (od := none) ⟨ho, rfl, rfl, trivial⟩ T.sa ?_
  refine put_first T.SF I.kIn ho T.ovr nf T.hdc fun h' tk' dx keep lo ne hx hn => ?_
  have fr : H dx = none := I.hok.fresh lo
  have nd : ∀ {b : Addr} {o : Obj}, hp.get? b = some o → b ≠ dx := fun q => Nat.ne_of_lt (Nat.lt_of_lt_of_le (Heap.lt_size q) lo)
  have na : ∀ {b : Addr}, H b = none → b ≠ a := fun n q => by
    rw [q, ea] at n
    cases n
  have U : Un X.fs [] H (upd (upd H dx (exd dx [(f, y)])) a (exo a C (some dx))) hp h' := by
    refine ⟨fun b o q n _ _ => keep b o (na n) q, fun b o q n _ _ => ⟨o.slots, keep b o (na n) q⟩, fun b o q n _ => ?_, fun b o q _ => ?_, fun b xs q => ?_, fun b o v q => ?_, fun b ps q => ⟨#[], ?_⟩⟩
    · rw [upd_ne (na n), upd_ne (nd q)]
      exact n
    · by_cases hb : b = a
      · subst hb
        exact ⟨_, hx⟩
      · exact ⟨o, keep b o hb q⟩
    · rw [upd_ne (at_ne ea q exo_tup), upd_ne (ne_of_none q fr)]
      exact q
    · rw [upd_ne (at_ne ea q exo_frz), upd_ne (ne_of_none q fr)]
      exact q
    · rw [upd_ne (at_ne ea q exo_tbl), upd_ne (ne_of_none q fr), q]
      simp
  refine z dx _ fr ne (I.un (t' := tk') U fun b o q => ?_)
  by_cases hb : b = a
  · subst hb
    rw [upd_same] at q
    cases q
    exact exo_ok hx
  · rw [upd_ne hb] at q
    by_cases hd : b = dx
    · subst hd
      rw [upd_same] at q
      cases q
      exact exd_ok hn (relO_put (fs := []) r fun _ => True.intro)
    · rw [upd_ne hd] at q
      refine (I.hok b o q).stay (fun c v hc w => keep c v ?_ w) (fun c hc => ?_) (fun c xs hc => ?_)
      · rcases hc with hc | hc
        · rw [hc]
          exact hb
        · exact at_ne ea hc exo_own
      · rw [upd_ne (at_ne ea hc exo_own), upd_ne (ne_of_none hc fr)]
        exact hc
      · rw [upd_ne (at_ne ea hc exo_tup), upd_ne (ne_of_none hc fr)]
        exact hc
theorem est_more (T : Ec X.K B newId initId bmB C) (I : Inv X pins σ H s) (ea : H a = some (exo a C (some dx))) (ed : H dx = some (exd dx fs)) (hl : fs.length ≤ 900) (nf : PySem.W.findIn X.K (.ref C) f = some none) (r : RelV y u)
    (z : ∀ s', Inv X pins σ (upd H dx (exd dx ((f, y) :: fs))) s' → Q () s') : wpAny (model X.prog X.w) A (setAttr (.ref a) f u) Q E s := by
  obtain ⟨t1, ho⟩ := exo_at I.hok ea
  obtain ⟨mA, hns, rel⟩ := exd_at I.hok ed
  have hw := within_of rel
  obtain ⟨hp, g, d, t, os⟩ := s
  obtain ⟨oD, _, _, hoD, _, _⟩ := hns.count hw
  refine PySem.W.set_plain I.kIn (ox := PySem.W.excObj C t1 (some dx) .none) (od := some oD) ⟨ho, rfl, rfl, hoD⟩ T.sa ?_
  refine put_more T.SF I.kIn ho hns hw (by rw [List.length_map]; omega) T.ovr nf T.hdc fun h' tk' keep hn => ?_
  have there : ∃ o, h'.get? dx = some o := by
    obtain ⟨o, _, _, q, _⟩ := hn
    exact ⟨o, q⟩
  exact z _ (I.write (t' := tk') (x := dx) (e := dx) (o := exd dx ((f, y) :: fs)) (by rw [ed]; exact True.intro) (.inl rfl) keep there (exd_ok hn (relO_put r rel)))
/-- the base's __init__ on it: nothing of it is told -/
theorem base_init {us : List Value} {Q : Value → Shared → Prop} (T : Ec X.K B newId initId bmB C) (I : Inv X pins σ H s) (ea : H a = some (exo a C none)) (hl : us.length ≤ sizeLine) (z : ∀ s', Inv X pins σ H s' → Q .none s') :
    wpAny (model X.prog X.w) A (call (.builtin initId) (.ref a :: us)) Q E s := by
  obtain ⟨t1, ho⟩ := exo_at I.hok ea
  obtain ⟨nm, N, qn, bs, bm, hdct, sn, sub, ab, col, dd, k0, k1, k2, k3, k5, oc, hT⟩ := PySem.W.excInit_of I.kIn T.ini
  obtain ⟨hp, g, d, t, os⟩ := s
  refine wpAny_call (PySem.HandSPX.init_base T.FB hT oc ho hl fun h' t2 keep hx => ?_)
  have J := I.write (t' := t) (x := a) (e := a) (o := exo a C none) (by rw [ea]; exact True.intro) (.inl rfl) keep ⟨_, hx⟩ (exo_ok hx)
  have same : upd H a (exo a C none) = H := by
    funext b
    by_cases hb : b = a
    · rw [hb, upd_same, ea]
    · rw [upd_ne hb]
  rw [same] at J
  exact z _ J
end
/-- .. whatever the base's other facts -/
def EcI (K : PySem.W.Frag) (initId : String) (C : Addr) : Prop := ∃ (B newId : String) (bmB : List Value), Ec K B newId initId bmB C
def EcA (K : PySem.W.Frag) (C : Addr) : Prop := ∃ initId : String, EcI K initId C
/-! ### readings and rules -/
/-- Base.__init__(self, ..) -/
def tBI (K : PySem.W.Frag) (initId : String) (ta : TA) : TE := fun σ H Q => ta σ H fun vs H1 => ∃ (a C : Addr) (ws : List V), vs = .ref a :: ws ∧ ws.length ≤ 1000 ∧ EcI K initId C ∧ H1 a = some (exo a C none) ∧ Q .non H1
/-- self.f = e -/
def tEst (K : PySem.W.Frag) (f : Str) (to te : TE) : TS := fun D σ H => te σ H fun y H1 => to σ H1 fun x H2 => ∃ a C : Addr, x = .ref a ∧ EcA K C ∧ PySem.W.findIn K (.ref C) f = some none ∧
  ((H2 a = some (exo a C none) ∧ ∀ dx, H2 dx = none → dx ≠ a → D.nx σ (upd (upd H2 dx (exd dx [(f, y)])) a (exo a C (some dx)))) ∨
    ∃ (dx : Addr) (fs : List (Str × V)), H2 a = some (exo a C (some dx)) ∧ H2 dx = some (exd dx fs) ∧ fs.length ≤ 900 ∧ D.nx σ (upd H2 dx (exd dx ((f, y) :: fs))))
/-- e.f -/
def tEf (K : PySem.W.Frag) (f : Str) (to : TE) : TE := fun σ H Q => to σ H fun x H1 => ∃ (a C dx : Addr) (fs : List (Str × V)) (v : V), x = .ref a ∧ EcA K C ∧ PySem.W.findIn K (.ref C) f = some none ∧
  H1 a = some (exo a C (some dx)) ∧ H1 dx = some (exd dx fs) ∧ fs.lookup f = some v ∧ Q v H1
section
variable {X : Cx} {o e : Expr} {es : List Expr} {to te : TE} {ta : TA} {f x : Str} {p p' p1 p2 pos : Pos} {B newId initId : String} {bmB : List Value} {CB : Addr} {mc : Value}
theorem pe_bi {pl : Sem Bool} (hg : Gl X x) (hm : X.mg x = some (.ref CB)) (sg : PySem.W.specialIn X.K (.ref CB) "__getattribute__" = some (some (.builtin "type.__getattribute__"))) (rd : PySem.W.readsIn X.K CB mc = true)
    (vV : PySem.W.findCls X.K (.ref CB) mc "__init__" = some (.val (.builtin initId))) (vh : PySem.W.handedIn (.builtin initId) = true) (ha : PA X (e :: es) ta) (hdb : (x == ("__debug__" : Str)) = false := by decide)
    (hc : eval (.Call (.Attribute (.Name x p1) "__init__" p2) (e :: es) [] pos) X.env = (do
      let ov ← eval (.Name x p1) X.env
      standAt p2.atName
      let (f, first) ← holding [ov] (getMethod ov "__init__" pl)
      callWith pos f first (backTo pos (starEach (e :: es) X.env)) (backToKw pos (keywordEach [] X.env))) := by rfl)
    (he : starEach (e :: es) X.env = (false, eval e X.env) :: starEach es X.env := by rfl) (hpl : (backTo pos (starEach es X.env)).any (·.1) = false := by rfl) :
    PE X (.Call (.Attribute (.Name x p1) "__init__" p2) (e :: es) [] pos) (tBI X.K initId ta) := by
  refine ⟨fun pins s σ H Q I h => ?_⟩
  refine PySem.W.methodCall_KW (ld_glob I hg hm ?_ hdb) hc
  refine PySem.W.method_cls I.kIn sg (PySem.W.cls_value I.kIn rd vV vh ?_)
  show wpAny _ _ (callWith pos (Value.builtin initId) [] (backTo pos (starEach (e :: es) X.env)) []) _ _ _
  refine PyProof.Rows.callWith_method1 (thn (ha.run pos pins _ σ H _ (I.tok _) h) fun us s1 ⟨vs, H1, I1, r1, a, C, ws, ev, hl, T, ea, q⟩ => ?_) he hpl
  subst ev
  obtain ⟨_, _, _, T⟩ := T
  cases r1 with
  | @cons _ u0 _ ur ra rw' =>
    obtain rfl : u0 = Value.ref a := ra
    have hz : ur.length ≤ sizeLine := by
      rw [← Paired.length rw', sizeLine_eq]
      omega
    exact base_init T I1 ea hz fun s' J => ⟨.non, H1, J, rfl, q⟩
theorem ps_est (ho : PE X o to) (he : PE X e te) (hs : swapsWith e (some (.Attribute o f p')) pos.line X.env = pure false := by rfl) : PS X (.Assign [.Attribute o f p'] e pos) (tEst X.K f to te) := by
  refine ⟨fun pins s σ H D I h => ?_⟩
  refine plainObj_wpAny_Assign_Attribute (thn (he.run pins s σ H _ I h) fun v s1 ⟨y, H1, I1, r1, q1⟩ => thn (ho.run pins s1 σ H1 _ I1 q1) fun u s2 ⟨x, H2, I2, r2, a, C, ex, T, nf, q⟩ => ?_) hs
  subst ex
  obtain rfl : u = Value.ref a := r2
  obtain ⟨_, _, _, _, T⟩ := T
  rcases q with ⟨ea, q⟩ | ⟨dx, fs, ea, ed, hl, q⟩
  · exact est_first T I2 ea nf r1 fun dx s' n ne J => ⟨σ, _, J, q dx n ne⟩
  · exact est_more T I2 ea ed hl nf r1 fun s' J => ⟨σ, _, J, q⟩
theorem pe_ef (ho : PE X o to) (hb : attributeBase o f X.env (eval o X.env) = eval o X.env := by rfl) : PE X (.Attribute o f pos) (tEf X.K f to) := by
  refine ⟨fun pins s σ H Q I h => ?_⟩
  refine attr_of hb (thn (ho.run pins s σ H _ I h) fun u s1 hh => ?_)
  obtain ⟨x, H1, I1, rx, a, C, dx, fs, v, ex, T, nf, ea, ed, l, q⟩ := hh
  subst ex
  obtain rfl : u = Value.ref a := rx
  obtain ⟨_, _, _, _, T⟩ := T
  obtain ⟨t1, hoa⟩ := exo_at I1.hok ea
  obtain ⟨mA, hns, hr⟩ := exd_at I1.hok ed
  obtain ⟨od, hod, hl⟩ := lookIn_ns hns
  obtain ⟨u, hu, ru⟩ := RelO.some_of (v := v) (o := mA f) (by rw [← l]; exact hr f)
  have J : PySem.W.InstAt s1.heap a (PySem.W.excObj C t1 (some dx) .none) C (some od) := ⟨hoa, rfl, rfl, hod⟩
  exact HandSPX.exc_get I1.kIn J T.ga T.gg T.exC (PySem.W.findObj_own T.hdc nf rfl (by rw [hl, hu])) (handed_of ru) ⟨v, H1, I1.tok _, ru, q⟩
end
/-! ### an error made -/
/-- C(..) by values vs and keywords zs: a new error a, then __init__ by its promise -/
def tMkE (C : Addr) (n m : Nat) (sp : Sp) (gV : List V → List V → List V) (ta tk : TA) : TE := fun σ H Q => ta σ H fun vs H1 => tk σ H1 fun zs H2 => vs.length = n ∧ zs.length = m ∧ ∀ a, H2 a = none → sp (gV (.ref a :: vs) zs) (upd H2 a (exo a C none)) (fun v H3 => v = .non ∧ Q (.ref a) H3) (fun _ _ _ => False)
section
variable {X : Cx} {CX : CXT} {k n : Nat} {fI C : Addr} {fd : FuncData} {ps ks : List Str} {sp : Sp} {B newId initId : String} {bmB : List Value} {g : List Value → List Value → List Value} {gV : List V → List V → List V}
theorem run_mkE {pins : List (Addr × Obj)} {σ : L2.St} {H : Hp} {s : Shared} {Q : VK} {us ws : List Value} {vs zs : List V} (T : Ec X.K B newId initId bmB C) (iC : PySem.W.findIn X.K (.ref C) "__init__" = some (some (.ref fI))) (tI : PySem.W.typeIn X.K (.ref fI) = some (.type "function"))
    (F : FnOk X.prog X.w X.K X.mg X.base CX k fI fd ps sp) (hr : Room (k + 1) X.A) (hb : KBn X.K fd ps (n + 1) ks g gV) (hx : Passes CX X (fun _ _ _ => False)) (I : Inv X pins σ H s) (r : Vals vs us) (rz : Vals zs ws) (l1 : vs.length = n) (l2 : zs.length = ks.length) (hn : n ≤ 1000)
    (z : ∀ a, H a = none → sp (gV (.ref a :: vs) zs) (upd H a (exo a C none)) (fun v H3 => v = .non ∧ Q (.ref a) H3) (fun _ _ _ => False)) :
    wpAny (model X.prog X.w) X.A (call (.ref C) us (ks.zip ws)) (EP X pins σ Q) X.xe s := by
  obtain ⟨nm, N, qn, bs, bm, hdct, sn, sub, ab, col, dd, k0, k1, k2, k3, k5, oc, hT⟩ := PySem.W.excInit_of I.kIn T.ini
  obtain ⟨hp, gn, dr, tk, os⟩ := s
  have lo : hp.objs.size ≤ hp.objs.size + 1 := Nat.le_succ _
  have fr : H (hp.objs.size + 1) = none := I.hok.fresh lo
  have hq := z _ fr
  have kk : ∀ b o, hp.get? b = some o → ((hp.push (PySem.W.kdv_tup us)).push (PySem.W.excObj C hp.objs.size none .none)).get? b = some o := fun b o e => Heap.get?_push_of_some _ (Heap.get?_push_of_some _ e)
  have made : ((hp.push (PySem.W.kdv_tup us)).push (PySem.W.excObj C hp.objs.size none .none)).get? (hp.objs.size + 1) = some (PySem.W.excObj C hp.objs.size none .none) := by heap_get
  have I2 : Inv X pins σ (upd H (hp.objs.size + 1) (exo (hp.objs.size + 1) C none)) ⟨(hp.push (PySem.W.kdv_tup us)).push (PySem.W.excObj C hp.objs.size none .none), gn, dr, tk, os⟩ :=
    I.laid (t' := tk) (a := hp.objs.size + 1) (o := exo (hp.objs.size + 1) C none) kk lo (exo_ok made)
  have r1 : Vals (V.ref (hp.objs.size + 1) :: vs) (Value.ref (hp.objs.size + 1) :: us) := .cons rfl r
  have r2 := hb.rel r1 rz
  have e1 : (Value.ref (hp.objs.size + 1) :: us).length = n + 1 := r1.length.symm.trans (congrArg Nat.succ l1)
  have e2 : ws.length = ks.length := rz.length.symm.trans l2
  have hus : us.length ≤ sizeLine := by
    rw [← Paired.length r, l1, sizeLine_eq]
    omega
  refine wpAny_call (kw_call T.FB hT oc (PySem.W.looks_findIn I.kIn iC) (fun self => PySem.W.bind_fn I.kIn self tI) hus
    (codeAny_mono (F.run _ X.stack _ _ ⟨Value.ref (hp.objs.size + 1) :: us, ks.zip ws⟩ (g (Value.ref (hp.objs.size + 1) :: us) ws) _ _ (fun _ _ _ => False) (hr.make C us (ks.zip ws)) (I2.env0.make C us (ks.zip ws)) (hb.to _ (Value.ref (hp.objs.size + 1) :: us) ws I2.kIn e1 e2) r2 hq) fun r s' hq' => ?_))
  cases r with
  | error er => exact hx pins σ _ _ er s' I2 hq'
  | ok fl =>
    cases fl with
    | ret u =>
      obtain ⟨v, H', I3, rv, ev, q3⟩ := I2.after hq'
      subst ev
      exact ⟨rv, ⟨V.ref (hp.objs.size + 1), H', I3, rfl, q3⟩⟩
    | next => exact False.elim hq'
    | brk => exact False.elim hq'
    | cont => exact False.elim hq'
end
end Ux

set_option Elab.async false
set_option linter.all false
set_option maxRecDepth 100000
set_option maxHeartbeats 4000000
namespace Ux
open PySem PySem.Spec PyProof.Rows L2
section
variable {X : Cx} {CX : CXT} {k n : Nat} {fI C : Addr} {fd : FuncData} {ps ks : List Str} {sp : Sp} {B newId initId : String} {bmB : List Value} {g : List Value → List Value → List Value} {gV : List V → List V → List V}
variable {x : Str} {p pos : Pos} {e : Expr} {es : List Expr} {kws : List Keyword} {ta tk : TA}
theorem kbn_pos {K : PySem.W.Frag} {fd : FuncData} {ps : List Str} (hb : Binds K fd ps []) (n : Nat) (hn : ps.length = n) : KBn K fd ps n [] (fun us _ => us) (fun vs _ => vs) := by
  refine ⟨fun s us ws IN l1 l2 => ?_, fun r _ => r⟩
  have hz : ws = [] := List.length_eq_zero_iff.mp l2
  subst hz
  have z := hb s us IN (by rw [List.append_nil, l1, hn])
  rw [List.append_nil] at z
  exact z
theorem kbn_mk {K : PySem.W.Frag} {y qual : Str} {st : Stmt} {f : Addr} {fd : FuncData} (F : Fun K y qual st f fd) (n : Nat) (ks : List Str) (g : {α : Type} → List α → List α → List α)
    (hrel : ∀ {vs zs : List V} {us ws : List Value}, Vals vs us → Vals zs ws → Vals (g vs zs) (g us ws))
    (h : ∀ (kV doc pm : Value) (an : Option Addr) (cdv ct : Value) (us ws : List Value), us.length = n → ws.length = ks.length → bindArgs (PySem.W.fnOf y qual (defArgs st) (defBody st) (defScope st) .none kV doc pm an cdv ct) ⟨us, ks.zip ws⟩ = pure (ps.zip (g us ws))) : KBn K fd ps n ks (fun us ws => g us ws) (fun vs zs => g vs zs) := by
  obtain ⟨oc, od, kV, doc, pm, an, cdv, ct, osl, rfl, lk, hcd⟩ := F.ex
  exact ⟨fun s us ws _ l1 l2 => .of_eq (h kV doc pm an cdv ct us ws l1 l2), fun r z => hrel r z⟩
/-- C(e, ..) -/
theorem pe_mkE (T : Ec X.K B newId initId bmB C) (iC : PySem.W.findIn X.K (.ref C) "__init__" = some (some (.ref fI))) (tI : PySem.W.typeIn X.K (.ref fI) = some (.type "function")) (F : FnOk X.prog X.w X.K X.mg X.base CX k fI fd ps sp) (hr : Room (k + 1) X.A)
    (hb : KBn X.K fd ps (n + 1) [] g gV) (hx : Passes CX X (fun _ _ _ => False)) (hn : n ≤ 1000) (hg : Gl X x) (hm : X.mg x = some (.ref C)) (ha : PA X (e :: es) ta)
    (hdb : (x == ("__debug__" : Str)) = false := by decide) (he : starEach (e :: es) X.env = (false, eval e X.env) :: starEach es X.env := by rfl) (hpl : (backTo pos (starEach es X.env)).any (·.1) = false := by rfl) :
    PE X (.Call (.Name x p) (e :: es) [] pos) (tMkE C n 0 sp gV ta tNil) := by
  refine ⟨fun pins s σ H Q I h => ?_⟩
  refine wpAny_Call_Name_kw (ld_glob I hg hm ?_ hdb)
  refine PySem.W.callWith_K (h₀ := X.base) I.ok.mod.kin T.kc (thn (ha.run pos pins s σ H _ I h) fun us s1 hh => ?_) he hpl
  obtain ⟨vs, H1, I1, r1, l1, _, z⟩ := hh
  refine ⟨I1.kIn, ?_⟩
  exact run_mkE (ks := []) (ws := []) (zs := []) T iC tI F hr hb hx I1 r1 .nil l1 rfl hn z
/-- C() -/
theorem pe_mkE0 (T : Ec X.K B newId initId bmB C) (iC : PySem.W.findIn X.K (.ref C) "__init__" = some (some (.ref fI))) (tI : PySem.W.typeIn X.K (.ref fI) = some (.type "function")) (F : FnOk X.prog X.w X.K X.mg X.base CX k fI fd ps sp) (hr : Room (k + 1) X.A)
    (hb : KBn X.K fd ps 1 [] g gV) (hx : Passes CX X (fun _ _ _ => False)) (hg : Gl X x) (hm : X.mg x = some (.ref C)) (hdb : (x == ("__debug__" : Str)) = false := by decide) : PE X (.Call (.Name x p) [] [] pos) (tMkE C 0 0 sp gV tNil tNil) := by
  refine ⟨fun pins s σ H Q I h => ?_⟩
  refine wpAny_Call_Name_kw (ld_glob I hg hm ?_ hdb)
  obtain ⟨l1, l2, z⟩ := h
  exact PySem.W.callWith_K0 I.kIn T.kc (run_mkE (ks := []) (ws := []) (zs := []) (us := []) (vs := []) T iC tI F hr hb hx I .nil .nil rfl rfl (Nat.zero_le _) z)
/-- C(k = e, ..) -/
theorem pe_mkEK (T : Ec X.K B newId initId bmB C) (iC : PySem.W.findIn X.K (.ref C) "__init__" = some (some (.ref fI))) (tI : PySem.W.typeIn X.K (.ref fI) = some (.type "function")) (F : FnOk X.prog X.w X.K X.mg X.base CX k fI fd ps sp) (hr : Room (k + 1) X.A)
    (hb : KBn X.K fd ps 1 ks g gV) (hx : Passes CX X (fun _ _ _ => False)) (hg : Gl X x) (hm : X.mg x = some (.ref C)) (hkw : PK X kws tk)
    (hall : (backToKw pos (keywordEach kws X.env)).all (·.1.isSome) = true := by rfl) (hks : (backToKw pos (keywordEach kws X.env)).filterMap (·.1) = ks := by rfl) (hdb : (x == ("__debug__" : Str)) = false := by decide)
    (hpl : ((backTo pos (starEach [] X.env)).any (·.1) || (backToKw pos (keywordEach kws X.env)).any (·.1.isNone)) = false := by rfl) :
    PE X (.Call (.Name x p) [] kws pos) (tMkE C 0 ks.length sp gV tNil tk) := by
  refine ⟨fun pins s σ H Q I h => ?_⟩
  refine wpAny_Call_Name_kw (ld_glob I hg hm ?_ hdb)
  refine PySem.W.callWith_KW0 (h₀ := X.base) I.ok.mod.kin T.kc hall ?_ hpl
  refine thn (hkw.run pos pins s σ H _ I h) fun ws s2 hh => ?_
  obtain ⟨zs, H2, I2, rz, l1, l2, z⟩ := hh
  refine ⟨I2.kIn, ?_⟩
  rw [hks]
  exact run_mkE (us := []) (vs := []) T iC tI F hr hb hx I2 .nil rz rfl l2 (Nat.zero_le _) z
end
/-! ### isinstance of an error -/
structure Ei (K : PySem.W.Frag) (C : Addr) : Prop where
  cl : (PySem.W.clsIn K C).isSome = true
  hg : PySem.W.findIn K (.ref C) "__getattribute__" = some (some (.builtin "BaseException.__getattribute__"))
  hk : PySem.W.findIn K (.ref C) "__getattr__" = some none
  hs : PySem.W.subIn K (.ref C) (.type "BaseException") = some true
  ha : PySem.W.findIn K (.ref C) "__class__" = some (some (.builtin "object.__class__"))
  hn : PySem.W.specialIn K (.builtin "object.__class__") "__get__" = some (some (.builtin "getset_descriptor.__get__"))
  ht : PySem.W.takesIn K (.builtin "object.__class__") = some true
  hm : PySem.W.mroIn K C (.type "object") = some true
/-- isinstance(e, c), e an error with its dict -/
def rIsEr (K : PySem.W.Frag) : List V → Hp → VK → Prop := fun xs H Q => ∃ (a C dx : Addr) (fs : List (Str × V)) (c : V) (u : Value) (b : Bool), xs = [.ref a, c] ∧ ClsV c u ∧ Ei K C ∧ H a = some (exo a C (some dx)) ∧ H dx = some (exd dx fs) ∧ PySem.W.kitOne K (.ref C) u = some b ∧ Q (.bl b) H
theorem call_isEr {X : Cx} : CallR X (.builtin "isinstance") (rIsEr X.K) := by
  intro pins s σ H xs us Q I r h
  obtain ⟨a, C, dx, fs, c, u, b, rfl, kc, E, ea, ed, e, q⟩ := h
  obtain ⟨u1, u2, rfl, r1, r2⟩ := vals2 r
  cases (show u1 = Value.ref a from r1)
  have ec := kc.eq r2
  subst ec
  obtain ⟨t1, hoa⟩ := exo_at I.hok ea
  obtain ⟨mA, hns, hr⟩ := exd_at I.hok ed
  obtain ⟨od, hod, hl⟩ := lookIn_ns hns
  have J : PySem.W.InstAt s.heap a (PySem.W.excObj C t1 (some dx) .none) C (some od) := ⟨hoa, rfl, rfl, hod⟩
  exact PySem.W.kia_one (PySem.W.kitx_exc E.cl E.hg E.hk E.hs E.ha E.hn E.ht E.hm) I.kIn J e (fun z => nomatch z) fun tk => ⟨.bl b, H, I.tok tk, rfl, q⟩
/-! ### abs and str of a truth value -/
theorem abs_true {prog : Program} {w : World} {A : Around} {E : Value → Shared → Prop} {s : Shared} {Q : Value → Shared → Prop} (h : ∀ u tk, Q (.int 1 u) { s with toks := tk }) : wpAny (model prog w) A (call (.builtin "abs") [.bool true]) Q E s := by
  refine PySem.Calls.call_function_entry kind_abs plain_abs entry_abs (args_abs _) ?_
  unfold Builtin.«abs»
  refine wpAny_bind (m := oneArg "abs" _) (wpAny_pure ?_)
  refine wpAny_bind (m := callSpecial? (.bool true) (Str.ofString "__abs__")) (wpAny_callSpecial?_slot (name := Str.ofString "__abs__") (PySem.typeIs_bool s true) F.slot_bool_abs
    (wpAny_call_entry F.slot_bool_abs (PySem.typeIs_bool s true) entry_int_abs ?_ (args_int_abs _)))
  have h' := h s.toks (s.toks + 1)
  exact wpAny_ret_mkInt (wpAny_pure ⟨_, rfl, h'⟩)
theorem call_absT {X : Cx} : CallR X (.builtin "abs") (fun xs H Q => (∃ i, xs = [.int i] ∧ Q (.int (if i < 0 then -i else i)) H) ∨ (xs = [.bl true] ∧ Q (.int 1) H)) := by
  intro pins s σ H xs us Q I r h
  rcases h with ⟨i, rfl, q⟩ | ⟨rfl, q⟩
  · obtain ⟨u, rfl, t, rfl⟩ := vals1 r
    exact call_abs_int fun u tk => ⟨.int (if i < 0 then -i else i), H, I.tok _, ⟨_, rfl⟩, q⟩
  · obtain ⟨u, rfl, r1⟩ := vals1 r
    cases (show u = Value.bool true from r1)
    exact abs_true fun u tk => ⟨.int 1, H, I.tok _, ⟨_, rfl⟩, q⟩
theorem str_true {prog : Program} {w : World} {A : Around} {E : Value → Shared → Prop} {s : Shared} {Q : Value → Shared → Prop} (h : Q (.str "True" s.toks) { s with toks := s.toks + 1 }) : wpAny (model prog w) A (call (.type "str") [.bool true]) Q E s :=
  callType_new F.called_str (by decide) (F.typeCall_str_1 _) (F.newCall_str_1 _) (fun obj => F.args_object_init_2 obj _) F.entry_str_new
    (meets_str_new (S := fun _ R s => R (.ok (.ret (.str "True" s.toks))) { s with toks := s.toks + 1 }) fun _ _ _ _ s hq =>
      wpAny_strOf_gives rfl (PySem.typeIs_bool s true) F.slot_bool_str F.slot_bool_repr F.entry_bool_repr (F.args_bool_repr_1 _) (gives_bool_repr true) hq (hsz := by decide)) ⟨typeIs_str _ _ _, h⟩
theorem call_strT {X : Cx} : CallR X (.type "str") (fun xs H Q => (∃ i, xs = [.int i] ∧ i.natAbs.log2 < 1920 ∧ Q (.str (toString i)) H) ∨ (xs = [.bl true] ∧ Q (.str "True") H)) := by
  intro pins s σ H xs us Q I r h
  rcases h with ⟨i, rfl, hz, q⟩ | ⟨rfl, q⟩
  · obtain ⟨u, rfl, t, rfl⟩ := vals1 r
    exact PySem.P.str_of_int hz ⟨.str _, H, I.tok _, ⟨_, rfl⟩, q⟩
  · obtain ⟨u, rfl, r1⟩ := vals1 r
    cases (show u = Value.bool true from r1)
    exact str_true ⟨.str _, H, I.tok _, ⟨_, rfl⟩, q⟩
theorem call_reprS {X : Cx} : CallR X (.builtin "repr") (fun xs H Q => ∃ x, xs = [.str x] ∧ (reprText x).length ≤ sizeLine ∧ Q (.str (reprText x)) H) := by
  intro pins s σ H xs us Q I r h
  obtain ⟨x, rfl, hz, q⟩ := h
  obtain ⟨u, rfl, t, rfl⟩ := vals1 r
  exact PySem.P.repr_of_str (hsz := hz) ⟨.str _, H, I.tok _, ⟨_, rfl⟩, q⟩
end Ux

set_option Elab.async false
set_option linter.all false
set_option maxRecDepth 100000
set_option maxHeartbeats 4000000
/-! Own classes: str, repr, == and != by the text's own methods. -/
namespace Ux
open PySem PySem.Spec PyProof.Rows L2
section
variable {X : Cx} {pins : List (Addr × Obj)} {σ : L2.St} {H : Hp} {s : Shared} {k : Nat} {f C : Addr} {fd : FuncData} {ps : List Str} {sp : Sp}
theorem own_run {A' : Around} {us : List Value} {vs : List V} {Q : VK} {R : Value → Shared → Prop} {E' : Value → Shared → Prop} (F : FnOk X.prog X.w X.K X.mg X.base CX0 k f fd ps sp) (hr : Room k A') (e0 : Env0 X.prog X.w X.K X.mg X.base A' X.stack s H)
    (hb : Binds X.K fd ps []) (I : Inv X pins σ H s) (r : Vals vs us) (h : sp vs H Q (fun _ _ _ => False)) (z : ∀ u s', EP X pins σ Q u s' → R u s') : wpAny (model X.prog X.w) A' (call (.ref f) us) R E' s := by
  have hl : us.length = ps.length := r.length.symm.trans (F.len _ _ _ _ h)
  have b := hb s us I.kIn (by rw [List.append_nil]; exact hl)
  rw [List.append_nil] at b
  refine wpAny_call (codeAny_mono (F.run A' X.stack s H ⟨us, []⟩ us vs Q (fun _ _ _ => False) hr e0 b r h) fun r s' hq => ?_)
  cases r with
  | error e => exact False.elim hq
  | ok fl =>
    cases fl with
    | ret u => exact z u s' (I.after hq)
    | next => exact False.elim hq
    | brk => exact False.elim hq
    | cont => exact False.elim hq
/-- an own method by its name, on an instance -/
structure OwnM (K : PySem.W.Frag) (C : Addr) (m : Str) (f : Addr) : Prop where
  at_ : PySem.W.findIn K (.ref C) m = some (some (.ref f))
  fn : PySem.W.isFn K (.ref f) = true
/-- a text handed back -/
def rOwnS (C : Addr) (sp : Sp) : List V → Hp → VK → Prop := fun xs H Q => ∃ (a dx : Addr) (fs : List (Str × V)), xs = [.ref a] ∧ H a = some (.ins C dx fs) ∧ sp [.ref a] H (fun v H' => ∃ z, v = .str z ∧ Q (.str z) H') (fun _ _ _ => False)
theorem call_strO (M : OwnM X.K C "__str__" f) (F : FnOk X.prog X.w X.K X.mg X.base CX0 k f fd ["self"] sp) (hb : Binds X.K fd ["self"] []) (hr : Room (k + 2) X.A) : CallR X (.type "str") (rOwnS C sp) := by
  intro pins s σ H xs us Q I r h
  obtain ⟨a, dx, fs, rfl, ea, q⟩ := h
  obtain ⟨u, rfl, rx⟩ := vals1 r
  cases (show u = Value.ref a from rx)
  obtain ⟨mA, O, _⟩ := ins_get I.hok ea
  obtain ⟨od, J, _⟩ := O.look
  refine PySem.W.kso_call hr.in1.in1.units0 I.kIn J M.at_ M.fn (own_run F hr.in1.in1 I.env0.in1.in1 hb (vs := [.ref a]) I (.cons rfl .nil) q fun u s' hq => ?_)
  obtain ⟨v, H', I', rv, z, ev, q'⟩ := hq
  subst ev
  obtain ⟨t, rfl⟩ := rv
  exact ⟨.str z, H', I', ⟨t, rfl⟩, q'⟩
theorem call_reprO (M : OwnM X.K C "__repr__" f) (F : FnOk X.prog X.w X.K X.mg X.base CX0 k f fd ["self"] sp) (hb : Binds X.K fd ["self"] []) (hr : Room (k + 1) X.A) : CallR X (.builtin "repr") (rOwnS C sp) := by
  intro pins s σ H xs us Q I r h
  obtain ⟨a, dx, fs, rfl, ea, q⟩ := h
  obtain ⟨u, rfl, rx⟩ := vals1 r
  cases (show u = Value.ref a from rx)
  obtain ⟨mA, O, _⟩ := ins_get I.hok ea
  obtain ⟨od, J, _⟩ := O.look
  obtain ⟨m, hF⟩ := I.fr
  refine PySem.W.repr_K hr.in1.units0 hF I.ok.mod.kin J M.at_ M.fn (own_run F hr.in1 I.env0.in1 hb (vs := [.ref a]) I (.cons rfl .nil) q fun u s' hq => ?_)
  obtain ⟨v, H', I', rv, z, ev, q'⟩ := hq
  subst ev
  obtain ⟨t, rfl⟩ := rv
  exact ⟨.str z, H', I', ⟨t, rfl⟩, q'⟩
/-- o == y, o != y by o's own __eq__ -/
def rOwnEq (K : PySem.W.Frag) (C : Addr) (sp : Sp) (neg : Bool) : R2 := fun x y H Q => ∃ (a dx : Addr) (fs : List (Str × V)) (t : Value), x = .ref a ∧ H a = some (.ins C dx fs) ∧ TyX K H y t ∧ PySem.W.notFirst K C t = true ∧ sp [x, y] H (fun v H' => ∃ b, v = .bl b ∧ Q (.bl (b != neg)) H') (fun _ _ _ => False)
theorem op_eqO (M : OwnM X.K C "__eq__" f) (F : FnOk X.prog X.w X.K X.mg X.base CX0 k f fd ["self", "other"] sp) (hb : Binds X.K fd ["self", "other"] []) (hr : Room k X.A) : OpR X (compareOp .Eq) (rOwnEq X.K C sp false) := by
  intro pins s σ H x y v u Q I rx ry h
  obtain ⟨a, dx, fs, t, rfl, ea, ty, nf, q⟩ := h
  cases (show v = Value.ref a from rx)
  obtain ⟨mA, O, _⟩ := ins_get I.hok ea
  obtain ⟨od, J, _⟩ := O.look
  obtain ⟨m, hF⟩ := I.fr
  obtain ⟨P', Z, hp, _⟩ := kit_of I ry ty
  show wpAny (model X.prog X.w) X.A (richCompare .Eq (.ref a) u) (EP X pins σ Q) X.xe s
  refine PySem.W.cmp_K (op := .Eq) (tb := t) hr.units0 hF I.ok.mod.kin J (Z.ty _ _ I.kIn hp) nf M.at_ M.fn (own_run F hr I.env0 hb (vs := [.ref a, y]) I (.cons rfl (.cons ry .nil)) q fun w s' hq => ?_)
  obtain ⟨v, H', I', rv, b, ev, q'⟩ := hq
  subst ev
  cases (show w = Value.bool b from rv)
  have e : (b != false) = b := by cases b <;> rfl
  rw [e] at q'
  exact ⟨.bl b, H', I', rfl, q'⟩
/-- what != wants besides: the class keeps object's __ne__ -/
structure NeO (K : PySem.W.Frag) (C : Addr) : Prop where
  ne : PySem.W.findIn K (.ref C) "__ne__" = some (some (.builtin "object.__ne__"))
  ob : PySem.W.mroIn K C (.type "object") = some true
end
end Ux
namespace Ux
open PySem PySem.W
section
variable {prog : Program} {w : World} {M : Model} {A : Around} {E : Value → Shared → Prop} {s : Shared} {K : Frag} {x C L f : Addr} {h₀ : Heap} {m : Str → Option Value} {ox : Obj} {od : Option Obj} {tb b : Value}
theorem ifBound_bi {name : Str} {id : String} {args : List Value} {Q : Option Value → Shared → Prop} (IN : K.In s.heap) (I : InstAt s.heap x ox C od) (hs : findIn K (.ref C) name = some (some (.builtin id))) (hb : ∀ self, bindSpecial (.builtin id) self = pure (.builtin id, [self]))
    (hn : (Value.builtin id == Value.none) = false) (h : wpAny M A (call (.builtin id) (.ref x :: args)) (fun v => Q (some v)) E s) : wpAny M A (callSpecialIfBound? (.ref x) name args) Q E s := by
  simp only [callSpecialIfBound?, bindSpecialIfBound?]
  refine wpAny_holding (wpAny_bind (wpAny_bind (wpAny_bind (I.type.here ((looks_findIn IN hs).here ?_)))))
  simp only [hb]
  refine wpAny_bind (wpAny_askSetting (wpAny_ite ?_))
  have last : wpAny M A (call (.builtin id) ([.ref x] ++ args) >>= fun v => pure (some v)) Q E s := wpAny_bind (wpAny_mono h (fun v s' z => wpAny_pure z) fun _ _ z => z)
  split
  · exact wpAny_bind (wpAny_pure (wpAny_pure last))
  · exact wpAny_tryCatch (wpAny_bind (wpAny_pure (wpAny_pure last)))
/-- o != b where o has its own __eq__ and keeps object's __ne__ -/
theorem ne_own {Q : Value → Shared → Prop} (hu : A.units < cLine) (hu1 : A.in1.units < cLine) (IN : K.In s.heap) (I : InstAt s.heap x ox C od) (hb : Looks (model prog w) s.heap (typeOf b) tb) (hn : notFirst K C tb = true)
    (hne : findIn K (.ref C) "__ne__" = some (some (.builtin "object.__ne__"))) (hm : mroIn K C (.type "object") = some true) (hs : findIn K (.ref C) "__eq__" = some (some (.ref f))) (hf : isFn K (.ref f) = true)
    (h : wpAny (model prog w) A.in1 (call (.ref f) [.ref x, b]) (fun v s' => ∃ r, v = .bool r ∧ Q (.bool (!r)) s') E s) : wpAny (model prog w) A (richCompare .NotEq (.ref x) b) Q E s := by
  have SL := PySem.F.cmp_object.ne
  have one : wpAny (model prog w) A (tryCompare (.ref x) "__ne__" b) (fun r s' => ∃ v, r = some v ∧ Q v s') E s := by
    unfold tryCompare
    refine wpAny_bind (ifBound_bi IN I hne SL.bind rfl ?_)
    refine wpAny_call (codeAny_call_builtin SL.plain PySem.F.cmpEntry_ne (check_slot (i := "object.__ne__") (owner := "object") (n := "__ne__") PySem.F.cmpKind_ne PySem.F.cmpSplit_ne (I.type.andThen (looks_mroIn IN hm)) (PySem.F.cmpArgs_ne _ _) ?_))
    unfold Builtin.«object.__ne__»
    refine wpAny_bind (m := slotArgs "__ne__" 1 _) (wpAny_pure ?_)
    refine wpAny_bind (m := cRoomFor _ _) (wpAny_cRoomFor hu1 ?_)
    refine wpAny_bind (m := callSpecialIfBound? (.ref x) (Str.ofString "__eq__") _) (ifBound_K IN I hs hf (wpAny_mono h (fun v s' z => ?_) fun _ _ z => z))
    obtain ⟨r, rfl, q⟩ := z
    refine wpAny_bind (wpAny_truthy_bool ?_)
    exact wpAny_pure (wpAny_pure ⟨_, rfl, q⟩)
  have SN : (cmpInfo .NotEq).2.1 = ("__ne__" : Str) := rfl
  unfold richCompare
  simp only [oneThing_ref, cmpInfo_NotEq]
  refine wpAny_holding (wpAny_bind (wpAny_cRoomFor hu ?_))
  refine wpAny_bind (I.type.here (wpAny_bind (hb.here ?_)))
  split
  · rename_i q
    have e : subIn K tb (.ref C) = some false := by
      rcases Bool.or_eq_true_iff.mp hn with e | e
      · rw [beq_iff_eq.mp e] at q
        simp at q
      · exact beq_iff_eq.mp e
    refine wpAny_bind ((looks_subIn IN e).here ?_)
    simp only [Bool.false_eq_true, if_false]
    refine wpAny_bind (wpAny_mono one (fun r s' z => ?_) fun _ _ e => e)
    obtain ⟨v, rfl, hq⟩ := z
    exact wpAny_pure hq
  · refine wpAny_bind (wpAny_pure ?_)
    simp only [Bool.false_eq_true, if_false]
    refine wpAny_bind (wpAny_mono one (fun r s' z => ?_) fun _ _ e => e)
    obtain ⟨v, rfl, hq⟩ := z
    exact wpAny_pure hq
end
end Ux
namespace Ux
open PySem PySem.Spec PyProof.Rows L2
section
variable {X : Cx} {k : Nat} {f C : Addr} {fd : FuncData} {sp : Sp}
theorem op_neO (M : OwnM X.K C "__eq__" f) (N : NeO X.K C) (F : FnOk X.prog X.w X.K X.mg X.base CX0 k f fd ["self", "other"] sp) (hb : Binds X.K fd ["self", "other"] []) (hr : Room (k + 1) X.A) : OpR X (compareOp .NotEq) (rOwnEq X.K C sp true) := by
  intro pins s σ H x y v u Q I rx ry h
  obtain ⟨a, dx, fs, t, rfl, ea, ty, nf, q⟩ := h
  cases (show v = Value.ref a from rx)
  obtain ⟨mA, O, _⟩ := ins_get I.hok ea
  obtain ⟨od, J, _⟩ := O.look
  obtain ⟨P', Z, hp, _⟩ := kit_of I ry ty
  show wpAny (model X.prog X.w) X.A (richCompare .NotEq (.ref a) u) (EP X pins σ Q) X.xe s
  refine ne_own (tb := t) hr.units0 hr.in1.units0 I.kIn J (Z.ty _ _ I.kIn hp) nf N.ne N.ob M.at_ M.fn (own_run F hr.in1 I.env0.in1 hb (vs := [.ref a, y]) I (.cons rfl (.cons ry .nil)) q fun w s' hq => ?_)
  obtain ⟨v, H', I', rv, b, ev, q'⟩ := hq
  subst ev
  cases (show w = Value.bool b from rv)
  have e : (b != true) = !b := by cases b <;> rfl
  rw [e] at q'
  exact ⟨b, rfl, .bl (!b), H', I', rfl, q'⟩
end
end Ux

set_option Elab.async false
set_option linter.all false
set_option maxRecDepth 100000
set_option maxHeartbeats 4000000
namespace Ux
open PySem PySem.Spec PyProof.Rows L2
/-! ### try: .. except (A, B) as n: .., where every exception of the body is caught -/
/-- what such a clause wishes of an exception -/
def wAs2 (K : PySem.W.Frag) (C1 C2 : Addr) (len i : Nat) (ts : Addr → Value → Option Addr → TS) (D : Ends) : WX := fun cls d σ H =>
  PySem.W.exmAny K cls [.ref C1, .ref C2] = some true ∧ ∀ a, H a = none → σ.length = len →
    ts a cls d ⟨fun σ' H' => D.nx (σ'.set i none) H', D.rt, fun σ' H' => D.bk (σ'.set i none) H', fun σ' H' => D.ct (σ'.set i none) H'⟩ (σ.set i (some (.ref a))) H
theorem fly_push {B h : Heap} {l : List Env} {e : Addr} {Z : Obj → Prop} {o : Obj} (f : HandSPX.FlyingZ B l e Z h) : HandSPX.FlyingZ B l e Z (h.push o) := by
  obtain ⟨k1, k2, k3, oe, vs, T, oT, ts, a1, a2, a3, a4, a5, a6, a7, a8, a9⟩ := f
  have kp : ∀ {b u}, h.get? b = some u → (h.push o).get? b = some u := fun z => Heap.get?_push_of_some _ z
  exact ⟨fun b u z => kp (k1 b u z), k2, k3.of_keeps fun b u z _ => ⟨u, kp z, rfl⟩, oe, vs, T, oT, ts, kp a1, a2, a3, a4, a5, a6, kp a7, a8, a9⟩
section
variable {X : Cx} {x1 x2 n : Str} {C1 C2 : Addr} {i : Nat} {body suite : List Stmt} {b₀ : Stmt} {p1 p2 tpos pos pos' : Pos} {kk : Nat} {tb : WX → TS} {ts : Addr → Value → Option Addr → TS}
theorem ps_try_as2 (hs : X.stack = X.env :: X.outer) (hf : X.env.frame = some X.env.locals) (hN : X.N.Nodup) (hi : X.N[i]? = some n) (hln : X.env.kindOf n = some .local)
    (g1 : Gl X x1) (g2 : Gl X x2) (m1 : X.mg x1 = some (.ref C1)) (m2 : X.mg x2 = some (.ref C2)) (d1 : (x1 == ("__debug__" : Str)) = false) (d2 : (x2 == ("__debug__" : Str)) = false)
    (hb : ∀ (W : WX) (pn : List (Addr × Obj)) (xe : Value → Shared → Prop), Takes (X.tr pn xe) W → PassesOwn (model X.prog X.w) X.A X.env xe → PSs (X.tr pn xe) body (tb W))
    (hsu : ∀ (a : Addr) (oe : Obj) (cls : Value) (d : Option Addr) (pn : List (Addr × Obj)), Zc cls d oe → (∃ vs, oe.data = .fields vs) → PSs (X.suite a ((a, oe) :: pn)) (b₀ :: suite) (ts a cls d)) :
    PS X (.Try body [.ExceptHandler (some (.Tuple [.Name x1 p1, .Name x2 p2] kk tpos)) (some n) (b₀ :: suite) pos'] [] [] pos) (fun D σ H => tb (wAs2 X.K C1 C2 X.N.length i ts D) D σ H) := by
  constructor
  intro pins s σ H D I h
  have ok := I.ok
  have frm : X.A.frames = some (X.env :: X.outer) := ok.frames.trans (congrArg some hs)
  refine wpAny_Try_except (wpAny_mono ((hb (wAs2 X.K C1 C2 X.N.length i ts D) (X.pn ++ pins) (fun e s₁ => wpAny (model X.prog X.w) X.A (noteFrame e X.env) (fun _ s₂ => wpAny (model X.prog X.w) X.A (setFlight e none)
    (fun _ s₃ => wpAny (model X.prog X.w) X.A (handleBy e X.env [.ExceptHandler (some (.Tuple [.Name x1 p1, .Name x2 p2] kk tpos)) (some n) (b₀ :: suite) pos']) (SP X pins D) X.xe s₃) X.xe s₂) X.xe s₁)
    (fun u sx caught => ?_) PassesOwn.looking).run [] s σ H D (I.toTry _) h) (fun f sf done => ?_) (fun _ _ z => z))
  · obtain ⟨a, B, sI, pins', σc, Hc, cls, d, rfl, Jt, nb, up, sky, na, os, ag, hm, go⟩ := caught
    have J := Jt.ofTry ok
    rw [hs] at sky
    show wpAny (model X.prog X.w) X.A (noteFrame (.ref a) X.env) _ _ _
    refine Sky.land Zc.steady frm hf sky fun h1 fl1 up1 => ?_
    have J1 : Inv X pins σc Hc { sx with heap := h1 } := J.landed nb fl1.1 (up.trans up1) os ag
    obtain ⟨oe, vs, he, hz, hd⟩ := fl1.there
    have out : a ∉ frs (X.env :: X.outer) := fun m => by
      obtain ⟨_, o', e', hnf⟩ := fl1.2.2.1.mem m
      have q := Option.some.inj (he.symm.trans e')
      exact hnf vs (q ▸ hd)
    have nL : a ≠ X.env.locals := fun z => out (List.mem_filterMap.mpr ⟨X.env, List.mem_cons_self, hf.trans (congrArg some z.symm)⟩)
    have nF : a ∉ X.fs := fun m => by
      obtain ⟨e, h2, h3⟩ := List.mem_filterMap.mp m
      exact out (List.mem_filterMap.mpr ⟨e, List.mem_cons_of_mem _ h2, h3⟩)
    have S1 := J1.suite he hd na nL nF
    refine wpAny_handleBy_cons (codeAny_handlers_test ?_) (by intro q; cases q)
    have LT : PySem.W.Looks (model X.prog X.w) h1 (typeOf (.ref a)) cls := fun A Q E s k q => wpAny_typeOf_ref (k _ _ he) (hz.1.symm ▸ q)
    refine wpAny_Tuple (wpAny_items_cons (ld_glob (X := X.suite a ((a, oe) :: (X.pn ++ pins))) S1 g1 m1 ?_ d1))
    refine wpAny_items_cons (ld_glob (X := X.suite a ((a, oe) :: (X.pn ++ pins))) S1 g2 m2 ?_ d2)
    refine wpAny_items_nil ⟨(by show 2 ≤ sizeLine; decide), ?_⟩
    have kp : ∀ q o, h1.get? q = some o → (h1.push { cls := .type "tuple", data := .seq [Value.ref C1, Value.ref C2].toArray }).get? q = some o := fun _ _ z => Heap.get?_push_of_some _ z
    refine (PySem.W.exm_tup2 (J1.kIn.keeps kp) (LT.keeps kp) (Heap.get?_push_size h1 rfl) hm).here ?_
    refine codeAny_handlers_suite_as (HandSPX.lands_againZ (fly_push fl1) fun h2 fl2 up2 => ?_)
    have J2 : Inv X pins σc Hc { sx with heap := h2 } := J.landed nb fl2.1 (((up.trans up1).trans (Heap.UpToSlots.of_keeps kp)).trans up2) os ag
    obtain ⟨oe2, vs2, he2, hz2, hd2⟩ := fl2.there
    have S2 := J2.suite he2 hd2 na nL nF
    refine store_ok (X := X.suite a ((a, oe2) :: (X.pn ++ pins))) (v := .ref a) S2 hN hi (.inl hln) rfl (fun s3 S3 => ?_) (.inr hln)
    refine wpAny_mono ((hsu a oe2 cls d (X.pn ++ pins) hz2 ⟨_, hd2⟩).run [] s3 _ Hc _ S3 (go a na J.len)) (fun f s4 fin => ?_) (fun _ _ z => z.elim)
    have gone : ∀ {σ4 : L2.St} {H4 : Hp} {Q : Shared → Prop}, Inv (X.suite a ((a, oe2) :: (X.pn ++ pins))) [] σ4 H4 s4 → (∀ s5, Inv X pins (σ4.set i none) H4 s5 → Q s5) →
        wpAny (model X.prog X.w) X.A (do bindName X.env n .none; unbindBehindTheSuite X.env n pos') (fun _ s5 => Q s5) X.xe s4 := fun S4 q4 => gone_ok (S4.unsuite ok) hN hi hln q4
    cases f with
    | ret u =>
      obtain ⟨v4, σ4, H4, S4, r4, q4⟩ := fin
      exact gone S4 fun s5 J5 => ⟨_, _, _, J5, r4, q4⟩
    | next =>
      obtain ⟨σ4, H4, S4, q4⟩ := fin
      exact gone S4 fun s5 J5 => ⟨_, _, J5, q4⟩
    | brk =>
      obtain ⟨σ4, H4, S4, q4⟩ := fin
      exact gone S4 fun s5 J5 => ⟨_, _, J5, q4⟩
    | cont =>
      obtain ⟨σ4, H4, S4, q4⟩ := fin
      exact gone S4 fun s5 J5 => ⟨_, _, J5, q4⟩
  · cases f with
    | ret u =>
      obtain ⟨v, σ5, H5, J5, r, q⟩ := done
      exact ⟨v, σ5, H5, J5.ofTry ok, r, q⟩
    | next =>
      obtain ⟨σ5, H5, J5, q⟩ := done
      exact wpAny_execs_nil ⟨σ5, H5, J5.ofTry ok, q⟩
    | brk =>
      obtain ⟨σ5, H5, J5, q⟩ := done
      exact ⟨σ5, H5, J5.ofTry ok, q⟩
    | cont =>
      obtain ⟨σ5, H5, J5, q⟩ := done
      exact ⟨σ5, H5, J5.ofTry ok, q⟩
end
end Ux

set_option Elab.async false
set_option linter.all false
set_option maxRecDepth 100000
set_option maxHeartbeats 4000000
namespace Ux
open PySem PySem.Spec PyProof.Rows L2
/-! ### within an except suite: fields of the caught exception, defs that are handed it -/
/-- a caught exception: its class C, its dict dd -/
def Caught (p : Addr × Obj) (C dd : Addr) : Prop := Zc (.ref C) (some dd) p.2 ∧ ∃ vs, p.2.data = .fields vs
/-- e.f, e the exception of a pin -/
def tPf (a dd : Addr) (f : Str) (te : TE) : TE := fun σ H Q => te σ H fun x H1 => ∃ (fs : List (Str × V)) (v : V), x = .ref a ∧ H1 dd = some (.xd fs) ∧ fs.lookup f = some v ∧ Q v H1
section
variable {X : Cx} {C dd : Addr} {p : Addr × Obj} {e : Expr} {te : TE} {pos : Pos} {f : Str}
theorem pe_pf (T : XfC X.K C) (no : PySem.W.findIn X.K (.ref C) f = some none) (hp : p ∈ X.pn) (c : Caught p C dd) (he : PE X e te) (hb : attributeBase e f X.env (eval e X.env) = eval e X.env := by rfl) : PE X (.Attribute e f pos) (tPf p.1 dd f te) := by
  constructor
  intro pins s σ H Q I h
  refine attr_of hb (thn (he.run pins s σ H _ I h) fun u s1 got => ?_)
  obtain ⟨x, H1, I1, rx, fs, v, rfl, hx, l, q⟩ := got
  cases (show u = Value.ref p.1 from rx)
  obtain ⟨⟨z1, z2⟩, vs, hd⟩ := c
  have ok : ObjOk X.prog X.w H1 s1.heap dd (.xd fs) := I1.hok dd _ hx
  obtain ⟨mA, ns, rel⟩ := ok
  obtain ⟨od, ho, hl⟩ := lookIn_ns ns
  obtain ⟨w, hw, rw'⟩ := RelO.some_of (v := v) (o := mA f) (l ▸ rel f)
  have J : PySem.W.InstAt s1.heap p.1 p.2 C (some od) := ⟨(I1.pin p (List.mem_append_left _ hp)).1, z1, by unfold PySem.W.notCls; rw [hd] <;> rfl, by rw [z2]; exact ho⟩
  exact HandSPX.exc_get I1.kIn J T.ga T.gg T.exC (PySem.W.findObj_own T.hdC no rfl ((hl f).trans (congrArg some hw))) (handed_of rw') ⟨v, H1, I1.tok _, rw', q⟩
end
/-- what a def promises that is called while p's exception is handled -/
structure FnQ (P : Program) (w : World) (K : PySem.W.Frag) (mg : Str → Option Value) (base : Heap) (k : Nat) (f : Addr) (fd : FuncData) (ps : List Str) (sp : Addr × Obj → Sp) : Prop where
  len : ∀ p vs H Q E, sp p vs H Q E → vs.length = ps.length
  run : ∀ (A : Around) (outer : List Env) (s : Shared) (H : Hp) (args : Args) (us : List Value) (vs : List V) (Q : VK) (E : XK) (p : Addr × Obj), L2H.RoomH k A → L2H.PinOk outer H s p → Env0 P w K mg base A outer s H → BindsTo s fd args (ps.zip us) → Vals vs us → sp p vs H Q E →
    codeAny (model P w) A (.call (.ref f) args) (CR CX0 outer P w H s Q E) s
theorem Fun.okQ {P : Program} {w : World} {K : PySem.W.Frag} {mg : Str → Option Value} {base : Heap} {k : Nat} {f : Addr} {fd : FuncData} {x qual : Str} {st : Stmt} {N ps : List Str} {sp : Addr × Obj → Sp} (F : Fun K x qual st f fd) (S : FnScope N ps (defScope st))
    (len : ∀ p vs H Q E, sp p vs H Q E → vs.length = ps.length)
    (body : ∀ (cdv : Value) (A : Around) (outer : List Env) (s : Shared) (H : Hp) (vs : List V) (Q : VK) (E : XK) (p : Addr × Obj), L2H.RoomH k (A.deeper (envOfC qual (defScope st) s.heap.objs.size f cdv)) → sp p vs H Q E →
      ∃ t, PSs (L2H.cxH CX0 P w K mg base N qual (defScope st) f cdv A outer s H E p) (defBody st) t ∧ t { nx := fun _ H' => Q .non H', rt := Q } (L2.start N vs) H) :
    FnQ P w K mg base (k + 1) f fd ps sp := by
  obtain ⟨oc, od, kV, doc, pm, an, cdv, ct, osl, rfl, lk, hcd⟩ := F.ex
  refine ⟨len, fun A outer s H args us vs Q E p hr pin e0 hb r want => ?_⟩
  have kin : K.In s.heap := e0.mod.kin.keeps fun b o z => (e0.bs b o z).1
  have lim : s.heap.NoLimit := e0.mod.nolimit.keeps fun b o z => (e0.bs b o z).1
  have kinds : ∀ y ∈ ps.zip us, (defScope st).names.lookup y.1 = some .local ∨ ((defScope st).names.lookup y.1 = some .cell ∧ ((cellsFrom (s.heap.objs.size + 1) (defScope st).names []).lookup y.1).isSome = true) := by
    rintro ⟨n, v⟩ hy
    rcases S.par n (List.of_mem_zip hy).1 with z | z
    · exact .inl z
    · exact .inr ⟨z, PySem.W.cellsFrom_some _ _ _ (.inl z)⟩
  refine codeAny_call_function hr.depth (kin _ _ lk) rfl S.co S.gen rfl (PySem.W.codeRec_of kin hcd) (hb _ _ _ _ (wpAny_newFunctionEnv_cells S.kind kinds fun env he s1 inn => ?_))
  subst he
  obtain ⟨t, ht, hq⟩ := body cdv A outer s H vs Q E p (hr.deeper _) want
  have I := L2H.inv_startH (CX := CX0) (E := E) S pin e0 (len _ _ _ _ _ want) r inn
  refine ⟨lim.keeps inn.toInCall.keep, codeAny_func (wpAny_mono (ht.run [] s1 (L2.start N vs) H _ I hq) (fun fl s2 fin => ?_) fun _ _ z => z)⟩
  cases fl with
  | ret u =>
    obtain ⟨v, σ2, H2, J, rv, q⟩ := fin
    exact ⟨v, H2, J.os, J.bare, J.base, J.hok, rv, q⟩
  | next =>
    obtain ⟨σ2, H2, J, q⟩ := fin
    exact ⟨.non, H2, J.os, J.bare, J.base, J.hok, rfl, q⟩
  | brk =>
    obtain ⟨_, _, _, q⟩ := fin
    exact q.elim
  | cont =>
    obtain ⟨_, _, _, q⟩ := fin
    exact q.elim
/-- such a call, with one argument -/
def tCallQ (p : Addr × Obj) (sp : Addr × Obj → Sp) (t : TA) : TE := fun σ H Q => t σ H fun vs H1 => sp p vs H1 Q E0
section
variable {X : Cx} {k : Nat} {f : Addr} {fd : FuncData} {ps : List Str} {sp : Addr × Obj → Sp} {x : Str} {q pos : Pos} {e : Expr} {es : List Expr} {t : TA} {p : Addr × Obj}
theorem pe_callQ (F : FnQ X.prog X.w X.K X.mg X.base k f fd ps sp) (hr : L2H.RoomH k X.A) (hp : p ∈ X.pn) (hg : Gl X x) (hm : X.mg x = some (.ref f)) (hk : PySem.W.keepIn X.K (.ref f) = true) (hb : Binds X.K fd ps [])
    (ha : PA X (e :: es) t) (hdb : (x == ("__debug__" : Str)) = false := by decide) (he : starEach (e :: es) X.env = (false, eval e X.env) :: starEach es X.env := by rfl) (hpl : (backTo pos (starEach es X.env)).any (·.1) = false := by rfl) :
    PE X (.Call (.Name x q) (e :: es) [] pos) (tCallQ p sp t) := by
  constructor
  intro pins s σ H Q I h
  refine wpAny_Call_Name_kw (ld_glob I hg hm ?_ hdb)
  refine PySem.W.callWith_K (h₀ := X.base) I.ok.mod.kin hk (thn (ha.run pos pins s σ H _ I h) fun us s1 got => ?_) he hpl
  obtain ⟨vs, H1, I1, r, want⟩ := got
  refine ⟨I1.kIn, ?_⟩
  have b := hb s1 us I1.kIn (by rw [List.append_nil, ← r.length]; exact F.len _ _ _ _ _ want)
  rw [List.append_nil] at b
  obtain ⟨a1, a2, a3, a4, a5⟩ := I1.pin p (List.mem_append_left _ hp)
  refine wpAny_call (codeAny_mono (F.run X.A X.stack s1 H1 ⟨us, []⟩ us vs Q E0 p hr ⟨a1, a2, fun m => (List.mem_cons.mp (I1.stkSub p.1 m)).elim a3 a4, a5⟩ I1.env0 b r want) fun r2 s2 fin => ?_)
  cases r2 with
  | error e => exact pass0 (X := X) pins σ H1 s1 e s2 I1 fin
  | ok fl =>
    cases fl with
    | ret u => exact I1.after fin
    | next => exact fin.elim
    | brk => exact fin.elim
    | cont => exact fin.elim
end
end Ux

set_option Elab.async false
set_option linter.all false
set_option maxRecDepth 100000
set_option maxHeartbeats 4000000
namespace Ux
open PySem PySem.Spec PyProof.Rows L2
/-! ### C.m(..), m a staticmethod of an own class -/
structure StM (K : PySem.W.Frag) (C : Addr) (m : Str) (mc : Value) (p g : Addr) : Prop where
  sg : PySem.W.specialIn K (.ref C) "__getattribute__" = some (some (.builtin "type.__getattribute__"))
  rd : PySem.W.readsIn K C mc = true
  fc : PySem.W.findCls K (.ref C) mc m = some (.get (.builtin "staticmethod.__get__") (.ref p) .none (.ref C))
  rc : ∃ rest, PySem.W.recIn K p "staticmethod" = some (.ref g :: rest)
  kp : PySem.W.keepIn K (.ref g) = true
section
variable {X : Cx} {CX : CXT} {k : Nat} {C p g : Addr} {x m : Str} {mc : Value} {fd : FuncData} {ps : List Str} {sp : Sp} {dvs : List V} {ds : List Value} {E : XK} {e : Expr} {es : List Expr} {t : TA} {p1 p2 pos : Pos} {pl : Sem Bool}
theorem pe_smeth (hg : Gl X x) (hm : X.mg x = some (.ref C)) (S : StM X.K C m mc p g) (F : FnOk X.prog X.w X.K X.mg X.base CX k g fd ps sp) (hr : Room k X.A) (hb : Binds X.K fd ps ds) (hd : Vals dvs ds) (hx : Passes CX X E) (ha : PA X (e :: es) t)
    (hdb : (x == ("__debug__" : Str)) = false := by decide)
    (hc : eval (.Call (.Attribute (.Name x p1) m p2) (e :: es) [] pos) X.env = (do
      let ov ← eval (.Name x p1) X.env
      standAt p2.atName
      let (f, first) ← holding [ov] (getMethod ov m pl)
      callWith pos f first (backTo pos (starEach (e :: es) X.env)) (backToKw pos (keywordEach [] X.env))) := by rfl)
    (he : starEach (e :: es) X.env = (false, eval e X.env) :: starEach es X.env := by rfl) (hpl : (backTo pos (starEach es X.env)).any (·.1) = false := by rfl) :
    PE X (.Call (.Attribute (.Name x p1) m p2) (e :: es) [] pos) (tCall sp dvs E t) := by
  constructor
  intro pins s σ H Q I h
  obtain ⟨rest, rc⟩ := S.rc
  refine PySem.W.methodCall_KW (ld_glob I hg hm ?_ hdb) hc
  refine PySem.W.method_cls I.kIn S.sg (PySem.W.cls_bind I.kIn S.rd S.fc (wpAny_call (PySem.W.sm_get (s := { s with toks := s.toks + 1 }) I.kIn rc (PySem.W.handed_on rfl ?_))))
  show wpAny _ _ (callWith pos (Value.ref g) [] (backTo pos (starEach (e :: es) X.env)) []) _ _ _
  refine PySem.W.callWith_K (h₀ := X.base) I.ok.mod.kin S.kp (thn (ha.run pos pins _ σ H _ (I.tok _) h) fun us s1 got => ?_) he hpl
  obtain ⟨vs, H1, I1, r, q⟩ := got
  exact ⟨I1.kIn, run_fn F hr hb hd hx I1 r q⟩
end
end Ux

set_option Elab.async false
set_option linter.all false
set_option maxRecDepth 100000
set_option maxHeartbeats 4000000
namespace Ux
open PySem PySem.Spec PyProof.Rows L2
section
variable {X : Cx} {CX : CXT} {k : Nat} {C p g : Addr} {x m : Str} {mc : Value} {fd : FuncData} {ps ks : List Str} {sp : Sp} {E : XK} {kws : List Keyword} {tk : TA} {p1 p2 pos : Pos} {pl : Sem Bool} {gg : List Value → List Value → List Value} {gV : List V → List V → List V}
/-- C.m(k = v, ..), m a staticmethod of an own class -/
theorem pe_smethK (hg : Gl X x) (hm : X.mg x = some (.ref C)) (S : StM X.K C m mc p g) (F : FnOk X.prog X.w X.K X.mg X.base CX k g fd ps sp) (hr : Room k X.A) (hb : KBinds X.K fd ps ks gg gV) (hx : Passes CX X E) (hkw : PK X kws tk)
    (hall : (backToKw pos (keywordEach kws X.env)).all (·.1.isSome) = true := by rfl) (hks : (backToKw pos (keywordEach kws X.env)).filterMap (·.1) = ks := by rfl)
    (hdb : (x == ("__debug__" : Str)) = false := by decide)
    (hc : eval (.Call (.Attribute (.Name x p1) m p2) [] kws pos) X.env = (do
      let ov ← eval (.Name x p1) X.env
      standAt p2.atName
      let (f, first) ← holding [ov] (getMethod ov m pl)
      callWith pos f first (backTo pos (starEach [] X.env)) (backToKw pos (keywordEach kws X.env))) := by rfl)
    (hpl : ((backTo pos (starEach [] X.env)).any (·.1) || (backToKw pos (keywordEach kws X.env)).any (·.1.isNone)) = false := by rfl) :
    PE X (.Call (.Attribute (.Name x p1) m p2) [] kws pos) (fun σ H Q => tk σ H fun zs H2 => sp (gV [] zs) H2 Q E) := by
  constructor
  intro pins s σ H Q I h
  obtain ⟨rest, rc⟩ := S.rc
  refine PySem.W.methodCall_KW (ld_glob I hg hm ?_ hdb) hc
  refine PySem.W.method_cls I.kIn S.sg (PySem.W.cls_bind I.kIn S.rd S.fc (wpAny_call (PySem.W.sm_get (s := { s with toks := s.toks + 1 }) I.kIn rc (PySem.W.handed_on rfl ?_))))
  refine PySem.W.callWith_KW0 (h₀ := X.base) I.ok.mod.kin S.kp hall ?_ hpl
  refine thn (hkw.run pos pins _ σ H _ (I.tok _) h) fun ws s2 got => ?_
  obtain ⟨zs, H2, I2, rz, q2⟩ := got
  refine ⟨I2.kIn, ?_⟩
  rw [hks]
  exact run_fnk (us := []) (vs := []) F hr hb hx I2 .nil rz q2
end
end Ux

set_option Elab.async false
set_option linter.all false
set_option maxRecDepth 100000
set_option maxHeartbeats 4000000
namespace K02
open PySem PySem.Spec PyProof.Rows L2 Ux
def top (i : Nat) : Stmt := PySem.Challenge.pw_unseenslopes_k02_ratios_made.main.body.getD i (.Pass ⟨0, 0, 0, 0⟩)
abbrev sBag : Stmt := top 22
abbrev sPull : Stmt := top 23
abbrev sOf : Stmt := top 24
abbrev sSame : Stmt := top 26
/-- the built-ins that the text calls still stand -/
structure Bn (mg : Str → Option Value) : Prop where
  isin : mg "isinstance" = none
  tstr : mg "str" = none
  tint : mg "int" = none
  tlist : mg "list" = none
  ttuple : mg "tuple" = none
  tbool : mg "bool" = none
  fabs : mg "abs" = none
  frepr : mg "repr" = none
  flen : mg "len" = none
  frange : mg "range" = none
  fzip : mg "zip" = none
  fall : mg "all" = none
  tve : mg "ValueError" = none
  tle : mg "LookupError" = none
def BagL (l : Addr) (p : Nat) (g s c : Int) : List V := [.ref l, .int p, .int g, .int s, .int c]
/-- the bag of numbers at b, asked at most n times -/
structure BagAt (H : Hp) (b : Addr) (n : Nat) : Prop where
  ex : ∃ (l : Addr) (ns : List Int) (p : Nat) (g s c : Int), H b = some (.lst (BagL l p g s c)) ∧ H l = some (.lst (ns.map V.int)) ∧ b ≠ l ∧ 0 ≤ g ∧ 0 ≤ s ∧ s < 2147483549 ∧ 0 ≤ c ∧ c ≤ n
/-- all that was told stands, but what is at b -/
def But (b : Addr) (H H' : Hp) : Prop := ∀ x o, H x = some o → x ≠ b → H' x = some o
theorem But.refl {b : Addr} {H : Hp} : But b H H := fun _ _ h _ => h
theorem But.upd {b : Addr} {H H' : Hp} {o : HO} (h : But b H H') : But b H (upd H' b o) := fun x u e n => by
  rw [upd_ne n]
  exact h x u e n
theorem But.trans {b : Addr} {H H1 H2 : Hp} (h : But b H H1) (k : But b H1 H2) : But b H H2 := fun x o e n => k x o (h x o e n) n
def spPull : Sp := fun vs H Q _ => ∃ (b : Addr) (m : Int) (n : Nat), vs = [.ref b, .int m] ∧ 0 < m ∧ m < 1073741824 ∧ BagAt H b n ∧ n ≤ 1000000000 ∧ ∀ (r : Int) (H' : Hp), 0 ≤ r → r < m → BagAt H' b (n + 1) → But b H H' → Q (.int r) H'
section
variable {P : Program} {w : World} {K : PySem.W.Frag} {mg : Str → Option Value} {base : Heap}
theorem scPull : FnScope ["_law_bag_here", "_law_many", "_law_cell", "_law_small_here", "_law_digit", "_law_seed", "_law_step"] ["_law_bag_here", "_law_many"] (defScope sPull) := ⟨rfl, rfl, rfl, by decide +kernel, rfl, by decide +kernel, by decide +kernel⟩
theorem ok_pull {f : Addr} {fd : FuncData} (F : Fun K "_law_pull" "_law_pull" sPull f fd) (T : Bn mg) : FnOk P w K mg base CX0 1 f fd ["_law_bag_here", "_law_many"] spPull := by
  refine F.ok scPull (fun vs H Q E h => ?_) (fun cdv A outer s H vs Q E hr h => ?_)
  · obtain ⟨b, m, n, rfl, _⟩ := h
    rfl
  · obtain ⟨b, m, n, rfl, m0, m1, ⟨l, ns, p, g, s', c, hb, hl, nbl, g0, s0, s1, c0, c1⟩, hn, k⟩ := h
    refine ⟨_, pss_cons (ps_asg (pe_op op_add (pe_ix ix_list (pv 0) pe_int (fun _ _ => rfl)) pe_int) (pg_sub (pv 0) pe_int set_list))
      (C8.pss_cut (ps_if (PW.pt (pw_and (pt_cmpR op_eq (pe_ix ix_list (pv 0) pe_int (fun _ _ => rfl)) pe_int (nomark _))
            (pw_and1 (pt_cmpR op_lt (pe_ix ix_list (pv 0) pe_int (fun _ _ => rfl)) (pe_callB call_len (by rfl) T.flen (by decide +kernel) (pa_cons (pe_ix ix_list (pv 0) pe_int (fun _ _ => rfl)) pa_nil)) (nomark _)))))
          (pss_cons (ps_set (i := 2) scPull.nd rfl (Or.inl rfl) (pe_ix ix_list (pe_ix ix_list (pv 0) pe_int (fun _ _ => rfl)) (pe_ix ix_list (pv 0) pe_int (fun _ _ => rfl)) (fun _ _ => rfl)))
          (pss_cons (ps_asg (pe_op op_add (pe_ix ix_list (pv 0) pe_int (fun _ _ => rfl)) pe_int) (pg_sub (pv 0) pe_int set_list))
          (pss_one (ps_if (pt_cmpR op_ge (pe_callB call_abs (by rfl) T.fabs (by decide +kernel) (pa_cons (pv 2) pa_nil)) (pe_op op_pow pe_int pe_int) (nomark _))
            (pss_one (ps_asg (pe_callB call_abs (by rfl) T.fabs (by decide +kernel) (pa_cons (pv 2) pa_nil)) (pg_sub (pv 0) pe_int set_list)))
            (pss_cons (ps_set (i := 3) scPull.nd rfl (Or.inl rfl) (pe_op op_add (pe_op op_mul (pe_op op_mod (pe_callTy call_int1 (by rfl) T.tint (by decide +kernel) (pa_cons (pv 2) pa_nil)) pe_int) pe_int) pe_int))
            (pss_one (ps_asg (pe_op op_mod (pe_callTy call_int1 (by rfl) T.tint (by decide +kernel) (pa_cons (pe_op op_add (pe_op op_mul (pe_ix ix_list (pv 0) pe_int (fun _ _ => rfl)) pe_int) (pv 3)) pa_nil)) pe_int) (pg_sub (pv 0) pe_int set_list))))))))
          pss_nil)
      (pss_cons (ps_if (pt_cmpR op_gt (pe_ix ix_list (pv 0) pe_int (fun _ _ => rfl)) pe_int (nomark _))
          (pss_cons (ps_set (i := 4) scPull.nd rfl (Or.inl rfl) (pe_op op_mod (pe_callTy call_int1 (by rfl) T.tint (by decide +kernel) (pa_cons (pe_ix ix_list (pv 0) pe_int (fun _ _ => rfl)) pa_nil)) (pv 1)))
          (pss_cons (ps_asg (pe_op op_fdiv (pe_ix ix_list (pv 0) pe_int (fun _ _ => rfl)) (pv 1)) (pg_sub (pv 0) pe_int set_list))
          (pss_one (ps_ret (pv 4))))) pss_nil)
      (pss_cons (ps_set (i := 5) scPull.nd rfl (Or.inl rfl) (pe_ix ix_list (pv 0) pe_int (fun _ _ => rfl)))
      (pss_cons (ps_set (i := 6) scPull.nd rfl (Or.inl rfl) (pe_op op_add (pe_op op_add (pe_op op_mul (pv 5) pe_int) (pe_op op_mul (pe_ix ix_list (pv 0) pe_int (fun _ _ => rfl)) pe_int)) pe_int))
      (pss_cons (ps_asg (pe_op op_mod (pe_callTy call_int1 (by rfl) T.tint (by decide +kernel) (pa_cons (pe_op op_add (pe_op op_mul (pe_op op_mul (pv 5) (pv 5)) pe_int) (pv 6)) pa_nil)) pe_int) (pg_sub (pv 0) pe_int set_list))
      (pss_one (ps_ret (pe_op op_mod (pe_callTy call_int1 (by rfl) T.tint (by decide +kernel) (pa_cons (pe_op op_add (pe_op op_fdiv (pe_ix ix_list (pv 0) pe_int (fun _ _ => rfl)) pe_int) (pe_op op_mul (pe_op op_mod (pe_callTy call_int1 (by rfl) T.tint (by decide +kernel) (pa_cons (pe_ix ix_list (pv 0) pe_int (fun _ _ => rfl)) pa_nil)) pe_int) pe_int)) pa_nil)) (pv 1))))))))), ?_⟩
    -- bag[4] = bag[4] + 1
    refine ⟨_, rfl, b, _, 4, _, rfl, rfl, .of hb, rfl, _, _, rfl, rfl, _, rfl, b, _, 4, 4, rfl, rfl, hb, rfl, ?_⟩
    have hb1 : upd H b (.lst (BagL l p g s' (c + 1))) b = some (.lst (BagL l p g s' (c + 1))) := upd_same
    have hl1 : upd H b (.lst (BagL l p g s' (c + 1))) l = some (.lst (ns.map V.int)) := (upd_ne (Ne.symm nbl)).trans hl
    have f1 : But b H (upd H b (.lst (BagL l p g s' (c + 1)))) := But.refl.upd
    -- the first if: the bag again
    refine ⟨fun σ H2 => ∃ (v2 v3 : Option V) (p : Nat) (g s : Int), σ = [some (.ref b), some (.int m), v2, v3, none, none, none] ∧ H2 b = some (.lst (BagL l p g s (c + 1))) ∧ H2 l = some (.lst (ns.map V.int)) ∧ 0 ≤ g ∧ 0 ≤ s ∧ s < 2147483549 ∧ But b H H2, ?_, ?_⟩
    · refine ⟨_, rfl, b, _, 2, _, rfl, rfl, .of hb1, rfl, rfl, _, rfl, ?_⟩
      by_cases hg : (V.int g) = V.int 0
      · rw [decide_eq_true hg]
        refine iteT ⟨_, rfl, b, _, 1, _, rfl, rfl, .of hb1, rfl, _, rfl, b, _, 0, _, rfl, rfl, .of hb1, rfl, _, _, rfl, .inl ⟨_, .of hl1, rfl⟩, _, _, rfl, rfl, _, rfl, ?_⟩
        by_cases hp : (p : Int) < ((ns.map V.int).length : Nat)
        · rw [decide_eq_true hp]
          have hp' : p < ns.length := by
            rw [List.length_map] at hp
            omega
          have hat : (ns.map V.int)[p]? = some (V.int ns[p]) := by
            rw [List.getElem?_map, List.getElem?_eq_getElem hp']
            rfl
          refine iteT ⟨_, rfl, b, _, 0, _, rfl, rfl, .of hb1, rfl, _, rfl, b, _, 1, _, rfl, rfl, .of hb1, rfl, l, _, _, _, rfl, rfl, .of hl1, atI_nat hat, ?_⟩
          refine ⟨_, rfl, b, _, 1, _, rfl, rfl, .of hb1, rfl, _, _, rfl, rfl, _, rfl, b, _, 1, 1, rfl, rfl, hb1, rfl, ?_⟩
          generalize ns[p] = z
          have hb2 : ∀ H2 : Hp, upd H2 b (.lst (BagL l (p + 1) g s' (c + 1))) b = some (.lst (BagL l (p + 1) g s' (c + 1))) := fun _ => upd_same
          refine ⟨_, rfl, _, rfl, _, _, rfl, rfl, ⟨by decide, by decide, by decide⟩, _, _, rfl, rfl, _, rfl, ?_⟩
          refine ite2 (fun big => ?_) (fun _ => ?_)
          · refine ⟨_, rfl, _, rfl, _, rfl, b, _, 2, 2, rfl, rfl, hb2 _, rfl, ?_⟩
            refine ⟨_, _, p + 1, _, s', rfl, upd_same, ?_, ?_, s0, s1, ((f1.upd).upd)⟩
            · rw [upd_ne (Ne.symm nbl), upd_ne (Ne.symm nbl)]
              exact hl1
            · show (0 : Int) ≤ if z < 0 then -z else z
              split <;> omega
          · refine ⟨_, rfl, .inl ⟨_, rfl, _, _, rfl, rfl, (by show (0 : Int) < 1000000007; decide), _, _, rfl, rfl, ?_, _, _, rfl, rfl, ?_⟩⟩
            · have q1 := Int.emod_nonneg z (show (1000000007 : Int) ≠ 0 by decide)
              have q2 := Int.emod_lt_of_pos z (show (0 : Int) < 1000000007 by decide)
              exact .inl ⟨by omega, by omega⟩
            · refine ⟨_, rfl, b, _, 3, _, rfl, rfl, .of (hb2 _), rfl, _, _, rfl, rfl, .inl ⟨by omega, by omega⟩, _, rfl, _, _, rfl, rfl, .inl ⟨_, rfl, _, _, rfl, rfl, (by show (0 : Int) < 2147483549; decide), ?_⟩⟩
              refine ⟨_, rfl, b, _, 3, 3, rfl, rfl, hb2 _, rfl, ?_⟩
              refine ⟨_, _, p + 1, g, _, rfl, upd_same, ?_, g0, Int.emod_nonneg _ (by decide), Int.emod_lt_of_pos _ (by decide), ((f1.upd).upd)⟩
              rw [upd_ne (Ne.symm nbl), upd_ne (Ne.symm nbl)]
              exact hl1
        · rw [decide_eq_false hp]
          refine iteF ?_
          exact ⟨_, _, p, g, s', rfl, hb1, hl1, g0, s0, s1, f1⟩
      · rw [decide_eq_false hg]
        refine iteF (iteF ?_)
        exact ⟨_, _, p, g, s', rfl, hb1, hl1, g0, s0, s1, f1⟩
    · clear hb1 hl1 f1 g0 s0 s1
      rintro σ H2 ⟨v2, v3, p, g, s, rfl, hb2, hl2, g0, s0, s1, f2⟩
      refine ⟨_, rfl, b, _, 2, _, rfl, rfl, .of hb2, rfl, _, _, rfl, rfl, _, rfl, ?_⟩
      refine ite2 (fun big => ?_) (fun _ => ?_)
      · refine ⟨_, rfl, b, _, 2, _, rfl, rfl, .of hb2, rfl, .inl ⟨_, rfl, _, rfl, _, _, rfl, rfl, m0, ?_⟩⟩
        refine ⟨_, rfl, b, _, 2, _, rfl, rfl, .of hb2, rfl, _, rfl, _, _, rfl, rfl, ⟨m0, m1⟩, _, rfl, b, _, 2, 2, rfl, rfl, hb2, rfl, ?_⟩
        refine ⟨_, rfl, ?_⟩
        refine k _ _ (Int.emod_nonneg _ (by omega)) (Int.emod_lt_of_pos _ m0) ⟨l, ns, p, g / m, s, c + 1, upd_same, ?_, nbl, Int.ediv_nonneg g0 (by omega), s0, s1, by omega, by omega⟩ f2.upd
        rw [upd_ne (Ne.symm nbl)]
        exact hl2
      · refine ⟨_, rfl, b, _, 3, _, rfl, rfl, .of hb2, rfl, ?_⟩
        refine ⟨_, rfl, _, _, rfl, rfl, .inl ⟨by omega, by omega⟩, _, rfl, b, _, 4, _, rfl, rfl, .of hb2, rfl, _, _, rfl, rfl, .inl ⟨by omega, by omega⟩, _, _, rfl, rfl, _, _, rfl, rfl, ?_⟩
        have sq : s * s ≤ 2147483549 * 2147483549 := Int.mul_le_mul (by omega) (by omega) s0 (by decide)
        have sq0 : 0 ≤ s * s := Int.mul_nonneg s0 s0
        refine ⟨_, rfl, _, rfl, _, _, rfl, rfl, .inl ⟨by omega, by omega⟩, _, _, rfl, rfl, .inl ⟨by omega, by omega⟩, _, rfl, _, _, rfl, rfl, .inl ⟨_, rfl, _, _, rfl, rfl, (by show (0 : Int) < 2147483549; decide), ?_⟩⟩
        refine ⟨_, rfl, b, _, 3, 3, rfl, rfl, hb2, rfl, ?_⟩
        have hb3 : ∀ y, upd H2 b (.lst (BagL l p g y (c + 1))) b = some (.lst (BagL l p g y (c + 1))) := fun _ => upd_same
        refine ⟨_, rfl, b, _, 3, _, rfl, rfl, .of (hb3 _), rfl, _, _, rfl, rfl, ⟨by decide, by decide⟩, _, rfl, b, _, 3, _, rfl, rfl, .of (hb3 _), rfl, .inl ⟨_, rfl, _, _, rfl, rfl, (by show (0 : Int) < 7901; decide), _, _, rfl, rfl, ?_, _, _, rfl, rfl, .inl ⟨_, rfl, _, rfl, _, _, rfl, rfl, m0, ?_⟩⟩⟩
        · refine .inr ⟨by decide, by decide⟩
        · refine k _ _ (Int.emod_nonneg _ (by omega)) (Int.emod_lt_of_pos _ m0) ⟨l, ns, p, g, _, c + 1, upd_same, ?_, nbl, g0, Int.emod_nonneg _ (by decide), Int.emod_lt_of_pos _ (by decide), by omega, by omega⟩ f2.upd
          rw [upd_ne (Ne.symm nbl)]
          exact hl2
end
/-- a def of the text under its name -/
structure Dn (K : PySem.W.Frag) (mg : Str → Option Value) (x : Str) (f : Addr) : Prop where
  gl : mg x = some (.ref f)
  kp : PySem.W.keepIn K (.ref f) = true
def spBag (K : PySem.W.Frag) : Sp := fun vs H Q _ => ∃ (a : Addr) (ns : List Int), vs = [.ref a] ∧ SqL K H a (ns.map V.int) ∧ ∀ (b : Addr) (H' : Hp), BagAt H' b 0 → H b = none → Same H H' → Q (.ref b) H'
def spOf : Sp := fun vs H Q _ => ∃ (b t : Addr) (n : Nat) (xs : List V), vs = [.ref b, .ref t] ∧ BagAt H b n ∧ n ≤ 1000000000 ∧ t ≠ b ∧ H t = some (.lst xs) ∧ 0 < xs.length ∧ xs.length ≤ 1000 ∧ ∀ (i : Nat) (v : V) (H' : Hp), xs[i]? = some v → BagAt H' b (n + 1) → But b H H' → Q v H'
theorem cut_ints (ns : List Int) (lo hi : Option Int) : ∃ ms : List Int, cutV (ns.map V.int) lo hi = ms.map V.int := by
  unfold cutV
  rw [← List.map_drop, ← List.map_take]
  exact ⟨_, rfl⟩
section
variable {P : Program} {w : World} {K : PySem.W.Frag} {mg : Str → Option Value} {base : Heap}
theorem scBag : FnScope ["_law_script"] ["_law_script"] (defScope sBag) := ⟨rfl, rfl, rfl, by decide +kernel, rfl, by decide +kernel, by decide +kernel⟩
theorem ok_bag {f : Addr} {fd : FuncData} (F : Fun K "_law_bag" "_law_bag" sBag f fd) (T : Bn mg) : FnOk P w K mg base CX0 1 f fd ["_law_script"] (spBag K) := by
  refine F.ok scBag (fun vs H Q E h => ?_) (fun cdv A outer s H vs Q E hr h => ?_)
  · obtain ⟨a, ns, rfl, _⟩ := h
    rfl
  · obtain ⟨a, ns, rfl, hS, k⟩ := h
    refine ⟨_, pss_one (ps_ret (pe_lst (pa_cons (pe_callTy call_list_of (by rfl) T.tlist (by decide +kernel) (pa_cons (pe_slice sl_list (pv 0) po_none (po_some pe_int)) pa_nil)) (pa_cons pe_int (pa_cons pe_int (pa_cons pe_int (pa_cons pe_int pa_nil))))))), ?_⟩
    obtain ⟨ms, hm⟩ := cut_ints ns none (some 63)
    refine ⟨_, rfl, _, rfl, a, _, rfl, hS, fun p hp => ?_⟩
    rw [hm]
    refine ⟨p, _, rfl, .inl (SqL.of upd_same), fun l hl => ?_⟩
    refine ⟨(by show 5 ≤ sizeLine; decide), fun b hb => ?_⟩
    have nbl : b ≠ l := (ne_of_none upd_same hb).symm
    refine k b _ ⟨l, ms, 0, 0, 12004, 0, upd_same, ?_, nbl, by decide, by decide, by decide, by decide, by decide⟩ ?_ ?_
    · rw [upd_ne nbl.symm]
      exact upd_same
    · have e1 : H b ≠ none → False := fun z => by
        cases e : H b with
        | none => exact z e
        | some o =>
          have q : (upd (upd H p (.lst (ms.map V.int))) l (.lst (ms.map V.int))) b = some o := by
            rw [upd_ne nbl, upd_ne (ne_of_none e hp)]
            exact e
          rw [q] at hb
          cases hb
      exact Classical.byContradiction e1
    · intro c o e
      have h1 := ne_of_none e hp
      have s1 : upd H p (.lst (ms.map V.int)) c = some o := by
        rw [upd_ne h1]
        exact e
      have h2 := ne_of_none s1 hl
      have s2 : upd (upd H p (.lst (ms.map V.int))) l (.lst (ms.map V.int)) c = some o := by
        rw [upd_ne h2]
        exact s1
      rw [upd_ne (ne_of_none s2 hb)]
      exact s2
theorem scOf : FnScope ["_law_bag_here", "_law_things"] ["_law_bag_here", "_law_things"] (defScope sOf) := ⟨rfl, rfl, rfl, by decide +kernel, rfl, by decide +kernel, by decide +kernel⟩
theorem ok_of {f fP : Addr} {fd fdP : FuncData} (F : Fun K "_law_of" "_law_of" sOf f fd) (T : Bn mg) (D : Dn K mg "_law_pull" fP) (G : FnOk P w K mg base CX0 1 fP fdP ["_law_bag_here", "_law_many"] spPull) (bP : Binds K fdP ["_law_bag_here", "_law_many"] []) :
    FnOk P w K mg base CX0 2 f fd ["_law_bag_here", "_law_things"] spOf := by
  refine F.ok scOf (fun vs H Q E h => ?_) (fun cdv A outer s H vs Q E hr h => ?_)
  · obtain ⟨b, t, n, xs, rfl, _⟩ := h
    rfl
  · obtain ⟨b, t, n, xs, rfl, B, hn, nt, ht, l0, l1, k⟩ := h
    refine ⟨_, pss_one (ps_ret (pe_ix ix_list (pv 1) (pe_call G hr (by rfl) D.gl D.kp bP .nil pass0 (pa_cons (pv 0) (pa_cons (pe_callB call_len (by rfl) T.flen (by decide +kernel) (pa_cons (pv 1) pa_nil)) pa_nil))) (fun _ _ => rfl))), ?_⟩
    refine ⟨_, rfl, _, rfl, _, rfl, _, _, rfl, .inl ⟨_, .of ht, rfl⟩, b, _, n, rfl, by omega, by omega, B, hn, fun r H' r0 r1 B' f' => ?_⟩
    have hi : r.toNat < xs.length := by omega
    have q := List.getElem?_eq_getElem hi
    generalize xs[r.toNat] = y at q
    refine ⟨t, xs, r, y, rfl, rfl, .of (f' _ _ ht nt), ?_, k r.toNat y H' q B' f'⟩
    have z := atI_nat q
    rw [Int.toNat_of_nonneg r0] at z
    exact z
/-! ### same -/
/-- u and v are like data, less than n deep -/
def Like (H : Hp) : Nat → V → V → Prop
  | 0, _, _ => False
  | n + 1, u, v => (u = v ∧ (v = .non ∨ (∃ b, v = .bl b) ∨ (∃ i, v = .int i) ∨ ∃ x, v = .str x)) ∨
    ∃ (a b : Addr) (xs ys : List V), u = .ref a ∧ v = .ref b ∧ ((H a = some (.tup xs) ∧ H b = some (.tup ys)) ∨ (H a = some (.lst xs) ∧ H b = some (.lst ys))) ∧ xs.length = ys.length ∧ xs.length ≤ 1000 ∧ ∀ (i : Nat) (x y : V), xs[i]? = some x → ys[i]? = some y → Like H n x y
theorem Like.mono {H H' : Hp} (s : Same H H') : ∀ {n : Nat} {u v : V}, Like H n u v → Like H' n u v
  | 0, _, _, h => h.elim
  | n + 1, u, v, h => by
    rcases h with h | ⟨a, b, xs, ys, e1, e2, hh, l1, l2, k⟩
    · exact .inl h
    · refine .inr ⟨a, b, xs, ys, e1, e2, ?_, l1, l2, fun i x y hx hy => Like.mono s (k i x y hx hy)⟩
      rcases hh with ⟨h1, h2⟩ | ⟨h1, h2⟩
      · exact .inl ⟨s _ _ h1, s _ _ h2⟩
      · exact .inr ⟨s _ _ h1, s _ _ h2⟩
def spSame (n : Nat) : Sp := fun vs H Q _ => ∃ u v, vs = [u, v] ∧ Like H n u v ∧ ∀ H', Same H H' → Q (.bl true) H'
theorem Same.new {H H' : Hp} {p : Addr} {o : HO} (s : Same H H') (hp : H' p = none) : Same H (upd H' p o) := fun c u e => by
  rw [upd_ne (ne_of_none (s c u e) hp)]
  exact s c u e
theorem scSame : FnScope ["_law_found", "_law_due", "_law_a", "_law_b"] ["_law_found", "_law_due"] (defScope sSame) := ⟨rfl, rfl, rfl, by decide +kernel, rfl, by decide +kernel, by decide +kernel⟩
theorem walk_zipT {a b : Addr} {xs ys : List V} {n : Nat} (hn : n = min xs.length ys.length) : Walk (RZ.ItzT K a b) n (fun H => SqT K H a xs ∧ SqT K H b ys) (YPair (fun i => xs[i]?) (fun i => ys[i]?)) := by
  subst hn
  refine ⟨fun i _ hi q => ?_, fun _ q => ⟨xs, ys, q.1, q.2, ?_⟩, fun i H v H' _ q y => ?_⟩
  · have h1 : i < xs.length := by omega
    have h2 : i < ys.length := by omega
    refine ⟨xs, ys, xs[i], ys[i], q.1, q.2, List.getElem?_eq_getElem h1, List.getElem?_eq_getElem h2⟩
  · omega
  · obtain ⟨T, x, z, h1, h2, h3, h4, h5⟩ := y
    exact ⟨T, x, z, h1, h2, h3, h4 xs q.1, h5 ys q.2⟩
theorem all_true (n : Nat) : (List.replicate n true).all id = true := by
  induction n with
  | zero => rfl
  | succ n ih =>
    rw [List.replicate_succ, List.all_cons, ih]
    rfl
theorem any_no {T : String} (h1 : kitB T "list" = some false) (h2 : kitB T "tuple" = some false) : PySem.W.kitAny K (.type T) [.type "list", .type "tuple"] = some false :=
  kitAny_cons (kit_ty h1) (fun _ => kitAny_cons (kit_ty h2) (fun _ => kitAny_nil) (fun z => nomatch z)) (fun z => nomatch z)
theorem any_lst : PySem.W.kitAny K (.type "list") [.type "list", .type "tuple"] = some true :=
  kitAny_cons (b := true) (kit_ty (by decide +kernel)) (fun z => nomatch z) (fun _ => rfl)
theorem any_tup : PySem.W.kitAny K (.type "tuple") [.type "list", .type "tuple"] = some true :=
  kitAny_cons (b := false) (kit_ty (by decide +kernel)) (fun _ => kitAny_cons (b := true) (kit_ty (by decide +kernel)) (fun z => nomatch z) (fun _ => rfl)) (fun z => nomatch z)
theorem lt_tup : Paired ClsV [V.ty "list", V.ty "tuple"] [Value.type "list", Value.type "tuple"] := .cons (.ty _) (.cons (.ty _) .nil)
theorem ok_same_step {f : Addr} {fd : FuncData} {n k : Nat} (F : Fun K "_law_same" "_law_same" sSame f fd) (T : Bn mg) (D : Dn K mg "_law_same" f) (G : FnOk P w K mg base CX0 k f fd ["_law_found", "_law_due"] (spSame n)) (bS : Binds K fd ["_law_found", "_law_due"] []) :
    FnOk P w K mg base CX0 (k + 1) f fd ["_law_found", "_law_due"] (spSame (n + 1)) := by
  refine F.ok scSame (fun vs H Q E h => ?_) (fun cdv A outer s H vs Q E hr h => ?_)
  · obtain ⟨u, v, rfl, _⟩ := h
    rfl
  · obtain ⟨u, v, rfl, lk, kk⟩ := h
    refine ⟨_, pss_cons (ps_if (PW.pt (pw_or (pt_cmpR op_isN (pv 1) pe_non (nomark _)) (pw_or1 (pt_cmpR op_isN (pv 0) pe_non (nomark _)))))
        (pss_one (ps_ret (pe_and (pe_cmpR op_isN (pv 1) pe_non (nomark _)) (pe_one (pe_cmpR op_isN (pv 0) pe_non (nomark _)))))) pss_nil)
      (pss_cons (ps_if (PW.pt (pw_or (pt_val (pe_callB call_isi (by rfl) T.isin (by decide +kernel) (pa_cons (pv 1) (pa_cons (pe_bltn (v := .ty "bool") (by rfl) T.tbool (by decide +kernel) rfl) pa_nil)))) (pw_or1 (pt_val (pe_callB call_isi (by rfl) T.isin (by decide +kernel) (pa_cons (pv 0) (pa_cons (pe_bltn (v := .ty "bool") (by rfl) T.tbool (by decide +kernel) rfl) pa_nil)))))))
        (pss_one (ps_ret (pe_and (pe_callB call_isi (by rfl) T.isin (by decide +kernel) (pa_cons (pv 1) (pa_cons (pe_bltn (v := .ty "bool") (by rfl) T.tbool (by decide +kernel) rfl) pa_nil))) (pe_and (pe_callB call_isi (by rfl) T.isin (by decide +kernel) (pa_cons (pv 0) (pa_cons (pe_bltn (v := .ty "bool") (by rfl) T.tbool (by decide +kernel) rfl) pa_nil))) (pe_one (pe_cmpR op_eq (pv 0) (pv 1) (nomark _))))))) pss_nil)
      (pss_cons (ps_if (PW.pt (pw_or (pt_val (pe_callB call_isiT (by rfl) T.isin (by decide +kernel) (pa_cons (pv 1) (pa_cons (pe_tup (pa_cons (pe_bltn (v := .ty "list") (by rfl) T.tlist (by decide +kernel) rfl) (pa_cons (pe_bltn (v := .ty "tuple") (by rfl) T.ttuple (by decide +kernel) rfl) pa_nil))) pa_nil)))) (pw_or1 (pt_val (pe_callB call_isiT (by rfl) T.isin (by decide +kernel) (pa_cons (pv 0) (pa_cons (pe_tup (pa_cons (pe_bltn (v := .ty "list") (by rfl) T.tlist (by decide +kernel) rfl) (pa_cons (pe_bltn (v := .ty "tuple") (by rfl) T.ttuple (by decide +kernel) rfl) pa_nil))) pa_nil)))))))
        (pss_cons (ps_if (pt_cmpR op_ne (pe_callB call_isi (by rfl) T.isin (by decide +kernel) (pa_cons (pv 1) (pa_cons (pe_bltn (v := .ty "list") (by rfl) T.tlist (by decide +kernel) rfl) pa_nil))) (pe_callB call_isi (by rfl) T.isin (by decide +kernel) (pa_cons (pv 0) (pa_cons (pe_bltn (v := .ty "list") (by rfl) T.tlist (by decide +kernel) rfl) pa_nil))) (nomark _)) (pss_one (ps_ret pe_bl)) pss_nil)
        (pss_cons (ps_if (PW.pt (pw_or (pt_cmpR op_ne (pe_callB call_isi (by rfl) T.isin (by decide +kernel) (pa_cons (pv 1) (pa_cons (pe_bltn (v := .ty "tuple") (by rfl) T.ttuple (by decide +kernel) rfl) pa_nil))) (pe_callB call_isi (by rfl) T.isin (by decide +kernel) (pa_cons (pv 0) (pa_cons (pe_bltn (v := .ty "tuple") (by rfl) T.ttuple (by decide +kernel) rfl) pa_nil))) (nomark _)) (pw_or1 (pt_cmpR op_ne (pe_callB call_len (by rfl) T.flen (by decide +kernel) (pa_cons (pv 0) pa_nil)) (pe_callB call_len (by rfl) T.flen (by decide +kernel) (pa_cons (pv 1) pa_nil)) (nomark _))))) (pss_one (ps_ret pe_bl)) pss_nil)
        (pss_one (ps_ret (pe_callB (cr_all rfl) (by rfl) T.fall (by decide +kernel) (pa_cons (pe_lc (own := [("_law_a", 2), ("_law_b", 3)]) (g := gTup K 2 (gCons (gName 2) (gCons (gName 3) gNil))) rfl scSame.nd (RZ.pi_zipA (by rfl) T.fzip (pa_cons (pv 0) (pa_cons (pv 1) pa_nil))) (blkOk_by (own := [("_law_a", 2), ("_law_b", 3)]) (N := ["_law_found", "_law_due", "_law_a", "_law_b"]) (sc := defScope sSame) (by decide +kernel))
            (fun _ _ _ _ _ => pg_tup (n := 2) rfl (pgs_cons (pg_name (i := 2) scSame.nd rfl (Or.inl rfl) (hf := Or.inr rfl)) (pgs_cons (pg_name (i := 3) scSame.nd rfl (Or.inl rfl) (hf := Or.inr rfl)) pgs_nil))) (fun _ _ _ _ _ => pts_nil)
            (fun _ _ _ _ _ => pe_call G hr (by rfl) D.gl D.kp bS .nil pass0 (pa_cons (pv 2) (pa_cons (pv 3) pa_nil)))) pa_nil)))))) pss_nil)
      (pss_cons (ps_if (pt_cmpR op_ne (pe_callB call_isi (by rfl) T.isin (by decide +kernel) (pa_cons (pv 1) (pa_cons (pe_bltn (v := .ty "int") (by rfl) T.tint (by decide +kernel) rfl) pa_nil))) (pe_callB call_isi (by rfl) T.isin (by decide +kernel) (pa_cons (pv 0) (pa_cons (pe_bltn (v := .ty "int") (by rfl) T.tint (by decide +kernel) rfl) pa_nil))) (nomark _)) (pss_one (ps_ret pe_bl)) pss_nil)
      (pss_one (ps_ret (pe_and (pe_cmpR op_eq (pe_callB call_isi (by rfl) T.isin (by decide +kernel) (pa_cons (pv 1) (pa_cons (pe_bltn (v := .ty "str") (by rfl) T.tstr (by decide +kernel) rfl) pa_nil))) (pe_callB call_isi (by rfl) T.isin (by decide +kernel) (pa_cons (pv 0) (pa_cons (pe_bltn (v := .ty "str") (by rfl) T.tstr (by decide +kernel) rfl) pa_nil))) (nomark _)) (pe_one (pe_cmpR op_eq (pv 0) (pv 1) (nomark _))))))))), ?_⟩
    rcases lk with ⟨rfl, (rfl | ⟨b, rfl⟩ | ⟨i, rfl⟩ | ⟨x, rfl⟩)⟩ | ⟨a, b, xs, ys, rfl, rfl, hh, l1, l2, like⟩
    · refine ⟨_, rfl, rfl, _, rfl, iteT ?_⟩
      exact ⟨_, rfl, rfl, _, rfl, iteT ⟨_, rfl, rfl, kk _ (Same.refl _)⟩⟩
    · refine ⟨_, rfl, rfl, _, rfl, iteF ⟨_, rfl, rfl, _, rfl, iteF ?_⟩⟩
      refine ⟨_, rfl, _, _, _, _, true, rfl, .ty "bool", .base (.bl _), kit_ty (by decide +kernel), _, rfl, iteT ?_⟩
      refine ⟨_, rfl, _, _, _, _, true, rfl, .ty "bool", .base (.bl _), kit_ty (by decide +kernel), _, rfl, iteT ⟨_, rfl, _, _, _, _, true, rfl, .ty "bool", .base (.bl _), kit_ty (by decide +kernel), _, rfl, iteT ⟨_, rfl, _, rfl, rfl, ?_⟩⟩⟩
      rw [decide_eq_true rfl]
      exact kk _ (Same.refl _)
    · refine ⟨_, rfl, rfl, _, rfl, iteF ⟨_, rfl, rfl, _, rfl, iteF ?_⟩⟩
      refine ⟨_, rfl, _, _, _, _, false, rfl, .ty "bool", .base (.int _), kit_ty (by decide +kernel), _, rfl, iteF ⟨_, rfl, _, _, _, _, false, rfl, .ty "bool", .base (.int _), kit_ty (by decide +kernel), _, rfl, iteF ?_⟩⟩
      refine ⟨_, rfl, (by show 2 ≤ sizeLine; decide), fun p hp => ⟨_, p, _, _, _, false, rfl, upd_same, lt_tup, .base (.int _), any_no (by decide +kernel) (by decide +kernel), _, rfl, iteF ⟨_, rfl, (by show 2 ≤ sizeLine; decide), fun p2 hp2 => ⟨_, p2, _, _, _, false, rfl, upd_same, lt_tup, .base (.int _), any_no (by decide +kernel) (by decide +kernel), _, rfl, iteF ?_⟩⟩⟩⟩
      have s2 := (Same.new (Same.new (Same.refl H) hp (o := .tup [V.ty "list", V.ty "tuple"])) hp2 (o := .tup [V.ty "list", V.ty "tuple"]))
      refine ⟨_, rfl, _, _, _, _, true, rfl, .ty "int", .base (.int _), kit_ty (by decide +kernel), _, rfl, _, _, _, _, true, rfl, .ty "int", .base (.int _), kit_ty (by decide +kernel), rfl, _, rfl, iteF ?_⟩
      refine ⟨_, rfl, _, _, _, _, false, rfl, .ty "str", .base (.int _), kit_ty (by decide +kernel), _, rfl, _, _, _, _, false, rfl, .ty "str", .base (.int _), kit_ty (by decide +kernel), rfl, _, rfl, iteT ⟨_, rfl, _, rfl, rfl, ?_⟩⟩
      rw [decide_eq_true rfl]
      exact kk _ s2
    · refine ⟨_, rfl, rfl, _, rfl, iteF ⟨_, rfl, rfl, _, rfl, iteF ?_⟩⟩
      refine ⟨_, rfl, _, _, _, _, false, rfl, .ty "bool", .base (.str _), kit_ty (by decide +kernel), _, rfl, iteF ⟨_, rfl, _, _, _, _, false, rfl, .ty "bool", .base (.str _), kit_ty (by decide +kernel), _, rfl, iteF ?_⟩⟩
      refine ⟨_, rfl, (by show 2 ≤ sizeLine; decide), fun p hp => ⟨_, p, _, _, _, false, rfl, upd_same, lt_tup, .base (.str _), any_no (by decide +kernel) (by decide +kernel), _, rfl, iteF ⟨_, rfl, (by show 2 ≤ sizeLine; decide), fun p2 hp2 => ⟨_, p2, _, _, _, false, rfl, upd_same, lt_tup, .base (.str _), any_no (by decide +kernel) (by decide +kernel), _, rfl, iteF ?_⟩⟩⟩⟩
      have s2 := (Same.new (Same.new (Same.refl H) hp (o := .tup [V.ty "list", V.ty "tuple"])) hp2 (o := .tup [V.ty "list", V.ty "tuple"]))
      refine ⟨_, rfl, _, _, _, _, false, rfl, .ty "int", .base (.str _), kit_ty (by decide +kernel), _, rfl, _, _, _, _, false, rfl, .ty "int", .base (.str _), kit_ty (by decide +kernel), rfl, _, rfl, iteF ?_⟩
      refine ⟨_, rfl, _, _, _, _, true, rfl, .ty "str", .base (.str _), kit_ty (by decide +kernel), _, rfl, _, _, _, _, true, rfl, .ty "str", .base (.str _), kit_ty (by decide +kernel), rfl, _, rfl, iteT ⟨_, rfl, _, rfl, rfl, ?_⟩⟩
      rw [decide_eq_true rfl]
      exact kk _ s2
    · refine ⟨_, rfl, rfl, _, rfl, iteF ⟨_, rfl, rfl, _, rfl, iteF ?_⟩⟩
      rcases hh with ⟨ha, hb⟩ | ⟨ha, hb⟩
      · refine ⟨_, rfl, _, _, _, _, false, rfl, .ty "bool", .base (.tup hb), kit_ty (by decide +kernel), _, rfl, iteF ⟨_, rfl, _, _, _, _, false, rfl, .ty "bool", .base (.tup ha), kit_ty (by decide +kernel), _, rfl, iteF ?_⟩⟩
        refine ⟨_, rfl, (by show 2 ≤ sizeLine; decide), fun p hp => ?_⟩
        have s1 := Same.new (Same.refl H) hp (o := .tup [V.ty "list", V.ty "tuple"])
        have ha1 := s1 _ _ ha
        have hb1 := s1 _ _ hb
        refine ⟨_, p, _, _, _, true, rfl, upd_same, lt_tup, .base (.tup hb1), any_tup, _, rfl, iteT ?_⟩
        refine ⟨_, rfl, _, _, _, _, false, rfl, .ty "list", .base (.tup hb1), kit_ty (by decide +kernel), _, rfl, _, _, _, _, false, rfl, .ty "list", .base (.tup ha1), kit_ty (by decide +kernel), rfl, _, rfl, iteF ?_⟩
        refine ⟨_, rfl, _, _, _, _, true, rfl, .ty "tuple", .base (.tup hb1), kit_ty (by decide +kernel), _, rfl, _, _, _, _, true, rfl, .ty "tuple", .base (.tup ha1), kit_ty (by decide +kernel), rfl, _, rfl, iteF ⟨_, rfl, _, _, rfl, .inr ⟨_, .of ha1, rfl⟩, _, rfl, _, _, rfl, .inr ⟨_, .of hb1, rfl⟩, ?_⟩⟩
        refine ⟨rfl, _, rfl, ?_⟩
        rw [l1, decide_eq_true rfl]
        refine iteF ?_
        refine ⟨_, rfl, _, rfl, a, b, xs, ys, rfl, .inr ⟨SqT.of ha1, SqT.of hb1, fun D hD => ?_⟩⟩
        refine lc_it (walk_zipT (n := ys.length) (by rw [l1, Nat.min_self])) (fun i H' => Same (upd H p (.tup [V.ty "list", V.ty "tuple"])) H' ∧ H' D = some (.lst ((List.replicate i true).map V.bl))) ⟨Same.new (Same.refl _) hD, upd_same⟩ (fun i H' _ z => ⟨SqT.of (z.1 _ _ ha1), SqT.of (z.1 _ _ hb1)⟩) ?_ ?_
        · rintro i x H2 H3 hi ⟨t2, d2⟩ ⟨T1, y, z, rfl, nT, rfl, hy, hz⟩
          have t3 := Same.new t2 nT (o := .tup [y, z])
          refine ⟨T1, _, rfl, SqT.of upd_same, rfl, y, _, rfl, z, _, rfl, rfl, rfl, ?_⟩
          refine ⟨_, rfl, _, rfl, y, z, rfl, Like.mono (s1.trans t3) (like i y z hy hz), fun H4 s4 => ?_⟩
          have d4 : H4 D = some (.lst ((List.replicate i true).map V.bl)) := s4 _ _ (by rw [upd_ne (ne_of_none d2 nT)]; exact d2)
          refine ⟨_, d4, ?_, fun c o e => ?_, ?_⟩
          · rw [List.length_map, List.length_replicate]
            exact small1000 (by omega)
          · have q := s4 _ _ (t3 c o e)
            rw [upd_ne (ne_of_none e hD)]
            exact q
          · rw [upd_same, List.replicate_succ', List.map_append]
            rfl
        · rintro H2 ⟨t2, d2⟩
          refine ⟨D, _, rfl, .of d2, ?_⟩
          rw [all_true]
          exact kk _ (s1.trans t2)

      · refine ⟨_, rfl, _, _, _, _, false, rfl, .ty "bool", .base (.lst hb), kit_ty (by decide +kernel), _, rfl, iteF ⟨_, rfl, _, _, _, _, false, rfl, .ty "bool", .base (.lst ha), kit_ty (by decide +kernel), _, rfl, iteF ?_⟩⟩
        refine ⟨_, rfl, (by show 2 ≤ sizeLine; decide), fun p hp => ?_⟩
        have s1 := Same.new (Same.refl H) hp (o := .tup [V.ty "list", V.ty "tuple"])
        have ha1 := s1 _ _ ha
        have hb1 := s1 _ _ hb
        refine ⟨_, p, _, _, _, true, rfl, upd_same, lt_tup, .base (.lst hb1), any_lst, _, rfl, iteT ?_⟩
        refine ⟨_, rfl, _, _, _, _, true, rfl, .ty "list", .base (.lst hb1), kit_ty (by decide +kernel), _, rfl, _, _, _, _, true, rfl, .ty "list", .base (.lst ha1), kit_ty (by decide +kernel), rfl, _, rfl, iteF ?_⟩
        refine ⟨_, rfl, _, _, _, _, false, rfl, .ty "tuple", .base (.lst hb1), kit_ty (by decide +kernel), _, rfl, _, _, _, _, false, rfl, .ty "tuple", .base (.lst ha1), kit_ty (by decide +kernel), rfl, _, rfl, iteF ⟨_, rfl, _, _, rfl, .inl ⟨_, .of ha1, rfl⟩, _, rfl, _, _, rfl, .inl ⟨_, .of hb1, rfl⟩, ?_⟩⟩
        refine ⟨rfl, _, rfl, ?_⟩
        rw [l1, decide_eq_true rfl]
        refine iteF ?_
        refine ⟨_, rfl, _, rfl, a, b, xs, ys, rfl, .inl ⟨SqL.of ha1, SqL.of hb1, fun D hD => ?_⟩⟩
        refine lc_it (walk_zip (n := ys.length) (by rw [l1, Nat.min_self])) (fun i H' => Same (upd H p (.tup [V.ty "list", V.ty "tuple"])) H' ∧ H' D = some (.lst ((List.replicate i true).map V.bl))) ⟨Same.new (Same.refl _) hD, upd_same⟩ (fun i H' _ z => ⟨SqL.of (z.1 _ _ ha1), SqL.of (z.1 _ _ hb1)⟩) ?_ ?_
        · rintro i x H2 H3 hi ⟨t2, d2⟩ ⟨T1, y, z, rfl, nT, rfl, hy, hz⟩
          have t3 := Same.new t2 nT (o := .tup [y, z])
          refine ⟨T1, _, rfl, SqT.of upd_same, rfl, y, _, rfl, z, _, rfl, rfl, rfl, ?_⟩
          refine ⟨_, rfl, _, rfl, y, z, rfl, Like.mono (s1.trans t3) (like i y z hy hz), fun H4 s4 => ?_⟩
          have d4 : H4 D = some (.lst ((List.replicate i true).map V.bl)) := s4 _ _ (by rw [upd_ne (ne_of_none d2 nT)]; exact d2)
          refine ⟨_, d4, ?_, fun c o e => ?_, ?_⟩
          · rw [List.length_map, List.length_replicate]
            exact small1000 (by omega)
          · have q := s4 _ _ (t3 c o e)
            rw [upd_ne (ne_of_none e hD)]
            exact q
          · rw [upd_same, List.replicate_succ', List.map_append]
            rfl
        · rintro H2 ⟨t2, d2⟩
          refine ⟨D, _, rfl, .of d2, ?_⟩
          rw [all_true]
          exact kk _ (s1.trans t2)

end
end K02

set_option Elab.async false
set_option linter.all false
set_option maxRecDepth 100000
set_option maxHeartbeats 4000000
namespace K02
open PySem PySem.Spec PyProof.Rows L2 Ux
abbrev sField : Stmt := top 27
abbrev sOtherField : Stmt := top 28
abbrev sWhy : Stmt := top 29
/-- the names of the errors' fields -/
def fieldNames : List Str := ["code", "given", "at", "name", "what", "limit", "index", "line", "deed"]
/-- a caught error with the fields fs -/
structure Err (K : PySem.W.Frag) (H : Hp) (p : Addr × Obj) (C dd : Addr) (fs : List (Str × V)) : Prop where
  ca : Caught p C dd
  xf : XfC K C
  no : ∀ f ∈ fieldNames, PySem.W.findIn K (.ref C) f = some none
  at_ : H dd = some (.xd fs)
theorem Err.same {K : PySem.W.Frag} {H H' : Hp} {p : Addr × Obj} {C dd : Addr} {fs : List (Str × V)} (h : Err K H p C dd fs) (s : Same H H') : Err K H' p C dd fs := ⟨h.ca, h.xf, h.no, s _ _ h.at_⟩
/-- what such an error has beside its code -/
def Has (fs : List (Str × V)) (f : Str) (q : V → Prop) : Prop := ∃ v, fs.lookup f = some v ∧ q v
def otherF (code : Str) (fs : List (Str × V)) (q : V → Prop) : Prop :=
  if decide (V.str code = V.str "InvalidFact") = true then Has fs "what" q else if decide (V.str code = V.str "InvalidRow") = true then Has fs "index" q else if decide (V.str code = V.str "InvalidPage") = true then Has fs "line" q else
  if decide (V.str code = V.str "UnlikeWorlds") = true then q .non else Has fs "deed" q
def spOtherF (K : PySem.W.Frag) : Addr × Obj → Sp := fun p vs H Q _ => ∃ (C dd : Addr) (fs : List (Str × V)) (code : Str), vs = [.ref p.1] ∧ Err K H p C dd fs ∧ fs.lookup ("code" : Str) = some (V.str code) ∧ otherF code fs fun v => Q v H
def fieldF (code : Str) (fs : List (Str × V)) (q : V → Prop) (tup : V → V → Prop) : Prop :=
  if inV (.str code) [.str "InvalidName", .str "InvalidNumber"] = true then Has fs "given" q else if inV (.str code) [.str "InvalidText", .str "WrongKind", .str "InvalidBlank"] = true then Has fs "at" q else
  if inV (.str code) [.str "NameTaken", .str "InvalidWitness", .str "UnknownName"] = true then Has fs "name" q else
  if decide (V.str code = V.str "TooLarge") = true then Has fs "what" (fun v => Has fs "limit" fun u => tup v u) else otherF code fs q
def spFieldE (K : PySem.W.Frag) : Addr × Obj → Sp := fun p vs H Q _ => ∃ (C dd : Addr) (fs : List (Str × V)) (code : Str), vs = [.ref p.1] ∧ Err K H p C dd fs ∧ fs.lookup ("code" : Str) = some (V.str code) ∧
  fieldF code fs (fun v => ∀ H', Same H H' → Q v H') fun v u => ∀ (t : Addr) (H' : Hp), H' t = some (.tup [v, u]) → Same H H' → Q (.ref t) H'
theorem same_upd' {H : Hp} {a : Addr} {o : HO} (ha : H a = none) : Same H (upd H a o) := fun x u e => by
  rw [upd_ne (ne_of_none e ha)]
  exact e
theorem unT {A B : Prop} (h : if true = true then A else B) : A := by
  rw [if_pos rfl] at h
  exact h
theorem unF {A B : Prop} (h : if false = true then A else B) : B := by
  rw [if_neg Bool.false_ne_true] at h
  exact h
section
variable {P : Program} {w : World} {K : PySem.W.Frag} {mg : Str → Option Value} {base : Heap}
theorem scOtherField : FnScope ["_law_e"] ["_law_e"] (defScope sOtherField) := ⟨rfl, rfl, rfl, by decide +kernel, rfl, by decide +kernel, by decide +kernel⟩
theorem ok_otherField {f : Addr} {fd : FuncData} (F : Fun K "_law_other_field" "_law_other_field" sOtherField f fd) : FnQ P w K mg base 1 f fd ["_law_e"] (spOtherF K) := by
  refine Ux.Fun.okQ F scOtherField (fun p vs H Q E h => ?_) (fun cdv A outer s H vs Q E p hr h => ?_)
  · obtain ⟨_, _, _, _, rfl, _⟩ := h
    rfl
  · obtain ⟨C, dd, fs, code, rfl, er, lc, q⟩ := h
    have hp : p ∈ (L2H.cxH CX0 P w K mg base ["_law_e"] "_law_other_field" (defScope sOtherField) f cdv A outer s H E p).pn := List.mem_singleton.mpr rfl
    refine ⟨_, pss_cons (ps_if (pt_cmpR op_eq (pe_pf er.xf (er.no _ (by decide +kernel)) hp er.ca (pv 0)) pe_str (nomark _)) (pss_one (ps_ret (pe_pf er.xf (er.no _ (by decide +kernel)) hp er.ca (pv 0)))) pss_nil)
      (pss_cons (ps_if (pt_cmpR op_eq (pe_pf er.xf (er.no _ (by decide +kernel)) hp er.ca (pv 0)) pe_str (nomark _)) (pss_one (ps_ret (pe_pf er.xf (er.no _ (by decide +kernel)) hp er.ca (pv 0)))) pss_nil)
      (pss_cons (ps_if (pt_cmpR op_eq (pe_pf er.xf (er.no _ (by decide +kernel)) hp er.ca (pv 0)) pe_str (nomark _)) (pss_one (ps_ret (pe_pf er.xf (er.no _ (by decide +kernel)) hp er.ca (pv 0)))) pss_nil)
      (pss_one (ps_ret (pe_ifExp (pt_cmpR op_eq (pe_pf er.xf (er.no _ (by decide +kernel)) hp er.ca (pv 0)) pe_str (nomark _)) pe_non (pe_pf er.xf (er.no _ (by decide +kernel)) hp er.ca (pv 0))))))), ?_⟩
    have ha := er.at_
    unfold otherF at q
    refine ⟨_, rfl, fs, _, rfl, ha, lc, rfl, _, rfl, ?_⟩
    cases h1 : decide (V.str code = V.str "InvalidFact") with
    | true =>
      rw [h1] at q
      obtain ⟨v, lv, k⟩ := unT q
      exact iteT ⟨_, rfl, fs, v, rfl, ha, lv, k⟩
    | false =>
      rw [h1] at q
      have q := unF q
      refine iteF ⟨_, rfl, fs, _, rfl, ha, lc, rfl, _, rfl, ?_⟩
      cases h2 : decide (V.str code = V.str "InvalidRow") with
      | true =>
        rw [h2] at q
        obtain ⟨v, lv, k⟩ := unT q
        exact iteT ⟨_, rfl, fs, v, rfl, ha, lv, k⟩
      | false =>
        rw [h2] at q
        have q := unF q
        refine iteF ⟨_, rfl, fs, _, rfl, ha, lc, rfl, _, rfl, ?_⟩
        cases h3 : decide (V.str code = V.str "InvalidPage") with
        | true =>
          rw [h3] at q
          obtain ⟨v, lv, k⟩ := unT q
          exact iteT ⟨_, rfl, fs, v, rfl, ha, lv, k⟩
        | false =>
          rw [h3] at q
          have q := unF q
          refine iteF ⟨_, rfl, fs, _, rfl, ha, lc, rfl, _, rfl, ?_⟩
          cases h4 : decide (V.str code = V.str "UnlikeWorlds") with
          | true =>
            rw [h4] at q
            exact iteT (unT q)
          | false =>
            rw [h4] at q
            obtain ⟨v, lv, k⟩ := unF q
            exact iteF ⟨_, rfl, fs, v, rfl, ha, lv, k⟩
theorem scField : FnScope ["_law_e"] ["_law_e"] (defScope sField) := ⟨rfl, rfl, rfl, by decide +kernel, rfl, by decide +kernel, by decide +kernel⟩
theorem ok_field {f fO : Addr} {fd fdO : FuncData} (F : Fun K "_law_field" "_law_field" sField f fd) (D : Dn K mg "_law_other_field" fO) (G : FnQ P w K mg base 1 fO fdO ["_law_e"] (spOtherF K)) (bO : Binds K fdO ["_law_e"] []) : FnQ P w K mg base 2 f fd ["_law_e"] (spFieldE K) := by
  refine Ux.Fun.okQ F scField (fun p vs H Q E h => ?_) (fun cdv A outer s H vs Q E p hr h => ?_)
  · obtain ⟨_, _, _, _, rfl, _⟩ := h
    rfl
  · obtain ⟨C, dd, fs, code, rfl, er, lc, q⟩ := h
    have hp : p ∈ (L2H.cxH CX0 P w K mg base ["_law_e"] "_law_field" (defScope sField) f cdv A outer s H E p).pn := List.mem_singleton.mpr rfl
    refine ⟨_, pss_cons (ps_if (pt_cmpR op_in_seq (pe_pf er.xf (er.no _ (by decide +kernel)) hp er.ca (pv 0)) (pe_tup (pa_cons pe_str (pa_cons pe_str pa_nil))) (by rfl)) (pss_one (ps_ret (pe_pf er.xf (er.no _ (by decide +kernel)) hp er.ca (pv 0)))) pss_nil)
      (pss_cons (ps_if (pt_cmpR op_in_seq (pe_pf er.xf (er.no _ (by decide +kernel)) hp er.ca (pv 0)) (pe_tup (pa_cons pe_str (pa_cons pe_str (pa_cons pe_str pa_nil)))) (by rfl)) (pss_one (ps_ret (pe_pf er.xf (er.no _ (by decide +kernel)) hp er.ca (pv 0)))) pss_nil)
      (pss_cons (ps_if (pt_cmpR op_in_seq (pe_pf er.xf (er.no _ (by decide +kernel)) hp er.ca (pv 0)) (pe_tup (pa_cons pe_str (pa_cons pe_str (pa_cons pe_str pa_nil)))) (by rfl)) (pss_one (ps_ret (pe_pf er.xf (er.no _ (by decide +kernel)) hp er.ca (pv 0)))) pss_nil)
      (pss_cons (ps_if (pt_cmpR op_eq (pe_pf er.xf (er.no _ (by decide +kernel)) hp er.ca (pv 0)) pe_str (nomark _)) (pss_one (ps_ret (pe_tup (pa_cons (pe_pf er.xf (er.no _ (by decide +kernel)) hp er.ca (pv 0)) (pa_cons (pe_pf er.xf (er.no _ (by decide +kernel)) hp er.ca (pv 0)) pa_nil))))) pss_nil)
      (pss_one (ps_ret (pe_callQ G hr hp (by rfl) D.gl D.kp bO (pa_cons (pv 0) pa_nil))))))), ?_⟩
    have ha := er.at_
    unfold fieldF at q
    refine ⟨_, rfl, fs, _, rfl, ha, lc, (by show 2 ≤ sizeLine; decide), fun t1 n1 => ?_⟩
    have s1 := same_upd' (o := .tup [V.str "InvalidName", .str "InvalidNumber"]) n1
    refine ⟨t1, _, rfl, .inr (.of upd_same), rfl, rfl, _, rfl, ?_⟩
    show if inV (.str code) [.str "InvalidName", .str "InvalidNumber"] = true then _ else _
    cases h1 : inV (.str code) [.str "InvalidName", .str "InvalidNumber"] with
    | true =>
      rw [h1] at q
      obtain ⟨v, lv, k⟩ := unT q
      exact iteT ⟨_, rfl, fs, v, rfl, s1 _ _ ha, lv, k _ s1⟩
    | false =>
      rw [h1] at q
      have q := unF q
      refine iteF ⟨_, rfl, fs, _, rfl, s1 _ _ ha, lc, (by show 3 ≤ sizeLine; decide), fun t2 n2 => ?_⟩
      have s2 := s1.trans (same_upd' (o := .tup [V.str "InvalidText", .str "WrongKind", .str "InvalidBlank"]) n2)
      refine ⟨t2, _, rfl, .inr (.of upd_same), rfl, rfl, _, rfl, ?_⟩
      show if inV (.str code) [.str "InvalidText", .str "WrongKind", .str "InvalidBlank"] = true then _ else _
      cases h2 : inV (.str code) [.str "InvalidText", .str "WrongKind", .str "InvalidBlank"] with
      | true =>
        rw [h2] at q
        obtain ⟨v, lv, k⟩ := unT q
        exact iteT ⟨_, rfl, fs, v, rfl, s2 _ _ ha, lv, k _ s2⟩
      | false =>
        rw [h2] at q
        have q := unF q
        refine iteF ⟨_, rfl, fs, _, rfl, s2 _ _ ha, lc, (by show 3 ≤ sizeLine; decide), fun t3 n3 => ?_⟩
        have s3 := s2.trans (same_upd' (o := .tup [V.str "NameTaken", .str "InvalidWitness", .str "UnknownName"]) n3)
        refine ⟨t3, _, rfl, .inr (.of upd_same), rfl, rfl, _, rfl, ?_⟩
        show if inV (.str code) [.str "NameTaken", .str "InvalidWitness", .str "UnknownName"] = true then _ else _
        cases h3 : inV (.str code) [.str "NameTaken", .str "InvalidWitness", .str "UnknownName"] with
        | true =>
          rw [h3] at q
          obtain ⟨v, lv, k⟩ := unT q
          exact iteT ⟨_, rfl, fs, v, rfl, s3 _ _ ha, lv, k _ s3⟩
        | false =>
          rw [h3] at q
          have q := unF q
          refine iteF ⟨_, rfl, fs, _, rfl, s3 _ _ ha, lc, rfl, _, rfl, ?_⟩
          cases h4 : decide (V.str code = V.str "TooLarge") with
          | true =>
            rw [h4] at q
            obtain ⟨v, lv, u, lu, k⟩ := unT q
            refine iteT ⟨_, rfl, fs, v, rfl, s3 _ _ ha, lv, _, rfl, fs, u, rfl, s3 _ _ ha, lu, (by show 2 ≤ sizeLine; decide), fun t4 n4 => ?_⟩
            exact k t4 _ upd_same (s3.trans (same_upd' n4))
          | false =>
            rw [h4] at q
            have q := unF q
            refine iteF ⟨_, rfl, C, dd, fs, code, rfl, er.same s3, lc, ?_⟩
            unfold otherF at q ⊢
            have mono : ∀ {f : Str}, Has fs f (fun v => ∀ H', Same H H' → Q v H') → Has fs f fun v => Q v _ := fun ⟨v, l, k⟩ => ⟨v, l, k _ s3⟩
            split at q
            · rename_i c
              rw [if_pos c]
              exact mono q
            · rename_i c
              rw [if_neg c]
              split at q
              · rename_i c
                rw [if_pos c]
                exact mono q
              · rename_i c
                rw [if_neg c]
                split at q
                · rename_i c
                  rw [if_pos c]
                  exact mono q
                · rename_i c
                  rw [if_neg c]
                  split at q
                  · rename_i c
                    rw [if_pos c]
                    exact q _ s3
                  · rename_i c
                    rw [if_neg c]
                    exact mono q
end
end K02

set_option Elab.async false
set_option linter.all false
set_option maxRecDepth 100000
set_option maxHeartbeats 4000000
namespace K02
open PySem PySem.Spec PyProof.Rows L2 Ux
/-! ### _law_why, handed a lambda -/
/-- the wish of an error: told as its code and what it has -/
def Told (K : PySem.W.Frag) (C1 C2 : Addr) (Q : VK) : XK := fun cls d H => ∃ (C dd : Addr) (fs : List (Str × V)) (code : Str), cls = .ref C ∧ d = some dd ∧ H dd = some (.xd fs) ∧ PySem.W.exmAny K cls [.ref C1, .ref C2] = some true ∧ XfC K C ∧
  (∀ f ∈ fieldNames, PySem.W.findIn K (.ref C) f = some none) ∧ fs.lookup ("code" : Str) = some (V.str code) ∧
  fieldF code fs (fun v => ∀ (t : Addr) (H' : Hp), H' t = some (.tup [.str code, v]) → Same H H' → Q (.ref t) H')
    fun v u => ∀ (t t2 : Addr) (H' : Hp), H' t2 = some (.tup [v, u]) → H' t = some (.tup [.str code, .ref t2]) → Same H H' → Q (.ref t) H'
def TTwhy (K : PySem.W.Frag) (C1 C2 : Addr) : (XK → Hp → VK → Prop) → Hp → VK → Prop := fun tl H Q =>
  tl (Told K C1 C2 Q) H fun v H' => [V.str "value", v].length ≤ sizeLine ∧ ∀ t : Addr, H' t = none → Q (.ref t) (upd H' t (.tup [.str "value", v]))
theorem Has.imp {fs : List (Str × V)} {f : Str} {q q' : V → Prop} (h : Has fs f q) (k : ∀ v, q v → q' v) : Has fs f q' := by
  obtain ⟨v, l, z⟩ := h
  exact ⟨v, l, k v z⟩
theorem ite_imp {c : Prop} [Decidable c] {A B A' B' : Prop} (h : if c then A else B) (ha : A → A') (hb : B → B') : if c then A' else B' := by
  split
  · rename_i z
    rw [if_pos z] at h
    exact ha h
  · rename_i z
    rw [if_neg z] at h
    exact hb h
theorem fieldF_imp {code : Str} {fs : List (Str × V)} {q q' : V → Prop} {t t' : V → V → Prop} (h : fieldF code fs q t) (k : ∀ v, q v → q' v) (k2 : ∀ v u, t v u → t' v u) : fieldF code fs q' t' := by
  unfold fieldF at h ⊢
  refine ite_imp h (fun z => z.imp k) fun h => ite_imp h (fun z => z.imp k) fun h => ite_imp h (fun z => z.imp k) fun h => ite_imp h (fun z => z.imp fun v z => z.imp (k2 v)) fun h => ?_
  unfold otherF at h ⊢
  exact ite_imp h (fun z => z.imp k) fun h => ite_imp h (fun z => z.imp k) fun h => ite_imp h (fun z => z.imp k) fun h => ite_imp h (k _) fun z => z.imp k
/-- the suite's reading -/
def tsWhy (K : PySem.W.Frag) (a : Addr) (cls : Value) (d : Option Addr) : TS := fun D σ H => ∃ C dd : Addr, cls = .ref C ∧ d = some dd ∧ XfC K C ∧ (∀ f ∈ fieldNames, PySem.W.findIn K (.ref C) f = some none) ∧
  ∀ oe : Obj, Caught (a, oe) C dd → tRet (tTup (tCons (tPf a dd "code" (tVar 1)) (tCons (tCallQ (a, oe) (spFieldE K) (tCons (tVar 1) tNil)) tNil))) D σ H
theorem scWhy : FnScope ["_law_ask", "_law_e"] ["_law_ask"] (defScope sWhy) := ⟨rfl, rfl, rfl, by decide +kernel, rfl, by decide +kernel, by decide +kernel⟩
section
variable {X : Cx} {C1 C2 fF g : Addr} {fdF : FuncData} {q : Str} {cdg : Value}
theorem why_gives (hr : Room 3 X.A) (D : Dn X.K X.mg "_law_field" fF) (G : FnQ X.prog X.w X.K X.mg X.base 2 fF fdF ["_law_e"] (spFieldE X.K)) (bF : Binds X.K fdF ["_law_e"] []) (m1 : X.mg "SlopeError" = some (.ref C1)) (m2 : X.mg "Missing" = some (.ref C2)) :
    LamX.GivesTo X ["_law_ask", "_law_e"] "_law_why" (defScope sWhy) g cdg (defBody sWhy) "_law_ask" q (TTwhy X.K C1 C2) := by
  intro f c' s H Q tl act hc h
  have room : L2H.RoomH 2 (cxOf C8.CX0 X.prog X.w X.K X.mg X.base ["_law_ask", "_law_e"] "_law_why" (defScope sWhy) g cdg X.A X.stack s H C8.E0).A := (L2H.roomH_of hr).deeper _
  refine ⟨_, pss_one (ps_try_as2 (X := (cxOf C8.CX0 X.prog X.w X.K X.mg X.base ["_law_ask", "_law_e"] "_law_why" (defScope sWhy) g cdg X.A X.stack s H C8.E0).nox) (i := 1) (C1 := C1) (C2 := C2) (ts := tsWhy X.K)
      (tb := fun W D σ H => ∃ Ech : XK, (∀ cls d σ' H', Ech cls d H' → W cls d σ' H') ∧ σ[0]? = some (some (.ref f)) ∧ H c' = some (LamX.CodeO c' q) ∧ tl Ech H fun v H' => [V.str "value", v].length ≤ sizeLine ∧ ∀ t, H' t = none → D.rt (.ref t) (upd H' t (.tup [.str "value", v])))
      rfl rfl scWhy.nd rfl rfl rfl rfl m1 m2 (by decide +kernel) (by decide +kernel) (fun W pn xe tk _ => ?_) (fun a oe cls d pn hz hf => ?_)), ?_⟩
  · refine ⟨fun pins s' σ H' D I h' => ?_⟩
    obtain ⟨Ech, hW, h1, h2, h3⟩ := h'
    exact (pss_one (ps_ret (pe_tup (pa_cons pe_str (pa_cons (act W pn xe Ech _ _ tk hW) pa_nil))))).run pins s' σ H' D I ⟨h1, h2, h3⟩
  · refine ⟨fun pins s' σ H' D' I h' => ?_⟩
    obtain ⟨C, dd, rfl, rfl, xf, no, k⟩ := h'
    have hp : (a, oe) ∈ ((cxOf C8.CX0 X.prog X.w X.K X.mg X.base ["_law_ask", "_law_e"] "_law_why" (defScope sWhy) g cdg X.A X.stack s H C8.E0).nox.suite a ((a, oe) :: pn)).pn := List.mem_cons_self
    have room2 : L2H.RoomH 2 ((cxOf C8.CX0 X.prog X.w X.K X.mg X.base ["_law_ask", "_law_e"] "_law_why" (defScope sWhy) g cdg X.A X.stack s H C8.E0).nox.suite a ((a, oe) :: pn)).A := ⟨room.dp, room.un⟩
    refine PSs.run (X := (cxOf C8.CX0 X.prog X.w X.K X.mg X.base ["_law_ask", "_law_e"] "_law_why" (defScope sWhy) g cdg X.A X.stack s H C8.E0).nox.suite a ((a, oe) :: pn)) (t := tRet (tTup (tCons (tPf a dd "code" (tVar 1)) (tCons (tCallQ (a, oe) (spFieldE X.K) (tCons (tVar 1) tNil)) tNil)))) ?_ pins s' σ H' D' I (k oe ⟨hz, hf⟩)
    exact pss_one (ps_ret (pe_tup (pa_cons (pe_pf (p := (a, oe)) xf (no _ (by decide +kernel)) hp ⟨hz, hf⟩ (pv 1)) (pa_cons (pe_callQ (p := (a, oe)) G room2 hp (by rfl) D.gl D.kp bF (pa_cons (pv 1) pa_nil)) pa_nil))))
  · refine ⟨Told X.K C1 C2 Q, fun cls d σ' H' t => ?_, rfl, hc, h⟩
    obtain ⟨C, dd, fs, code, rfl, rfl, hdd, ex, xf, no, lc, ff⟩ := t
    refine ⟨ex, fun a na len => ⟨C, dd, rfl, rfl, xf, no, fun oe ca => ?_⟩⟩
    have got : (σ'.set 1 (some (V.ref a)))[1]? = some (some (V.ref a)) := List.getElem?_set_self (by rw [len]; show 1 < 2; decide)
    refine ⟨.ref a, got, fs, _, rfl, hdd, lc, .ref a, got, C, dd, fs, code, rfl, ⟨ca, xf, no, hdd⟩, lc, fieldF_imp ff (fun v hv H2 s2 => ?_) (fun v u hv t2 H2 h2 s2 => ?_)⟩
    · exact ⟨(by show 2 ≤ sizeLine; decide), fun t nt => hv t _ upd_same (s2.trans (same_upd' nt))⟩
    · exact ⟨(by show 2 ≤ sizeLine; decide), fun t nt => hv t t2 _ ((upd_ne (ne_of_none h2 nt)).trans h2) upd_same (s2.trans (same_upd' nt))⟩
end
end K02

set_option Elab.async false
set_option linter.all false
set_option maxRecDepth 100000
set_option maxHeartbeats 4000000
namespace Ux
open PySem PySem.Spec PyProof.Rows L2
/-! ### {o} in an f-string by o's own __str__; the inner walk of a comprehension with two for -/
structure FmO (K : PySem.W.Frag) (C : Addr) : Prop where
  fm : PySem.W.findIn K (.ref C) "__format__" = some (some (.builtin "object.__format__"))
  ob : PySem.W.mroIn K C (.type "object") = some true
def tFmtO (C : Addr) (sp : Sp) (te : TE) : TE := fun σ H Q => te σ H fun x H1 => ∃ (a dx : Addr) (fs : List (Str × V)), x = .ref a ∧ H1 a = some (.ins C dx fs) ∧ sp [.ref a] H1 (fun v H' => ∃ z, v = .str z ∧ Q (.str z) H') (fun _ _ _ => False)
section
variable {X : Cx} {k : Nat} {f C : Addr} {fd : FuncData} {sp : Sp} {e : Expr} {te : TE} {pos : Pos}
theorem pe_fmtO (M : OwnM X.K C "__str__" f) (N : FmO X.K C) (F : FnOk X.prog X.w X.K X.mg X.base CX0 k f fd ["self"] sp) (hb : Binds X.K fd ["self"] []) (hr : Room (k + 1) X.A) (he : PE X e te) : PE X (.FormattedValue e (-1) none pos) (tFmtO C sp te) := by
  refine ⟨fun pins s σ H Q I h => ?_⟩
  refine wpAny_FormattedValue_plain (thn (he.run pins s σ H _ I h) fun v s1 hv => ?_)
  obtain ⟨x, H1, I1, r1, a, dx, fs, rfl, ea, q⟩ := hv
  cases (show v = Value.ref a from r1)
  obtain ⟨mA, O, _⟩ := ins_get I1.hok ea
  obtain ⟨od, J, _⟩ := O.look
  refine PySem.W.kfo_fieldS hr.in1.units0 I1.kIn J N.fm N.ob M.at_ M.fn (own_run F hr.in1 (I1.tok _).env0.in1 hb (vs := [.ref a]) (I1.tok _) (.cons rfl .nil) q fun u s' hq => ?_)
  obtain ⟨v, H', I', rv, z, ev, q'⟩ := hq
  subst ev
  obtain ⟨t, rfl⟩ := rv
  exact ⟨.str z, H', I', ⟨t, rfl⟩, q'⟩
end
theorem lc_in {K : PySem.W.Frag} {a : Addr} {xs : List V} {H4 : Hp} {Nx : Hp → Prop} {T : V → Hp → (Hp → Prop) → Prop} (Pv : Nat → Hp → Prop) (h0 : Pv 0 H4) (hl : ∀ i H, i ≤ xs.length → Pv i H → SqT K H a xs)
    (hs : ∀ i x H, xs[i]? = some x → Pv i H → T x H (Pv (i + 1))) (hd : ∀ H, Pv xs.length H → Nx H) :
    ∃ W : Nat → Nat → Hp → Prop, (∃ m, W 0 m H4) ∧ ∀ i m H, W i m H →
      ((Itt K a).stop i H ∧ Nx H) ∨ ((Itt K a).go i H ∧ ∃ N1 : Hp → Prop, (∀ H', N1 H' → ∃ m', m' < m ∧ W (i + 1) m' H') ∧ ∀ x H', (Itt K a).yld i H x H' → T x H' N1) := by
  refine ⟨fun i m H => m = xs.length - i ∧ i ≤ xs.length ∧ Pv i H, ⟨xs.length, by simp, Nat.zero_le _, h0⟩, ?_⟩
  rintro i m H ⟨rfl, hi, p⟩
  have q := hl i H hi p
  by_cases hlt : i < xs.length
  · refine .inr ⟨⟨xs, xs[i], q, by simp [hlt]⟩, Pv (i + 1), fun H' p' => ⟨xs.length - (i + 1), by omega, rfl, hlt, p'⟩, fun x H' y => ?_⟩
    obtain ⟨e, y⟩ := y
    subst e
    exact hs i x _ (y xs q) p
  · have e : i = xs.length := by omega
    subst e
    exact .inl ⟨⟨xs, q, Nat.le_refl _⟩, hd H p⟩
end Ux

set_option Elab.async false
set_option linter.all false
set_option maxRecDepth 100000
set_option maxHeartbeats 4000000
namespace Ux
open PySem PySem.Spec PyProof.Rows L2
section
variable {X : Cx} {CX : CXT} {k : Nat} {C p g : Addr} {x m : Str} {mc : Value} {fd : FuncData} {ps : List Str} {sp : Sp} {dvs : List V} {ds : List Value} {E : XK} {p1 p2 pos : Pos} {pl : Sem Bool}
/-- C.m(), m a staticmethod of an own class -/
theorem pe_smeth0 (hg : Gl X x) (hm : X.mg x = some (.ref C)) (S : StM X.K C m mc p g) (F : FnOk X.prog X.w X.K X.mg X.base CX k g fd ps sp) (hr : Room k X.A) (hb : Binds X.K fd ps ds) (hd : Vals dvs ds) (hx : Passes CX X E)
    (hdb : (x == ("__debug__" : Str)) = false := by decide)
    (hc : eval (.Call (.Attribute (.Name x p1) m p2) [] [] pos) X.env = (do
      let ov ← eval (.Name x p1) X.env
      standAt p2.atName
      let (f, first) ← holding [ov] (getMethod ov m pl)
      callWith pos f first (backTo pos (starEach [] X.env)) (backToKw pos (keywordEach [] X.env))) := by rfl) :
    PE X (.Call (.Attribute (.Name x p1) m p2) [] [] pos) (tCall sp dvs E tNil) := by
  constructor
  intro pins s σ H Q I h
  obtain ⟨rest, rc⟩ := S.rc
  refine PySem.W.methodCall_KW (ld_glob I hg hm ?_ hdb) hc
  refine PySem.W.method_cls I.kIn S.sg (PySem.W.cls_bind I.kIn S.rd S.fc (wpAny_call (PySem.W.sm_get (s := { s with toks := s.toks + 1 }) I.kIn rc (PySem.W.handed_on rfl ?_))))
  exact PySem.W.callWith_K0 (I.tok _).kIn S.kp (run_fn (us := []) F hr hb hd hx (I.tok _) .nil h)
end
end Ux

set_option Elab.async false
set_option linter.all false
set_option maxRecDepth 100000
set_option maxHeartbeats 4000000
namespace Ux
open PySem PySem.W
/-! ### own binary operators: the right side of the same class, an int, or the int on the left; own unary minus and abs; // by any divisor -/
section
variable {prog : Program} {w : World} {M : Model} {A : Around} {E : Value → Shared → Prop} {s : Shared} {K : Frag} {x C L f : Addr} {h₀ : Heap} {m : Str → Option Value} {ox : Obj} {od : Option Obj}
theorem intBin_ref {name : String} {g : Int → Int → Sem Fin} {refl : Bool} {i : Int} {t : Tok} {Q : Fin → Shared → Prop} (ho : s.heap.get? x = some ox) (np : ∀ j u, ox.data ≠ .prim (.int j u)) (h : Q (.done (.ret .notImplemented)) s) :
    wpAny M A (Builtin.Int.intBinary name g refl ⟨[.int i t, .ref x], []⟩) Q E s := by
  unfold Builtin.Int.intBinary
  refine wpAny_bind (m := slotArgs name 1 _) (wpAny_pure ?_)
  unfold Builtin.Int.intOfSelf
  refine wpAny_bind (wpAny_bind (m := asInt? (.int i t)) (wpAny_pure (wpAny_pure ?_)))
  refine wpAny_bind (m := asInt? (.ref x)) ?_
  unfold asInt?
  refine wpAny_bind (wpAny_load ho ?_)
  split
  · rename_i j u e
    exact absurd e (np j u)
  · refine wpAny_pure ?_
    exact wpAny_bind (wpAny_rule (wpAny_pure h))
theorem intSlot_ref {name : Str} {id nm : String} {g : Int → Int → Sem Fin} {i : Int} {t : Tok} {Q : Option Value → Shared → Prop} (h : Slot "int" name id) (hb : entryFor table id = some (Builtin.Int.intBinary nm g)) (ha : argsOk id ⟨[.int i t, .ref x], []⟩) (ho : s.heap.get? x = some ox) (np : ∀ j u, ox.data ≠ .prim (.int j u)) (hq : Q none s) :
    wpAny (model prog w) A (tryMethod (.int i t) name (.ref x)) Q E s :=
  wpAny_tryMethod_declines (typeIs_int s i t) h (wpAny_call_entry h (typeIs_int s i t) hb (intBin_ref ho np ⟨_, rfl, rfl, hq⟩) ha)
/-- i + x, x of a class with its own reflected method -/
theorem bin_refl {op : Operator} {nm sym idl : String} {g : Int → Int → Sem Fin} {n0 : String} {f' : Addr} {i : Int} {t : Tok} {Q : Value → Shared → Prop} (hi : op.info = (sym, nm)) (X : K.In s.heap) (I : InstAt s.heap x ox C od) (np : ∀ j u, ox.data ≠ .prim (.int j u)) (hc : selfFirst K C = true)
    (hs : findIn K (.ref C) (PySem.dunder nm) = some (some (.ref f'))) (hr : findIn K (.ref C) (dunderR nm) = some (some (.ref f))) (hf : isFn K (.ref f) = true) (hsub : subIn K (.ref C) (.type "int") = some false)
    (fills : fillsNumberSlot (.type "int") nm = pure true) (slot : Slot "int" (PySem.dunder nm) idl) (hb : entryFor table idl = some (Builtin.Int.intBinary n0 g)) (ha : argsOk idl ⟨[.int i t, .ref x], []⟩)
    (h : wpAny (model prog w) A (call (.ref f) [.ref x, .int i t]) (CmpBack Q) E s) : wpAny (model prog w) A (binaryOp op (.int i t) (.ref x)) Q E s := by
  obtain ⟨cd, rest, hcd, hm⟩ := ksp_first hc
  have one := ksp_try X I hr hf h
  have L3 : Looks (model prog w) s.heap (fillsNumberSlot (.ref C) nm) true := fills_K X hcd hm hs
  simp only [binaryOp, hi]
  refine wpAny_holding (wpAny_bind ?_)
  unfold binaryOp1
  refine wpAny_bind (wpAny_typeOf (typeIs_int s i t) (wpAny_bind (I.type.here (wpAny_bind (wpAny_of_eq fills ?_)))))
  have hne : (Value.type "int" == Value.ref C) = false := Bool.eq_false_iff.mpr fun q => by cases beq_iff_eq.mp q
  simp only [hne, Bool.false_eq_true, if_false]
  refine wpAny_bind (L3.here ?_)
  simp only [Bool.and_self, if_true]
  refine wpAny_bind ((looks_subIn X hsub).here ?_)
  have hpy : numberSlotInPython (.type "int") nm = pure false := rfl
  simp only [Bool.false_eq_true, if_false, pure_bind, Bool.not_false, Bool.and_self, if_true, hpy]
  refine wpAny_bind (intSlot_ref slot hb ha I.1 np ?_)
  dsimp only
  refine wpAny_bind (wpAny_mono one (fun r s' hr' => ?_) fun _ _ e => e)
  obtain ⟨v, rfl, hq⟩ := hr'
  exact wpAny_bind (wpAny_rule (wpAny_pure (wpAny_pure hq)))
end
end Ux
namespace Ux
open PySem PySem.Spec PyProof.Rows L2
/-- o op y by o's own method -/
structure BinM (K : PySem.W.Frag) (C : Addr) (nm : String) (f : Addr) : Prop where
  sf : PySem.W.selfFirst K C = true
  at_ : PySem.W.findIn K (.ref C) (PySem.dunder nm) = some (some (.ref f))
  fn : PySem.W.isFn K (.ref f) = true
/-- .. with an int on the right -/
structure BinI (K : PySem.W.Frag) (C : Addr) (nm : String) : Prop where
  rc : ∃ g : Addr, PySem.W.findIn K (.ref C) (dunderR nm) = some (some (.ref g))
  t1 : ∃ fo, PySem.W.findIn K (.type "int") (PySem.dunder nm) = some fo
  t2 : ∃ ro, PySem.W.findIn K (.type "int") (dunderR nm) = some ro
  sb : PySem.W.subIn K (.type "int") (.ref C) = some false
/-- .. with an int on the left -/
structure BinL (K : PySem.W.Frag) (C : Addr) (nm : String) (f : Addr) : Prop where
  sf : PySem.W.selfFirst K C = true
  lt : ∃ g : Addr, PySem.W.findIn K (.ref C) (PySem.dunder nm) = some (some (.ref g))
  at_ : PySem.W.findIn K (.ref C) (dunderR nm) = some (some (.ref f))
  fn : PySem.W.isFn K (.ref f) = true
  sb : PySem.W.subIn K (.ref C) (.type "int") = some false
/-- an object handed back -/
def Ob (Q : VK) : VK := fun v H => ∃ p, v = .ref p ∧ Q (.ref p) H
def rBinO (K : PySem.W.Frag) (C : Addr) (sp : Sp) : R2 := fun x y H Q => ∃ (a dx : Addr) (fs : List (Str × V)), x = .ref a ∧ H a = some (.ins C dx fs) ∧ TyX K H y (.ref C) ∧ sp [x, y] H (Ob Q) (fun _ _ _ => False)
def rBinI (C : Addr) (sp : Sp) : R2 := fun x y H Q => ∃ (a dx : Addr) (fs : List (Str × V)) (i : Int), x = .ref a ∧ y = .int i ∧ H a = some (.ins C dx fs) ∧ sp [x, y] H (Ob Q) (fun _ _ _ => False)
def rBinL (C : Addr) (sp : Sp) : R2 := fun x y H Q => ∃ (a dx : Addr) (fs : List (Str × V)) (i : Int), x = .int i ∧ y = .ref a ∧ H a = some (.ins C dx fs) ∧ sp [y, x] H (Ob Q) (fun _ _ _ => False)
section
variable {X : Cx} {k : Nat} {f C : Addr} {fd : FuncData} {sp : Sp} {op : Operator} {ps : List Str}
theorem ob_back {pins : List (Addr × Obj)} {σ : L2.St} {Q : VK} {u : Value} {s' : Shared} (hq : EP X pins σ (Ob Q) u s') : PySem.W.CmpBack (EP X pins σ Q) u s' := by
  obtain ⟨v, H', I', rv, p, ev, q'⟩ := hq
  subst ev
  cases (show u = Value.ref p from rv)
  exact ⟨.ref p, H', I', rfl, q'⟩
theorem op_binO (M : BinM X.K C op.info.2 f) (F : FnOk X.prog X.w X.K X.mg X.base CX0 k f fd ps sp) (hb : Binds X.K fd ps []) (hr : Room k X.A) : OpR X (binaryOp op) (rBinO X.K C sp) := by
  intro pins s σ H x y v u Q I rx ry h
  obtain ⟨a, dx, fs, rfl, ea, ty, q⟩ := h
  cases (show v = Value.ref a from rx)
  obtain ⟨mA, O, _⟩ := ins_get I.hok ea
  obtain ⟨od, J, _⟩ := O.look
  obtain ⟨m, hF⟩ := I.fr
  obtain ⟨P', Z, hp, _⟩ := kit_of I ry ty
  exact PySem.W.binop_K hF I.ok.mod.kin J (Z.ty _ _ I.kIn hp) M.sf M.at_ M.fn (own_run F hr I.env0 hb (vs := [.ref a, y]) I (.cons rfl (.cons ry .nil)) q fun u s' hq => ob_back hq)
theorem op_binI (M : BinM X.K C op.info.2 f) (N : BinI X.K C op.info.2) (F : FnOk X.prog X.w X.K X.mg X.base CX0 k f fd ps sp) (hb : Binds X.K fd ps []) (hr : Room k X.A) : OpR X (binaryOp op) (rBinI C sp) := by
  intro pins s σ H x y v u Q I rx ry h
  obtain ⟨a, dx, fs, i, rfl, rfl, ea, q⟩ := h
  cases (show v = Value.ref a from rx)
  obtain ⟨mA, O, _⟩ := ins_get I.hok ea
  obtain ⟨od, J, _⟩ := O.look
  obtain ⟨m, hF⟩ := I.fr
  obtain ⟨t, rfl⟩ := ry
  obtain ⟨g, rc⟩ := N.rc
  obtain ⟨fo, t1⟩ := N.t1
  obtain ⟨ro, t2⟩ := N.t2
  exact PySem.W.ksp_binT (T := "int") hF I.ok.mod.kin J rfl M.sf M.at_ M.fn rc (.inr ⟨g, rfl⟩) t1 t2 N.sb (own_run F hr I.env0 hb (vs := [.ref a, .int i]) I (.cons rfl (.cons ⟨t, rfl⟩ .nil)) q fun u s' hq => ob_back hq)
theorem op_binL {nm sym idl n0 : String} {g : Int → Int → Sem Fin} (hi : op.info = (sym, nm)) (M : BinL X.K C nm f) (F : FnOk X.prog X.w X.K X.mg X.base CX0 k f fd ps sp) (hb : Binds X.K fd ps []) (hr : Room k X.A)
    (fills : fillsNumberSlot (.type "int") nm = pure true) (slot : Slot "int" (PySem.dunder nm) idl) (he : entryFor table idl = some (Builtin.Int.intBinary n0 g)) (ha : ∀ a b, argsOk idl ⟨[a, b], []⟩) : OpR X (binaryOp op) (rBinL C sp) := by
  intro pins s σ H x y v u Q I rx ry h
  obtain ⟨a, dx, fs, i, rfl, rfl, ea, q⟩ := h
  cases (show u = Value.ref a from ry)
  obtain ⟨mA, O, _⟩ := ins_get I.hok ea
  obtain ⟨od, J, _⟩ := O.look
  obtain ⟨t, rfl⟩ := rx
  obtain ⟨g', lt⟩ := M.lt
  exact bin_refl hi I.kIn J (fun j u e => by cases e) M.sf lt M.at_ M.fn M.sb fills slot he (ha _ _) (own_run F hr I.env0 hb (vs := [.ref a, .int i]) I (.cons rfl (.cons ⟨t, rfl⟩ .nil)) q fun u s' hq => ob_back hq)
theorem op_addL (M : BinL X.K C "add" f) (F : FnOk X.prog X.w X.K X.mg X.base CX0 k f fd ps sp) (hb : Binds X.K fd ps []) (hr : Room k X.A) : OpR X (binaryOp .Add) (rBinL C sp) :=
  op_binL rfl M F hb hr PySem.F.fills_int_add PySem.F.slot_int_add PySem.F.entry_int_add PySem.F.args_int_add_2
theorem op_subL (M : BinL X.K C "sub" f) (F : FnOk X.prog X.w X.K X.mg X.base CX0 k f fd ps sp) (hb : Binds X.K fd ps []) (hr : Room k X.A) : OpR X (binaryOp .Sub) (rBinL C sp) :=
  op_binL rfl M F hb hr PySem.F.fills_int_sub PySem.F.slot_int_sub PySem.F.entry_int_sub PySem.F.args_int_sub_2
/-- -o by o's own __neg__ -/
def rOwnNeg (C : Addr) (sp : Sp) : V → Hp → VK → Prop := fun x H Q => ∃ (a dx : Addr) (fs : List (Str × V)), x = .ref a ∧ H a = some (.ins C dx fs) ∧ sp [.ref a] H Q (fun _ _ _ => False)
theorem un_negO (M : OwnM X.K C "__neg__" f) (F : FnOk X.prog X.w X.K X.mg X.base CX0 k f fd ["self"] sp) (hb : Binds X.K fd ["self"] []) (hr : Room k X.A) : UnR X (unaryOp .USub) (rOwnNeg C sp) := by
  intro pins s σ H x v Q I rx h
  obtain ⟨a, dx, fs, rfl, ea, q⟩ := h
  cases (show v = Value.ref a from rx)
  obtain ⟨mA, O, _⟩ := ins_get I.hok ea
  obtain ⟨od, J, _⟩ := O.look
  obtain ⟨m, hF⟩ := I.fr
  exact PySem.W.ksp_neg hF I.ok.mod.kin J M.at_ M.fn (own_run F hr I.env0 hb (vs := [.ref a]) I (.cons rfl .nil) q fun u s' hq => hq)
theorem op_any {f : Value → Value → Sem Value} {r1 r2 : R2} (h1 : OpR X f r1) (h2 : OpR X f r2) : OpR X f (fun x y H Q => r1 x y H Q ∨ r2 x y H Q) := by
  intro pins s σ H x y v u Q I rx ry h
  rcases h with h | h
  · exact h1 pins s σ H x y v u Q I rx ry h
  · exact h2 pins s σ H x y v u Q I rx ry h
/-- // by any divisor but 0, below 2 ^ 9000 -/
theorem op_fdivX : OpR X (binaryOp .FloorDiv) (rI (fun _ j => j ≠ 0 ∧ j.natAbs.log2 < 9000) fun i j => .int (i.fdiv j)) := opI fun _ _ _ _ _ _ _ hc q => floordiv_int hc.1 q (.inl (PyProof.noPylong_of_log2 hc.2))
end
end Ux

set_option Elab.async false
set_option linter.all false
set_option maxRecDepth 100000
set_option maxHeartbeats 4000000
namespace Ux
open PySem PySem.Spec PyProof.Rows L2
/-! ### abs(o) by o's own __abs__; o.m(k = e) -/
section
variable {X : Cx} {k : Nat} {f C : Addr} {fd : FuncData} {sp : Sp}
theorem call_absO (M : OwnM X.K C "__abs__" f) (F : FnOk X.prog X.w X.K X.mg X.base CX0 k f fd ["self"] sp) (hb : Binds X.K fd ["self"] []) (hr : Room (k + 1) X.A) : CallR X (.builtin "abs") (fun xs H Q => ∃ (a dx : Addr) (fs : List (Str × V)), xs = [.ref a] ∧ H a = some (.ins C dx fs) ∧ sp [.ref a] H (Ob Q) (fun _ _ _ => False)) := by
  intro pins s σ H xs us Q I r h
  obtain ⟨a, dx, fs, rfl, ea, q⟩ := h
  obtain ⟨u, rfl, rx⟩ := vals1 r
  cases (show u = Value.ref a from rx)
  obtain ⟨mA, O, _⟩ := ins_get I.hok ea
  obtain ⟨od, J, _⟩ := O.look
  refine PySem.Calls.call_function_entry kind_abs plain_abs entry_abs (args_abs _) ?_
  unfold Builtin.«abs»
  refine wpAny_bind (m := oneArg "abs" _) (wpAny_pure ?_)
  refine wpAny_bind (m := callSpecial? (.ref a) (Str.ofString "__abs__")) (PySem.W.special_fn I.kIn J M.at_ (beq_iff_eq.mp M.fn) (own_run F hr.in1 I.env0.in1 hb (vs := [.ref a]) I (.cons rfl .nil) q fun u s' hq => ?_))
  obtain ⟨v, H', I', rv, p, ev, q'⟩ := hq
  subst ev
  cases (show u = Value.ref p from rv)
  exact wpAny_pure ⟨_, rfl, .ref p, H', I', rfl, q'⟩
end
section
variable {X : Cx} {o : Expr} {m : Str} {pos apos : Pos} {ta : TE} {CX : CXT} {k : Nat} {f C : Addr} {fd : FuncData} {ps ks : List Str} {sp : Sp} {E : XK} {kws : List Keyword} {tk : TA} {gg : List Value → List Value → List Value} {gV : List V → List V → List V}
def tMethK0 (C : Addr) (m : Str) (sp : Sp) (gV : List V → List V → List V) (E : XK) (ta : TE) (tk : TA) : TE := fun σ H Q => ta σ H fun x H1 => ∃ a dx fs, x = .ref a ∧ H1 a = some (.ins C dx fs) ∧ fs.lookup m = none ∧ tk σ H1 fun zs H2 => sp (gV [x] zs) H2 Q E
theorem pe_methK0 {pl : Sem Bool} (he : PE X o ta) (c : Cls X.K C) (hm : Meth X.K C m f) (F : FnOk X.prog X.w X.K X.mg X.base CX k f fd ps sp) (hr : Room k X.A) (hb : KBinds X.K fd ps ks gg gV) (hx : Passes CX X E) (hkw : PK X kws tk)
    (hall : (backToKw pos (keywordEach kws X.env)).all (·.1.isSome) = true := by rfl) (hks : (backToKw pos (keywordEach kws X.env)).filterMap (·.1) = ks := by rfl)
    (ht : eval (.Call (.Attribute o m apos) [] kws pos) X.env = (do
      let ov ← eval o X.env
      standAt apos.atName
      let (f, first) ← holding [ov] (getMethod ov m pl)
      callWith pos f first (backTo pos (starEach [] X.env)) (backToKw pos (keywordEach kws X.env))) := by rfl)
    (hpl : ((backTo pos (starEach [] X.env)).any (·.1) || (backToKw pos (keywordEach kws X.env)).any (·.1.isNone)) = false := by rfl) :
    PE X (.Call (.Attribute o m apos) [] kws pos) (tMethK0 C m sp gV E ta tk) := by
  refine ⟨fun pins s σ H Q I h => ?_⟩
  refine PySem.W.methodCall_KW (pl := pl) (thn (he.run pins s σ H _ I h) fun u s1 ⟨x, H1, I1, rx, a, dx, fs, ex, ea, l, q⟩ => ?_) ht
  subst ex
  obtain rfl : u = Value.ref a := rx
  refine getmeth_ok I1 ea c hm l ?_
  refine PySem.W.callWith_KW0 (first := [.ref a]) (h₀ := X.base) I.ok.mod.kin hm.kp hall (thn (hkw.run pos pins s1 σ H1 _ I1 q) fun ws s2 got => ?_) hpl
  obtain ⟨zs, H2, I2, rz, q2⟩ := got
  refine ⟨I2.kIn, ?_⟩
  rw [hks]
  exact run_fnk (us := [.ref a]) (vs := [.ref a]) F hr hb hx I2 (.cons rfl .nil) rz q2
end
end Ux
/-! ### abs and str of False -/
namespace Ux
open PySem PySem.Spec PyProof.Rows L2
theorem abs_false {prog : Program} {w : World} {A : Around} {E : Value → Shared → Prop} {s : Shared} {Q : Value → Shared → Prop} (h : ∀ u tk, Q (.int 0 u) { s with toks := tk }) : wpAny (model prog w) A (call (.builtin "abs") [.bool false]) Q E s := by
  refine PySem.Calls.call_function_entry kind_abs plain_abs entry_abs (args_abs _) ?_
  unfold Builtin.«abs»
  refine wpAny_bind (m := oneArg "abs" _) (wpAny_pure ?_)
  refine wpAny_bind (m := callSpecial? (.bool false) (Str.ofString "__abs__")) (wpAny_callSpecial?_slot (name := Str.ofString "__abs__") (PySem.typeIs_bool s false) F.slot_bool_abs
    (wpAny_call_entry F.slot_bool_abs (PySem.typeIs_bool s false) entry_int_abs ?_ (args_int_abs _)))
  have h' := h s.toks (s.toks + 1)
  exact wpAny_ret_mkInt (wpAny_pure ⟨_, rfl, h'⟩)
theorem str_false {prog : Program} {w : World} {A : Around} {E : Value → Shared → Prop} {s : Shared} {Q : Value → Shared → Prop} (h : Q (.str "False" s.toks) { s with toks := s.toks + 1 }) : wpAny (model prog w) A (call (.type "str") [.bool false]) Q E s :=
  callType_new F.called_str (by decide) (F.typeCall_str_1 _) (F.newCall_str_1 _) (fun obj => F.args_object_init_2 obj _) F.entry_str_new
    (meets_str_new (S := fun _ R s => R (.ok (.ret (.str "False" s.toks))) { s with toks := s.toks + 1 }) fun _ _ _ _ s hq =>
      wpAny_strOf_gives rfl (PySem.typeIs_bool s false) F.slot_bool_str F.slot_bool_repr F.entry_bool_repr (F.args_bool_repr_1 _) (gives_bool_repr false) hq (hsz := by decide)) ⟨typeIs_str _ _ _, h⟩
theorem call_absB {X : Cx} : CallR X (.builtin "abs") (fun xs H Q => ((∃ i, xs = [.int i] ∧ Q (.int (if i < 0 then -i else i)) H) ∨ (xs = [.bl true] ∧ Q (.int 1) H)) ∨ (xs = [.bl false] ∧ Q (.int 0) H)) := by
  intro pins s σ H xs us Q I r h
  rcases h with h | ⟨rfl, q⟩
  · exact call_absT pins s σ H xs us Q I r h
  · obtain ⟨u, rfl, r1⟩ := vals1 r
    cases (show u = Value.bool false from r1)
    exact abs_false fun u tk => ⟨.int 0, H, I.tok _, ⟨_, rfl⟩, q⟩
theorem call_strB {X : Cx} : CallR X (.type "str") (fun xs H Q => ((∃ i, xs = [.int i] ∧ i.natAbs.log2 < 1920 ∧ Q (.str (toString i)) H) ∨ (xs = [.bl true] ∧ Q (.str "True") H)) ∨ (xs = [.bl false] ∧ Q (.str "False") H)) := by
  intro pins s σ H xs us Q I r h
  rcases h with h | ⟨rfl, q⟩
  · exact call_strT pins s σ H xs us Q I r h
  · obtain ⟨u, rfl, r1⟩ := vals1 r
    cases (show u = Value.bool false from r1)
    exact str_false ⟨.str _, H, I.tok _, ⟨_, rfl⟩, q⟩
end Ux

set_option Elab.async false
set_option linter.all false
set_option maxRecDepth 100000
set_option maxHeartbeats 4000000
namespace K02
open PySem PySem.Spec PyProof.Rows L2 Ux
theorem fit {n m : Nat} (h : n ≤ m) (k : m ≤ 100000) : n ≤ sizeLine := by
  rw [sizeLine_eq]
  omega
abbrev sShown : Stmt := top 3
/-- the values that the law hands in -/
inductive Adm (K : PySem.W.Frag) (H : Hp) : V → Prop where
  | own {a C dx : Addr} {fs : List (Str × V)} (h : H a = some (.ins C dx fs)) (ty : ∀ H' : Hp, H' a = some (.ins C dx fs) → TyX K H' (.ref a) (.ref C)) (k1 : PySem.W.kitOne K (.ref C) (.type "str") = some false) (k2 : PySem.W.kitOne K (.ref C) (.type "int") = some false) : Adm K H (.ref a)
  | non : Adm K H .non
  | yes : Adm K H (.bl true)
  | no : Adm K H (.bl false)
  | int {i : Int} (h : i.natAbs < 10 ^ 10) : Adm K H (.int i)
  | str {x : Str} (h : (reprText x).length ≤ 1000) : Adm K H (.str x)
  | tup {a : Addr} {xs : List V} (h : H a = some (.tup xs)) : Adm K H (.ref a)
  | lst {a : Addr} {xs : List V} (h : H a = some (.lst xs)) : Adm K H (.ref a)
def spShown (K : PySem.W.Frag) : Sp := fun vs H Q _ => ∃ v, vs = [v] ∧ Adm K H v ∧ ∀ z : Str, z.length ≤ 1000 → Q (.str z) H
theorem log2_small {i : Int} (h : i.natAbs < 10 ^ 10) : i.natAbs.log2 < 1920 := by
  by_cases z : i.natAbs = 0
  · rw [z]
    decide
  · have q := Nat.log2_self_le z
    have : i.natAbs.log2 < 40 := by
      refine Nat.lt_of_not_le fun c => ?_
      have q2 : 2 ^ 40 ≤ 2 ^ i.natAbs.log2 := Nat.pow_le_pow_right (by decide) c
      have q3 : (10 : Nat) ^ 10 < 2 ^ 40 := by decide
      omega
    omega
theorem text_small {i : Int} (h : i.natAbs < 10 ^ 10) : (toString i : Str).length ≤ 1000 := by
  show (Str.ofString (toString i)).length ≤ 1000
  have q := int_text_length_le10 (k := 10) (by decide) h
  rw [PySem.ofString_length]
  omega
section
variable {P : Program} {w : World} {K : PySem.W.Frag} {mg : Str → Option Value} {base : Heap}
theorem scShown : FnScope ["value"] ["value"] (defScope sShown) := ⟨rfl, rfl, rfl, by decide +kernel, rfl, by decide +kernel, by decide +kernel⟩
theorem ok_shown {f : Addr} {fd : FuncData} (F : Fun K "shown" "shown" sShown f fd) (T : Bn mg) : FnOk P w K mg base CX0 1 f fd ["value"] (spShown K) := by
  refine F.ok scShown (fun vs H Q E h => ?_) (fun cdv A outer s H vs Q E hr h => ?_)
  · obtain ⟨v, rfl, _⟩ := h
    rfl
  · obtain ⟨v, rfl, adm, k⟩ := h
    refine ⟨_, pss_cons (ps_if (pt_val (pe_callB call_isi (by rfl) T.isin (by decide +kernel) (pa_cons (pv 0) (pa_cons (pe_bltn (v := .ty "str") (by rfl) T.tstr (by decide +kernel) rfl) pa_nil))))
        (pss_one (ps_ret (pe_callB call_reprS (by rfl) T.frepr (by decide +kernel) (pa_cons (pv 0) pa_nil)))) pss_nil)
      (pss_cons (ps_if (PW.pt (pw_and (pt_val (pe_callB call_isi (by rfl) T.isin (by decide +kernel) (pa_cons (pv 0) (pa_cons (pe_bltn (v := .ty "int") (by rfl) T.tint (by decide +kernel) rfl) pa_nil))))
          (pw_and1 (pt_cmpR op_lt (pe_callB call_absB (by rfl) T.fabs (by decide +kernel) (pa_cons (pv 0) pa_nil)) (pe_op op_pow pe_int pe_int) (nomark _)))))
        (pss_one (ps_ret (pe_callTy call_strB (by rfl) T.tstr (by decide +kernel) (pa_cons (pv 0) pa_nil)))) pss_nil)
      (pss_one (ps_ret pe_str))), ?_⟩
    cases adm with
    | own ha ty k1 k2 =>
      refine ⟨_, rfl, _, _, _, _, false, rfl, .ty "str", ty _ ha, k1, _, rfl, ?_⟩
      refine iteF ?_
      refine ⟨_, rfl, _, _, _, _, false, rfl, .ty "int", ty _ ha, k2, _, rfl, ?_⟩
      refine iteF (iteF ?_)
      exact k _ (by decide)
    | non =>
      refine ⟨_, rfl, _, _, _, _, false, rfl, .ty "str", .base .non, kit_ty (by decide +kernel), _, rfl, ?_⟩
      refine iteF ?_
      refine ⟨_, rfl, _, _, _, _, false, rfl, .ty "int", .base .non, kit_ty (by decide +kernel), _, rfl, ?_⟩
      refine iteF (iteF ?_)
      exact k _ (by decide)
    | yes =>
      refine ⟨_, rfl, _, _, _, _, false, rfl, .ty "str", .base (.bl _), kit_ty (by decide +kernel), _, rfl, ?_⟩
      refine iteF ?_
      refine ⟨_, rfl, _, _, _, _, true, rfl, .ty "int", .base (.bl _), kit_ty (by decide +kernel), _, rfl, ?_⟩
      refine iteT ⟨_, rfl, .inl (.inr ⟨rfl, _, _, rfl, rfl, ⟨by decide, by decide, by decide⟩, _, _, rfl, rfl, _, rfl, ?_⟩)⟩
      refine iteT ⟨_, rfl, .inl (.inr ⟨rfl, ?_⟩)⟩
      exact k _ (by decide)
    | no =>
      refine ⟨_, rfl, _, _, _, _, false, rfl, .ty "str", .base (.bl _), kit_ty (by decide +kernel), _, rfl, ?_⟩
      refine iteF ?_
      refine ⟨_, rfl, _, _, _, _, true, rfl, .ty "int", .base (.bl _), kit_ty (by decide +kernel), _, rfl, ?_⟩
      refine iteT ⟨_, rfl, .inr ⟨rfl, _, _, rfl, rfl, ⟨by decide, by decide, by decide⟩, _, _, rfl, rfl, _, rfl, ?_⟩⟩
      refine iteT ⟨_, rfl, .inr ⟨rfl, ?_⟩⟩
      exact k _ (by decide)
    | @int i hi =>
      refine ⟨_, rfl, _, _, _, _, false, rfl, .ty "str", .base (.int _), kit_ty (by decide +kernel), _, rfl, ?_⟩
      refine iteF ?_
      refine ⟨_, rfl, _, _, _, _, true, rfl, .ty "int", .base (.int _), kit_ty (by decide +kernel), _, rfl, ?_⟩
      refine iteT ⟨_, rfl, .inl (.inl ⟨_, rfl, _, _, rfl, rfl, ⟨by decide, by decide, by decide⟩, _, _, rfl, rfl, _, rfl, ?_⟩)⟩
      have lt : (if i < 0 then -i else i) < 10 ^ Int.toNat 30 := by
        have e : ((10 : Int) ^ Int.toNat 30) = 1000000000000000000000000000000 := by decide +kernel
        have h10 : (10 : Nat) ^ 10 = 10000000000 := by decide
        rw [e]
        rw [h10] at hi
        split <;> omega
      rw [decide_eq_true lt]
      refine iteT ⟨_, rfl, .inl (.inl ⟨_, rfl, log2_small hi, ?_⟩)⟩
      exact k _ (text_small hi)
    | @str x hx =>
      refine ⟨_, rfl, _, _, _, _, true, rfl, .ty "str", .base (.str _), kit_ty (by decide +kernel), _, rfl, ?_⟩
      refine iteT ⟨_, rfl, _, rfl, ?_, ?_⟩
      · rw [sizeLine_eq]
        omega
      · exact k _ hx
    | tup ha =>
      refine ⟨_, rfl, _, _, _, _, false, rfl, .ty "str", .base (.tup ha), kit_ty (by decide +kernel), _, rfl, ?_⟩
      refine iteF ?_
      refine ⟨_, rfl, _, _, _, _, false, rfl, .ty "int", .base (.tup ha), kit_ty (by decide +kernel), _, rfl, ?_⟩
      refine iteF (iteF ?_)
      exact k _ (by decide)
    | lst ha =>
      refine ⟨_, rfl, _, _, _, _, false, rfl, .ty "str", .base (.lst ha), kit_ty (by decide +kernel), _, rfl, ?_⟩
      refine iteF ?_
      refine ⟨_, rfl, _, _, _, _, false, rfl, .ty "int", .base (.lst ha), kit_ty (by decide +kernel), _, rfl, ?_⟩
      refine iteF (iteF ?_)
      exact k _ (by decide)
end
theorem e00 : Str.empty.length ≤ 0 := Nat.le_refl _
theorem app_le {x y : Str} {m n : Nat} (h : x.length ≤ m) (k : y.length ≤ n) : (x ++ y).length ≤ m + n := by
  rw [PySem.Str.length_append]
  omega
/-- a base of error classes, its __init__ read off it -/
structure Bs (K : PySem.W.Frag) (mg : Str → Option Value) (x : Str) (initId : String) (CB : Addr) : Prop where
  gl : mg x = some (.ref CB)
  sg : PySem.W.specialIn K (.ref CB) "__getattribute__" = some (some (.builtin "type.__getattribute__"))
  rd : PySem.W.readsIn K CB (.type "type") = true
  vV : PySem.W.findCls K (.ref CB) (.type "type") "__init__" = some (.val (.builtin initId))
  vh : PySem.W.handedIn (.builtin initId) = true
abbrev sI_InvalidNumber : Stmt := inClass (top 6) 0
/-- InvalidNumber.__init__ -/
def spI_InvalidNumber (K : PySem.W.Frag) : Sp := fun vs H Q _ => ∃ (a C : Addr) (v1 : V), vs = [.ref a, v1] ∧ EcI K "ValueError.__init__" C ∧ (PySem.W.findIn K (.ref C) "code" = some none ∧ PySem.W.findIn K (.ref C) "given" = some none) ∧ H a = some (exo a C none) ∧ Adm K H v1 ∧
  ∀ (d : Addr) (H' : Hp), H d = none → d ≠ a → H' a = some (exo a C (some d)) → H' d = some (exd d [("given", v1), ("code", .str "InvalidNumber")]) → But a H H' → Q .non H'
section
variable {P : Program} {w : World} {K : PySem.W.Frag} {mg : Str → Option Value} {base : Heap}
theorem scI_InvalidNumber : FnScope ["self", "given"] ["self", "given"] (defScope sI_InvalidNumber) := ⟨rfl, rfl, rfl, by decide +kernel, rfl, by decide +kernel, by decide +kernel⟩
theorem okI_InvalidNumber {f CB fS : Addr} {fd fdS : FuncData} (F : Fun K "__init__" "InvalidNumber.__init__" sI_InvalidNumber f fd) (W : Bs K mg "SlopeError" "ValueError.__init__" CB) (D : Dn K mg "shown" fS) (G : FnOk P w K mg base CX0 1 fS fdS ["value"] (spShown K)) (bS : Binds K fdS ["value"] []) :
    FnOk P w K mg base CX0 2 f fd ["self", "given"] (spI_InvalidNumber K) := by
  refine F.ok scI_InvalidNumber (fun vs H Q E h => ?_) (fun cdv A outer s H vs Q E hr h => ?_)
  · obtain ⟨a, C, v1, rfl, _⟩ := h
    rfl
  · obtain ⟨a, C, v1, rfl, ec, ⟨n0, n1⟩, ea, ad1, k⟩ := h
    refine ⟨_, pss_cons (ps_expr (pe_bi (initId := "ValueError.__init__") (by rfl) W.gl W.sg W.rd W.vV W.vh (pa_cons (pv 0) (pa_cons (pe_joined (PJ.cons (pe_fmt (pe_call G hr (by rfl) D.gl D.kp bS .nil pass0 (pa_cons (pv 1) pa_nil))) (PJ.cons pe_str PJ.nil))) pa_nil)))) (pss_cons (ps_est (pv 0) pe_str) (pss_one (ps_est (pv 0) (pv 1)))), ?_⟩
    have ea2 : EcA K C := ⟨_, ec⟩
    refine ⟨_, rfl, _, rfl, v1, rfl, ad1, fun z1 hz1 => .inl ⟨z1, rfl, fit hz1 (by decide), z1, rfl, fit (app_le e00 hz1) (by decide), _, rfl, fit (app_le (app_le e00 hz1) (show (Str.ofString " is no valid number").length ≤ 200 by decide)) (by decide), a, C, _, rfl, (by show 1 ≤ 1000; decide), ec, ea, ?_⟩⟩
    refine ⟨_, rfl, a, C, rfl, ea2, n0, .inl ⟨ea, fun d hd nd => ?_⟩⟩
    have xa : (upd (upd H d (exd d [("code", V.str "InvalidNumber")])) a (exo a C (some d))) a = some (exo a C (some d)) := upd_same
    have xd0 : (upd (upd H d (exd d [("code", V.str "InvalidNumber")])) a (exo a C (some d))) d = some (exd d [("code", V.str "InvalidNumber")]) := (upd_ne nd).trans upd_same
    have b0 : But a H (upd (upd H d (exd d [("code", V.str "InvalidNumber")])) a (exo a C (some d))) := fun x o e n => by
      rw [upd_ne n, upd_ne (ne_of_none e hd)]
      exact e
    refine ⟨_, rfl, _, rfl, a, C, rfl, ea2, n1, .inr ⟨d, _, xa, xd0, (by show 1 ≤ 900; decide), ?_⟩⟩
    replace xa : (upd (upd (upd H d (exd d [("code", V.str "InvalidNumber")])) a (exo a C (some d))) d (exd d (("given", v1) :: [("code", V.str "InvalidNumber")]))) a = some (exo a C (some d)) := (upd_ne nd.symm).trans xa
    have xd1 : (upd (upd (upd H d (exd d [("code", V.str "InvalidNumber")])) a (exo a C (some d))) d (exd d (("given", v1) :: [("code", V.str "InvalidNumber")]))) d = some (exd d (("given", v1) :: [("code", V.str "InvalidNumber")])) := upd_same
    have b1 : But a H (upd (upd (upd H d (exd d [("code", V.str "InvalidNumber")])) a (exo a C (some d))) d (exd d (("given", v1) :: [("code", V.str "InvalidNumber")]))) := fun x o e n => by
      rw [upd_ne (ne_of_none e hd)]
      exact b0 x o e n
    exact k d _ hd nd xa xd1 b1
end

theorem Adm.same {K : PySem.W.Frag} {H H' : Hp} {v : V} (h : Adm K H v) (s : Same H H') : Adm K H' v := by
  cases h with
  | own h ty k1 k2 => exact .own (s _ _ h) ty k1 k2
  | non => exact .non
  | yes => exact .yes
  | no => exact .no
  | int h => exact .int h
  | str h => exact .str h
  | tup h => exact .tup (s _ _ h)
  | lst h => exact .lst (s _ _ h)
/-- the class InvalidNumber, raised -/
structure IN (K : PySem.W.Frag) (mg : Str → Option Value) (C fI : Addr) : Prop where
  gl : mg "InvalidNumber" = some (.ref C)
  ox : OexC K C
  ec : EcI K "ValueError.__init__" C
  n0 : PySem.W.findIn K (.ref C) "code" = some none
  n1 : PySem.W.findIn K (.ref C) "given" = some none
  ini : PySem.W.findIn K (.ref C) "__init__" = some (some (.ref fI))
  ty : PySem.W.typeIn K (.ref fI) = some (.type "function")
/-- how it flies -/
def inFs (v : V) : List (Str × V) := [("given", v), ("code", .str "InvalidNumber")]
theorem del_put {H H2 : Hp} {a d : Addr} {o o' : HO} (na : H a = none) (hd : H d = none) (bu : But a (upd H a o) H2) : Same H (upd (del H2 a) d o') := fun x u e => by
  have xa := ne_of_none e na
  rw [upd_ne (ne_of_none e hd), del_ne xa]
  exact bu x u ((upd_ne xa).trans e) xa
theorem in_made {K : PySem.W.Frag} {mg : Str → Option Value} {C fI : Addr} (T : IN K mg C fI) {σ : L2.St} {H : Hp} {Q : XK} {i : Nat} {v : V} (hi : σ[i]? = some (some v)) (hv : Adm K H v) (h : ∀ d H', Same H H' → H' d = some (.xd (inFs v)) → Q (.ref C) (some d) H') :
    tMkO C (spI_InvalidNumber K) [] (tCons (tVar i) tNil) σ H Q := by
  refine ⟨v, hi, (by show 1 ≤ 1000; decide), fun a na => ⟨a, C, v, rfl, T.ec, ⟨T.n0, T.n1⟩, upd_same, hv.same (same_upd' na), fun d H2 hd nd ha hdd bu => ⟨rfl, d, _, ha, hdd, ?_, ?_⟩⟩⟩
  · rw [upd_ne nd] at hd
    exact hd
  · rw [upd_ne nd] at hd
    exact h d _ (del_put na hd bu) upd_same
/-! ### lowest terms -/
def cg (t b : Int) : Int := if b < 0 then -((Nat.gcd t.natAbs b.natAbs : Nat) : Int) else ((Nat.gcd t.natAbs b.natAbs : Nat) : Int)
def nT (t b : Int) : Int := t.fdiv (cg t b)
def nB (t b : Int) : Int := b.fdiv (cg t b)
def sg (b : Int) : Int := if b < 0 then -1 else 1
theorem g_pos {t b : Int} (hb : b ≠ 0) : 0 < Nat.gcd t.natAbs b.natAbs := Nat.gcd_pos_of_pos_right _ (by omega)
theorem cg_ne {t b : Int} (hb : b ≠ 0) : cg t b ≠ 0 := by
  have := g_pos (t := t) hb
  unfold cg
  split <;> omega
theorem cg_abs {t b : Int} : (cg t b).natAbs = Nat.gcd t.natAbs b.natAbs := by
  unfold cg
  split <;> omega
/-- t and b by their gcd -/
theorem parts (t b : Int) : ∃ k l : Int, t = ((Nat.gcd t.natAbs b.natAbs : Nat) : Int) * k ∧ b = ((Nat.gcd t.natAbs b.natAbs : Nat) : Int) * l := by
  have h1 : ((Nat.gcd t.natAbs b.natAbs : Nat) : Int) ∣ t := Int.ofNat_dvd_left.mpr (Nat.gcd_dvd_left _ _)
  have h2 : ((Nat.gcd t.natAbs b.natAbs : Nat) : Int) ∣ b := Int.ofNat_dvd_left.mpr (Nat.gcd_dvd_right _ _)
  obtain ⟨k, hk⟩ := h1
  obtain ⟨l, hl⟩ := h2
  exact ⟨k, l, hk, hl⟩
theorem fdiv_cg {t b x k : Int} (hb : b ≠ 0) (hx : x = ((Nat.gcd t.natAbs b.natAbs : Nat) : Int) * k) : x.fdiv (cg t b) = sg b * k := by
  have g0 := g_pos (t := t) hb
  generalize hg : ((Nat.gcd t.natAbs b.natAbs : Nat) : Int) = g at hx
  have gp : 0 < g := by omega
  have e : cg t b = sg b * g := by
    unfold cg sg
    rw [hg]
    split <;> omega
  rw [e, hx]
  unfold sg
  split
  · have e2 : g * k = (-1 * g) * (-k) := by
      rw [Int.neg_mul, Int.one_mul, Int.neg_mul_neg]
    rw [e2, Int.mul_fdiv_cancel_left _ (by omega)]
    omega
  · rw [Int.one_mul, Int.one_mul, Int.mul_fdiv_cancel_left _ (by omega)]
theorem sg_fdiv {t b x k : Int} (hb : b ≠ 0) (hx : x = ((Nat.gcd t.natAbs b.natAbs : Nat) : Int) * k) : (sg b * x).fdiv ((Nat.gcd t.natAbs b.natAbs : Nat) : Int) = sg b * k := by
  have g0 := g_pos (t := t) hb
  generalize hg : ((Nat.gcd t.natAbs b.natAbs : Nat) : Int) = g at hx
  have e : sg b * x = g * (sg b * k) := by
    rw [hx, ← Int.mul_assoc, ← Int.mul_assoc, Int.mul_comm (sg b) g]
  rw [e, Int.mul_fdiv_cancel_left _ (by omega)]
theorem law_nT {t b : Int} (hb : b ≠ 0) : (sg b * t).fdiv ((Nat.gcd t.natAbs b.natAbs : Nat) : Int) = nT t b := by
  obtain ⟨k, l, h1, h2⟩ := parts t b
  rw [sg_fdiv hb h1]
  exact (fdiv_cg hb h1).symm
theorem law_nB {t b : Int} (hb : b ≠ 0) : (sg b * b).fdiv ((Nat.gcd t.natAbs b.natAbs : Nat) : Int) = nB t b := by
  obtain ⟨k, l, h1, h2⟩ := parts t b
  rw [sg_fdiv hb h2]
  exact (fdiv_cg hb h2).symm
theorem sg_abs (b : Int) : (sg b).natAbs = 1 := by
  unfold sg
  split <;> rfl
theorem n_cop {t b : Int} (hb : b ≠ 0) : Nat.gcd (nT t b).natAbs (nB t b).natAbs = 1 := by
  obtain ⟨k, l, h1, h2⟩ := parts t b
  have e1 : nT t b = sg b * k := fdiv_cg hb h1
  have e2 : nB t b = sg b * l := fdiv_cg hb h2
  rw [e1, e2, Int.natAbs_mul, Int.natAbs_mul, sg_abs, Nat.one_mul, Nat.one_mul]
  have g0 := g_pos (t := t) hb
  have a1 : t.natAbs = Nat.gcd t.natAbs b.natAbs * k.natAbs := by
    have := congrArg Int.natAbs h1
    rw [Int.natAbs_mul] at this
    exact this
  have a2 : b.natAbs = Nat.gcd t.natAbs b.natAbs * l.natAbs := by
    have := congrArg Int.natAbs h2
    rw [Int.natAbs_mul] at this
    exact this
  have a3 := Nat.gcd_mul_left (Nat.gcd t.natAbs b.natAbs) k.natAbs l.natAbs
  rw [← a1, ← a2] at a3
  have a4 : Nat.gcd t.natAbs b.natAbs * 1 = Nat.gcd t.natAbs b.natAbs * Nat.gcd k.natAbs l.natAbs := by
    rw [Nat.mul_one]
    exact a3
  exact (Nat.eq_of_mul_eq_mul_left g0 a4).symm
theorem nB_pos {t b : Int} (hb : b ≠ 0) : 0 < nB t b := by
  obtain ⟨k, l, h1, h2⟩ := parts t b
  have e2 : nB t b = sg b * l := fdiv_cg hb h2
  rw [e2]
  have g0 := g_pos (t := t) hb
  generalize hg : ((Nat.gcd t.natAbs b.natAbs : Nat) : Int) = g at h2
  have gp : 0 < g := by omega
  unfold sg
  split
  · rename_i n
    have hl : l < 0 := by
      refine Int.not_le.mp fun c => ?_
      have := Int.mul_nonneg (Int.le_of_lt gp) c
      omega
    omega
  · rename_i n
    have hl : 0 < l := by
      refine Int.not_le.mp fun c => ?_
      have : g * l ≤ 0 := Int.mul_nonpos_of_nonneg_of_nonpos (Int.le_of_lt gp) c
      omega
    omega
theorem n_low {t b : Int} (hb : 0 < b) (hg : Nat.gcd t.natAbs b.natAbs = 1) : nT t b = t ∧ nB t b = b := by
  have e : cg t b = 1 := by
    unfold cg
    rw [hg, if_neg (by omega)]
    rfl
  unfold nT nB
  rw [e, Int.fdiv_one, Int.fdiv_one]
  exact ⟨rfl, rfl⟩
theorem n_abs {t b : Int} (hb : b ≠ 0) : (nT t b).natAbs ≤ t.natAbs ∧ (nB t b).natAbs ≤ b.natAbs := by
  obtain ⟨k, l, h1, h2⟩ := parts t b
  have e1 : nT t b = sg b * k := fdiv_cg hb h1
  have e2 : nB t b = sg b * l := fdiv_cg hb h2
  have g0 := g_pos (t := t) hb
  rw [e1, e2, Int.natAbs_mul, Int.natAbs_mul, sg_abs, Nat.one_mul, Nat.one_mul]
  have a1 : t.natAbs = Nat.gcd t.natAbs b.natAbs * k.natAbs := by
    have := congrArg Int.natAbs h1
    rw [Int.natAbs_mul] at this
    exact this
  have a2 : b.natAbs = Nat.gcd t.natAbs b.natAbs * l.natAbs := by
    have := congrArg Int.natAbs h2
    rw [Int.natAbs_mul] at this
    exact this
  constructor
  · rw [a1]
    exact Nat.le_trans (Nat.le_mul_of_pos_left _ g0) (by rw [← a1]; exact Nat.le_refl _)
  · rw [a2]
    exact Nat.le_trans (Nat.le_mul_of_pos_left _ g0) (by rw [← a2]; exact Nat.le_refl _)
theorem n_one (i : Int) : nT i 1 = i ∧ nB i 1 = 1 := n_low (by decide) (Nat.gcd_one_right _)
/-- below 2 ^ n -/
def Bd (n : Nat) (i : Int) : Prop := i.natAbs < 2 ^ n
theorem Bd.le {n m : Nat} {i : Int} (h : Bd n i) (l : n ≤ m) : Bd m i := Nat.lt_of_lt_of_le h (Nat.pow_le_pow_right (by decide) l)
theorem Bd.mul {n m : Nat} {i j : Int} (h : Bd n i) (k : Bd m j) : Bd (n + m) (i * j) := wide_lt h k
theorem Bd.add {n : Nat} {i j : Int} (h : Bd n i) (k : Bd n j) : Bd (n + 1) (i + j) := by
  unfold Bd at h k ⊢
  rw [Nat.pow_succ]
  omega
theorem Bd.neg {n : Nat} {i : Int} (h : Bd n i) : Bd n (-i) := by
  unfold Bd at h ⊢
  rw [Int.natAbs_neg]
  exact h
theorem Bd.of {n m : Nat} {i : Int} (h : i.natAbs ≤ m) (k : m < 2 ^ n) : Bd n i := Nat.lt_of_le_of_lt h k
theorem Bd.log {n : Nat} {i : Int} (h : Bd n i) (k : 0 < n) : i.natAbs.log2 < n := PySem.Flt.log2_lt_of k h
end K02

set_option Elab.async false
set_option linter.all false
set_option maxRecDepth 100000
set_option maxHeartbeats 4000000
set_option pp.maxSteps 500
namespace K02
open PySem PySem.Spec PyProof.Rows L2 Ux
abbrev sIsInt : Stmt := top 13
abbrev sIsNum : Stmt := top 14
abbrev sRatioOf : Stmt := top 15
abbrev sRInit : Stmt := inClass (top 20) 0
abbrev sAdd : Stmt := inClass (top 20) 3
abbrev sRadd : Stmt := inClass (top 20) 4
abbrev sSub : Stmt := inClass (top 20) 5
abbrev sRsub : Stmt := inClass (top 20) 6
abbrev sMul : Stmt := inClass (top 20) 7
abbrev sRmul : Stmt := inClass (top 20) 8
abbrev sNeg : Stmt := inClass (top 20) 9
abbrev sAbs : Stmt := inClass (top 20) 10
abbrev sOver : Stmt := inClass (top 20) 11
abbrev sREq : Stmt := inClass (top 20) 12
theorem same_upd {H : Hp} {a : Addr} {o : HO} (ha : H a = none) : Same H (upd H a o) := same_upd' ha
theorem made_same {H H' : Hp} {x dx : Addr} {o1 o2 : HO} (nx : H x = none) (nd : H dx = none) (bu : But x (upd (upd H dx o1) x o2) H') : Same H H' := fun c o e => by
  have n1 := ne_of_none e nx
  refine bu c o ?_ n1
  rw [upd_ne n1, upd_ne (ne_of_none e nd)]
  exact e
/-- the class Ratio -/
structure RT (K : PySem.W.Frag) (mg : Str → Option Value) (CR : Addr) : Prop where
  cl : Cls K CR
  nT : NoAttr K CR "top"
  nB : NoAttr K CR "bottom"
  gl : mg "Ratio" = some (.ref CR)
  ha : PySem.W.findIn K (.ref CR) "__class__" = some (some (.builtin "object.__class__"))
  hn : PySem.W.specialIn K (.builtin "object.__class__") "__get__" = some (some (.builtin "getset_descriptor.__get__"))
  ht : PySem.W.takesIn K (.builtin "object.__class__") = some true
  hm : PySem.W.mroIn K CR (.type "object") = some true
  kR : PySem.W.kitOne K (.ref CR) (.ref CR) = some true
  kI : PySem.W.kitOne K (.type "int") (.ref CR) = some false
  kN : PySem.W.kitOne K (.type "NoneType") (.ref CR) = some false
  kS : PySem.W.kitOne K (.type "str") (.ref CR) = some false
  kB : PySem.W.kitOne K (.type "bool") (.ref CR) = some false
  k1 : PySem.W.kitOne K (.ref CR) (.type "str") = some false
  k2 : PySem.W.kitOne K (.ref CR) (.type "int") = some false
  f1 : PySem.W.notFirst K CR (.ref CR) = true
/-- the fields of a Ratio -/
def rf (t b : Int) : List (Str × V) := putF "bottom" (.int b) (putF "top" (.int t) [])
theorem ntb : ¬ (("top" : Str) = "bottom") := by decide +kernel
theorem rf_top (t b : Int) : (rf t b).lookup ("top" : Str) = some (.int t) := by
  unfold rf
  rw [lookup_putF, if_neg ntb, lookup_putF, if_pos rfl]
theorem rf_bot (t b : Int) : (rf t b).lookup ("bottom" : Str) = some (.int b) := by
  unfold rf
  rw [lookup_putF, if_pos rfl]
def RatAt (CR : Addr) (H : Hp) (a : Addr) (t b : Int) : Prop := ∃ dx, H a = some (.ins CR dx (rf t b))
theorem RatAt.same {CR : Addr} {H H' : Hp} {a : Addr} {t b : Int} (h : RatAt CR H a t b) (s : Same H H') : RatAt CR H' a t b := by
  obtain ⟨dx, h⟩ := h
  exact ⟨dx, s _ _ h⟩
theorem RatAt.ty {K : PySem.W.Frag} {mg : Str → Option Value} {CR : Addr} {H : Hp} {a : Addr} {t b : Int} (T : RT K mg CR) (h : RatAt CR H a t b) : TyX K H (.ref a) (.ref CR) := by
  obtain ⟨dx, h⟩ := h
  exact .base (.ins h T.cl T.ha T.hn T.ht T.hm)
theorem RatAt.adm {K : PySem.W.Frag} {mg : Str → Option Value} {CR : Addr} {H : Hp} {a : Addr} {t b : Int} (T : RT K mg CR) (h : RatAt CR H a t b) : Adm K H (.ref a) := by
  obtain ⟨dx, h⟩ := h
  exact .own h (fun H' h' => .base (.ins h' T.cl T.ha T.hn T.ht T.hm)) T.k1 T.k2
/-- a number as it is handed in -/
def NumV (CR : Addr) (H : Hp) (y : V) (t b : Int) : Prop := (∃ r, y = .ref r ∧ RatAt CR H r t b) ∨ (y = .int t ∧ b = 1)
def NotNum (K : PySem.W.Frag) (CR : Addr) (H : Hp) (v : V) : Prop := ∃ t b1 b2, TyX K H v t ∧ PySem.W.kitOne K t (.ref CR) = some false ∧ PySem.W.kitOne K t (.type "int") = some b1 ∧ PySem.W.kitOne K t (.type "bool") = some b2 ∧ (b1 && !b2) = false
def spIsInt (K : PySem.W.Frag) : Sp := fun vs H Q _ => ∃ (v : V) (t : Value) (b1 b2 : Bool), vs = [v] ∧ TyX K H v t ∧ PySem.W.kitOne K t (.type "int") = some b1 ∧ PySem.W.kitOne K t (.type "bool") = some b2 ∧ Q (.bl (b1 && !b2)) H
def spIsNum (K : PySem.W.Frag) (CR : Addr) : Sp := fun vs H Q _ => ∃ v, vs = [v] ∧ ((∃ t b, NumV CR H v t b ∧ Q (.bl true) H) ∨ (NotNum K CR H v ∧ Q (.bl false) H))
def spRInit (CR : Addr) : Sp := fun vs H Q _ => ∃ (p dx : Addr) (t b : Int), vs = [.ref p, .int t, .int b] ∧ H p = some (.ins CR dx []) ∧ b ≠ 0 ∧ Bd 8000 b ∧
  ∀ H', H' p = some (.ins CR dx (rf (nT t b) (nB t b))) → But p H H' → Q .non H'
def spRatioOf (CR : Addr) : Sp := fun vs H Q _ => ∃ (y : V) (t b : Int), vs = [y] ∧ NumV CR H y t b ∧ ∀ (p : Addr) (H' : Hp), RatAt CR H' p t b → Same H H' → Q (.ref p) H'
/-- an operator's promise: the right side any number -/
def spBin (CR : Addr) (f g : Int → Int → Int → Int → Int) : Sp := fun vs H Q _ => ∃ (a : Addr) (y : V) (t1 b1 t2 b2 : Int), vs = [.ref a, y] ∧ RatAt CR H a t1 b1 ∧ NumV CR H y t2 b2 ∧ Bd 2000 t1 ∧ Bd 2000 b1 ∧ Bd 2000 t2 ∧ Bd 2000 b2 ∧ 0 < b1 ∧ 0 < b2 ∧ Nat.gcd t1.natAbs b1.natAbs = 1 ∧ Nat.gcd t2.natAbs b2.natAbs = 1 ∧
  ∀ (p : Addr) (H' : Hp), RatAt CR H' p (nT (f t1 b1 t2 b2) (g t1 b1 t2 b2)) (nB (f t1 b1 t2 b2) (g t1 b1 t2 b2)) → Same H H' → Q (.ref p) H'
/-- .. the right side an int -/
def spBinI (CR : Addr) (f g : Int → Int → Int → Int → Int) : Sp := fun vs H Q _ => ∃ (a : Addr) (i t1 b1 : Int), vs = [.ref a, .int i] ∧ RatAt CR H a t1 b1 ∧ Bd 2000 t1 ∧ Bd 2000 b1 ∧ Bd 2000 i ∧ 0 < b1 ∧ Nat.gcd t1.natAbs b1.natAbs = 1 ∧
  ∀ (p : Addr) (H' : Hp), RatAt CR H' p (nT (f t1 b1 i 1) (g t1 b1 i 1)) (nB (f t1 b1 i 1) (g t1 b1 i 1)) → Same H H' → Q (.ref p) H'
def fAdd (t1 b1 t2 b2 : Int) : Int := t1 * b2 + t2 * b1
def gMul (_ b1 _ b2 : Int) : Int := b1 * b2
def fMul (t1 _ t2 _ : Int) : Int := t1 * t2
def fSub (t1 b1 t2 b2 : Int) : Int := t1 * b2 + -t2 * b1
def fRsub (t1 b1 t2 b2 : Int) : Int := -t1 * b2 + t2 * b1
def fOver (t1 _ _ b2 : Int) : Int := t1 * b2
def gOver (_ b1 t2 _ : Int) : Int := b1 * t2
def spUn (CR : Addr) (f : Int → Int) : Sp := fun vs H Q _ => ∃ (a : Addr) (t b : Int), vs = [.ref a] ∧ RatAt CR H a t b ∧ Bd 2000 b ∧ 0 < b ∧ ∀ (p : Addr) (H' : Hp), RatAt CR H' p (nT (f t) b) (nB (f t) b) → Same H H' → Q (.ref p) H'
def absI (t : Int) : Int := if t < 0 then -t else t
def spOver (K : PySem.W.Frag) (CR CI : Addr) : Sp := fun vs H Q E => (∃ (a : Addr) (y : V) (t1 b1 t2 b2 : Int), vs = [.ref a, y] ∧ RatAt CR H a t1 b1 ∧ NumV CR H y t2 b2 ∧ Bd 2000 t1 ∧ Bd 2000 b1 ∧ Bd 2000 t2 ∧ Bd 2000 b2 ∧ 0 < b1 ∧ t2 ≠ 0 ∧
    ∀ (p : Addr) (H' : Hp), RatAt CR H' p (nT (fOver t1 b1 t2 b2) (gOver t1 b1 t2 b2)) (nB (fOver t1 b1 t2 b2) (gOver t1 b1 t2 b2)) → Same H H' → Q (.ref p) H') ∨
  ∃ (a : Addr) (y : V), vs = [.ref a, y] ∧ Adm K H y ∧ (NotNum K CR H y ∨ ∃ b, NumV CR H y 0 b) ∧ ∀ d H', Same H H' → H' d = some (.xd (inFs y)) → E (.ref CI) (some d) H'
def spREq (CR : Addr) : Sp := fun vs H Q _ => ∃ (a b : Addr) (t1 b1 t2 b2 : Int), vs = [.ref a, .ref b] ∧ RatAt CR H a t1 b1 ∧ RatAt CR H b t2 b2 ∧ Q (.bl (decide (t1 = t2) && decide (b1 = b2))) H
theorem NumV.same {CR : Addr} {H H' : Hp} {y : V} {t b : Int} (h : NumV CR H y t b) (s : Same H H') : NumV CR H' y t b := by
  rcases h with ⟨r, e, h⟩ | h
  · exact .inl ⟨r, e, h.same s⟩
  · exact .inr h
section
variable {P : Program} {w : World} {K : PySem.W.Frag} {mg : Str → Option Value} {base : Heap} {CR CI fI : Addr}
theorem scIsInt : FnScope ["value"] ["value"] (defScope sIsInt) := ⟨rfl, rfl, rfl, by decide +kernel, rfl, by decide +kernel, by decide +kernel⟩
theorem ok_isInt {f : Addr} {fd : FuncData} (F : Fun K "is_integer" "is_integer" sIsInt f fd) (B : Bn mg) : FnOk P w K mg base CX0 1 f fd ["value"] (spIsInt K) := by
  refine F.ok scIsInt (fun vs H Q E h => ?_) (fun cdv A outer s H vs Q E hr h => ?_)
  · obtain ⟨v, t, b1, b2, rfl, _⟩ := h
    rfl
  · obtain ⟨v, t, b1, b2, rfl, ty, k1, k2, q⟩ := h
    refine ⟨_, pss_one (ps_ret (pe_and (pe_callB call_isi (by rfl) B.isin (by decide +kernel) (pa_cons (pv 0) (pa_cons (pe_bltn (v := .ty "int") (by rfl) B.tint (by decide +kernel) rfl) pa_nil)))
      (pe_one (pe_not (pe_callB call_isi (by rfl) B.isin (by decide +kernel) (pa_cons (pv 0) (pa_cons (pe_bltn (v := .ty "bool") (by rfl) B.tbool (by decide +kernel) rfl) pa_nil))))))), ?_⟩
    refine ⟨_, rfl, _, _, _, _, b1, rfl, .ty "int", ty, k1, b1, rfl, ?_⟩
    cases b1 with
    | false => exact iteF q
    | true => exact iteT ⟨_, rfl, _, _, _, _, b2, rfl, .ty "bool", ty, k2, b2, rfl, q⟩
theorem scIsNum : FnScope ["value"] ["value"] (defScope sIsNum) := ⟨rfl, rfl, rfl, by decide +kernel, rfl, by decide +kernel, by decide +kernel⟩
theorem ok_isNum {f fI : Addr} {fd fdI : FuncData} (F : Fun K "is_number" "is_number" sIsNum f fd) (B : Bn mg) (T : RT K mg CR) (D : Dn K mg "is_integer" fI) (G : FnOk P w K mg base CX0 1 fI fdI ["value"] (spIsInt K)) (bI : Binds K fdI ["value"] []) : FnOk P w K mg base CX0 2 f fd ["value"] (spIsNum K CR) := by
  refine F.ok scIsNum (fun vs H Q E h => ?_) (fun cdv A outer s H vs Q E hr h => ?_)
  · obtain ⟨v, rfl, _⟩ := h
    rfl
  · obtain ⟨v, rfl, h⟩ := h
    refine ⟨_, pss_one (ps_ret (pe_or (pe_callB call_isi (by rfl) B.isin (by decide +kernel) (pa_cons (pv 0) (pa_cons (pe_glob (v := .ref CR) (by rfl) T.gl rfl) pa_nil))) (pe_one (pe_call G hr (by rfl) D.gl D.kp bI .nil pass0 (pa_cons (pv 0) pa_nil))))), ?_⟩
    rcases h with ⟨t, b, nv, q⟩ | ⟨⟨t, b1, b2, ty, k1, k2, k3, e⟩, q⟩
    · rcases nv with ⟨r, rfl, ra⟩ | ⟨rfl, _⟩
      · exact ⟨_, rfl, _, _, _, _, true, rfl, .own _, ra.ty T, T.kR, true, rfl, iteT q⟩
      · refine ⟨_, rfl, _, _, _, _, false, rfl, .own _, .base (.int _), T.kI, false, rfl, iteF ?_⟩
        exact ⟨_, rfl, _, _, true, false, rfl, .base (.int _), kit_ty (by decide +kernel), kit_ty (by decide +kernel), q⟩
    · refine ⟨_, rfl, _, _, _, _, false, rfl, .own _, ty, k1, false, rfl, iteF ?_⟩
      refine ⟨_, rfl, _, _, b1, b2, rfl, ty, k2, k3, ?_⟩
      rw [e]
      exact q
theorem scRInit : FnScope ["self", "top", "bottom", "common"] ["self", "top", "bottom"] (defScope sRInit) := ⟨rfl, rfl, rfl, by decide +kernel, rfl, by decide +kernel, by decide +kernel⟩
theorem ok_rinit {f fI : Addr} {fd fdI : FuncData} {dvs : List V} (F : FunD K "__init__" "Ratio.__init__" (defArgs sRInit) (defBody sRInit) (defScope sRInit) dvs [] f fd) (T : RT K mg CR) (gcd : mg "gcd" = some (.builtin "math.gcd")) (D : Dn K mg "is_integer" fI) (G : FnOk P w K mg base CX0 1 fI fdI ["value"] (spIsInt K)) (bI : Binds K fdI ["value"] []) :
    FnOk P w K mg base CX0 2 f fd ["self", "top", "bottom"] (spRInit CR) := by
  refine F.ok scRInit (fun vs H Q E h => ?_) (fun cdv A outer s H vs Q E hr h => ?_)
  · obtain ⟨p, dx, t, b, rfl, _⟩ := h
    rfl
  · obtain ⟨p, dx, t, b, rfl, hp, b0, bb, q⟩ := h
    refine ⟨_, pss_cons (ps_if (pt_not (pt_val (pe_call G hr (by rfl) D.gl D.kp bI .nil pass0 (pa_cons (pv 1) pa_nil)))) (pss_one ps_never) pss_nil)
      (pss_cons (ps_if (PW.pt (pw_or (pt_not (pt_val (pe_call G hr (by rfl) D.gl D.kp bI .nil pass0 (pa_cons (pv 2) pa_nil)))) (pw_or1 (pt_cmpR op_eq (pv 2) pe_int (nomark _))))) (pss_one ps_never) pss_nil)
      (pss_cons (ps_set (i := 3) scRInit.nd rfl (Or.inl rfl) (pe_callBfun cr_gcd (by rfl) gcd (pa_cons (pv 1) (pa_cons (pv 2) pa_nil))))
      (C8.pss_cut (ps_if (pt_cmpR op_lt (pv 2) pe_int (nomark _)) (pss_one (ps_set (i := 3) scRInit.nd rfl (Or.inl rfl) (pe_un un_neg (pv 3)))) pss_nil)
      (pss_cons (ps_fld (pv 0) (pe_op op_fdivX (pv 1) (pv 3)) rfl)
      (pss_one (ps_fld (pv 0) (pe_op op_fdivX (pv 2) (pv 3)) rfl)))))), ?_⟩
    refine ⟨_, rfl, _, _, true, false, rfl, .base (.int _), kit_ty (by decide +kernel), kit_ty (by decide +kernel), _, rfl, iteF ?_⟩
    refine ⟨_, rfl, _, _, true, false, rfl, .base (.int _), kit_ty (by decide +kernel), kit_ty (by decide +kernel), _, rfl, iteF ?_⟩
    have nb : ¬ (V.int b) = V.int 0 := fun z => b0 (V.int.inj z)
    refine ⟨_, rfl, rfl, _, rfl, ?_⟩
    rw [decide_eq_false nb]
    refine iteF ?_
    refine ⟨_, rfl, _, rfl, t, b, rfl, ?_⟩
    refine ⟨fun σ H' => σ = [some (.ref p), some (.int t), some (.int b), some (.int (cg t b))] ∧ H' = H, ?_, ?_⟩
    · refine ⟨_, rfl, _, _, rfl, rfl, _, rfl, ?_⟩
      by_cases hn : b < 0
      · rw [decide_eq_true hn]
        refine iteT ⟨_, rfl, _, rfl, ?_⟩
        unfold cg
        rw [if_pos hn]
        exact ⟨rfl, rfl⟩
      · rw [decide_eq_false hn]
        refine iteF ?_
        unfold cg
        rw [if_neg hn]
        exact ⟨rfl, rfl⟩
    · rintro σ H' ⟨rfl, rfl⟩
      have c0 := cg_ne (t := t) b0
      have c1 : (cg t b).natAbs.log2 < 9000 := by
        refine Nat.lt_of_lt_of_le (Bd.log (n := 8000) ?_ (by decide)) (by decide)
        unfold Bd
        rw [cg_abs]
        exact Nat.lt_of_le_of_lt (Nat.le_of_dvd (by omega) (Nat.gcd_dvd_right _ _)) bb
      refine ⟨_, rfl, _, rfl, _, _, rfl, rfl, ⟨c0, c1⟩, _, rfl, p, CR, dx, [], rfl, hp, T.cl, T.nT, (by show 0 < 1000; decide), ?_⟩
      refine ⟨_, rfl, _, rfl, _, _, rfl, rfl, ⟨c0, c1⟩, _, rfl, p, CR, dx, _, rfl, upd_same, T.cl, T.nB, (by show 1 < 1000; decide), ?_⟩
      exact q _ upd_same ((But.refl.upd).upd)
theorem scRatioOf : FnScope ["number"] ["number"] (defScope sRatioOf) := ⟨rfl, rfl, rfl, by decide +kernel, rfl, by decide +kernel, by decide +kernel⟩
theorem ok_ratioOf {f fN : Addr} {fd fdN : FuncData} {ds : List Value} (F : Fun K "ratio_of" "ratio_of" sRatioOf f fd) (B : Bn mg) (T : RT K mg CR) (M : Mk K CR fN) (G : FnOk P w K mg base CX0 2 fN fdN ["self", "top", "bottom"] (spRInit CR)) (vD : Vals [V.int 1] ds) (bN : Binds K fdN ["self", "top", "bottom"] ds) :
    FnOk P w K mg base CX0 4 f fd ["number"] (spRatioOf CR) := by
  refine F.ok scRatioOf (fun vs H Q E h => ?_) (fun cdv A outer s H vs Q E hr h => ?_)
  · obtain ⟨y, t, b, rfl, _⟩ := h
    rfl
  · refine ⟨_, pss_cons (ps_if (pt_val (pe_callB call_isi (by rfl) B.isin (by decide +kernel) (pa_cons (pv 0) (pa_cons (pe_glob (v := .ref CR) (by rfl) T.gl rfl) pa_nil)))) (pss_one (ps_ret (pv 0))) pss_nil)
      (pss_one (ps_ret (pe_make M G hr (by rfl) T.gl bN vD pass0 (pa_cons (pv 0) pa_nil)))), ?_⟩
    obtain ⟨y, t, b, rfl, ⟨r, rfl, ra⟩ | ⟨rfl, rfl⟩, q⟩ := h
    · refine ⟨_, rfl, _, _, _, _, true, rfl, .own _, ra.ty T, T.kR, true, rfl, iteT ?_⟩
      exact ⟨_, rfl, q _ _ ra (Same.refl _)⟩
    · refine ⟨_, rfl, _, _, _, _, false, rfl, .own _, .base (.int _), T.kI, false, rfl, iteF ?_⟩
      refine ⟨_, rfl, fun x dx nx nd ne => ?_⟩
      refine ⟨x, dx, t, 1, rfl, upd_same, by decide, Bd.of (m := 1) (by decide) (by decide +kernel), fun H' hx bu => ⟨rfl, ?_⟩⟩
      rw [(n_one t).1, (n_one t).2] at hx
      exact q x H' ⟨dx, hx⟩ (made_same nx nd bu)
end
end K02

set_option Elab.async false
set_option linter.all false
set_option maxRecDepth 100000
set_option maxHeartbeats 4000000
set_option pp.maxSteps 500
namespace K02
open PySem PySem.Spec PyProof.Rows L2 Ux
abbrev sSmall : Stmt := top 25
abbrev sLow : Stmt := top 30
abbrev sPair : Stmt := top 31
abbrev sRatio : Stmt := top 32
theorem BagAt.more {H : Hp} {b : Addr} {n m : Nat} (h : BagAt H b n) (l : n ≤ m) : BagAt H b m := by
  obtain ⟨a, ns, p, g, s', c, h1, h2, h3, h4, h5, h6, h7, h8⟩ := h
  exact ⟨a, ns, p, g, s', c, h1, h2, h3, h4, h5, h6, h7, by omega⟩
theorem BagAt.same {H H' : Hp} {b : Addr} {n : Nat} (h : BagAt H b n) (s : Same H H') : BagAt H' b n := by
  obtain ⟨l, ns, p, g, s', c, hb, hl, z⟩ := h
  exact ⟨l, ns, p, g, s', c, s _ _ hb, s _ _ hl, z⟩
theorem BagAt.lst {H : Hp} {b : Addr} {n : Nat} (h : BagAt H b n) : ∃ xs, H b = some (.lst xs) := by
  obtain ⟨l, ns, p, g, s', c, hb, hl, z⟩ := h
  exact ⟨_, hb⟩
theorem small1000 {n : Nat} (h : n ≤ 1000) : n < sizeLine := by
  rw [sizeLine_eq]
  omega
def TupI (H : Hp) (p : Addr) (t b : Int) : Prop := H p = some (.tup [.int t, .int b])
def spSmall : Sp := fun vs H Q _ => ∃ (b : Addr) (n : Nat), vs = [.ref b] ∧ BagAt H b n ∧ n ≤ 900000000 ∧ ∀ (i : Int) (H' : Hp), i.natAbs ≤ 100003 → BagAt H' b (n + 2) → But b H H' → Q (.int i) H'
def spLow : Sp := fun vs H Q _ => ∃ t b : Int, vs = [.int t, .int b] ∧ b ≠ 0 ∧ Bd 8000 b ∧ ∀ (p : Addr) (H' : Hp), TupI H' p (nT t b) (nB t b) → Same H H' → Q (.ref p) H'
def spPair (CR : Addr) : Sp := fun vs H Q _ => ∃ (r : Addr) (t b : Int), vs = [.ref r] ∧ RatAt CR H r t b ∧ ∀ (p : Addr) (H' : Hp), TupI H' p t b → Same H H' → Q (.ref p) H'
def spMkRatio (CR : Addr) : Sp := fun vs H Q _ => ∃ (p : Addr) (t b : Int), vs = [.ref p] ∧ TupI H p t b ∧ b ≠ 0 ∧ Bd 8000 b ∧ ∀ (r : Addr) (H' : Hp), RatAt CR H' r (nT t b) (nB t b) → Same H H' → Q (.ref r) H'
theorem dp_bls {K : PySem.W.Frag} {H : Hp} : ∀ bs : List Bool, DpAll K H (bs.map V.bl) (bs.map PyData.bool)
  | [] => .nil
  | b :: bs => .cons (.bl b) (dp_bls bs)
section
variable {P : Program} {w : World} {K : PySem.W.Frag} {mg : Str → Option Value} {base : Heap} {CR CI fI : Addr}
theorem scSmall : FnScope ["_law_bag_here", "_law_way"] ["_law_bag_here"] (defScope sSmall) := ⟨rfl, rfl, rfl, by decide +kernel, rfl, by decide +kernel, by decide +kernel⟩
theorem ok_small {f fP : Addr} {fd fdP : FuncData} (F : Fun K "_law_small" "_law_small" sSmall f fd) (DP : Dn K mg "_law_pull" fP) (GP : FnOk P w K mg base CX0 1 fP fdP ["_law_bag_here", "_law_many"] spPull) (bP : Binds K fdP ["_law_bag_here", "_law_many"] []) :
    FnOk P w K mg base CX0 2 f fd ["_law_bag_here"] spSmall := by
  refine F.ok scSmall (fun vs H Q E h => ?_) (fun cdv A outer s H vs Q E hr h => ?_)
  · obtain ⟨b, n, rfl, _⟩ := h
    rfl
  · obtain ⟨b, n, rfl, B, hn, q⟩ := h
    refine ⟨_, pss_cons (ps_set (i := 1) scSmall.nd rfl (Or.inl rfl) (pe_call GP hr (by rfl) DP.gl DP.kp bP .nil pass0 (pa_cons (pv 0) (pa_cons pe_int pa_nil))))
      (pss_cons (ps_if (pt_cmpR op_lt (pv 1) pe_int (nomark _)) (pss_one (ps_ret (pe_op op_sub (pv 1) pe_int))) pss_nil)
      (pss_one (ps_ret (pe_op op_mul (pe_op op_sub pe_int (pe_op op_mul pe_int (pe_op op_mod (pv 1) pe_int))) (pe_op op_add pe_int (pe_call GP hr (by rfl) DP.gl DP.kp bP .nil pass0 (pa_cons (pv 0) (pa_cons pe_int pa_nil)))))))), ?_⟩
    refine ⟨_, rfl, b, 9, n, rfl, by decide, by decide, B, by omega, fun r H1 r0 r1 B1 f1 => ?_⟩
    refine ⟨_, rfl, _, _, rfl, rfl, _, rfl, ?_⟩
    refine ite2 (fun lt => ?_) (fun _ => ?_)
    · exact ⟨_, rfl, _, _, rfl, rfl, q _ _ (by omega) (B1.more (by omega)) f1⟩
    · refine ⟨_, rfl, _, _, rfl, rfl, (by show (0 : Int) < 2; decide), _, _, rfl, rfl, .inl ⟨by decide, by decide⟩, _, _, rfl, rfl, _, rfl, b, 100000, n + 1, rfl, by decide, by decide, B1, by omega, fun r2 H2 r20 r21 B2 f2 => ?_⟩
      have h2 : r % 2 = 0 ∨ r % 2 = 1 := by omega
      refine ⟨_, _, rfl, rfl, _, _, rfl, rfl, .inl ⟨by omega, by omega⟩, q _ _ ?_ B2 (f1.trans f2)⟩
      rcases h2 with e | e <;> rw [e] <;> omega
theorem scLow : FnScope ["_law_top", "_law_bottom", "_law_one", "_law_other", "_law_sign"] ["_law_top", "_law_bottom"] (defScope sLow) := ⟨rfl, rfl, rfl, by decide +kernel, rfl, by decide +kernel, by decide +kernel⟩
theorem ok_low {f : Addr} {fd : FuncData} (F : Fun K "_law_low" "_law_low" sLow f fd) (B : Bn mg) : FnOk P w K mg base CX0 1 f fd ["_law_top", "_law_bottom"] spLow := by
  refine F.ok scLow (fun vs H Q E h => ?_) (fun cdv A outer s H vs Q E hr h => ?_)
  · obtain ⟨t, b, rfl, _⟩ := h
    rfl
  · obtain ⟨t, b, rfl, b0, bb, q⟩ := h
    refine ⟨_, pss_cons (ps_par (i := 2) (j := 3) rfl scLow.nd rfl rfl (by decide) rfl rfl (pa_cons (pe_callB call_abs (by rfl) B.fabs (by decide +kernel) (pa_cons (pv 0) pa_nil)) (pa_cons (pe_callB call_abs (by rfl) B.fabs (by decide +kernel) (pa_cons (pv 1) pa_nil)) pa_nil)) rfl)
      (pss_cons (ps_while PassesOwn.never (pt_cmpR op_ne (pv 3) pe_int (nomark _)) (pss_one (ps_par (i := 2) (j := 3) rfl scLow.nd rfl rfl (by decide) rfl rfl (pa_cons (pv 3) (pa_cons (pe_op op_mod (pe_callTy call_int1 (by rfl) B.tint (by decide +kernel) (pa_cons (pv 2) pa_nil)) (pv 3)) pa_nil)) rfl)))
      (C8.pss_cut (ps_set (i := 4) scLow.nd rfl (Or.inl rfl) (pe_ifExp (pt_cmpR op_lt (pv 1) pe_int (nomark _)) (pe_un un_neg pe_int) pe_int))
      (pss_one (ps_ret (pe_tup (pa_cons (pe_op op_fdivX (pe_op op_mul (pv 4) (pv 0)) (pv 2)) (pa_cons (pe_op op_fdivX (pe_op op_mul (pv 4) (pv 1)) (pv 2)) pa_nil))))))), ?_⟩
    refine ⟨_, rfl, _, rfl, _, rfl, _, rfl, _, _, rfl, ?_⟩
    have ea : ∀ n : Int, (if n < 0 then -n else n) = ((n.natAbs : Nat) : Int) := fun n => by split <;> omega
    rw [ea, ea]
    refine while_by (fun σ H' => ∃ x y : Nat, σ = [some (.int t), some (.int b), some (.int x), some (.int y), none] ∧ H' = H ∧ Nat.gcd x y = Nat.gcd t.natAbs b.natAbs) (fun σ _ => match σ with | [_, _, _, some (.int y), _] => y.natAbs | _ => 0) ⟨_, _, rfl, rfl, rfl⟩ ?_ ?_
    · rintro σ H' ⟨x, y, rfl, rfl, g⟩
      refine ⟨_, rfl, rfl, _, rfl, ?_⟩
      by_cases z : y = 0
      · subst z
        refine iteF ?_
        rw [Nat.gcd_zero_right] at g
        have g0 : 0 < Nat.gcd t.natAbs b.natAbs := g_pos b0
        have gd : ((x : Int) ≠ 0 ∧ (x : Int).natAbs.log2 < 9000) := by
          refine ⟨by omega, ?_⟩
          have : Bd 8000 (x : Int) := by
            unfold Bd
            rw [Int.natAbs_natCast, g]
            exact Nat.lt_of_le_of_lt (Nat.le_of_dvd (by omega) (Nat.gcd_dvd_right _ _)) bb
          exact Nat.lt_of_lt_of_le (this.log (by decide)) (by decide)
        refine ⟨fun σ H2 => σ = [some (.int t), some (.int b), some (.int (x : Int)), some (.int ((0 : Nat) : Int)), some (.int (sg b))] ∧ H2 = H', ?_, ?_⟩
        · refine ⟨_, rfl, _, _, rfl, rfl, _, rfl, ?_⟩
          by_cases hn : b < 0
          · rw [decide_eq_true hn]
            refine iteT ⟨_, rfl, ?_⟩
            unfold sg
            rw [if_pos hn]
            exact ⟨rfl, rfl⟩
          · rw [decide_eq_false hn]
            refine iteF ?_
            unfold sg
            rw [if_neg hn]
            exact ⟨rfl, rfl⟩
        · rintro σ H2 ⟨rfl, rfl⟩
          have sb : -(2 ^ 64) < sg b ∧ sg b < 2 ^ 64 := by
            unfold sg
            split <;> decide
          refine ⟨_, rfl, _, rfl, _, _, rfl, rfl, .inl sb, _, rfl, _, _, rfl, rfl, gd, ?_⟩
          refine ⟨_, rfl, _, rfl, _, _, rfl, rfl, .inl sb, _, rfl, _, _, rfl, rfl, gd, (by show 2 ≤ sizeLine; decide), fun p hp => ?_⟩
          refine q p _ ?_ (same_upd hp)
          unfold TupI
          rw [upd_same, g]
          show some (HO.tup [V.int ((sg b * t).fdiv ((Nat.gcd t.natAbs b.natAbs : Nat) : Int)), V.int ((sg b * b).fdiv ((Nat.gcd t.natAbs b.natAbs : Nat) : Int))]) = _
          rw [law_nT b0, law_nB b0]
      · have ny : ¬ (V.int (y : Int)) = V.int 0 := fun e => z (by have := V.int.inj e; omega)
        have ey : (!decide (V.int (y : Int) = V.int 0)) = true := by
          rw [decide_eq_false ny]
          rfl
        show if (!decide (V.int (y : Int) = V.int 0)) = true then _ else _
        rw [ey]
        refine iteT ⟨_, rfl, _, rfl, .inl ⟨_, rfl, _, rfl, _, _, rfl, rfl, (by show (0 : Int) < (y : Int); omega), _, _, rfl, ?_⟩⟩
        refine ⟨⟨y, x % y, rfl, rfl, ?_⟩, ?_⟩
        · rw [← g, Nat.gcd_comm x y, Nat.gcd_rec y x, Nat.gcd_comm]
        · have := Nat.mod_lt x (Nat.pos_of_ne_zero z)
          show (((x : Int) % (y : Int)).natAbs) < ((y : Int)).natAbs
          omega
    · rintro σ H' Q1 Q2 hq ⟨x, hx, e1, k, e3, z⟩
      exact ⟨x, hx, e1, k, e3, hq _ _ z⟩
theorem at0 (x y : V) : atI [x, y] ((0 : Nat) : Int) = some x := atI_nat rfl
theorem at1 (x y : V) : atI [x, y] ((1 : Nat) : Int) = some y := atI_nat rfl
theorem vIsi : bootBuiltins ("isinstance" : Str) = some (.builtin "isinstance") := by decide +kernel
theorem vInt : bootBuiltins ("int" : Str) = some (.type "int") := by decide +kernel
theorem vBool : bootBuiltins ("bool" : Str) = some (.type "bool") := by decide +kernel
theorem scPair : FnScope ["_law_found", "_law_whole", "_law_part"] ["_law_found"] (defScope sPair) := ⟨rfl, rfl, rfl, by decide +kernel, rfl, by decide +kernel, by decide +kernel⟩
theorem ok_pair {f : Addr} {fd : FuncData} (F : Fun K "_law_pair" "_law_pair" sPair f fd) (B : Bn mg) (T : RT K mg CR) : FnOk P w K mg base CX0 1 f fd ["_law_found"] (spPair CR) := by
  refine F.ok scPair (fun vs H Q E h => ?_) (fun cdv A outer s H vs Q E hr h => ?_)
  · obtain ⟨r, t, b, rfl, _⟩ := h
    rfl
  · obtain ⟨r, t, b, rfl, ra, q⟩ := h
    refine ⟨_, pss_cons (ps_if (pt_not (pt_val (pe_callB call_isi (by rfl) B.isin (by decide +kernel) (pa_cons (pv 0) (pa_cons (pe_glob (v := .ref CR) (by rfl) T.gl rfl) pa_nil))))) (pss_one (ps_ret pe_non)) pss_nil)
      (pss_cons (ps_setLc (i := 1) (own := [("_law_part", 2)]) (g := gName 2) rfl scPair.nd rfl rfl (sw_true rfl rfl rfl rfl) (pi_list (pe_lst (pa_cons (pe_fld (pv 0) rfl) (pa_cons (pe_fld (pv 0) rfl) pa_nil)))) (blkOk_by (own := [("_law_part", 2)]) (N := ["_law_found", "_law_whole", "_law_part"]) (sc := defScope sPair) (by decide +kernel))
          (fun _ _ _ _ _ => pg_name (i := 2) scPair.nd rfl (Or.inl rfl) (hf := Or.inr rfl)) (fun _ _ _ _ _ => pts_nil)
          (fun _ _ _ _ _ => pe_and (pe_callB (id := "isinstance") (r := rIsi K) call_isi rfl B.isin vIsi (pa_cons (pv 2) (pa_cons (pe_bltn (v := .ty "int") rfl B.tint vInt rfl) pa_nil)))
            (pe_one (pe_not (pe_callB (id := "isinstance") (r := rIsi K) call_isi rfl B.isin vIsi (pa_cons (pv 2) (pa_cons (pe_bltn (v := .ty "bool") rfl B.tbool vBool rfl) pa_nil)))))))
      (pss_one (ps_ret (pe_ifExp (pt_cmpR (op_eqD hr.units) (pv 1) (pe_lst (pa_cons pe_bl (pa_cons pe_bl pa_nil))) (nomark _)) (pe_tup (pa_cons (pe_fld (pv 0) rfl) (pa_cons (pe_fld (pv 0) rfl) pa_nil))) pe_non)))), ?_⟩
    obtain ⟨dx, ha⟩ := id ra
    refine ⟨_, rfl, _, _, _, _, true, rfl, .own _, ra.ty T, T.kR, _, rfl, iteF ?_⟩
    refine ⟨_, rfl, r, CR, dx, _, _, rfl, ha, T.cl, T.nT, rf_top t b, _, rfl, r, CR, dx, _, _, rfl, ha, T.cl, T.nB, rf_bot t b, (by show 2 ≤ sizeLine; decide), fun p hp => ?_⟩
    have s1 : Same H (upd H p (.lst [.int t, .int b])) := same_upd hp
    refine ⟨p, rfl, ⟨_, .of upd_same⟩, fun D hD => ?_⟩
    refine lc_list (K := K) (a := p) (xs := [V.int t, V.int b]) (fun i H' => Same (upd H p (.lst [.int t, .int b])) H' ∧ H' D = some (.lst (List.replicate i (V.bl true)))) ⟨same_upd hD, upd_same⟩ (fun i H' _ z => .of (z.1 _ _ upd_same)) ?_ ?_
    · rintro i x H2 hx ⟨s2, d2⟩
      have hx' : ∃ n, x = .int n ∧ i < 2 := by
        match i, hx with
        | 0, hx => exact ⟨t, (Option.some.inj hx).symm, by decide⟩
        | 1, hx => exact ⟨b, (Option.some.inj hx).symm, by decide⟩
      obtain ⟨n, rfl, hi⟩ := hx'
      refine ⟨rfl, ?_⟩
      refine ⟨_, rfl, _, _, _, _, true, rfl, .ty "int", .base (.int _), kit_ty (by decide +kernel), true, rfl, iteT ?_⟩
      refine ⟨_, rfl, _, _, _, _, false, rfl, .ty "bool", .base (.int _), kit_ty (by decide +kernel), _, rfl, _, d2, ?_, fun c o e => ?_, ?_⟩
      · rw [List.length_replicate]
        exact small1000 (by omega)
      · rw [upd_ne (ne_of_none e hD)]
        exact s2 c o e
      · rw [upd_same, List.replicate_succ']
        rfl
    · rintro H2 ⟨s2, d2⟩
      have s3 := s1.trans s2
      refine ⟨_, rfl, (by show 2 ≤ sizeLine; decide), fun p2 hp2 => ?_⟩
      have d3 : upd H2 p2 (.lst [.bl true, .bl true]) D = some (.lst ([true, true].map V.bl)) := (upd_ne (ne_of_none d2 hp2)).trans d2
      refine ⟨_, _, .lst (.of d3) (dp_bls [true, true]), .lst (.of upd_same) (dp_bls [true, true]), rfl, rfl, _, rfl, ?_⟩
      rw [SeqAt.eqv_refl _ rfl]
      have s4 : Same H (upd H2 p2 (.lst [.bl true, .bl true])) := Same.new s3 hp2
      have ha4 := s4 _ _ ha
      refine iteT ⟨_, rfl, r, CR, dx, _, _, rfl, ha4, T.cl, T.nT, rf_top t b, _, rfl, r, CR, dx, _, _, rfl, ha4, T.cl, T.nB, rf_bot t b, (by show 2 ≤ sizeLine; decide), fun p3 hp3 => ?_⟩
      exact q p3 _ upd_same (Same.new s4 hp3)
theorem scRatio : FnScope ["_law_pair_here"] ["_law_pair_here"] (defScope sRatio) := ⟨rfl, rfl, rfl, by decide +kernel, rfl, by decide +kernel, by decide +kernel⟩
theorem ok_ratio {f fN : Addr} {fd fdN : FuncData} (F : Fun K "_law_ratio" "_law_ratio" sRatio f fd) (T : RT K mg CR) (M : Mk K CR fN) (G : FnOk P w K mg base CX0 2 fN fdN ["self", "top", "bottom"] (spRInit CR)) (bN : Binds K fdN ["self", "top", "bottom"] []) :
    FnOk P w K mg base CX0 4 f fd ["_law_pair_here"] (spMkRatio CR) := by
  refine F.ok scRatio (fun vs H Q E h => ?_) (fun cdv A outer s H vs Q E hr h => ?_)
  · obtain ⟨q, t, b, rfl, _⟩ := h
    rfl
  · obtain ⟨p, t, b, rfl, hp, b0, bb, q⟩ := h
    refine ⟨_, pss_one (ps_ret (pe_make M G hr (by rfl) T.gl bN .nil pass0 (pa_cons (pe_ix ix_tup (pv 0) pe_int (fun _ _ => rfl)) (pa_cons (pe_ix ix_tup (pv 0) pe_int (fun _ _ => rfl)) pa_nil)))), ?_⟩
    exact ⟨_, rfl, p, _, _, _, rfl, rfl, .of hp, at0 _ _, _, rfl, p, _, _, _, rfl, rfl, .of hp, at1 _ _, fun x dx nx nd ne => ⟨x, dx, t, b, rfl, upd_same, b0, bb, fun H' hx bu => ⟨rfl, q x H' ⟨dx, hx⟩ (made_same nx nd bu)⟩⟩⟩
end
end K02

set_option Elab.async false
set_option linter.all false
set_option maxRecDepth 100000
set_option maxHeartbeats 4000000
set_option pp.maxSteps 500
namespace K02
open PySem PySem.Spec PyProof.Rows L2 Ux TL
abbrev sIntText : Stmt := top 18
abbrev sRatText : Stmt := top 19
abbrev sRStr : Stmt := inClass (top 20) 13
abbrev sRRepr : Stmt := inClass (top 20) 14
abbrev sWhole : Stmt := inClass (top 20) 2
def W10 (n : Int) : Prop := n.natAbs < 10 ^ 10
def ctext (t b : Int) : Str := if b = 1 then toString t else toString t ++ "/" ++ toString b
def spIntText : Sp := fun vs H Q _ => ∃ n : Int, vs = [.int n] ∧ W10 n ∧ ∀ H', Same H H' → Q (.str (toString n)) H'
def spRatText (CR : Addr) : Sp := fun vs H Q _ => ∃ (a : Addr) (t b : Int), vs = [.ref a] ∧ RatAt CR H a t b ∧ W10 t ∧ W10 b ∧ ∀ H', Same H H' → Q (.str (ctext t b)) H'
theorem ofS_app (a b : String) : Str.ofString (a ++ b) = Str.ofString a ++ Str.ofString b := by
  refine ext_tl ?_
  rw [tl_append, Str.ofString_eq_toList, Str.ofString_eq_toList, Str.ofString_eq_toList, tl_mk, tl_mk, tl_mk, String.toList_append, List.map_append]
theorem join_one (x : Str) : Txt.join "" [x] = x := by
  have e0 : Txt.join "" [x] = Str.join "" [x] := StrLaws.glued_eq_join _ _
  rw [e0]
  rfl
theorem join_two (x y : Str) : Txt.join "" [x, y] = x ++ y := by
  have e0 : Txt.join "" [x, y] = Str.join "" [x, y] := StrLaws.glued_eq_join _ _
  rw [e0]
  show x ++ "" ++ y = x ++ y
  refine ext_tl ?_
  have e : tl ("" : Str) = [] := by decide +kernel
  rw [tl_append, tl_append, tl_append, e, List.append_nil]
theorem text_pos (n : Int) (h : 0 ≤ n) : Txt.join "" [(toString (if n < 0 then -n else n) : Str)] = (toString n : Str) := by
  rw [if_neg (by omega), join_one]
theorem text_neg (n : Int) (h : n < 0) : Txt.join "" [("-" : Str), (toString (if n < 0 then -n else n) : Str)] = (toString n : Str) := by
  rw [if_pos h, join_two]
  obtain ⟨k, rfl⟩ : ∃ k : Nat, n = Int.negSucc k := by
    cases n with
    | ofNat n => exact absurd h (by simp)
    | negSucc k => exact ⟨k, rfl⟩
  show Str.ofString "-" ++ Str.ofString (toString (-(Int.negSucc k))) = Str.ofString (toString (Int.negSucc k))
  have e0 : toString (Int.negSucc k) = "-" ++ toString (((k + 1 : Nat)) : Int) := rfl
  rw [e0, ofS_app]
  rfl
theorem text_len {n : Int} (h : W10 n) : (toString n : Str).length ≤ 12 := by
  show (Str.ofString (toString n)).length ≤ 12
  have q := int_text_length_le10 (a := n) (k := 10) (by decide) h
  rw [PySem.ofString_length]
  omega
theorem log2_w {n : Int} (h : W10 n) : n.natAbs.log2 < 1920 := by
  unfold W10 at h
  by_cases z : n.natAbs = 0
  · rw [z]
    decide
  · have q := Nat.log2_self_le z
    have : n.natAbs.log2 < 40 := by
      refine Nat.lt_of_not_le fun c => ?_
      have q2 : 2 ^ 40 ≤ 2 ^ n.natAbs.log2 := Nat.pow_le_pow_right (by decide) c
      have q3 : (10 : Nat) ^ 10 < 2 ^ 40 := by decide
      omega
    omega
theorem app_len {x y : Str} {m n : Nat} (h : x.length ≤ m) (k : y.length ≤ n) : (x ++ y).length ≤ m + n := by
  rw [PySem.Str.length_append]
  omega
theorem fit2 {n m : Nat} (h : n ≤ m) (k : m ≤ 100000) : n ≤ sizeLine := by
  rw [sizeLine_eq]
  omega
theorem ctext_len {t b : Int} (h : W10 t) (k : W10 b) : (ctext t b).length ≤ 30 := by
  unfold ctext
  split
  · exact Nat.le_trans (text_len h) (by decide)
  · exact Nat.le_trans (app_len (app_len (text_len h) (show (Str.ofString "/").length ≤ 1 by decide)) (text_len k)) (by decide)
theorem empty_app (x : Str) : Str.empty ++ x = x := by
  show Str.mk (#[] ++ x.cps) = x
  rw [Array.empty_append]
section
variable {P : Program} {w : World} {K : PySem.W.Frag} {mg : Str → Option Value} {base : Heap} {CR : Addr}
theorem scIntText : FnScope ["number", "pieces", "rest", "low"] ["number"] (defScope sIntText) := ⟨rfl, rfl, rfl, by decide +kernel, rfl, by decide +kernel, by decide +kernel⟩
theorem ok_intText {f : Addr} {fd : FuncData} (F : Fun K "integer_text" "integer_text" sIntText f fd) (B : Bn mg) (cb : ∃ t, mg "CHUNK_BASE" = some (.int 1000000000000000000000000000000000000000000000000000000000000 t)) : FnOk P w K mg base CX0 1 f fd ["number"] spIntText := by
  refine F.ok scIntText (fun vs H Q E h => ?_) (fun cdv A outer s H vs Q E hr h => ?_)
  · obtain ⟨n, rfl, _⟩ := h
    rfl
  · obtain ⟨n, rfl, hn, q⟩ := h
    obtain ⟨ct, cb⟩ := cb
    refine ⟨_, pss_cons (ps_set (i := 1) scIntText.nd rfl (Or.inl rfl) (pe_lst pa_nil))
      (pss_cons (ps_set (i := 2) scIntText.nd rfl (Or.inl rfl) (pe_callB call_abs (by rfl) B.fabs (by decide +kernel) (pa_cons (pv 0) pa_nil)))
      (pss_cons (ps_while PassesOwn.never (pt_cmpR op_ge (pv 2) (pe_glob (v := .int 1000000000000000000000000000000000000000000000000000000000000) (by rfl) cb ⟨_, rfl⟩) (nomark _)) pss_never)
      (pss_cons (ps_expr (pe_bm PySem.F.plainAttrs_list PySem.F.slot_list_append PySem.F.type_list_append mt_append (pv 1) (pa_cons (pe_callTy call_str_int (by rfl) B.tstr (by decide +kernel) (pa_cons (pv 2) pa_nil)) pa_nil)))
      (pss_cons (ps_if (pt_cmpR op_lt (pv 0) pe_int (nomark _)) (pss_one (ps_expr (pe_bm PySem.F.plainAttrs_list PySem.F.slot_list_append PySem.F.type_list_append mt_append (pv 1) (pa_cons pe_str pa_nil)))) pss_nil)
      (pss_one (ps_ret (pe_join pe_str (pe_revL (pv 1))))))))), ?_⟩
    refine ⟨(by show 0 ≤ sizeLine; decide), fun p hp => ?_⟩
    refine ⟨_, rfl, _, rfl, ?_⟩
    refine while_by (fun σ H' => σ = [some (.int n), some (.ref p), some (.int (if n < 0 then -n else n)), none] ∧ H' = upd H p (.lst [])) (fun _ _ => 0) ⟨rfl, rfl⟩ ?_ ?_
    · rintro σ H' ⟨rfl, rfl⟩
      refine ⟨_, rfl, _, _, rfl, rfl, _, rfl, ?_⟩
      have nb : ¬ (1000000000000000000000000000000000000000000000000000000000000 : Int) ≤ (if n < 0 then -n else n) := by
        have w10 := hn
        unfold W10 at w10
        have e10 : (10 : Nat) ^ 10 = 10000000000 := by decide
        rw [e10] at w10
        split <;> omega
      rw [decide_eq_false nb]
      refine iteF ?_
      have hp1 : upd H p (.lst []) p = some (.lst []) := upd_same
      have wab : W10 (if n < 0 then -n else n) := by
        unfold W10 at hn ⊢
        split <;> omega
      refine ⟨_, rfl, .inl ⟨rfl, _, SqL.of hp1⟩, _, rfl, _, rfl, log2_w wab, p, _, _, rfl, rfl, hp1, (by show 0 < sizeLine; decide), ?_⟩
      have hp2 : upd (upd H p (.lst [])) p (.lst ([] ++ [V.str (toString (if n < 0 then -n else n))])) p = some (.lst [V.str (toString (if n < 0 then -n else n))]) := upd_same
      refine ⟨_, rfl, _, _, rfl, rfl, _, rfl, ?_⟩
      have sm : ∀ o, Same H (upd (upd H p (.lst [])) p o) := fun o => by
        rw [upd_upd]
        exact same_upd hp
      have tl := text_len wab
      by_cases neg : n < 0
      · rw [decide_eq_true neg]
        refine iteT ⟨_, rfl, .inl ⟨rfl, _, SqL.of hp2⟩, p, _, _, rfl, rfl, hp2, (by show 1 < sizeLine; decide), ?_⟩
        refine ⟨⟨_, rfl⟩, _, rfl, p, _, rfl, .of upd_same, fun p2 hp3 => ?_⟩
        refine ⟨_, p2, [("-" : Str), (toString (if n < 0 then -n else n) : Str)], rfl, rfl, .inl (.of upd_same), ?_, ?_⟩
        · show ([("-" : Str).length, (toString (if n < 0 then -n else n) : Str).length]).sum + 2 * ("" : Str).length ≤ 16777216
          have e1 : ("-" : Str).length = 1 := by decide
          have e2 : ("" : Str).length = 0 := by decide
          simp only [List.sum_cons, List.sum_nil, e1, e2]
          omega
        · rw [text_neg n neg]
          refine q _ fun c o e => ?_
          have nc := ne_of_none e hp
          have e1 : (upd (upd (upd H p (.lst [])) p (.lst ([] ++ [V.str (toString (if n < 0 then -n else n))]))) p (.lst ([V.str (toString (if n < 0 then -n else n))] ++ [V.str "-"]))) c = some o := by
            rw [upd_ne nc, upd_ne nc, upd_ne nc]
            exact e
          rw [upd_ne (ne_of_none e1 hp3)]
          exact e1
      · rw [decide_eq_false neg]
        refine iteF ?_
        refine ⟨⟨_, rfl⟩, _, rfl, p, _, rfl, .of hp2, fun p2 hp3 => ?_⟩
        refine ⟨_, p2, [(toString (if n < 0 then -n else n) : Str)], rfl, rfl, .inl (.of upd_same), ?_, ?_⟩
        · show ([(toString (if n < 0 then -n else n) : Str).length]).sum + 1 * ("" : Str).length ≤ 16777216
          have e2 : ("" : Str).length = 0 := by decide
          simp only [List.sum_cons, List.sum_nil, e2]
          omega
        · rw [text_pos n (by omega)]
          refine q _ fun c o e => ?_
          have nc := ne_of_none e hp
          have e1 : (upd (upd H p (.lst [])) p (.lst ([] ++ [V.str (toString (if n < 0 then -n else n))]))) c = some o := by
            rw [upd_ne nc, upd_ne nc]
            exact e
          rw [upd_ne (ne_of_none e1 hp3)]
          exact e1
    · rintro σ H' Q1 Q2 hq ⟨x, hx, i, j, e1, e2, k, e3, z⟩
      exact ⟨x, hx, i, j, e1, e2, k, e3, hq _ _ z⟩
theorem scRatText : FnScope ["ratio"] ["ratio"] (defScope sRatText) := ⟨rfl, rfl, rfl, by decide +kernel, rfl, by decide +kernel, by decide +kernel⟩
theorem ok_ratText {f fI : Addr} {fd fdI : FuncData} (F : Fun K "ratio_text" "ratio_text" sRatText f fd) (T : RT K mg CR) (D : Dn K mg "integer_text" fI) (G : FnOk P w K mg base CX0 1 fI fdI ["number"] spIntText) (bI : Binds K fdI ["number"] []) : FnOk P w K mg base CX0 2 f fd ["ratio"] (spRatText CR) := by
  refine F.ok scRatText (fun vs H Q E h => ?_) (fun cdv A outer s H vs Q E hr h => ?_)
  · obtain ⟨a, t, b, rfl, _⟩ := h
    rfl
  · obtain ⟨a, t, b, rfl, ra, wt, wb, q⟩ := h
    refine ⟨_, pss_cons (ps_if (pt_cmpR op_eq (pe_fld (pv 0) rfl) pe_int (nomark _)) (pss_one (ps_ret (pe_call G hr (by rfl) D.gl D.kp bI .nil pass0 (pa_cons (pe_fld (pv 0) rfl) pa_nil)))) pss_nil)
      (pss_one (ps_ret (pe_joined (PJ.cons (pe_fmt (pe_call G hr (by rfl) D.gl D.kp bI .nil pass0 (pa_cons (pe_fld (pv 0) rfl) pa_nil))) (PJ.cons pe_str (PJ.cons (pe_fmt (pe_call G hr (by rfl) D.gl D.kp bI .nil pass0 (pa_cons (pe_fld (pv 0) rfl) pa_nil))) PJ.nil)))))), ?_⟩
    obtain ⟨dx, ha⟩ := id ra
    refine ⟨_, rfl, a, CR, dx, _, _, rfl, ha, T.cl, T.nB, rf_bot t b, rfl, _, rfl, ?_⟩
    by_cases e1 : (V.int b) = V.int 1
    · rw [decide_eq_true e1]
      have eb : b = 1 := V.int.inj e1
      refine iteT ⟨_, rfl, a, CR, dx, _, _, rfl, ha, T.cl, T.nT, rf_top t b, t, rfl, wt, fun H1 s1 => ?_⟩
      have z := q H1 s1
      unfold ctext at z
      rw [if_pos eb] at z
      exact z
    · rw [decide_eq_false e1]
      have nb : ¬ b = 1 := fun z => e1 (by rw [z])
      refine iteF ⟨_, rfl, a, CR, dx, _, _, rfl, ha, T.cl, T.nT, rf_top t b, t, rfl, wt, fun H1 s1 => .inl ⟨_, rfl, fit2 (text_len wt) (by decide), _, rfl, ?_, ?_⟩⟩
      · rw [empty_app]
        exact fit2 (text_len wt) (by decide)
      · rw [empty_app]
        refine ⟨_, rfl, fit2 (app_len (text_len wt) (show (Str.ofString "/").length ≤ 1 by decide)) (by decide), ?_⟩
        refine ⟨_, rfl, a, CR, dx, _, _, rfl, s1 _ _ ha, T.cl, T.nB, rf_bot t b, b, rfl, wb, fun H2 s2 => .inl ⟨_, rfl, fit2 (text_len wb) (by decide), _, rfl, ?_, ?_⟩⟩
        · exact fit2 (app_len (app_len (text_len wt) (show (Str.ofString "/").length ≤ 1 by decide)) (text_len (n := b) wb)) (by decide)
        · have z := q H2 (s1.trans s2)
          unfold ctext at z
          rw [if_neg nb] at z
          exact z
theorem scRStr : FnScope ["self"] ["self"] (defScope sRStr) := ⟨rfl, rfl, rfl, by decide +kernel, rfl, by decide +kernel, by decide +kernel⟩
theorem ok_rstr {f fI : Addr} {fd fdI : FuncData} (F : Fun K "__str__" "Ratio.__str__" sRStr f fd) (D : Dn K mg "ratio_text" fI) (G : FnOk P w K mg base CX0 2 fI fdI ["ratio"] (spRatText CR)) (bI : Binds K fdI ["ratio"] []) : FnOk P w K mg base CX0 3 f fd ["self"] (spRatText CR) := by
  refine F.ok scRStr (fun vs H Q E h => ?_) (fun cdv A outer s H vs Q E hr h => ?_)
  · obtain ⟨a, t, b, rfl, _⟩ := h
    rfl
  · obtain ⟨a, t, b, rfl, ra, wt, wb, q⟩ := h
    refine ⟨_, pss_one (ps_ret (pe_joined1 (pe_fmt (pe_call G hr (by rfl) D.gl D.kp bI .nil pass0 (pa_cons (pv 0) pa_nil))))), ?_⟩
    exact ⟨_, rfl, a, t, b, rfl, ra, wt, wb, fun H1 s1 => .inl ⟨_, rfl, fit2 (ctext_len wt wb) (by decide), q H1 s1⟩⟩
theorem scRRepr : FnScope ["self"] ["self"] (defScope sRRepr) := ⟨rfl, rfl, rfl, by decide +kernel, rfl, by decide +kernel, by decide +kernel⟩
def spRRepr (CR : Addr) : Sp := fun vs H Q _ => ∃ (a : Addr) (t b : Int), vs = [.ref a] ∧ RatAt CR H a t b ∧ W10 t ∧ W10 b ∧ ∀ H', Same H H' → Q (.str ("Ratio(" ++ ctext t b ++ ")")) H'
theorem ok_rrepr {f fS : Addr} {fd fdS : FuncData} (F : Fun K "__repr__" "Ratio.__repr__" sRRepr f fd) (M : OwnM K CR "__str__" fS) (N : FmO K CR) (G : FnOk P w K mg base CX0 3 fS fdS ["self"] (spRatText CR)) (bS : Binds K fdS ["self"] []) : FnOk P w K mg base CX0 5 f fd ["self"] (spRRepr CR) := by
  refine F.ok scRRepr (fun vs H Q E h => ?_) (fun cdv A outer s H vs Q E hr h => ?_)
  · obtain ⟨a, t, b, rfl, _⟩ := h
    rfl
  · obtain ⟨a, t, b, rfl, ra, wt, wb, q⟩ := h
    obtain ⟨dx, ha⟩ := id ra
    refine ⟨_, pss_one (ps_ret (pe_joined (PJ.cons pe_str (PJ.cons (pe_fmtO (X := Cx.nox _) M N G bS hr (pv 0)) (PJ.cons pe_str PJ.nil))))), ?_⟩
    have l1 : (Str.ofString "Ratio(").length ≤ 6 := by decide
    have l2 : (Str.ofString ")").length ≤ 1 := by decide
    have l0 : Str.empty.length ≤ 0 := by decide
    have lc := ctext_len wt wb
    refine ⟨_, rfl, fit2 (app_len l0 l1) (by decide), _, rfl, a, dx, _, rfl, ha, a, t, b, rfl, ra, wt, wb, fun H1 s1 => ⟨_, rfl, _, rfl, fit2 (app_len (app_len l0 l1) lc) (by decide), _, rfl, fit2 (app_len (app_len (app_len l0 l1) lc) l2) (by decide), ?_⟩⟩
    rw [empty_app]
    exact q H1 s1
theorem scWhole : FnScope ["self"] ["self"] (defScope sWhole) := ⟨rfl, rfl, rfl, by decide +kernel, rfl, by decide +kernel, by decide +kernel⟩
def spIsWhole (CR : Addr) : Sp := fun vs H Q _ => ∃ (a : Addr) (t b : Int), vs = [.ref a] ∧ RatAt CR H a t b ∧ Q (.bl (decide (b = 1))) H
theorem dec_int (z y : Int) : decide (V.int z = V.int y) = decide (z = y) := by
  by_cases e : z = y
  · rw [decide_eq_true e, decide_eq_true (by rw [e])]
  · rw [decide_eq_false e, decide_eq_false (fun h => e (V.int.inj h))]
theorem ok_isWhole {f : Addr} {fd : FuncData} (F : Fun K "whole" "Ratio.whole" sWhole f fd) (T : RT K mg CR) : FnOk P w K mg base CX0 1 f fd ["self"] (spIsWhole CR) := by
  refine F.ok scWhole (fun vs H Q E h => ?_) (fun cdv A outer s H vs Q E hr h => ?_)
  · obtain ⟨a, t, b, rfl, _⟩ := h
    rfl
  · obtain ⟨a, t, b, rfl, ⟨dx, ha⟩, q⟩ := h
    refine ⟨_, pss_one (ps_ret (pe_cmpR op_eq (pe_fld (pv 0) rfl) pe_int (nomark _))), ?_⟩
    refine ⟨_, rfl, a, CR, dx, _, _, rfl, ha, T.cl, T.nB, rf_bot t b, rfl, ?_⟩
    rw [dec_int]
    exact q
/-- a Ratio beside any value -/
def spREq2 (K : PySem.W.Frag) (CR : Addr) : Sp := fun vs H Q _ => (∃ (a b : Addr) (t1 b1 t2 b2 : Int), vs = [.ref a, .ref b] ∧ RatAt CR H a t1 b1 ∧ RatAt CR H b t2 b2 ∧ Q (.bl (decide (t1 = t2) && decide (b1 = b2))) H) ∨
  (∃ (a : Addr) (t b i : Int), vs = [.ref a, .int i] ∧ RatAt CR H a t b ∧ Q (.bl (decide (b = 1) && decide (t = i))) H) ∨ ∃ (a : Addr) (t b : Int) (v : V), vs = [.ref a, v] ∧ RatAt CR H a t b ∧ NotNum K CR H v ∧ Q (.bl false) H
theorem screq : FnScope ["self", "other"] ["self", "other"] (defScope sREq) := ⟨rfl, rfl, rfl, by decide +kernel, rfl, by decide +kernel, by decide +kernel⟩
theorem ok_req2 {f fN : Addr} {fd fdN : FuncData} (F : Fun K "__eq__" "Ratio.__eq__" sREq f fd) (B : Bn mg) (T : RT K mg CR) (kI : PySem.W.kitOne K (.type "int") (.ref CR) = some false) (DN : Dn K mg "is_integer" fN) (GN : FnOk P w K mg base CX0 1 fN fdN ["value"] (spIsInt K)) (bN : Binds K fdN ["value"] []) : FnOk P w K mg base CX0 2 f fd ["self", "other"] (spREq2 K CR) := by
  refine F.ok screq (fun vs H Q E h => ?_) (fun cdv A outer s H vs Q E hr h => ?_)
  · rcases h with ⟨a, b, t1, b1, t2, b2, rfl, _⟩ | ⟨a, t, b, i, rfl, _⟩ | ⟨a, t, b, v, rfl, _⟩ <;> rfl
  · refine ⟨_, pss_cons (ps_if (pt_val (pe_callB call_isi (by rfl) B.isin (by decide +kernel) (pa_cons (pv 1) (pa_cons (pe_glob (v := .ref CR) (by rfl) T.gl rfl) pa_nil))))
        (pss_one (ps_ret (pe_and (pe_cmpR op_eq (pe_fld (pv 0) rfl) (pe_fld (pv 1) rfl) (nomark _)) (pe_one (pe_cmpR op_eq (pe_fld (pv 0) rfl) (pe_fld (pv 1) rfl) (nomark _)))))) pss_nil)
      (pss_one (ps_ret (pe_and (pe_call GN hr (by rfl) DN.gl DN.kp bN .nil pass0 (pa_cons (pv 1) pa_nil)) (pe_and (pe_cmpR op_eq (pe_fld (pv 0) rfl) pe_int (nomark _)) (pe_one (pe_cmpR op_eq (pe_fld (pv 0) rfl) (pv 1) (nomark _))))))), ?_⟩
    rcases h with ⟨a, b, t1, b1, t2, b2, rfl, ra, rb, q⟩ | ⟨a, t, b, i, rfl, ⟨dx, ha⟩, q⟩ | ⟨a, t, b, v, rfl, ra, ⟨ty, k1, k2, hty, e0, e1, e2, e3⟩, q⟩
    · obtain ⟨da, ha⟩ := id ra
      obtain ⟨db, hb⟩ := id rb
      refine ⟨_, rfl, _, _, _, _, true, rfl, .own _, rb.ty T, T.kR, true, rfl, iteT ?_⟩
      refine ⟨_, rfl, a, CR, _, _, _, rfl, ha, T.cl, T.nT, rf_top t1 b1, _, rfl, b, CR, _, _, _, rfl, hb, T.cl, T.nT, rf_top t2 b2, rfl, _, rfl, ?_⟩
      show if decide (V.int t1 = V.int t2) = true then _ else _
      rw [dec_int]
      cases h1 : decide (t1 = t2) with
      | false =>
        rw [h1, Bool.false_and] at q
        exact iteF q
      | true =>
        rw [h1, Bool.true_and] at q
        refine iteT ⟨_, rfl, a, CR, _, _, _, rfl, ha, T.cl, T.nB, rf_bot t1 b1, _, rfl, b, CR, _, _, _, rfl, hb, T.cl, T.nB, rf_bot t2 b2, rfl, ?_⟩
        rw [dec_int]
        exact q
    · refine ⟨_, rfl, _, _, _, _, false, rfl, .own _, .base (.int _), kI, _, rfl, iteF ?_⟩
      refine ⟨_, rfl, _, _, true, false, rfl, .base (.int _), kit_ty (by decide +kernel), kit_ty (by decide +kernel), true, rfl, iteT ?_⟩
      refine ⟨_, rfl, a, CR, dx, _, _, rfl, ha, T.cl, T.nB, rf_bot t b, rfl, _, rfl, ?_⟩
      show if decide (V.int b = V.int 1) = true then _ else _
      rw [dec_int]
      cases h1 : decide (b = 1) with
      | false =>
        rw [h1, Bool.false_and] at q
        exact iteF q
      | true =>
        rw [h1, Bool.true_and] at q
        refine iteT ⟨_, rfl, a, CR, dx, _, _, rfl, ha, T.cl, T.nT, rf_top t b, _, rfl, rfl, ?_⟩
        rw [dec_int]
        exact q
    · refine ⟨_, rfl, _, _, _, _, false, rfl, .own _, hty, e0, _, rfl, iteF ?_⟩
      exact ⟨_, rfl, _, _, k1, k2, rfl, hty, e1, e2, false, congrArg V.bl e3, iteF q⟩
end
end K02

set_option Elab.async false
set_option linter.all false
set_option maxRecDepth 100000
set_option maxHeartbeats 4000000
set_option pp.maxSteps 500
namespace K02
open PySem PySem.Spec PyProof.Rows L2 Ux
/-- no whole number -/
def NotInt (K : PySem.W.Frag) (H : Hp) (v : V) : Prop := ∃ t b1 b2, TyX K H v t ∧ PySem.W.kitOne K t (.type "int") = some b1 ∧ PySem.W.kitOne K t (.type "bool") = some b2 ∧ (b1 && !b2) = false
abbrev RaisesN (CI : Addr) (v : V) (H : Hp) (E : XK) : Prop := ∀ d H', Same H H' → H' d = some (.xd (inFs v)) → E (.ref CI) (some d) H'
def spRInit2 (K : PySem.W.Frag) (CR CI : Addr) : Sp := fun vs H Q E => ∃ (p dx : Addr), H p = some (.ins CR dx []) ∧
  ((∃ t b : Int, vs = [.ref p, .int t, .int b] ∧ b ≠ 0 ∧ Bd 8000 b ∧ ∀ H', H' p = some (.ins CR dx (rf (nT t b) (nB t b))) → But p H H' → Q .non H') ∨
   (∃ v w : V, vs = [.ref p, v, w] ∧ NotInt K H v ∧ Adm K H v ∧ RaisesN CI v H E) ∨ (∃ (t : Int) (w : V), vs = [.ref p, .int t, w] ∧ NotInt K H w ∧ Adm K H w ∧ RaisesN CI w H E) ∨ ∃ t : Int, vs = [.ref p, .int t, .int 0] ∧ Adm K H (.int 0) ∧ RaisesN CI (.int 0) H E)
section
variable {P : Program} {w : World} {K : PySem.W.Frag} {mg : Str → Option Value} {base : Heap} {CR CI fI : Addr}
theorem ok_rinit2 {f fN : Addr} {fd fdN fdI : FuncData} {dvs : List V} (F : FunD K "__init__" "Ratio.__init__" (defArgs sRInit) (defBody sRInit) (defScope sRInit) dvs [] f fd) (T : RT K mg CR) (gcd : mg "gcd" = some (.builtin "math.gcd")) (I : IN K mg CI fI) (GI : FnOk P w K mg base CX0 2 fI fdI ["self", "given"] (spI_InvalidNumber K)) (bN : Binds K fdI ["self", "given"] [])
    (D : Dn K mg "is_integer" fN) (G : FnOk P w K mg base CX0 1 fN fdN ["value"] (spIsInt K)) (bI : Binds K fdN ["value"] []) :
    FnOk P w K mg base (L2.CX P w) 4 f fd ["self", "top", "bottom"] (spRInit2 K CR CI) := by
  refine F.ok scRInit (fun vs H Q E h => ?_) (fun cdv A outer s H vs Q E hr h => ?_)
  · obtain ⟨p, dx, hp, ⟨t, b, rfl, _⟩ | ⟨v, w, rfl, _⟩ | ⟨t, w, rfl, _⟩ | ⟨t, rfl, _⟩⟩ := h <;> rfl
  · have r1 : Room 1 _ := hr.mono (by decide)
    refine ⟨_, pss_cons (ps_if (pt_not (pt_val (pe_call G r1 (by rfl) D.gl D.kp bI .nil pass0 (pa_cons (pv 1) pa_nil)))) (pss_one (ps_raise rfl (takes_of rfl rfl rfl rfl) (pmk_oex I.ox I.ini I.ty GI hr bN .nil pass0 (by rfl) I.gl (pa_cons (pv 1) pa_nil)))) pss_nil)
      (pss_cons (ps_if (PW.pt (pw_or (pt_not (pt_val (pe_call G r1 (by rfl) D.gl D.kp bI .nil pass0 (pa_cons (pv 2) pa_nil)))) (pw_or1 (pt_cmpR op_eq (pv 2) pe_int (nomark _))))) (pss_one (ps_raise rfl (takes_of rfl rfl rfl rfl) (pmk_oex I.ox I.ini I.ty GI hr bN .nil pass0 (by rfl) I.gl (pa_cons (pv 2) pa_nil)))) pss_nil)
      (pss_cons (ps_set (i := 3) scRInit.nd rfl (Or.inl rfl) (pe_callBfun cr_gcd (by rfl) gcd (pa_cons (pv 1) (pa_cons (pv 2) pa_nil))))
      (C8.pss_cut (ps_if (pt_cmpR op_lt (pv 2) pe_int (nomark _)) (pss_one (ps_set (i := 3) scRInit.nd rfl (Or.inl rfl) (pe_un un_neg (pv 3)))) pss_nil)
      (pss_cons (ps_fld (pv 0) (pe_op op_fdivX (pv 1) (pv 3)) rfl)
      (pss_one (ps_fld (pv 0) (pe_op op_fdivX (pv 2) (pv 3)) rfl)))))), ?_⟩
    obtain ⟨p, dx, hp, ⟨t, b, rfl, b0, bb, q⟩ | ⟨v, w, rfl, ⟨ty, b1, b2, h1, h2, h3, h4⟩, ad, k⟩ | ⟨t, w, rfl, ⟨ty, b1, b2, h1, h2, h3, h4⟩, ad, k⟩ | ⟨t, rfl, ad, k⟩⟩ := h
    · refine ⟨_, rfl, _, _, true, false, rfl, .base (.int _), kit_ty (by decide +kernel), kit_ty (by decide +kernel), _, rfl, iteF ?_⟩
      refine ⟨_, rfl, _, _, true, false, rfl, .base (.int _), kit_ty (by decide +kernel), kit_ty (by decide +kernel), _, rfl, iteF ?_⟩
      have nb : ¬ (V.int b) = V.int 0 := fun z => b0 (V.int.inj z)
      refine ⟨_, rfl, rfl, _, rfl, ?_⟩
      rw [decide_eq_false nb]
      refine iteF ?_
      refine ⟨_, rfl, _, rfl, t, b, rfl, ?_⟩
      refine ⟨fun σ H' => σ = [some (.ref p), some (.int t), some (.int b), some (.int (cg t b))] ∧ H' = H, ?_, ?_⟩
      · refine ⟨_, rfl, _, _, rfl, rfl, _, rfl, ?_⟩
        by_cases hn : b < 0
        · rw [decide_eq_true hn]
          refine iteT ⟨_, rfl, _, rfl, ?_⟩
          unfold cg
          rw [if_pos hn]
          exact ⟨rfl, rfl⟩
        · rw [decide_eq_false hn]
          refine iteF ?_
          unfold cg
          rw [if_neg hn]
          exact ⟨rfl, rfl⟩
      · rintro σ H' ⟨rfl, rfl⟩
        have c0 := cg_ne (t := t) b0
        have c1 : (cg t b).natAbs.log2 < 9000 := by
          refine Nat.lt_of_lt_of_le (Bd.log (n := 8000) ?_ (by decide)) (by decide)
          unfold Bd
          rw [cg_abs]
          exact Nat.lt_of_le_of_lt (Nat.le_of_dvd (by omega) (Nat.gcd_dvd_right _ _)) bb
        refine ⟨_, rfl, _, rfl, _, _, rfl, rfl, ⟨c0, c1⟩, _, rfl, p, CR, dx, [], rfl, hp, T.cl, T.nT, (by show 0 < 1000; decide), ?_⟩
        refine ⟨_, rfl, _, rfl, _, _, rfl, rfl, ⟨c0, c1⟩, _, rfl, p, CR, dx, _, rfl, upd_same, T.cl, T.nB, (by show 1 < 1000; decide), ?_⟩
        exact q _ upd_same ((But.refl.upd).upd)
    · exact ⟨_, rfl, _, _, b1, b2, rfl, h1, h2, h3, false, congrArg V.bl h4, iteT (in_made I rfl ad k)⟩
    · refine ⟨_, rfl, _, _, true, false, rfl, .base (.int _), kit_ty (by decide +kernel), kit_ty (by decide +kernel), _, rfl, iteF ?_⟩
      exact ⟨_, rfl, _, _, b1, b2, rfl, h1, h2, h3, false, congrArg V.bl h4, iteT (in_made I rfl ad k)⟩
    · refine ⟨_, rfl, _, _, true, false, rfl, .base (.int _), kit_ty (by decide +kernel), kit_ty (by decide +kernel), _, rfl, iteF ?_⟩
      refine ⟨_, rfl, _, _, true, false, rfl, .base (.int _), kit_ty (by decide +kernel), kit_ty (by decide +kernel), _, rfl, iteF ?_⟩
      refine ⟨_, rfl, rfl, _, rfl, ?_⟩
      rw [decide_eq_true rfl]
      exact iteT (in_made I rfl ad k)
end
end K02

set_option Elab.async false
set_option linter.all false
set_option maxRecDepth 100000
set_option maxHeartbeats 4000000
/-! A lambda without parameters held as a value: in a tuple, in a list; a def called with such a value. -/
namespace Ux
open PySem PySem.Spec PyProof.Rows L2 LamX
/-- a lambda of the text, and what its body is read as -/
structure LamD where
  params : Arguments
  body : Expr
  scope : Scope
  t : XK → TE
/-- its function object at f, made where the cells are cl -/
def LamO (cl : List (Str × Addr)) (q : Str) (d : LamD) (f c' : Addr) : HO := .ext fun h => ∃ pm ctv : Value, h.get? f = some (PySem.W.kla_obj "<lambda>" q d.params d.body d.scope (cloFrom cl d.scope.names []) pm c' ctv)
structure LamAt (cl : List (Str × Addr)) (q : Str) (H : Hp) (d : LamD) (f c' : Addr) : Prop where
  fn : H f = some (LamO cl q d f c')
  co : H c' = some (CodeO c' q)
theorem lamO_ne {cl : List (Str × Addr)} {q : Str} {d : LamD} {f c' : Addr} (ps : Array Value) : LamO cl q d f c' ≠ .tbl ps := fun z => by
  unfold LamO at z
  cases z
/-- tuples and what is told by one object are kept -/
structure Kp (H H' : Hp) : Prop where
  tup : ∀ b xs, H b = some (.tup xs) → H' b = some (.tup xs)
  ext : ∀ b φ, H b = some (.ext φ) → H' b = some (.ext φ)
theorem Kp.of {H H' : Hp} (e : ∀ b o, H b = some o → H' b = some o) : Kp H H' := ⟨fun b xs => e b _, fun b φ => e b _⟩
theorem Kp.ofN {H H' : Hp} (e : ExtN H H') : Kp H H' := ⟨fun b xs h => e b _ h (fun _ z => by cases z), fun b φ h => e b _ h (fun _ z => by cases z)⟩
theorem Kp.trans {H H1 H2 : Hp} (a : Kp H H1) (b : Kp H1 H2) : Kp H H2 := ⟨fun c xs h => b.tup _ _ (a.tup _ _ h), fun c φ h => b.ext _ _ (a.ext _ _ h)⟩
theorem Kp.but {H H' : Hp} {c : Addr} {xs : List V} (hc : H c = some (.lst xs)) (e : ∀ b o, H b = some o → b ≠ c → H' b = some o) : Kp H H' :=
  ⟨fun b ys h => e b _ h (fun z => by rw [z, hc] at h; cases h), fun b φ h => e b _ h (fun z => by rw [z, hc] at h; cases h)⟩
theorem LamAt.kp {cl : List (Str × Addr)} {q : Str} {H H' : Hp} {d : LamD} {f c' : Addr} (l : LamAt cl q H d f c') (k : Kp H H') : LamAt cl q H' d f c' := ⟨k.ext _ _ l.fn, k.ext _ _ l.co⟩
section
variable {X : Cx} {pins : List (Addr × Obj)} {σ : L2.St} {H : Hp} {s : Shared}
theorem lam_track {h' : Heap} {tk : Nat} {d : LamD} {c' : Addr} {pm ctv : Value} {q : Str} {cl : List (Str × Addr)} {s1 : Shared} (I : Inv X pins σ H s1) (ho : s1.heap = h') :
    Inv X pins σ (upd H h'.objs.size (LamO cl q d h'.objs.size c')) { s1 with heap := h'.push (PySem.W.kla_obj "<lambda>" q d.params d.body d.scope (cloFrom cl d.scope.names []) pm c' ctv), toks := tk } := by
  subst ho
  exact I.laid (fun b u e => Heap.get?_push_of_some _ e) (Nat.le_refl _) ⟨⟨pm, ctv, Heap.get?_push_size _ rfl⟩, ⟨_, Heap.get?_push_size _ rfl⟩, fun h1 h2 ⟨p, v, e⟩ st => ⟨p, v, st _ e⟩⟩
def tLamV (T : List (Addr × Str)) (cl : List (Str × Addr)) (q : Str) (d : LamD) : TE := fun σ H Q => Tabs T H ∧ ∀ (H1 : Hp) (f c' : Addr), ExtN H H1 → Tabs T H1 → LamAt cl q H1 d f c' → Q (.ref f) H1
theorem pe_lamV {T : List (Addr × Str)} {c P : Addr} {params : Arguments} {body : Expr} {scope : Scope} {lpos : Pos} (t : XK → TE) (TB : TabB X.base X.mg c P) (hcode : X.env.code = .ref c)
    (hm : (P, X.env.qual ++ "<lambda>") ∈ T) (hu : ∀ p ∈ T, p.1 = P → p.2 = X.env.qual ++ "<lambda>") (L : LamS X.env.scope scope) (hdef : defaultsOf params X.env = ([], [])) :
    PE X (.Lambda params body scope lpos) (tLamV T X.env.cells (X.env.qual ++ "<lambda>") ⟨params, body, scope, t⟩) := by
  refine ⟨fun pins s σ H Q I h => ?_⟩
  obtain ⟨hT, h⟩ := h
  obtain ⟨ps, hP, htr, ha⟩ := hT _ hm
  refine PySem.W.kla_eval hdef ?_
  have bP := TB.bm.keeps I.bk
  have hP2 : s.heap.get? P = some { cls := .none, data := .fields ps } := I.hok P _ hP
  have fin : ∀ (f c' : Addr) (H1 : Hp) (s' : Shared), Inv X pins σ H1 s' → ExtN H H1 → Tabs T H1 → LamAt X.env.cells (X.env.qual ++ "<lambda>") H1 ⟨params, body, scope, t⟩ f c' → ∃ (v : V) (H' : Hp), Inv X pins σ H' s' ∧ L2.RelV v (.ref f) ∧ Q v H' :=
    fun f c' H1 s' I1 e1 t1 l1 => ⟨.ref f, H1, I1, rfl, h H1 f c' e1 t1 l1⟩
  cases hcd : codeAmong lpos ps.toList with
  | none =>
    refine PySem.W.kla_makeFunction (mg := X.mg) (c := c) (P := P) (ps := ps) (closure_ok (L.has I.ok)) I.ok.glob (I.mod.glob.keeps I.bk) hcode (TB.code.keeps I.bk) hP2 htr hcd TB.gP bP fun c' ctv h' tk hx hge hlt hrec htb => ?_
    obtain ⟨c2, oc, vs, tok, e2, hoc, hd, hv⟩ := hrec
    cases e2
    have nC : H c' = none := I.hok.fresh hge
    have I1 := inv_table (t' := s.toks) (more := #[rawInt lpos.line, rawInt lpos.col, .ref c']) (h' := h') I hP (fun b o hb e => hx b o hb e) htb hge ⟨oc, vs, tok, hoc, hd, hv⟩
    have I2 := lam_track (tk := tk) (d := ⟨params, body, scope, t⟩) (c' := c') (pm := (X.mg "__name__").getD .none) (ctv := ctv) (q := X.env.qual ++ "<lambda>") (cl := X.env.cells) I1 rfl
    have hE : ExtN H (upd (upd H P (.tbl (ps ++ #[rawInt lpos.line, rawInt lpos.col, .ref c']))) c' (CodeO c' (X.env.qual ++ "<lambda>"))) := fun b o e n => by
      have b1 := ne_of_none e nC
      have b2 : b ≠ P := fun z => n ps (by rw [z, hP] at e; exact (Option.some.inj e).symm)
      rw [upd_ne b1, upd_ne b2, e]
    have eL : (ps ++ #[rawInt lpos.line, rawInt lpos.col, .ref c']).toList = ps.toList ++ [rawInt lpos.line, rawInt lpos.col, .ref c'] := by simp
    have nF : (upd (upd H P (.tbl (ps ++ #[rawInt lpos.line, rawInt lpos.col, .ref c']))) c' (CodeO c' (X.env.qual ++ "<lambda>"))) h'.objs.size = none := I1.hok.fresh (Nat.le_refl _)
    have T1 : Tabs T (upd (upd H P (.tbl (ps ++ #[rawInt lpos.line, rawInt lpos.col, .ref c']))) c' (CodeO c' (X.env.qual ++ "<lambda>"))) := fun p hp => by
      by_cases hb : p.1 = P
      · have hq := hu p hp hb
        rw [hq, hb]
        refine ⟨_, (upd_ne (ne_of_none hP nC)).trans upd_same, eL ▸ PySem.TriplesOk_snoc _ _ _ _ htr, fun p' cv hcv => ?_⟩
        rw [eL] at hcv
        rcases among_app _ htr hcv with z | z
        · obtain ⟨c0, w1, w2⟩ := ha p' cv z
          exact ⟨c0, w1, hE _ _ w2 codeO_ne⟩
        · exact ⟨c', z, upd_same⟩
      · obtain ⟨ps', a1, a2, a3⟩ := hT p hp
        refine ⟨ps', ((upd_ne (ne_of_none a1 nC)).trans (upd_ne hb)).trans a1, a2, fun p' cv hcv => ?_⟩
        obtain ⟨c0, w1, w2⟩ := a3 p' cv hcv
        exact ⟨c0, w1, hE _ _ w2 codeO_ne⟩
    have sm : ∀ b o, (upd (upd H P (.tbl (ps ++ #[rawInt lpos.line, rawInt lpos.col, .ref c']))) c' (CodeO c' (X.env.qual ++ "<lambda>"))) b = some o → (upd (upd (upd H P (.tbl (ps ++ #[rawInt lpos.line, rawInt lpos.col, .ref c']))) c' (CodeO c' (X.env.qual ++ "<lambda>"))) h'.objs.size (LamO X.env.cells (X.env.qual ++ "<lambda>") ⟨params, body, scope, t⟩ h'.objs.size c')) b = some o :=
      fun b o e => (upd_ne (ne_of_none e nF)).trans e
    exact fin _ c' _ _ I2 (hE.trans (ExtN.of sm)) (T1.ext sm) ⟨upd_same, sm _ _ upd_same⟩
  | some cv =>
    obtain ⟨c', e, hco⟩ := ha lpos cv hcd
    subst e
    refine PySem.W.kla_makeFunctionHit (mg := X.mg) (c := c) (P := P) (ps := ps) (closure_ok (L.has I.ok)) I.ok.glob (I.mod.glob.keeps I.bk) hcode (TB.code.keeps I.bk) hP2 htr hcd bP fun ctv h' tk hx hsz => ?_
    have I1 : Inv X pins σ H { s with heap := h', toks := s.toks } := I.kept hx
    have I2 := lam_track (tk := tk) (d := ⟨params, body, scope, t⟩) (c' := c') (pm := (X.mg "__name__").getD .none) (ctv := ctv) (q := X.env.qual ++ "<lambda>") (cl := X.env.cells) I1 rfl
    have nF : H h'.objs.size = none := I1.hok.fresh (Nat.le_refl _)
    have sm : ∀ b o, H b = some o → (upd H h'.objs.size (LamO X.env.cells (X.env.qual ++ "<lambda>") ⟨params, body, scope, t⟩ h'.objs.size c')) b = some o := fun b o e => (upd_ne (ne_of_none e nF)).trans e
    exact fin _ c' _ _ I2 (ExtN.of sm) (hT.ext sm) ⟨upd_same, sm _ _ hco⟩
/-- what is asked of a lambda that is called -/
structure LamOk (X : Cx) (k : Nat) (d : LamD) : Prop where
  L : LamS X.env.scope d.scope
  bind : ∀ (q : Str) (cl : List (Str × Addr)) (pm cv ctv : Value), bindArgs (PySem.W.kla_fn "<lambda>" q d.params d.body d.scope cl pm cv ctv) ⟨[], []⟩ = pure []
  body : ∀ (A : Around) (outer : List Env) (s : Shared) (H : Hp) (E : XK) (f c' : Addr), Room k (A.deeper (lamEnv X d.scope s.heap.objs.size f c')) → PE (lamCx X A outer s H E d.scope f c') d.body (d.t E)
/-- x() in the def that got it, the function object told -/
theorem pe_actV {CXg : CXT} {Eg : XK} {Ng : List Str} {qg : Str} {sg : Scope} {g f c' : Addr} {cdg : Value} {k i : Nat} {a : Str} {pn : List (Addr × Obj)} {xe : Value → Shared → Prop} {W : WX} {E : XK} {d : LamD} {p1 p2 : Pos}
    (I : Inv X pins σ H s) (D : LamOk X k d) (tk : Takes ((cxOf CXg X.prog X.w X.K X.mg X.base Ng qg sg g cdg X.A X.stack s H Eg).tr pn xe) W) (hW : ∀ cls dd σ' H', E cls dd H' → W cls dd σ' H')
    (hr : Room (k + 1) (X.A.deeper (envOfC qg sg s.heap.objs.size g cdg))) (hN : Ng[i]? = some a) (hv : Vis sg a) (hd : (a == ("__debug__" : Str)) = false := by decide) (hcd : (a == ("__classdict__" : Str)) = false := by decide) :
    PE ((cxOf CXg X.prog X.w X.K X.mg X.base Ng qg sg g cdg X.A X.stack s H Eg).tr pn xe) (.Call (.Name a p1) [] [] p2)
      (fun σZ HZ Q => σZ[i]? = some (some (.ref f)) ∧ HZ c' = some (CodeO c' (X.env.qual ++ "<lambda>")) ∧ HZ f = some (LamO X.env.cells (X.env.qual ++ "<lambda>") d f c') ∧ d.t E σ HZ Q) := by
  refine ⟨fun pinsZ sZ σZ HZ Q IZ h => ?_⟩
  obtain ⟨hs, hc, hf, ht⟩ := h
  refine wpAny_Call_Name_kw (thn ((pe_var (pos := p1) (i := i) hN hv hd hcd).run pinsZ sZ σZ HZ (fun v H1 => v = .ref f ∧ H1 = HZ) IZ ⟨.ref f, hs, rfl, rfl⟩) fun u s1 ⟨v, H1, I1, r1, q1⟩ => ?_)
  obtain ⟨rfl, eH⟩ := q1
  rw [eH] at I1
  obtain rfl : u = Value.ref f := r1
  obtain ⟨⟨pm, ctv, of1⟩, _, _⟩ := I1.hok f _ hf
  refine PySem.W.callWith_F0 ⟨_, _, _, _, of1⟩ ?_
  have un : Un (frs X.stack) [] H HZ s.heap s1.heap := I1.base
  obtain ⟨⟨oc, vs, tok, hoc, hdc, hvc⟩, _, _⟩ := I1.hok c' _ hc
  have rc : codeAny (model X.prog X.w) (X.A.deeper (envOfC qg sg s.heap.objs.size g cdg)) (.call (.ref f) ⟨[], []⟩) (CR (L2.CX X.prog X.w) (envOfC qg sg s.heap.objs.size g cdg :: X.stack) X.prog X.w HZ s1 Q E) s1 := by
    refine PySem.W.kla_callFunE hr.depth of1 rfl D.L.co D.L.gen rfl ⟨c', oc, vs, tok, rfl, hoc, hdc, hvc⟩ ?_
    rw [D.bind]
    refine wpAny_pure (wpAny_newFunctionEnv (fun y hy => (D.L.own y hy).2) (fun y hy => absurd hy (by simp)) (fun h₁ hns hsb => ⟨I1.nolimit.fresh _ hsb, ?_⟩) D.L.kind)
    show codeAny _ _ (.expr d.body (lamEnv X d.scope s1.heap.objs.size f c')) _ _
    have kp2 : ∀ b o, s1.heap.get? b = some o → h₁.get? b = some o := fun b o e => hsb.extBut b o (Nat.ne_of_lt (Heap.lt_size e)) (Heap.get?_push_of_some _ e)
    have J : Inv (lamCx X (X.A.deeper (envOfC qg sg s.heap.objs.size g cdg)) (envOfC qg sg s.heap.objs.size g cdg :: X.stack) s1 HZ E d.scope f c') [] σ HZ { s1 with heap := h₁, toks := s1.toks + ([] : List (Str × Value)).length } := lam_start2 I D.L I1.env0 hr.hd un hns kp2
    refine PySem.W.kla_codeExpr (wpAny_mono ((D.body _ _ s1 HZ E f c' (hr.deeper _)).run [] _ _ HZ Q J ht) (fun v s' ⟨w', H', J', rv, q⟩ => ⟨w', H', J'.os, J'.bare, J'.base, J'.hok, rv, q⟩) fun e s' hq => hq)
  have hx : Passes (L2.CX X.prog X.w) ((cxOf CXg X.prog X.w X.K X.mg X.base Ng qg sg g cdg X.A X.stack s H Eg).tr pn xe) E := passes_call tk hW
  refine wpAny_call (codeAny_mono rc fun r s' hq => ?_)
  rcases r with e | (_ | _ | _ | u)
  · exact hx pinsZ σZ HZ s1 e s' I1 hq
  · exact False.elim hq
  · exact False.elim hq
  · exact False.elim hq
  · exact I1.after hq
def tLamCall (cl : List (Str × Addr)) (q : Str) (TT : (XK → Hp → VK → Prop) → Hp → VK → Prop) (ds : List LamD) (te : TE) : TE := fun σ H Q => te σ H fun v H1 => ∃ (f c' : Addr) (d : LamD), d ∈ ds ∧ v = .ref f ∧ LamAt cl q H1 d f c' ∧
  TT (fun E H' Q' => H' f = some (LamO cl q d f c') ∧ d.t E σ H' Q') H1 Q
/-- x(y), where y is one of some lambdas -/
theorem pe_lamval {ds : List LamD} {te : TE} {TT : (XK → Hp → VK → Prop) → Hp → VK → Prop} {x a y : Str} {g : Addr} {k : Nat} {pg : Arguments} {bg : List Stmt} {sg : Scope} {dV kV doc pm cdv ct oc : Value} {an od : Option Addr} {osl : Array (Option Value)} {Ng : List Str} {p py pos : Pos}
    (hg : Gl X x) (hm : X.mg x = some (.ref g)) (hk : PySem.W.keepIn X.K (.ref g) = true) (lk : X.K.lookup g = some ⟨oc, od, .func (PySem.W.fnOf x x pg bg sg dV kV doc pm an cdv ct), osl⟩) (hcg : PySem.W.codeIn X.K cdv x = true)
    (hb : L2.Binds X.K (PySem.W.fnOf x x pg bg sg dV kV doc pm an cdv ct) [a] []) (Sg : FnScope Ng [a] sg) (hNg : Ng[0]? = some a) (hva : Vis sg a) (hG : GivesTo X Ng x sg g cdv bg a (X.env.qual ++ "<lambda>") TT) (hr : Room (k + 2) X.A)
    (hds : ∀ d ∈ ds, LamOk X k d) (he : PE X (.Name y py) te) (hdb : (x == ("__debug__" : Str)) = false := by decide) (hd : (a == ("__debug__" : Str)) = false := by decide) (hcd : (a == ("__classdict__" : Str)) = false := by decide) :
    PE X (.Call (.Name x p) [.Name y py] [] pos) (tLamCall X.env.cells (X.env.qual ++ "<lambda>") TT ds te) := by
  refine ⟨fun pins s σ H Q I h => ?_⟩
  refine wpAny_Call_Name_kw (ld_glob I hg hm ?_ hdb)
  refine PySem.W.callWith_K (h₀ := X.base) I.ok.mod.kin hk ?_ (by rfl) (by rfl)
  show wpAny _ _ (spliced ((false, eval (.Name y py) X.env) :: backTo pos (starEach [] X.env))) _ _ s
  refine Calls.spliced_cons (thn (he.run pins s σ H _ I h) fun u s' ⟨v, H1, I1, rv, hq⟩ => ?_)
  obtain ⟨f, c', d, hmem, rfl, la, htt⟩ := hq
  obtain rfl : u = Value.ref f := rv
  refine Calls.spliced_nil ⟨I1.kIn, ?_⟩
  have rc : codeAny (model X.prog X.w) X.A (.call (.ref g) ⟨[.ref f], []⟩) (CR C8.CX0 X.stack X.prog X.w H1 s' Q C8.E0) s' := by
    refine run_ofS (N := Ng) (ps := [a]) (us := [.ref f]) (vs := [.ref f]) lk hcg Sg hr I1.env0 (hb s' [.ref f] I1.kIn rfl) (.cons rfl .nil) rfl fun hr2 => ?_
    obtain ⟨t', ht', hq'⟩ := hG f c' s' H1 Q (fun E H' Q' => H' f = some (LamO X.env.cells (X.env.qual ++ "<lambda>") d f c') ∧ d.t E σ H' Q') (fun W pn xe E p1 p2 tk hW => pe_actV (i := 0) I1 (hds d hmem) tk hW hr2 hNg hva hd hcd) la.co htt
    exact ⟨t', ht'.nox, hq'⟩
  refine wpAny_call (codeAny_mono rc fun r s2 hq => ?_)
  rcases r with e | (_ | _ | _ | u)
  · exact (show False from hq).elim
  · exact False.elim hq
  · exact False.elim hq
  · exact False.elim hq
  · exact I1.after hq
end
/-! ### a list of pairs of a lambda and a text -/
def tPairs (T : List (Addr × Str)) (cl : List (Str × Addr)) (q : Str) : List (LamD × Str) → TA
  | [] => tNil
  | (d, w) :: r => tCons (tTup (tCons (tLamV T cl q d) (tCons (tC (.str w)) tNil))) (tPairs T cl q r)
def Prs (cl : List (Str × Addr)) (q : Str) (H : Hp) : List Addr → List (LamD × Str) → Prop
  | [], [] => True
  | t :: ts, (d, w) :: r => (∃ f c' : Addr, H t = some (.tup [.ref f, .str w]) ∧ LamAt cl q H d f c') ∧ Prs cl q H ts r
  | _, _ => False
theorem Prs.kp {cl : List (Str × Addr)} {q : Str} {H H' : Hp} (k : Kp H H') : ∀ {ts : List Addr} {ds : List (LamD × Str)}, Prs cl q H ts ds → Prs cl q H' ts ds
  | [], [], _ => True.intro
  | t :: ts, (d, w) :: r, h => by
    obtain ⟨⟨f, c', h1, h2⟩, h3⟩ := h
    exact ⟨⟨f, c', k.tup _ _ h1, h2.kp k⟩, h3.kp k⟩
  | [], _ :: _, h => h.elim
  | _ :: _, [], h => h.elim
theorem Prs.at {cl : List (Str × Addr)} {q : Str} {H : Hp} : ∀ {ts : List Addr} {ds : List (LamD × Str)}, Prs cl q H ts ds → ts.length = ds.length ∧ ∀ (i : Nat) (d : LamD) (w : Str), ds[i]? = some (d, w) → ∃ t f c' : Addr, ts[i]? = some t ∧ H t = some (.tup [.ref f, .str w]) ∧ LamAt cl q H d f c'
  | [], [], _ => ⟨rfl, fun i d w e => by cases e⟩
  | t :: ts, (d, w) :: r, h => by
    obtain ⟨⟨f, c', h1, h2⟩, h3⟩ := h
    have z := h3.at
    refine ⟨by simp [z.1], fun i d' w' e => ?_⟩
    cases i with
    | zero =>
      cases e
      exact ⟨t, f, c', rfl, h1, h2⟩
    | succ j => exact z.2 j d' w' e
  | [], _ :: _, h => h.elim
  | _ :: _, [], h => h.elim
theorem pairs_of {T : List (Addr × Str)} {cl : List (Str × Addr)} {q : Str} {σ : L2.St} : ∀ (ds : List (LamD × Str)) {H : Hp} {Q : List V → Hp → Prop}, Tabs T H → (∀ (H1 : Hp) (ts : List Addr), ExtN H H1 → Tabs T H1 → Prs cl q H1 ts ds → Q (ts.map V.ref) H1) → tPairs T cl q ds σ H Q
  | [], H, Q, hT, h => h H [] (ExtN.refl H) hT True.intro
  | (d, w) :: r, H, Q, hT, h => by
    refine ⟨hT, fun H1 f c' e1 T1 la => ⟨(by show 2 ≤ sizeLine; decide), fun t nt => ?_⟩⟩
    have sm : ∀ b o, H1 b = some o → (upd H1 t (.tup [.ref f, .str w])) b = some o := fun b o e => (upd_ne (ne_of_none e nt)).trans e
    refine pairs_of r (T1.ext sm) fun H3 ts e3 T3 pr => h H3 (t :: ts) (e1.trans ((ExtN.of sm).trans e3)) T3 ⟨⟨f, c', e3 _ _ upd_same (fun _ z => by cases z), (la.kp (Kp.of sm)).kp (Kp.ofN e3)⟩, pr⟩
end Ux

set_option Elab.async false
set_option linter.all false
set_option maxRecDepth 100000
set_option maxHeartbeats 4000000
/-! A lambda with one parameter that has a default, held as a value and called without arguments. -/
namespace Ux
open PySem PySem.Spec PySem.Calls PyProof.Rows L2 LamX PySem.W
/-- the function object of a lambda whose defaults stand in a tuple -/
abbrev ldFn (q : Str) (params : Arguments) (body : Expr) (scope : Scope) (cl : List (Str × Addr)) (pm cdv ct dV : Value) : FuncData := { PySem.W.kla_fn "<lambda>" q params body scope cl pm cdv ct with defaults := dV }
abbrev ldObj (q : Str) (params : Arguments) (body : Expr) (scope : Scope) (cl : List (Str × Addr)) (pm : Value) (cv : Value) (ct dV : Value) : Obj := { cls := .type "function", data := .func (ldFn q params body scope cl pm cv ct dV) }
section
variable {M : Model} {A : Around} {E : Value → Shared → Prop} {s : Shared} {q : Str} {params : Arguments} {body : Expr} {scope : Scope} {env : Env} {c P : Addr} {ps : Array Value} {pos : Pos} {fl : Nat} {mg : Str → Option Value} {clos : List (Str × Addr)} {Q : Value → Shared → Prop} {dV : Value}
theorem ld_miss (hcl : closureFor scope env = pure clos) (hge : env.globals = mainGlobals) (hg : s.heap.Ns mainGlobals mg) (hcode : env.code = .ref c) (C : CodeHd s.heap c P) (hP : s.heap.get? P = some (tabObj ps)) (ht : TriplesOk ps.toList) (hnf : codeAmong pos ps.toList = none) (hgP : mainGlobals ≠ P) (hb : s.heap.BuiltinsAt mg P)
    (h : ∀ c' ctv h' tk, Heap.ExtBut P s.heap h' → s.heap.objs.size ≤ c' → c' < h'.objs.size → h'.CodeRec (.ref c') q → h'.get? P = some (tabObj (ps ++ #[rawInt pos.line, rawInt pos.col, .ref c'])) → Q (.ref h'.objs.size) { s with heap := h'.push (ldObj q params body scope clos ((mg "__name__").getD .none) (.ref c') ctv dV), toks := tk }) :
    wpAny M A (makeTail "<lambda>" q params (.expr body) scope env dV .none none pos fl) Q E s := by
  obtain ⟨bm, ob, b1, b2, _, b4, b5, b6, b7, b8⟩ := hb
  unfold makeTail; rw [hcl, hge]; refine wpAny_bind (wpAny_pure ?_)
  cases clos with
  | nil =>
    simp only [List.isEmpty_nil, if_true]; refine wpAny_bind (wpAny_pure ?_)
    refine wpAny_bind (wpAny_functionCodeX hcode (C.code hP ht) (C.tab hP) hnf fun c' h' tk hx hge' hlt _ hrec htb _ => ?_); have hg' := hg.extBut hx hgP
    refine wpAny_bind (wpAny_builtinsFor hg' b1 b2 (hx _ _ b4 b5) b6 b7 b8 (wpAny_bind (wpAny_nsGet hg' (wpAny_bind (wpAny_pure (wpAny_newObj_type (h c' .none h' tk hx hge' hlt hrec htb.2) (by size_fits)))))))
  | cons z r =>
    simp only [List.isEmpty_cons, Bool.false_eq_true, if_false]; refine wpAny_bind (wpAny_newTextTuple ?_)
    refine wpAny_bind (wpAny_functionCodeX hcode ((C.keeps fun b o e => Heap.get?_push_of_some _ e).code (Heap.get?_push_of_some _ hP) ht) ((C.keeps fun b o e => Heap.get?_push_of_some _ e).tab (Heap.get?_push_of_some _ hP)) hnf fun c' h' tk hx hge' hlt _ hrec htb _ => ?_); have hg' := (hg.push _).extBut hx hgP
    have hx2 : Heap.ExtBut P s.heap h' := fun b o n e => hx b o n (Heap.get?_push_of_some _ e); have hge2 : s.heap.objs.size ≤ c' := Nat.le_trans (by rw [Heap.size_push]; omega) hge'
    refine wpAny_bind (wpAny_builtinsFor hg' b1 b2 (hx2 _ _ b4 b5) b6 b7 b8 (wpAny_bind (wpAny_nsGet hg' (wpAny_bind (wpAny_pure (wpAny_newObj_type (h c' _ h' tk hx2 hge2 hlt hrec htb.2) (by size_fits)))))))
theorem ld_hit {cv : Value} (hcl : closureFor scope env = pure clos) (hge : env.globals = mainGlobals) (hg : s.heap.Ns mainGlobals mg) (hcode : env.code = .ref c) (C : CodeHd s.heap c P) (hP : s.heap.get? P = some (tabObj ps)) (ht : TriplesOk ps.toList) (hf : codeAmong pos ps.toList = some cv) (hb : s.heap.BuiltinsAt mg P)
    (h : ∀ (ctv : Value) (h' : Heap) (tk : Tok), (∀ b o, s.heap.get? b = some o → h'.get? b = some o) → s.heap.objs.size ≤ h'.objs.size → Q (.ref h'.objs.size) { s with heap := h'.push (ldObj q params body scope clos ((mg "__name__").getD .none) cv ctv dV), toks := tk }) :
    wpAny M A (makeTail "<lambda>" q params (.expr body) scope env dV .none none pos fl) Q E s := by
  obtain ⟨bm, ob, b1, b2, _, b4, b5, b6, b7, b8⟩ := hb
  unfold makeTail; rw [hcl, hge]; refine wpAny_bind (wpAny_pure ?_)
  cases clos with
  | nil =>
    simp only [List.isEmpty_nil, if_true]; refine wpAny_bind (wpAny_pure (wpAny_bind (wpAny_functionCode_hit hcode (C.code hP ht) hf ?_)))
    refine wpAny_bind (wpAny_builtinsFor hg b1 b2 b5 b6 b7 b8 (wpAny_bind (wpAny_nsGet hg (wpAny_bind (wpAny_pure (wpAny_newObj_type (h .none s.heap s.toks (fun _ _ e => e) (Nat.le_refl _)) (by size_fits)))))))
  | cons z r =>
    simp only [List.isEmpty_cons, Bool.false_eq_true, if_false]; refine wpAny_bind (wpAny_newTextTuple ?_)
    refine wpAny_bind (wpAny_functionCode_hit hcode ((C.keeps fun b o e => Heap.get?_push_of_some _ e).code (Heap.get?_push_of_some _ hP) ht) hf ?_)
    have sz : ∀ oT : Obj, s.heap.objs.size ≤ (s.heap.push oT).objs.size := fun oT => by rw [Heap.size_push]; omega
    refine wpAny_bind (wpAny_builtinsFor (hg.push _) b1 b2 (Heap.get?_push_of_some _ b5) b6 b7 b8 (wpAny_bind (wpAny_nsGet (hg.push _) (wpAny_bind (wpAny_pure (wpAny_newObj_type (h _ _ s.toks (fun b o e => Heap.get?_push_of_some _ e) (sz _)) (by size_fits)))))))
/-- the expression: the default first, then its tuple, then the function -/
theorem ld_eval {x : Sem Value} (hdef : defaultsOf params env = ([x], [])) (hk : params.kwonlyargs = [])
    (h : wpAny M A x (fun v s1 => wpAny M A (makeTail "<lambda>" (env.qual ++ "<lambda>") params (.expr body) scope env (.ref s1.heap.objs.size) .none none pos pos.line) Q E { s1 with heap := s1.heap.push { cls := .type "tuple", data := .seq #[v] } }) E s) :
    wpAny M A (eval (.Lambda params body scope pos) env) Q E s := by
  rw [arm_eval_Lambda, hdef]
  show wpAny M A (do let dv ← evalAll [x]; let kdv ← holding dv (evalAllOpt []); makeFunction "<lambda>" (env.qual ++ "<lambda>") params (.expr body) scope env dv kdv [] pos pos.line) Q E s
  refine wpAny_bind ?_
  show wpAny M A (do let v ← x; return v :: (← holding [v] (evalAll []))) _ E s
  refine wpAny_bind (wpAny_mono h (fun v s1 hv => ?_) fun e s1 he => he)
  refine wpAny_bind (wpAny_holding (wpAny_pure (wpAny_pure (wpAny_bind (wpAny_holding (wpAny_pure ?_))))))
  rw [makeFunction_eq, hk]
  simp only [List.zip_nil_left, List.filterMap_nil, List.isEmpty_nil, List.isEmpty_cons, if_true, pure_bind, Bool.false_eq_true, if_false]
  exact wpAny_bind (wpAny_newTextTuple hv)
end
end Ux

set_option Elab.async false
set_option linter.all false
set_option maxRecDepth 100000
set_option maxHeartbeats 4000000
namespace Ux
open PySem PySem.Spec PyProof.Rows L2 LamX
/-- a lambda with one parameter x, its default dv -/
structure LamE where
  params : Arguments
  body : Expr
  scope : Scope
  t : XK → TE
  x : Str
  dv : V
def LamOE (cl : List (Str × Addr)) (q : Str) (d : LamE) (f c' T : Addr) : HO := .ext fun h => ∃ pm ctv : Value, h.get? f = some (ldObj q d.params d.body d.scope (cloFrom cl d.scope.names []) pm (.ref c') ctv (.ref T))
structure LamAtE (cl : List (Str × Addr)) (q : Str) (H : Hp) (d : LamE) (f c' T : Addr) : Prop where
  fn : H f = some (LamOE cl q d f c' T)
  co : H c' = some (CodeO c' q)
  df : H T = some (.tup [d.dv])
theorem LamAtE.kp {cl : List (Str × Addr)} {q : Str} {H H' : Hp} {d : LamE} {f c' T : Addr} (l : LamAtE cl q H d f c' T) (k : Kp H H') : LamAtE cl q H' d f c' T := ⟨k.ext _ _ l.fn, k.ext _ _ l.co, k.tup _ _ l.df⟩
/-- its names: one parameter that is no name of the frame around it, captured ones, globals -/
structure LamSE (N : List Str) (sc scope : Scope) (x : Str) : Prop where
  kind : scope.kind = .function
  co : scope.isCoroutine = false
  gen : scope.isGenerator = false
  own : ∀ y ∈ scope.names, y.2 ≠ .cell ∧ (y.2 = .local → y.1 ∉ N)
  par : scope.names.lookup x = some .local
  free : ∀ y ∈ scope.names, y.2 = .free → sc.names.lookup y.1 = some .cell ∨ sc.names.lookup y.1 = some .free
def lamSEB (N : List Str) (sc scope : Scope) (x : Str) : Bool :=
  decide (scope.kind = .function) && (!scope.isCoroutine && (!scope.isGenerator && (decide (scope.names.lookup x = some .local) && scope.names.all fun y => !decide (y.2 = .cell) && ((!decide (y.2 = .local) || !decide (y.1 ∈ N)) && (!decide (y.2 = .free) || (decide (sc.names.lookup y.1 = some .cell) || decide (sc.names.lookup y.1 = some .free)))))))
theorem lamSE_by {N : List Str} {sc scope : Scope} {x : Str} (h : lamSEB N sc scope x = true) : LamSE N sc scope x := by
  unfold lamSEB at h
  simp only [Bool.and_eq_true, Bool.or_eq_true, Bool.not_eq_true', decide_eq_true_eq, decide_eq_false_iff_not, List.all_eq_true] at h
  obtain ⟨h1, h2, h3, h5, h4⟩ := h
  refine ⟨h1, h2, h3, fun y hy => ⟨(h4 y hy).1, fun e => ((h4 y hy).2.1).elim (fun z => absurd e z) id⟩, h5, fun y hy e => ?_⟩
  rcases (h4 y hy).2.2 with z | z | z
  · exact absurd e z
  · exact .inl z
  · exact .inr z
section
variable {X : Cx} {pins : List (Addr × Obj)} {σ : L2.St} {H HZ : Hp} {s s1 : Shared}
theorem LamSE.has {scope : Scope} {x : Str} (L : LamSE X.N X.env.scope scope x) (ok : X.Ok) : ∀ y ∈ scope.names, y.2 = .free → ∃ c, X.env.cells.lookup y.1 = some c := fun y hy e => (L.free y hy e).elim (fun k => ok.has _ (.inl k)) fun k => ok.has _ (.inr k)
theorem lam_startE {A : Around} {outer : List Env} {E : XK} {scope : Scope} {x : Str} {f c' : Addr} {h₁ : Heap} {tk : Nat} {m1 : Str → Option Value} (I : Inv X pins σ H s) (L : LamSE X.N X.env.scope scope x) (e0 : Env0 X.prog X.w X.K X.mg X.base A outer s1 HZ) (hd : A.handled = none)
    (un : Un (frs X.stack) [] H HZ s.heap s1.heap) (hns : h₁.Ns s1.heap.objs.size m1) (kp : ∀ b o, s1.heap.get? b = some o → h₁.get? b = some o) :
    Inv (lamCx X A outer s1 HZ E scope f c') [] σ HZ { s1 with heap := h₁, toks := tk } := by
  have hfree := L.has I.ok
  have cm : ∀ {y c}, (cloFrom X.env.cells scope.names []).lookup y = some c → X.env.cells.lookup y = some c := fun {y c} e => by
    rcases cloFrom_mem (PySem.mem_of_lookup e) with hm | ⟨h1, h2⟩
    · cases hm
    · obtain ⟨c1, hc⟩ := hfree _ h1 rfl
      replace hc : X.env.cells.lookup y = some c1 := hc
      have e2 : c = c1 := by rw [h2, hc] <;> rfl
      exact e2 ▸ hc
  have look : ∀ {y}, scope.names.lookup y = some .free → ∃ c, (cloFrom X.env.cells scope.names []).lookup y = some c := fun {y} hl => by
    have hy : (y, NameKind.free) ∈ scope.names := PySem.mem_of_lookup hl; exact mem_lookup (cloFrom_has (cells := X.env.cells) (acc := []) hy)
  have cellK : ∀ {c : Addr} {v : Option Value}, H c = none → s.heap.IsCell c v → h₁.IsCell c v := fun {c v} n ⟨o, ho, hd⟩ => by
    obtain ⟨sl, q⟩ := un.any ho n (by simp); exact ⟨_, kp _ _ q, hd⟩
  have noA : ∀ b : Addr, b ∉ (lamCx X A outer s1 HZ E scope f c').ex := fun b z => absurd (show b ∈ ([] : List Addr) from z) (by simp)
  refine ⟨⟨e0.mod, L.kind, rfl, rfl, Nat.le_refl _, fun y z c e1 e2 => I.ok.inj y z c (cm e1) (cm e2), fun y hy => ?_, fun y c z _ => ?_, fun _ => hd, Around.frames_deeper e0.frames, .inr ⟨rfl, rfl⟩, fun b z => absurd z (noA b), e0.bs, e0.bsz, fun b _ _ => noA b, fun b z => absurd z (noA b), e0.funs, e0.frf⟩,
    rfl, e0.bare, Un.kept kp, ⟨_, hns, fun i y v e1 e2 e3 => ?_⟩, fun y c e => ?_, e0.hok.fresh (Nat.le_refl _), fun y c e => ?_, fun q hq => absurd (show q ∈ ([] : List (Addr × Obj)) ++ [] from hq) (by simp), e0.hok.kept kp, I.len⟩
  · replace hy : scope.names.lookup y = some .cell ∨ scope.names.lookup y = some .free := hy
    exact hy.elim (fun hy => absurd rfl (L.own _ (PySem.mem_of_lookup hy)).1) look
  · cases (show false = true from z)
  · replace e3 : Vis scope y := e3
    rcases e3 with k | k | k
    · exact absurd (List.mem_of_getElem? (show X.N[i]? = some y from e1)) ((L.own _ (PySem.mem_of_lookup k)).2 rfl)
    · exact absurd rfl (L.own _ (PySem.mem_of_lookup k)).1
    · obtain ⟨m, hn, hl⟩ := I.loc
      obtain ⟨w', r, q⟩ := hl i y v e1 e2 ((L.free _ (PySem.mem_of_lookup k) rfl).elim (fun k => .inr (.inl k)) fun k => .inr (.inr k))
      obtain ⟨c2, h2⟩ := look k
      have c1 := cm h2
      refine ⟨w', r, .inr ⟨.inr k, c2, h2, ?_⟩⟩
      rcases q with ⟨k', _⟩ | ⟨_, c3, e', z⟩
      · replace k' : X.env.scope.names.lookup y = some .local := k'
        rcases L.free _ (PySem.mem_of_lookup k) rfl with k2 | k2 <;> rw [show X.env.scope.names.lookup y = _ from k2] at k' <;> cases k'
      · rw [c1] at e'
        cases e'
        exact cellK (I.freeC y _ c1) z
  · obtain ⟨w', z⟩ := I.cell y c (cm e); exact ⟨w', cellK (I.freeC y c (cm e)) z⟩
  · obtain ⟨v, o, ho, hd⟩ := I.cell y c (cm e); exact un.free c o ho (I.freeC y c (cm e)) (by simp)
end
end Ux

set_option Elab.async false
set_option linter.all false
set_option maxRecDepth 100000
set_option maxHeartbeats 4000000
namespace Ux
open PySem PySem.Spec PyProof.Rows L2 LamX
theorem lamOE_ne {cl : List (Str × Addr)} {q : Str} {d : LamE} {f c' T : Addr} (ps : Array Value) : LamOE cl q d f c' T ≠ .tbl ps := fun z => by
  unfold LamOE at z
  cases z
section
variable {X : Cx} {pins : List (Addr × Obj)} {σ : L2.St} {H : Hp} {s : Shared}
theorem lam_trackE {h' : Heap} {tk : Nat} {d : LamE} {c' T : Addr} {pm ctv : Value} {q : Str} {cl : List (Str × Addr)} {s1 : Shared} (I : Inv X pins σ H s1) (ho : s1.heap = h') :
    Inv X pins σ (upd H h'.objs.size (LamOE cl q d h'.objs.size c' T)) { s1 with heap := h'.push (ldObj q d.params d.body d.scope (cloFrom cl d.scope.names []) pm (.ref c') ctv (.ref T)), toks := tk } := by
  subst ho
  exact I.laid (fun b u e => Heap.get?_push_of_some _ e) (Nat.le_refl _) ⟨⟨pm, ctv, Heap.get?_push_size _ rfl⟩, ⟨_, Heap.get?_push_size _ rfl⟩, fun h1 h2 ⟨p, v, e⟩ st => ⟨p, v, st _ e⟩⟩
def tLamVE (Tb : List (Addr × Str)) (cl : List (Str × Addr)) (q : Str) (d : LamE) : TE := fun σ H Q => Tabs Tb H ∧ ∀ (H1 : Hp) (f c' T : Addr), ExtN H H1 → Tabs Tb H1 → LamAtE cl q H1 d f c' T → Q (.ref f) H1
/-- lambda x = e: body, where e is plain -/
theorem pe_lamVE {Tb : List (Addr × Str)} {c P : Addr} {params : Arguments} {body e : Expr} {scope : Scope} {lpos : Pos} {dv : V} (t : XK → TE) (x : Str) (TB : TabB X.base X.mg c P) (hcode : X.env.code = .ref c)
    (hm : (P, X.env.qual ++ "<lambda>") ∈ Tb) (hu : ∀ p ∈ Tb, p.1 = P → p.2 = X.env.qual ++ "<lambda>") (L : LamSE X.N X.env.scope scope x) (hdef : defaultsOf params X.env = ([eval e X.env], [])) (hk : params.kwonlyargs = []) (he : PE X e (tC dv)) :
    PE X (.Lambda params body scope lpos) (tLamVE Tb X.env.cells (X.env.qual ++ "<lambda>") ⟨params, body, scope, t, x, dv⟩) := by
  refine ⟨fun pins s0 σ H0 Q I0 h => ?_⟩
  obtain ⟨hT0, h⟩ := h
  refine ld_eval hdef hk (wpAny_mono (he.run pins s0 σ H0 (fun v H1 => v = dv ∧ H1 = H0) I0 ⟨rfl, rfl⟩) (fun u sa hq => ?_) fun e' s' hx => hx)
  obtain ⟨v, Ha, Ia, rv, ev, eH⟩ := hq
  subst ev
  rw [eH] at Ia
  have nT : H0 sa.heap.objs.size = none := Ia.hok.fresh (Nat.le_refl _)
  have I := Ia.laid (a := sa.heap.objs.size) (o := .tup [v]) (h' := sa.heap.push { cls := .type "tuple", data := .seq #[u] }) (t' := sa.toks) (fun b w e => Heap.get?_push_of_some _ e) (Nat.le_refl _)
    ⟨(by show 1 ≤ sizeLine; decide), [u], .cons rv .nil, _, Heap.get?_push_size _ rfl, rfl, 0, rfl⟩
  have sT : ∀ b o, H0 b = some o → (upd H0 sa.heap.objs.size (.tup [v])) b = some o := fun b o e => (upd_ne (ne_of_none e nT)).trans e
  have dT : (upd H0 sa.heap.objs.size (.tup [v])) sa.heap.objs.size = some (.tup [v]) := upd_same
  have hT := hT0.ext sT
  generalize hTT : sa.heap.objs.size = TT at *
  generalize hH : upd H0 TT (.tup [v]) = H at *
  obtain ⟨ps, hP, htr, ha⟩ := hT _ hm
  have bP := TB.bm.keeps I.bk; have hP2 := I.hok P _ hP
  have fin : ∀ (f c' : Addr) (H1 : Hp) (s' : Shared), Inv X pins σ H1 s' → ExtN H H1 → Tabs Tb H1 → LamAtE X.env.cells (X.env.qual ++ "<lambda>") H1 ⟨params, body, scope, t, x, v⟩ f c' TT → ∃ (v : V) (H' : Hp), Inv X pins σ H' s' ∧ L2.RelV v (.ref f) ∧ Q v H' :=
    fun f c' H1 s' I1 e1 t1 l1 => ⟨.ref f, H1, I1, rfl, h H1 f c' TT ((ExtN.of sT).trans e1) t1 l1⟩
  cases hcd : codeAmong lpos ps.toList with
  | none =>
    refine ld_miss (mg := X.mg) (c := c) (P := P) (ps := ps) (closure_ok (L.has I.ok)) I.ok.glob (I.mod.glob.keeps I.bk) hcode (TB.code.keeps I.bk) hP2 htr hcd TB.gP bP fun c' ctv h' tk hx hge hlt hrec htb => ?_
    obtain ⟨c2, oc, vs, tok, e2, hoc, hd, hv⟩ := hrec
    cases e2
    have nC : H c' = none := I.hok.fresh hge; have I1 := inv_table (t' := sa.toks) (more := #[rawInt lpos.line, rawInt lpos.col, .ref c']) (h' := h') I hP (fun b o hb e => hx b o hb e) htb hge ⟨oc, vs, tok, hoc, hd, hv⟩
    have I2 := lam_trackE (tk := tk) (d := ⟨params, body, scope, t, x, v⟩) (c' := c') (T := TT) (pm := (X.mg "__name__").getD .none) (ctv := ctv) (q := X.env.qual ++ "<lambda>") (cl := X.env.cells) I1 rfl
    have hE : ExtN H (upd (upd H P (.tbl (ps ++ #[rawInt lpos.line, rawInt lpos.col, .ref c']))) c' (CodeO c' (X.env.qual ++ "<lambda>"))) := fun b o e n => by
      have b1 := ne_of_none e nC
      have b2 : b ≠ P := fun z => n ps (by rw [z, hP] at e; exact (Option.some.inj e).symm)
      rw [upd_ne b1, upd_ne b2, e]
    have eL : (ps ++ #[rawInt lpos.line, rawInt lpos.col, .ref c']).toList = ps.toList ++ [rawInt lpos.line, rawInt lpos.col, .ref c'] := by simp
    generalize hHc : upd (upd H P (.tbl (ps ++ #[rawInt lpos.line, rawInt lpos.col, .ref c']))) c' (CodeO c' (X.env.qual ++ "<lambda>")) = Hc at *
    have nF : Hc h'.objs.size = none := I1.hok.fresh (Nat.le_refl _)
    have cC : Hc c' = some (CodeO c' (X.env.qual ++ "<lambda>")) := by rw [← hHc]; exact upd_same
    have T1 : Tabs Tb Hc := fun p hp => by
      by_cases hb : p.1 = P
      · rw [hu p hp hb, hb]
        refine ⟨ps ++ #[rawInt lpos.line, rawInt lpos.col, .ref c'], by rw [← hHc]; exact (upd_ne (ne_of_none hP nC)).trans upd_same, eL ▸ PySem.TriplesOk_snoc _ _ _ _ htr, fun p' cv hcv => ?_⟩
        rw [eL] at hcv
        exact (among_app _ htr hcv).elim (fun z => let ⟨c0, w1, w2⟩ := ha p' cv z; ⟨c0, w1, hE _ _ w2 codeO_ne⟩) fun z => ⟨c', z, cC⟩
      · obtain ⟨ps', a1, a2, a3⟩ := hT p hp; refine ⟨ps', by rw [← hHc]; exact ((upd_ne (ne_of_none a1 nC)).trans (upd_ne hb)).trans a1, a2, fun p' cv hcv => ?_⟩
        exact let ⟨c0, w1, w2⟩ := a3 p' cv hcv; ⟨c0, w1, hE _ _ w2 codeO_ne⟩
    have sm : ∀ b o, Hc b = some o → (upd Hc h'.objs.size (LamOE X.env.cells (X.env.qual ++ "<lambda>") ⟨params, body, scope, t, x, v⟩ h'.objs.size c' TT)) b = some o := fun b o e => (upd_ne (ne_of_none e nF)).trans e
    exact fin _ c' _ _ I2 (hE.trans (ExtN.of sm)) (T1.ext sm) ⟨upd_same, sm _ _ cC, sm _ _ (hE _ _ dT fun _ z => by cases z)⟩
  | some cv =>
    obtain ⟨c', e, hco⟩ := ha lpos cv hcd
    subst e
    refine ld_hit (mg := X.mg) (c := c) (P := P) (ps := ps) (closure_ok (L.has I.ok)) I.ok.glob (I.mod.glob.keeps I.bk) hcode (TB.code.keeps I.bk) hP2 htr hcd bP fun ctv h' tk hx hsz => ?_
    have I1 : Inv X pins σ H { sa with heap := h', toks := sa.toks } := I.kept hx
    have I2 := lam_trackE (tk := tk) (d := ⟨params, body, scope, t, x, v⟩) (c' := c') (T := TT) (pm := (X.mg "__name__").getD .none) (ctv := ctv) (q := X.env.qual ++ "<lambda>") (cl := X.env.cells) I1 rfl
    have nF : H h'.objs.size = none := I1.hok.fresh (Nat.le_refl _)
    have sm : ∀ b o, H b = some o → (upd H h'.objs.size (LamOE X.env.cells (X.env.qual ++ "<lambda>") ⟨params, body, scope, t, x, v⟩ h'.objs.size c' TT)) b = some o := fun b o e => (upd_ne (ne_of_none e nF)).trans e
    exact fin _ c' _ _ I2 (ExtN.of sm) (hT.ext sm) ⟨upd_same, sm _ _ hco, sm _ _ dT⟩
/-- what is asked of such a lambda that is called -/
structure LamOkE (X : Cx) (k : Nat) (d : LamE) : Prop where
  L : LamSE X.N X.env.scope d.scope d.x
  bind : ∀ (q : Str) (cl : List (Str × Addr)) (pm cv ctv : Value) (T : Addr) (v : Value), ∃ kk, bindArgs (ldFn q d.params d.body d.scope cl pm cv ctv (.ref T)) ⟨[], []⟩ = seqItems? (.ref T) >>= kk ∧ kk (some #[v]) = pure [(d.x, v)]
  body : ∀ (A : Around) (outer : List Env) (s : Shared) (H : Hp) (E : XK) (f c' : Addr), Room k (A.deeper (lamEnv X d.scope s.heap.objs.size f c')) → PE (lamCx X A outer s H E d.scope f c') d.body (d.t E)
theorem pe_actE {CXg : CXT} {Eg : XK} {Ng : List Str} {qg : Str} {sg : Scope} {g f c' T : Addr} {cdg : Value} {k i : Nat} {a : Str} {pn : List (Addr × Obj)} {xe : Value → Shared → Prop} {W : WX} {E : XK} {d : LamE} {p1 p2 : Pos}
    (I : Inv X pins σ H s) (D : LamOkE X k d) (tk : Takes ((cxOf CXg X.prog X.w X.K X.mg X.base Ng qg sg g cdg X.A X.stack s H Eg).tr pn xe) W) (hW : ∀ cls dd σ' H', E cls dd H' → W cls dd σ' H')
    (hr : Room (k + 1) (X.A.deeper (envOfC qg sg s.heap.objs.size g cdg))) (hN : Ng[i]? = some a) (hv : Vis sg a) (hd : (a == ("__debug__" : Str)) = false := by decide) (hcd : (a == ("__classdict__" : Str)) = false := by decide) :
    PE ((cxOf CXg X.prog X.w X.K X.mg X.base Ng qg sg g cdg X.A X.stack s H Eg).tr pn xe) (.Call (.Name a p1) [] [] p2)
      (fun σZ HZ Q => σZ[i]? = some (some (.ref f)) ∧ HZ c' = some (CodeO c' (X.env.qual ++ "<lambda>")) ∧ LamAtE X.env.cells (X.env.qual ++ "<lambda>") HZ d f c' T ∧ d.t E σ HZ Q) := by
  refine ⟨fun pinsZ sZ σZ HZ Q IZ h => ?_⟩
  obtain ⟨hs, hc, la, ht⟩ := h
  refine wpAny_Call_Name_kw (thn ((pe_var (pos := p1) (i := i) hN hv hd hcd).run pinsZ sZ σZ HZ (fun v H1 => v = .ref f ∧ H1 = HZ) IZ ⟨.ref f, hs, rfl, rfl⟩) fun u s1 ⟨v, H1, I1, r1, q1⟩ => ?_)
  obtain ⟨rfl, eH⟩ := q1
  rw [eH] at I1
  obtain rfl : u = Value.ref f := r1
  obtain ⟨⟨pm, ctv, of1⟩, _, _⟩ := I1.hok f _ la.fn
  obtain ⟨_, its, rT, ot, hot, _, nn, hdt⟩ := I1.hok T _ la.df
  obtain ⟨dvu, rfl, rd⟩ := vals1 rT
  refine PySem.W.callWith_F0 ⟨_, _, _, _, of1⟩ ?_
  have un : Un (frs X.stack) [] H HZ s.heap s1.heap := I1.base
  obtain ⟨⟨oc, vs, tok, hoc, hdc, hvc⟩, _, _⟩ := I1.hok c' _ hc
  have rc : codeAny (model X.prog X.w) (X.A.deeper (envOfC qg sg s.heap.objs.size g cdg)) (.call (.ref f) ⟨[], []⟩) (CR (L2.CX X.prog X.w) (envOfC qg sg s.heap.objs.size g cdg :: X.stack) X.prog X.w HZ s1 Q E) s1 := by
    refine PySem.W.kla_callFunE hr.depth of1 rfl D.L.co D.L.gen rfl ⟨c', oc, vs, tok, rfl, hoc, hdc, hvc⟩ ?_
    obtain ⟨kk, e1, e2⟩ := D.bind (X.env.qual ++ "<lambda>") (cloFrom X.env.cells d.scope.names []) pm (.ref c') ctv T dvu
    rw [e1]
    refine wpAny_bind (wpAny_seqItems hot hdt ?_)
    show wpAny _ _ (kk (some #[dvu])) _ _ _
    rw [e2]
    refine wpAny_pure (wpAny_newFunctionEnv (fun y hy => (D.L.own y hy).1) (fun y hy => by cases List.mem_singleton.mp hy; exact D.L.par) (fun h₁ hns hsb => ⟨I1.nolimit.fresh _ hsb, ?_⟩) D.L.kind)
    show codeAny _ _ (.expr d.body (lamEnv X d.scope s1.heap.objs.size f c')) _ _
    have kp2 : ∀ b o, s1.heap.get? b = some o → h₁.get? b = some o := fun b o e => hsb.extBut b o (Nat.ne_of_lt (Heap.lt_size e)) (Heap.get?_push_of_some _ e)
    have J := lam_startE (E := E) (f := f) (c' := c') (tk := s1.toks + [(d.x, dvu)].length) I D.L I1.env0 hr.hd un hns kp2
    refine PySem.W.kla_codeExpr (wpAny_mono ((D.body _ _ s1 HZ E f c' (hr.deeper _)).run [] _ _ HZ Q J ht) (fun v s' ⟨w', H', J', rv, q⟩ => ⟨w', H', J'.os, J'.bare, J'.base, J'.hok, rv, q⟩) fun e s' hq => hq)
  have hx : Passes (L2.CX X.prog X.w) ((cxOf CXg X.prog X.w X.K X.mg X.base Ng qg sg g cdg X.A X.stack s H Eg).tr pn xe) E := passes_call tk hW
  refine wpAny_call (codeAny_mono rc fun r s' hq => ?_)
  rcases r with e | (_ | _ | _ | u)
  · exact hx pinsZ σZ HZ s1 e s' I1 hq
  · exact False.elim hq
  · exact False.elim hq
  · exact False.elim hq
  · exact I1.after hq
end
end Ux

set_option Elab.async false
set_option linter.all false
set_option maxRecDepth 100000
set_option maxHeartbeats 4000000
namespace Ux
open PySem PySem.Spec PyProof.Rows L2 LamX
/-- x(y), where y is one of some lambdas, with a default or without -/
def tLamCallM (cl : List (Str × Addr)) (q : Str) (TT : (XK → Hp → VK → Prop) → Hp → VK → Prop) (ds : List LamD) (es : List LamE) (te : TE) : TE := fun σ H Q => te σ H fun v H1 =>
  (∃ (f c' : Addr) (d : LamD), d ∈ ds ∧ v = .ref f ∧ LamAt cl q H1 d f c' ∧ TT (fun E H' Q' => H' f = some (LamO cl q d f c') ∧ d.t E σ H' Q') H1 Q) ∨
  ∃ (f c' T : Addr) (d : LamE), d ∈ es ∧ v = .ref f ∧ LamAtE cl q H1 d f c' T ∧ TT (fun E H' Q' => LamAtE cl q H' d f c' T ∧ d.t E σ H' Q') H1 Q
theorem pe_lamvalM {X : Cx} {ds : List LamD} {es : List LamE} {te : TE} {TT : (XK → Hp → VK → Prop) → Hp → VK → Prop} {x a y : Str} {g : Addr} {k : Nat} {pg : Arguments} {bg : List Stmt} {sg : Scope} {dV kV doc pm cdv ct oc : Value} {an od : Option Addr} {osl : Array (Option Value)} {Ng : List Str} {p py pos : Pos}
    (hg : Gl X x) (hm : X.mg x = some (.ref g)) (hk : PySem.W.keepIn X.K (.ref g) = true) (lk : X.K.lookup g = some ⟨oc, od, .func (PySem.W.fnOf x x pg bg sg dV kV doc pm an cdv ct), osl⟩) (hcg : PySem.W.codeIn X.K cdv x = true)
    (hb : L2.Binds X.K (PySem.W.fnOf x x pg bg sg dV kV doc pm an cdv ct) [a] []) (Sg : FnScope Ng [a] sg) (hNg : Ng[0]? = some a) (hva : Vis sg a) (hG : GivesTo X Ng x sg g cdv bg a (X.env.qual ++ "<lambda>") TT) (hr : Room (k + 2) X.A)
    (hds : ∀ d ∈ ds, LamOk X k d) (hes : ∀ d ∈ es, LamOkE X k d) (he : PE X (.Name y py) te) (hdb : (x == ("__debug__" : Str)) = false := by decide) (hd : (a == ("__debug__" : Str)) = false := by decide) (hcd : (a == ("__classdict__" : Str)) = false := by decide) :
    PE X (.Call (.Name x p) [.Name y py] [] pos) (tLamCallM X.env.cells (X.env.qual ++ "<lambda>") TT ds es te) := by
  refine ⟨fun pins s σ H Q I h => wpAny_Call_Name_kw (ld_glob I hg hm ?_ hdb)⟩
  refine PySem.W.callWith_K (h₀ := X.base) I.ok.mod.kin hk (show wpAny _ _ (spliced ((false, eval (.Name y py) X.env) :: backTo pos (starEach [] X.env))) _ _ s from ?_) (by rfl) (by rfl)
  refine Calls.spliced_cons (thn (he.run pins s σ H _ I h) fun u s' ⟨v, H1, I1, rv, hq⟩ => ?_)
  rcases hq with ⟨f, c', d, hmem, rfl, la, htt⟩ | ⟨f, c', T, d, hmem, rfl, la, htt⟩
  · obtain rfl : u = Value.ref f := rv
    refine Calls.spliced_nil ⟨I1.kIn, wpAny_call (codeAny_mono (run_ofS (CX := C8.CX0) (E := C8.E0) (Q := Q) (N := Ng) (ps := [a]) (us := [.ref f]) (vs := [.ref f]) lk hcg Sg hr I1.env0 (hb s' [.ref f] I1.kIn rfl) (.cons rfl .nil) rfl fun hr2 => ?_) fun r s2 hq => ?_)⟩
    · obtain ⟨t', ht', hq'⟩ := hG f c' s' H1 Q (fun E H' Q' => H' f = some (LamO X.env.cells (X.env.qual ++ "<lambda>") d f c') ∧ d.t E σ H' Q') (fun W pn xe E p1 p2 tk hW => pe_actV (i := 0) I1 (hds d hmem) tk hW hr2 hNg hva hd hcd) la.co htt
      exact ⟨t', ht'.nox, hq'⟩
    · rcases r with e | (_ | _ | _ | u)
      · exact (show False from hq).elim
      · exact False.elim hq
      · exact False.elim hq
      · exact False.elim hq
      · exact I1.after hq
  · obtain rfl : u = Value.ref f := rv
    refine Calls.spliced_nil ⟨I1.kIn, wpAny_call (codeAny_mono (run_ofS (CX := C8.CX0) (E := C8.E0) (Q := Q) (N := Ng) (ps := [a]) (us := [.ref f]) (vs := [.ref f]) lk hcg Sg hr I1.env0 (hb s' [.ref f] I1.kIn rfl) (.cons rfl .nil) rfl fun hr2 => ?_) fun r s2 hq => ?_)⟩
    · obtain ⟨t', ht', hq'⟩ := hG f c' s' H1 Q (fun E H' Q' => LamAtE X.env.cells (X.env.qual ++ "<lambda>") H' d f c' T ∧ d.t E σ H' Q') (fun W pn xe E p1 p2 tk hW => pe_actE (i := 0) (T := T) I1 (hes d hmem) tk hW hr2 hNg hva hd hcd) la.co htt
      exact ⟨t', ht'.nox, hq'⟩
    · rcases r with e | (_ | _ | _ | u)
      · exact (show False from hq).elim
      · exact False.elim hq
      · exact False.elim hq
      · exact False.elim hq
      · exact I1.after hq
end Ux

set_option Elab.async false
set_option linter.all false
set_option maxRecDepth 100000
set_option maxHeartbeats 4000000
namespace Ux
open PySem PySem.W
/-! ### i == x, x of a class with its own __eq__ -/
section
variable {prog : Program} {w : World} {M : Model} {A : Around} {E : Value → Shared → Prop} {s : Shared} {K : Frag} {x C f : Addr} {ox : Obj} {od : Option Obj}
theorem cmp_left {i : Int} {t : Tok} {Q : Value → Shared → Prop} (hu : A.units < cLine) (X : K.In s.heap) (I : InstAt s.heap x ox C od) (np : ∀ j u, ox.data ≠ .prim (.int j u)) (hs : findIn K (.ref C) "__eq__" = some (some (.ref f))) (hf : isFn K (.ref f) = true) (hsub : subIn K (.ref C) (.type "int") = some false)
    (ha : argsOk "int.__eq__" ⟨[.int i t, .ref x], []⟩) (h : wpAny (model prog w) A (call (.ref f) [.ref x, .int i t]) (CmpBack Q) E s) : wpAny (model prog w) A (richCompare .Eq (.int i t) (.ref x)) Q E s := by
  have two : wpAny (model prog w) A (tryCompare (.ref x) "__eq__" (.int i t)) (fun r s' => ∃ v, r = some v ∧ Q v s') E s := by
    unfold tryCompare
    refine wpAny_bind (ifBound_K X I hs hf (wpAny_mono h (fun v s' hv => ?_) fun _ _ e => e))
    cases v <;> first | exact hv.elim | exact wpAny_pure ⟨_, rfl, hv⟩
  have o1 : oneThing? .Eq (.int i t) (.ref x) = none := rfl
  have hne : (Value.type "int" != Value.ref C) = true := by rw [bne_iff_ne]; exact fun q => by cases q
  unfold richCompare
  simp only [o1]
  refine wpAny_holding (wpAny_bind (wpAny_cRoomFor hu (wpAny_bind (wpAny_typeOf (typeIs_int s i t) (wpAny_bind (I.type.here ?_))))))
  simp only [hne, if_true]
  refine wpAny_bind ((looks_subIn X hsub).here ?_)
  simp only [Bool.false_eq_true, if_false, Bool.not_false, if_true]
  refine wpAny_bind (wpAny_tryCompare_declines (typeIs_int s i t) PySem.F.slot_int_eq (wpAny_call_entry PySem.F.slot_int_eq (typeIs_int s i t) PySem.F.entry_int_eq (intBin_ref I.1 np ⟨_, rfl, rfl, ?_⟩) ha))
  refine wpAny_bind (wpAny_mono two (fun r s' z => ?_) fun _ _ e => e)
  obtain ⟨v, rfl, hq⟩ := z
  exact wpAny_pure hq
end
end Ux
namespace Ux
open PySem PySem.Spec PyProof.Rows L2
section
variable {X : Cx} {k : Nat} {f C : Addr} {fd : FuncData} {sp : Sp}
def rEqL (C : Addr) (sp : Sp) : R2 := fun x y H Q => ∃ (a dx : Addr) (fs : List (Str × V)) (i : Int), x = .int i ∧ y = .ref a ∧ H a = some (.ins C dx fs) ∧ sp [.ref a, .int i] H (fun v H' => ∃ b, v = .bl b ∧ Q (.bl b) H') (fun _ _ _ => False)
theorem op_eqL (M : OwnM X.K C "__eq__" f) (hsub : PySem.W.subIn X.K (.ref C) (.type "int") = some false) (ha : ∀ a b, argsOk "int.__eq__" ⟨[a, b], []⟩) (F : FnOk X.prog X.w X.K X.mg X.base CX0 k f fd ["self", "other"] sp) (hb : Binds X.K fd ["self", "other"] []) (hr : Room k X.A) : OpR X (compareOp .Eq) (rEqL C sp) := by
  intro pins s σ H x y v u Q I rx ry h
  obtain ⟨a, dx, fs, i, rfl, rfl, ea, q⟩ := h
  cases (show u = Value.ref a from ry)
  obtain ⟨mA, O, _⟩ := ins_get I.hok ea
  obtain ⟨od, J, _⟩ := O.look
  obtain ⟨t, rfl⟩ := rx
  show wpAny (model X.prog X.w) X.A (richCompare .Eq (.int i t) (.ref a)) (EP X pins σ Q) X.xe s
  refine cmp_left hr.units0 I.kIn J (fun j u e => by cases e) M.at_ M.fn hsub (ha _ _) (own_run F hr I.env0 hb (vs := [.ref a, .int i]) I (.cons rfl (.cons ⟨t, rfl⟩ .nil)) q fun w s' hq => ?_)
  obtain ⟨v, H', I', rv, b, ev, q'⟩ := hq
  subst ev
  cases (show w = Value.bool b from rv)
  exact ⟨.bl b, H', I', rfl, q'⟩
end
end Ux

set_option Elab.async false
set_option linter.all false
set_option maxRecDepth 100000
set_option maxHeartbeats 1000000
set_option pp.maxSteps 500
namespace K02
open PySem PySem.Spec PyProof.Rows L2 Ux
abbrev sPairText : Stmt := top 33
abbrev sLaw : Stmt := top 34
abbrev nLaw : List Str := ["_law_script", "_law_bag_here", "_law_turn", "_law_top", "_law_low_here", "_law_scale", "_law_sign", "_law_pair_here", "_law_found", "_law_other", "_law_is_other", "_law_odd", "_law_asks", "_law_ask"]
theorem scLaw : FnScope nLaw ["_law_script"] (defScope sLaw) := ⟨rfl, rfl, rfl, by decide +kernel, rfl, by decide +kernel, by decide +kernel⟩
def qn : Str := (envOfC "law" (defScope sLaw) 0 0 .none).qual ++ "<lambda>"
def spPairText : Sp := fun vs H Q _ => ∃ (q : Addr) (t b : Int), vs = [.ref q] ∧ TupI H q t b ∧ W10 t ∧ W10 b ∧ Q (.str (ctext t b)) H
section
variable {P : Program} {w : World} {K : PySem.W.Frag} {mg : Str → Option Value} {base : Heap} {CR CI fI : Addr}
theorem scPairText : FnScope ["_law_pair_here"] ["_law_pair_here"] (defScope sPairText) := ⟨rfl, rfl, rfl, by decide +kernel, rfl, by decide +kernel, by decide +kernel⟩
theorem ok_pairText {f : Addr} {fd : FuncData} (F : Fun K "_law_pair_text" "_law_pair_text" sPairText f fd) (B : Bn mg) : FnOk P w K mg base CX0 1 f fd ["_law_pair_here"] spPairText := by
  refine F.ok scPairText (fun vs H Q E h => ?_) (fun cdv A outer s H vs Q E hr h => ?_)
  · obtain ⟨q, t, b, rfl, _⟩ := h
    rfl
  · obtain ⟨q0, t, b, rfl, pa, wt, wb, q⟩ := h
    refine ⟨_, pss_one (ps_ret (pe_ifExp (pt_cmpR op_eq (pe_ix ix_tup (pv 0) pe_int (fun _ _ => rfl)) pe_int (nomark _)) (pe_callTy call_str_int (by rfl) B.tstr (by decide +kernel) (pa_cons (pe_ix ix_tup (pv 0) pe_int (fun _ _ => rfl)) pa_nil))
      (pe_op op_add_str (pe_op op_add_str (pe_callTy call_str_int (by rfl) B.tstr (by decide +kernel) (pa_cons (pe_ix ix_tup (pv 0) pe_int (fun _ _ => rfl)) pa_nil)) pe_str) (pe_callTy call_str_int (by rfl) B.tstr (by decide +kernel) (pa_cons (pe_ix ix_tup (pv 0) pe_int (fun _ _ => rfl)) pa_nil))))), ?_⟩
    refine ⟨_, rfl, q0, _, 1, _, rfl, rfl, .of pa, rfl, rfl, _, rfl, ?_⟩
    unfold ctext at q
    by_cases e : b = 1
    · rw [if_pos e] at q
      rw [decide_eq_true (show V.int b = V.int 1 by rw [e])]
      exact iteT ⟨_, rfl, q0, _, 0, _, rfl, rfl, .of pa, rfl, _, rfl, log2_w wt, q⟩
    · rw [if_neg e] at q
      rw [decide_eq_false (fun z => e (V.int.inj z) : ¬ V.int b = V.int 1)]
      refine iteF ⟨_, rfl, q0, _, 0, _, rfl, rfl, .of pa, rfl, _, rfl, log2_w wt, _, _, rfl, rfl, ?_, _, rfl, q0, _, 1, _, rfl, rfl, .of pa, rfl, _, rfl, log2_w wb, _, _, rfl, rfl, ?_, q⟩
      · have := text_len wt
        exact fit2 (m := 20) (by show _ + 1 ≤ 20; omega) (by decide)
      · have h1 := text_len wt
        have h2 := text_len (n := b) wb
        have h3 : ((toString t : Str) ++ ("/" : Str)).length = (toString t : Str).length + 1 := PySem.Str.length_append _ _
        rw [h3]
        exact fit2 (m := 40) (by omega) (by decide)
end
/-- the odd values -/
def OddN (H : Hp) (v : V) : Prop := v = .non ∨ v = .str "1" ∨ v = .bl true ∨ v = .str "" ∨ (∃ l, v = .ref l ∧ H l = some (.lst [.int 1])) ∨ ∃ t, v = .ref t ∧ H t = some (.tup [.int 1, .int 2])
theorem OddN.kept {H H' : Hp} {v : V} (h : OddN H v) (s : ∀ b o, H b = some o → (∀ ps, o ≠ .tbl ps) → H' b = some o) : OddN H' v := by
  rcases h with h | h | h | h | ⟨l, e, h⟩ | ⟨l, e, h⟩
  · exact .inl h
  · exact .inr (.inl h)
  · exact .inr (.inr (.inl h))
  · exact .inr (.inr (.inr (.inl h)))
  · exact .inr (.inr (.inr (.inr (.inl ⟨l, e, s _ _ h (fun ps z => by cases z)⟩))))
  · exact .inr (.inr (.inr (.inr (.inr ⟨l, e, s _ _ h (fun ps z => by cases z)⟩))))
theorem OddN.same {H H' : Hp} {v : V} (h : OddN H v) (s : Same H H') : OddN H' v := h.kept fun b o e _ => s b o e
theorem OddN.notInt {K : PySem.W.Frag} {H : Hp} {v : V} (h : OddN H v) : NotInt K H v := by
  rcases h with rfl | rfl | rfl | rfl | ⟨l, rfl, h⟩ | ⟨l, rfl, h⟩
  · exact ⟨_, false, false, .base .non, kit_ty (by decide +kernel), kit_ty (by decide +kernel), rfl⟩
  · exact ⟨_, false, false, .base (.str _), kit_ty (by decide +kernel), kit_ty (by decide +kernel), rfl⟩
  · exact ⟨_, true, true, .base (.bl _), kit_ty (by decide +kernel), kit_ty (by decide +kernel), rfl⟩
  · exact ⟨_, false, false, .base (.str _), kit_ty (by decide +kernel), kit_ty (by decide +kernel), rfl⟩
  · exact ⟨_, false, false, .base (.lst h), kit_ty (by decide +kernel), kit_ty (by decide +kernel), rfl⟩
  · exact ⟨_, false, false, .base (.tup h), kit_ty (by decide +kernel), kit_ty (by decide +kernel), rfl⟩
theorem OddN.adm {K : PySem.W.Frag} {H : Hp} {v : V} (h : OddN H v) : Adm K H v := by
  rcases h with rfl | rfl | rfl | rfl | ⟨l, rfl, h⟩ | ⟨l, rfl, h⟩
  · exact .non
  · exact .str (by decide +kernel)
  · exact .yes
  · exact .str (by decide +kernel)
  · exact .lst h
  · exact .tup h
/-! ### the three lambdas -/
def tl0 (K : PySem.W.Frag) (CR CI : Addr) (E : XK) : TE := tMake CR (spRInit2 K CR CI) [] E (tCons (tVar 11) (tCons (tC (.int 0)) tNil))
def tl1 (K : PySem.W.Frag) (CR CI : Addr) (E : XK) : TE := tMake CR (spRInit2 K CR CI) [] E (tCons (tVar 3) (tCons (tVar 11) tNil))
def tl2 (K : PySem.W.Frag) (CR CI : Addr) (E : XK) : TE := tMakeK CR 0 (["bottom", "top"] : List Str).length (spRInit2 K CR CI) (fun vs zs => vs ++ (zs.drop 1 ++ zs.take 1)) E tNil (tCons (tC (.int 0)) (tCons (tVar 3) tNil))
structure CxN (σ : L2.St) (H : Hp) (t : Int) (v : V) : Prop where
  c1 : σ[3]? = some (some (.int t))
  c2 : σ[11]? = some (some v)
  od : OddN H v
section
variable {K : PySem.W.Frag} {CR CI : Addr} {σ : L2.St} {H : Hp} {Q : VK} {E : XK} {t : Int} {v : V}
theorem lr0 (c : CxN σ H t v) (k : RaisesN CI v H E) : tl0 K CR CI E σ H Q := by
  refine ⟨v, c.c2, fun x dx nx nd ne => ?_⟩
  have sn : Same H (upd (upd H dx (.own x)) x (.ins CR dx [])) := made_same nx nd But.refl
  exact ⟨x, dx, upd_same, .inr (.inl ⟨v, .int 0, rfl, (c.od.same sn).notInt, (c.od.same sn).adm, fun d H' s2 hd => k d H' (sn.trans s2) hd⟩)⟩
theorem lr1 (c : CxN σ H t v) (k : RaisesN CI v H E) : tl1 K CR CI E σ H Q := by
  refine ⟨_, c.c1, v, c.c2, fun x dx nx nd ne => ?_⟩
  have sn : Same H (upd (upd H dx (.own x)) x (.ins CR dx [])) := made_same nx nd But.refl
  exact ⟨x, dx, upd_same, .inr (.inr (.inl ⟨t, v, rfl, (c.od.same sn).notInt, (c.od.same sn).adm, fun d H' s2 hd => k d H' (sn.trans s2) hd⟩))⟩
theorem lr2 (c : CxN σ H t v) (k : RaisesN CI (.int 0) H E) : tl2 K CR CI E σ H Q := by
  refine ⟨_, c.c1, rfl, rfl, fun x dx nx nd ne => ?_⟩
  have sn : Same H (upd (upd H dx (.own x)) x (.ins CR dx [])) := made_same nx nd But.refl
  exact ⟨x, dx, upd_same, .inr (.inr (.inr ⟨t, rfl, .int (by decide), fun d H' s2 hd => k d H' (sn.trans s2) hd⟩))⟩
end
end K02

set_option Elab.async false
set_option linter.all false
set_option maxRecDepth 100000
set_option maxHeartbeats 1000000
set_option pp.maxSteps 500
namespace K02
open PySem PySem.Spec PyProof.Rows L2 Ux
def loopB : List Stmt := match List.getD (defBody sLaw) 1 (Stmt.Pass ⟨0, 0, 0, 0⟩) with
  | Stmt.For _ _ b _ _ => b
  | _ => []
def elts : List Expr := match List.getD loopB 12 (Stmt.Pass ⟨0, 0, 0, 0⟩) with
  | Stmt.Assign _ (.List es _) _ => es
  | _ => []
def lamE (i : Nat) : Expr := List.getD elts i (Expr.Constant .none 0 ⟨0, 0, 0, 0⟩)
def lamPa (i : Nat) : Arguments := match lamE i with
  | .Lambda p _ _ _ => p
  | _ => defArgs sLaw
def lamBo (i : Nat) : Expr := match lamE i with
  | .Lambda _ b _ _ => b
  | e => e
def lamSc (i : Nat) : Scope := match lamE i with
  | .Lambda _ _ s _ => s
  | _ => defScope sLaw
def d0 (K : PySem.W.Frag) (CR CI : Addr) : LamD := ⟨lamPa 0, lamBo 0, lamSc 0, tl0 K CR CI⟩
def d1 (K : PySem.W.Frag) (CR CI : Addr) : LamE := ⟨lamPa 1, lamBo 1, lamSc 1, tl1 K CR CI, "_law_a", .int 0⟩
def d2 (K : PySem.W.Frag) (CR CI : Addr) : LamE := ⟨lamPa 2, lamBo 2, lamSc 2, tl2 K CR CI, "_law_b", .int 0⟩
theorem sc1 : lamSEB nLaw (defScope sLaw) (lamSc 1) "_law_a" = true := by decide +kernel
theorem sc2 : lamSEB nLaw (defScope sLaw) (lamSc 2) "_law_b" = true := by decide +kernel
theorem pa_asks {X : Cx} {K : PySem.W.Frag} {CR CI c PT f hs : Addr} (TB : LamX.TabB X.base X.mg c PT) (hN : X.N = nLaw) (he : X.env = envOfC "law" (defScope sLaw) hs f (.ref c)) :
    PA X elts (tCons (tLamV [(PT, qn)] X.env.cells (X.env.qual ++ "<lambda>") (d0 K CR CI)) (tCons (tLamVE [(PT, qn)] X.env.cells (X.env.qual ++ "<lambda>") (d1 K CR CI)) (tCons (tLamVE [(PT, qn)] X.env.cells (X.env.qual ++ "<lambda>") (d2 K CR CI)) tNil))) := by
  have hcode : X.env.code = .ref c := by rw [he]; rfl
  have hm : (PT, X.env.qual ++ "<lambda>") ∈ [(PT, qn)] := by rw [he]; exact List.mem_singleton.mpr rfl
  have hu : ∀ p ∈ [(PT, qn)], p.1 = PT → p.2 = X.env.qual ++ "<lambda>" := fun p hp _ => by
    rw [he]
    exact congrArg Prod.snd (List.mem_singleton.mp hp)
  refine pa_cons (pe_lamV (tl0 K CR CI) TB hcode hm hu (LamX.lamS_by (by rw [he]; rfl)) rfl) ?_
  refine pa_cons (pe_lamVE (tl1 K CR CI) "_law_a" TB hcode hm hu (lamSE_by (by rw [he, hN]; exact sc1)) rfl rfl pe_int) ?_
  refine pa_cons (pe_lamVE (tl2 K CR CI) "_law_b" TB hcode hm hu (lamSE_by (by rw [he, hN]; exact sc2)) rfl rfl pe_int) ?_
  exact pa_nil
/-- the list of the three -/
structure Asks (K : PySem.W.Frag) (CR CI : Addr) (cl : List (Str × Addr)) (H : Hp) (f0 f1 f2 : Addr) : Prop where
  a0 : ∃ c', LamAt cl qn H (d0 K CR CI) f0 c'
  a1 : ∃ c' T, LamAtE cl qn H (d1 K CR CI) f1 c' T
  a2 : ∃ c' T, LamAtE cl qn H (d2 K CR CI) f2 c' T
theorem Asks.kp {K : PySem.W.Frag} {CR CI : Addr} {cl : List (Str × Addr)} {H H' : Hp} {f0 f1 f2 : Addr} (a : Asks K CR CI cl H f0 f1 f2) (k : Kp H H') : Asks K CR CI cl H' f0 f1 f2 :=
  ⟨let ⟨c, h⟩ := a.a0; ⟨c, h.kp k⟩, let ⟨c, T, h⟩ := a.a1; ⟨c, T, h.kp k⟩, let ⟨c, T, h⟩ := a.a2; ⟨c, T, h.kp k⟩⟩
structure ABox (K : PySem.W.Frag) (PT : Addr) (cl : List (Str × Addr)) (CR CI : Addr) (σ : L2.St) (H : Hp) (Q : List V → Hp → Prop) : Prop where
  out : tCons (tLamV [(PT, qn)] cl qn (d0 K CR CI)) (tCons (tLamVE [(PT, qn)] cl qn (d1 K CR CI)) (tCons (tLamVE [(PT, qn)] cl qn (d2 K CR CI)) tNil)) σ H Q
theorem abox_of {K : PySem.W.Frag} {PT : Addr} {cl : List (Str × Addr)} {CR CI : Addr} {σ : L2.St} {H : Hp} {Q : List V → Hp → Prop} (hT : LamX.Tabs [(PT, qn)] H)
    (h : ∀ (H1 : Hp) (f0 f1 f2 : Addr), LamX.ExtN H H1 → LamX.Tabs [(PT, qn)] H1 → Asks K CR CI cl H1 f0 f1 f2 → Q [.ref f0, .ref f1, .ref f2] H1) : ABox K PT cl CR CI σ H Q :=
  ⟨⟨hT, fun H1 f0 c0 e1 T1 l0 => ⟨T1, fun H2 f1 c1 U1 e2 T2 l1 => ⟨T2, fun H3 f2 c2 U2 e3 T3 l2 => h H3 f0 f1 f2 (e1.trans (e2.trans e3)) T3 ⟨⟨c0, l0.kp ((Kp.ofN e2).trans (Kp.ofN e3))⟩, ⟨c1, U1, l1.kp (Kp.ofN e3)⟩, ⟨c2, U2, l2⟩⟩⟩⟩⟩⟩
theorem pa_abox {X : Cx} {K : PySem.W.Frag} {CR CI c PT f hs : Addr} (TB : LamX.TabB X.base X.mg c PT) (hN : X.N = nLaw) (he : X.env = envOfC "law" (defScope sLaw) hs f (.ref c)) : PA X elts (ABox K PT X.env.cells CR CI) := by
  have eq : X.env.qual ++ "<lambda>" = qn := by rw [he]; rfl
  have z := pa_asks (K := K) (CR := CR) (CI := CI) TB hN he
  rw [eq] at z
  exact ⟨fun pos pins s σ H Q I h => z.run pos pins s σ H Q I h.out⟩
theorem r_kBT {K : PySem.W.Frag} {f : Addr} {fd : FuncData} (F : FunD K "__init__" "Ratio.__init__" (defArgs sRInit) (defBody sRInit) (defScope sRInit) [.int 1] [] f fd) : ∃ its : List Value, KBn K fd ["self", "top", "bottom"] 1 ["bottom", "top"] (fun us ws => (fun {α : Type} (a b c : List α) => a ++ (c.drop 1 ++ c.take 1)) us its ws) (fun vs zs => vs ++ (zs.drop 1 ++ zs.take 1)) :=
  F.kbindsD 1 ["bottom", "top"] (fun {α : Type} (a b c : List α) => a ++ (c.drop 1 ++ c.take 1)) (by simp) (fun a b c => a.append ((c.drop 1).append (c.take 1))) fun T kV doc pm an cdv ct us its ws h1 h2 h3 => match us, its, ws, h1, h2, h3 with | [_], [_], [_, _], _, _, _ => ⟨_, rfl, rfl⟩
structure LamH (X : Cx) (CR CI fr : Addr) (fdr : FuncData) : Prop where
  N : X.N = nLaw
  sc : X.env.scope = defScope sLaw
  gR : X.mg "Ratio" = some (.ref CR)
  M : Mk X.K CR fr
  G : FnOk X.prog X.w X.K X.mg X.base (L2.CX X.prog X.w) 4 fr fdr ["self", "top", "bottom"] (spRInit2 X.K CR CI)
  b3 : Binds X.K fdr ["self", "top", "bottom"] []
section
variable {X : Cx} {CR CI fr : Addr} {fdr : FuncData}
theorem lo0 (h : LamH X CR CI fr fdr) : LamOk X 5 (d0 X.K CR CI) := by
  obtain ⟨hN, hsc, gR, M, G, b3⟩ := h
  refine ⟨LamX.lamS_by (by rw [hsc]; rfl), fun _ _ _ _ _ => rfl, fun A outer s H E f c hr => ?_⟩
  show PE (LamX.lamCx X A outer s H E (lamSc 0) f c) (lamBo 0) (tMake CR (spRInit2 X.K CR CI) [] E (tCons (tVar 11) (tCons (tC (.int 0)) tNil)))
  exact pe_make (E := E) M G hr (by rfl) gR b3 .nil (passes_call (takes_of rfl rfl rfl rfl) fun _ _ _ _ z => z) (pa_cons (pv 11 (by show X.N[11]? = _; rw [hN]; rfl)) (pa_cons pe_int pa_nil))
theorem lo1 (h : LamH X CR CI fr fdr) : LamOkE X 5 (d1 X.K CR CI) := by
  obtain ⟨hN, hsc, gR, M, G, b3⟩ := h
  refine ⟨lamSE_by (by rw [hsc, hN]; exact sc1), fun _ _ _ _ _ _ _ => ⟨_, rfl, rfl⟩, fun A outer s H E f c hr => ?_⟩
  show PE (LamX.lamCx X A outer s H E (lamSc 1) f c) (lamBo 1) (tMake CR (spRInit2 X.K CR CI) [] E (tCons (tVar 3) (tCons (tVar 11) tNil)))
  exact pe_make (E := E) M G hr (by rfl) gR b3 .nil (passes_call (takes_of rfl rfl rfl rfl) fun _ _ _ _ z => z) (pa_cons (pv 3 (by show X.N[3]? = _; rw [hN]; rfl)) (pa_cons (pv 11 (by show X.N[11]? = _; rw [hN]; rfl)) pa_nil))
theorem lo2 (h : LamH X CR CI fr fdr) {g : List Value → List Value → List Value} (kBT : KBn X.K fdr ["self", "top", "bottom"] 1 ["bottom", "top"] g (fun vs zs => vs ++ (zs.drop 1 ++ zs.take 1))) : LamOkE X 5 (d2 X.K CR CI) := by
  obtain ⟨hN, hsc, gR, M, G, b3⟩ := h
  refine ⟨lamSE_by (by rw [hsc, hN]; exact sc2), fun _ _ _ _ _ _ _ => ⟨_, rfl, rfl⟩, fun A outer s H E f c hr => ?_⟩
  show PE (LamX.lamCx X A outer s H E (lamSc 2) f c) (lamBo 2) (tMakeK CR 0 (["bottom", "top"] : List Str).length (spRInit2 X.K CR CI) (fun vs zs => vs ++ (zs.drop 1 ++ zs.take 1)) E tNil (tCons (tC (.int 0)) (tCons (tVar 3) tNil)))
  exact pe_makeK0 (E := E) M G hr (by rfl) gR kBT (passes_call (takes_of rfl rfl rfl rfl) fun _ _ _ _ z => z) (pk_cons pe_int (pk_cons (pv 3 (by show X.N[3]? = _; rw [hN]; rfl)) pk_nil))
end
end K02

set_option Elab.async false
set_option linter.all false
set_option maxRecDepth 100000
set_option maxHeartbeats 1000000
namespace K02
open PySem PySem.Spec PyProof.Rows L2 Ux
/-! ### lowest terms of a fraction that was widened -/
theorem cg_scale {t b k : Int} (hk : 0 < k) : cg (t * k) (b * k) = cg t b * k := by
  unfold cg
  have e : ((Nat.gcd (t * k).natAbs (b * k).natAbs : Nat) : Int) = ((Nat.gcd t.natAbs b.natAbs : Nat) : Int) * k := by
    rw [Int.natAbs_mul, Int.natAbs_mul, Nat.gcd_mul_right, Int.natCast_mul, Int.natAbs_of_nonneg (Int.le_of_lt hk)]
  rw [e]
  by_cases h : b < 0
  · rw [if_pos h, if_pos (Int.mul_neg_of_neg_of_pos h hk), Int.neg_mul]
  · rw [if_neg h, if_neg (Int.not_lt.mpr (Int.mul_nonneg (Int.not_lt.mp h) (Int.le_of_lt hk)))]
theorem n_scale {t b k : Int} (hk : 0 < k) : nT (t * k) (b * k) = nT t b ∧ nB (t * k) (b * k) = nB t b := by
  unfold nT nB
  rw [cg_scale hk]
  refine ⟨?_, ?_⟩
  · rw [Int.mul_comm t k, Int.mul_comm (cg t b) k]
    exact Int.mul_fdiv_mul_of_pos _ _ hk
  · rw [Int.mul_comm b k, Int.mul_comm (cg t b) k]
    exact Int.mul_fdiv_mul_of_pos _ _ hk
theorem cg_negs {t b : Int} (hb : b ≠ 0) : cg (-t) (-b) = -cg t b := by
  unfold cg
  rw [Int.natAbs_neg, Int.natAbs_neg]
  by_cases h : b < 0
  · rw [if_pos h, if_neg (by omega), Int.neg_neg]
  · rw [if_neg h, if_pos (by omega)]
theorem n_negs {t b : Int} (hb : b ≠ 0) : nT (-t) (-b) = nT t b ∧ nB (-t) (-b) = nB t b := by
  unfold nT nB
  rw [cg_negs hb]
  exact ⟨Int.neg_fdiv_neg _ _, Int.neg_fdiv_neg _ _⟩
end K02

set_option Elab.async false
set_option linter.all false
set_option maxRecDepth 100000
set_option maxHeartbeats 4000000
/-! A list comprehension whose element knows the frame around its block, and calls lambdas of that frame. -/
namespace Ux
open PySem PySem.Spec PyProof.Rows L2 LamX
/-- the block was entered at s, H from the frame of X, whose names hold σ -/
def BlkIn (X : Cx) (σ : L2.St) (H : Hp) (s : Shared) (fp : List Addr) : Prop := ∃ pins, Inv X pins σ H s ∧ ∀ b ∈ fp, FpOk X pins H b
section
variable {X : Cx} {pins : List (Addr × Obj)} {σ σ' : L2.St} {H H' : Hp} {s s' : Shared} {scope : Scope} {ce : Env} {fp : List Addr}
/-- what the frame around holds, told from within the block -/
theorem BlkIn.back (B : BlkIn X σ H s fp) (J : Inv (X.blk s H scope ce fp) pins σ' H' s') : ∃ p, Inv X p σ H' s' := by
  obtain ⟨p, I, f⟩ := B
  exact ⟨p, I.call' (ch := fp) J.os J.base J.hok J.bare fun b hb => let ⟨_, e1, _, e3, e4, e5⟩ := f b hb; ⟨e3, e1, e4, e5⟩⟩
theorem pe_lcI {elt tg iter : Expr} {own : List (Str × Nat)} {pos : Pos} {wi : TI} {g : TG} {te : L2.St → TE} (hc : X.calm = true) (hN : X.N.Nodup) (hi : PI X tg iter wi) (ok : BlkOk X.N X.env.scope scope own)
    (hg : ∀ s H C cl fp, PG (X.blk s H scope (compEnvC scope cl C X.env) fp) tg g)
    (he : ∀ σ s H C cl fp, BlkIn X σ H s fp → PE (X.blk s H scope (compEnvC scope cl C X.env) fp) elt (te σ)) (hs : ∀ x, foldedSetIterable iter X.env x = pure x := by intro _; rfl) :
    PE X (.ListComp elt [⟨tg, iter, [], 0⟩] scope pos) (fun σ => tLc wi g tYes (te σ) (own.map (·.2)) σ) := by
  refine ⟨fun p0 s0 σ H0 Q I0 h => ?_⟩
  rw [eval_ListComp]
  refine wpAny_comprehension_free rfl hs (closure_ok fun y hy e => (ok.free y hy e).elim (fun k => I0.ok.has _ (.inl k)) fun k => I0.ok.has _ (.inr k)) ok.kind (fun y hy e => (ok.uniq y hy).trans (by rw [e]))
    (thn (hi.run p0 s0 σ H0 _ I0 h) fun _ _ hx => thn hx fun _ sA ⟨it, fp, tn, J, HA, e, IA, T, stA, fA, q⟩ => ?_)
  subst e
  refine wpAny_newObj_type (newEnv_comp ?_) (by show 0 ≤ sizeLine; decide)
  obtain ⟨W, ⟨m0, w0⟩, turn⟩ := q _ (IA.hok.fresh (Nat.le_refl _))
  have IB := IA.laid (a := sA.heap.objs.size) (o := .lst []) (h' := sA.heap.push { cls := .type "list", data := .seq ([] : List Value).toArray }) (t' := sA.toks) (fun b o e => Heap.get?_push_of_some _ e) (Nat.le_refl _)
    ⟨Nat.zero_le _, [], 0, .nil, Heap.get?_push_size _ rfl⟩
  have lt : ∀ b ∈ fp, b < sA.heap.objs.size := fun b hb => let ⟨o, e, _⟩ := T.obj _ _ stA b hb; Heap.lt_size e
  have stB : tn 0 (sA.heap.push { cls := .type "list", data := .seq ([] : List Value).toArray }) := T.keep _ _ _ stA fun b _ o e => Heap.get?_push_of_some _ e
  have fB : ∀ b ∈ fp, FpOk X p0 (upd HA sA.heap.objs.size (.lst [])) b ∧ b < (sA.heap.push { cls := .type "list", data := .seq ([] : List Value).toArray }).objs.size := fun b hb =>
    ⟨⟨(upd_ne (Nat.ne_of_lt (lt b hb))).trans (fA b hb).1, (fA b hb).2⟩, by rw [Heap.size_push]; exact Nat.lt_succ_of_lt (lt b hb)⟩
  generalize hD : sA.heap.objs.size = D at *
  generalize hHB : upd HA D (.lst []) = HB at *
  generalize hsB : ({ sA with heap := sA.heap.push { cls := .type "list", data := .seq ([] : List Value).toArray } } : Shared) = sB at *
  have hB : sA.heap.push { cls := .type "list", data := .seq ([] : List Value).toArray } = sB.heap := by rw [← hsB]
  rw [hB] at stB fB
  have up : ∀ {pz : List (Addr × Obj)} {σz : L2.St} {Hz : Hp} {sz : Shared} {ce : Env}, Inv (X.blk sB HB scope ce fp) pz σz Hz sz → Inv X p0 σ Hz sz := fun z =>
    IB.call' (ch := fp) z.os z.base z.hok z.bare fun b hb => let ⟨⟨_, e1, _, e3, e4, e5⟩, _⟩ := fB b hb; ⟨e3, e1, e4, e5⟩
  have J0 := block_start IB ok hN fB
  have eP := he σ sB HB sB.heap.objs.size (cellsFrom (sB.heap.objs.size + 1) scope.names (cloFrom X.env.cells scope.names [])) fp ⟨p0, IB, fun b hb => (fB b hb).1⟩
  have gP := hg sB HB sB.heap.objs.size (cellsFrom (sB.heap.objs.size + 1) scope.names (cloFrom X.env.cells scope.names [])) fp
  refine (show codeAny _ _ (.compStart _ 0 _ _ (compEnvC scope (cellsFrom (sB.heap.objs.size + 1) scope.names (cloFrom X.env.cells scope.names [])) sB.heap.objs.size X.env)) (compPost _ _ X.xe none (EP X p0 σ Q) (.ref D) sB.heap.objs.size) { sB with heap := pushCells (sB.heap.push { cls := .type "dict", data := .dict #[] }) scope.names } from ?_)
  generalize hce : compEnvC scope (cellsFrom (sB.heap.objs.size + 1) scope.names (cloFrom X.env.cells scope.names [])) sB.heap.objs.size X.env = ce at J0 eP gP ⊢
  have cL : ce.locals = sB.heap.objs.size := by rw [← hce]; rfl
  generalize hsC : ({ sB with heap := pushCells (sB.heap.push { cls := .type "dict", data := .dict #[] }) scope.names } : Shared) = sC at J0 ⊢
  have stC : tn 0 sC.heap := by rw [← hsC]; exact T.keep _ _ _ stB fun b _ o e => pushCells_keeps _ _ _ _ (Heap.get?_push_of_some _ e)
  have fk : ∀ {σz : L2.St} {Hz : Hp} {sz : Shared}, Inv (X.blk sB HB scope ce fp) [] σz Hz sz → (∀ b ∈ fp, Hz b = none) → ∀ b ∈ fp, FpOk (X.blk sB HB scope ce fp) [] Hz b := fun z n b hb =>
    ⟨n b hb, (z.ok.exf b hb).1, z.ok.exfs b hb, .inl hb, fun x c e => (z.ok.exf b hb).2 x c e, fun p hp => absurd (show p ∈ ([] : List (Addr × Obj)) ++ [] from hp) (by simp)⟩
  have loop : codeAny (model X.prog X.w) X.A (.compLoop (.ListComp elt [⟨tg, iter, [], 0⟩] scope pos) 0 (.ref it) (.ref D) ce) (compPost (model X.prog X.w) X.A X.xe none (EP X p0 σ Q) (.ref D) sB.heap.objs.size) sC := by
    refine compLoop_any (fun n sz => ∃ i Hz, (Inv (X.blk sB HB scope ce fp) [] (wipe σ (own.map (·.2))) Hz sz ∧ W i n Hz) ∧ tn i sz.heap ∧ ∀ b ∈ fp, Hz b = none) ?_ m0 ⟨0, HB, ⟨J0, w0⟩, stC, fun b hb => (fB b hb).1.1⟩
    rintro n sz ⟨i, Hz, ⟨Jz, wz⟩, tz, nz⟩
    rcases turn i n Hz wz with ⟨stop, qz⟩ | ⟨go, Nx, less, step⟩
    · refine thnF (T.done (X.blk sB HB scope ce fp) rfl rfl rfl hc i [] sz _ Hz (fun _ _ => False) Jz (fk Jz nz) tz stop) fun r sy ⟨er, Jy⟩ => ?_
      subst er
      have nC : Hz sB.heap.objs.size = none := cL ▸ Jy.free
      obtain ⟨m, hm, _⟩ := Jy.loc
      obtain ⟨f0, f1, _, f3, f4, f5⟩ := IB.fpOk (Nat.le_refl _) nC
      exact ⟨m, cL ▸ hm, fun h'' sb => ⟨.ref D, Hz, (up Jy).turned (t' := sy.toks) (fun b o hb e => (sb.2 b hb).trans e) f0 f1 f3 f4 f5, rfl, qz⟩⟩
    · refine thnF (T.item (X.blk sB HB scope ce fp) rfl rfl rfl hc i [] sz _ Hz (fun _ _ => False) Jz (fk Jz nz) tz go) fun r sy ⟨u, er, hy⟩ => ?_
      subst er
      refine thnF hy fun _ sx ⟨x, Hx, Jx, rx, yx, tx, nx⟩ => ?_
      refine thnF (gP.run _ sx _ Hx x u _ (Jx.pinned (fk Jx nx) (T.obj _ _ tx)) rx (step x Hx yx)) fun _ sw ⟨σw, Hw, Jw, hw, qw⟩ => ?_
      refine thnF ((pts_nil (X := X.blk sB HB scope ce fp)).run _ sw σw Hw _ Jw qw) fun b sv ⟨Hv, Jv, qv⟩ => ?_
      have fin : ∀ {sl : Shared} {Hl : Hp}, Inv (X.blk sB HB scope ce fp) ([] ++ pinsAt fp sx.heap) σw Hl sl → Nx Hl → ∃ m, m < n ∧ ∃ i Hk, (Inv (X.blk sB HB scope ce fp) [] (wipe σ (own.map (·.2))) Hk sl ∧ W i m Hk) ∧ tn i sl.heap ∧ ∀ b ∈ fp, Hk b = none := fun {sl Hl} Jl nl => by
        obtain ⟨m, hm, wm⟩ := less Hl nl
        have pinned : ∀ b ∈ fp, ∀ o, sx.heap.get? b = some o → sl.heap.get? b = some o ∧ Hl b = none := fun b hb o e => let z := Jl.pin (b, o) (List.mem_append_right _ (List.mem_append_right _ (mem_pinsAt hb e))); ⟨z.1, z.2.1⟩
        refine ⟨m, hm, i + 1, Hl, ⟨(Jl.unpinned (pins := [])).weak (by rw [← hw, wipe_length]) (fun j v e => (wipe_some (hw ▸ e)).1), wm⟩, T.keep _ _ _ tx fun b hb o e => (pinned b hb o e).1, fun b hb => ?_⟩
        obtain ⟨o, e, _⟩ := T.obj _ _ tx b hb
        exact (pinned b hb o e).2
      cases b with
      | false => exact fin Jv qv
      | true =>
        refine thnF (eP.run _ sv σw Hv _ Jv qv) fun z su ⟨y, Hu, Ju, ry, acc, hD', hz, nu⟩ => ?_
        exact app_ok (X := X.blk sB HB scope ce fp) Ju hD' hz ry fun st Jt => fin Jt nu
  exact codeAny_compStart_list loop (T.self X.A 0 _ _ _ stC loop)
end
end Ux

set_option Elab.async false
set_option linter.all false
set_option maxRecDepth 100000
set_option maxHeartbeats 4000000
namespace Ux
open PySem PySem.Spec PyProof.Rows L2 LamX
/-- x(y) in a block, where y is one of some lambdas of the frame around: that frame's names hold σ0 -/
def tLamCallB (cl : List (Str × Addr)) (q : Str) (TT : (XK → Hp → VK → Prop) → Hp → VK → Prop) (ds : List LamD) (es : List LamE) (te : TE) (σ0 : L2.St) : TE := fun σ H Q => te σ H fun v H1 =>
  (∃ (f c' : Addr) (d : LamD), d ∈ ds ∧ v = .ref f ∧ LamAt cl q H1 d f c' ∧ TT (fun E H' Q' => H' f = some (LamO cl q d f c') ∧ d.t E σ0 H' Q') H1 Q) ∨
  ∃ (f c' T : Addr) (d : LamE), d ∈ es ∧ v = .ref f ∧ LamAtE cl q H1 d f c' T ∧ TT (fun E H' Q' => LamAtE cl q H' d f c' T ∧ d.t E σ0 H' Q') H1 Q
theorem pe_lamvalB {X : Cx} {σ0 : L2.St} {H0 : Hp} {s0 : Shared} {fp : List Addr} {scope : Scope} {ce : Env} {ds : List LamD} {es : List LamE} {te : TE} {TT : (XK → Hp → VK → Prop) → Hp → VK → Prop} {x a y : Str} {g : Addr} {k : Nat} {pg : Arguments} {bg : List Stmt} {sg : Scope} {dV kV doc pm cdv ct oc : Value} {an od : Option Addr} {osl : Array (Option Value)} {Ng : List Str} {p py pos : Pos}
    (B : BlkIn X σ0 H0 s0 fp) (hg : Gl (X.blk s0 H0 scope ce fp) x) (hm : X.mg x = some (.ref g)) (hk : PySem.W.keepIn X.K (.ref g) = true) (lk : X.K.lookup g = some ⟨oc, od, .func (PySem.W.fnOf x x pg bg sg dV kV doc pm an cdv ct), osl⟩) (hcg : PySem.W.codeIn X.K cdv x = true)
    (hb : L2.Binds X.K (PySem.W.fnOf x x pg bg sg dV kV doc pm an cdv ct) [a] []) (Sg : FnScope Ng [a] sg) (hNg : Ng[0]? = some a) (hva : Vis sg a) (hG : GivesTo X Ng x sg g cdv bg a (X.env.qual ++ "<lambda>") TT) (hr : Room (k + 2) X.A)
    (hds : ∀ d ∈ ds, LamOk X k d) (hes : ∀ d ∈ es, LamOkE X k d) (he : PE (X.blk s0 H0 scope ce fp) (.Name y py) te) (hdb : (x == ("__debug__" : Str)) = false := by decide) (hd : (a == ("__debug__" : Str)) = false := by decide) (hcd : (a == ("__classdict__" : Str)) = false := by decide) :
    PE (X.blk s0 H0 scope ce fp) (.Call (.Name x p) [.Name y py] [] pos) (tLamCallB X.env.cells (X.env.qual ++ "<lambda>") TT ds es te σ0) := by
  refine ⟨fun pins s σ H Q I h => wpAny_Call_Name_kw (ld_glob I hg hm ?_ hdb)⟩
  refine PySem.W.callWith_K (h₀ := X.base) I.ok.mod.kin hk (show wpAny _ _ (spliced ((false, eval (.Name y py) ce) :: backTo pos (starEach [] ce))) _ _ s from ?_) (by rfl) (by rfl)
  refine Calls.spliced_cons (thn (he.run pins s σ H _ I h) fun u s' ⟨v, H1, I1, rv, hq⟩ => ?_)
  obtain ⟨pX, IX⟩ := B.back I1
  rcases hq with ⟨f, c', d, hmem, rfl, la, htt⟩ | ⟨f, c', T, d, hmem, rfl, la, htt⟩
  · obtain rfl : u = Value.ref f := rv
    refine Calls.spliced_nil ⟨I1.kIn, wpAny_call (codeAny_mono (run_ofS (CX := C8.CX0) (E := C8.E0) (Q := Q) (outer := X.stack) (base := X.base) (mg := X.mg) (N := Ng) (ps := [a]) (us := [.ref f]) (vs := [.ref f]) lk hcg Sg hr IX.env0 (hb s' [.ref f] IX.kIn rfl) (.cons rfl .nil) rfl fun hr2 => ?_) fun r s2 hq => ?_)⟩
    · obtain ⟨t', ht', hq'⟩ := hG f c' s' H1 Q (fun E H' Q' => H' f = some (LamO X.env.cells (X.env.qual ++ "<lambda>") d f c') ∧ d.t E σ0 H' Q') (fun W pn xe E p1 p2 tk hW => pe_actV (i := 0) IX (hds d hmem) tk hW hr2 hNg hva hd hcd) la.co htt
      exact ⟨t', ht'.nox, hq'⟩
    · rcases r with e | (_ | _ | _ | u)
      · exact (show False from hq).elim
      · exact False.elim hq
      · exact False.elim hq
      · exact False.elim hq
      · exact I1.after hq
  · obtain rfl : u = Value.ref f := rv
    refine Calls.spliced_nil ⟨I1.kIn, wpAny_call (codeAny_mono (run_ofS (CX := C8.CX0) (E := C8.E0) (Q := Q) (outer := X.stack) (base := X.base) (mg := X.mg) (N := Ng) (ps := [a]) (us := [.ref f]) (vs := [.ref f]) lk hcg Sg hr IX.env0 (hb s' [.ref f] IX.kIn rfl) (.cons rfl .nil) rfl fun hr2 => ?_) fun r s2 hq => ?_)⟩
    · obtain ⟨t', ht', hq'⟩ := hG f c' s' H1 Q (fun E H' Q' => LamAtE X.env.cells (X.env.qual ++ "<lambda>") H' d f c' T ∧ d.t E σ0 H' Q') (fun W pn xe E p1 p2 tk hW => pe_actE (i := 0) (T := T) IX (hes d hmem) tk hW hr2 hNg hva hd hcd) la.co htt
      exact ⟨t', ht'.nox, hq'⟩
    · rcases r with e | (_ | _ | _ | u)
      · exact (show False from hq).elim
      · exact False.elim hq
      · exact False.elim hq
      · exact False.elim hq
      · exact I1.after hq
end Ux

set_option Elab.async false
set_option linter.all false
set_option maxRecDepth 100000
set_option maxHeartbeats 1000000
namespace K02
open PySem PySem.Spec PyProof.Rows L2 Ux
theorem Tabs.but {T : List (Addr × Str)} {H H' : Hp} {b : Addr} {xs : List V} (t : LamX.Tabs T H) (hb : H b = some (.lst xs)) (s : But b H H') : LamX.Tabs T H' := fun p hp => by
  obtain ⟨ps, h1, h2, h3⟩ := t p hp
  refine ⟨ps, s _ _ h1 fun e => ?_, h2, fun pos cv hc => ?_⟩
  · rw [e, hb] at h1
    cases h1
  · obtain ⟨c, e1, e2⟩ := h3 pos cv hc
    refine ⟨c, e1, s _ _ e2 fun e => ?_⟩
    rw [e, hb] at e2
    cases e2
theorem Tabs.same {T : List (Addr × Str)} {H H' : Hp} (t : LamX.Tabs T H) (s : Same H H') : LamX.Tabs T H' := LamX.Tabs.ext t s
theorem BagAt.extN {H H' : Hp} {b : Addr} {n : Nat} (h : BagAt H b n) (s : LamX.ExtN H H') : BagAt H' b n := by
  obtain ⟨l, ns, p, g, s', c, hb, hl, z⟩ := h
  exact ⟨l, ns, p, g, s', c, s _ _ hb (fun ps e => by cases e), s _ _ hl (fun ps e => by cases e), z⟩
/-- the error InvalidNumber, told -/
structure INk (K : PySem.W.Frag) (C1 C2 CI : Addr) : Prop where
  ex : PySem.W.exmAny K (.ref CI) [.ref C1, .ref C2] = some true
  xf : XfC K CI
  no : ∀ f ∈ fieldNames, PySem.W.findIn K (.ref CI) f = some none
theorem told_in {K : PySem.W.Frag} {C1 C2 CI : Addr} (T : INk K C1 C2 CI) {H H' : Hp} {Q : VK} {v : V} {d : Addr} (s : Same H H') (hd : H' d = some (.xd (inFs v))) (k : ∀ (t : Addr) (H' : Hp), H' t = some (.tup [.str "InvalidNumber", v]) → Same H H' → Q (.ref t) H') : Told K C1 C2 Q (.ref CI) (some d) H' := by
  refine ⟨CI, d, inFs v, "InvalidNumber", rfl, rfl, hd, T.ex, T.xf, T.no, rfl, ?_⟩
  have e1 : inV (.str "InvalidNumber") [.str "InvalidName", .str "InvalidNumber"] = true := by decide +kernel
  unfold fieldF
  rw [e1, if_pos rfl]
  exact ⟨v, rfl, fun t H2 ht s2 => k t H2 ht (s.trans s2)⟩
/-- the class stands not below these -/
structure NotF (K : PySem.W.Frag) (CR : Addr) : Prop where
  i : PySem.W.notFirst K CR (.type "int") = true
  s : PySem.W.notFirst K CR (.type "str") = true
  b : PySem.W.notFirst K CR (.type "bool") = true
  n : PySem.W.notFirst K CR (.type "NoneType") = true
/-! ### numbers of the law -/
def pd (t b : Int) : PyData := .tuple [.int t, .int b]
structure Nm (t b : Int) : Prop where
  ht : t.natAbs ≤ 100003
  hb : b.natAbs ≤ 60
  p : 0 < b
  g : Nat.gcd t.natAbs b.natAbs = 1
theorem Nm.ne {t b : Int} (h : Nm t b) : b ≠ 0 := by have := h.p; omega
theorem Nm.low {t b : Int} (h : Nm t b) : nT t b = t ∧ nB t b = b := n_low h.p h.g
theorem Nm.wt {t b : Int} (h : Nm t b) : W10 t := Nat.lt_of_le_of_lt h.ht (by decide +kernel)
theorem Nm.wb {t b : Int} (h : Nm t b) : W10 b := Nat.lt_of_le_of_lt h.hb (by decide +kernel)
theorem bdN {i : Int} {n : Nat} (h : i.natAbs ≤ n) (k : n ≤ 100000000000) : Bd 8000 i := Bd.of (m := 100000000000) (Nat.le_trans h k) (by decide +kernel)
theorem nm_of {t b : Int} (ht : t.natAbs ≤ 100003) (b0 : 0 < b) (b1 : b ≤ 60) : Nm (nT t b) (nB t b) := by
  have hb : b ≠ 0 := by omega
  have h := n_abs (t := t) hb
  exact ⟨by omega, by omega, nB_pos hb, n_cop hb⟩
/-- the widened fraction has the same lowest terms -/
theorem wide_low {t b k s : Int} (hb : 0 < b) (hk : 0 < k) (hs : s = 1 ∨ s = -1) : nT (t * k * s) (b * k * s) = nT t b ∧ nB (t * k * s) (b * k * s) = nB t b := by
  have h := n_scale (t := t) (b := b) hk
  rcases hs with rfl | rfl
  · rw [Int.mul_one, Int.mul_one]
    exact h
  · have hn : b * k ≠ 0 := Int.mul_ne_zero (by omega) (by omega)
    have h2 := n_negs (t := t * k) hn
    rw [Int.mul_neg_one, Int.mul_neg_one, h2.1, h2.2]
    exact h
theorem TupI.same {H H' : Hp} {p : Addr} {t b : Int} (h : TupI H p t b) (s : Same H H') : TupI H' p t b := s _ _ h
theorem TupI.but {H H' : Hp} {p c : Addr} {t b : Int} {xs : List V} (h : TupI H p t b) (hc : H c = some (.lst xs)) (f : But c H H') : TupI H' p t b := f _ _ h fun e => by
  unfold TupI at h
  rw [e, hc] at h
  cases h
theorem RatAt.but {CR : Addr} {H H' : Hp} {a c : Addr} {t b : Int} {xs : List V} (h : RatAt CR H a t b) (hc : H c = some (.lst xs)) (f : But c H H') : RatAt CR H' a t b := by
  obtain ⟨dx, h⟩ := h
  refine ⟨dx, f _ _ h fun e => ?_⟩
  rw [e, hc] at h
  cases h
theorem tup_dp {K : PySem.W.Frag} {H : Hp} {r : Addr} {t b : Int} (h : TupI H r t b) : Dp K H (.ref r) (pd t b) := .tup (.of h) (.cons (.int _) (.cons (.int _) .nil))
theorem cw {i j : Int} {m n : Nat} (h : i.natAbs ≤ m) (k : j.natAbs ≤ n) (hm : m ≤ 10000000) (hn : n ≤ 10000000) : CMulW i j :=
  wide_mul (a := 64) (b := 64) (Nat.lt_of_le_of_lt (Nat.le_trans h hm) (by decide +kernel)) (Nat.lt_of_le_of_lt (Nat.le_trans k hn) (by decide +kernel)) (by decide) (by decide) (by decide)
/-- Ratio(t, b), made -/
theorem rat_made {CR : Addr} {H : Hp} {Qn : Hp → Prop} {E : XK} {x dx : Addr} {vs : List V} {t b : Int} (e : vs = [.ref x, .int t, .int b]) (nx : H x = none) (nd : H dx = none) (hb : b ≠ 0) (bd : Bd 8000 b) (k : ∀ H1, RatAt CR H1 x (nT t b) (nB t b) → Same H H1 → Qn H1) :
    spRInit CR vs (upd (upd H dx (.own x)) x (.ins CR dx [])) (fun v H' => v = .non ∧ Qn H') E :=
  ⟨x, dx, t, b, e, upd_same, hb, bd, fun H1 hx bu => ⟨rfl, k H1 ⟨dx, hx⟩ (made_same nx nd bu)⟩⟩
/-- what stands all the turn -/
structure Cur (CR PT : Addr) (H : Hp) (b : Addr) (n : Nat) (p l : Addr) (t1 b1 : Int) : Prop where
  hp : TupI H p t1 b1
  rl : RatAt CR H l t1 b1
  bg : BagAt H b n
  tb : LamX.Tabs [(PT, qn)] H
theorem Cur.same {CR PT : Addr} {H H' : Hp} {b : Addr} {n : Nat} {p l : Addr} {t1 b1 : Int} (h : Cur CR PT H b n p l t1 b1) (s : Same H H') : Cur CR PT H' b n p l t1 b1 :=
  ⟨h.hp.same s, h.rl.same s, h.bg.same s, Tabs.same h.tb s⟩
/-- two lists or tuples of like items -/
theorem like_seq {H : Hp} {n : Nat} {a b : Addr} {xs ys : List V} (h : (H a = some (.tup xs) ∧ H b = some (.tup ys)) ∨ (H a = some (.lst xs) ∧ H b = some (.lst ys))) (l : xs.length = ys.length) (m : xs.length ≤ 1000) (k : ∀ (i : Nat) (x y : V), xs[i]? = some x → ys[i]? = some y → Like H n x y) : Like H (n + 1) (.ref a) (.ref b) :=
  .inr ⟨a, b, xs, ys, rfl, rfl, h, l, m, k⟩
def Plain (v : V) : Prop := v = .non ∨ (∃ b, v = .bl b) ∨ (∃ i, v = .int i) ∨ ∃ x, v = .str x
theorem like_plain {H : Hp} {n : Nat} {u v : V} (e : u = v) (p : Plain u) : Like H (n + 1) u v := .inl ⟨e, by subst e; exact p⟩
theorem like_ps {H : Hp} {n : Nat} : ∀ {xs : List V}, (∀ x ∈ xs, Plain x) → ∀ (i : Nat) (x y : V), xs[i]? = some x → xs[i]? = some y → Like H (n + 1) x y := fun {xs} h i x y hx hy => by
  rw [hx] at hy
  cases hy
  exact like_plain rfl (h x (List.mem_of_getElem? hx))
/-- an odd value, beside itself -/
theorem OddN.like {H : Hp} {v : V} (h : OddN H v) (n : Nat) : Like H (n + 2) v v := by
  rcases h with rfl | rfl | rfl | rfl | ⟨l, rfl, h⟩ | ⟨l, rfl, h⟩
  · exact like_plain rfl (.inl rfl)
  · exact like_plain rfl (.inr (.inr (.inr ⟨_, rfl⟩)))
  · exact like_plain rfl (.inr (.inl ⟨_, rfl⟩))
  · exact like_plain rfl (.inr (.inr (.inr ⟨_, rfl⟩)))
  · exact like_seq (.inr ⟨h, h⟩) rfl (by show 1 ≤ 1000; decide) (like_ps fun x hx => by cases List.mem_singleton.mp hx; exact .inr (.inr (.inl ⟨_, rfl⟩)))
  · refine like_seq (.inl ⟨h, h⟩) rfl (by show 2 ≤ 1000; decide) (like_ps fun x hx => ?_)
    simp only [List.mem_cons, List.mem_nil_iff, or_false] at hx
    rcases hx with rfl | rfl <;> exact .inr (.inr (.inl ⟨_, rfl⟩))
theorem la0 {K : PySem.W.Frag} {CR CI : Addr} {σ : L2.St} {H : Hp} {Q : VK} {E : XK} {t : Int} {v : V} (c : CxN σ H t v) (k : RaisesN CI v H E) : (d0 K CR CI).t E σ H Q := lr0 c k
theorem la1 {K : PySem.W.Frag} {CR CI : Addr} {σ : L2.St} {H : Hp} {Q : VK} {E : XK} {t : Int} {v : V} (c : CxN σ H t v) (k : RaisesN CI v H E) : (d1 K CR CI).t E σ H Q := lr1 c k
theorem la2 {K : PySem.W.Frag} {CR CI : Addr} {σ : L2.St} {H : Hp} {Q : VK} {E : XK} {t : Int} {v : V} (c : CxN σ H t v) (k : RaisesN CI (.int 0) H E) : (d2 K CR CI).t E σ H Q := lr2 c k
theorem Same.put {H H' : Hp} {C : Addr} {o : HO} (s : Same H H') (hC : H C = none) : Same H (upd H' C o) := fun x u e => (upd_ne (ne_of_none e hC)).trans (s x u e)
end K02

set_option Elab.async false
set_option linter.all false
set_option maxRecDepth 100000
set_option maxHeartbeats 4000000
set_option pp.maxSteps 600
namespace K02
open PySem PySem.Spec PyProof.Rows L2 Ux
def spLaw (K : PySem.W.Frag) (PT : Addr) : Sp := fun vs H Q _ => ∃ (a : Addr) (ns : List Int), vs = [.ref a] ∧ SqL K H a (ns.map V.int) ∧ ns.length ≤ 63 ∧ H PT = some (.tbl #[]) ∧ ∀ H', Q (.bl true) H'
section
variable {P : Program} {w : World} {K : PySem.W.Frag} {mg : Str → Option Value} {base : Heap} {CR CI C1 C2 c PT : Addr}
theorem ok_law {f fBg fP fO fSm fL fPr fRt fPt fS fF gW fi fe fst frp fw pw : Addr} {fdBg fdP fdO fdSm fdL fdPr fdRt fdPt fdS fdF fdi fde fdst fdrp fdw : FuncData} {d1' : List Value} {g : List Value → List Value → List Value}
    {oc kV doc pm ct ocW kVW dcW pmW cdW ctW : Value} {od an odW anW : Option Addr} {osl slW : Array (Option Value)}
    (lk : K.lookup f = some ⟨oc, od, .func (PySem.W.fnOf "law" "law" (defArgs sLaw) (defBody sLaw) (defScope sLaw) .none kV doc pm an (.ref c) ct), osl⟩) (hcd : PySem.W.codeIn K (.ref c) "law" = true)
    (lkW : K.lookup gW = some ⟨ocW, odW, .func (PySem.W.fnOf "_law_why" "_law_why" (defArgs sWhy) (defBody sWhy) (defScope sWhy) .none kVW dcW pmW anW cdW ctW), slW⟩) (ccW : PySem.W.codeIn K cdW "_law_why" = true) (DW : Dn K mg "_law_why" gW)
    (bW : Binds K (PySem.W.fnOf "_law_why" "_law_why" (defArgs sWhy) (defBody sWhy) (defScope sWhy) .none kVW dcW pmW anW cdW ctW) ["_law_ask"] [])
    (TB : LamX.TabB base mg c PT) (m1 : mg "SlopeError" = some (.ref C1)) (m2 : mg "Missing" = some (.ref C2)) (DF : Dn K mg "_law_field" fF) (GF : FnQ P w K mg base 2 fF fdF ["_law_e"] (spFieldE K)) (bF : Binds K fdF ["_law_e"] [])
    (B : Bn mg) (T : RT K mg CR) (TI : INk K C1 C2 CI) (NF : NotF K CR)
    (DBg : Dn K mg "_law_bag" fBg) (GBg : FnOk P w K mg base CX0 1 fBg fdBg ["_law_script"] (spBag K)) (bBg : Binds K fdBg ["_law_script"] [])
    (DP : Dn K mg "_law_pull" fP) (GP : FnOk P w K mg base CX0 1 fP fdP ["_law_bag_here", "_law_many"] spPull) (bP : Binds K fdP ["_law_bag_here", "_law_many"] [])
    (DO : Dn K mg "_law_of" fO) (GO : FnOk P w K mg base CX0 2 fO fdO ["_law_bag_here", "_law_things"] spOf) (bO : Binds K fdO ["_law_bag_here", "_law_things"] [])
    (DSm : Dn K mg "_law_small" fSm) (GSm : FnOk P w K mg base CX0 2 fSm fdSm ["_law_bag_here"] spSmall) (bSm : Binds K fdSm ["_law_bag_here"] [])
    (DL : Dn K mg "_law_low" fL) (GL : FnOk P w K mg base CX0 1 fL fdL ["_law_top", "_law_bottom"] spLow) (bL : Binds K fdL ["_law_top", "_law_bottom"] [])
    (DPr : Dn K mg "_law_pair" fPr) (GPr : FnOk P w K mg base CX0 1 fPr fdPr ["_law_found"] (spPair CR)) (bPr : Binds K fdPr ["_law_found"] [])
    (DRt : Dn K mg "_law_ratio" fRt) (GRt : FnOk P w K mg base CX0 4 fRt fdRt ["_law_pair_here"] (spMkRatio CR)) (bRt : Binds K fdRt ["_law_pair_here"] [])
    (DPt : Dn K mg "_law_pair_text" fPt) (GPt : FnOk P w K mg base CX0 1 fPt fdPt ["_law_pair_here"] spPairText) (bPt : Binds K fdPt ["_law_pair_here"] [])
    (DS : Dn K mg "_law_same" fS) (GS : FnOk P w K mg base CX0 4 fS fdS ["_law_found", "_law_due"] (spSame 4)) (bS : Binds K fdS ["_law_found", "_law_due"] [])
    (M : Mk K CR fi) (GI : FnOk P w K mg base CX0 2 fi fdi ["self", "top", "bottom"] (spRInit CR)) (GI4 : FnOk P w K mg base (L2.CX P w) 4 fi fdi ["self", "top", "bottom"] (spRInit2 K CR CI)) (bR3 : Binds K fdi ["self", "top", "bottom"] []) (bR1 : Binds K fdi ["self", "top", "bottom"] d1') (vR1 : Vals [V.int 1] d1')
    (kBT : KBn K fdi ["self", "top", "bottom"] 1 ["bottom", "top"] g (fun vs zs => vs ++ (zs.drop 1 ++ zs.take 1)))
    (ME : OwnM K CR "__eq__" fe) (NE : NeO K CR) (GE : FnOk P w K mg base CX0 2 fe fde ["self", "other"] (spREq2 K CR)) (bE : Binds K fde ["self", "other"] []) (sI : PySem.W.subIn K (.ref CR) (.type "int") = some false) (aI : ∀ a b, argsOk "int.__eq__" ⟨[a, b], []⟩)
    (MS : OwnM K CR "__str__" fst) (GSt : FnOk P w K mg base CX0 3 fst fdst ["self"] (spRatText CR)) (bSt : Binds K fdst ["self"] [])
    (MRp : OwnM K CR "__repr__" frp) (GRp : FnOk P w K mg base CX0 5 frp fdrp ["self"] (spRRepr CR)) (bRp : Binds K fdrp ["self"] [])
    (HW : PropOf K CR "whole" pw fw) (GW : FnOk P w K mg base CX0 1 fw fdw ["self"] (spIsWhole CR)) (bW2 : Binds K fdw ["self"] []) :
    FnOk P w K mg base CX0 8 f (PySem.W.fnOf "law" "law" (defArgs sLaw) (defBody sLaw) (defScope sLaw) .none kV doc pm an (.ref c) ct) ["_law_script"] (spLaw K PT) := by
  refine fn_of lk hcd scLaw (fun vs H Q E h => ?_) (fun A outer s H vs Q E hr h => ?_)
  · obtain ⟨a, ns, rfl, _⟩ := h
    rfl
  · obtain ⟨a, ns, rfl, hS, hlen, hP, q⟩ := h
    have r1 : Room 1 _ := hr.mono (by decide)
    have r2 : Room 2 _ := hr.mono (by decide)
    have r3 : Room 3 _ := hr.mono (by decide)
    have r4 : Room 4 _ := hr.mono (by decide)
    have r5 : Room 5 _ := hr.mono (by decide)
    have r6 : Room 6 _ := hr.mono (by decide)
    refine ⟨_, PSs.nox (pss_cons (ps_set (i := 1) scLaw.nd rfl (Or.inl rfl) (pe_call GBg r1 (by rfl) DBg.gl DBg.kp bBg .nil pass0 (pa_cons (pv 0) pa_nil)))
      (pss_cons (ps_for PassesOwn.never rfl (pi_range1 rfl B.frange (pa_cons pe_int pa_nil)) (pg_name (i := 2) scLaw.nd rfl (Or.inl rfl))
        (C8.pss_cut (ps_asg (pe_tup (pa_cons (pe_call GSm r2 (by rfl) DSm.gl DSm.kp bSm .nil pass0 (pa_cons (pv 1) pa_nil)) (pa_cons (pe_op op_add pe_int (pe_call GP r1 (by rfl) DP.gl DP.kp bP .nil pass0 (pa_cons (pv 1) (pa_cons pe_int pa_nil)))) (pa_cons (pe_op op_add pe_int (pe_call GP r1 (by rfl) DP.gl DP.kp bP .nil pass0 (pa_cons (pv 1) (pa_cons pe_int pa_nil)))) pa_nil)))) (pg_tup rfl (pgs_cons (pg_name (i := 3) scLaw.nd rfl (Or.inr rfl)) (pgs_cons (pg_name (i := 4) scLaw.nd rfl (Or.inl rfl)) (pgs_cons (pg_name (i := 5) scLaw.nd rfl (Or.inl rfl)) pgs_nil)))))
        (C8.pss_cut (ps_set (i := 6) scLaw.nd rfl (Or.inl rfl) (pe_op op_sub pe_int (pe_op op_mulW pe_int (pe_call GP r1 (by rfl) DP.gl DP.kp bP .nil pass0 (pa_cons (pv 1) (pa_cons pe_int pa_nil))))))
        (C8.pss_cut (ps_set (i := 7) scLaw.nd rfl (Or.inl rfl) (pe_call GL r1 (by rfl) DL.gl DL.kp bL .nil pass0 (pa_cons (pv 3) (pa_cons (pv 4) pa_nil))))
        (C8.pss_cut (ps_set (i := 8) scLaw.nd rfl (Or.inl rfl) (pe_make M GI r3 (by rfl) T.gl bR3 .nil pass0 (pa_cons (pe_op op_mulW (pe_op op_mulW (pv 3) (pv 5)) (pv 6)) (pa_cons (pe_op op_mulW (pe_op op_mulW (pv 4) (pv 5)) (pv 6)) pa_nil))))
        (C8.pss_cut (ps_if (PW.pt (pw_or (pt_cmpR (op_neD hr.units) (pe_call GPr r1 (by rfl) DPr.gl DPr.kp bPr .nil pass0 (pa_cons (pv 8) pa_nil)) (pv 7) (nomark _)) (pw_or1 (pt_not (pt_val (pe_call GS r4 (by rfl) DS.gl DS.kp bS .nil pass0 (pa_cons (pe_prop (E := E0) (pv 8) T.cl HW GW r2 bW2 .nil pass0 rfl) (pa_cons (pe_cmpR op_eq (pe_ix ix_tup (pv 7) pe_int (fun _ _ => rfl)) pe_int (nomark _)) pa_nil)))))))) (pss_one (ps_ret pe_bl)) pss_nil)
        (C8.pss_cut (ps_if (pt_not (pt_val (pe_call GS r4 (by rfl) DS.gl DS.kp bS .nil pass0 (pa_cons (pe_lst (pa_cons (pe_callTy (call_strO MS GSt bSt r5) (by rfl) B.tstr (by decide +kernel) (pa_cons (pv 8) pa_nil)) (pa_cons (pe_callB (call_reprO MRp GRp bRp r6) (by rfl) B.frepr (by decide +kernel) (pa_cons (pv 8) pa_nil)) pa_nil))) (pa_cons (pe_lst (pa_cons (pe_call GPt r1 (by rfl) DPt.gl DPt.kp bPt .nil pass0 (pa_cons (pv 7) pa_nil)) (pa_cons (pe_op op_add_str (pe_op op_add_str pe_str (pe_call GPt r1 (by rfl) DPt.gl DPt.kp bPt .nil pass0 (pa_cons (pv 7) pa_nil))) pe_str) pa_nil))) pa_nil))))) (pss_one (ps_ret pe_bl)) pss_nil)
        (C8.pss_cut (ps_set (i := 9) scLaw.nd rfl (Or.inl rfl) (pe_ifExp (pt_cmpR op_eq (pe_call GP r1 (by rfl) DP.gl DP.kp bP .nil pass0 (pa_cons (pv 1) (pa_cons pe_int pa_nil))) pe_int (nomark _)) (pe_call GRt r4 (by rfl) DRt.gl DRt.kp bRt .nil pass0 (pa_cons (pe_tup (pa_cons (pe_op op_add (pe_ix ix_tup (pv 7) pe_int (fun _ _ => rfl)) pe_int) (pa_cons (pe_ix ix_tup (pv 7) pe_int (fun _ _ => rfl)) pa_nil))) pa_nil)) (pe_make M GI r3 (by rfl) T.gl bR3 .nil pass0 (pa_cons (pe_ix ix_tup (pv 7) pe_int (fun _ _ => rfl)) (pa_cons (pe_op op_add (pe_ix ix_tup (pv 7) pe_int (fun _ _ => rfl)) pe_int) pa_nil)))))
        (C8.pss_cut (ps_set (i := 10) scLaw.nd rfl (Or.inl rfl) (pe_or (pe_cmpR op_ne (pe_fld (pv 9) rfl) (pe_ix ix_tup (pv 7) pe_int (fun _ _ => rfl)) (nomark _)) (pe_one (pe_cmpR op_ne (pe_fld (pv 9) rfl) (pe_ix ix_tup (pv 7) pe_int (fun _ _ => rfl)) (nomark _)))))
        (C8.pss_cut (ps_if (pt_not (pt_val (pe_call GS r4 (by rfl) DS.gl DS.kp bS .nil pass0 (pa_cons (pe_lst (pa_cons (pe_cmpR (op_eqO ME GE bE r2) (pv 8) (pe_call GRt r4 (by rfl) DRt.gl DRt.kp bRt .nil pass0 (pa_cons (pv 7) pa_nil)) (nomark _)) (pa_cons (pe_cmpR (op_eqO ME GE bE r2) (pv 8) (pv 9) (nomark _)) (pa_cons (pe_cmpR (op_neO ME NE GE bE r3) (pv 8) (pv 9) (nomark _)) pa_nil)))) (pa_cons (pe_lst (pa_cons pe_bl (pa_cons (pe_not (pv 10)) (pa_cons (pv 10) pa_nil)))) pa_nil))))) (pss_one (ps_ret pe_bl)) pss_nil)
        (C8.pss_cut (ps_if (pt_not (pt_val (pe_call GS r4 (by rfl) DS.gl DS.kp bS .nil pass0 (pa_cons (pe_lst (pa_cons (pe_cmpR (op_eqO ME GE bE r2) (pv 8) (pe_ix ix_tup (pv 7) pe_int (fun _ _ => rfl)) (nomark _)) (pa_cons (pe_cmpR (op_eqL ME sI aI GE bE r2) (pe_ix ix_tup (pv 7) pe_int (fun _ _ => rfl)) (pv 8) (nomark _)) (pa_cons (pe_cmpR (op_eqO ME GE bE r2) (pv 8) (pe_callTy call_str_int (by rfl) B.tstr (by decide +kernel) (pa_cons (pe_ix ix_tup (pv 7) pe_int (fun _ _ => rfl)) pa_nil)) (nomark _)) pa_nil)))) (pa_cons (pe_lst (pa_cons (pe_cmpR op_eq (pe_ix ix_tup (pv 7) pe_int (fun _ _ => rfl)) pe_int (nomark _)) (pa_cons (pe_cmpR op_eq (pe_ix ix_tup (pv 7) pe_int (fun _ _ => rfl)) pe_int (nomark _)) (pa_cons pe_bl pa_nil)))) pa_nil))))) (pss_one (ps_ret pe_bl)) pss_nil)
        (C8.pss_cut (ps_if (PW.pt (pw_or (pt_not (pt_val (pe_call GS r4 (by rfl) DS.gl DS.kp bS .nil pass0 (pa_cons (pe_call GPr r1 (by rfl) DPr.gl DPr.kp bPr .nil pass0 (pa_cons (pe_make M GI r3 (by rfl) T.gl bR1 vR1 pass0 (pa_cons (pv 3) pa_nil)) pa_nil)) (pa_cons (pe_tup (pa_cons (pv 3) (pa_cons pe_int pa_nil))) pa_nil))))) (pw_or (pt_cmpR (op_eqO ME GE bE r2) (pe_make M GI r3 (by rfl) T.gl bR1 vR1 pass0 (pa_cons pe_int pa_nil)) pe_bl (nomark _)) (pw_or1 (pt_cmpR (op_eqO ME GE bE r2) (pe_make M GI r3 (by rfl) T.gl bR1 vR1 pass0 (pa_cons pe_int pa_nil)) pe_non (nomark _)))))) (pss_one (ps_ret pe_bl)) pss_nil)
        (C8.pss_cut (ps_set (i := 11) scLaw.nd rfl (Or.inr rfl) (pe_call GO r2 (by rfl) DO.gl DO.kp bO .nil pass0 (pa_cons (pv 1) (pa_cons (pe_lst (pa_cons pe_non (pa_cons pe_str (pa_cons pe_bl (pa_cons (pe_lst (pa_cons pe_int pa_nil)) (pa_cons (pe_tup (pa_cons pe_int (pa_cons pe_int pa_nil))) (pa_cons pe_str pa_nil))))))) pa_nil))))
        (C8.pss_cut (ps_set (i := 12) scLaw.nd rfl (Or.inl rfl) (pe_lst (pa_abox (K := K) (CR := CR) (CI := CI) TB rfl rfl)))
        (pss_one (ps_if (pt_not (pt_val (pe_call GS r4 (by rfl) DS.gl DS.kp bS .nil pass0 (pa_cons (pe_lcI (own := [("_law_ask", 13)]) (g := gName 13) (te := fun σ0 => tLamCallB (envOfC "law" (defScope sLaw) s.heap.objs.size f (.ref c)).cells ((envOfC "law" (defScope sLaw) s.heap.objs.size f (.ref c)).qual ++ "<lambda>") (TTwhy K C1 C2) [d0 K CR CI] [d1 K CR CI, d2 K CR CI] (tVar 13) σ0) rfl scLaw.nd (pi_list (pv 12)) (blkOk_by (own := [("_law_ask", 13)]) (N := nLaw) (sc := defScope sLaw) (by decide +kernel)) (fun _ _ _ _ _ => pg_name (i := 13) scLaw.nd rfl (Or.inl rfl) (hf := Or.inr rfl))
          (fun σ0 s0 H0 C0 cl0 fp0 BI => pe_lamvalB (TT := TTwhy K C1 C2) (k := 5) BI (by rfl) DW.gl DW.kp lkW ccW bW scWhy rfl (.inl rfl) (why_gives r3 DF GF bF m1 m2) hr (fun d hd => by
            cases List.mem_singleton.mp hd
            exact lo0 ⟨rfl, rfl, T.gl, M, GI4, bR3⟩) (fun d hd => by
            rcases List.mem_cons.mp hd with rfl | hd
            · exact lo1 ⟨rfl, rfl, T.gl, M, GI4, bR3⟩
            · cases List.mem_singleton.mp hd
              exact lo2 ⟨rfl, rfl, T.gl, M, GI4, bR3⟩ kBT) (pv 13))) (pa_cons (pe_lst (pa_cons (pe_tup (pa_cons pe_str (pa_cons (pv 11) pa_nil))) (pa_cons (pe_tup (pa_cons pe_str (pa_cons (pv 11) pa_nil))) (pa_cons (pe_tup (pa_cons pe_str (pa_cons pe_int pa_nil))) pa_nil)))) pa_nil))))) (pss_one (ps_ret pe_bl)) pss_nil))))))))))))))))
      (pss_one (ps_ret pe_bl)))), ?_⟩
    refine ⟨_, rfl, a, ns, rfl, hS, fun b H1 B1 nb s1 => ?_⟩
    have T1 : LamX.Tabs [(PT, qn)] H1 := fun p hp => by
      cases List.mem_singleton.mp hp
      exact LamX.TabS.nil (s1 _ _ hP)
    clear hS hlen hP s1 nb
    refine ⟨3, rfl, by decide, by decide, for_range (n := 3) (fun i σ H' => ∃ x2 x3 x4 x5 x6 x7 x8 x9 x10 x11 x12 x13 : Option V, σ = [some (.ref a), some (.ref b), x2, x3, x4, x5, x6, x7, x8, x9, x10, x11, x12, x13] ∧ BagAt H' b (i * 20) ∧ LamX.Tabs [(PT, qn)] H') ⟨none, none, none, none, none, none, none, none, none, none, none, none, rfl, B1, T1⟩ ?_ ?_⟩
    · clear B1 T1 H1
      rintro i σ H0 hi ⟨x2, x3, x4, x5, x6, x7, x8, x9, x10, x11, x12, x13, rfl, B0, T0⟩
      refine ⟨fun σ H' => ∃ t lo k : Int, σ = [some (.ref a), some (.ref b), some (.int (0 + (i : Int))), some (.int t), some (.int lo), some (.int k), x6, x7, x8, x9, x10, x11, x12, x13] ∧ t.natAbs ≤ 100003 ∧ (0 < lo ∧ lo ≤ 60) ∧ (0 < k ∧ k ≤ 30) ∧ BagAt H' b (i * 20 + 4) ∧ LamX.Tabs [(PT, qn)] H', ?_, ?_⟩
      · refine ⟨_, rfl, b, i * 20, rfl, B0, by omega, fun t0 H1 ht B1 f1 => ⟨_, rfl, b, 60, i * 20 + 2, rfl, by decide, by decide, B1, by omega, fun r H2 r0 r1 B2 f2 => ⟨_, _, rfl, rfl, _, rfl, b, 30, i * 20 + 3, rfl, by decide, by decide, B2, by omega, fun k H3 k0 k1 B3 f3 => ⟨_, _, rfl, rfl, (by show 3 ≤ sizeLine; decide), fun T3 hT => ?_⟩⟩⟩⟩
        obtain ⟨ys, hb⟩ := B0.lst
        obtain ⟨ys1, hb1⟩ := B1.lst
        obtain ⟨ys2, hb2⟩ := B2.lst
        have sT := same_upd (o := .tup [.int t0, .int (1 + r), .int (1 + k)]) hT
        exact ⟨T3, _, rfl, .of upd_same, rfl, _, _, rfl, _, _, rfl, _, _, rfl, rfl, t0, 1 + r, 1 + k, rfl, ht, ⟨by omega, by omega⟩, ⟨by omega, by omega⟩, B3.same sT, Tabs.same (Tabs.but (Tabs.but (Tabs.but T0 hb f1) hb1 f2) hb2 f3) sT⟩
      · clear B0 T0 H0
        rintro σ H0 ⟨t, lo, k, rfl, ht, ⟨lo0, lo1⟩, ⟨k0, k1⟩, B0, T0⟩
        refine ⟨fun σ H' => ∃ sg : Int, σ = [some (.ref a), some (.ref b), some (.int (0 + (i : Int))), some (.int t), some (.int lo), some (.int k), some (.int sg), x7, x8, x9, x10, x11, x12, x13] ∧ (sg = 1 ∨ sg = -1) ∧ BagAt H' b (i * 20 + 5) ∧ LamX.Tabs [(PT, qn)] H', ?_, ?_⟩
        · refine ⟨_, rfl, b, 2, i * 20 + 4, rfl, by decide, by decide, B0, by omega, fun r H1 r0 r1 B1 f1 => ⟨_, _, rfl, rfl, cw (m := 2) (n := 2) (by decide) (by omega) (by decide) (by decide), _, _, rfl, rfl, ?_⟩⟩
          obtain ⟨ys, hb⟩ := B0.lst
          exact ⟨1 - 2 * r, rfl, by omega, B1, Tabs.but T0 hb f1⟩
        · clear B0 T0 H0
          rintro σ H0 ⟨sg, rfl, hsg, B0, T0⟩
          refine ⟨fun σ H' => ∃ p : Addr, σ = [some (.ref a), some (.ref b), some (.int (0 + (i : Int))), some (.int t), some (.int lo), some (.int k), some (.int sg), some (.ref p), x8, x9, x10, x11, x12, x13] ∧ TupI H' p (nT t lo) (nB t lo) ∧ BagAt H' b (i * 20 + 5) ∧ LamX.Tabs [(PT, qn)] H', ?_, ?_⟩
          · exact ⟨_, rfl, _, rfl, t, lo, rfl, by omega, bdN (n := 60) (by omega) (by decide), fun p H1 hp s1 => ⟨p, rfl, hp, B0.same s1, Tabs.same T0 s1⟩⟩
          · clear B0 T0 H0
            rintro σ H0 ⟨p, rfl, hp0, B0, T0⟩
            have N := nm_of ht lo0 lo1
            refine ⟨fun σ H' => ∃ l : Addr, σ = [some (.ref a), some (.ref b), some (.int (0 + (i : Int))), some (.int t), some (.int lo), some (.int k), some (.int sg), some (.ref p), some (.ref l), x9, x10, x11, x12, x13] ∧ Cur CR PT H' b (i * 20 + 5) p l (nT t lo) (nB t lo), ?_, ?_⟩
            · have m1 : (t * k).natAbs ≤ 100003 * 30 := by
                rw [Int.natAbs_mul]
                exact Nat.mul_le_mul ht (by omega)
              have m2 : (lo * k).natAbs ≤ 60 * 30 := by
                rw [Int.natAbs_mul]
                exact Nat.mul_le_mul (by omega) (by omega)
              have ws : sg.natAbs ≤ 1 := by omega
              have nz : lo * k * sg ≠ 0 := Int.mul_ne_zero (Int.mul_ne_zero (by omega) (by omega)) (by omega)
              have mb : (lo * k * sg).natAbs ≤ 60 * 30 * 1 := by
                rw [Int.natAbs_mul]
                exact Nat.mul_le_mul m2 ws
              refine ⟨_, rfl, _, rfl, _, _, rfl, rfl, cw ht (n := 30) (by omega) (by decide) (by decide), _, rfl, _, _, rfl, rfl, cw m1 ws (by decide) (by decide), _, rfl, _, rfl, _, _, rfl, rfl, cw (m := 60) (n := 30) (by omega) (by omega) (by decide) (by decide), _, rfl, _, _, rfl, rfl, cw m2 ws (by decide) (by decide), fun x dx nx nd ne => rat_made rfl nx nd nz (bdN mb (by decide)) fun H1 rx s1 => ?_⟩
              rw [(wide_low lo0 k0 hsg).1, (wide_low lo0 k0 hsg).2] at rx
              exact ⟨x, rfl, hp0.same s1, rx, B0.same s1, Tabs.same T0 s1⟩
            · clear B0 T0 hp0 H0
              rintro σ H0 ⟨l, rfl, c0⟩
              generalize nT t lo = T1 at N c0
              generalize nB t lo = D1 at N c0
              refine ⟨fun σ H' => σ = [some (.ref a), some (.ref b), some (.int (0 + (i : Int))), some (.int t), some (.int lo), some (.int k), some (.int sg), some (.ref p), some (.ref l), x9, x10, x11, x12, x13] ∧ Same H0 H', ?_, ?_⟩
              · obtain ⟨dl, hl⟩ := id c0.rl
                refine ⟨_, rfl, l, T1, D1, rfl, c0.rl, fun u K1 hu s1 => ⟨_, rfl, _, _, tup_dp hu, tup_dp (c0.hp.same s1), rfl, rfl, _, rfl, ?_⟩⟩
                rw [SeqAt.eqv_refl _ rfl]
                have c1 := c0.same s1
                refine iteF ⟨_, rfl, l, dl, _, rfl, s1 _ _ hl, l, T1, D1, rfl, c1.rl, _, rfl, p, _, 1, _, rfl, rfl, .of c1.hp, rfl, rfl, _, _, rfl, like_plain (by rw [dec_int]) (.inr (.inl ⟨_, rfl⟩)), fun H4 s4 => ⟨_, rfl, iteF ⟨rfl, s1.trans s4⟩⟩⟩
              · rintro σ HH1 ⟨rfl, s01⟩
                have cc1 := c0.same s01
                clear c0 s01
                refine ⟨fun σ H' => σ = [some (.ref a), some (.ref b), some (.int (0 + (i : Int))), some (.int t), some (.int lo), some (.int k), some (.int sg), some (.ref p), some (.ref l), x9, x10, x11, x12, x13] ∧ Same HH1 H', ?_, ?_⟩
                · obtain ⟨dl, hl⟩ := id cc1.rl
                  refine ⟨_, rfl, l, dl, _, rfl, hl, l, T1, D1, rfl, cc1.rl, N.wt, N.wb, fun K1 s1 => ⟨_, rfl, _, rfl, l, dl, _, rfl, s1 _ _ hl, l, T1, D1, rfl, cc1.rl.same s1, N.wt, N.wb, fun K2 s2 => ⟨_, rfl, (by show 2 ≤ sizeLine; decide), fun A1 hA1 => ?_⟩⟩⟩
                  have sA := same_upd (o := .lst [.str (ctext T1 D1), .str ("Ratio(" ++ ctext T1 D1 ++ ")")]) hA1
                  have S1 := (s1.trans s2).trans sA
                  have l1 : ("Ratio(" : Str).length ≤ 10 := by decide
                  have l2 : (")" : Str).length ≤ 5 := by decide
                  have l3 := ctext_len N.wt N.wb
                  have h1 := app_len l1 l3
                  refine ⟨_, rfl, p, T1, D1, rfl, cc1.hp.same S1, N.wt, N.wb, _, rfl, p, T1, D1, rfl, cc1.hp.same S1, N.wt, N.wb, _, _, rfl, rfl, fit2 (m := 100) (by omega) (by decide), _, _, rfl, rfl, fit2 (m := 100) (by omega) (by decide), (by show 2 ≤ sizeLine; decide), fun A2 hA2 => ?_⟩
                  refine ⟨_, _, rfl, like_seq (.inr ⟨(same_upd hA2) _ _ upd_same, upd_same⟩) rfl (by show 2 ≤ 1000; decide) (like_ps fun x hx => ?_), fun H3 s3 => ⟨_, rfl, iteF ⟨rfl, (S1.trans (same_upd hA2)).trans s3⟩⟩⟩
                  simp only [List.mem_cons, List.mem_nil_iff, or_false] at hx
                  rcases hx with rfl | rfl <;> exact .inr (.inr (.inr ⟨_, rfl⟩))
                · rintro σ HH2 ⟨rfl, s01⟩
                  have cc2 := cc1.same s01
                  clear cc1 s01
                  refine ⟨fun σ H' => ∃ (o : Addr) (T2 D2 : Int), σ = [some (.ref a), some (.ref b), some (.int (0 + (i : Int))), some (.int t), some (.int lo), some (.int k), some (.int sg), some (.ref p), some (.ref l), some (.ref o), x10, x11, x12, x13] ∧ RatAt CR H' o T2 D2 ∧ Cur CR PT H' b (i * 20 + 6) p l T1 D1, ?_, ?_⟩
                  · refine ⟨_, rfl, b, 2, i * 20 + 5, rfl, by decide, by decide, cc2.bg, by omega, fun r H1 r0 r1 B1 f1 => ⟨rfl, _, rfl, ?_⟩⟩
                    obtain ⟨ys, hb⟩ := cc2.bg.lst
                    have hp1 := cc2.hp.but hb f1
                    have rl1 := cc2.rl.but hb f1
                    have tb1 := Tabs.but cc2.tb hb f1
                    have c1 : Cur CR PT H1 b (i * 20 + 6) p l T1 D1 := ⟨hp1, rl1, B1, tb1⟩
                    have hN := N.ht
                    have hM := N.hb
                    have hD := N.p
                    by_cases z : r = 0
                    · rw [decide_eq_true (show V.int r = V.int 0 by rw [z])]
                      refine iteT ⟨_, rfl, p, _, 0, _, rfl, rfl, .of hp1, rfl, _, _, rfl, rfl, _, rfl, p, _, 1, _, rfl, rfl, .of hp1, rfl, (by show 2 ≤ sizeLine; decide), fun A1 hA1 => ?_⟩
                      have sA := same_upd (o := .tup [.int (T1 + 1), .int D1]) hA1
                      exact ⟨A1, T1 + 1, D1, rfl, upd_same, N.ne, bdN hM (by decide), fun o K1 ro s1 => ⟨o, _, _, rfl, ro, c1.same (sA.trans s1)⟩⟩
                    · rw [decide_eq_false (fun e => z (V.int.inj e) : ¬ V.int r = V.int 0)]
                      exact iteF ⟨_, rfl, p, _, 0, _, rfl, rfl, .of hp1, rfl, _, rfl, p, _, 1, _, rfl, rfl, .of hp1, rfl, _, _, rfl, rfl, fun x dx nx nd ne => rat_made rfl nx nd (by omega) (bdN (n := 61) (by omega) (by decide)) fun K1 ro s1 => ⟨x, _, _, rfl, ro, c1.same s1⟩⟩
                  · clear cc2
                    rintro σ H6 ⟨o, T2, D2, rfl, ro, c6⟩
                    refine ⟨fun σ H' => σ = [some (.ref a), some (.ref b), some (.int (0 + (i : Int))), some (.int t), some (.int lo), some (.int k), some (.int sg), some (.ref p), some (.ref l), some (.ref o), some (.bl (!(decide (T1 = T2) && decide (D1 = D2)))), x11, x12, x13] ∧ H' = H6, ?_, ?_⟩
                    · obtain ⟨d2, ho⟩ := id ro
                      refine ⟨_, rfl, o, CR, d2, _, _, rfl, ho, T.cl, T.nT, rf_top _ _, _, rfl, p, _, 0, _, rfl, rfl, .of c6.hp, rfl, rfl, _, rfl, ?_⟩
                      show if (!decide (V.int T2 = V.int T1)) = true then _ else _
                      rw [dec_int]
                      by_cases e1 : T1 = T2
                      · rw [decide_eq_true e1.symm]
                        refine iteF ⟨_, rfl, o, CR, d2, _, _, rfl, ho, T.cl, T.nB, rf_bot _ _, _, rfl, p, _, 1, _, rfl, rfl, .of c6.hp, rfl, rfl, ?_, rfl⟩
                        rw [decide_eq_true e1, dec_int]
                        have e2 : decide (D2 = D1) = decide (D1 = D2) := by
                          by_cases e : D1 = D2
                          · rw [decide_eq_true e, decide_eq_true e.symm]
                          · rw [decide_eq_false e, decide_eq_false (fun z => e z.symm)]
                        rw [e2]
                        rfl
                      · rw [decide_eq_false (fun z => e1 z.symm)]
                        refine iteT ⟨?_, rfl⟩
                        rw [decide_eq_false e1]
                        rfl
                    · rintro σ H6 ⟨rfl, rfl⟩
                      refine ⟨fun σ H' => σ = [some (.ref a), some (.ref b), some (.int (0 + (i : Int))), some (.int t), some (.int lo), some (.int k), some (.int sg), some (.ref p), some (.ref l), some (.ref o), some (.bl (!(decide (T1 = T2) && decide (D1 = D2)))), x11, x12, x13] ∧ Same H6 H', ?_, ?_⟩
                      · obtain ⟨dl, hl⟩ := id c6.rl
                        refine ⟨_, rfl, _, rfl, p, T1, D1, rfl, c6.hp, N.ne, bdN N.hb (by decide), fun r K1 rr s1 => ?_⟩
                        rw [N.low.1, N.low.2] at rr
                        have ro1 := ro.same s1
                        have rl1 := c6.rl.same s1
                        refine ⟨l, dl, _, .ref CR, rfl, s1 _ _ hl, rr.ty T, T.f1, .inl ⟨l, r, _, _, _, _, rfl, rl1, rr, _, rfl, ?_⟩⟩
                        refine ⟨_, rfl, _, rfl, l, dl, _, .ref CR, rfl, s1 _ _ hl, ro1.ty T, T.f1, .inl ⟨l, o, _, _, _, _, rfl, rl1, ro1, _, rfl, ?_⟩⟩
                        refine ⟨_, rfl, _, rfl, l, dl, _, .ref CR, rfl, s1 _ _ hl, ro1.ty T, T.f1, .inl ⟨l, o, _, _, _, _, rfl, rl1, ro1, _, rfl, (by show 3 ≤ sizeLine; decide), fun A1 hA1 => ?_⟩⟩
                        refine ⟨_, rfl, _, rfl, _, rfl, (by show 3 ≤ sizeLine; decide), fun A2 hA2 => ?_⟩
                        refine ⟨_, _, rfl, like_seq (xs := [.bl true, .bl (decide (T1 = T2) && decide (D1 = D2)), .bl (!(decide (T1 = T2) && decide (D1 = D2)))]) (.inr ⟨?_, ?_⟩) rfl (by show 3 ≤ 1000; decide) (like_ps fun x hx => ?_), fun H3 s3 => ⟨_, rfl, iteF ⟨rfl, ((s1.trans (same_upd hA1)).trans (same_upd hA2)).trans s3⟩⟩⟩
                        · rw [upd_ne (ne_of_none upd_same hA2), upd_same, decide_eq_true (rfl : T1 = T1), decide_eq_true (rfl : D1 = D1)]
                          cases (decide (T1 = T2) && decide (D1 = D2)) <;> rfl
                        · rw [upd_same]
                          cases (decide (T1 = T2) && decide (D1 = D2)) <;> rfl
                        · simp only [List.mem_cons, List.mem_nil_iff, or_false] at hx
                          rcases hx with rfl | rfl | rfl <;> exact .inr (.inl ⟨_, rfl⟩)
                      · rintro σ HH3 ⟨rfl, s01⟩
                        have cc3 := c6.same s01
                        clear c6 s01
                        clear ro
                        refine ⟨fun σ H' => σ = [some (.ref a), some (.ref b), some (.int (0 + (i : Int))), some (.int t), some (.int lo), some (.int k), some (.int sg), some (.ref p), some (.ref l), some (.ref o), some (.bl (!(decide (T1 = T2) && decide (D1 = D2)))), x11, x12, x13] ∧ Same HH3 H', ?_, ?_⟩
                        · obtain ⟨dl, hl⟩ := id cc3.rl
                          refine ⟨_, rfl, _, rfl, p, _, 0, _, rfl, rfl, .of cc3.hp, rfl, l, dl, _, .type "int", rfl, hl, .base (.int _), NF.i, .inr (.inl ⟨l, T1, D1, T1, rfl, cc3.rl, _, rfl, ?_⟩)⟩
                          refine ⟨_, rfl, p, _, 0, _, rfl, rfl, .of cc3.hp, rfl, _, rfl, l, dl, _, T1, rfl, rfl, hl, .inr (.inl ⟨l, T1, D1, T1, rfl, cc3.rl, _, rfl, ?_⟩)⟩
                          refine ⟨_, rfl, _, rfl, p, _, 0, _, rfl, rfl, .of cc3.hp, rfl, _, rfl, log2_w N.wt, l, dl, _, .type "str", rfl, hl, .base (.str _), NF.s, .inr (.inr ⟨l, T1, D1, .str _, rfl, cc3.rl, ⟨_, false, false, .base (.str _), T.kS, kit_ty (by decide +kernel), kit_ty (by decide +kernel), rfl⟩, _, rfl, (by show 3 ≤ sizeLine; decide), fun A1 hA1 => ?_⟩)⟩
                          have sA := same_upd (o := .lst [.bl ((decide (D1 = 1) && decide (T1 = T1)) != false), .bl (decide (D1 = 1) && decide (T1 = T1)), .bl (false != false)]) hA1
                          have hp1 := cc3.hp.same sA
                          refine ⟨_, rfl, p, _, 1, _, rfl, rfl, .of hp1, rfl, rfl, _, rfl, p, _, 1, _, rfl, rfl, .of hp1, rfl, rfl, (by show 3 ≤ sizeLine; decide), fun A2 hA2 => ?_⟩
                          refine ⟨_, _, rfl, like_seq (xs := [.bl (decide (D1 = 1)), .bl (decide (D1 = 1)), .bl false]) (.inr ⟨?_, ?_⟩) rfl (by show 3 ≤ 1000; decide) (like_ps fun x hx => ?_), fun H3 s3 => ⟨_, rfl, iteF ⟨rfl, (sA.trans (same_upd hA2)).trans s3⟩⟩⟩
                          · rw [upd_ne (ne_of_none upd_same hA2), upd_same, decide_eq_true (rfl : T1 = T1)]
                            cases decide (D1 = 1) <;> rfl
                          · rw [upd_same]
                            show some (HO.lst [V.bl (decide (V.int D1 = V.int 1)), V.bl (decide (V.int D1 = V.int 1)), V.bl false]) = _
                            rw [dec_int]
                          · simp only [List.mem_cons, List.mem_nil_iff, or_false] at hx
                            rcases hx with rfl | rfl | rfl <;> exact .inr (.inl ⟨_, rfl⟩)
                        · rintro σ HH4 ⟨rfl, s01⟩
                          have cc4 := cc3.same s01
                          clear cc3 s01
                          refine ⟨fun σ H' => σ = [some (.ref a), some (.ref b), some (.int (0 + (i : Int))), some (.int t), some (.int lo), some (.int k), some (.int sg), some (.ref p), some (.ref l), some (.ref o), some (.bl (!(decide (T1 = T2) && decide (D1 = D2)))), x11, x12, x13] ∧ Same HH4 H', ?_, ?_⟩
                          · refine ⟨_, rfl, fun x dx nx ndx ex => rat_made (t := t) (b := 1) rfl nx ndx (by decide) (bdN (n := 1) (by decide) (by decide)) fun K1 rx s1 => ?_⟩
                            rw [(n_one t).1, (n_one t).2] at rx
                            refine ⟨x, t, 1, rfl, rx, fun u K2 hu s2 => ⟨_, rfl, (by show 2 ≤ sizeLine; decide), fun A1 hA1 => ?_⟩⟩
                            have sA := same_upd (o := .tup [.int t, .int 1]) hA1
                            refine ⟨_, _, rfl, like_seq (.inl ⟨sA _ _ hu, upd_same⟩) rfl (by show 2 ≤ 1000; decide) (like_ps fun x hx => ?_), fun K3 s3 => ⟨_, rfl, iteF ?_⟩⟩
                            · simp only [List.mem_cons, List.mem_nil_iff, or_false] at hx
                              rcases hx with rfl | rfl <;> exact .inr (.inr (.inl ⟨_, rfl⟩))
                            refine fun y dy ny ndy ey => rat_made (t := 1) (b := 1) rfl ny ndy (by decide) (bdN (n := 1) (by decide) (by decide)) fun K4 ry s4 => ?_
                            obtain ⟨dy2, hy⟩ := id ry
                            refine ⟨y, dy2, _, .type "bool", rfl, hy, .base (.bl _), NF.b, .inr (.inr ⟨y, _, _, .bl true, rfl, ry, ⟨_, true, true, .base (.bl _), T.kB, kit_ty (by decide +kernel), kit_ty (by decide +kernel), rfl⟩, _, rfl, _, rfl, iteF ?_⟩)⟩
                            refine fun z dz nz ndz ez => rat_made (t := 0) (b := 1) rfl nz ndz (by decide) (bdN (n := 1) (by decide) (by decide)) fun K5 rz s5 => ?_
                            obtain ⟨dz2, hz⟩ := id rz
                            exact ⟨z, dz2, _, .type "NoneType", rfl, hz, .base .non, NF.n, .inr (.inr ⟨z, _, _, .non, rfl, rz, ⟨_, false, false, .base .non, T.kN, kit_ty (by decide +kernel), kit_ty (by decide +kernel), rfl⟩, _, rfl, _, rfl, iteF ⟨rfl, ((((s1.trans s2).trans sA).trans s3).trans s4).trans s5⟩⟩)⟩
                          · rintro σ HH5 ⟨rfl, s01⟩
                            have cc5 := cc4.same s01
                            clear cc4 s01
                            refine ⟨fun σ H' => ∃ v0 : V, σ = [some (.ref a), some (.ref b), some (.int (0 + (i : Int))), some (.int t), some (.int lo), some (.int k), some (.int sg), some (.ref p), some (.ref l), some (.ref o), some (.bl (!(decide (T1 = T2) && decide (D1 = D2)))), some v0, x12, x13] ∧ OddN H' v0 ∧ BagAt H' b (i * 20 + 7) ∧ LamX.Tabs [(PT, qn)] H', ?_, ?_⟩
                            · refine ⟨_, rfl, (by show 1 ≤ sizeLine; decide), fun l1 hl1 => ⟨(by show 2 ≤ sizeLine; decide), fun t1 ht1 => ⟨(by show 6 ≤ sizeLine; decide), fun Lo hLo => ?_⟩⟩⟩
                              have s1 := same_upd (o := .lst [V.int 1]) hl1
                              have s2 := same_upd (o := .tup [V.int 1, .int 2]) ht1
                              have s3 := same_upd (o := .lst [V.non, .str "1", .bl true, .ref l1, .ref t1, .str ""]) hLo
                              have c1 := cc5.same ((s1.trans s2).trans s3)
                              obtain ⟨ys, hb⟩ := cc5.bg.lst
                              obtain ⟨ys2, hb2⟩ := c1.bg.lst
                              have nLo : Lo ≠ b := (ne_of_none ((s1.trans s2) _ _ hb) hLo).symm
                              have nl : l1 ≠ b := (ne_of_none hb hl1).symm
                              refine ⟨b, Lo, i * 20 + 6, _, rfl, c1.bg, by omega, nLo, upd_same, (by show 0 < 6; decide), (by show 6 ≤ 1000; decide), fun j v K2 hj B2 f2 => ?_⟩
                              have h1 := f2 _ _ ((s2.trans s3) _ _ (upd_same (a := l1) (o := .lst [V.int 1]))) nl
                              have nt : t1 ≠ b := (ne_of_none (s1 _ _ hb) ht1).symm
                              have h2 := f2 _ _ (s3 _ _ (upd_same (a := t1) (o := .tup [V.int 1, .int 2]))) nt
                              refine ⟨v, rfl, ?_, B2, Tabs.but c1.tb hb2 f2⟩
                              match j, hj with
                              | 0, hj => exact .inl (Option.some.inj hj).symm
                              | 1, hj => exact .inr (.inl (Option.some.inj hj).symm)
                              | 2, hj => exact .inr (.inr (.inl (Option.some.inj hj).symm))
                              | 3, hj => exact .inr (.inr (.inr (.inr (.inl ⟨l1, (Option.some.inj hj).symm, h1⟩))))
                              | 4, hj => exact .inr (.inr (.inr (.inr (.inr ⟨t1, (Option.some.inj hj).symm, h2⟩))))
                              | 5, hj => exact .inr (.inr (.inr (.inl (Option.some.inj hj).symm)))
                            · clear cc5
                              rintro σ H2 ⟨v0, rfl, od, B0, T0⟩
                              refine ⟨fun σ H' => ∃ (L f0 f1 f2 : Addr), σ = [some (.ref a), some (.ref b), some (.int (0 + (i : Int))), some (.int t), some (.int lo), some (.int k), some (.int sg), some (.ref p), some (.ref l), some (.ref o), some (.bl (!(decide (T1 = T2) && decide (D1 = D2)))), some v0, some (.ref L), x13] ∧ H' L = some (.lst [.ref f0, .ref f1, .ref f2]) ∧ Asks K CR CI (envOfC "law" (defScope sLaw) s.heap.objs.size f (.ref c)).cells H' f0 f1 f2 ∧ OddN H' v0 ∧ BagAt H' b (i * 20 + 7) ∧ LamX.Tabs [(PT, qn)] H', ?_, ?_⟩
                              · refine abox_of T0 fun H3 f0 f1 f2 e3 T3 as => ⟨(by show 3 ≤ sizeLine; decide), fun L hL => ?_⟩
                                have sL := same_upd (o := .lst [V.ref f0, .ref f1, .ref f2]) hL
                                exact ⟨L, f0, f1, f2, rfl, upd_same, as.kp (Kp.of sL), (od.kept e3).same sL, (B0.extN e3).same sL, Tabs.same T3 sL⟩
                              · clear od B0 T0
                                rintro σ H3 ⟨L, f0, f1, f2, rfl, hL, as, od, B0, T0⟩
                                have tupE : ∀ {Hx : Hp} {t : Addr} {x : V}, Hx t = some (.tup [.str "InvalidNumber", x]) → ∀ {C : Addr} {xs : List V}, Hx C = some (.lst xs) → C ≠ t := fun h1 C xs h2 z => by
                                  rw [z, h1] at h2
                                  cases h2
                                refine ⟨_, rfl, L, rfl, ⟨_, .of hL⟩, fun C hC => lc_list (xs := [.ref f0, .ref f1, .ref f2]) (fun i H' => Same H3 H' ∧ ∃ t0 t1 t2 : Addr, H' C = some (.lst ([V.ref t0, .ref t1, .ref t2].take i)) ∧ (0 < i → H' t0 = some (.tup [.str "InvalidNumber", v0])) ∧ (1 < i → H' t1 = some (.tup [.str "InvalidNumber", v0])) ∧ (2 < i → H' t2 = some (.tup [.str "InvalidNumber", .int 0]))) ⟨same_upd hC, 0, 0, 0, upd_same, fun z => absurd z (by decide), fun z => absurd z (by decide), fun z => absurd z (by decide)⟩ (fun i H' _ z => .of (z.1 _ _ hL)) ?_ ?_⟩
                                · rintro j x H4 hx ⟨s4, t0, t1, t2, hC4, p0, p1, p2⟩
                                  refine ⟨rfl, ?_⟩
                                  have as4 := as.kp (Kp.of s4)
                                  have od4 := od.same s4
                                  match j, hx, hC4, p0, p1 with
                                  | 0, hx, hC4, p0, p1 =>
                                    obtain rfl := Option.some.inj hx
                                    obtain ⟨c0, la⟩ := as4.a0
                                    refine ⟨_, rfl, .inl ⟨f0, c0, d0 K CR CI, List.mem_singleton.mpr rfl, rfl, la, la.fn, la0 (t := t) (v := v0) ⟨rfl, rfl, od4⟩ fun d H5 s5 hd => told_in TI s5 hd fun u H6 hu s6 => ?_⟩⟩
                                    have nu := tupE hu (s6 _ _ hC4)
                                    exact ⟨_, s6 _ _ hC4, (by show 0 < sizeLine; decide), Same.put (s4.trans s6) hC, u, 0, 0, upd_same, fun _ => (upd_ne nu.symm).trans hu, fun z => absurd z (by omega), fun z => absurd z (by omega)⟩
                                  | 1, hx, hC4, p0, p1 =>
                                    obtain rfl := Option.some.inj hx
                                    obtain ⟨c0, T', la⟩ := as4.a1
                                    refine ⟨_, rfl, .inr ⟨f1, c0, T', d1 K CR CI, List.mem_cons_self, rfl, la, la, la1 (t := t) (v := v0) ⟨rfl, rfl, od4⟩ fun d H5 s5 hd => told_in TI s5 hd fun u H6 hu s6 => ?_⟩⟩
                                    have nu := tupE hu (s6 _ _ hC4)
                                    have h0 := s6 _ _ (p0 (by decide))
                                    exact ⟨_, s6 _ _ hC4, (by show 1 < sizeLine; decide), Same.put (s4.trans s6) hC, t0, u, 0, upd_same, fun _ => (upd_ne (tupE h0 (s6 _ _ hC4)).symm).trans h0, fun _ => (upd_ne nu.symm).trans hu, fun z => absurd z (by omega)⟩
                                  | 2, hx, hC4, p0, p1 =>
                                    obtain rfl := Option.some.inj hx
                                    obtain ⟨c0, T', la⟩ := as4.a2
                                    refine ⟨_, rfl, .inr ⟨f2, c0, T', d2 K CR CI, List.mem_cons_of_mem _ List.mem_cons_self, rfl, la, la, la2 (t := t) (v := v0) ⟨rfl, rfl, od4⟩ fun d H5 s5 hd => told_in TI s5 hd fun u H6 hu s6 => ?_⟩⟩
                                    have nu := tupE hu (s6 _ _ hC4)
                                    have h0 := s6 _ _ (p0 (by decide))
                                    have h1 := s6 _ _ (p1 (by decide))
                                    exact ⟨_, s6 _ _ hC4, (by show 2 < sizeLine; decide), Same.put (s4.trans s6) hC, t0, t1, u, upd_same, fun _ => (upd_ne (tupE h0 (s6 _ _ hC4)).symm).trans h0, fun _ => (upd_ne (tupE h1 (s6 _ _ hC4)).symm).trans h1, fun _ => (upd_ne nu.symm).trans hu⟩
                                · rintro H4 ⟨s4, t0, t1, t2, hC4, p0, p1, p2⟩
                                  refine ⟨_, rfl, (by show 2 ≤ sizeLine; decide), fun u0 h0 => ⟨_, rfl, (by show 2 ≤ sizeLine; decide), fun u1 h1 => ⟨(by show 2 ≤ sizeLine; decide), fun u2 h2 => ⟨(by show 3 ≤ sizeLine; decide), fun D hD => ?_⟩⟩⟩⟩
                                  have q0 := same_upd (o := .tup [.str "InvalidNumber", v0]) h0
                                  have q1 := same_upd (o := .tup [.str "InvalidNumber", v0]) h1
                                  have q2 := same_upd (o := .tup [.str "InvalidNumber", .int 0]) h2
                                  have q3 := same_upd (o := .lst [V.ref u0, .ref u1, .ref u2]) hD
                                  have S4 := ((q0.trans q1).trans q2).trans q3
                                  have od5 := od.same (s4.trans S4)
                                  refine ⟨_, _, rfl, like_seq (n := 3) (.inr ⟨S4 _ _ hC4, upd_same⟩) rfl (by show 3 ≤ 1000; decide) (fun j x y hx hy => ?_), fun H9 s9 => ⟨_, rfl, iteF ?_⟩⟩
                                  · have row : ∀ {t u : Addr} {x : V} {Hx : Hp}, Hx t = some (.tup [.str "InvalidNumber", x]) → Hx u = some (.tup [.str "InvalidNumber", x]) → Like Hx 2 x x → Like Hx 3 (.ref t) (.ref u) := fun {t u x Hx} a1 a2 a3 => like_seq (.inl ⟨a1, a2⟩) rfl (by show 2 ≤ 1000; decide) fun j y z hy hz => by
                                      match j, hy, hz with
                                      | 0, hy, hz =>
                                        obtain rfl := Option.some.inj hy
                                        obtain rfl := Option.some.inj hz
                                        exact like_plain rfl (.inr (.inr (.inr ⟨_, rfl⟩)))
                                      | 1, hy, hz =>
                                        obtain rfl := Option.some.inj hy
                                        obtain rfl := Option.some.inj hz
                                        exact a3
                                    match j, hx, hy with
                                    | 0, hx, hy =>
                                      obtain rfl := Option.some.inj hx
                                      obtain rfl := Option.some.inj hy
                                      exact row (S4 _ _ (p0 (show 0 < 3 by decide))) (((q1.trans q2).trans q3) _ _ upd_same) (od5.like 0)
                                    | 1, hx, hy =>
                                      obtain rfl := Option.some.inj hx
                                      obtain rfl := Option.some.inj hy
                                      exact row (S4 _ _ (p1 (show 1 < 3 by decide))) ((q2.trans q3) _ _ upd_same) (od5.like 0)
                                    | 2, hx, hy =>
                                      obtain rfl := Option.some.inj hx
                                      obtain rfl := Option.some.inj hy
                                      exact row (S4 _ _ (p2 (show 2 < 3 by decide))) (q3 _ _ upd_same) (like_plain rfl (.inr (.inr (.inl ⟨_, rfl⟩))))
                                  · have S9 := (s4.trans S4).trans s9
                                    exact ⟨_, _, _, _, _, _, _, _, _, _, _, _, rfl, (B0.same S9).more (by omega), Tabs.same T0 S9⟩
    · rintro σ H2 ⟨x2, x3, x4, x5, x6, x7, x8, x9, x10, x11, x12, x13, rfl, _⟩
      exact q _
end
end K02

set_option Elab.async false
set_option linter.all false
set_option maxRecDepth 100000
set_option maxHeartbeats 8000000
set_option pp.maxSteps 400
namespace K02
open PySem PySem.Spec PyProof.Rows L2 Ux
def isB (a : Option (Option Value)) (v : Value) : Bool := decide (a = some (some v))
def isN (a : Option (Option Value)) : Bool := decide (a = some none)
theorem isB_of {a : Option (Option Value)} {v : Value} (h : isB a v = true) : a = some (some v) := of_decide_eq_true h
theorem isN_of {a : Option (Option Value)} (h : isN a = true) : a = some none := of_decide_eq_true h
/-- what every class of the text has -/
def chC (K : PySem.W.Frag) (C f : Addr) : Bool := PySem.W.plainGet K C Str.empty && (PySem.W.hasDictIn K C && (PySem.W.plainOver K C && (isB (PySem.W.findIn K (.ref C) "__setattr__") (.builtin "object.__setattr__") &&
  (isB (PySem.W.findIn K (.ref C) "__class__") (.builtin "object.__class__") && (decide (PySem.W.mroIn K C (.type "object") = some true) && (decide (PySem.W.kitOne K (.ref C) (.ref C) = some true) &&
  (PySem.W.makesIn K C && (isB (PySem.W.findIn K (.ref C) "__init__") (.ref f) && (PySem.W.isFn K (.ref f) && PySem.W.keepIn K (.ref C))))))))))
def chM (K : PySem.W.Frag) (C : Addr) (m : Str) (f : Addr) : Bool := isB (PySem.W.findIn K (.ref C) m) (.ref f) && PySem.W.isFn K (.ref f)
def chG (K : PySem.W.Frag) : Bool := isB (PySem.W.specialIn K (.builtin "object.__class__") "__get__") (.builtin "getset_descriptor.__get__") && decide (PySem.W.takesIn K (.builtin "object.__class__") = some true)
theorem cls_of {K : PySem.W.Frag} {C f : Addr} (h : chC K C f = true) : Cls K C ∧ PySem.W.findIn K (.ref C) "__class__" = some (some (.builtin "object.__class__")) ∧ PySem.W.mroIn K C (.type "object") = some true ∧ PySem.W.kitOne K (.ref C) (.ref C) = some true ∧ Mk K C f := by
  simp only [chC, Bool.and_eq_true] at h
  obtain ⟨h1, h2, h3, h4, h5, h6, h7, h8, h9, h10, h11⟩ := h
  exact ⟨⟨h1, h2, h3, isB_of h4⟩, isB_of h5, of_decide_eq_true h6, of_decide_eq_true h7, ⟨h8, isB_of h9, h10, h11⟩⟩
theorem own_of {K : PySem.W.Frag} {C : Addr} {m : Str} {f : Addr} (h : chM K C m f = true) : OwnM K C m f := ⟨isB_of (Bool.and_eq_true_iff.mp h).1, (Bool.and_eq_true_iff.mp h).2⟩
theorem same_zero {P : Program} {w : World} {K : PySem.W.Frag} {mg : Str → Option Value} {base : Heap} {f : Addr} {fd : FuncData} : FnOk P w K mg base CX0 0 f fd ["_law_found", "_law_due"] (spSame 0) :=
  ⟨fun _ _ _ _ h => by obtain ⟨_, _, rfl, z, _⟩ := h; exact z.elim, fun _ _ _ _ _ _ _ _ _ _ _ _ _ h => by obtain ⟨_, _, _, z, _⟩ := h; exact z.elim⟩
abbrev pR3 : List Str := ["self", "top", "bottom"]
theorem r_binds2 {K : PySem.W.Frag} {f : Addr} {fd : FuncData} (F : FunD K "__init__" "Ratio.__init__" (defArgs sRInit) (defBody sRInit) (defScope sRInit) [.int 1] [] f fd) : ∃ ds, Vals [V.int 1] ds ∧ Binds K fd ["self", "top", "bottom"] ds :=
  F.binds1 2 0 (by simp) rfl fun T kV doc pm an cdv ct us its h1 h2 => match us, its, h1, h2 with | [_, _], [_], _, _ => ⟨_, rfl, rfl⟩
theorem r_binds3 {K : PySem.W.Frag} {f : Addr} {fd : FuncData} (F : FunD K "__init__" "Ratio.__init__" (defArgs sRInit) (defBody sRInit) (defScope sRInit) [.int 1] [] f fd) : Binds K fd ["self", "top", "bottom"] [] := by
  obtain ⟨ds, v, b⟩ := F.binds1 (ps := ["self", "top", "bottom"]) 3 1 (by simp) rfl fun T kV doc pm an cdv ct us its h1 h2 => match us, its, h1, h2 with | [_, _, _], [_], _, _ => ⟨_, rfl, rfl⟩
  cases v
  exact b
def chR (K : PySem.W.Frag) (C fi fe fs fr aW : Addr) : Bool := chC K C fi && (isN (PySem.W.findIn K (.ref C) "top") && (isN (PySem.W.findIn K (.ref C) "bottom") && (decide (PySem.W.kitOne K (.type "int") (.ref C) = some false) && (decide (PySem.W.kitOne K (.type "NoneType") (.ref C) = some false) &&
  (decide (PySem.W.kitOne K (.type "str") (.ref C) = some false) && (decide (PySem.W.kitOne K (.type "bool") (.ref C) = some false) && (decide (PySem.W.kitOne K (.ref C) (.type "str") = some false) && (decide (PySem.W.kitOne K (.ref C) (.type "int") = some false) &&
  (PySem.W.notFirst K C (.ref C) && (chM K C "__eq__" fe && (isB (PySem.W.findIn K (.ref C) "__ne__") (.builtin "object.__ne__") && (chM K C "__str__" fs && (chM K C "__repr__" fr && (isB (PySem.W.findIn K (.ref C) "__format__") (.builtin "object.__format__") &&
  (PySem.W.notFirst K C (.type "int") && (PySem.W.notFirst K C (.type "str") && (PySem.W.notFirst K C (.type "bool") && (PySem.W.notFirst K C (.type "NoneType") && (decide (PySem.W.subIn K (.ref C) (.type "int") = some false) &&
  (isB (PySem.W.specialIn K (.ref aW) "__get__") (.builtin "property.__get__") && decide (PySem.W.takesIn K (.ref aW) = some true)))))))))))))))))))))
def chB (K : PySem.W.Frag) (C : Addr) (ini : String) : Bool :=
  isB (PySem.W.specialIn K (.ref C) "__getattribute__") (.builtin "type.__getattribute__") && (PySem.W.readsIn K C (.type "type") && PySem.W.handedIn (.builtin ini))
abbrev veB : List Value := [.type "ValueError", .type "Exception", .type "BaseException", .type "object"]
def chI (K : PySem.W.Frag) (C CS CM f : Addr) : Bool :=
  PySem.W.excInitIn K C veB "ValueError.__new__" && (PySem.W.excOver K C veB && (PySem.W.hasDictIn K C && (isB (PySem.W.findIn K (.ref C) "__setattr__") (.builtin "object.__setattr__") && (PySem.W.keepIn K (.ref C) && (isB (PySem.W.findIn K (.ref C) "__getattribute__") (.builtin "BaseException.__getattribute__") &&
  (isN (PySem.W.findIn K (.ref C) "__getattr__") && (decide (PySem.W.subIn K (.ref C) (.type "BaseException") = some true) && (fieldNames.all (fun x => isN (PySem.W.findIn K (.ref C) x)) && decide (PySem.W.exmAny K (.ref C) [.ref CS, .ref CM] = some true)))))))))
theorem rt_of {K : PySem.W.Frag} {mg : Str → Option Value} {C fi fe fs fr aW : Addr} (h : chR K C fi fe fs fr aW = true) (g : chG K = true) (gl : mg "Ratio" = some (.ref C)) : RT K mg C ∧ Mk K C fi ∧ OwnM K C "__eq__" fe ∧ NeO K C ∧ OwnM K C "__str__" fs ∧ OwnM K C "__repr__" fr ∧ FmO K C ∧ NotF K C ∧ PySem.W.subIn K (.ref C) (.type "int") = some false ∧
    PySem.W.specialIn K (.ref aW) "__get__" = some (some (.builtin "property.__get__")) ∧ PySem.W.takesIn K (.ref aW) = some true := by
  simp only [chR, Bool.and_eq_true] at h
  obtain ⟨h0, n1, n2, h1, h2, h3, h4, h5, h6, h7, h8, h9, h10, h11, h12, f1, f2, f3, f4, h13, h14, h15⟩ := h
  obtain ⟨c1, c2, c3, c4, c5⟩ := cls_of h0
  obtain ⟨g1, g2⟩ := Bool.and_eq_true_iff.mp g
  exact ⟨⟨c1, isN_of n1, isN_of n2, gl, c2, isB_of g1, of_decide_eq_true g2, c3, c4, of_decide_eq_true h1, of_decide_eq_true h2, of_decide_eq_true h3, of_decide_eq_true h4, of_decide_eq_true h5, of_decide_eq_true h6, h7⟩, c5, own_of h8, ⟨isB_of h9, c3⟩, own_of h10, own_of h11, ⟨isB_of h12, c3⟩, ⟨f1, f2, f3, f4⟩, of_decide_eq_true h13, isB_of h14, of_decide_eq_true h15⟩
theorem all_mk {l : PySem.W.OpenLaw} {w : World} {K : PySem.W.Frag} {h : Heap} {mg : Str → Option Value} {fa CR CI CS CM cL PT g_sho g_isi g_itx g_rtx g_bag g_pul g_lof g_sml g_sam g_lfi g_lot g_why g_low g_par g_lra g_ptx g_law g_req g_rst g_rrp g_iin T_rin g_rin aW g_whl : Addr} (X : K.In h) (G : h.Ns mainGlobals mg) (hfa : mg "law" = some (.ref fa)) (hPT : h.get? PT = some { cls := .none, data := .fields #[] }) (nPT : K.lookup PT = none) (hCH : PySem.W.CodeHd h cL PT)
    {tC : Tok} {restW : List Value}
    {od_sho an_sho : Option Addr} {sl_sho : Array (Option Value)} {oc_sho kV_sho dc_sho pm_sho cd_sho ct_sho : Value}
    {od_isi an_isi : Option Addr} {sl_isi : Array (Option Value)} {oc_isi kV_isi dc_isi pm_isi cd_isi ct_isi : Value}
    {od_itx an_itx : Option Addr} {sl_itx : Array (Option Value)} {oc_itx kV_itx dc_itx pm_itx cd_itx ct_itx : Value}
    {od_rtx an_rtx : Option Addr} {sl_rtx : Array (Option Value)} {oc_rtx kV_rtx dc_rtx pm_rtx cd_rtx ct_rtx : Value}
    {od_bag an_bag : Option Addr} {sl_bag : Array (Option Value)} {oc_bag kV_bag dc_bag pm_bag cd_bag ct_bag : Value}
    {od_pul an_pul : Option Addr} {sl_pul : Array (Option Value)} {oc_pul kV_pul dc_pul pm_pul cd_pul ct_pul : Value}
    {od_lof an_lof : Option Addr} {sl_lof : Array (Option Value)} {oc_lof kV_lof dc_lof pm_lof cd_lof ct_lof : Value}
    {od_sml an_sml : Option Addr} {sl_sml : Array (Option Value)} {oc_sml kV_sml dc_sml pm_sml cd_sml ct_sml : Value}
    {od_sam an_sam : Option Addr} {sl_sam : Array (Option Value)} {oc_sam kV_sam dc_sam pm_sam cd_sam ct_sam : Value}
    {od_lfi an_lfi : Option Addr} {sl_lfi : Array (Option Value)} {oc_lfi kV_lfi dc_lfi pm_lfi cd_lfi ct_lfi : Value}
    {od_lot an_lot : Option Addr} {sl_lot : Array (Option Value)} {oc_lot kV_lot dc_lot pm_lot cd_lot ct_lot : Value}
    {od_why an_why : Option Addr} {sl_why : Array (Option Value)} {oc_why kV_why dc_why pm_why cd_why ct_why : Value}
    {od_low an_low : Option Addr} {sl_low : Array (Option Value)} {oc_low kV_low dc_low pm_low cd_low ct_low : Value}
    {od_par an_par : Option Addr} {sl_par : Array (Option Value)} {oc_par kV_par dc_par pm_par cd_par ct_par : Value}
    {od_lra an_lra : Option Addr} {sl_lra : Array (Option Value)} {oc_lra kV_lra dc_lra pm_lra cd_lra ct_lra : Value}
    {od_ptx an_ptx : Option Addr} {sl_ptx : Array (Option Value)} {oc_ptx kV_ptx dc_ptx pm_ptx cd_ptx ct_ptx : Value}
    {od_law an_law : Option Addr} {sl_law : Array (Option Value)} {oc_law kV_law dc_law pm_law ct_law : Value}
    {od_req an_req : Option Addr} {sl_req : Array (Option Value)} {oc_req kV_req dc_req pm_req cd_req ct_req : Value}
    {od_rst an_rst : Option Addr} {sl_rst : Array (Option Value)} {oc_rst kV_rst dc_rst pm_rst cd_rst ct_rst : Value}
    {od_rrp an_rrp : Option Addr} {sl_rrp : Array (Option Value)} {oc_rrp kV_rrp dc_rrp pm_rrp cd_rrp ct_rrp : Value}
    {od_iin an_iin : Option Addr} {sl_iin : Array (Option Value)} {oc_iin kV_iin dc_iin pm_iin cd_iin ct_iin : Value}
    {od_rin an_rin : Option Addr} {sl_rin : Array (Option Value)} {oc_rin kV_rin dc_rin pm_rin cd_rin ct_rin : Value}
    {oT_rin : Value} {oD_rin : Option Addr} {nT_rin : Nat} {tk_rin : Tok} {sT_rin : Array (Option Value)}
    {od_whl an_whl : Option Addr} {sl_whl : Array (Option Value)} {oc_whl kV_whl dc_whl pm_whl cd_whl ct_whl : Value}
    {nmI qI : Str} {NI : Addr} {bsI bmI : List Value} {snI : List Str} {subI : List Value} {abI : Bool} {colI : Option Bool} {ddI : Option Addr} {kI0 kI1 kI2 kI3 kI5 : Option Value}
    (aR : PySem.W.nsIn K mainGlobals "Ratio" = some (some (.ref CR))) (aI : PySem.W.nsIn K mainGlobals "InvalidNumber" = some (some (.ref CI))) (aS : PySem.W.nsIn K mainGlobals "SlopeError" = some (some (.ref CS))) (aM : PySem.W.nsIn K mainGlobals "Missing" = some (some (.ref CM))) (aGc : PySem.W.nsIn K mainGlobals "gcd" = some (some (.builtin "math.gcd"))) (aCb : PySem.W.nsIn K mainGlobals "CHUNK_BASE" = some (some (.int 1000000000000000000000000000000000000000000000000000000000000 tC)))
    (a_sho : PySem.W.nsIn K mainGlobals "shown" = some (some (.ref g_sho)))
    (l_sho : K.lookup g_sho = some ⟨oc_sho, od_sho, .func (PySem.W.fnOf "shown" "shown" (defArgs sShown) (defBody sShown) (defScope sShown) .none kV_sho dc_sho pm_sho an_sho cd_sho ct_sho), sl_sho⟩) (c_sho : PySem.W.codeIn K cd_sho "shown" = true) (k_sho : PySem.W.keepIn K (.ref g_sho) = true)
    (a_isi : PySem.W.nsIn K mainGlobals "is_integer" = some (some (.ref g_isi)))
    (l_isi : K.lookup g_isi = some ⟨oc_isi, od_isi, .func (PySem.W.fnOf "is_integer" "is_integer" (defArgs sIsInt) (defBody sIsInt) (defScope sIsInt) .none kV_isi dc_isi pm_isi an_isi cd_isi ct_isi), sl_isi⟩) (c_isi : PySem.W.codeIn K cd_isi "is_integer" = true) (k_isi : PySem.W.keepIn K (.ref g_isi) = true)
    (a_itx : PySem.W.nsIn K mainGlobals "integer_text" = some (some (.ref g_itx)))
    (l_itx : K.lookup g_itx = some ⟨oc_itx, od_itx, .func (PySem.W.fnOf "integer_text" "integer_text" (defArgs sIntText) (defBody sIntText) (defScope sIntText) .none kV_itx dc_itx pm_itx an_itx cd_itx ct_itx), sl_itx⟩) (c_itx : PySem.W.codeIn K cd_itx "integer_text" = true) (k_itx : PySem.W.keepIn K (.ref g_itx) = true)
    (a_rtx : PySem.W.nsIn K mainGlobals "ratio_text" = some (some (.ref g_rtx)))
    (l_rtx : K.lookup g_rtx = some ⟨oc_rtx, od_rtx, .func (PySem.W.fnOf "ratio_text" "ratio_text" (defArgs sRatText) (defBody sRatText) (defScope sRatText) .none kV_rtx dc_rtx pm_rtx an_rtx cd_rtx ct_rtx), sl_rtx⟩) (c_rtx : PySem.W.codeIn K cd_rtx "ratio_text" = true) (k_rtx : PySem.W.keepIn K (.ref g_rtx) = true)
    (a_bag : PySem.W.nsIn K mainGlobals "_law_bag" = some (some (.ref g_bag)))
    (l_bag : K.lookup g_bag = some ⟨oc_bag, od_bag, .func (PySem.W.fnOf "_law_bag" "_law_bag" (defArgs sBag) (defBody sBag) (defScope sBag) .none kV_bag dc_bag pm_bag an_bag cd_bag ct_bag), sl_bag⟩) (c_bag : PySem.W.codeIn K cd_bag "_law_bag" = true) (k_bag : PySem.W.keepIn K (.ref g_bag) = true)
    (a_pul : PySem.W.nsIn K mainGlobals "_law_pull" = some (some (.ref g_pul)))
    (l_pul : K.lookup g_pul = some ⟨oc_pul, od_pul, .func (PySem.W.fnOf "_law_pull" "_law_pull" (defArgs sPull) (defBody sPull) (defScope sPull) .none kV_pul dc_pul pm_pul an_pul cd_pul ct_pul), sl_pul⟩) (c_pul : PySem.W.codeIn K cd_pul "_law_pull" = true) (k_pul : PySem.W.keepIn K (.ref g_pul) = true)
    (a_lof : PySem.W.nsIn K mainGlobals "_law_of" = some (some (.ref g_lof)))
    (l_lof : K.lookup g_lof = some ⟨oc_lof, od_lof, .func (PySem.W.fnOf "_law_of" "_law_of" (defArgs sOf) (defBody sOf) (defScope sOf) .none kV_lof dc_lof pm_lof an_lof cd_lof ct_lof), sl_lof⟩) (c_lof : PySem.W.codeIn K cd_lof "_law_of" = true) (k_lof : PySem.W.keepIn K (.ref g_lof) = true)
    (a_sml : PySem.W.nsIn K mainGlobals "_law_small" = some (some (.ref g_sml)))
    (l_sml : K.lookup g_sml = some ⟨oc_sml, od_sml, .func (PySem.W.fnOf "_law_small" "_law_small" (defArgs sSmall) (defBody sSmall) (defScope sSmall) .none kV_sml dc_sml pm_sml an_sml cd_sml ct_sml), sl_sml⟩) (c_sml : PySem.W.codeIn K cd_sml "_law_small" = true) (k_sml : PySem.W.keepIn K (.ref g_sml) = true)
    (a_sam : PySem.W.nsIn K mainGlobals "_law_same" = some (some (.ref g_sam)))
    (l_sam : K.lookup g_sam = some ⟨oc_sam, od_sam, .func (PySem.W.fnOf "_law_same" "_law_same" (defArgs sSame) (defBody sSame) (defScope sSame) .none kV_sam dc_sam pm_sam an_sam cd_sam ct_sam), sl_sam⟩) (c_sam : PySem.W.codeIn K cd_sam "_law_same" = true) (k_sam : PySem.W.keepIn K (.ref g_sam) = true)
    (a_lfi : PySem.W.nsIn K mainGlobals "_law_field" = some (some (.ref g_lfi)))
    (l_lfi : K.lookup g_lfi = some ⟨oc_lfi, od_lfi, .func (PySem.W.fnOf "_law_field" "_law_field" (defArgs sField) (defBody sField) (defScope sField) .none kV_lfi dc_lfi pm_lfi an_lfi cd_lfi ct_lfi), sl_lfi⟩) (c_lfi : PySem.W.codeIn K cd_lfi "_law_field" = true) (k_lfi : PySem.W.keepIn K (.ref g_lfi) = true)
    (a_lot : PySem.W.nsIn K mainGlobals "_law_other_field" = some (some (.ref g_lot)))
    (l_lot : K.lookup g_lot = some ⟨oc_lot, od_lot, .func (PySem.W.fnOf "_law_other_field" "_law_other_field" (defArgs sOtherField) (defBody sOtherField) (defScope sOtherField) .none kV_lot dc_lot pm_lot an_lot cd_lot ct_lot), sl_lot⟩) (c_lot : PySem.W.codeIn K cd_lot "_law_other_field" = true) (k_lot : PySem.W.keepIn K (.ref g_lot) = true)
    (a_why : PySem.W.nsIn K mainGlobals "_law_why" = some (some (.ref g_why)))
    (l_why : K.lookup g_why = some ⟨oc_why, od_why, .func (PySem.W.fnOf "_law_why" "_law_why" (defArgs sWhy) (defBody sWhy) (defScope sWhy) .none kV_why dc_why pm_why an_why cd_why ct_why), sl_why⟩) (c_why : PySem.W.codeIn K cd_why "_law_why" = true) (k_why : PySem.W.keepIn K (.ref g_why) = true)
    (a_low : PySem.W.nsIn K mainGlobals "_law_low" = some (some (.ref g_low)))
    (l_low : K.lookup g_low = some ⟨oc_low, od_low, .func (PySem.W.fnOf "_law_low" "_law_low" (defArgs sLow) (defBody sLow) (defScope sLow) .none kV_low dc_low pm_low an_low cd_low ct_low), sl_low⟩) (c_low : PySem.W.codeIn K cd_low "_law_low" = true) (k_low : PySem.W.keepIn K (.ref g_low) = true)
    (a_par : PySem.W.nsIn K mainGlobals "_law_pair" = some (some (.ref g_par)))
    (l_par : K.lookup g_par = some ⟨oc_par, od_par, .func (PySem.W.fnOf "_law_pair" "_law_pair" (defArgs sPair) (defBody sPair) (defScope sPair) .none kV_par dc_par pm_par an_par cd_par ct_par), sl_par⟩) (c_par : PySem.W.codeIn K cd_par "_law_pair" = true) (k_par : PySem.W.keepIn K (.ref g_par) = true)
    (a_lra : PySem.W.nsIn K mainGlobals "_law_ratio" = some (some (.ref g_lra)))
    (l_lra : K.lookup g_lra = some ⟨oc_lra, od_lra, .func (PySem.W.fnOf "_law_ratio" "_law_ratio" (defArgs sRatio) (defBody sRatio) (defScope sRatio) .none kV_lra dc_lra pm_lra an_lra cd_lra ct_lra), sl_lra⟩) (c_lra : PySem.W.codeIn K cd_lra "_law_ratio" = true) (k_lra : PySem.W.keepIn K (.ref g_lra) = true)
    (a_ptx : PySem.W.nsIn K mainGlobals "_law_pair_text" = some (some (.ref g_ptx)))
    (l_ptx : K.lookup g_ptx = some ⟨oc_ptx, od_ptx, .func (PySem.W.fnOf "_law_pair_text" "_law_pair_text" (defArgs sPairText) (defBody sPairText) (defScope sPairText) .none kV_ptx dc_ptx pm_ptx an_ptx cd_ptx ct_ptx), sl_ptx⟩) (c_ptx : PySem.W.codeIn K cd_ptx "_law_pair_text" = true) (k_ptx : PySem.W.keepIn K (.ref g_ptx) = true)
    (a_law : PySem.W.nsIn K mainGlobals "law" = some (some (.ref g_law)))
    (l_law : K.lookup g_law = some ⟨oc_law, od_law, .func (PySem.W.fnOf "law" "law" (defArgs sLaw) (defBody sLaw) (defScope sLaw) .none kV_law dc_law pm_law an_law (.ref cL) ct_law), sl_law⟩) (c_law : PySem.W.codeIn K (.ref cL) "law" = true) (k_law : PySem.W.keepIn K (.ref g_law) = true)
    (i_req : PySem.W.findIn K (.ref CR) "__eq__" = some (some (.ref g_req)))
    (l_req : K.lookup g_req = some ⟨oc_req, od_req, .func (PySem.W.fnOf "__eq__" "Ratio.__eq__" (defArgs sREq) (defBody sREq) (defScope sREq) .none kV_req dc_req pm_req an_req cd_req ct_req), sl_req⟩) (c_req : PySem.W.codeIn K cd_req "Ratio.__eq__" = true) (k_req : PySem.W.keepIn K (.ref g_req) = true)
    (i_rst : PySem.W.findIn K (.ref CR) "__str__" = some (some (.ref g_rst)))
    (l_rst : K.lookup g_rst = some ⟨oc_rst, od_rst, .func (PySem.W.fnOf "__str__" "Ratio.__str__" (defArgs sRStr) (defBody sRStr) (defScope sRStr) .none kV_rst dc_rst pm_rst an_rst cd_rst ct_rst), sl_rst⟩) (c_rst : PySem.W.codeIn K cd_rst "Ratio.__str__" = true) (k_rst : PySem.W.keepIn K (.ref g_rst) = true)
    (i_rrp : PySem.W.findIn K (.ref CR) "__repr__" = some (some (.ref g_rrp)))
    (l_rrp : K.lookup g_rrp = some ⟨oc_rrp, od_rrp, .func (PySem.W.fnOf "__repr__" "Ratio.__repr__" (defArgs sRRepr) (defBody sRRepr) (defScope sRRepr) .none kV_rrp dc_rrp pm_rrp an_rrp cd_rrp ct_rrp), sl_rrp⟩) (c_rrp : PySem.W.codeIn K cd_rrp "Ratio.__repr__" = true) (k_rrp : PySem.W.keepIn K (.ref g_rrp) = true)
    (i_iin : PySem.W.findIn K (.ref CI) "__init__" = some (some (.ref g_iin)))
    (l_iin : K.lookup g_iin = some ⟨oc_iin, od_iin, .func (PySem.W.fnOf "__init__" "InvalidNumber.__init__" (defArgs sI_InvalidNumber) (defBody sI_InvalidNumber) (defScope sI_InvalidNumber) .none kV_iin dc_iin pm_iin an_iin cd_iin ct_iin), sl_iin⟩) (c_iin : PySem.W.codeIn K cd_iin "InvalidNumber.__init__" = true) (k_iin : PySem.W.keepIn K (.ref g_iin) = true)
    (i_rin : PySem.W.findIn K (.ref CR) "__init__" = some (some (.ref g_rin)))
    (l_rin : K.lookup g_rin = some ⟨oc_rin, od_rin, .func (PySem.W.fnOf "__init__" "Ratio.__init__" (defArgs sRInit) (defBody sRInit) (defScope sRInit) (.ref T_rin) kV_rin dc_rin pm_rin an_rin cd_rin ct_rin), sl_rin⟩) (c_rin : PySem.W.codeIn K cd_rin "Ratio.__init__" = true) (k_rin : PySem.W.keepIn K (.ref g_rin) = true)
    (t_rin : K.lookup T_rin = some ⟨oT_rin, oD_rin, .seq [Value.int 1 tk_rin].toArray nT_rin, sT_rin⟩)
    (iW : PySem.W.findIn K (.ref CR) "whole" = some (some (.ref aW))) (rW : PySem.W.recIn K aW "property" = some (.ref g_whl :: restW))
    (l_whl : K.lookup g_whl = some ⟨oc_whl, od_whl, .func (PySem.W.fnOf "whole" "Ratio.whole" (defArgs sWhole) (defBody sWhole) (defScope sWhole) .none kV_whl dc_whl pm_whl an_whl cd_whl ct_whl), sl_whl⟩) (c_whl : PySem.W.codeIn K cd_whl "Ratio.whole" = true) (k_whl : PySem.W.keepIn K (.ref g_whl) = true)
    (z_isin : PySem.W.nsIn K mainGlobals "isinstance" = some none)
    (z_tstr : PySem.W.nsIn K mainGlobals "str" = some none)
    (z_tint : PySem.W.nsIn K mainGlobals "int" = some none)
    (z_tlist : PySem.W.nsIn K mainGlobals "list" = some none)
    (z_ttuple : PySem.W.nsIn K mainGlobals "tuple" = some none)
    (z_tbool : PySem.W.nsIn K mainGlobals "bool" = some none)
    (z_fabs : PySem.W.nsIn K mainGlobals "abs" = some none)
    (z_frepr : PySem.W.nsIn K mainGlobals "repr" = some none)
    (z_flen : PySem.W.nsIn K mainGlobals "len" = some none)
    (z_frange : PySem.W.nsIn K mainGlobals "range" = some none)
    (z_fzip : PySem.W.nsIn K mainGlobals "zip" = some none)
    (z_fall : PySem.W.nsIn K mainGlobals "all" = some none)
    (z_tve : PySem.W.nsIn K mainGlobals "ValueError" = some none)
    (z_tle : PySem.W.nsIn K mainGlobals "LookupError" = some none)
    (lCI : K.lookup CI = some (excClassObj nmI qI CI NI bsI bmI true snI subI abI colI ddI kI0 kI1 kI2 kI3 kI5 "ValueError.__new__")) (tyI : PySem.W.typeIn K (.ref CI) = some (.type "type")) (tyF : PySem.W.typeIn K (.ref g_iin) = some (.type "function")) (vS : PySem.W.findCls K (.ref CS) (.type "type") "__init__" = some (.val (.builtin "ValueError.__init__")))
    (hRv : PySem.HandSPX.refsVE bmI = true) (hR : chR K CR g_rin g_req g_rst g_rrp aW = true) (hG : chG K = true) (hS : chB K CS "ValueError.__init__" = true) (hI : chI K CI CS CM g_iin = true) :
    LamX.LawAtS l w K CX0 8 63 "_law_script" mg fa h := by
  have e := hfa.symm.trans (PySem.W.mg_of X G a_law)
  cases e
  have gl : ∀ x v, PySem.W.nsIn K mainGlobals x = some (some v) → mg x = some v := fun x v z => PySem.W.mg_of X G z
  have B : Bn mg := ⟨PySem.W.mg_none_of X G z_isin, PySem.W.mg_none_of X G z_tstr, PySem.W.mg_none_of X G z_tint, PySem.W.mg_none_of X G z_tlist, PySem.W.mg_none_of X G z_ttuple, PySem.W.mg_none_of X G z_tbool, PySem.W.mg_none_of X G z_fabs, PySem.W.mg_none_of X G z_frepr, PySem.W.mg_none_of X G z_flen, PySem.W.mg_none_of X G z_frange, PySem.W.mg_none_of X G z_fzip, PySem.W.mg_none_of X G z_fall, PySem.W.mg_none_of X G z_tve, PySem.W.mg_none_of X G z_tle⟩
  obtain ⟨RTT, MkR, MEq, MNe, MSt, MRp, MFm, NFF, sub1, gW1, gW2⟩ := rt_of hR hG (gl _ _ aR)
  simp only [chI, Bool.and_eq_true] at hI
  obtain ⟨i1, i2, i3, i4, i5, i6, i7, i8, i9, i10⟩ := hI
  have noI : ∀ f ∈ fieldNames, PySem.W.findIn K (.ref CI) f = some none := fun f hf => isN_of (List.all_eq_true.mp i9 f hf)
  have EC : EcI K "ValueError.__init__" CI := ⟨_, _, _, ⟨PySem.F.excBase_ValueError, PySem.F.store_ValueError, i1, i2, i3, isB_of i4, i5, isB_of i6, isN_of i7, of_decide_eq_true i8⟩⟩
  have OX : OexC K CI := ⟨⟨_, _, _, _, _, _, _, _, _, _, _, _, _, _, _, lCI, hRv⟩, isB_of i4, of_decide_eq_true i8, tyI, i5⟩
  have ITT : IN K mg CI g_iin := ⟨gl _ _ aI, OX, EC, noI _ (by decide +kernel), noI _ (by decide +kernel), i_iin, tyF⟩
  have TKK : INk K CS CM CI := ⟨of_decide_eq_true i10, ⟨isB_of i6, isN_of i7, of_decide_eq_true i8, i3⟩, noI⟩
  obtain ⟨s1, s2, s3⟩ : PySem.W.specialIn K (.ref CS) "__getattribute__" = some (some (.builtin "type.__getattribute__")) ∧ PySem.W.readsIn K CS (.type "type") = true ∧ PySem.W.handedIn (.builtin "ValueError.__init__") = true := by
    simp only [chB, Bool.and_eq_true] at hS
    exact ⟨isB_of hS.1, hS.2.1, hS.2.2⟩
  have BSS : Bs K mg "SlopeError" "ValueError.__init__" CS := ⟨gl _ _ aS, s1, s2, vS, s3⟩
  have F_sho := fun_mk (st := sShown) l_sho c_sho k_sho
  have D_sho : Dn K mg "shown" g_sho := ⟨gl _ _ a_sho, k_sho⟩
  have b_sho := F_sho.binds (ps := ["value"]) fun _ _ _ _ _ _ us hl => match us, hl with | [_], _ => rfl
  have F_isi := fun_mk (st := sIsInt) l_isi c_isi k_isi
  have D_isi : Dn K mg "is_integer" g_isi := ⟨gl _ _ a_isi, k_isi⟩
  have b_isi := F_isi.binds (ps := ["value"]) fun _ _ _ _ _ _ us hl => match us, hl with | [_], _ => rfl
  have F_itx := fun_mk (st := sIntText) l_itx c_itx k_itx
  have D_itx : Dn K mg "integer_text" g_itx := ⟨gl _ _ a_itx, k_itx⟩
  have b_itx := F_itx.binds (ps := ["number"]) fun _ _ _ _ _ _ us hl => match us, hl with | [_], _ => rfl
  have F_rtx := fun_mk (st := sRatText) l_rtx c_rtx k_rtx
  have D_rtx : Dn K mg "ratio_text" g_rtx := ⟨gl _ _ a_rtx, k_rtx⟩
  have b_rtx := F_rtx.binds (ps := ["ratio"]) fun _ _ _ _ _ _ us hl => match us, hl with | [_], _ => rfl
  have F_bag := fun_mk (st := sBag) l_bag c_bag k_bag
  have D_bag : Dn K mg "_law_bag" g_bag := ⟨gl _ _ a_bag, k_bag⟩
  have b_bag := F_bag.binds (ps := ["_law_script"]) fun _ _ _ _ _ _ us hl => match us, hl with | [_], _ => rfl
  have F_pul := fun_mk (st := sPull) l_pul c_pul k_pul
  have D_pul : Dn K mg "_law_pull" g_pul := ⟨gl _ _ a_pul, k_pul⟩
  have b_pul := F_pul.binds (ps := ["_law_bag_here", "_law_many"]) fun _ _ _ _ _ _ us hl => match us, hl with | [_, _], _ => rfl
  have F_lof := fun_mk (st := sOf) l_lof c_lof k_lof
  have D_lof : Dn K mg "_law_of" g_lof := ⟨gl _ _ a_lof, k_lof⟩
  have b_lof := F_lof.binds (ps := ["_law_bag_here", "_law_things"]) fun _ _ _ _ _ _ us hl => match us, hl with | [_, _], _ => rfl
  have F_sml := fun_mk (st := sSmall) l_sml c_sml k_sml
  have D_sml : Dn K mg "_law_small" g_sml := ⟨gl _ _ a_sml, k_sml⟩
  have b_sml := F_sml.binds (ps := ["_law_bag_here"]) fun _ _ _ _ _ _ us hl => match us, hl with | [_], _ => rfl
  have F_sam := fun_mk (st := sSame) l_sam c_sam k_sam
  have D_sam : Dn K mg "_law_same" g_sam := ⟨gl _ _ a_sam, k_sam⟩
  have b_sam := F_sam.binds (ps := ["_law_found", "_law_due"]) fun _ _ _ _ _ _ us hl => match us, hl with | [_, _], _ => rfl
  have F_lfi := fun_mk (st := sField) l_lfi c_lfi k_lfi
  have D_lfi : Dn K mg "_law_field" g_lfi := ⟨gl _ _ a_lfi, k_lfi⟩
  have b_lfi := F_lfi.binds (ps := ["_law_e"]) fun _ _ _ _ _ _ us hl => match us, hl with | [_], _ => rfl
  have F_lot := fun_mk (st := sOtherField) l_lot c_lot k_lot
  have D_lot : Dn K mg "_law_other_field" g_lot := ⟨gl _ _ a_lot, k_lot⟩
  have b_lot := F_lot.binds (ps := ["_law_e"]) fun _ _ _ _ _ _ us hl => match us, hl with | [_], _ => rfl
  have F_why := fun_mk (st := sWhy) l_why c_why k_why
  have D_why : Dn K mg "_law_why" g_why := ⟨gl _ _ a_why, k_why⟩
  have b_why := F_why.binds (ps := ["_law_ask"]) fun _ _ _ _ _ _ us hl => match us, hl with | [_], _ => rfl
  have F_low := fun_mk (st := sLow) l_low c_low k_low
  have D_low : Dn K mg "_law_low" g_low := ⟨gl _ _ a_low, k_low⟩
  have b_low := F_low.binds (ps := ["_law_top", "_law_bottom"]) fun _ _ _ _ _ _ us hl => match us, hl with | [_, _], _ => rfl
  have F_par := fun_mk (st := sPair) l_par c_par k_par
  have D_par : Dn K mg "_law_pair" g_par := ⟨gl _ _ a_par, k_par⟩
  have b_par := F_par.binds (ps := ["_law_found"]) fun _ _ _ _ _ _ us hl => match us, hl with | [_], _ => rfl
  have F_lra := fun_mk (st := sRatio) l_lra c_lra k_lra
  have D_lra : Dn K mg "_law_ratio" g_lra := ⟨gl _ _ a_lra, k_lra⟩
  have b_lra := F_lra.binds (ps := ["_law_pair_here"]) fun _ _ _ _ _ _ us hl => match us, hl with | [_], _ => rfl
  have F_ptx := fun_mk (st := sPairText) l_ptx c_ptx k_ptx
  have D_ptx : Dn K mg "_law_pair_text" g_ptx := ⟨gl _ _ a_ptx, k_ptx⟩
  have b_ptx := F_ptx.binds (ps := ["_law_pair_here"]) fun _ _ _ _ _ _ us hl => match us, hl with | [_], _ => rfl
  have F_req := fun_mk (st := sREq) l_req c_req k_req
  have b_req := F_req.binds (ps := ["self", "other"]) fun _ _ _ _ _ _ us hl => match us, hl with | [_, _], _ => rfl
  have F_rst := fun_mk (st := sRStr) l_rst c_rst k_rst
  have b_rst := F_rst.binds (ps := ["self"]) fun _ _ _ _ _ _ us hl => match us, hl with | [_], _ => rfl
  have F_rrp := fun_mk (st := sRRepr) l_rrp c_rrp k_rrp
  have b_rrp := F_rrp.binds (ps := ["self"]) fun _ _ _ _ _ _ us hl => match us, hl with | [_], _ => rfl
  have F_iin := fun_mk (st := sI_InvalidNumber) l_iin c_iin k_iin
  have b_iin := F_iin.binds (ps := ["self", "given"]) fun _ _ _ _ _ _ us hl => match us, hl with | [_, _], _ => rfl
  have F_whl := fun_mk (st := sWhole) l_whl c_whl k_whl
  have b_whl := F_whl.binds (ps := ["self"]) fun _ _ _ _ _ _ us hl => match us, hl with | [_], _ => rfl
  have I_r : FunD K "__init__" "Ratio.__init__" (defArgs sRInit) (defBody sRInit) (defScope sRInit) [.int 1] [] g_rin (PySem.W.fnOf "__init__" "Ratio.__init__" (defArgs sRInit) (defBody sRInit) (defScope sRInit) (.ref T_rin) kV_rin dc_rin pm_rin an_rin cd_rin ct_rin) :=
    ⟨⟨_, _, _, _, _, _, _, _, _, _, rfl, l_rin, c_rin, .inr ⟨by simp, T_rin, _, [Value.int 1 tk_rin], _, rfl, t_rin, rfl, .cons ⟨_, rfl⟩ .nil⟩, .inl rfl⟩, k_rin⟩
  obtain ⟨dR, vR, bR⟩ := r_binds2 I_r
  have bR3 := r_binds3 I_r
  obtain ⟨_, kBT⟩ := r_kBT I_r
  have PFW : PropOf K CR "whole" aW g_whl := ⟨iW, gW1, gW2, restW, rW⟩
  refine ⟨PySem.W.fnOf "law" "law" (defArgs sLaw) (defBody sLaw) (defScope sLaw) .none kV_law dc_law pm_law an_law (.ref cL) ct_law, [(cL, PT)], spLaw K PT, fun p hp => by cases List.mem_singleton.mp hp; exact hPT, fun p hp => by cases List.mem_singleton.mp hp; exact nPT, fun p hp => by cases List.mem_singleton.mp hp; exact hCH, fun s v => .of_eq rfl,
    fun H a ns hl _ hT hS => ⟨a, ns, rfl, hS, hl, hT _ (List.mem_singleton.mpr rfl), fun _ => rfl⟩, fun base _ _ hTB => ?_⟩
  have G_sho : FnOk l.prog w K mg base CX0 1 g_sho _ ["value"] (spShown K) := ok_shown F_sho B
  have G_iin : FnOk l.prog w K mg base CX0 2 g_iin _ ["self", "given"] (spI_InvalidNumber K) := okI_InvalidNumber F_iin BSS D_sho G_sho b_sho
  have G_isi : FnOk l.prog w K mg base CX0 1 g_isi _ ["value"] (spIsInt K) := ok_isInt F_isi B
  have G_rin : FnOk l.prog w K mg base CX0 2 g_rin _ ["self", "top", "bottom"] (spRInit CR) := ok_rinit I_r RTT (gl _ _ aGc) D_isi G_isi b_isi
  have G_ri4 : FnOk l.prog w K mg base (L2.CX l.prog w) 4 g_rin _ ["self", "top", "bottom"] (spRInit2 K CR CI) := ok_rinit2 I_r RTT (gl _ _ aGc) ITT G_iin b_iin D_isi G_isi b_isi
  have G_itx : FnOk l.prog w K mg base CX0 1 g_itx _ ["number"] spIntText := ok_intText F_itx B ⟨_, gl _ _ aCb⟩
  have G_rtx : FnOk l.prog w K mg base CX0 2 g_rtx _ ["ratio"] (spRatText CR) := ok_ratText F_rtx RTT D_itx G_itx b_itx
  have G_rst : FnOk l.prog w K mg base CX0 3 g_rst _ ["self"] (spRatText CR) := ok_rstr F_rst D_rtx G_rtx b_rtx
  have G_rrp : FnOk l.prog w K mg base CX0 5 g_rrp _ ["self"] (spRRepr CR) := ok_rrepr F_rrp MSt MFm G_rst b_rst
  have G_whl : FnOk l.prog w K mg base CX0 1 g_whl _ ["self"] (spIsWhole CR) := ok_isWhole F_whl RTT
  have G_req : FnOk l.prog w K mg base CX0 2 g_req _ ["self", "other"] (spREq2 K CR) := ok_req2 F_req B RTT RTT.kI D_isi G_isi b_isi
  have S0 : FnOk l.prog w K mg base CX0 0 g_sam (PySem.W.fnOf "_law_same" "_law_same" (defArgs sSame) (defBody sSame) (defScope sSame) .none kV_sam dc_sam pm_sam an_sam cd_sam ct_sam) ["_law_found", "_law_due"] (spSame 0) := same_zero
  have S1 := ok_same_step F_sam B D_sam S0 b_sam
  have S2 := ok_same_step F_sam B D_sam S1 b_sam
  have S3 := ok_same_step F_sam B D_sam S2 b_sam
  have S4 := ok_same_step F_sam B D_sam S3 b_sam
  have G_bag : FnOk l.prog w K mg base CX0 1 g_bag _ ["_law_script"] (spBag K) := ok_bag F_bag B
  have G_pul : FnOk l.prog w K mg base CX0 1 g_pul _ ["_law_bag_here", "_law_many"] spPull := ok_pull F_pul B
  have G_lof : FnOk l.prog w K mg base CX0 2 g_lof _ ["_law_bag_here", "_law_things"] spOf := ok_of F_lof B D_pul G_pul b_pul
  have G_sml : FnOk l.prog w K mg base CX0 2 g_sml _ ["_law_bag_here"] spSmall := ok_small F_sml D_pul G_pul b_pul
  have G_lot : FnQ l.prog w K mg base 1 g_lot _ ["_law_e"] (spOtherF K) := ok_otherField F_lot
  have G_lfi : FnQ l.prog w K mg base 2 g_lfi _ ["_law_e"] (spFieldE K) := ok_field F_lfi D_lot G_lot b_lot
  have G_low : FnOk l.prog w K mg base CX0 1 g_low _ ["_law_top", "_law_bottom"] spLow := ok_low F_low B
  have G_par : FnOk l.prog w K mg base CX0 1 g_par _ ["_law_found"] (spPair CR) := ok_pair F_par B RTT
  have G_lra : FnOk l.prog w K mg base CX0 4 g_lra _ ["_law_pair_here"] (spMkRatio CR) := ok_ratio F_lra RTT MkR G_rin bR3
  have G_ptx : FnOk l.prog w K mg base CX0 1 g_ptx _ ["_law_pair_here"] spPairText := ok_pairText F_ptx B
  exact ok_law l_law c_law l_why c_why D_why b_why (hTB _ (List.mem_singleton.mpr rfl)) (gl _ _ aS) (gl _ _ aM) D_lfi G_lfi b_lfi B RTT TKK NFF D_bag G_bag b_bag D_pul G_pul b_pul D_lof G_lof b_lof D_sml G_sml b_sml D_low G_low b_low D_par G_par b_par D_lra G_lra b_lra D_ptx G_ptx b_ptx D_sam S4 b_sam
    MkR G_rin G_ri4 bR3 bR vR kBT MEq MNe G_req b_req sub1 (fun a b => PySem.F.args_int_eq_2 a b) MSt G_rst b_rst MRp G_rrp b_rrp PFW G_whl b_whl
end K02

set_option Elab.async false
open PySem PySem.W PyProof.Rows
set_option maxRecDepth 100000 in
set_option maxHeartbeats 0 in
theorem PySem.Challenge.cw_unseenslopes_k02_ratios_made_holds : PySem.Challenge.rw_unseenslopes_k02_ratios_made.Holds := by
  w_on; o_law; k_head; (case hw => w_witness2)
  k_fill
  refine LamX.walk_ofTsE (l := PySem.Challenge.rw_unseenslopes_k02_ratios_made) (n := 63) (k := 8) (x := "_law_script") (CX := fun _ => L2.CX0) rfl (by decide) rfl ⟨rfl, by decide, by decide⟩ ?F (fun _ _ _ _ _ z => z)
  case F =>
    intro w mg fa h Y G hmg
    have KX := PySem.W.km_in_of Y
    refine' ⟨_, KX, K02.all_mk (PT := 373) KX G hmg (PySem.W.km_tabs_of Y 373 (List.mem_singleton.mpr rfl)) ?np (PySem.W.codeHd_of_K KX ?ch) ?aR ?aI ?aS ?aM ?aGc ?aCb ?a_sho ?l_sho ?c_sho ?k_sho ?a_isi ?l_isi ?c_isi ?k_isi ?a_itx ?l_itx ?c_itx ?k_itx ?a_rtx ?l_rtx ?c_rtx ?k_rtx ?a_bag ?l_bag ?c_bag ?k_bag ?a_pul ?l_pul ?c_pul ?k_pul ?a_lof ?l_lof ?c_lof ?k_lof ?a_sml ?l_sml ?c_sml ?k_sml ?a_sam ?l_sam ?c_sam ?k_sam ?a_lfi ?l_lfi ?c_lfi ?k_lfi ?a_lot ?l_lot ?c_lot ?k_lot ?a_why ?l_why ?c_why ?k_why ?a_low ?l_low ?c_low ?k_low ?a_par ?l_par ?c_par ?k_par ?a_lra ?l_lra ?c_lra ?k_lra ?a_ptx ?l_ptx ?c_ptx ?k_ptx ?a_law ?l_law ?c_law ?k_law ?i_req ?l_req ?c_req ?k_req ?i_rst ?l_rst ?c_rst ?k_rst ?i_rrp ?l_rrp ?c_rrp ?k_rrp ?i_iin ?l_iin ?c_iin ?k_iin ?i_rin ?l_rin ?c_rin ?k_rin ?t_rin ?iW ?rW ?l_whl ?c_whl ?k_whl ?z_isin ?z_tstr ?z_tint ?z_tlist ?z_ttuple ?z_tbool ?z_fabs ?z_frepr ?z_flen ?z_frange ?z_fzip ?z_fall ?z_tve ?z_tle ?lCI ?tyI ?tyF ?vS ?hRv ?hR ?hG ?hS ?hI⟩
    (case aR => k_is); (case aI => k_is); (case aS => k_is); (case aM => k_is); (case aGc => k_is); (case aCb => k_is); (case a_sho => k_is); (case l_sho => k_is); (case c_sho => k_is); (case k_sho => k_is); (case a_isi => k_is); (case l_isi => k_is); (case c_isi => k_is); (case k_isi => k_is); (case a_itx => k_is); (case l_itx => k_is); (case c_itx => k_is); (case k_itx => k_is); (case a_rtx => k_is); (case l_rtx => k_is); (case c_rtx => k_is); (case k_rtx => k_is); (case a_bag => k_is); (case l_bag => k_is); (case c_bag => k_is); (case k_bag => k_is); (case a_pul => k_is); (case l_pul => k_is); (case c_pul => k_is); (case k_pul => k_is); (case a_lof => k_is); (case l_lof => k_is); (case c_lof => k_is); (case k_lof => k_is); (case a_sml => k_is); (case l_sml => k_is); (case c_sml => k_is); (case k_sml => k_is); (case a_sam => k_is); (case l_sam => k_is); (case c_sam => k_is); (case k_sam => k_is); (case a_lfi => k_is); (case l_lfi => k_is); (case c_lfi => k_is); (case k_lfi => k_is); (case a_lot => k_is); (case l_lot => k_is); (case c_lot => k_is); (case k_lot => k_is); (case a_why => k_is); (case l_why => k_is); (case c_why => k_is); (case k_why => k_is); (case a_low => k_is); (case l_low => k_is); (case c_low => k_is); (case k_low => k_is); (case a_par => k_is); (case l_par => k_is); (case c_par => k_is); (case k_par => k_is); (case a_lra => k_is); (case l_lra => k_is); (case c_lra => k_is); (case k_lra => k_is); (case a_ptx => k_is); (case l_ptx => k_is); (case c_ptx => k_is); (case k_ptx => k_is); (case a_law => k_is); (case l_law => k_is); (case c_law => k_is); (case k_law => k_is); (case i_req => k_is); (case l_req => k_is); (case c_req => k_is); (case k_req => k_is); (case i_rst => k_is); (case l_rst => k_is); (case c_rst => k_is); (case k_rst => k_is); (case i_rrp => k_is); (case l_rrp => k_is); (case c_rrp => k_is); (case k_rrp => k_is); (case i_iin => k_is); (case l_iin => k_is); (case c_iin => k_is); (case k_iin => k_is); (case i_rin => k_is); (case l_rin => k_is); (case c_rin => k_is); (case k_rin => k_is); (case t_rin => k_is); (case iW => k_is); (case rW => k_is); (case l_whl => k_is); (case c_whl => k_is); (case k_whl => k_is); (case z_isin => k_is); (case z_tstr => k_is); (case z_tint => k_is); (case z_tlist => k_is); (case z_ttuple => k_is); (case z_tbool => k_is); (case z_fabs => k_is); (case z_frepr => k_is); (case z_flen => k_is); (case z_frange => k_is); (case z_fzip => k_is); (case z_fall => k_is); (case z_tve => k_is); (case z_tle => k_is); (case lCI => k_is); (case tyI => k_is); (case tyF => k_is); (case vS => k_is)
    (case np => kernel_rfl); (case ch => kernel_rfl)
    (case hRv => kernel_rfl); (case hR => kernel_rfl); (case hG => kernel_rfl); (case hS => kernel_rfl); (case hI => kernel_rfl)
