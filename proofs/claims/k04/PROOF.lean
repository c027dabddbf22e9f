import PyProof.Rows.All
import Wide.All
import OpenK.AllK
import Wide.FinOn
import KE.KExcInit
import HandS.ForMost
import HandS.Exc
import HandS.ExcInit
import HandS.IsInst
import HandS.Defaults
import HandS.MakeKw
import HandS.FStr
import HandS.RaiseMore
import HandS.ExcIs
import KE.KExcIs
import PyProof.FactsAll.bool_1
import KE.KCallOwn
import PyProof.InstEq
import HandS.Property
import HandS.Gcd
import HandS.MakeKwOnly
import KE.KTryMore
import HandS.HotCalls
import HandS.ExcField
import KE.KFmtOwn
import HandS.Codes
import HandS.Walk
import KE.KOpsOwn
import HandS.Wide
import HandS.Zip
import HandS.Style
import HandS.Lambda
import HandS.StrMore
import PyProof.StrLawsAffix
import HandS.WordsExc
import HandS.EndTab
import PyProof.StrBlock2
import HandS.HeadWalk
import KE.KNestM
import PySem.Challenge.RW_unseenslopes_k04_ratio_texts
set_option Elab.async false
set_option linter.all false
set_option maxRecDepth 100000
set_option maxHeartbeats 4000000
/-! Own error classes over any built-in base: called with keywords too, held as values, their fields. -/
namespace Ux
open PySem PySem.Calls PySem.W
open Builtin Builtin.ObjectAttr
section
variable {M : Model} {prog : Program} {w : World} {A : Around} {E : Value → Shared → Prop} {h : Heap} {g : Array GenState} {d : Drawn} {t : Nat} {os : OsState}
variable {nm q : Str} {C N : Addr} {bs bm bmB : List Value} {hdct : Bool} {sn : List Str} {sub : List Value} {ab : Bool} {col : Option Bool} {dd : Option Addr} {k0 k1 k2 k3 k5 : Option Value} {B newId initId : String}
/-- the class object as the built-in rules read it -/
abbrev ClsO (nm q : Str) (C N : Addr) (bs bm : List Value) (hdct : Bool) (sn : List Str) (sub : List Value) (ab : Bool) (col : Option Bool) (dd : Option Addr) (k0 k1 k2 k3 k5 : Option Value) (newId : String) : Obj := excClassObj nm q C N bs bm hdct sn sub ab col dd k0 k1 k2 k3 k5 newId
theorem kw_check (F : ExcBaseFacts B newId initId bmB) (hT : ∀ Y : String, bm.contains (.type Y) = bmB.contains (.type Y)) {rest : List Value} {kw : List (Str × Value)} {Q : Unit → Shared → Prop}
    (oc : h.get? C = some (ClsO nm q C N bs bm hdct sn sub ab col dd k0 k1 k2 k3 k5 newId)) (z : Q () ⟨h, g, d, t, os⟩) : wpAny M A (checkBuiltinCall newId ⟨.ref C :: rest, kw⟩) Q E ⟨h, g, d, t, os⟩ := by
  have inB : (Value.ref C :: bm).contains (.type B) = true := by rw [List.contains_cons, hT B, F.hasB, Bool.or_true]
  have star := F.noStar
  simp only [checkBuiltinCall, F.newKind, F.newSplit, F.newRow]
  repeat (first
    | refine wpAny_loadPart_at oc ?_
    | (refine wpAny_isSubtype_exc oc ?_; rw [inB])
    | refine wpAny_staticBase_exc oc ?_
    | refine wpAny_madeBy_exc oc ?_
    | simp only [bne_self_eq_false, Bool.false_eq_true, if_false]
    | wp_step)
  exact z
theorem kw_new {R : Result → Shared → Prop} (F : ExcBaseFacts B newId initId bmB) (hT : ∀ Y : String, bm.contains (.type Y) = bmB.contains (.type Y)) {rest : List Value} {kw : List (Str × Value)}
    (oc : h.get? C = some (ClsO nm q C N bs bm hdct sn sub ab col dd k0 k1 k2 k3 k5 newId)) (z : R (.ok (.ret (.ref (h.objs.size + 1)))) ⟨(h.push (kdv_tup rest)).push (excObj C h.objs.size none .none), g, d, t, os⟩) (hz : rest.length ≤ sizeLine) :
    codeAny (model prog w) A (.builtin newId ⟨.ref C :: rest, kw⟩) R ⟨h, g, d, t, os⟩ := by
  have ends := F.ends
  have inB : (Value.ref C :: bm).contains (.type B) = true := by rw [List.contains_cons, hT B, F.hasB, Bool.or_true]
  have inA : (Value.ref C :: bm).contains (.type "AttributeError") = false := by rw [List.contains_cons, hT _, F.noAttr]; rfl
  have inN : (Value.ref C :: bm).contains (.type "NameError") = false := by rw [List.contains_cons, hT _, F.noName]; rfl
  refine codeAny_builtinAt F.entry ?_
  unfold Builtin.«BaseException.__new__»
  refine wpAt_bind ?_
  show wpAt _ _ _ (stack >>= _) _ _ _
  refine wpAt_bind (wpAt_stack fun p below => wpAt_of_wpAny ?_)
  wp_walk
  refine wpAt_of_wpAny ?_
  rw [F.owner]
  repeat (first
    | with_reducible refine wpAny_madeHere_exc F.canon oc ?_
    | with_reducible refine wpAny_loadPart_at oc ?_
    | (with_reducible refine wpAny_isSubtype_exc oc ?_; first | rw [inB] | rw [inA] | rw [inN])
    | wp_step)
  show R _ _
  rw [Heap.size_push]
  exact z
theorem kw_typecall (F : ExcBaseFacts B newId initId bmB) (hT : ∀ Y : String, bm.contains (.type Y) = bmB.contains (.type Y)) {rest : List Value} {kw : List (Str × Value)} {fI : Addr} {Q : Fin → Shared → Prop}
    (oc : h.get? C = some (ClsO nm q C N bs bm hdct sn sub ab col dd k0 k1 k2 k3 k5 newId)) (li : Looks (model prog w) h (typeLookup (.ref C) "__init__") (some (.ref fI)))
    (lb : ∀ self, Looks (model prog w) h (bindSpecial (.ref fI) self) (.ref fI, [self])) (hz : rest.length ≤ sizeLine)
    (z : codeAny (model prog w) A (.call (.ref fI) ⟨.ref (h.objs.size + 1) :: rest, kw⟩) (fun r s' => match r with | .ok (.ret v) => v = .none ∧ Q (.done (.ret (.ref (h.objs.size + 1)))) s' | .ok _ => False | .error e => E e s')
      ⟨(h.push (kdv_tup rest)).push (excObj C h.objs.size none .none), g, d, t, os⟩) :
    wpAny (model prog w) A (Builtin.«type.__call__» ⟨.ref C :: rest, kw⟩) Q E ⟨h, g, d, t, os⟩ := by
  repeat (first
    | with_reducible refine wpAny_loadPart_at oc ?_
    | with_reducible refine wpAny_madeBy_exc oc ?_
    | wp_step)
  refine codeAny_call_builtin_code (Code.quiet_builtin _ F.quiet) (kw_check F hT oc ?_)
  refine kw_new F hT oc ?_ hz
  show wpAny _ _ _ _ _ _
  have stays : ∀ b o, h.get? b = some o → ((h.push (kdv_tup rest)).push (excObj C h.objs.size none .none)).get? b = some o := fun b o y => Heap.get?_push_of_some _ (Heap.get?_push_of_some _ y)
  have oc' := stays _ _ oc
  have made : ((h.push (kdv_tup rest)).push (excObj C h.objs.size none .none)).get? (h.objs.size + 1) = some (excObj C h.objs.size none .none) := by heap_get
  have inC : (Value.ref C :: bm).contains (.ref C) = true := by simp
  have i1 := li.keeps stays
  have b1 := (lb (.ref (h.objs.size + 1))).keeps stays
  unfold isInstance
  repeat (first
    | with_reducible refine wpAny_loadPart_at made ?_
    | (with_reducible refine wpAny_isSubtype_exc oc' ?_; rw [inC])
    | wp_step)
  show wpAny _ _ (typeLookup (.ref C) _) _ _ _
  refine i1.at ?_
  refine wpAny_holding (wpAny_bind (b1.at ?_))
  refine wpAny_bind (wpAny_call (codeAny_mono z fun r s' y => ?_))
  rcases r with e | (v | _ | _ | _) <;> first | exact y | exact y.elim | skip
  obtain ⟨rfl, y⟩ := y
  first
    | exact wpAny_pure (wpAny_pure y)
    | (wp_walk; exact y)
theorem kw_call {R : Result → Shared → Prop} (F : ExcBaseFacts B newId initId bmB) (hT : ∀ Y : String, bm.contains (.type Y) = bmB.contains (.type Y)) {rest : List Value} {kw : List (Str × Value)} {fI : Addr}
    (oc : h.get? C = some (ClsO nm q C N bs bm hdct sn sub ab col dd k0 k1 k2 k3 k5 newId)) (li : Looks (model prog w) h (typeLookup (.ref C) "__init__") (some (.ref fI)))
    (lb : ∀ self, Looks (model prog w) h (bindSpecial (.ref fI) self) (.ref fI, [self])) (hz : rest.length ≤ sizeLine)
    (z : codeAny (model prog w) (A.under (.builtin "type.__call__" ⟨.ref C :: rest, kw⟩)) (.call (.ref fI) ⟨.ref (h.objs.size + 1) :: rest, kw⟩) (InitBack (h.objs.size + 1) R)
      ⟨(h.push (kdv_tup rest)).push (excObj C h.objs.size none .none), g, d, t, os⟩) :
    codeAny (model prog w) A (.call (.ref C) ⟨rest, kw⟩) R ⟨h, g, d, t, os⟩ := by
  have f1 := tc_lookup
  have f2 := tc_bind (.ref C)
  have ty : (⟨h, g, d, t, os⟩ : Shared).TypeIs (.ref C) "type" := ⟨_, oc, rfl⟩
  refine codeAny_of_tree ?_
  show wpAny _ _ (callAny (.ref C) _) _ _ _
  repeat (any_goals (first
    | assumption
    | with_reducible refine wpAny_loadPart_at oc ?_
    | wp_step))
  refine ⟨rfl, ?_⟩
  refine codeAny_call_builtin_at (Code.quiet_builtin _ (by decide +kernel)) entry_typeCall (wpAny_check_type_call_sub oc (kw_typecall F hT oc li lb hz ?_))
  refine codeAny_mono z fun r s' y => ?_
  rcases r with e | (v | _ | _ | _) <;> exact y
end
end Ux

set_option Elab.async false
set_option linter.all false
set_option maxRecDepth 100000
set_option maxHeartbeats 4000000
namespace Ux
open PySem PySem.Calls PySem.W
section
variable {prog : Program} {w : World} {A : Around} {E : Value → Shared → Prop} {R : Result → Shared → Prop} {hp : Heap} {g : Array GenState} {d : Drawn} {t : Nat} {os : OsState}
variable {K : Frag} {B : String} {bmB : List Value} {name : Str} {tk : Tok} {v : Value} {x C : Addr}
theorem taker_of (n : findIn K (.ref C) name = some none) : takerIn K C name = some none := by
  unfold takerIn
  rw [n]
  rfl
/-- the first field of an exception -/
theorem put_first {t0 : Addr} (SF : StoreFacts B bmB "object.__setattr__" "object") (IN : K.In hp) (ex : hp.get? x = some (excObj C t0 none .none)) (ov : excOver K C bmB = true) (nf : findIn K (.ref C) name = some none) (hd : hasDictIn K C = true)
    (z : ∀ h' tk' dx, (∀ b o, b ≠ x → hp.get? b = some o → h'.get? b = some o) → hp.objs.size ≤ dx → dx ≠ x → h'.get? x = some (excObj C t0 (some dx) .none) → h'.Ns1 dx (fun y => if y = name then some v else none) → R (.ok (.ret .none)) ⟨h', g, d, tk', os⟩) :
    codeAny (model prog w) A (.call (.builtin "object.__setattr__") ⟨[.ref x, .str name tk, v], []⟩) R ⟨hp, g, d, t, os⟩ := by
  refine osa_openX (s := ⟨hp, g, d, t, os⟩) (od := none) SF IN ⟨ex, rfl, rfl, trivial⟩ ov (taker_of nf) fun b => ?_
  obtain ⟨cd, hc, hdc⟩ := any_some hd
  have lx := Heap.lt_size ex
  have nx : hp.objs.size ≠ x := Nat.ne_of_gt lx
  have ex1 : (hp.push (dictOf [] 0)).get? x = some (excObj C t0 none .none) := Heap.get?_push_of_some _ ex
  refine wpAny_bind (wpAny_pure (wpAny_bind (instanceDict_exc (s := ⟨hp, g, d, t, os⟩) ex (looks_clsIn IN hc) hdc ?_)))
  show wpAny _ _ (Builtin.ObjectAttr.storeInDict hp.objs.size (.str name tk) name v) _ _ _
  refine HandSPX.store_in_new ⟨_, #[], _, (Heap.get?_update_ne _ _ _ _ nx).trans (Heap.get?_push_at rfl rfl), rfl, fun e he => absurd he (by simp), fun _ => rfl⟩ fun h' tk' hn same => ?_
  refine z h' tk' hp.objs.size (fun b o nb ho => ?_) (Nat.le_refl _) nx ?_ hn
  · exact (same.2 b (Nat.ne_of_lt (Heap.lt_size ho))).trans ((Heap.get?_update_ne _ _ _ _ nb).trans (Heap.get?_push_of_some _ ho))
  · exact (same.2 x nx.symm).trans (Heap.get?_update_self _ ex1 rfl)
/-- a further one -/
theorem put_more {t0 dx : Addr} {m0 : Str → Option Value} {ns : List Str} (SF : StoreFacts B bmB "object.__setattr__" "object") (IN : K.In hp) (ex : hp.get? x = some (excObj C t0 (some dx) .none)) (hn : hp.Ns1 dx m0) (hw : Within m0 ns) (hz : ns.length ≤ 1000)
    (ov : excOver K C bmB = true) (nf : findIn K (.ref C) name = some none) (hd : hasDictIn K C = true)
    (z : ∀ h' tk', (∀ b o, b ≠ dx → hp.get? b = some o → h'.get? b = some o) → h'.Ns1 dx (fun y => if y = name then some v else m0 y) → R (.ok (.ret .none)) ⟨h', g, d, tk', os⟩) :
    codeAny (model prog w) A (.call (.builtin "object.__setattr__") ⟨[.ref x, .str name tk, v], []⟩) R ⟨hp, g, d, t, os⟩ := by
  obtain ⟨oD, _, _, hoD, _, _⟩ := hn.count hw
  refine osa_openX (s := ⟨hp, g, d, t, os⟩) (od := some oD) SF IN ⟨ex, rfl, rfl, hoD⟩ ov (taker_of nf) fun b => ?_
  obtain ⟨cd, hc, hdc⟩ := any_some hd
  refine wpAny_bind (wpAny_pure (wpAny_bind (wpAny_bind (wpAny_loadPart ex (wpAny_bind ((looks_clsIn IN hc).here ?_))))))
  rw [hdc]
  refine wpAny_pure (a := some dx) ?_
  exact OEX.store_in_old hn hw hz fun h' tk' hn' same => z h' tk' (fun b o nb ho => (same.2 b nb).trans ho) hn'
end
end Ux

namespace Ux
open PySem PySem.Spec PyProof.Rows L2
/-- what the written part says of an error class over the built-in B -/
structure Ec (K : PySem.W.Frag) (B newId initId : String) (bmB : List Value) (C : Addr) : Prop where
  FB : ExcBaseFacts B newId initId bmB
  SF : StoreFacts B bmB "object.__setattr__" "object"
  ini : PySem.W.excInitIn K C bmB newId = true
  ovr : PySem.W.excOver K C bmB = true
  hdc : PySem.W.hasDictIn K C = true
  sa : PySem.W.findIn K (.ref C) "__setattr__" = some (some (.builtin "object.__setattr__"))
  kc : PySem.W.keepIn K (.ref C) = true
  ga : PySem.W.findIn K (.ref C) "__getattribute__" = some (some (.builtin "BaseException.__getattribute__"))
  gg : PySem.W.findIn K (.ref C) "__getattr__" = some none
  exC : PySem.W.subIn K (.ref C) (.type "BaseException") = some true
section
variable {X : Cx} {pins : List (Addr × Obj)} {σ : L2.St} {H : Hp} {s : Shared} {a C dx : Addr} {f : Str} {y : V} {u : Value} {fs : List (Str × V)} {Q : Unit → Shared → Prop} {E : Value → Shared → Prop} {A : Around} {B newId initId : String} {bmB : List Value}
theorem not_own {c x : Addr} {o : HO} (e : H c = some o) (n : ∀ y, o ≠ .own y) (z : H x = some (.own a)) : x ≠ c := fun q => by
  rw [q, e] at z
  exact n _ (Option.some.inj z)
theorem est_first (T : Ec X.K B newId initId bmB C) (I : Inv X pins σ H s) (ea : H a = some (exo a C none)) (nf : PySem.W.findIn X.K (.ref C) f = some none) (r : RelV y u)
    (z : ∀ dx s', H dx = none → dx ≠ a → Inv X pins σ (upd (upd H dx (exd dx [(f, y)])) a (exo a C (some dx))) s' → Q () s') : wpAny (model X.prog X.w) A (setAttr (.ref a) f u) Q E s := by
  obtain ⟨t1, ho⟩ := exo_at I.hok ea
  obtain ⟨hp, g, d, t, os⟩ := s
  refine PySem.W.set_plain I.kIn (ox := PySem.W.excObj C t1 none .none) (od := none) ⟨ho, rfl, rfl, trivial⟩ T.sa ?_
  refine put_first T.SF I.kIn ho T.ovr nf T.hdc fun h' tk' dx keep lo ne hx hn => ?_
  have fr : H dx = none := I.hok.fresh lo
  have nd : ∀ {b : Addr} {o : Obj}, hp.get? b = some o → b ≠ dx := fun q => Nat.ne_of_lt (Nat.lt_of_lt_of_le (Heap.lt_size q) lo)
  have na : ∀ {b : Addr}, H b = none → b ≠ a := fun n q => by
    rw [q, ea] at n
    cases n
  have U : Un X.fs [] H (upd (upd H dx (exd dx [(f, y)])) a (exo a C (some dx))) hp h' := by
    refine ⟨fun b o q n _ _ => keep b o (na n) q, fun b o q n _ _ => ⟨o.slots, keep b o (na n) q⟩, fun b o q n _ => ?_, fun b o q _ => ?_, fun b xs q => ?_, fun b o v q => ?_, fun b ps q => ⟨#[], ?_⟩⟩
    · rw [upd_ne (na n), upd_ne (nd q)]
      exact n
    · by_cases hb : b = a
      · subst hb
        exact ⟨_, hx⟩
      · exact ⟨o, keep b o hb q⟩
    · rw [upd_ne (at_ne ea q exo_tup), upd_ne (ne_of_none q fr)]
      exact q
    · rw [upd_ne (at_ne ea q exo_frz), upd_ne (ne_of_none q fr)]
      exact q
    · rw [upd_ne (at_ne ea q exo_tbl), upd_ne (ne_of_none q fr), q]
      simp
  refine z dx _ fr ne (I.un (t' := tk') U fun b o q => ?_)
  by_cases hb : b = a
  · subst hb
    rw [upd_same] at q
    cases q
    exact exo_ok hx
  · rw [upd_ne hb] at q
    by_cases hd : b = dx
    · subst hd
      rw [upd_same] at q
      cases q
      exact exd_ok hn (relO_put (fs := []) r fun _ => True.intro)
    · rw [upd_ne hd] at q
      refine (I.hok b o q).stay (fun c v hc w => keep c v ?_ w) (fun c hc => ?_) (fun c xs hc => ?_)
      · rcases hc with hc | hc
        · rw [hc]
          exact hb
        · exact at_ne ea hc exo_own
      · rw [upd_ne (at_ne ea hc exo_own), upd_ne (ne_of_none hc fr)]
        exact hc
      · rw [upd_ne (at_ne ea hc exo_tup), upd_ne (ne_of_none hc fr)]
        exact hc
theorem est_more (T : Ec X.K B newId initId bmB C) (I : Inv X pins σ H s) (ea : H a = some (exo a C (some dx))) (ed : H dx = some (exd dx fs)) (hl : fs.length ≤ 900) (nf : PySem.W.findIn X.K (.ref C) f = some none) (r : RelV y u)
    (z : ∀ s', Inv X pins σ (upd H dx (exd dx ((f, y) :: fs))) s' → Q () s') : wpAny (model X.prog X.w) A (setAttr (.ref a) f u) Q E s := by
  obtain ⟨t1, ho⟩ := exo_at I.hok ea
  obtain ⟨mA, hns, rel⟩ := exd_at I.hok ed
  have hw := within_of rel
  obtain ⟨hp, g, d, t, os⟩ := s
  obtain ⟨oD, _, _, hoD, _, _⟩ := hns.count hw
  refine PySem.W.set_plain I.kIn (ox := PySem.W.excObj C t1 (some dx) .none) (od := some oD) ⟨ho, rfl, rfl, hoD⟩ T.sa ?_
  refine put_more T.SF I.kIn ho hns hw (by rw [List.length_map]; omega) T.ovr nf T.hdc fun h' tk' keep hn => ?_
  have there : ∃ o, h'.get? dx = some o := by
    obtain ⟨o, _, _, q, _⟩ := hn
    exact ⟨o, q⟩
  exact z _ (I.write (t' := tk') (x := dx) (e := dx) (o := exd dx ((f, y) :: fs)) (by rw [ed]; exact True.intro) (.inl rfl) keep there (exd_ok hn (relO_put r rel)))
/-- the base's __init__ on it: nothing of it is told -/
theorem base_init {us : List Value} {Q : Value → Shared → Prop} (T : Ec X.K B newId initId bmB C) (I : Inv X pins σ H s) (ea : H a = some (exo a C none)) (hl : us.length ≤ sizeLine) (z : ∀ s', Inv X pins σ H s' → Q .none s') :
    wpAny (model X.prog X.w) A (call (.builtin initId) (.ref a :: us)) Q E s := by
  obtain ⟨t1, ho⟩ := exo_at I.hok ea
  obtain ⟨nm, N, qn, bs, bm, hdct, sn, sub, ab, col, dd, k0, k1, k2, k3, k5, oc, hT⟩ := PySem.W.excInit_of I.kIn T.ini
  obtain ⟨hp, g, d, t, os⟩ := s
  refine wpAny_call (PySem.HandSPX.init_base T.FB hT oc ho hl fun h' t2 keep hx => ?_)
  have J := I.write (t' := t) (x := a) (e := a) (o := exo a C none) (by rw [ea]; exact True.intro) (.inl rfl) keep ⟨_, hx⟩ (exo_ok hx)
  have same : upd H a (exo a C none) = H := by
    funext b
    by_cases hb : b = a
    · rw [hb, upd_same, ea]
    · rw [upd_ne hb]
  rw [same] at J
  exact z _ J
end
/-- .. whatever the base's other facts -/
def EcI (K : PySem.W.Frag) (initId : String) (C : Addr) : Prop := ∃ (B newId : String) (bmB : List Value), Ec K B newId initId bmB C
def EcA (K : PySem.W.Frag) (C : Addr) : Prop := ∃ initId : String, EcI K initId C
/-! ### readings and rules -/
/-- Base.__init__(self, ..) -/
def tBI (K : PySem.W.Frag) (initId : String) (ta : TA) : TE := fun σ H Q => ta σ H fun vs H1 => ∃ (a C : Addr) (ws : List V), vs = .ref a :: ws ∧ ws.length ≤ 1000 ∧ EcI K initId C ∧ H1 a = some (exo a C none) ∧ Q .non H1
/-- self.f = e -/
def tEst (K : PySem.W.Frag) (f : Str) (to te : TE) : TS := fun D σ H => te σ H fun y H1 => to σ H1 fun x H2 => ∃ a C : Addr, x = .ref a ∧ EcA K C ∧ PySem.W.findIn K (.ref C) f = some none ∧
  ((H2 a = some (exo a C none) ∧ ∀ dx, H2 dx = none → dx ≠ a → D.nx σ (upd (upd H2 dx (exd dx [(f, y)])) a (exo a C (some dx)))) ∨
    ∃ (dx : Addr) (fs : List (Str × V)), H2 a = some (exo a C (some dx)) ∧ H2 dx = some (exd dx fs) ∧ fs.length ≤ 900 ∧ D.nx σ (upd H2 dx (exd dx ((f, y) :: fs))))
/-- e.f -/
def tEf (K : PySem.W.Frag) (f : Str) (to : TE) : TE := fun σ H Q => to σ H fun x H1 => ∃ (a C dx : Addr) (fs : List (Str × V)) (v : V), x = .ref a ∧ EcA K C ∧ PySem.W.findIn K (.ref C) f = some none ∧
  H1 a = some (exo a C (some dx)) ∧ H1 dx = some (exd dx fs) ∧ fs.lookup f = some v ∧ Q v H1
section
variable {X : Cx} {o e : Expr} {es : List Expr} {to te : TE} {ta : TA} {f x : Str} {p p' p1 p2 pos : Pos} {B newId initId : String} {bmB : List Value} {CB : Addr} {mc : Value}
theorem pe_bi {pl : Sem Bool} (hg : Gl X x) (hm : X.mg x = some (.ref CB)) (sg : PySem.W.specialIn X.K (.ref CB) "__getattribute__" = some (some (.builtin "type.__getattribute__"))) (rd : PySem.W.readsIn X.K CB mc = true)
    (vV : PySem.W.findCls X.K (.ref CB) mc "__init__" = some (.val (.builtin initId))) (vh : PySem.W.handedIn (.builtin initId) = true) (ha : PA X (e :: es) ta) (hdb : (x == ("__debug__" : Str)) = false := by decide)
    (hc : eval (.Call (.Attribute (.Name x p1) "__init__" p2) (e :: es) [] pos) X.env = (do
      let ov ← eval (.Name x p1) X.env
      standAt p2.atName
      let (f, first) ← holding [ov] (getMethod ov "__init__" pl)
      callWith pos f first (backTo pos (starEach (e :: es) X.env)) (backToKw pos (keywordEach [] X.env))) := by rfl)
    (he : starEach (e :: es) X.env = (false, eval e X.env) :: starEach es X.env := by rfl) (hpl : (backTo pos (starEach es X.env)).any (·.1) = false := by rfl) :
    PE X (.Call (.Attribute (.Name x p1) "__init__" p2) (e :: es) [] pos) (tBI X.K initId ta) := by
  refine ⟨fun pins s σ H Q I h => ?_⟩
  refine PySem.W.methodCall_KW (ld_glob I hg hm ?_ hdb) hc
  refine PySem.W.method_cls I.kIn sg (PySem.W.cls_value I.kIn rd vV vh ?_)
  show wpAny _ _ (callWith pos (Value.builtin initId) [] (backTo pos (starEach (e :: es) X.env)) []) _ _ _
  refine PyProof.Rows.callWith_method1 (thn (ha.run pos pins _ σ H _ (I.tok _) h) fun us s1 ⟨vs, H1, I1, r1, a, C, ws, ev, hl, T, ea, q⟩ => ?_) he hpl
  subst ev
  obtain ⟨_, _, _, T⟩ := T
  cases r1 with
  | @cons _ u0 _ ur ra rw' =>
    obtain rfl : u0 = Value.ref a := ra
    have hz : ur.length ≤ sizeLine := by
      rw [← Paired.length rw', sizeLine_eq]
      omega
    exact base_init T I1 ea hz fun s' J => ⟨.non, H1, J, rfl, q⟩
theorem ps_est (ho : PE X o to) (he : PE X e te) (hs : swapsWith e (some (.Attribute o f p')) pos.line X.env = pure false := by rfl) : PS X (.Assign [.Attribute o f p'] e pos) (tEst X.K f to te) := by
  refine ⟨fun pins s σ H D I h => ?_⟩
  refine plainObj_wpAny_Assign_Attribute (thn (he.run pins s σ H _ I h) fun v s1 ⟨y, H1, I1, r1, q1⟩ => thn (ho.run pins s1 σ H1 _ I1 q1) fun u s2 ⟨x, H2, I2, r2, a, C, ex, T, nf, q⟩ => ?_) hs
  subst ex
  obtain rfl : u = Value.ref a := r2
  obtain ⟨_, _, _, _, T⟩ := T
  rcases q with ⟨ea, q⟩ | ⟨dx, fs, ea, ed, hl, q⟩
  · exact est_first T I2 ea nf r1 fun dx s' n ne J => ⟨σ, _, J, q dx n ne⟩
  · exact est_more T I2 ea ed hl nf r1 fun s' J => ⟨σ, _, J, q⟩
theorem pe_ef (ho : PE X o to) (hb : attributeBase o f X.env (eval o X.env) = eval o X.env := by rfl) : PE X (.Attribute o f pos) (tEf X.K f to) := by
  refine ⟨fun pins s σ H Q I h => ?_⟩
  refine attr_of hb (thn (ho.run pins s σ H _ I h) fun u s1 hh => ?_)
  obtain ⟨x, H1, I1, rx, a, C, dx, fs, v, ex, T, nf, ea, ed, l, q⟩ := hh
  subst ex
  obtain rfl : u = Value.ref a := rx
  obtain ⟨_, _, _, _, T⟩ := T
  obtain ⟨t1, hoa⟩ := exo_at I1.hok ea
  obtain ⟨mA, hns, hr⟩ := exd_at I1.hok ed
  obtain ⟨od, hod, hl⟩ := lookIn_ns hns
  obtain ⟨u, hu, ru⟩ := RelO.some_of (v := v) (o := mA f) (by rw [← l]; exact hr f)
  have J : PySem.W.InstAt s1.heap a (PySem.W.excObj C t1 (some dx) .none) C (some od) := ⟨hoa, rfl, rfl, hod⟩
  exact HandSPX.exc_get I1.kIn J T.ga T.gg T.exC (PySem.W.findObj_own T.hdc nf rfl (by rw [hl, hu])) (handed_of ru) ⟨v, H1, I1.tok _, ru, q⟩
end
/-! ### an error made -/
/-- C(..) by values vs and keywords zs: a new error a, then __init__ by its promise -/
def tMkE (C : Addr) (n m : Nat) (sp : Sp) (gV : List V → List V → List V) (ta tk : TA) : TE := fun σ H Q => ta σ H fun vs H1 => tk σ H1 fun zs H2 => vs.length = n ∧ zs.length = m ∧ ∀ a, H2 a = none → sp (gV (.ref a :: vs) zs) (upd H2 a (exo a C none)) (fun v H3 => v = .non ∧ Q (.ref a) H3) (fun _ _ _ => False)
section
variable {X : Cx} {CX : CXT} {k n : Nat} {fI C : Addr} {fd : FuncData} {ps ks : List Str} {sp : Sp} {B newId initId : String} {bmB : List Value} {g : List Value → List Value → List Value} {gV : List V → List V → List V}
theorem run_mkE {pins : List (Addr × Obj)} {σ : L2.St} {H : Hp} {s : Shared} {Q : VK} {us ws : List Value} {vs zs : List V} (T : Ec X.K B newId initId bmB C) (iC : PySem.W.findIn X.K (.ref C) "__init__" = some (some (.ref fI))) (tI : PySem.W.typeIn X.K (.ref fI) = some (.type "function"))
    (F : FnOk X.prog X.w X.K X.mg X.base CX k fI fd ps sp) (hr : Room (k + 1) X.A) (hb : KBn X.K fd ps (n + 1) ks g gV) (hx : Passes CX X (fun _ _ _ => False)) (I : Inv X pins σ H s) (r : Vals vs us) (rz : Vals zs ws) (l1 : vs.length = n) (l2 : zs.length = ks.length) (hn : n ≤ 1000)
    (z : ∀ a, H a = none → sp (gV (.ref a :: vs) zs) (upd H a (exo a C none)) (fun v H3 => v = .non ∧ Q (.ref a) H3) (fun _ _ _ => False)) :
    wpAny (model X.prog X.w) X.A (call (.ref C) us (ks.zip ws)) (EP X pins σ Q) X.xe s := by
  obtain ⟨nm, N, qn, bs, bm, hdct, sn, sub, ab, col, dd, k0, k1, k2, k3, k5, oc, hT⟩ := PySem.W.excInit_of I.kIn T.ini
  obtain ⟨hp, gn, dr, tk, os⟩ := s
  have lo : hp.objs.size ≤ hp.objs.size + 1 := Nat.le_succ _
  have fr : H (hp.objs.size + 1) = none := I.hok.fresh lo
  have hq := z _ fr
  have kk : ∀ b o, hp.get? b = some o → ((hp.push (PySem.W.kdv_tup us)).push (PySem.W.excObj C hp.objs.size none .none)).get? b = some o := fun b o e => Heap.get?_push_of_some _ (Heap.get?_push_of_some _ e)
  have made : ((hp.push (PySem.W.kdv_tup us)).push (PySem.W.excObj C hp.objs.size none .none)).get? (hp.objs.size + 1) = some (PySem.W.excObj C hp.objs.size none .none) := by heap_get
  have I2 : Inv X pins σ (upd H (hp.objs.size + 1) (exo (hp.objs.size + 1) C none)) ⟨(hp.push (PySem.W.kdv_tup us)).push (PySem.W.excObj C hp.objs.size none .none), gn, dr, tk, os⟩ :=
    I.laid (t' := tk) (a := hp.objs.size + 1) (o := exo (hp.objs.size + 1) C none) kk lo (exo_ok made)
  have r1 : Vals (V.ref (hp.objs.size + 1) :: vs) (Value.ref (hp.objs.size + 1) :: us) := .cons rfl r
  have r2 := hb.rel r1 rz
  have e1 : (Value.ref (hp.objs.size + 1) :: us).length = n + 1 := r1.length.symm.trans (congrArg Nat.succ l1)
  have e2 : ws.length = ks.length := rz.length.symm.trans l2
  have hus : us.length ≤ sizeLine := by
    rw [← Paired.length r, l1, sizeLine_eq]
    omega
  refine wpAny_call (kw_call T.FB hT oc (PySem.W.looks_findIn I.kIn iC) (fun self => PySem.W.bind_fn I.kIn self tI) hus
    (codeAny_mono (F.run _ X.stack _ _ ⟨Value.ref (hp.objs.size + 1) :: us, ks.zip ws⟩ (g (Value.ref (hp.objs.size + 1) :: us) ws) _ _ (fun _ _ _ => False) (hr.make C us (ks.zip ws)) (I2.env0.make C us (ks.zip ws)) (hb.to _ (Value.ref (hp.objs.size + 1) :: us) ws I2.kIn e1 e2) r2 hq) fun r s' hq' => ?_))
  cases r with
  | error er => exact hx pins σ _ _ er s' I2 hq'
  | ok fl =>
    cases fl with
    | ret u =>
      obtain ⟨v, H', I3, rv, ev, q3⟩ := I2.after hq'
      subst ev
      exact ⟨rv, ⟨V.ref (hp.objs.size + 1), H', I3, rfl, q3⟩⟩
    | next => exact False.elim hq'
    | brk => exact False.elim hq'
    | cont => exact False.elim hq'
end
end Ux

set_option Elab.async false
set_option linter.all false
set_option maxRecDepth 100000
set_option maxHeartbeats 4000000
namespace Ux
open PySem PySem.Spec PyProof.Rows L2
section
variable {X : Cx} {CX : CXT} {k n : Nat} {fI C : Addr} {fd : FuncData} {ps ks : List Str} {sp : Sp} {B newId initId : String} {bmB : List Value} {g : List Value → List Value → List Value} {gV : List V → List V → List V}
variable {x : Str} {p pos : Pos} {e : Expr} {es : List Expr} {kws : List Keyword} {ta tk : TA}
theorem kbn_pos {K : PySem.W.Frag} {fd : FuncData} {ps : List Str} (hb : Binds K fd ps []) (n : Nat) (hn : ps.length = n) : KBn K fd ps n [] (fun us _ => us) (fun vs _ => vs) := by
  refine ⟨fun s us ws IN l1 l2 => ?_, fun r _ => r⟩
  have hz : ws = [] := List.length_eq_zero_iff.mp l2
  subst hz
  have z := hb s us IN (by rw [List.append_nil, l1, hn])
  rw [List.append_nil] at z
  exact z
theorem kbn_mk {K : PySem.W.Frag} {y qual : Str} {st : Stmt} {f : Addr} {fd : FuncData} (F : Fun K y qual st f fd) (n : Nat) (ks : List Str) (g : {α : Type} → List α → List α → List α)
    (hrel : ∀ {vs zs : List V} {us ws : List Value}, Vals vs us → Vals zs ws → Vals (g vs zs) (g us ws))
    (h : ∀ (kV doc pm : Value) (an : Option Addr) (cdv ct : Value) (us ws : List Value), us.length = n → ws.length = ks.length → bindArgs (PySem.W.fnOf y qual (defArgs st) (defBody st) (defScope st) .none kV doc pm an cdv ct) ⟨us, ks.zip ws⟩ = pure (ps.zip (g us ws))) : KBn K fd ps n ks (fun us ws => g us ws) (fun vs zs => g vs zs) := by
  obtain ⟨oc, od, kV, doc, pm, an, cdv, ct, osl, rfl, lk, hcd⟩ := F.ex
  exact ⟨fun s us ws _ l1 l2 => .of_eq (h kV doc pm an cdv ct us ws l1 l2), fun r z => hrel r z⟩
/-- C(e, ..) -/
theorem pe_mkE (T : Ec X.K B newId initId bmB C) (iC : PySem.W.findIn X.K (.ref C) "__init__" = some (some (.ref fI))) (tI : PySem.W.typeIn X.K (.ref fI) = some (.type "function")) (F : FnOk X.prog X.w X.K X.mg X.base CX k fI fd ps sp) (hr : Room (k + 1) X.A)
    (hb : KBn X.K fd ps (n + 1) [] g gV) (hx : Passes CX X (fun _ _ _ => False)) (hn : n ≤ 1000) (hg : Gl X x) (hm : X.mg x = some (.ref C)) (ha : PA X (e :: es) ta)
    (hdb : (x == ("__debug__" : Str)) = false := by decide) (he : starEach (e :: es) X.env = (false, eval e X.env) :: starEach es X.env := by rfl) (hpl : (backTo pos (starEach es X.env)).any (·.1) = false := by rfl) :
    PE X (.Call (.Name x p) (e :: es) [] pos) (tMkE C n 0 sp gV ta tNil) := by
  refine ⟨fun pins s σ H Q I h => ?_⟩
  refine wpAny_Call_Name_kw (ld_glob I hg hm ?_ hdb)
  refine PySem.W.callWith_K (h₀ := X.base) I.ok.mod.kin T.kc (thn (ha.run pos pins s σ H _ I h) fun us s1 hh => ?_) he hpl
  obtain ⟨vs, H1, I1, r1, l1, _, z⟩ := hh
  refine ⟨I1.kIn, ?_⟩
  exact run_mkE (ks := []) (ws := []) (zs := []) T iC tI F hr hb hx I1 r1 .nil l1 rfl hn z
/-- C() -/
theorem pe_mkE0 (T : Ec X.K B newId initId bmB C) (iC : PySem.W.findIn X.K (.ref C) "__init__" = some (some (.ref fI))) (tI : PySem.W.typeIn X.K (.ref fI) = some (.type "function")) (F : FnOk X.prog X.w X.K X.mg X.base CX k fI fd ps sp) (hr : Room (k + 1) X.A)
    (hb : KBn X.K fd ps 1 [] g gV) (hx : Passes CX X (fun _ _ _ => False)) (hg : Gl X x) (hm : X.mg x = some (.ref C)) (hdb : (x == ("__debug__" : Str)) = false := by decide) : PE X (.Call (.Name x p) [] [] pos) (tMkE C 0 0 sp gV tNil tNil) := by
  refine ⟨fun pins s σ H Q I h => ?_⟩
  refine wpAny_Call_Name_kw (ld_glob I hg hm ?_ hdb)
  obtain ⟨l1, l2, z⟩ := h
  exact PySem.W.callWith_K0 I.kIn T.kc (run_mkE (ks := []) (ws := []) (zs := []) (us := []) (vs := []) T iC tI F hr hb hx I .nil .nil rfl rfl (Nat.zero_le _) z)
/-- C(k = e, ..) -/
theorem pe_mkEK (T : Ec X.K B newId initId bmB C) (iC : PySem.W.findIn X.K (.ref C) "__init__" = some (some (.ref fI))) (tI : PySem.W.typeIn X.K (.ref fI) = some (.type "function")) (F : FnOk X.prog X.w X.K X.mg X.base CX k fI fd ps sp) (hr : Room (k + 1) X.A)
    (hb : KBn X.K fd ps 1 ks g gV) (hx : Passes CX X (fun _ _ _ => False)) (hg : Gl X x) (hm : X.mg x = some (.ref C)) (hkw : PK X kws tk)
    (hall : (backToKw pos (keywordEach kws X.env)).all (·.1.isSome) = true := by rfl) (hks : (backToKw pos (keywordEach kws X.env)).filterMap (·.1) = ks := by rfl) (hdb : (x == ("__debug__" : Str)) = false := by decide)
    (hpl : ((backTo pos (starEach [] X.env)).any (·.1) || (backToKw pos (keywordEach kws X.env)).any (·.1.isNone)) = false := by rfl) :
    PE X (.Call (.Name x p) [] kws pos) (tMkE C 0 ks.length sp gV tNil tk) := by
  refine ⟨fun pins s σ H Q I h => ?_⟩
  refine wpAny_Call_Name_kw (ld_glob I hg hm ?_ hdb)
  refine PySem.W.callWith_KW0 (h₀ := X.base) I.ok.mod.kin T.kc hall ?_ hpl
  refine thn (hkw.run pos pins s σ H _ I h) fun ws s2 hh => ?_
  obtain ⟨zs, H2, I2, rz, l1, l2, z⟩ := hh
  refine ⟨I2.kIn, ?_⟩
  rw [hks]
  exact run_mkE (us := []) (vs := []) T iC tI F hr hb hx I2 .nil rz rfl l2 (Nat.zero_le _) z
end
/-! ### isinstance of an error -/
structure Ei (K : PySem.W.Frag) (C : Addr) : Prop where
  cl : (PySem.W.clsIn K C).isSome = true
  hg : PySem.W.findIn K (.ref C) "__getattribute__" = some (some (.builtin "BaseException.__getattribute__"))
  hk : PySem.W.findIn K (.ref C) "__getattr__" = some none
  hs : PySem.W.subIn K (.ref C) (.type "BaseException") = some true
  ha : PySem.W.findIn K (.ref C) "__class__" = some (some (.builtin "object.__class__"))
  hn : PySem.W.specialIn K (.builtin "object.__class__") "__get__" = some (some (.builtin "getset_descriptor.__get__"))
  ht : PySem.W.takesIn K (.builtin "object.__class__") = some true
  hm : PySem.W.mroIn K C (.type "object") = some true
/-- isinstance(e, c), e an error with its dict -/
def rIsEr (K : PySem.W.Frag) : List V → Hp → VK → Prop := fun xs H Q => ∃ (a C dx : Addr) (fs : List (Str × V)) (c : V) (u : Value) (b : Bool), xs = [.ref a, c] ∧ ClsV c u ∧ Ei K C ∧ H a = some (exo a C (some dx)) ∧ H dx = some (exd dx fs) ∧ PySem.W.kitOne K (.ref C) u = some b ∧ Q (.bl b) H
theorem call_isEr {X : Cx} : CallR X (.builtin "isinstance") (rIsEr X.K) := by
  intro pins s σ H xs us Q I r h
  obtain ⟨a, C, dx, fs, c, u, b, rfl, kc, E, ea, ed, e, q⟩ := h
  obtain ⟨u1, u2, rfl, r1, r2⟩ := vals2 r
  cases (show u1 = Value.ref a from r1)
  have ec := kc.eq r2
  subst ec
  obtain ⟨t1, hoa⟩ := exo_at I.hok ea
  obtain ⟨mA, hns, hr⟩ := exd_at I.hok ed
  obtain ⟨od, hod, hl⟩ := lookIn_ns hns
  have J : PySem.W.InstAt s.heap a (PySem.W.excObj C t1 (some dx) .none) C (some od) := ⟨hoa, rfl, rfl, hod⟩
  exact PySem.W.kia_one (PySem.W.kitx_exc E.cl E.hg E.hk E.hs E.ha E.hn E.ht E.hm) I.kIn J e (fun z => nomatch z) fun tk => ⟨.bl b, H, I.tok tk, rfl, q⟩
/-! ### abs and str of a truth value -/
theorem abs_true {prog : Program} {w : World} {A : Around} {E : Value → Shared → Prop} {s : Shared} {Q : Value → Shared → Prop} (h : ∀ u tk, Q (.int 1 u) { s with toks := tk }) : wpAny (model prog w) A (call (.builtin "abs") [.bool true]) Q E s := by
  refine PySem.Calls.call_function_entry kind_abs plain_abs entry_abs (args_abs _) ?_
  unfold Builtin.«abs»
  refine wpAny_bind (m := oneArg "abs" _) (wpAny_pure ?_)
  refine wpAny_bind (m := callSpecial? (.bool true) (Str.ofString "__abs__")) (wpAny_callSpecial?_slot (name := Str.ofString "__abs__") (PySem.typeIs_bool s true) F.slot_bool_abs
    (wpAny_call_entry F.slot_bool_abs (PySem.typeIs_bool s true) entry_int_abs ?_ (args_int_abs _)))
  have h' := h s.toks (s.toks + 1)
  exact wpAny_ret_mkInt (wpAny_pure ⟨_, rfl, h'⟩)
theorem call_absT {X : Cx} : CallR X (.builtin "abs") (fun xs H Q => (∃ i, xs = [.int i] ∧ Q (.int (if i < 0 then -i else i)) H) ∨ (xs = [.bl true] ∧ Q (.int 1) H)) := by
  intro pins s σ H xs us Q I r h
  rcases h with ⟨i, rfl, q⟩ | ⟨rfl, q⟩
  · obtain ⟨u, rfl, t, rfl⟩ := vals1 r
    exact call_abs_int fun u tk => ⟨.int (if i < 0 then -i else i), H, I.tok _, ⟨_, rfl⟩, q⟩
  · obtain ⟨u, rfl, r1⟩ := vals1 r
    cases (show u = Value.bool true from r1)
    exact abs_true fun u tk => ⟨.int 1, H, I.tok _, ⟨_, rfl⟩, q⟩
theorem str_true {prog : Program} {w : World} {A : Around} {E : Value → Shared → Prop} {s : Shared} {Q : Value → Shared → Prop} (h : Q (.str "True" s.toks) { s with toks := s.toks + 1 }) : wpAny (model prog w) A (call (.type "str") [.bool true]) Q E s :=
  callType_new F.called_str (by decide) (F.typeCall_str_1 _) (F.newCall_str_1 _) (fun obj => F.args_object_init_2 obj _) F.entry_str_new
    (meets_str_new (S := fun _ R s => R (.ok (.ret (.str "True" s.toks))) { s with toks := s.toks + 1 }) fun _ _ _ _ s hq =>
      wpAny_strOf_gives rfl (PySem.typeIs_bool s true) F.slot_bool_str F.slot_bool_repr F.entry_bool_repr (F.args_bool_repr_1 _) (gives_bool_repr true) hq (hsz := by decide)) ⟨typeIs_str _ _ _, h⟩
theorem call_strT {X : Cx} : CallR X (.type "str") (fun xs H Q => (∃ i, xs = [.int i] ∧ i.natAbs.log2 < 1920 ∧ Q (.str (toString i)) H) ∨ (xs = [.bl true] ∧ Q (.str "True") H)) := by
  intro pins s σ H xs us Q I r h
  rcases h with ⟨i, rfl, hz, q⟩ | ⟨rfl, q⟩
  · obtain ⟨u, rfl, t, rfl⟩ := vals1 r
    exact PySem.P.str_of_int hz ⟨.str _, H, I.tok _, ⟨_, rfl⟩, q⟩
  · obtain ⟨u, rfl, r1⟩ := vals1 r
    cases (show u = Value.bool true from r1)
    exact str_true ⟨.str _, H, I.tok _, ⟨_, rfl⟩, q⟩
theorem call_reprS {X : Cx} : CallR X (.builtin "repr") (fun xs H Q => ∃ x, xs = [.str x] ∧ (reprText x).length ≤ sizeLine ∧ Q (.str (reprText x)) H) := by
  intro pins s σ H xs us Q I r h
  obtain ⟨x, rfl, hz, q⟩ := h
  obtain ⟨u, rfl, t, rfl⟩ := vals1 r
  exact PySem.P.repr_of_str (hsz := hz) ⟨.str _, H, I.tok _, ⟨_, rfl⟩, q⟩
end Ux

set_option Elab.async false
set_option linter.all false
set_option maxRecDepth 100000
set_option maxHeartbeats 4000000
/-! Own classes: str, repr, == and != by the text's own methods. -/
namespace Ux
open PySem PySem.Spec PyProof.Rows L2
section
variable {X : Cx} {pins : List (Addr × Obj)} {σ : L2.St} {H : Hp} {s : Shared} {k : Nat} {f C : Addr} {fd : FuncData} {ps : List Str} {sp : Sp}
theorem own_run {A' : Around} {us : List Value} {vs : List V} {Q : VK} {R : Value → Shared → Prop} {E' : Value → Shared → Prop} (F : FnOk X.prog X.w X.K X.mg X.base CX0 k f fd ps sp) (hr : Room k A') (e0 : Env0 X.prog X.w X.K X.mg X.base A' X.stack s H)
    (hb : Binds X.K fd ps []) (I : Inv X pins σ H s) (r : Vals vs us) (h : sp vs H Q (fun _ _ _ => False)) (z : ∀ u s', EP X pins σ Q u s' → R u s') : wpAny (model X.prog X.w) A' (call (.ref f) us) R E' s := by
  have hl : us.length = ps.length := r.length.symm.trans (F.len _ _ _ _ h)
  have b := hb s us I.kIn (by rw [List.append_nil]; exact hl)
  rw [List.append_nil] at b
  refine wpAny_call (codeAny_mono (F.run A' X.stack s H ⟨us, []⟩ us vs Q (fun _ _ _ => False) hr e0 b r h) fun r s' hq => ?_)
  cases r with
  | error e => exact False.elim hq
  | ok fl =>
    cases fl with
    | ret u => exact z u s' (I.after hq)
    | next => exact False.elim hq
    | brk => exact False.elim hq
    | cont => exact False.elim hq
/-- an own method by its name, on an instance -/
structure OwnM (K : PySem.W.Frag) (C : Addr) (m : Str) (f : Addr) : Prop where
  at_ : PySem.W.findIn K (.ref C) m = some (some (.ref f))
  fn : PySem.W.isFn K (.ref f) = true
/-- a text handed back -/
def rOwnS (C : Addr) (sp : Sp) : List V → Hp → VK → Prop := fun xs H Q => ∃ (a dx : Addr) (fs : List (Str × V)), xs = [.ref a] ∧ H a = some (.ins C dx fs) ∧ sp [.ref a] H (fun v H' => ∃ z, v = .str z ∧ Q (.str z) H') (fun _ _ _ => False)
theorem call_strO (M : OwnM X.K C "__str__" f) (F : FnOk X.prog X.w X.K X.mg X.base CX0 k f fd ["self"] sp) (hb : Binds X.K fd ["self"] []) (hr : Room (k + 2) X.A) : CallR X (.type "str") (rOwnS C sp) := by
  intro pins s σ H xs us Q I r h
  obtain ⟨a, dx, fs, rfl, ea, q⟩ := h
  obtain ⟨u, rfl, rx⟩ := vals1 r
  cases (show u = Value.ref a from rx)
  obtain ⟨mA, O, _⟩ := ins_get I.hok ea
  obtain ⟨od, J, _⟩ := O.look
  refine PySem.W.kso_call hr.in1.in1.units0 I.kIn J M.at_ M.fn (own_run F hr.in1.in1 I.env0.in1.in1 hb (vs := [.ref a]) I (.cons rfl .nil) q fun u s' hq => ?_)
  obtain ⟨v, H', I', rv, z, ev, q'⟩ := hq
  subst ev
  obtain ⟨t, rfl⟩ := rv
  exact ⟨.str z, H', I', ⟨t, rfl⟩, q'⟩
theorem call_reprO (M : OwnM X.K C "__repr__" f) (F : FnOk X.prog X.w X.K X.mg X.base CX0 k f fd ["self"] sp) (hb : Binds X.K fd ["self"] []) (hr : Room (k + 1) X.A) : CallR X (.builtin "repr") (rOwnS C sp) := by
  intro pins s σ H xs us Q I r h
  obtain ⟨a, dx, fs, rfl, ea, q⟩ := h
  obtain ⟨u, rfl, rx⟩ := vals1 r
  cases (show u = Value.ref a from rx)
  obtain ⟨mA, O, _⟩ := ins_get I.hok ea
  obtain ⟨od, J, _⟩ := O.look
  obtain ⟨m, hF⟩ := I.fr
  refine PySem.W.repr_K hr.in1.units0 hF I.ok.mod.kin J M.at_ M.fn (own_run F hr.in1 I.env0.in1 hb (vs := [.ref a]) I (.cons rfl .nil) q fun u s' hq => ?_)
  obtain ⟨v, H', I', rv, z, ev, q'⟩ := hq
  subst ev
  obtain ⟨t, rfl⟩ := rv
  exact ⟨.str z, H', I', ⟨t, rfl⟩, q'⟩
/-- o == y, o != y by o's own __eq__ -/
def rOwnEq (K : PySem.W.Frag) (C : Addr) (sp : Sp) (neg : Bool) : R2 := fun x y H Q => ∃ (a dx : Addr) (fs : List (Str × V)) (t : Value), x = .ref a ∧ H a = some (.ins C dx fs) ∧ TyX K H y t ∧ PySem.W.notFirst K C t = true ∧ sp [x, y] H (fun v H' => ∃ b, v = .bl b ∧ Q (.bl (b != neg)) H') (fun _ _ _ => False)
theorem op_eqO (M : OwnM X.K C "__eq__" f) (F : FnOk X.prog X.w X.K X.mg X.base CX0 k f fd ["self", "other"] sp) (hb : Binds X.K fd ["self", "other"] []) (hr : Room k X.A) : OpR X (compareOp .Eq) (rOwnEq X.K C sp false) := by
  intro pins s σ H x y v u Q I rx ry h
  obtain ⟨a, dx, fs, t, rfl, ea, ty, nf, q⟩ := h
  cases (show v = Value.ref a from rx)
  obtain ⟨mA, O, _⟩ := ins_get I.hok ea
  obtain ⟨od, J, _⟩ := O.look
  obtain ⟨m, hF⟩ := I.fr
  obtain ⟨P', Z, hp, _⟩ := kit_of I ry ty
  show wpAny (model X.prog X.w) X.A (richCompare .Eq (.ref a) u) (EP X pins σ Q) X.xe s
  refine PySem.W.cmp_K (op := .Eq) (tb := t) hr.units0 hF I.ok.mod.kin J (Z.ty _ _ I.kIn hp) nf M.at_ M.fn (own_run F hr I.env0 hb (vs := [.ref a, y]) I (.cons rfl (.cons ry .nil)) q fun w s' hq => ?_)
  obtain ⟨v, H', I', rv, b, ev, q'⟩ := hq
  subst ev
  cases (show w = Value.bool b from rv)
  have e : (b != false) = b := by cases b <;> rfl
  rw [e] at q'
  exact ⟨.bl b, H', I', rfl, q'⟩
/-- what != wants besides: the class keeps object's __ne__ -/
structure NeO (K : PySem.W.Frag) (C : Addr) : Prop where
  ne : PySem.W.findIn K (.ref C) "__ne__" = some (some (.builtin "object.__ne__"))
  ob : PySem.W.mroIn K C (.type "object") = some true
end
end Ux
namespace Ux
open PySem PySem.W
section
variable {prog : Program} {w : World} {M : Model} {A : Around} {E : Value → Shared → Prop} {s : Shared} {K : Frag} {x C L f : Addr} {h₀ : Heap} {m : Str → Option Value} {ox : Obj} {od : Option Obj} {tb b : Value}
theorem ifBound_bi {name : Str} {id : String} {args : List Value} {Q : Option Value → Shared → Prop} (IN : K.In s.heap) (I : InstAt s.heap x ox C od) (hs : findIn K (.ref C) name = some (some (.builtin id))) (hb : ∀ self, bindSpecial (.builtin id) self = pure (.builtin id, [self]))
    (hn : (Value.builtin id == Value.none) = false) (h : wpAny M A (call (.builtin id) (.ref x :: args)) (fun v => Q (some v)) E s) : wpAny M A (callSpecialIfBound? (.ref x) name args) Q E s := by
  simp only [callSpecialIfBound?, bindSpecialIfBound?]
  refine wpAny_holding (wpAny_bind (wpAny_bind (wpAny_bind (I.type.here ((looks_findIn IN hs).here ?_)))))
  simp only [hb]
  refine wpAny_bind (wpAny_askSetting (wpAny_ite ?_))
  have last : wpAny M A (call (.builtin id) ([.ref x] ++ args) >>= fun v => pure (some v)) Q E s := wpAny_bind (wpAny_mono h (fun v s' z => wpAny_pure z) fun _ _ z => z)
  split
  · exact wpAny_bind (wpAny_pure (wpAny_pure last))
  · exact wpAny_tryCatch (wpAny_bind (wpAny_pure (wpAny_pure last)))
/-- o != b where o has its own __eq__ and keeps object's __ne__ -/
theorem ne_own {Q : Value → Shared → Prop} (hu : A.units < cLine) (hu1 : A.in1.units < cLine) (IN : K.In s.heap) (I : InstAt s.heap x ox C od) (hb : Looks (model prog w) s.heap (typeOf b) tb) (hn : notFirst K C tb = true)
    (hne : findIn K (.ref C) "__ne__" = some (some (.builtin "object.__ne__"))) (hm : mroIn K C (.type "object") = some true) (hs : findIn K (.ref C) "__eq__" = some (some (.ref f))) (hf : isFn K (.ref f) = true)
    (h : wpAny (model prog w) A.in1 (call (.ref f) [.ref x, b]) (fun v s' => ∃ r, v = .bool r ∧ Q (.bool (!r)) s') E s) : wpAny (model prog w) A (richCompare .NotEq (.ref x) b) Q E s := by
  have SL := PySem.F.cmp_object.ne
  have one : wpAny (model prog w) A (tryCompare (.ref x) "__ne__" b) (fun r s' => ∃ v, r = some v ∧ Q v s') E s := by
    unfold tryCompare
    refine wpAny_bind (ifBound_bi IN I hne SL.bind rfl ?_)
    refine wpAny_call (codeAny_call_builtin SL.plain PySem.F.cmpEntry_ne (check_slot (i := "object.__ne__") (owner := "object") (n := "__ne__") PySem.F.cmpKind_ne PySem.F.cmpSplit_ne (I.type.andThen (looks_mroIn IN hm)) (PySem.F.cmpArgs_ne _ _) ?_))
    unfold Builtin.«object.__ne__»
    refine wpAny_bind (m := slotArgs "__ne__" 1 _) (wpAny_pure ?_)
    refine wpAny_bind (m := cRoomFor _ _) (wpAny_cRoomFor hu1 ?_)
    refine wpAny_bind (m := callSpecialIfBound? (.ref x) (Str.ofString "__eq__") _) (ifBound_K IN I hs hf (wpAny_mono h (fun v s' z => ?_) fun _ _ z => z))
    obtain ⟨r, rfl, q⟩ := z
    refine wpAny_bind (wpAny_truthy_bool ?_)
    exact wpAny_pure (wpAny_pure ⟨_, rfl, q⟩)
  have SN : (cmpInfo .NotEq).2.1 = ("__ne__" : Str) := rfl
  unfold richCompare
  simp only [oneThing_ref, cmpInfo_NotEq]
  refine wpAny_holding (wpAny_bind (wpAny_cRoomFor hu ?_))
  refine wpAny_bind (I.type.here (wpAny_bind (hb.here ?_)))
  split
  · rename_i q
    have e : subIn K tb (.ref C) = some false := by
      rcases Bool.or_eq_true_iff.mp hn with e | e
      · rw [beq_iff_eq.mp e] at q
        simp at q
      · exact beq_iff_eq.mp e
    refine wpAny_bind ((looks_subIn IN e).here ?_)
    simp only [Bool.false_eq_true, if_false]
    refine wpAny_bind (wpAny_mono one (fun r s' z => ?_) fun _ _ e => e)
    obtain ⟨v, rfl, hq⟩ := z
    exact wpAny_pure hq
  · refine wpAny_bind (wpAny_pure ?_)
    simp only [Bool.false_eq_true, if_false]
    refine wpAny_bind (wpAny_mono one (fun r s' z => ?_) fun _ _ e => e)
    obtain ⟨v, rfl, hq⟩ := z
    exact wpAny_pure hq
end
end Ux
namespace Ux
open PySem PySem.Spec PyProof.Rows L2
section
variable {X : Cx} {k : Nat} {f C : Addr} {fd : FuncData} {sp : Sp}
theorem op_neO (M : OwnM X.K C "__eq__" f) (N : NeO X.K C) (F : FnOk X.prog X.w X.K X.mg X.base CX0 k f fd ["self", "other"] sp) (hb : Binds X.K fd ["self", "other"] []) (hr : Room (k + 1) X.A) : OpR X (compareOp .NotEq) (rOwnEq X.K C sp true) := by
  intro pins s σ H x y v u Q I rx ry h
  obtain ⟨a, dx, fs, t, rfl, ea, ty, nf, q⟩ := h
  cases (show v = Value.ref a from rx)
  obtain ⟨mA, O, _⟩ := ins_get I.hok ea
  obtain ⟨od, J, _⟩ := O.look
  obtain ⟨P', Z, hp, _⟩ := kit_of I ry ty
  show wpAny (model X.prog X.w) X.A (richCompare .NotEq (.ref a) u) (EP X pins σ Q) X.xe s
  refine ne_own (tb := t) hr.units0 hr.in1.units0 I.kIn J (Z.ty _ _ I.kIn hp) nf N.ne N.ob M.at_ M.fn (own_run F hr.in1 I.env0.in1 hb (vs := [.ref a, y]) I (.cons rfl (.cons ry .nil)) q fun w s' hq => ?_)
  obtain ⟨v, H', I', rv, b, ev, q'⟩ := hq
  subst ev
  cases (show w = Value.bool b from rv)
  have e : (b != true) = !b := by cases b <;> rfl
  rw [e] at q'
  exact ⟨b, rfl, .bl (!b), H', I', rfl, q'⟩
end
end Ux

set_option Elab.async false
set_option linter.all false
set_option maxRecDepth 100000
set_option maxHeartbeats 4000000
namespace Ux
open PySem PySem.Spec PyProof.Rows L2
/-! ### try: .. except (A, B) as n: .., where every exception of the body is caught -/
/-- what such a clause wishes of an exception -/
def wAs2 (K : PySem.W.Frag) (C1 C2 : Addr) (len i : Nat) (ts : Addr → Value → Option Addr → TS) (D : Ends) : WX := fun cls d σ H =>
  PySem.W.exmAny K cls [.ref C1, .ref C2] = some true ∧ ∀ a, H a = none → σ.length = len →
    ts a cls d ⟨fun σ' H' => D.nx (σ'.set i none) H', D.rt, fun σ' H' => D.bk (σ'.set i none) H', fun σ' H' => D.ct (σ'.set i none) H'⟩ (σ.set i (some (.ref a))) H
theorem fly_push {B h : Heap} {l : List Env} {e : Addr} {Z : Obj → Prop} {o : Obj} (f : HandSPX.FlyingZ B l e Z h) : HandSPX.FlyingZ B l e Z (h.push o) := by
  obtain ⟨k1, k2, k3, oe, vs, T, oT, ts, a1, a2, a3, a4, a5, a6, a7, a8, a9⟩ := f
  have kp : ∀ {b u}, h.get? b = some u → (h.push o).get? b = some u := fun z => Heap.get?_push_of_some _ z
  exact ⟨fun b u z => kp (k1 b u z), k2, k3.of_keeps fun b u z _ => ⟨u, kp z, rfl⟩, oe, vs, T, oT, ts, kp a1, a2, a3, a4, a5, a6, kp a7, a8, a9⟩
section
variable {X : Cx} {x1 x2 n : Str} {C1 C2 : Addr} {i : Nat} {body suite : List Stmt} {b₀ : Stmt} {p1 p2 tpos pos pos' : Pos} {kk : Nat} {tb : WX → TS} {ts : Addr → Value → Option Addr → TS}
theorem ps_try_as2 (hs : X.stack = X.env :: X.outer) (hf : X.env.frame = some X.env.locals) (hN : X.N.Nodup) (hi : X.N[i]? = some n) (hln : X.env.kindOf n = some .local)
    (g1 : Gl X x1) (g2 : Gl X x2) (m1 : X.mg x1 = some (.ref C1)) (m2 : X.mg x2 = some (.ref C2)) (d1 : (x1 == ("__debug__" : Str)) = false) (d2 : (x2 == ("__debug__" : Str)) = false)
    (hb : ∀ (W : WX) (pn : List (Addr × Obj)) (xe : Value → Shared → Prop), Takes (X.tr pn xe) W → PassesOwn (model X.prog X.w) X.A X.env xe → PSs (X.tr pn xe) body (tb W))
    (hsu : ∀ (a : Addr) (oe : Obj) (cls : Value) (d : Option Addr) (pn : List (Addr × Obj)), Zc cls d oe → (∃ vs, oe.data = .fields vs) → PSs (X.suite a ((a, oe) :: pn)) (b₀ :: suite) (ts a cls d)) :
    PS X (.Try body [.ExceptHandler (some (.Tuple [.Name x1 p1, .Name x2 p2] kk tpos)) (some n) (b₀ :: suite) pos'] [] [] pos) (fun D σ H => tb (wAs2 X.K C1 C2 X.N.length i ts D) D σ H) := by
  constructor
  intro pins s σ H D I h
  have ok := I.ok
  have frm : X.A.frames = some (X.env :: X.outer) := ok.frames.trans (congrArg some hs)
  refine wpAny_Try_except (wpAny_mono ((hb (wAs2 X.K C1 C2 X.N.length i ts D) (X.pn ++ pins) (fun e s₁ => wpAny (model X.prog X.w) X.A (noteFrame e X.env) (fun _ s₂ => wpAny (model X.prog X.w) X.A (setFlight e none)
    (fun _ s₃ => wpAny (model X.prog X.w) X.A (handleBy e X.env [.ExceptHandler (some (.Tuple [.Name x1 p1, .Name x2 p2] kk tpos)) (some n) (b₀ :: suite) pos']) (SP X pins D) X.xe s₃) X.xe s₂) X.xe s₁)
    (fun u sx caught => ?_) PassesOwn.looking).run [] s σ H D (I.toTry _) h) (fun f sf done => ?_) (fun _ _ z => z))
  · obtain ⟨a, B, sI, pins', σc, Hc, cls, d, rfl, Jt, nb, up, sky, na, os, ag, hm, go⟩ := caught
    have J := Jt.ofTry ok
    rw [hs] at sky
    show wpAny (model X.prog X.w) X.A (noteFrame (.ref a) X.env) _ _ _
    refine Sky.land Zc.steady frm hf sky fun h1 fl1 up1 => ?_
    have J1 : Inv X pins σc Hc { sx with heap := h1 } := J.landed nb fl1.1 (up.trans up1) os ag
    obtain ⟨oe, vs, he, hz, hd⟩ := fl1.there
    have out : a ∉ frs (X.env :: X.outer) := fun m => by
      obtain ⟨_, o', e', hnf⟩ := fl1.2.2.1.mem m
      have q := Option.some.inj (he.symm.trans e')
      exact hnf vs (q ▸ hd)
    have nL : a ≠ X.env.locals := fun z => out (List.mem_filterMap.mpr ⟨X.env, List.mem_cons_self, hf.trans (congrArg some z.symm)⟩)
    have nF : a ∉ X.fs := fun m => by
      obtain ⟨e, h2, h3⟩ := List.mem_filterMap.mp m
      exact out (List.mem_filterMap.mpr ⟨e, List.mem_cons_of_mem _ h2, h3⟩)
    have S1 := J1.suite he hd na nL nF
    refine wpAny_handleBy_cons (codeAny_handlers_test ?_) (by intro q; cases q)
    have LT : PySem.W.Looks (model X.prog X.w) h1 (typeOf (.ref a)) cls := fun A Q E s k q => wpAny_typeOf_ref (k _ _ he) (hz.1.symm ▸ q)
    refine wpAny_Tuple (wpAny_items_cons (ld_glob (X := X.suite a ((a, oe) :: (X.pn ++ pins))) S1 g1 m1 ?_ d1))
    refine wpAny_items_cons (ld_glob (X := X.suite a ((a, oe) :: (X.pn ++ pins))) S1 g2 m2 ?_ d2)
    refine wpAny_items_nil ⟨(by show 2 ≤ sizeLine; decide), ?_⟩
    have kp : ∀ q o, h1.get? q = some o → (h1.push { cls := .type "tuple", data := .seq [Value.ref C1, Value.ref C2].toArray }).get? q = some o := fun _ _ z => Heap.get?_push_of_some _ z
    refine (PySem.W.exm_tup2 (J1.kIn.keeps kp) (LT.keeps kp) (Heap.get?_push_size h1 rfl) hm).here ?_
    refine codeAny_handlers_suite_as (HandSPX.lands_againZ (fly_push fl1) fun h2 fl2 up2 => ?_)
    have J2 : Inv X pins σc Hc { sx with heap := h2 } := J.landed nb fl2.1 (((up.trans up1).trans (Heap.UpToSlots.of_keeps kp)).trans up2) os ag
    obtain ⟨oe2, vs2, he2, hz2, hd2⟩ := fl2.there
    have S2 := J2.suite he2 hd2 na nL nF
    refine store_ok (X := X.suite a ((a, oe2) :: (X.pn ++ pins))) (v := .ref a) S2 hN hi (.inl hln) rfl (fun s3 S3 => ?_) (.inr hln)
    refine wpAny_mono ((hsu a oe2 cls d (X.pn ++ pins) hz2 ⟨_, hd2⟩).run [] s3 _ Hc _ S3 (go a na J.len)) (fun f s4 fin => ?_) (fun _ _ z => z.elim)
    have gone : ∀ {σ4 : L2.St} {H4 : Hp} {Q : Shared → Prop}, Inv (X.suite a ((a, oe2) :: (X.pn ++ pins))) [] σ4 H4 s4 → (∀ s5, Inv X pins (σ4.set i none) H4 s5 → Q s5) →
        wpAny (model X.prog X.w) X.A (do bindName X.env n .none; unbindBehindTheSuite X.env n pos') (fun _ s5 => Q s5) X.xe s4 := fun S4 q4 => gone_ok (S4.unsuite ok) hN hi hln q4
    cases f with
    | ret u =>
      obtain ⟨v4, σ4, H4, S4, r4, q4⟩ := fin
      exact gone S4 fun s5 J5 => ⟨_, _, _, J5, r4, q4⟩
    | next =>
      obtain ⟨σ4, H4, S4, q4⟩ := fin
      exact gone S4 fun s5 J5 => ⟨_, _, J5, q4⟩
    | brk =>
      obtain ⟨σ4, H4, S4, q4⟩ := fin
      exact gone S4 fun s5 J5 => ⟨_, _, J5, q4⟩
    | cont =>
      obtain ⟨σ4, H4, S4, q4⟩ := fin
      exact gone S4 fun s5 J5 => ⟨_, _, J5, q4⟩
  · cases f with
    | ret u =>
      obtain ⟨v, σ5, H5, J5, r, q⟩ := done
      exact ⟨v, σ5, H5, J5.ofTry ok, r, q⟩
    | next =>
      obtain ⟨σ5, H5, J5, q⟩ := done
      exact wpAny_execs_nil ⟨σ5, H5, J5.ofTry ok, q⟩
    | brk =>
      obtain ⟨σ5, H5, J5, q⟩ := done
      exact ⟨σ5, H5, J5.ofTry ok, q⟩
    | cont =>
      obtain ⟨σ5, H5, J5, q⟩ := done
      exact ⟨σ5, H5, J5.ofTry ok, q⟩
end
end Ux

set_option Elab.async false
set_option linter.all false
set_option maxRecDepth 100000
set_option maxHeartbeats 4000000
namespace Ux
open PySem PySem.Spec PyProof.Rows L2
/-! ### within an except suite: fields of the caught exception, defs that are handed it -/
/-- a caught exception: its class C, its dict dd -/
def Caught (p : Addr × Obj) (C dd : Addr) : Prop := Zc (.ref C) (some dd) p.2 ∧ ∃ vs, p.2.data = .fields vs
/-- e.f, e the exception of a pin -/
def tPf (a dd : Addr) (f : Str) (te : TE) : TE := fun σ H Q => te σ H fun x H1 => ∃ (fs : List (Str × V)) (v : V), x = .ref a ∧ H1 dd = some (.xd fs) ∧ fs.lookup f = some v ∧ Q v H1
section
variable {X : Cx} {C dd : Addr} {p : Addr × Obj} {e : Expr} {te : TE} {pos : Pos} {f : Str}
theorem pe_pf (T : XfC X.K C) (no : PySem.W.findIn X.K (.ref C) f = some none) (hp : p ∈ X.pn) (c : Caught p C dd) (he : PE X e te) (hb : attributeBase e f X.env (eval e X.env) = eval e X.env := by rfl) : PE X (.Attribute e f pos) (tPf p.1 dd f te) := by
  constructor
  intro pins s σ H Q I h
  refine attr_of hb (thn (he.run pins s σ H _ I h) fun u s1 got => ?_)
  obtain ⟨x, H1, I1, rx, fs, v, rfl, hx, l, q⟩ := got
  cases (show u = Value.ref p.1 from rx)
  obtain ⟨⟨z1, z2⟩, vs, hd⟩ := c
  have ok : ObjOk X.prog X.w H1 s1.heap dd (.xd fs) := I1.hok dd _ hx
  obtain ⟨mA, ns, rel⟩ := ok
  obtain ⟨od, ho, hl⟩ := lookIn_ns ns
  obtain ⟨w, hw, rw'⟩ := RelO.some_of (v := v) (o := mA f) (l ▸ rel f)
  have J : PySem.W.InstAt s1.heap p.1 p.2 C (some od) := ⟨(I1.pin p (List.mem_append_left _ hp)).1, z1, by unfold PySem.W.notCls; rw [hd] <;> rfl, by rw [z2]; exact ho⟩
  exact HandSPX.exc_get I1.kIn J T.ga T.gg T.exC (PySem.W.findObj_own T.hdC no rfl ((hl f).trans (congrArg some hw))) (handed_of rw') ⟨v, H1, I1.tok _, rw', q⟩
end
/-- what a def promises that is called while p's exception is handled -/
structure FnQ (P : Program) (w : World) (K : PySem.W.Frag) (mg : Str → Option Value) (base : Heap) (k : Nat) (f : Addr) (fd : FuncData) (ps : List Str) (sp : Addr × Obj → Sp) : Prop where
  len : ∀ p vs H Q E, sp p vs H Q E → vs.length = ps.length
  run : ∀ (A : Around) (outer : List Env) (s : Shared) (H : Hp) (args : Args) (us : List Value) (vs : List V) (Q : VK) (E : XK) (p : Addr × Obj), L2H.RoomH k A → L2H.PinOk outer H s p → Env0 P w K mg base A outer s H → BindsTo s fd args (ps.zip us) → Vals vs us → sp p vs H Q E →
    codeAny (model P w) A (.call (.ref f) args) (CR CX0 outer P w H s Q E) s
theorem Fun.okQ {P : Program} {w : World} {K : PySem.W.Frag} {mg : Str → Option Value} {base : Heap} {k : Nat} {f : Addr} {fd : FuncData} {x qual : Str} {st : Stmt} {N ps : List Str} {sp : Addr × Obj → Sp} (F : Fun K x qual st f fd) (S : FnScope N ps (defScope st))
    (len : ∀ p vs H Q E, sp p vs H Q E → vs.length = ps.length)
    (body : ∀ (cdv : Value) (A : Around) (outer : List Env) (s : Shared) (H : Hp) (vs : List V) (Q : VK) (E : XK) (p : Addr × Obj), L2H.RoomH k (A.deeper (envOfC qual (defScope st) s.heap.objs.size f cdv)) → sp p vs H Q E →
      ∃ t, PSs (L2H.cxH CX0 P w K mg base N qual (defScope st) f cdv A outer s H E p) (defBody st) t ∧ t { nx := fun _ H' => Q .non H', rt := Q } (L2.start N vs) H) :
    FnQ P w K mg base (k + 1) f fd ps sp := by
  obtain ⟨oc, od, kV, doc, pm, an, cdv, ct, osl, rfl, lk, hcd⟩ := F.ex
  refine ⟨len, fun A outer s H args us vs Q E p hr pin e0 hb r want => ?_⟩
  have kin : K.In s.heap := e0.mod.kin.keeps fun b o z => (e0.bs b o z).1
  have lim : s.heap.NoLimit := e0.mod.nolimit.keeps fun b o z => (e0.bs b o z).1
  have kinds : ∀ y ∈ ps.zip us, (defScope st).names.lookup y.1 = some .local ∨ ((defScope st).names.lookup y.1 = some .cell ∧ ((cellsFrom (s.heap.objs.size + 1) (defScope st).names []).lookup y.1).isSome = true) := by
    rintro ⟨n, v⟩ hy
    rcases S.par n (List.of_mem_zip hy).1 with z | z
    · exact .inl z
    · exact .inr ⟨z, PySem.W.cellsFrom_some _ _ _ (.inl z)⟩
  refine codeAny_call_function hr.depth (kin _ _ lk) rfl S.co S.gen rfl (PySem.W.codeRec_of kin hcd) (hb _ _ _ _ (wpAny_newFunctionEnv_cells S.kind kinds fun env he s1 inn => ?_))
  subst he
  obtain ⟨t, ht, hq⟩ := body cdv A outer s H vs Q E p (hr.deeper _) want
  have I := L2H.inv_startH (CX := CX0) (E := E) S pin e0 (len _ _ _ _ _ want) r inn
  refine ⟨lim.keeps inn.toInCall.keep, codeAny_func (wpAny_mono (ht.run [] s1 (L2.start N vs) H _ I hq) (fun fl s2 fin => ?_) fun _ _ z => z)⟩
  cases fl with
  | ret u =>
    obtain ⟨v, σ2, H2, J, rv, q⟩ := fin
    exact ⟨v, H2, J.os, J.bare, J.base, J.hok, rv, q⟩
  | next =>
    obtain ⟨σ2, H2, J, q⟩ := fin
    exact ⟨.non, H2, J.os, J.bare, J.base, J.hok, rfl, q⟩
  | brk =>
    obtain ⟨_, _, _, q⟩ := fin
    exact q.elim
  | cont =>
    obtain ⟨_, _, _, q⟩ := fin
    exact q.elim
/-- such a call, with one argument -/
def tCallQ (p : Addr × Obj) (sp : Addr × Obj → Sp) (t : TA) : TE := fun σ H Q => t σ H fun vs H1 => sp p vs H1 Q E0
section
variable {X : Cx} {k : Nat} {f : Addr} {fd : FuncData} {ps : List Str} {sp : Addr × Obj → Sp} {x : Str} {q pos : Pos} {e : Expr} {es : List Expr} {t : TA} {p : Addr × Obj}
theorem pe_callQ (F : FnQ X.prog X.w X.K X.mg X.base k f fd ps sp) (hr : L2H.RoomH k X.A) (hp : p ∈ X.pn) (hg : Gl X x) (hm : X.mg x = some (.ref f)) (hk : PySem.W.keepIn X.K (.ref f) = true) (hb : Binds X.K fd ps [])
    (ha : PA X (e :: es) t) (hdb : (x == ("__debug__" : Str)) = false := by decide) (he : starEach (e :: es) X.env = (false, eval e X.env) :: starEach es X.env := by rfl) (hpl : (backTo pos (starEach es X.env)).any (·.1) = false := by rfl) :
    PE X (.Call (.Name x q) (e :: es) [] pos) (tCallQ p sp t) := by
  constructor
  intro pins s σ H Q I h
  refine wpAny_Call_Name_kw (ld_glob I hg hm ?_ hdb)
  refine PySem.W.callWith_K (h₀ := X.base) I.ok.mod.kin hk (thn (ha.run pos pins s σ H _ I h) fun us s1 got => ?_) he hpl
  obtain ⟨vs, H1, I1, r, want⟩ := got
  refine ⟨I1.kIn, ?_⟩
  have b := hb s1 us I1.kIn (by rw [List.append_nil, ← r.length]; exact F.len _ _ _ _ _ want)
  rw [List.append_nil] at b
  obtain ⟨a1, a2, a3, a4, a5⟩ := I1.pin p (List.mem_append_left _ hp)
  refine wpAny_call (codeAny_mono (F.run X.A X.stack s1 H1 ⟨us, []⟩ us vs Q E0 p hr ⟨a1, a2, fun m => (List.mem_cons.mp (I1.stkSub p.1 m)).elim a3 a4, a5⟩ I1.env0 b r want) fun r2 s2 fin => ?_)
  cases r2 with
  | error e => exact pass0 (X := X) pins σ H1 s1 e s2 I1 fin
  | ok fl =>
    cases fl with
    | ret u => exact I1.after fin
    | next => exact fin.elim
    | brk => exact fin.elim
    | cont => exact fin.elim
end
end Ux

set_option Elab.async false
set_option linter.all false
set_option maxRecDepth 100000
set_option maxHeartbeats 4000000
namespace Ux
open PySem PySem.Spec PyProof.Rows L2
/-! ### C.m(..), m a staticmethod of an own class -/
structure StM (K : PySem.W.Frag) (C : Addr) (m : Str) (mc : Value) (p g : Addr) : Prop where
  sg : PySem.W.specialIn K (.ref C) "__getattribute__" = some (some (.builtin "type.__getattribute__"))
  rd : PySem.W.readsIn K C mc = true
  fc : PySem.W.findCls K (.ref C) mc m = some (.get (.builtin "staticmethod.__get__") (.ref p) .none (.ref C))
  rc : ∃ rest, PySem.W.recIn K p "staticmethod" = some (.ref g :: rest)
  kp : PySem.W.keepIn K (.ref g) = true
section
variable {X : Cx} {CX : CXT} {k : Nat} {C p g : Addr} {x m : Str} {mc : Value} {fd : FuncData} {ps : List Str} {sp : Sp} {dvs : List V} {ds : List Value} {E : XK} {e : Expr} {es : List Expr} {t : TA} {p1 p2 pos : Pos} {pl : Sem Bool}
theorem pe_smeth (hg : Gl X x) (hm : X.mg x = some (.ref C)) (S : StM X.K C m mc p g) (F : FnOk X.prog X.w X.K X.mg X.base CX k g fd ps sp) (hr : Room k X.A) (hb : Binds X.K fd ps ds) (hd : Vals dvs ds) (hx : Passes CX X E) (ha : PA X (e :: es) t)
    (hdb : (x == ("__debug__" : Str)) = false := by decide)
    (hc : eval (.Call (.Attribute (.Name x p1) m p2) (e :: es) [] pos) X.env = (do
      let ov ← eval (.Name x p1) X.env
      standAt p2.atName
      let (f, first) ← holding [ov] (getMethod ov m pl)
      callWith pos f first (backTo pos (starEach (e :: es) X.env)) (backToKw pos (keywordEach [] X.env))) := by rfl)
    (he : starEach (e :: es) X.env = (false, eval e X.env) :: starEach es X.env := by rfl) (hpl : (backTo pos (starEach es X.env)).any (·.1) = false := by rfl) :
    PE X (.Call (.Attribute (.Name x p1) m p2) (e :: es) [] pos) (tCall sp dvs E t) := by
  constructor
  intro pins s σ H Q I h
  obtain ⟨rest, rc⟩ := S.rc
  refine PySem.W.methodCall_KW (ld_glob I hg hm ?_ hdb) hc
  refine PySem.W.method_cls I.kIn S.sg (PySem.W.cls_bind I.kIn S.rd S.fc (wpAny_call (PySem.W.sm_get (s := { s with toks := s.toks + 1 }) I.kIn rc (PySem.W.handed_on rfl ?_))))
  show wpAny _ _ (callWith pos (Value.ref g) [] (backTo pos (starEach (e :: es) X.env)) []) _ _ _
  refine PySem.W.callWith_K (h₀ := X.base) I.ok.mod.kin S.kp (thn (ha.run pos pins _ σ H _ (I.tok _) h) fun us s1 got => ?_) he hpl
  obtain ⟨vs, H1, I1, r, q⟩ := got
  exact ⟨I1.kIn, run_fn F hr hb hd hx I1 r q⟩
end
end Ux

set_option Elab.async false
set_option linter.all false
set_option maxRecDepth 100000
set_option maxHeartbeats 4000000
namespace Ux
open PySem PySem.Spec PyProof.Rows L2
section
variable {X : Cx} {CX : CXT} {k : Nat} {C p g : Addr} {x m : Str} {mc : Value} {fd : FuncData} {ps ks : List Str} {sp : Sp} {E : XK} {kws : List Keyword} {tk : TA} {p1 p2 pos : Pos} {pl : Sem Bool} {gg : List Value → List Value → List Value} {gV : List V → List V → List V}
/-- C.m(k = v, ..), m a staticmethod of an own class -/
theorem pe_smethK (hg : Gl X x) (hm : X.mg x = some (.ref C)) (S : StM X.K C m mc p g) (F : FnOk X.prog X.w X.K X.mg X.base CX k g fd ps sp) (hr : Room k X.A) (hb : KBinds X.K fd ps ks gg gV) (hx : Passes CX X E) (hkw : PK X kws tk)
    (hall : (backToKw pos (keywordEach kws X.env)).all (·.1.isSome) = true := by rfl) (hks : (backToKw pos (keywordEach kws X.env)).filterMap (·.1) = ks := by rfl)
    (hdb : (x == ("__debug__" : Str)) = false := by decide)
    (hc : eval (.Call (.Attribute (.Name x p1) m p2) [] kws pos) X.env = (do
      let ov ← eval (.Name x p1) X.env
      standAt p2.atName
      let (f, first) ← holding [ov] (getMethod ov m pl)
      callWith pos f first (backTo pos (starEach [] X.env)) (backToKw pos (keywordEach kws X.env))) := by rfl)
    (hpl : ((backTo pos (starEach [] X.env)).any (·.1) || (backToKw pos (keywordEach kws X.env)).any (·.1.isNone)) = false := by rfl) :
    PE X (.Call (.Attribute (.Name x p1) m p2) [] kws pos) (fun σ H Q => tk σ H fun zs H2 => sp (gV [] zs) H2 Q E) := by
  constructor
  intro pins s σ H Q I h
  obtain ⟨rest, rc⟩ := S.rc
  refine PySem.W.methodCall_KW (ld_glob I hg hm ?_ hdb) hc
  refine PySem.W.method_cls I.kIn S.sg (PySem.W.cls_bind I.kIn S.rd S.fc (wpAny_call (PySem.W.sm_get (s := { s with toks := s.toks + 1 }) I.kIn rc (PySem.W.handed_on rfl ?_))))
  refine PySem.W.callWith_KW0 (h₀ := X.base) I.ok.mod.kin S.kp hall ?_ hpl
  refine thn (hkw.run pos pins _ σ H _ (I.tok _) h) fun ws s2 got => ?_
  obtain ⟨zs, H2, I2, rz, q2⟩ := got
  refine ⟨I2.kIn, ?_⟩
  rw [hks]
  exact run_fnk (us := []) (vs := []) F hr hb hx I2 .nil rz q2
end
end Ux

set_option Elab.async false
set_option linter.all false
set_option maxRecDepth 100000
set_option maxHeartbeats 4000000
namespace Ux
open PySem PySem.Spec PyProof.Rows L2
/-! ### {o} in an f-string by o's own __str__; the inner walk of a comprehension with two for -/
structure FmO (K : PySem.W.Frag) (C : Addr) : Prop where
  fm : PySem.W.findIn K (.ref C) "__format__" = some (some (.builtin "object.__format__"))
  ob : PySem.W.mroIn K C (.type "object") = some true
def tFmtO (C : Addr) (sp : Sp) (te : TE) : TE := fun σ H Q => te σ H fun x H1 => ∃ (a dx : Addr) (fs : List (Str × V)), x = .ref a ∧ H1 a = some (.ins C dx fs) ∧ sp [.ref a] H1 (fun v H' => ∃ z, v = .str z ∧ Q (.str z) H') (fun _ _ _ => False)
section
variable {X : Cx} {k : Nat} {f C : Addr} {fd : FuncData} {sp : Sp} {e : Expr} {te : TE} {pos : Pos}
theorem pe_fmtO (M : OwnM X.K C "__str__" f) (N : FmO X.K C) (F : FnOk X.prog X.w X.K X.mg X.base CX0 k f fd ["self"] sp) (hb : Binds X.K fd ["self"] []) (hr : Room (k + 1) X.A) (he : PE X e te) : PE X (.FormattedValue e (-1) none pos) (tFmtO C sp te) := by
  refine ⟨fun pins s σ H Q I h => ?_⟩
  refine wpAny_FormattedValue_plain (thn (he.run pins s σ H _ I h) fun v s1 hv => ?_)
  obtain ⟨x, H1, I1, r1, a, dx, fs, rfl, ea, q⟩ := hv
  cases (show v = Value.ref a from r1)
  obtain ⟨mA, O, _⟩ := ins_get I1.hok ea
  obtain ⟨od, J, _⟩ := O.look
  refine PySem.W.kfo_fieldS hr.in1.units0 I1.kIn J N.fm N.ob M.at_ M.fn (own_run F hr.in1 (I1.tok _).env0.in1 hb (vs := [.ref a]) (I1.tok _) (.cons rfl .nil) q fun u s' hq => ?_)
  obtain ⟨v, H', I', rv, z, ev, q'⟩ := hq
  subst ev
  obtain ⟨t, rfl⟩ := rv
  exact ⟨.str z, H', I', ⟨t, rfl⟩, q'⟩
end
theorem lc_in {K : PySem.W.Frag} {a : Addr} {xs : List V} {H4 : Hp} {Nx : Hp → Prop} {T : V → Hp → (Hp → Prop) → Prop} (Pv : Nat → Hp → Prop) (h0 : Pv 0 H4) (hl : ∀ i H, i ≤ xs.length → Pv i H → SqT K H a xs)
    (hs : ∀ i x H, xs[i]? = some x → Pv i H → T x H (Pv (i + 1))) (hd : ∀ H, Pv xs.length H → Nx H) :
    ∃ W : Nat → Nat → Hp → Prop, (∃ m, W 0 m H4) ∧ ∀ i m H, W i m H →
      ((Itt K a).stop i H ∧ Nx H) ∨ ((Itt K a).go i H ∧ ∃ N1 : Hp → Prop, (∀ H', N1 H' → ∃ m', m' < m ∧ W (i + 1) m' H') ∧ ∀ x H', (Itt K a).yld i H x H' → T x H' N1) := by
  refine ⟨fun i m H => m = xs.length - i ∧ i ≤ xs.length ∧ Pv i H, ⟨xs.length, by simp, Nat.zero_le _, h0⟩, ?_⟩
  rintro i m H ⟨rfl, hi, p⟩
  have q := hl i H hi p
  by_cases hlt : i < xs.length
  · refine .inr ⟨⟨xs, xs[i], q, by simp [hlt]⟩, Pv (i + 1), fun H' p' => ⟨xs.length - (i + 1), by omega, rfl, hlt, p'⟩, fun x H' y => ?_⟩
    obtain ⟨e, y⟩ := y
    subst e
    exact hs i x _ (y xs q) p
  · have e : i = xs.length := by omega
    subst e
    exact .inl ⟨⟨xs, q, Nat.le_refl _⟩, hd H p⟩
end Ux

set_option Elab.async false
set_option linter.all false
set_option maxRecDepth 100000
set_option maxHeartbeats 4000000
namespace Ux
open PySem PySem.Spec PyProof.Rows L2
section
variable {X : Cx} {CX : CXT} {k : Nat} {C p g : Addr} {x m : Str} {mc : Value} {fd : FuncData} {ps : List Str} {sp : Sp} {dvs : List V} {ds : List Value} {E : XK} {p1 p2 pos : Pos} {pl : Sem Bool}
/-- C.m(), m a staticmethod of an own class -/
theorem pe_smeth0 (hg : Gl X x) (hm : X.mg x = some (.ref C)) (S : StM X.K C m mc p g) (F : FnOk X.prog X.w X.K X.mg X.base CX k g fd ps sp) (hr : Room k X.A) (hb : Binds X.K fd ps ds) (hd : Vals dvs ds) (hx : Passes CX X E)
    (hdb : (x == ("__debug__" : Str)) = false := by decide)
    (hc : eval (.Call (.Attribute (.Name x p1) m p2) [] [] pos) X.env = (do
      let ov ← eval (.Name x p1) X.env
      standAt p2.atName
      let (f, first) ← holding [ov] (getMethod ov m pl)
      callWith pos f first (backTo pos (starEach [] X.env)) (backToKw pos (keywordEach [] X.env))) := by rfl) :
    PE X (.Call (.Attribute (.Name x p1) m p2) [] [] pos) (tCall sp dvs E tNil) := by
  constructor
  intro pins s σ H Q I h
  obtain ⟨rest, rc⟩ := S.rc
  refine PySem.W.methodCall_KW (ld_glob I hg hm ?_ hdb) hc
  refine PySem.W.method_cls I.kIn S.sg (PySem.W.cls_bind I.kIn S.rd S.fc (wpAny_call (PySem.W.sm_get (s := { s with toks := s.toks + 1 }) I.kIn rc (PySem.W.handed_on rfl ?_))))
  exact PySem.W.callWith_K0 (I.tok _).kIn S.kp (run_fn (us := []) F hr hb hd hx (I.tok _) .nil h)
end
end Ux

set_option Elab.async false
set_option linter.all false
set_option maxRecDepth 100000
set_option maxHeartbeats 4000000
namespace Ux
open PySem PySem.W
/-! ### own binary operators: the right side of the same class, an int, or the int on the left; own unary minus and abs; // by any divisor -/
section
variable {prog : Program} {w : World} {M : Model} {A : Around} {E : Value → Shared → Prop} {s : Shared} {K : Frag} {x C L f : Addr} {h₀ : Heap} {m : Str → Option Value} {ox : Obj} {od : Option Obj}
theorem intBin_ref {name : String} {g : Int → Int → Sem Fin} {refl : Bool} {i : Int} {t : Tok} {Q : Fin → Shared → Prop} (ho : s.heap.get? x = some ox) (np : ∀ j u, ox.data ≠ .prim (.int j u)) (h : Q (.done (.ret .notImplemented)) s) :
    wpAny M A (Builtin.Int.intBinary name g refl ⟨[.int i t, .ref x], []⟩) Q E s := by
  unfold Builtin.Int.intBinary
  refine wpAny_bind (m := slotArgs name 1 _) (wpAny_pure ?_)
  unfold Builtin.Int.intOfSelf
  refine wpAny_bind (wpAny_bind (m := asInt? (.int i t)) (wpAny_pure (wpAny_pure ?_)))
  refine wpAny_bind (m := asInt? (.ref x)) ?_
  unfold asInt?
  refine wpAny_bind (wpAny_load ho ?_)
  split
  · rename_i j u e
    exact absurd e (np j u)
  · refine wpAny_pure ?_
    exact wpAny_bind (wpAny_rule (wpAny_pure h))
theorem intSlot_ref {name : Str} {id nm : String} {g : Int → Int → Sem Fin} {i : Int} {t : Tok} {Q : Option Value → Shared → Prop} (h : Slot "int" name id) (hb : entryFor table id = some (Builtin.Int.intBinary nm g)) (ha : argsOk id ⟨[.int i t, .ref x], []⟩) (ho : s.heap.get? x = some ox) (np : ∀ j u, ox.data ≠ .prim (.int j u)) (hq : Q none s) :
    wpAny (model prog w) A (tryMethod (.int i t) name (.ref x)) Q E s :=
  wpAny_tryMethod_declines (typeIs_int s i t) h (wpAny_call_entry h (typeIs_int s i t) hb (intBin_ref ho np ⟨_, rfl, rfl, hq⟩) ha)
/-- i + x, x of a class with its own reflected method -/
theorem bin_refl {op : Operator} {nm sym idl : String} {g : Int → Int → Sem Fin} {n0 : String} {f' : Addr} {i : Int} {t : Tok} {Q : Value → Shared → Prop} (hi : op.info = (sym, nm)) (X : K.In s.heap) (I : InstAt s.heap x ox C od) (np : ∀ j u, ox.data ≠ .prim (.int j u)) (hc : selfFirst K C = true)
    (hs : findIn K (.ref C) (PySem.dunder nm) = some (some (.ref f'))) (hr : findIn K (.ref C) (dunderR nm) = some (some (.ref f))) (hf : isFn K (.ref f) = true) (hsub : subIn K (.ref C) (.type "int") = some false)
    (fills : fillsNumberSlot (.type "int") nm = pure true) (slot : Slot "int" (PySem.dunder nm) idl) (hb : entryFor table idl = some (Builtin.Int.intBinary n0 g)) (ha : argsOk idl ⟨[.int i t, .ref x], []⟩)
    (h : wpAny (model prog w) A (call (.ref f) [.ref x, .int i t]) (CmpBack Q) E s) : wpAny (model prog w) A (binaryOp op (.int i t) (.ref x)) Q E s := by
  obtain ⟨cd, rest, hcd, hm⟩ := ksp_first hc
  have one := ksp_try X I hr hf h
  have L3 : Looks (model prog w) s.heap (fillsNumberSlot (.ref C) nm) true := fills_K X hcd hm hs
  simp only [binaryOp, hi]
  refine wpAny_holding (wpAny_bind ?_)
  unfold binaryOp1
  refine wpAny_bind (wpAny_typeOf (typeIs_int s i t) (wpAny_bind (I.type.here (wpAny_bind (wpAny_of_eq fills ?_)))))
  have hne : (Value.type "int" == Value.ref C) = false := Bool.eq_false_iff.mpr fun q => by cases beq_iff_eq.mp q
  simp only [hne, Bool.false_eq_true, if_false]
  refine wpAny_bind (L3.here ?_)
  simp only [Bool.and_self, if_true]
  refine wpAny_bind ((looks_subIn X hsub).here ?_)
  have hpy : numberSlotInPython (.type "int") nm = pure false := rfl
  simp only [Bool.false_eq_true, if_false, pure_bind, Bool.not_false, Bool.and_self, if_true, hpy]
  refine wpAny_bind (intSlot_ref slot hb ha I.1 np ?_)
  dsimp only
  refine wpAny_bind (wpAny_mono one (fun r s' hr' => ?_) fun _ _ e => e)
  obtain ⟨v, rfl, hq⟩ := hr'
  exact wpAny_bind (wpAny_rule (wpAny_pure (wpAny_pure hq)))
end
end Ux
namespace Ux
open PySem PySem.Spec PyProof.Rows L2
/-- o op y by o's own method -/
structure BinM (K : PySem.W.Frag) (C : Addr) (nm : String) (f : Addr) : Prop where
  sf : PySem.W.selfFirst K C = true
  at_ : PySem.W.findIn K (.ref C) (PySem.dunder nm) = some (some (.ref f))
  fn : PySem.W.isFn K (.ref f) = true
/-- .. with an int on the right -/
structure BinI (K : PySem.W.Frag) (C : Addr) (nm : String) : Prop where
  rc : ∃ g : Addr, PySem.W.findIn K (.ref C) (dunderR nm) = some (some (.ref g))
  t1 : ∃ fo, PySem.W.findIn K (.type "int") (PySem.dunder nm) = some fo
  t2 : ∃ ro, PySem.W.findIn K (.type "int") (dunderR nm) = some ro
  sb : PySem.W.subIn K (.type "int") (.ref C) = some false
/-- .. with an int on the left -/
structure BinL (K : PySem.W.Frag) (C : Addr) (nm : String) (f : Addr) : Prop where
  sf : PySem.W.selfFirst K C = true
  lt : ∃ g : Addr, PySem.W.findIn K (.ref C) (PySem.dunder nm) = some (some (.ref g))
  at_ : PySem.W.findIn K (.ref C) (dunderR nm) = some (some (.ref f))
  fn : PySem.W.isFn K (.ref f) = true
  sb : PySem.W.subIn K (.ref C) (.type "int") = some false
/-- an object handed back -/
def Ob (Q : VK) : VK := fun v H => ∃ p, v = .ref p ∧ Q (.ref p) H
def rBinO (K : PySem.W.Frag) (C : Addr) (sp : Sp) : R2 := fun x y H Q => ∃ (a dx : Addr) (fs : List (Str × V)), x = .ref a ∧ H a = some (.ins C dx fs) ∧ TyX K H y (.ref C) ∧ sp [x, y] H (Ob Q) (fun _ _ _ => False)
def rBinI (C : Addr) (sp : Sp) : R2 := fun x y H Q => ∃ (a dx : Addr) (fs : List (Str × V)) (i : Int), x = .ref a ∧ y = .int i ∧ H a = some (.ins C dx fs) ∧ sp [x, y] H (Ob Q) (fun _ _ _ => False)
def rBinL (C : Addr) (sp : Sp) : R2 := fun x y H Q => ∃ (a dx : Addr) (fs : List (Str × V)) (i : Int), x = .int i ∧ y = .ref a ∧ H a = some (.ins C dx fs) ∧ sp [y, x] H (Ob Q) (fun _ _ _ => False)
section
variable {X : Cx} {k : Nat} {f C : Addr} {fd : FuncData} {sp : Sp} {op : Operator} {ps : List Str}
theorem ob_back {pins : List (Addr × Obj)} {σ : L2.St} {Q : VK} {u : Value} {s' : Shared} (hq : EP X pins σ (Ob Q) u s') : PySem.W.CmpBack (EP X pins σ Q) u s' := by
  obtain ⟨v, H', I', rv, p, ev, q'⟩ := hq
  subst ev
  cases (show u = Value.ref p from rv)
  exact ⟨.ref p, H', I', rfl, q'⟩
theorem op_binO (M : BinM X.K C op.info.2 f) (F : FnOk X.prog X.w X.K X.mg X.base CX0 k f fd ps sp) (hb : Binds X.K fd ps []) (hr : Room k X.A) : OpR X (binaryOp op) (rBinO X.K C sp) := by
  intro pins s σ H x y v u Q I rx ry h
  obtain ⟨a, dx, fs, rfl, ea, ty, q⟩ := h
  cases (show v = Value.ref a from rx)
  obtain ⟨mA, O, _⟩ := ins_get I.hok ea
  obtain ⟨od, J, _⟩ := O.look
  obtain ⟨m, hF⟩ := I.fr
  obtain ⟨P', Z, hp, _⟩ := kit_of I ry ty
  exact PySem.W.binop_K hF I.ok.mod.kin J (Z.ty _ _ I.kIn hp) M.sf M.at_ M.fn (own_run F hr I.env0 hb (vs := [.ref a, y]) I (.cons rfl (.cons ry .nil)) q fun u s' hq => ob_back hq)
theorem op_binI (M : BinM X.K C op.info.2 f) (N : BinI X.K C op.info.2) (F : FnOk X.prog X.w X.K X.mg X.base CX0 k f fd ps sp) (hb : Binds X.K fd ps []) (hr : Room k X.A) : OpR X (binaryOp op) (rBinI C sp) := by
  intro pins s σ H x y v u Q I rx ry h
  obtain ⟨a, dx, fs, i, rfl, rfl, ea, q⟩ := h
  cases (show v = Value.ref a from rx)
  obtain ⟨mA, O, _⟩ := ins_get I.hok ea
  obtain ⟨od, J, _⟩ := O.look
  obtain ⟨m, hF⟩ := I.fr
  obtain ⟨t, rfl⟩ := ry
  obtain ⟨g, rc⟩ := N.rc
  obtain ⟨fo, t1⟩ := N.t1
  obtain ⟨ro, t2⟩ := N.t2
  exact PySem.W.ksp_binT (T := "int") hF I.ok.mod.kin J rfl M.sf M.at_ M.fn rc (.inr ⟨g, rfl⟩) t1 t2 N.sb (own_run F hr I.env0 hb (vs := [.ref a, .int i]) I (.cons rfl (.cons ⟨t, rfl⟩ .nil)) q fun u s' hq => ob_back hq)
theorem op_binL {nm sym idl n0 : String} {g : Int → Int → Sem Fin} (hi : op.info = (sym, nm)) (M : BinL X.K C nm f) (F : FnOk X.prog X.w X.K X.mg X.base CX0 k f fd ps sp) (hb : Binds X.K fd ps []) (hr : Room k X.A)
    (fills : fillsNumberSlot (.type "int") nm = pure true) (slot : Slot "int" (PySem.dunder nm) idl) (he : entryFor table idl = some (Builtin.Int.intBinary n0 g)) (ha : ∀ a b, argsOk idl ⟨[a, b], []⟩) : OpR X (binaryOp op) (rBinL C sp) := by
  intro pins s σ H x y v u Q I rx ry h
  obtain ⟨a, dx, fs, i, rfl, rfl, ea, q⟩ := h
  cases (show u = Value.ref a from ry)
  obtain ⟨mA, O, _⟩ := ins_get I.hok ea
  obtain ⟨od, J, _⟩ := O.look
  obtain ⟨t, rfl⟩ := rx
  obtain ⟨g', lt⟩ := M.lt
  exact bin_refl hi I.kIn J (fun j u e => by cases e) M.sf lt M.at_ M.fn M.sb fills slot he (ha _ _) (own_run F hr I.env0 hb (vs := [.ref a, .int i]) I (.cons rfl (.cons ⟨t, rfl⟩ .nil)) q fun u s' hq => ob_back hq)
theorem op_addL (M : BinL X.K C "add" f) (F : FnOk X.prog X.w X.K X.mg X.base CX0 k f fd ps sp) (hb : Binds X.K fd ps []) (hr : Room k X.A) : OpR X (binaryOp .Add) (rBinL C sp) :=
  op_binL rfl M F hb hr PySem.F.fills_int_add PySem.F.slot_int_add PySem.F.entry_int_add PySem.F.args_int_add_2
theorem op_subL (M : BinL X.K C "sub" f) (F : FnOk X.prog X.w X.K X.mg X.base CX0 k f fd ps sp) (hb : Binds X.K fd ps []) (hr : Room k X.A) : OpR X (binaryOp .Sub) (rBinL C sp) :=
  op_binL rfl M F hb hr PySem.F.fills_int_sub PySem.F.slot_int_sub PySem.F.entry_int_sub PySem.F.args_int_sub_2
/-- -o by o's own __neg__ -/
def rOwnNeg (C : Addr) (sp : Sp) : V → Hp → VK → Prop := fun x H Q => ∃ (a dx : Addr) (fs : List (Str × V)), x = .ref a ∧ H a = some (.ins C dx fs) ∧ sp [.ref a] H Q (fun _ _ _ => False)
theorem un_negO (M : OwnM X.K C "__neg__" f) (F : FnOk X.prog X.w X.K X.mg X.base CX0 k f fd ["self"] sp) (hb : Binds X.K fd ["self"] []) (hr : Room k X.A) : UnR X (unaryOp .USub) (rOwnNeg C sp) := by
  intro pins s σ H x v Q I rx h
  obtain ⟨a, dx, fs, rfl, ea, q⟩ := h
  cases (show v = Value.ref a from rx)
  obtain ⟨mA, O, _⟩ := ins_get I.hok ea
  obtain ⟨od, J, _⟩ := O.look
  obtain ⟨m, hF⟩ := I.fr
  exact PySem.W.ksp_neg hF I.ok.mod.kin J M.at_ M.fn (own_run F hr I.env0 hb (vs := [.ref a]) I (.cons rfl .nil) q fun u s' hq => hq)
theorem op_any {f : Value → Value → Sem Value} {r1 r2 : R2} (h1 : OpR X f r1) (h2 : OpR X f r2) : OpR X f (fun x y H Q => r1 x y H Q ∨ r2 x y H Q) := by
  intro pins s σ H x y v u Q I rx ry h
  rcases h with h | h
  · exact h1 pins s σ H x y v u Q I rx ry h
  · exact h2 pins s σ H x y v u Q I rx ry h
/-- // by any divisor but 0, below 2 ^ 9000 -/
theorem op_fdivX : OpR X (binaryOp .FloorDiv) (rI (fun _ j => j ≠ 0 ∧ j.natAbs.log2 < 9000) fun i j => .int (i.fdiv j)) := opI fun _ _ _ _ _ _ _ hc q => floordiv_int hc.1 q (.inl (PyProof.noPylong_of_log2 hc.2))
end
end Ux

set_option Elab.async false
set_option linter.all false
set_option maxRecDepth 100000
set_option maxHeartbeats 4000000
namespace Ux
open PySem PySem.Spec PyProof.Rows L2
/-! ### abs(o) by o's own __abs__; o.m(k = e) -/
section
variable {X : Cx} {k : Nat} {f C : Addr} {fd : FuncData} {sp : Sp}
theorem call_absO (M : OwnM X.K C "__abs__" f) (F : FnOk X.prog X.w X.K X.mg X.base CX0 k f fd ["self"] sp) (hb : Binds X.K fd ["self"] []) (hr : Room (k + 1) X.A) : CallR X (.builtin "abs") (fun xs H Q => ∃ (a dx : Addr) (fs : List (Str × V)), xs = [.ref a] ∧ H a = some (.ins C dx fs) ∧ sp [.ref a] H (Ob Q) (fun _ _ _ => False)) := by
  intro pins s σ H xs us Q I r h
  obtain ⟨a, dx, fs, rfl, ea, q⟩ := h
  obtain ⟨u, rfl, rx⟩ := vals1 r
  cases (show u = Value.ref a from rx)
  obtain ⟨mA, O, _⟩ := ins_get I.hok ea
  obtain ⟨od, J, _⟩ := O.look
  refine PySem.Calls.call_function_entry kind_abs plain_abs entry_abs (args_abs _) ?_
  unfold Builtin.«abs»
  refine wpAny_bind (m := oneArg "abs" _) (wpAny_pure ?_)
  refine wpAny_bind (m := callSpecial? (.ref a) (Str.ofString "__abs__")) (PySem.W.special_fn I.kIn J M.at_ (beq_iff_eq.mp M.fn) (own_run F hr.in1 I.env0.in1 hb (vs := [.ref a]) I (.cons rfl .nil) q fun u s' hq => ?_))
  obtain ⟨v, H', I', rv, p, ev, q'⟩ := hq
  subst ev
  cases (show u = Value.ref p from rv)
  exact wpAny_pure ⟨_, rfl, .ref p, H', I', rfl, q'⟩
end
section
variable {X : Cx} {o : Expr} {m : Str} {pos apos : Pos} {ta : TE} {CX : CXT} {k : Nat} {f C : Addr} {fd : FuncData} {ps ks : List Str} {sp : Sp} {E : XK} {kws : List Keyword} {tk : TA} {gg : List Value → List Value → List Value} {gV : List V → List V → List V}
def tMethK0 (C : Addr) (m : Str) (sp : Sp) (gV : List V → List V → List V) (E : XK) (ta : TE) (tk : TA) : TE := fun σ H Q => ta σ H fun x H1 => ∃ a dx fs, x = .ref a ∧ H1 a = some (.ins C dx fs) ∧ fs.lookup m = none ∧ tk σ H1 fun zs H2 => sp (gV [x] zs) H2 Q E
theorem pe_methK0 {pl : Sem Bool} (he : PE X o ta) (c : Cls X.K C) (hm : Meth X.K C m f) (F : FnOk X.prog X.w X.K X.mg X.base CX k f fd ps sp) (hr : Room k X.A) (hb : KBinds X.K fd ps ks gg gV) (hx : Passes CX X E) (hkw : PK X kws tk)
    (hall : (backToKw pos (keywordEach kws X.env)).all (·.1.isSome) = true := by rfl) (hks : (backToKw pos (keywordEach kws X.env)).filterMap (·.1) = ks := by rfl)
    (ht : eval (.Call (.Attribute o m apos) [] kws pos) X.env = (do
      let ov ← eval o X.env
      standAt apos.atName
      let (f, first) ← holding [ov] (getMethod ov m pl)
      callWith pos f first (backTo pos (starEach [] X.env)) (backToKw pos (keywordEach kws X.env))) := by rfl)
    (hpl : ((backTo pos (starEach [] X.env)).any (·.1) || (backToKw pos (keywordEach kws X.env)).any (·.1.isNone)) = false := by rfl) :
    PE X (.Call (.Attribute o m apos) [] kws pos) (tMethK0 C m sp gV E ta tk) := by
  refine ⟨fun pins s σ H Q I h => ?_⟩
  refine PySem.W.methodCall_KW (pl := pl) (thn (he.run pins s σ H _ I h) fun u s1 ⟨x, H1, I1, rx, a, dx, fs, ex, ea, l, q⟩ => ?_) ht
  subst ex
  obtain rfl : u = Value.ref a := rx
  refine getmeth_ok I1 ea c hm l ?_
  refine PySem.W.callWith_KW0 (first := [.ref a]) (h₀ := X.base) I.ok.mod.kin hm.kp hall (thn (hkw.run pos pins s1 σ H1 _ I1 q) fun ws s2 got => ?_) hpl
  obtain ⟨zs, H2, I2, rz, q2⟩ := got
  refine ⟨I2.kIn, ?_⟩
  rw [hks]
  exact run_fnk (us := [.ref a]) (vs := [.ref a]) F hr hb hx I2 (.cons rfl .nil) rz q2
end
end Ux
/-! ### abs and str of False -/
namespace Ux
open PySem PySem.Spec PyProof.Rows L2
theorem abs_false {prog : Program} {w : World} {A : Around} {E : Value → Shared → Prop} {s : Shared} {Q : Value → Shared → Prop} (h : ∀ u tk, Q (.int 0 u) { s with toks := tk }) : wpAny (model prog w) A (call (.builtin "abs") [.bool false]) Q E s := by
  refine PySem.Calls.call_function_entry kind_abs plain_abs entry_abs (args_abs _) ?_
  unfold Builtin.«abs»
  refine wpAny_bind (m := oneArg "abs" _) (wpAny_pure ?_)
  refine wpAny_bind (m := callSpecial? (.bool false) (Str.ofString "__abs__")) (wpAny_callSpecial?_slot (name := Str.ofString "__abs__") (PySem.typeIs_bool s false) F.slot_bool_abs
    (wpAny_call_entry F.slot_bool_abs (PySem.typeIs_bool s false) entry_int_abs ?_ (args_int_abs _)))
  have h' := h s.toks (s.toks + 1)
  exact wpAny_ret_mkInt (wpAny_pure ⟨_, rfl, h'⟩)
theorem str_false {prog : Program} {w : World} {A : Around} {E : Value → Shared → Prop} {s : Shared} {Q : Value → Shared → Prop} (h : Q (.str "False" s.toks) { s with toks := s.toks + 1 }) : wpAny (model prog w) A (call (.type "str") [.bool false]) Q E s :=
  callType_new F.called_str (by decide) (F.typeCall_str_1 _) (F.newCall_str_1 _) (fun obj => F.args_object_init_2 obj _) F.entry_str_new
    (meets_str_new (S := fun _ R s => R (.ok (.ret (.str "False" s.toks))) { s with toks := s.toks + 1 }) fun _ _ _ _ s hq =>
      wpAny_strOf_gives rfl (PySem.typeIs_bool s false) F.slot_bool_str F.slot_bool_repr F.entry_bool_repr (F.args_bool_repr_1 _) (gives_bool_repr false) hq (hsz := by decide)) ⟨typeIs_str _ _ _, h⟩
theorem call_absB {X : Cx} : CallR X (.builtin "abs") (fun xs H Q => ((∃ i, xs = [.int i] ∧ Q (.int (if i < 0 then -i else i)) H) ∨ (xs = [.bl true] ∧ Q (.int 1) H)) ∨ (xs = [.bl false] ∧ Q (.int 0) H)) := by
  intro pins s σ H xs us Q I r h
  rcases h with h | ⟨rfl, q⟩
  · exact call_absT pins s σ H xs us Q I r h
  · obtain ⟨u, rfl, r1⟩ := vals1 r
    cases (show u = Value.bool false from r1)
    exact abs_false fun u tk => ⟨.int 0, H, I.tok _, ⟨_, rfl⟩, q⟩
theorem call_strB {X : Cx} : CallR X (.type "str") (fun xs H Q => ((∃ i, xs = [.int i] ∧ i.natAbs.log2 < 1920 ∧ Q (.str (toString i)) H) ∨ (xs = [.bl true] ∧ Q (.str "True") H)) ∨ (xs = [.bl false] ∧ Q (.str "False") H)) := by
  intro pins s σ H xs us Q I r h
  rcases h with h | ⟨rfl, q⟩
  · exact call_strT pins s σ H xs us Q I r h
  · obtain ⟨u, rfl, r1⟩ := vals1 r
    cases (show u = Value.bool false from r1)
    exact str_false ⟨.str _, H, I.tok _, ⟨_, rfl⟩, q⟩
end Ux

set_option Elab.async false
set_option linter.all false
set_option maxRecDepth 100000
set_option maxHeartbeats 4000000
namespace K04
open PySem PySem.Spec PyProof.Rows L2 Ux
def top (i : Nat) : Stmt := PySem.Challenge.pw_unseenslopes_k04_ratio_texts.main.body.getD i (.Pass ⟨0, 0, 0, 0⟩)
abbrev sBag : Stmt := top 22
abbrev sPull : Stmt := top 23
abbrev sOf : Stmt := top 24
abbrev sSame : Stmt := top 25
/-- the built-ins that the text calls still stand -/
structure Bn (mg : Str → Option Value) : Prop where
  isin : mg "isinstance" = none
  tstr : mg "str" = none
  tint : mg "int" = none
  tlist : mg "list" = none
  ttuple : mg "tuple" = none
  tbool : mg "bool" = none
  fabs : mg "abs" = none
  frepr : mg "repr" = none
  flen : mg "len" = none
  frange : mg "range" = none
  fzip : mg "zip" = none
  fall : mg "all" = none
  tve : mg "ValueError" = none
  tle : mg "LookupError" = none
def BagL (l : Addr) (p : Nat) (g s c : Int) : List V := [.ref l, .int p, .int g, .int s, .int c]
/-- the bag of numbers at b, asked at most n times -/
structure BagAt (H : Hp) (b : Addr) (n : Nat) : Prop where
  ex : ∃ (l : Addr) (ns : List Int) (p : Nat) (g s c : Int), H b = some (.lst (BagL l p g s c)) ∧ H l = some (.lst (ns.map V.int)) ∧ b ≠ l ∧ 0 ≤ g ∧ 0 ≤ s ∧ s < 2147483549 ∧ 0 ≤ c ∧ c ≤ n
/-- all that was told stands, but what is at b -/
def But (b : Addr) (H H' : Hp) : Prop := ∀ x o, H x = some o → x ≠ b → H' x = some o
theorem But.refl {b : Addr} {H : Hp} : But b H H := fun _ _ h _ => h
theorem But.upd {b : Addr} {H H' : Hp} {o : HO} (h : But b H H') : But b H (upd H' b o) := fun x u e n => by
  rw [upd_ne n]
  exact h x u e n
theorem But.trans {b : Addr} {H H1 H2 : Hp} (h : But b H H1) (k : But b H1 H2) : But b H H2 := fun x o e n => k x o (h x o e n) n
def spPull : Sp := fun vs H Q _ => ∃ (b : Addr) (m : Int) (n : Nat), vs = [.ref b, .int m] ∧ 0 < m ∧ m < 1073741824 ∧ BagAt H b n ∧ n ≤ 1000000000 ∧ ∀ (r : Int) (H' : Hp), 0 ≤ r → r < m → BagAt H' b (n + 1) → But b H H' → Q (.int r) H'
section
variable {P : Program} {w : World} {K : PySem.W.Frag} {mg : Str → Option Value} {base : Heap}
theorem scPull : FnScope ["_law_bag_here", "_law_many", "_law_cell", "_law_small", "_law_digit", "_law_seed", "_law_step"] ["_law_bag_here", "_law_many"] (defScope sPull) := ⟨rfl, rfl, rfl, by decide +kernel, rfl, by decide +kernel, by decide +kernel⟩
theorem ok_pull {f : Addr} {fd : FuncData} (F : Fun K "_law_pull" "_law_pull" sPull f fd) (T : Bn mg) : FnOk P w K mg base CX0 1 f fd ["_law_bag_here", "_law_many"] spPull := by
  refine F.ok scPull (fun vs H Q E h => ?_) (fun cdv A outer s H vs Q E hr h => ?_)
  · obtain ⟨b, m, n, rfl, _⟩ := h
    rfl
  · obtain ⟨b, m, n, rfl, m0, m1, ⟨l, ns, p, g, s', c, hb, hl, nbl, g0, s0, s1, c0, c1⟩, hn, k⟩ := h
    refine ⟨_, pss_cons (ps_asg (pe_op op_add (pe_ix ix_list (pv 0) pe_int (fun _ _ => rfl)) pe_int) (pg_sub (pv 0) pe_int set_list))
      (C8.pss_cut (ps_if (PW.pt (pw_and (pt_cmpR op_eq (pe_ix ix_list (pv 0) pe_int (fun _ _ => rfl)) pe_int (nomark _))
            (pw_and1 (pt_cmpR op_lt (pe_ix ix_list (pv 0) pe_int (fun _ _ => rfl)) (pe_callB call_len (by rfl) T.flen (by decide +kernel) (pa_cons (pe_ix ix_list (pv 0) pe_int (fun _ _ => rfl)) pa_nil)) (nomark _)))))
          (pss_cons (ps_set (i := 2) scPull.nd rfl (Or.inl rfl) (pe_ix ix_list (pe_ix ix_list (pv 0) pe_int (fun _ _ => rfl)) (pe_ix ix_list (pv 0) pe_int (fun _ _ => rfl)) (fun _ _ => rfl)))
          (pss_cons (ps_asg (pe_op op_add (pe_ix ix_list (pv 0) pe_int (fun _ _ => rfl)) pe_int) (pg_sub (pv 0) pe_int set_list))
          (pss_one (ps_if (pt_cmpR op_ge (pe_callB call_abs (by rfl) T.fabs (by decide +kernel) (pa_cons (pv 2) pa_nil)) (pe_op op_pow pe_int pe_int) (nomark _))
            (pss_one (ps_asg (pe_callB call_abs (by rfl) T.fabs (by decide +kernel) (pa_cons (pv 2) pa_nil)) (pg_sub (pv 0) pe_int set_list)))
            (pss_cons (ps_set (i := 3) scPull.nd rfl (Or.inl rfl) (pe_op op_add (pe_op op_mul (pe_op op_mod (pe_callTy call_int1 (by rfl) T.tint (by decide +kernel) (pa_cons (pv 2) pa_nil)) pe_int) pe_int) pe_int))
            (pss_one (ps_asg (pe_op op_mod (pe_callTy call_int1 (by rfl) T.tint (by decide +kernel) (pa_cons (pe_op op_add (pe_op op_mul (pe_ix ix_list (pv 0) pe_int (fun _ _ => rfl)) pe_int) (pv 3)) pa_nil)) pe_int) (pg_sub (pv 0) pe_int set_list))))))))
          pss_nil)
      (pss_cons (ps_if (pt_cmpR op_gt (pe_ix ix_list (pv 0) pe_int (fun _ _ => rfl)) pe_int (nomark _))
          (pss_cons (ps_set (i := 4) scPull.nd rfl (Or.inl rfl) (pe_op op_mod (pe_callTy call_int1 (by rfl) T.tint (by decide +kernel) (pa_cons (pe_ix ix_list (pv 0) pe_int (fun _ _ => rfl)) pa_nil)) (pv 1)))
          (pss_cons (ps_asg (pe_op op_fdiv (pe_ix ix_list (pv 0) pe_int (fun _ _ => rfl)) (pv 1)) (pg_sub (pv 0) pe_int set_list))
          (pss_one (ps_ret (pv 4))))) pss_nil)
      (pss_cons (ps_set (i := 5) scPull.nd rfl (Or.inl rfl) (pe_ix ix_list (pv 0) pe_int (fun _ _ => rfl)))
      (pss_cons (ps_set (i := 6) scPull.nd rfl (Or.inl rfl) (pe_op op_add (pe_op op_add (pe_op op_mul (pv 5) pe_int) (pe_op op_mul (pe_ix ix_list (pv 0) pe_int (fun _ _ => rfl)) pe_int)) pe_int))
      (pss_cons (ps_asg (pe_op op_mod (pe_callTy call_int1 (by rfl) T.tint (by decide +kernel) (pa_cons (pe_op op_add (pe_op op_mul (pe_op op_mul (pv 5) (pv 5)) pe_int) (pv 6)) pa_nil)) pe_int) (pg_sub (pv 0) pe_int set_list))
      (pss_one (ps_ret (pe_op op_mod (pe_callTy call_int1 (by rfl) T.tint (by decide +kernel) (pa_cons (pe_op op_add (pe_op op_fdiv (pe_ix ix_list (pv 0) pe_int (fun _ _ => rfl)) pe_int) (pe_op op_mul (pe_op op_mod (pe_callTy call_int1 (by rfl) T.tint (by decide +kernel) (pa_cons (pe_ix ix_list (pv 0) pe_int (fun _ _ => rfl)) pa_nil)) pe_int) pe_int)) pa_nil)) (pv 1))))))))), ?_⟩
    -- bag[4] = bag[4] + 1
    refine ⟨_, rfl, b, _, 4, _, rfl, rfl, .of hb, rfl, _, _, rfl, rfl, _, rfl, b, _, 4, 4, rfl, rfl, hb, rfl, ?_⟩
    have hb1 : upd H b (.lst (BagL l p g s' (c + 1))) b = some (.lst (BagL l p g s' (c + 1))) := upd_same
    have hl1 : upd H b (.lst (BagL l p g s' (c + 1))) l = some (.lst (ns.map V.int)) := (upd_ne (Ne.symm nbl)).trans hl
    have f1 : But b H (upd H b (.lst (BagL l p g s' (c + 1)))) := But.refl.upd
    -- the first if: the bag again
    refine ⟨fun σ H2 => ∃ (v2 v3 : Option V) (p : Nat) (g s : Int), σ = [some (.ref b), some (.int m), v2, v3, none, none, none] ∧ H2 b = some (.lst (BagL l p g s (c + 1))) ∧ H2 l = some (.lst (ns.map V.int)) ∧ 0 ≤ g ∧ 0 ≤ s ∧ s < 2147483549 ∧ But b H H2, ?_, ?_⟩
    · refine ⟨_, rfl, b, _, 2, _, rfl, rfl, .of hb1, rfl, rfl, _, rfl, ?_⟩
      by_cases hg : (V.int g) = V.int 0
      · rw [decide_eq_true hg]
        refine iteT ⟨_, rfl, b, _, 1, _, rfl, rfl, .of hb1, rfl, _, rfl, b, _, 0, _, rfl, rfl, .of hb1, rfl, _, _, rfl, .inl ⟨_, .of hl1, rfl⟩, _, _, rfl, rfl, _, rfl, ?_⟩
        by_cases hp : (p : Int) < ((ns.map V.int).length : Nat)
        · rw [decide_eq_true hp]
          have hp' : p < ns.length := by
            rw [List.length_map] at hp
            omega
          have hat : (ns.map V.int)[p]? = some (V.int ns[p]) := by
            rw [List.getElem?_map, List.getElem?_eq_getElem hp']
            rfl
          refine iteT ⟨_, rfl, b, _, 0, _, rfl, rfl, .of hb1, rfl, _, rfl, b, _, 1, _, rfl, rfl, .of hb1, rfl, l, _, _, _, rfl, rfl, .of hl1, atI_nat hat, ?_⟩
          refine ⟨_, rfl, b, _, 1, _, rfl, rfl, .of hb1, rfl, _, _, rfl, rfl, _, rfl, b, _, 1, 1, rfl, rfl, hb1, rfl, ?_⟩
          generalize ns[p] = z
          have hb2 : ∀ H2 : Hp, upd H2 b (.lst (BagL l (p + 1) g s' (c + 1))) b = some (.lst (BagL l (p + 1) g s' (c + 1))) := fun _ => upd_same
          refine ⟨_, rfl, _, rfl, _, _, rfl, rfl, ⟨by decide, by decide, by decide⟩, _, _, rfl, rfl, _, rfl, ?_⟩
          refine ite2 (fun big => ?_) (fun _ => ?_)
          · refine ⟨_, rfl, _, rfl, _, rfl, b, _, 2, 2, rfl, rfl, hb2 _, rfl, ?_⟩
            refine ⟨_, _, p + 1, _, s', rfl, upd_same, ?_, ?_, s0, s1, ((f1.upd).upd)⟩
            · rw [upd_ne (Ne.symm nbl), upd_ne (Ne.symm nbl)]
              exact hl1
            · show (0 : Int) ≤ if z < 0 then -z else z
              split <;> omega
          · refine ⟨_, rfl, .inl ⟨_, rfl, _, _, rfl, rfl, (by show (0 : Int) < 1000000007; decide), _, _, rfl, rfl, ?_, _, _, rfl, rfl, ?_⟩⟩
            · have q1 := Int.emod_nonneg z (show (1000000007 : Int) ≠ 0 by decide)
              have q2 := Int.emod_lt_of_pos z (show (0 : Int) < 1000000007 by decide)
              exact .inl ⟨by omega, by omega⟩
            · refine ⟨_, rfl, b, _, 3, _, rfl, rfl, .of (hb2 _), rfl, _, _, rfl, rfl, .inl ⟨by omega, by omega⟩, _, rfl, _, _, rfl, rfl, .inl ⟨_, rfl, _, _, rfl, rfl, (by show (0 : Int) < 2147483549; decide), ?_⟩⟩
              refine ⟨_, rfl, b, _, 3, 3, rfl, rfl, hb2 _, rfl, ?_⟩
              refine ⟨_, _, p + 1, g, _, rfl, upd_same, ?_, g0, Int.emod_nonneg _ (by decide), Int.emod_lt_of_pos _ (by decide), ((f1.upd).upd)⟩
              rw [upd_ne (Ne.symm nbl), upd_ne (Ne.symm nbl)]
              exact hl1
        · rw [decide_eq_false hp]
          refine iteF ?_
          exact ⟨_, _, p, g, s', rfl, hb1, hl1, g0, s0, s1, f1⟩
      · rw [decide_eq_false hg]
        refine iteF (iteF ?_)
        exact ⟨_, _, p, g, s', rfl, hb1, hl1, g0, s0, s1, f1⟩
    · clear hb1 hl1 f1 g0 s0 s1
      rintro σ H2 ⟨v2, v3, p, g, s, rfl, hb2, hl2, g0, s0, s1, f2⟩
      refine ⟨_, rfl, b, _, 2, _, rfl, rfl, .of hb2, rfl, _, _, rfl, rfl, _, rfl, ?_⟩
      refine ite2 (fun big => ?_) (fun _ => ?_)
      · refine ⟨_, rfl, b, _, 2, _, rfl, rfl, .of hb2, rfl, .inl ⟨_, rfl, _, rfl, _, _, rfl, rfl, m0, ?_⟩⟩
        refine ⟨_, rfl, b, _, 2, _, rfl, rfl, .of hb2, rfl, _, rfl, _, _, rfl, rfl, ⟨m0, m1⟩, _, rfl, b, _, 2, 2, rfl, rfl, hb2, rfl, ?_⟩
        refine ⟨_, rfl, ?_⟩
        refine k _ _ (Int.emod_nonneg _ (by omega)) (Int.emod_lt_of_pos _ m0) ⟨l, ns, p, g / m, s, c + 1, upd_same, ?_, nbl, Int.ediv_nonneg g0 (by omega), s0, s1, by omega, by omega⟩ f2.upd
        rw [upd_ne (Ne.symm nbl)]
        exact hl2
      · refine ⟨_, rfl, b, _, 3, _, rfl, rfl, .of hb2, rfl, ?_⟩
        refine ⟨_, rfl, _, _, rfl, rfl, .inl ⟨by omega, by omega⟩, _, rfl, b, _, 4, _, rfl, rfl, .of hb2, rfl, _, _, rfl, rfl, .inl ⟨by omega, by omega⟩, _, _, rfl, rfl, _, _, rfl, rfl, ?_⟩
        have sq : s * s ≤ 2147483549 * 2147483549 := Int.mul_le_mul (by omega) (by omega) s0 (by decide)
        have sq0 : 0 ≤ s * s := Int.mul_nonneg s0 s0
        refine ⟨_, rfl, _, rfl, _, _, rfl, rfl, .inl ⟨by omega, by omega⟩, _, _, rfl, rfl, .inl ⟨by omega, by omega⟩, _, rfl, _, _, rfl, rfl, .inl ⟨_, rfl, _, _, rfl, rfl, (by show (0 : Int) < 2147483549; decide), ?_⟩⟩
        refine ⟨_, rfl, b, _, 3, 3, rfl, rfl, hb2, rfl, ?_⟩
        have hb3 : ∀ y, upd H2 b (.lst (BagL l p g y (c + 1))) b = some (.lst (BagL l p g y (c + 1))) := fun _ => upd_same
        refine ⟨_, rfl, b, _, 3, _, rfl, rfl, .of (hb3 _), rfl, _, _, rfl, rfl, ⟨by decide, by decide⟩, _, rfl, b, _, 3, _, rfl, rfl, .of (hb3 _), rfl, .inl ⟨_, rfl, _, _, rfl, rfl, (by show (0 : Int) < 7901; decide), _, _, rfl, rfl, ?_, _, _, rfl, rfl, .inl ⟨_, rfl, _, rfl, _, _, rfl, rfl, m0, ?_⟩⟩⟩
        · refine .inr ⟨by decide, by decide⟩
        · refine k _ _ (Int.emod_nonneg _ (by omega)) (Int.emod_lt_of_pos _ m0) ⟨l, ns, p, g, _, c + 1, upd_same, ?_, nbl, g0, Int.emod_nonneg _ (by decide), Int.emod_lt_of_pos _ (by decide), by omega, by omega⟩ f2.upd
          rw [upd_ne (Ne.symm nbl)]
          exact hl2
end
/-- a def of the text under its name -/
structure Dn (K : PySem.W.Frag) (mg : Str → Option Value) (x : Str) (f : Addr) : Prop where
  gl : mg x = some (.ref f)
  kp : PySem.W.keepIn K (.ref f) = true
def spBag (K : PySem.W.Frag) : Sp := fun vs H Q _ => ∃ (a : Addr) (ns : List Int), vs = [.ref a] ∧ SqL K H a (ns.map V.int) ∧ ∀ (b : Addr) (H' : Hp), BagAt H' b 0 → H b = none → Same H H' → Q (.ref b) H'
def spOf : Sp := fun vs H Q _ => ∃ (b t : Addr) (n : Nat) (xs : List V), vs = [.ref b, .ref t] ∧ BagAt H b n ∧ n ≤ 1000000000 ∧ t ≠ b ∧ H t = some (.lst xs) ∧ 0 < xs.length ∧ xs.length ≤ 1000 ∧ ∀ (i : Nat) (v : V) (H' : Hp), xs[i]? = some v → BagAt H' b (n + 1) → But b H H' → Q v H'
theorem cut_ints (ns : List Int) (lo hi : Option Int) : ∃ ms : List Int, cutV (ns.map V.int) lo hi = ms.map V.int := by
  unfold cutV
  rw [← List.map_drop, ← List.map_take]
  exact ⟨_, rfl⟩
section
variable {P : Program} {w : World} {K : PySem.W.Frag} {mg : Str → Option Value} {base : Heap}
theorem scBag : FnScope ["_law_script"] ["_law_script"] (defScope sBag) := ⟨rfl, rfl, rfl, by decide +kernel, rfl, by decide +kernel, by decide +kernel⟩
theorem ok_bag {f : Addr} {fd : FuncData} (F : Fun K "_law_bag" "_law_bag" sBag f fd) (T : Bn mg) : FnOk P w K mg base CX0 1 f fd ["_law_script"] (spBag K) := by
  refine F.ok scBag (fun vs H Q E h => ?_) (fun cdv A outer s H vs Q E hr h => ?_)
  · obtain ⟨a, ns, rfl, _⟩ := h
    rfl
  · obtain ⟨a, ns, rfl, hS, k⟩ := h
    refine ⟨_, pss_one (ps_ret (pe_lst (pa_cons (pe_callTy call_list_of (by rfl) T.tlist (by decide +kernel) (pa_cons (pe_slice sl_list (pv 0) po_none (po_some pe_int)) pa_nil)) (pa_cons pe_int (pa_cons pe_int (pa_cons pe_int (pa_cons pe_int pa_nil))))))), ?_⟩
    obtain ⟨ms, hm⟩ := cut_ints ns none (some 63)
    refine ⟨_, rfl, _, rfl, a, _, rfl, hS, fun p hp => ?_⟩
    rw [hm]
    refine ⟨p, _, rfl, .inl (SqL.of upd_same), fun l hl => ?_⟩
    refine ⟨(by show 5 ≤ sizeLine; decide), fun b hb => ?_⟩
    have nbl : b ≠ l := (ne_of_none upd_same hb).symm
    refine k b _ ⟨l, ms, 0, 0, 12004, 0, upd_same, ?_, nbl, by decide, by decide, by decide, by decide, by decide⟩ ?_ ?_
    · rw [upd_ne nbl.symm]
      exact upd_same
    · have e1 : H b ≠ none → False := fun z => by
        cases e : H b with
        | none => exact z e
        | some o =>
          have q : (upd (upd H p (.lst (ms.map V.int))) l (.lst (ms.map V.int))) b = some o := by
            rw [upd_ne nbl, upd_ne (ne_of_none e hp)]
            exact e
          rw [q] at hb
          cases hb
      exact Classical.byContradiction e1
    · intro c o e
      have h1 := ne_of_none e hp
      have s1 : upd H p (.lst (ms.map V.int)) c = some o := by
        rw [upd_ne h1]
        exact e
      have h2 := ne_of_none s1 hl
      have s2 : upd (upd H p (.lst (ms.map V.int))) l (.lst (ms.map V.int)) c = some o := by
        rw [upd_ne h2]
        exact s1
      rw [upd_ne (ne_of_none s2 hb)]
      exact s2
theorem scOf : FnScope ["_law_bag_here", "_law_things"] ["_law_bag_here", "_law_things"] (defScope sOf) := ⟨rfl, rfl, rfl, by decide +kernel, rfl, by decide +kernel, by decide +kernel⟩
theorem ok_of {f fP : Addr} {fd fdP : FuncData} (F : Fun K "_law_of" "_law_of" sOf f fd) (T : Bn mg) (D : Dn K mg "_law_pull" fP) (G : FnOk P w K mg base CX0 1 fP fdP ["_law_bag_here", "_law_many"] spPull) (bP : Binds K fdP ["_law_bag_here", "_law_many"] []) :
    FnOk P w K mg base CX0 2 f fd ["_law_bag_here", "_law_things"] spOf := by
  refine F.ok scOf (fun vs H Q E h => ?_) (fun cdv A outer s H vs Q E hr h => ?_)
  · obtain ⟨b, t, n, xs, rfl, _⟩ := h
    rfl
  · obtain ⟨b, t, n, xs, rfl, B, hn, nt, ht, l0, l1, k⟩ := h
    refine ⟨_, pss_one (ps_ret (pe_ix ix_list (pv 1) (pe_call G hr (by rfl) D.gl D.kp bP .nil pass0 (pa_cons (pv 0) (pa_cons (pe_callB call_len (by rfl) T.flen (by decide +kernel) (pa_cons (pv 1) pa_nil)) pa_nil))) (fun _ _ => rfl))), ?_⟩
    refine ⟨_, rfl, _, rfl, _, rfl, _, _, rfl, .inl ⟨_, .of ht, rfl⟩, b, _, n, rfl, by omega, by omega, B, hn, fun r H' r0 r1 B' f' => ?_⟩
    have hi : r.toNat < xs.length := by omega
    have q := List.getElem?_eq_getElem hi
    generalize xs[r.toNat] = y at q
    refine ⟨t, xs, r, y, rfl, rfl, .of (f' _ _ ht nt), ?_, k r.toNat y H' q B' f'⟩
    have z := atI_nat q
    rw [Int.toNat_of_nonneg r0] at z
    exact z
/-! ### same -/
/-- u and v are like data, less than n deep -/
def Like (H : Hp) : Nat → V → V → Prop
  | 0, _, _ => False
  | n + 1, u, v => (u = v ∧ (v = .non ∨ (∃ b, v = .bl b) ∨ (∃ i, v = .int i) ∨ ∃ x, v = .str x)) ∨
    ∃ (a b : Addr) (xs ys : List V), u = .ref a ∧ v = .ref b ∧ ((H a = some (.tup xs) ∧ H b = some (.tup ys)) ∨ (H a = some (.lst xs) ∧ H b = some (.lst ys))) ∧ xs.length = ys.length ∧ xs.length ≤ 1000 ∧ ∀ (i : Nat) (x y : V), xs[i]? = some x → ys[i]? = some y → Like H n x y
theorem Like.mono {H H' : Hp} (s : Same H H') : ∀ {n : Nat} {u v : V}, Like H n u v → Like H' n u v
  | 0, _, _, h => h.elim
  | n + 1, u, v, h => by
    rcases h with h | ⟨a, b, xs, ys, e1, e2, hh, l1, l2, k⟩
    · exact .inl h
    · refine .inr ⟨a, b, xs, ys, e1, e2, ?_, l1, l2, fun i x y hx hy => Like.mono s (k i x y hx hy)⟩
      rcases hh with ⟨h1, h2⟩ | ⟨h1, h2⟩
      · exact .inl ⟨s _ _ h1, s _ _ h2⟩
      · exact .inr ⟨s _ _ h1, s _ _ h2⟩
def spSame (n : Nat) : Sp := fun vs H Q _ => ∃ u v, vs = [u, v] ∧ Like H n u v ∧ ∀ H', Same H H' → Q (.bl true) H'
theorem Same.new {H H' : Hp} {p : Addr} {o : HO} (s : Same H H') (hp : H' p = none) : Same H (upd H' p o) := fun c u e => by
  rw [upd_ne (ne_of_none (s c u e) hp)]
  exact s c u e
theorem scSame : FnScope ["_law_found", "_law_due", "_law_a", "_law_b"] ["_law_found", "_law_due"] (defScope sSame) := ⟨rfl, rfl, rfl, by decide +kernel, rfl, by decide +kernel, by decide +kernel⟩
theorem walk_zipT {a b : Addr} {xs ys : List V} {n : Nat} (hn : n = min xs.length ys.length) : Walk (RZ.ItzT K a b) n (fun H => SqT K H a xs ∧ SqT K H b ys) (YPair (fun i => xs[i]?) (fun i => ys[i]?)) := by
  subst hn
  refine ⟨fun i _ hi q => ?_, fun _ q => ⟨xs, ys, q.1, q.2, ?_⟩, fun i H v H' _ q y => ?_⟩
  · have h1 : i < xs.length := by omega
    have h2 : i < ys.length := by omega
    refine ⟨xs, ys, xs[i], ys[i], q.1, q.2, List.getElem?_eq_getElem h1, List.getElem?_eq_getElem h2⟩
  · omega
  · obtain ⟨T, x, z, h1, h2, h3, h4, h5⟩ := y
    exact ⟨T, x, z, h1, h2, h3, h4 xs q.1, h5 ys q.2⟩
theorem all_true (n : Nat) : (List.replicate n true).all id = true := by
  induction n with
  | zero => rfl
  | succ n ih =>
    rw [List.replicate_succ, List.all_cons, ih]
    rfl
theorem any_no {T : String} (h1 : kitB T "list" = some false) (h2 : kitB T "tuple" = some false) : PySem.W.kitAny K (.type T) [.type "list", .type "tuple"] = some false :=
  kitAny_cons (kit_ty h1) (fun _ => kitAny_cons (kit_ty h2) (fun _ => kitAny_nil) (fun z => nomatch z)) (fun z => nomatch z)
theorem any_lst : PySem.W.kitAny K (.type "list") [.type "list", .type "tuple"] = some true :=
  kitAny_cons (b := true) (kit_ty (by decide +kernel)) (fun z => nomatch z) (fun _ => rfl)
theorem any_tup : PySem.W.kitAny K (.type "tuple") [.type "list", .type "tuple"] = some true :=
  kitAny_cons (b := false) (kit_ty (by decide +kernel)) (fun _ => kitAny_cons (b := true) (kit_ty (by decide +kernel)) (fun z => nomatch z) (fun _ => rfl)) (fun z => nomatch z)
theorem lt_tup : Paired ClsV [V.ty "list", V.ty "tuple"] [Value.type "list", Value.type "tuple"] := .cons (.ty _) (.cons (.ty _) .nil)
theorem ok_same_step {f : Addr} {fd : FuncData} {n k : Nat} (F : Fun K "_law_same" "_law_same" sSame f fd) (T : Bn mg) (D : Dn K mg "_law_same" f) (G : FnOk P w K mg base CX0 k f fd ["_law_found", "_law_due"] (spSame n)) (bS : Binds K fd ["_law_found", "_law_due"] []) :
    FnOk P w K mg base CX0 (k + 1) f fd ["_law_found", "_law_due"] (spSame (n + 1)) := by
  refine F.ok scSame (fun vs H Q E h => ?_) (fun cdv A outer s H vs Q E hr h => ?_)
  · obtain ⟨u, v, rfl, _⟩ := h
    rfl
  · obtain ⟨u, v, rfl, lk, kk⟩ := h
    refine ⟨_, pss_cons (ps_if (PW.pt (pw_or (pt_cmpR op_isN (pv 1) pe_non (nomark _)) (pw_or1 (pt_cmpR op_isN (pv 0) pe_non (nomark _)))))
        (pss_one (ps_ret (pe_and (pe_cmpR op_isN (pv 1) pe_non (nomark _)) (pe_one (pe_cmpR op_isN (pv 0) pe_non (nomark _)))))) pss_nil)
      (pss_cons (ps_if (PW.pt (pw_or (pt_val (pe_callB call_isi (by rfl) T.isin (by decide +kernel) (pa_cons (pv 1) (pa_cons (pe_bltn (v := .ty "bool") (by rfl) T.tbool (by decide +kernel) rfl) pa_nil)))) (pw_or1 (pt_val (pe_callB call_isi (by rfl) T.isin (by decide +kernel) (pa_cons (pv 0) (pa_cons (pe_bltn (v := .ty "bool") (by rfl) T.tbool (by decide +kernel) rfl) pa_nil)))))))
        (pss_one (ps_ret (pe_and (pe_callB call_isi (by rfl) T.isin (by decide +kernel) (pa_cons (pv 1) (pa_cons (pe_bltn (v := .ty "bool") (by rfl) T.tbool (by decide +kernel) rfl) pa_nil))) (pe_and (pe_callB call_isi (by rfl) T.isin (by decide +kernel) (pa_cons (pv 0) (pa_cons (pe_bltn (v := .ty "bool") (by rfl) T.tbool (by decide +kernel) rfl) pa_nil))) (pe_one (pe_cmpR op_eq (pv 0) (pv 1) (nomark _))))))) pss_nil)
      (pss_cons (ps_if (PW.pt (pw_or (pt_val (pe_callB call_isiT (by rfl) T.isin (by decide +kernel) (pa_cons (pv 1) (pa_cons (pe_tup (pa_cons (pe_bltn (v := .ty "list") (by rfl) T.tlist (by decide +kernel) rfl) (pa_cons (pe_bltn (v := .ty "tuple") (by rfl) T.ttuple (by decide +kernel) rfl) pa_nil))) pa_nil)))) (pw_or1 (pt_val (pe_callB call_isiT (by rfl) T.isin (by decide +kernel) (pa_cons (pv 0) (pa_cons (pe_tup (pa_cons (pe_bltn (v := .ty "list") (by rfl) T.tlist (by decide +kernel) rfl) (pa_cons (pe_bltn (v := .ty "tuple") (by rfl) T.ttuple (by decide +kernel) rfl) pa_nil))) pa_nil)))))))
        (pss_cons (ps_if (pt_cmpR op_ne (pe_callB call_isi (by rfl) T.isin (by decide +kernel) (pa_cons (pv 1) (pa_cons (pe_bltn (v := .ty "list") (by rfl) T.tlist (by decide +kernel) rfl) pa_nil))) (pe_callB call_isi (by rfl) T.isin (by decide +kernel) (pa_cons (pv 0) (pa_cons (pe_bltn (v := .ty "list") (by rfl) T.tlist (by decide +kernel) rfl) pa_nil))) (nomark _)) (pss_one (ps_ret pe_bl)) pss_nil)
        (pss_cons (ps_if (PW.pt (pw_or (pt_cmpR op_ne (pe_callB call_isi (by rfl) T.isin (by decide +kernel) (pa_cons (pv 1) (pa_cons (pe_bltn (v := .ty "tuple") (by rfl) T.ttuple (by decide +kernel) rfl) pa_nil))) (pe_callB call_isi (by rfl) T.isin (by decide +kernel) (pa_cons (pv 0) (pa_cons (pe_bltn (v := .ty "tuple") (by rfl) T.ttuple (by decide +kernel) rfl) pa_nil))) (nomark _)) (pw_or1 (pt_cmpR op_ne (pe_callB call_len (by rfl) T.flen (by decide +kernel) (pa_cons (pv 0) pa_nil)) (pe_callB call_len (by rfl) T.flen (by decide +kernel) (pa_cons (pv 1) pa_nil)) (nomark _))))) (pss_one (ps_ret pe_bl)) pss_nil)
        (pss_one (ps_ret (pe_callB (cr_all rfl) (by rfl) T.fall (by decide +kernel) (pa_cons (pe_lc (own := [("_law_a", 2), ("_law_b", 3)]) (g := gTup K 2 (gCons (gName 2) (gCons (gName 3) gNil))) rfl scSame.nd (RZ.pi_zipA (by rfl) T.fzip (pa_cons (pv 0) (pa_cons (pv 1) pa_nil))) (blkOk_by (own := [("_law_a", 2), ("_law_b", 3)]) (N := ["_law_found", "_law_due", "_law_a", "_law_b"]) (sc := defScope sSame) (by decide +kernel))
            (fun _ _ _ _ _ => pg_tup (n := 2) rfl (pgs_cons (pg_name (i := 2) scSame.nd rfl (Or.inl rfl) (hf := Or.inr rfl)) (pgs_cons (pg_name (i := 3) scSame.nd rfl (Or.inl rfl) (hf := Or.inr rfl)) pgs_nil))) (fun _ _ _ _ _ => pts_nil)
            (fun _ _ _ _ _ => pe_call G hr (by rfl) D.gl D.kp bS .nil pass0 (pa_cons (pv 2) (pa_cons (pv 3) pa_nil)))) pa_nil)))))) pss_nil)
      (pss_cons (ps_if (pt_cmpR op_ne (pe_callB call_isi (by rfl) T.isin (by decide +kernel) (pa_cons (pv 1) (pa_cons (pe_bltn (v := .ty "int") (by rfl) T.tint (by decide +kernel) rfl) pa_nil))) (pe_callB call_isi (by rfl) T.isin (by decide +kernel) (pa_cons (pv 0) (pa_cons (pe_bltn (v := .ty "int") (by rfl) T.tint (by decide +kernel) rfl) pa_nil))) (nomark _)) (pss_one (ps_ret pe_bl)) pss_nil)
      (pss_one (ps_ret (pe_and (pe_cmpR op_eq (pe_callB call_isi (by rfl) T.isin (by decide +kernel) (pa_cons (pv 1) (pa_cons (pe_bltn (v := .ty "str") (by rfl) T.tstr (by decide +kernel) rfl) pa_nil))) (pe_callB call_isi (by rfl) T.isin (by decide +kernel) (pa_cons (pv 0) (pa_cons (pe_bltn (v := .ty "str") (by rfl) T.tstr (by decide +kernel) rfl) pa_nil))) (nomark _)) (pe_one (pe_cmpR op_eq (pv 0) (pv 1) (nomark _))))))))), ?_⟩
    rcases lk with ⟨rfl, (rfl | ⟨b, rfl⟩ | ⟨i, rfl⟩ | ⟨x, rfl⟩)⟩ | ⟨a, b, xs, ys, rfl, rfl, hh, l1, l2, like⟩
    · refine ⟨_, rfl, rfl, _, rfl, iteT ?_⟩
      exact ⟨_, rfl, rfl, _, rfl, iteT ⟨_, rfl, rfl, kk _ (Same.refl _)⟩⟩
    · refine ⟨_, rfl, rfl, _, rfl, iteF ⟨_, rfl, rfl, _, rfl, iteF ?_⟩⟩
      refine ⟨_, rfl, _, _, _, _, true, rfl, .ty "bool", .base (.bl _), kit_ty (by decide +kernel), _, rfl, iteT ?_⟩
      refine ⟨_, rfl, _, _, _, _, true, rfl, .ty "bool", .base (.bl _), kit_ty (by decide +kernel), _, rfl, iteT ⟨_, rfl, _, _, _, _, true, rfl, .ty "bool", .base (.bl _), kit_ty (by decide +kernel), _, rfl, iteT ⟨_, rfl, _, rfl, rfl, ?_⟩⟩⟩
      rw [decide_eq_true rfl]
      exact kk _ (Same.refl _)
    · refine ⟨_, rfl, rfl, _, rfl, iteF ⟨_, rfl, rfl, _, rfl, iteF ?_⟩⟩
      refine ⟨_, rfl, _, _, _, _, false, rfl, .ty "bool", .base (.int _), kit_ty (by decide +kernel), _, rfl, iteF ⟨_, rfl, _, _, _, _, false, rfl, .ty "bool", .base (.int _), kit_ty (by decide +kernel), _, rfl, iteF ?_⟩⟩
      refine ⟨_, rfl, (by show 2 ≤ sizeLine; decide), fun p hp => ⟨_, p, _, _, _, false, rfl, upd_same, lt_tup, .base (.int _), any_no (by decide +kernel) (by decide +kernel), _, rfl, iteF ⟨_, rfl, (by show 2 ≤ sizeLine; decide), fun p2 hp2 => ⟨_, p2, _, _, _, false, rfl, upd_same, lt_tup, .base (.int _), any_no (by decide +kernel) (by decide +kernel), _, rfl, iteF ?_⟩⟩⟩⟩
      have s2 := (Same.new (Same.new (Same.refl H) hp (o := .tup [V.ty "list", V.ty "tuple"])) hp2 (o := .tup [V.ty "list", V.ty "tuple"]))
      refine ⟨_, rfl, _, _, _, _, true, rfl, .ty "int", .base (.int _), kit_ty (by decide +kernel), _, rfl, _, _, _, _, true, rfl, .ty "int", .base (.int _), kit_ty (by decide +kernel), rfl, _, rfl, iteF ?_⟩
      refine ⟨_, rfl, _, _, _, _, false, rfl, .ty "str", .base (.int _), kit_ty (by decide +kernel), _, rfl, _, _, _, _, false, rfl, .ty "str", .base (.int _), kit_ty (by decide +kernel), rfl, _, rfl, iteT ⟨_, rfl, _, rfl, rfl, ?_⟩⟩
      rw [decide_eq_true rfl]
      exact kk _ s2
    · refine ⟨_, rfl, rfl, _, rfl, iteF ⟨_, rfl, rfl, _, rfl, iteF ?_⟩⟩
      refine ⟨_, rfl, _, _, _, _, false, rfl, .ty "bool", .base (.str _), kit_ty (by decide +kernel), _, rfl, iteF ⟨_, rfl, _, _, _, _, false, rfl, .ty "bool", .base (.str _), kit_ty (by decide +kernel), _, rfl, iteF ?_⟩⟩
      refine ⟨_, rfl, (by show 2 ≤ sizeLine; decide), fun p hp => ⟨_, p, _, _, _, false, rfl, upd_same, lt_tup, .base (.str _), any_no (by decide +kernel) (by decide +kernel), _, rfl, iteF ⟨_, rfl, (by show 2 ≤ sizeLine; decide), fun p2 hp2 => ⟨_, p2, _, _, _, false, rfl, upd_same, lt_tup, .base (.str _), any_no (by decide +kernel) (by decide +kernel), _, rfl, iteF ?_⟩⟩⟩⟩
      have s2 := (Same.new (Same.new (Same.refl H) hp (o := .tup [V.ty "list", V.ty "tuple"])) hp2 (o := .tup [V.ty "list", V.ty "tuple"]))
      refine ⟨_, rfl, _, _, _, _, false, rfl, .ty "int", .base (.str _), kit_ty (by decide +kernel), _, rfl, _, _, _, _, false, rfl, .ty "int", .base (.str _), kit_ty (by decide +kernel), rfl, _, rfl, iteF ?_⟩
      refine ⟨_, rfl, _, _, _, _, true, rfl, .ty "str", .base (.str _), kit_ty (by decide +kernel), _, rfl, _, _, _, _, true, rfl, .ty "str", .base (.str _), kit_ty (by decide +kernel), rfl, _, rfl, iteT ⟨_, rfl, _, rfl, rfl, ?_⟩⟩
      rw [decide_eq_true rfl]
      exact kk _ s2
    · refine ⟨_, rfl, rfl, _, rfl, iteF ⟨_, rfl, rfl, _, rfl, iteF ?_⟩⟩
      rcases hh with ⟨ha, hb⟩ | ⟨ha, hb⟩
      · refine ⟨_, rfl, _, _, _, _, false, rfl, .ty "bool", .base (.tup hb), kit_ty (by decide +kernel), _, rfl, iteF ⟨_, rfl, _, _, _, _, false, rfl, .ty "bool", .base (.tup ha), kit_ty (by decide +kernel), _, rfl, iteF ?_⟩⟩
        refine ⟨_, rfl, (by show 2 ≤ sizeLine; decide), fun p hp => ?_⟩
        have s1 := Same.new (Same.refl H) hp (o := .tup [V.ty "list", V.ty "tuple"])
        have ha1 := s1 _ _ ha
        have hb1 := s1 _ _ hb
        refine ⟨_, p, _, _, _, true, rfl, upd_same, lt_tup, .base (.tup hb1), any_tup, _, rfl, iteT ?_⟩
        refine ⟨_, rfl, _, _, _, _, false, rfl, .ty "list", .base (.tup hb1), kit_ty (by decide +kernel), _, rfl, _, _, _, _, false, rfl, .ty "list", .base (.tup ha1), kit_ty (by decide +kernel), rfl, _, rfl, iteF ?_⟩
        refine ⟨_, rfl, _, _, _, _, true, rfl, .ty "tuple", .base (.tup hb1), kit_ty (by decide +kernel), _, rfl, _, _, _, _, true, rfl, .ty "tuple", .base (.tup ha1), kit_ty (by decide +kernel), rfl, _, rfl, iteF ⟨_, rfl, _, _, rfl, .inr ⟨_, .of ha1, rfl⟩, _, rfl, _, _, rfl, .inr ⟨_, .of hb1, rfl⟩, ?_⟩⟩
        refine ⟨rfl, _, rfl, ?_⟩
        rw [l1, decide_eq_true rfl]
        refine iteF ?_
        refine ⟨_, rfl, _, rfl, a, b, xs, ys, rfl, .inr ⟨SqT.of ha1, SqT.of hb1, fun D hD => ?_⟩⟩
        refine lc_it (walk_zipT (n := ys.length) (by rw [l1, Nat.min_self])) (fun i H' => Same (upd H p (.tup [V.ty "list", V.ty "tuple"])) H' ∧ H' D = some (.lst ((List.replicate i true).map V.bl))) ⟨Same.new (Same.refl _) hD, upd_same⟩ (fun i H' _ z => ⟨SqT.of (z.1 _ _ ha1), SqT.of (z.1 _ _ hb1)⟩) ?_ ?_
        · rintro i x H2 H3 hi ⟨t2, d2⟩ ⟨T1, y, z, rfl, nT, rfl, hy, hz⟩
          have t3 := Same.new t2 nT (o := .tup [y, z])
          refine ⟨T1, _, rfl, SqT.of upd_same, rfl, y, _, rfl, z, _, rfl, rfl, rfl, ?_⟩
          refine ⟨_, rfl, _, rfl, y, z, rfl, Like.mono (s1.trans t3) (like i y z hy hz), fun H4 s4 => ?_⟩
          have d4 : H4 D = some (.lst ((List.replicate i true).map V.bl)) := s4 _ _ (by rw [upd_ne (ne_of_none d2 nT)]; exact d2)
          refine ⟨_, d4, ?_, fun c o e => ?_, ?_⟩
          · rw [List.length_map, List.length_replicate]
            exact small1000 (by omega)
          · have q := s4 _ _ (t3 c o e)
            rw [upd_ne (ne_of_none e hD)]
            exact q
          · rw [upd_same, List.replicate_succ', List.map_append]
            rfl
        · rintro H2 ⟨t2, d2⟩
          refine ⟨D, _, rfl, .of d2, ?_⟩
          rw [all_true]
          exact kk _ (s1.trans t2)

      · refine ⟨_, rfl, _, _, _, _, false, rfl, .ty "bool", .base (.lst hb), kit_ty (by decide +kernel), _, rfl, iteF ⟨_, rfl, _, _, _, _, false, rfl, .ty "bool", .base (.lst ha), kit_ty (by decide +kernel), _, rfl, iteF ?_⟩⟩
        refine ⟨_, rfl, (by show 2 ≤ sizeLine; decide), fun p hp => ?_⟩
        have s1 := Same.new (Same.refl H) hp (o := .tup [V.ty "list", V.ty "tuple"])
        have ha1 := s1 _ _ ha
        have hb1 := s1 _ _ hb
        refine ⟨_, p, _, _, _, true, rfl, upd_same, lt_tup, .base (.lst hb1), any_lst, _, rfl, iteT ?_⟩
        refine ⟨_, rfl, _, _, _, _, true, rfl, .ty "list", .base (.lst hb1), kit_ty (by decide +kernel), _, rfl, _, _, _, _, true, rfl, .ty "list", .base (.lst ha1), kit_ty (by decide +kernel), rfl, _, rfl, iteF ?_⟩
        refine ⟨_, rfl, _, _, _, _, false, rfl, .ty "tuple", .base (.lst hb1), kit_ty (by decide +kernel), _, rfl, _, _, _, _, false, rfl, .ty "tuple", .base (.lst ha1), kit_ty (by decide +kernel), rfl, _, rfl, iteF ⟨_, rfl, _, _, rfl, .inl ⟨_, .of ha1, rfl⟩, _, rfl, _, _, rfl, .inl ⟨_, .of hb1, rfl⟩, ?_⟩⟩
        refine ⟨rfl, _, rfl, ?_⟩
        rw [l1, decide_eq_true rfl]
        refine iteF ?_
        refine ⟨_, rfl, _, rfl, a, b, xs, ys, rfl, .inl ⟨SqL.of ha1, SqL.of hb1, fun D hD => ?_⟩⟩
        refine lc_it (walk_zip (n := ys.length) (by rw [l1, Nat.min_self])) (fun i H' => Same (upd H p (.tup [V.ty "list", V.ty "tuple"])) H' ∧ H' D = some (.lst ((List.replicate i true).map V.bl))) ⟨Same.new (Same.refl _) hD, upd_same⟩ (fun i H' _ z => ⟨SqL.of (z.1 _ _ ha1), SqL.of (z.1 _ _ hb1)⟩) ?_ ?_
        · rintro i x H2 H3 hi ⟨t2, d2⟩ ⟨T1, y, z, rfl, nT, rfl, hy, hz⟩
          have t3 := Same.new t2 nT (o := .tup [y, z])
          refine ⟨T1, _, rfl, SqT.of upd_same, rfl, y, _, rfl, z, _, rfl, rfl, rfl, ?_⟩
          refine ⟨_, rfl, _, rfl, y, z, rfl, Like.mono (s1.trans t3) (like i y z hy hz), fun H4 s4 => ?_⟩
          have d4 : H4 D = some (.lst ((List.replicate i true).map V.bl)) := s4 _ _ (by rw [upd_ne (ne_of_none d2 nT)]; exact d2)
          refine ⟨_, d4, ?_, fun c o e => ?_, ?_⟩
          · rw [List.length_map, List.length_replicate]
            exact small1000 (by omega)
          · have q := s4 _ _ (t3 c o e)
            rw [upd_ne (ne_of_none e hD)]
            exact q
          · rw [upd_same, List.replicate_succ', List.map_append]
            rfl
        · rintro H2 ⟨t2, d2⟩
          refine ⟨D, _, rfl, .of d2, ?_⟩
          rw [all_true]
          exact kk _ (s1.trans t2)

end
end K04

set_option Elab.async false
set_option linter.all false
set_option maxRecDepth 100000
set_option maxHeartbeats 4000000
namespace K04
open PySem PySem.Spec PyProof.Rows L2 Ux
abbrev sField : Stmt := top 26
abbrev sOtherField : Stmt := top 27
abbrev sWhy : Stmt := top 28
/-- the names of the errors' fields -/
def fieldNames : List Str := ["code", "given", "at", "name", "what", "limit", "index", "line", "deed"]
/-- a caught error with the fields fs -/
structure Err (K : PySem.W.Frag) (H : Hp) (p : Addr × Obj) (C dd : Addr) (fs : List (Str × V)) : Prop where
  ca : Caught p C dd
  xf : XfC K C
  no : ∀ f ∈ fieldNames, PySem.W.findIn K (.ref C) f = some none
  at_ : H dd = some (.xd fs)
theorem Err.same {K : PySem.W.Frag} {H H' : Hp} {p : Addr × Obj} {C dd : Addr} {fs : List (Str × V)} (h : Err K H p C dd fs) (s : Same H H') : Err K H' p C dd fs := ⟨h.ca, h.xf, h.no, s _ _ h.at_⟩
/-- what such an error has beside its code -/
def Has (fs : List (Str × V)) (f : Str) (q : V → Prop) : Prop := ∃ v, fs.lookup f = some v ∧ q v
def otherF (code : Str) (fs : List (Str × V)) (q : V → Prop) : Prop :=
  if decide (V.str code = V.str "InvalidFact") = true then Has fs "what" q else if decide (V.str code = V.str "InvalidRow") = true then Has fs "index" q else if decide (V.str code = V.str "InvalidPage") = true then Has fs "line" q else
  if decide (V.str code = V.str "UnlikeWorlds") = true then q .non else Has fs "deed" q
def spOtherF (K : PySem.W.Frag) : Addr × Obj → Sp := fun p vs H Q _ => ∃ (C dd : Addr) (fs : List (Str × V)) (code : Str), vs = [.ref p.1] ∧ Err K H p C dd fs ∧ fs.lookup ("code" : Str) = some (V.str code) ∧ otherF code fs fun v => Q v H
def fieldF (code : Str) (fs : List (Str × V)) (q : V → Prop) (tup : V → V → Prop) : Prop :=
  if inV (.str code) [.str "InvalidName", .str "InvalidNumber"] = true then Has fs "given" q else if inV (.str code) [.str "InvalidText", .str "WrongKind", .str "InvalidBlank"] = true then Has fs "at" q else
  if inV (.str code) [.str "NameTaken", .str "InvalidWitness", .str "UnknownName"] = true then Has fs "name" q else
  if decide (V.str code = V.str "TooLarge") = true then Has fs "what" (fun v => Has fs "limit" fun u => tup v u) else otherF code fs q
def spFieldE (K : PySem.W.Frag) : Addr × Obj → Sp := fun p vs H Q _ => ∃ (C dd : Addr) (fs : List (Str × V)) (code : Str), vs = [.ref p.1] ∧ Err K H p C dd fs ∧ fs.lookup ("code" : Str) = some (V.str code) ∧
  fieldF code fs (fun v => ∀ H', Same H H' → Q v H') fun v u => ∀ (t : Addr) (H' : Hp), H' t = some (.tup [v, u]) → Same H H' → Q (.ref t) H'
theorem same_upd' {H : Hp} {a : Addr} {o : HO} (ha : H a = none) : Same H (upd H a o) := fun x u e => by
  rw [upd_ne (ne_of_none e ha)]
  exact e
theorem unT {A B : Prop} (h : if true = true then A else B) : A := by
  rw [if_pos rfl] at h
  exact h
theorem unF {A B : Prop} (h : if false = true then A else B) : B := by
  rw [if_neg Bool.false_ne_true] at h
  exact h
section
variable {P : Program} {w : World} {K : PySem.W.Frag} {mg : Str → Option Value} {base : Heap}
theorem scOtherField : FnScope ["_law_e"] ["_law_e"] (defScope sOtherField) := ⟨rfl, rfl, rfl, by decide +kernel, rfl, by decide +kernel, by decide +kernel⟩
theorem ok_otherField {f : Addr} {fd : FuncData} (F : Fun K "_law_other_field" "_law_other_field" sOtherField f fd) : FnQ P w K mg base 1 f fd ["_law_e"] (spOtherF K) := by
  refine Ux.Fun.okQ F scOtherField (fun p vs H Q E h => ?_) (fun cdv A outer s H vs Q E p hr h => ?_)
  · obtain ⟨_, _, _, _, rfl, _⟩ := h
    rfl
  · obtain ⟨C, dd, fs, code, rfl, er, lc, q⟩ := h
    have hp : p ∈ (L2H.cxH CX0 P w K mg base ["_law_e"] "_law_other_field" (defScope sOtherField) f cdv A outer s H E p).pn := List.mem_singleton.mpr rfl
    refine ⟨_, pss_cons (ps_if (pt_cmpR op_eq (pe_pf er.xf (er.no _ (by decide +kernel)) hp er.ca (pv 0)) pe_str (nomark _)) (pss_one (ps_ret (pe_pf er.xf (er.no _ (by decide +kernel)) hp er.ca (pv 0)))) pss_nil)
      (pss_cons (ps_if (pt_cmpR op_eq (pe_pf er.xf (er.no _ (by decide +kernel)) hp er.ca (pv 0)) pe_str (nomark _)) (pss_one (ps_ret (pe_pf er.xf (er.no _ (by decide +kernel)) hp er.ca (pv 0)))) pss_nil)
      (pss_cons (ps_if (pt_cmpR op_eq (pe_pf er.xf (er.no _ (by decide +kernel)) hp er.ca (pv 0)) pe_str (nomark _)) (pss_one (ps_ret (pe_pf er.xf (er.no _ (by decide +kernel)) hp er.ca (pv 0)))) pss_nil)
      (pss_one (ps_ret (pe_ifExp (pt_cmpR op_eq (pe_pf er.xf (er.no _ (by decide +kernel)) hp er.ca (pv 0)) pe_str (nomark _)) pe_non (pe_pf er.xf (er.no _ (by decide +kernel)) hp er.ca (pv 0))))))), ?_⟩
    have ha := er.at_
    unfold otherF at q
    refine ⟨_, rfl, fs, _, rfl, ha, lc, rfl, _, rfl, ?_⟩
    cases h1 : decide (V.str code = V.str "InvalidFact") with
    | true =>
      rw [h1] at q
      obtain ⟨v, lv, k⟩ := unT q
      exact iteT ⟨_, rfl, fs, v, rfl, ha, lv, k⟩
    | false =>
      rw [h1] at q
      have q := unF q
      refine iteF ⟨_, rfl, fs, _, rfl, ha, lc, rfl, _, rfl, ?_⟩
      cases h2 : decide (V.str code = V.str "InvalidRow") with
      | true =>
        rw [h2] at q
        obtain ⟨v, lv, k⟩ := unT q
        exact iteT ⟨_, rfl, fs, v, rfl, ha, lv, k⟩
      | false =>
        rw [h2] at q
        have q := unF q
        refine iteF ⟨_, rfl, fs, _, rfl, ha, lc, rfl, _, rfl, ?_⟩
        cases h3 : decide (V.str code = V.str "InvalidPage") with
        | true =>
          rw [h3] at q
          obtain ⟨v, lv, k⟩ := unT q
          exact iteT ⟨_, rfl, fs, v, rfl, ha, lv, k⟩
        | false =>
          rw [h3] at q
          have q := unF q
          refine iteF ⟨_, rfl, fs, _, rfl, ha, lc, rfl, _, rfl, ?_⟩
          cases h4 : decide (V.str code = V.str "UnlikeWorlds") with
          | true =>
            rw [h4] at q
            exact iteT (unT q)
          | false =>
            rw [h4] at q
            obtain ⟨v, lv, k⟩ := unF q
            exact iteF ⟨_, rfl, fs, v, rfl, ha, lv, k⟩
theorem scField : FnScope ["_law_e"] ["_law_e"] (defScope sField) := ⟨rfl, rfl, rfl, by decide +kernel, rfl, by decide +kernel, by decide +kernel⟩
theorem ok_field {f fO : Addr} {fd fdO : FuncData} (F : Fun K "_law_field" "_law_field" sField f fd) (D : Dn K mg "_law_other_field" fO) (G : FnQ P w K mg base 1 fO fdO ["_law_e"] (spOtherF K)) (bO : Binds K fdO ["_law_e"] []) : FnQ P w K mg base 2 f fd ["_law_e"] (spFieldE K) := by
  refine Ux.Fun.okQ F scField (fun p vs H Q E h => ?_) (fun cdv A outer s H vs Q E p hr h => ?_)
  · obtain ⟨_, _, _, _, rfl, _⟩ := h
    rfl
  · obtain ⟨C, dd, fs, code, rfl, er, lc, q⟩ := h
    have hp : p ∈ (L2H.cxH CX0 P w K mg base ["_law_e"] "_law_field" (defScope sField) f cdv A outer s H E p).pn := List.mem_singleton.mpr rfl
    refine ⟨_, pss_cons (ps_if (pt_cmpR op_in_seq (pe_pf er.xf (er.no _ (by decide +kernel)) hp er.ca (pv 0)) (pe_tup (pa_cons pe_str (pa_cons pe_str pa_nil))) (by rfl)) (pss_one (ps_ret (pe_pf er.xf (er.no _ (by decide +kernel)) hp er.ca (pv 0)))) pss_nil)
      (pss_cons (ps_if (pt_cmpR op_in_seq (pe_pf er.xf (er.no _ (by decide +kernel)) hp er.ca (pv 0)) (pe_tup (pa_cons pe_str (pa_cons pe_str (pa_cons pe_str pa_nil)))) (by rfl)) (pss_one (ps_ret (pe_pf er.xf (er.no _ (by decide +kernel)) hp er.ca (pv 0)))) pss_nil)
      (pss_cons (ps_if (pt_cmpR op_in_seq (pe_pf er.xf (er.no _ (by decide +kernel)) hp er.ca (pv 0)) (pe_tup (pa_cons pe_str (pa_cons pe_str (pa_cons pe_str pa_nil)))) (by rfl)) (pss_one (ps_ret (pe_pf er.xf (er.no _ (by decide +kernel)) hp er.ca (pv 0)))) pss_nil)
      (pss_cons (ps_if (pt_cmpR op_eq (pe_pf er.xf (er.no _ (by decide +kernel)) hp er.ca (pv 0)) pe_str (nomark _)) (pss_one (ps_ret (pe_tup (pa_cons (pe_pf er.xf (er.no _ (by decide +kernel)) hp er.ca (pv 0)) (pa_cons (pe_pf er.xf (er.no _ (by decide +kernel)) hp er.ca (pv 0)) pa_nil))))) pss_nil)
      (pss_one (ps_ret (pe_callQ G hr hp (by rfl) D.gl D.kp bO (pa_cons (pv 0) pa_nil))))))), ?_⟩
    have ha := er.at_
    unfold fieldF at q
    refine ⟨_, rfl, fs, _, rfl, ha, lc, (by show 2 ≤ sizeLine; decide), fun t1 n1 => ?_⟩
    have s1 := same_upd' (o := .tup [V.str "InvalidName", .str "InvalidNumber"]) n1
    refine ⟨t1, _, rfl, .inr (.of upd_same), rfl, rfl, _, rfl, ?_⟩
    show if inV (.str code) [.str "InvalidName", .str "InvalidNumber"] = true then _ else _
    cases h1 : inV (.str code) [.str "InvalidName", .str "InvalidNumber"] with
    | true =>
      rw [h1] at q
      obtain ⟨v, lv, k⟩ := unT q
      exact iteT ⟨_, rfl, fs, v, rfl, s1 _ _ ha, lv, k _ s1⟩
    | false =>
      rw [h1] at q
      have q := unF q
      refine iteF ⟨_, rfl, fs, _, rfl, s1 _ _ ha, lc, (by show 3 ≤ sizeLine; decide), fun t2 n2 => ?_⟩
      have s2 := s1.trans (same_upd' (o := .tup [V.str "InvalidText", .str "WrongKind", .str "InvalidBlank"]) n2)
      refine ⟨t2, _, rfl, .inr (.of upd_same), rfl, rfl, _, rfl, ?_⟩
      show if inV (.str code) [.str "InvalidText", .str "WrongKind", .str "InvalidBlank"] = true then _ else _
      cases h2 : inV (.str code) [.str "InvalidText", .str "WrongKind", .str "InvalidBlank"] with
      | true =>
        rw [h2] at q
        obtain ⟨v, lv, k⟩ := unT q
        exact iteT ⟨_, rfl, fs, v, rfl, s2 _ _ ha, lv, k _ s2⟩
      | false =>
        rw [h2] at q
        have q := unF q
        refine iteF ⟨_, rfl, fs, _, rfl, s2 _ _ ha, lc, (by show 3 ≤ sizeLine; decide), fun t3 n3 => ?_⟩
        have s3 := s2.trans (same_upd' (o := .tup [V.str "NameTaken", .str "InvalidWitness", .str "UnknownName"]) n3)
        refine ⟨t3, _, rfl, .inr (.of upd_same), rfl, rfl, _, rfl, ?_⟩
        show if inV (.str code) [.str "NameTaken", .str "InvalidWitness", .str "UnknownName"] = true then _ else _
        cases h3 : inV (.str code) [.str "NameTaken", .str "InvalidWitness", .str "UnknownName"] with
        | true =>
          rw [h3] at q
          obtain ⟨v, lv, k⟩ := unT q
          exact iteT ⟨_, rfl, fs, v, rfl, s3 _ _ ha, lv, k _ s3⟩
        | false =>
          rw [h3] at q
          have q := unF q
          refine iteF ⟨_, rfl, fs, _, rfl, s3 _ _ ha, lc, rfl, _, rfl, ?_⟩
          cases h4 : decide (V.str code = V.str "TooLarge") with
          | true =>
            rw [h4] at q
            obtain ⟨v, lv, u, lu, k⟩ := unT q
            refine iteT ⟨_, rfl, fs, v, rfl, s3 _ _ ha, lv, _, rfl, fs, u, rfl, s3 _ _ ha, lu, (by show 2 ≤ sizeLine; decide), fun t4 n4 => ?_⟩
            exact k t4 _ upd_same (s3.trans (same_upd' n4))
          | false =>
            rw [h4] at q
            have q := unF q
            refine iteF ⟨_, rfl, C, dd, fs, code, rfl, er.same s3, lc, ?_⟩
            unfold otherF at q ⊢
            have mono : ∀ {f : Str}, Has fs f (fun v => ∀ H', Same H H' → Q v H') → Has fs f fun v => Q v _ := fun ⟨v, l, k⟩ => ⟨v, l, k _ s3⟩
            split at q
            · rename_i c
              rw [if_pos c]
              exact mono q
            · rename_i c
              rw [if_neg c]
              split at q
              · rename_i c
                rw [if_pos c]
                exact mono q
              · rename_i c
                rw [if_neg c]
                split at q
                · rename_i c
                  rw [if_pos c]
                  exact mono q
                · rename_i c
                  rw [if_neg c]
                  split at q
                  · rename_i c
                    rw [if_pos c]
                    exact q _ s3
                  · rename_i c
                    rw [if_neg c]
                    exact mono q
end
end K04

set_option Elab.async false
set_option linter.all false
set_option maxRecDepth 100000
set_option maxHeartbeats 4000000
namespace K04
open PySem PySem.Spec PyProof.Rows L2 Ux
/-! ### _law_why, handed a lambda -/
/-- the wish of an error: told as its code and what it has -/
def Told (K : PySem.W.Frag) (C1 C2 : Addr) (Q : VK) : XK := fun cls d H => ∃ (C dd : Addr) (fs : List (Str × V)) (code : Str), cls = .ref C ∧ d = some dd ∧ H dd = some (.xd fs) ∧ PySem.W.exmAny K cls [.ref C1, .ref C2] = some true ∧ XfC K C ∧
  (∀ f ∈ fieldNames, PySem.W.findIn K (.ref C) f = some none) ∧ fs.lookup ("code" : Str) = some (V.str code) ∧
  fieldF code fs (fun v => ∀ (t : Addr) (H' : Hp), H' t = some (.tup [.str code, v]) → Same H H' → Q (.ref t) H')
    fun v u => ∀ (t t2 : Addr) (H' : Hp), H' t2 = some (.tup [v, u]) → H' t = some (.tup [.str code, .ref t2]) → Same H H' → Q (.ref t) H'
def TTwhy (K : PySem.W.Frag) (C1 C2 : Addr) : (XK → Hp → VK → Prop) → Hp → VK → Prop := fun tl H Q =>
  tl (Told K C1 C2 Q) H fun v H' => [V.str "value", v].length ≤ sizeLine ∧ ∀ t : Addr, H' t = none → Q (.ref t) (upd H' t (.tup [.str "value", v]))
theorem Has.imp {fs : List (Str × V)} {f : Str} {q q' : V → Prop} (h : Has fs f q) (k : ∀ v, q v → q' v) : Has fs f q' := by
  obtain ⟨v, l, z⟩ := h
  exact ⟨v, l, k v z⟩
theorem ite_imp {c : Prop} [Decidable c] {A B A' B' : Prop} (h : if c then A else B) (ha : A → A') (hb : B → B') : if c then A' else B' := by
  split
  · rename_i z
    rw [if_pos z] at h
    exact ha h
  · rename_i z
    rw [if_neg z] at h
    exact hb h
theorem fieldF_imp {code : Str} {fs : List (Str × V)} {q q' : V → Prop} {t t' : V → V → Prop} (h : fieldF code fs q t) (k : ∀ v, q v → q' v) (k2 : ∀ v u, t v u → t' v u) : fieldF code fs q' t' := by
  unfold fieldF at h ⊢
  refine ite_imp h (fun z => z.imp k) fun h => ite_imp h (fun z => z.imp k) fun h => ite_imp h (fun z => z.imp k) fun h => ite_imp h (fun z => z.imp fun v z => z.imp (k2 v)) fun h => ?_
  unfold otherF at h ⊢
  exact ite_imp h (fun z => z.imp k) fun h => ite_imp h (fun z => z.imp k) fun h => ite_imp h (fun z => z.imp k) fun h => ite_imp h (k _) fun z => z.imp k
/-- the suite's reading -/
def tsWhy (K : PySem.W.Frag) (a : Addr) (cls : Value) (d : Option Addr) : TS := fun D σ H => ∃ C dd : Addr, cls = .ref C ∧ d = some dd ∧ XfC K C ∧ (∀ f ∈ fieldNames, PySem.W.findIn K (.ref C) f = some none) ∧
  ∀ oe : Obj, Caught (a, oe) C dd → tRet (tTup (tCons (tPf a dd "code" (tVar 1)) (tCons (tCallQ (a, oe) (spFieldE K) (tCons (tVar 1) tNil)) tNil))) D σ H
theorem scWhy : FnScope ["_law_ask", "_law_e"] ["_law_ask"] (defScope sWhy) := ⟨rfl, rfl, rfl, by decide +kernel, rfl, by decide +kernel, by decide +kernel⟩
section
variable {X : Cx} {C1 C2 fF g : Addr} {fdF : FuncData} {q : Str} {cdg : Value}
theorem why_gives (hr : Room 3 X.A) (D : Dn X.K X.mg "_law_field" fF) (G : FnQ X.prog X.w X.K X.mg X.base 2 fF fdF ["_law_e"] (spFieldE X.K)) (bF : Binds X.K fdF ["_law_e"] []) (m1 : X.mg "SlopeError" = some (.ref C1)) (m2 : X.mg "Missing" = some (.ref C2)) :
    LamX.GivesTo X ["_law_ask", "_law_e"] "_law_why" (defScope sWhy) g cdg (defBody sWhy) "_law_ask" q (TTwhy X.K C1 C2) := by
  intro f c' s H Q tl act hc h
  have room : L2H.RoomH 2 (cxOf C8.CX0 X.prog X.w X.K X.mg X.base ["_law_ask", "_law_e"] "_law_why" (defScope sWhy) g cdg X.A X.stack s H C8.E0).A := (L2H.roomH_of hr).deeper _
  refine ⟨_, pss_one (ps_try_as2 (X := (cxOf C8.CX0 X.prog X.w X.K X.mg X.base ["_law_ask", "_law_e"] "_law_why" (defScope sWhy) g cdg X.A X.stack s H C8.E0).nox) (i := 1) (C1 := C1) (C2 := C2) (ts := tsWhy X.K)
      (tb := fun W D σ H => ∃ Ech : XK, (∀ cls d σ' H', Ech cls d H' → W cls d σ' H') ∧ σ[0]? = some (some (.ref f)) ∧ H c' = some (LamX.CodeO c' q) ∧ tl Ech H fun v H' => [V.str "value", v].length ≤ sizeLine ∧ ∀ t, H' t = none → D.rt (.ref t) (upd H' t (.tup [.str "value", v])))
      rfl rfl scWhy.nd rfl rfl rfl rfl m1 m2 (by decide +kernel) (by decide +kernel) (fun W pn xe tk _ => ?_) (fun a oe cls d pn hz hf => ?_)), ?_⟩
  · refine ⟨fun pins s' σ H' D I h' => ?_⟩
    obtain ⟨Ech, hW, h1, h2, h3⟩ := h'
    exact (pss_one (ps_ret (pe_tup (pa_cons pe_str (pa_cons (act W pn xe Ech _ _ tk hW) pa_nil))))).run pins s' σ H' D I ⟨h1, h2, h3⟩
  · refine ⟨fun pins s' σ H' D' I h' => ?_⟩
    obtain ⟨C, dd, rfl, rfl, xf, no, k⟩ := h'
    have hp : (a, oe) ∈ ((cxOf C8.CX0 X.prog X.w X.K X.mg X.base ["_law_ask", "_law_e"] "_law_why" (defScope sWhy) g cdg X.A X.stack s H C8.E0).nox.suite a ((a, oe) :: pn)).pn := List.mem_cons_self
    have room2 : L2H.RoomH 2 ((cxOf C8.CX0 X.prog X.w X.K X.mg X.base ["_law_ask", "_law_e"] "_law_why" (defScope sWhy) g cdg X.A X.stack s H C8.E0).nox.suite a ((a, oe) :: pn)).A := ⟨room.dp, room.un⟩
    refine PSs.run (X := (cxOf C8.CX0 X.prog X.w X.K X.mg X.base ["_law_ask", "_law_e"] "_law_why" (defScope sWhy) g cdg X.A X.stack s H C8.E0).nox.suite a ((a, oe) :: pn)) (t := tRet (tTup (tCons (tPf a dd "code" (tVar 1)) (tCons (tCallQ (a, oe) (spFieldE X.K) (tCons (tVar 1) tNil)) tNil)))) ?_ pins s' σ H' D' I (k oe ⟨hz, hf⟩)
    exact pss_one (ps_ret (pe_tup (pa_cons (pe_pf (p := (a, oe)) xf (no _ (by decide +kernel)) hp ⟨hz, hf⟩ (pv 1)) (pa_cons (pe_callQ (p := (a, oe)) G room2 hp (by rfl) D.gl D.kp bF (pa_cons (pv 1) pa_nil)) pa_nil))))
  · refine ⟨Told X.K C1 C2 Q, fun cls d σ' H' t => ?_, rfl, hc, h⟩
    obtain ⟨C, dd, fs, code, rfl, rfl, hdd, ex, xf, no, lc, ff⟩ := t
    refine ⟨ex, fun a na len => ⟨C, dd, rfl, rfl, xf, no, fun oe ca => ?_⟩⟩
    have got : (σ'.set 1 (some (V.ref a)))[1]? = some (some (V.ref a)) := List.getElem?_set_self (by rw [len]; show 1 < 2; decide)
    refine ⟨.ref a, got, fs, _, rfl, hdd, lc, .ref a, got, C, dd, fs, code, rfl, ⟨ca, xf, no, hdd⟩, lc, fieldF_imp ff (fun v hv H2 s2 => ?_) (fun v u hv t2 H2 h2 s2 => ?_)⟩
    · exact ⟨(by show 2 ≤ sizeLine; decide), fun t nt => hv t _ upd_same (s2.trans (same_upd' nt))⟩
    · exact ⟨(by show 2 ≤ sizeLine; decide), fun t nt => hv t t2 _ ((upd_ne (ne_of_none h2 nt)).trans h2) upd_same (s2.trans (same_upd' nt))⟩
end
end K04

set_option Elab.async false
set_option linter.all false
set_option maxRecDepth 100000
set_option maxHeartbeats 4000000
namespace K04
open PySem PySem.Spec PyProof.Rows L2 Ux
theorem fit {n m : Nat} (h : n ≤ m) (k : m ≤ 100000) : n ≤ sizeLine := by
  rw [sizeLine_eq]
  omega
abbrev sShown : Stmt := top 3
/-- the values that the law hands in -/
inductive Adm (H : Hp) : V → Prop where
  | non : Adm H .non
  | yes : Adm H (.bl true)
  | int {i : Int} (h : i.natAbs < 10 ^ 10) : Adm H (.int i)
  | str {x : Str} (h : (reprText x).length ≤ 1000) : Adm H (.str x)
  | tup {a : Addr} {xs : List V} (h : H a = some (.tup xs)) : Adm H (.ref a)
  | lst {a : Addr} {xs : List V} (h : H a = some (.lst xs)) : Adm H (.ref a)
def spShown : Sp := fun vs H Q _ => ∃ v, vs = [v] ∧ Adm H v ∧ ∀ z : Str, z.length ≤ 1000 → Q (.str z) H
theorem log2_small {i : Int} (h : i.natAbs < 10 ^ 10) : i.natAbs.log2 < 1920 := by
  by_cases z : i.natAbs = 0
  · rw [z]
    decide
  · have q := Nat.log2_self_le z
    have : i.natAbs.log2 < 40 := by
      refine Nat.lt_of_not_le fun c => ?_
      have q2 : 2 ^ 40 ≤ 2 ^ i.natAbs.log2 := Nat.pow_le_pow_right (by decide) c
      have q3 : (10 : Nat) ^ 10 < 2 ^ 40 := by decide
      omega
    omega
theorem text_small {i : Int} (h : i.natAbs < 10 ^ 10) : (toString i : Str).length ≤ 1000 := by
  show (Str.ofString (toString i)).length ≤ 1000
  have q := int_text_length_le10 (k := 10) (by decide) h
  rw [PySem.ofString_length]
  omega
section
variable {P : Program} {w : World} {K : PySem.W.Frag} {mg : Str → Option Value} {base : Heap}
theorem scShown : FnScope ["value"] ["value"] (defScope sShown) := ⟨rfl, rfl, rfl, by decide +kernel, rfl, by decide +kernel, by decide +kernel⟩
theorem ok_shown {f : Addr} {fd : FuncData} (F : Fun K "shown" "shown" sShown f fd) (T : Bn mg) : FnOk P w K mg base CX0 1 f fd ["value"] spShown := by
  refine F.ok scShown (fun vs H Q E h => ?_) (fun cdv A outer s H vs Q E hr h => ?_)
  · obtain ⟨v, rfl, _⟩ := h
    rfl
  · obtain ⟨v, rfl, adm, k⟩ := h
    refine ⟨_, pss_cons (ps_if (pt_val (pe_callB call_isi (by rfl) T.isin (by decide +kernel) (pa_cons (pv 0) (pa_cons (pe_bltn (v := .ty "str") (by rfl) T.tstr (by decide +kernel) rfl) pa_nil))))
        (pss_one (ps_ret (pe_callB call_reprS (by rfl) T.frepr (by decide +kernel) (pa_cons (pv 0) pa_nil)))) pss_nil)
      (pss_cons (ps_if (PW.pt (pw_and (pt_val (pe_callB call_isi (by rfl) T.isin (by decide +kernel) (pa_cons (pv 0) (pa_cons (pe_bltn (v := .ty "int") (by rfl) T.tint (by decide +kernel) rfl) pa_nil))))
          (pw_and1 (pt_cmpR op_lt (pe_callB call_absT (by rfl) T.fabs (by decide +kernel) (pa_cons (pv 0) pa_nil)) (pe_op op_pow pe_int pe_int) (nomark _)))))
        (pss_one (ps_ret (pe_callTy call_strT (by rfl) T.tstr (by decide +kernel) (pa_cons (pv 0) pa_nil)))) pss_nil)
      (pss_one (ps_ret pe_str))), ?_⟩
    cases adm with
    | non =>
      refine ⟨_, rfl, _, _, _, _, false, rfl, .ty "str", .base .non, kit_ty (by decide +kernel), _, rfl, ?_⟩
      refine iteF ?_
      refine ⟨_, rfl, _, _, _, _, false, rfl, .ty "int", .base .non, kit_ty (by decide +kernel), _, rfl, ?_⟩
      refine iteF (iteF ?_)
      exact k _ (by decide)
    | yes =>
      refine ⟨_, rfl, _, _, _, _, false, rfl, .ty "str", .base (.bl _), kit_ty (by decide +kernel), _, rfl, ?_⟩
      refine iteF ?_
      refine ⟨_, rfl, _, _, _, _, true, rfl, .ty "int", .base (.bl _), kit_ty (by decide +kernel), _, rfl, ?_⟩
      refine iteT ⟨_, rfl, .inr ⟨rfl, _, _, rfl, rfl, ⟨by decide, by decide, by decide⟩, _, _, rfl, rfl, _, rfl, ?_⟩⟩
      refine iteT ⟨_, rfl, .inr ⟨rfl, ?_⟩⟩
      exact k _ (by decide)
    | @int i hi =>
      refine ⟨_, rfl, _, _, _, _, false, rfl, .ty "str", .base (.int _), kit_ty (by decide +kernel), _, rfl, ?_⟩
      refine iteF ?_
      refine ⟨_, rfl, _, _, _, _, true, rfl, .ty "int", .base (.int _), kit_ty (by decide +kernel), _, rfl, ?_⟩
      refine iteT ⟨_, rfl, .inl ⟨_, rfl, _, _, rfl, rfl, ⟨by decide, by decide, by decide⟩, _, _, rfl, rfl, _, rfl, ?_⟩⟩
      have lt : (if i < 0 then -i else i) < 10 ^ Int.toNat 30 := by
        have e : ((10 : Int) ^ Int.toNat 30) = 1000000000000000000000000000000 := by decide +kernel
        have h10 : (10 : Nat) ^ 10 = 10000000000 := by decide
        rw [e]
        rw [h10] at hi
        split <;> omega
      rw [decide_eq_true lt]
      refine iteT ⟨_, rfl, .inl ⟨_, rfl, log2_small hi, ?_⟩⟩
      exact k _ (text_small hi)
    | @str x hx =>
      refine ⟨_, rfl, _, _, _, _, true, rfl, .ty "str", .base (.str _), kit_ty (by decide +kernel), _, rfl, ?_⟩
      refine iteT ⟨_, rfl, _, rfl, ?_, ?_⟩
      · rw [sizeLine_eq]
        omega
      · exact k _ hx
    | tup ha =>
      refine ⟨_, rfl, _, _, _, _, false, rfl, .ty "str", .base (.tup ha), kit_ty (by decide +kernel), _, rfl, ?_⟩
      refine iteF ?_
      refine ⟨_, rfl, _, _, _, _, false, rfl, .ty "int", .base (.tup ha), kit_ty (by decide +kernel), _, rfl, ?_⟩
      refine iteF (iteF ?_)
      exact k _ (by decide)
    | lst ha =>
      refine ⟨_, rfl, _, _, _, _, false, rfl, .ty "str", .base (.lst ha), kit_ty (by decide +kernel), _, rfl, ?_⟩
      refine iteF ?_
      refine ⟨_, rfl, _, _, _, _, false, rfl, .ty "int", .base (.lst ha), kit_ty (by decide +kernel), _, rfl, ?_⟩
      refine iteF (iteF ?_)
      exact k _ (by decide)
end
theorem e00 : Str.empty.length ≤ 0 := Nat.le_refl _
theorem app_le {x y : Str} {m n : Nat} (h : x.length ≤ m) (k : y.length ≤ n) : (x ++ y).length ≤ m + n := by
  rw [PySem.Str.length_append]
  omega
/-- a base of error classes, its __init__ read off it -/
structure Bs (K : PySem.W.Frag) (mg : Str → Option Value) (x : Str) (initId : String) (CB : Addr) : Prop where
  gl : mg x = some (.ref CB)
  sg : PySem.W.specialIn K (.ref CB) "__getattribute__" = some (some (.builtin "type.__getattribute__"))
  rd : PySem.W.readsIn K CB (.type "type") = true
  vV : PySem.W.findCls K (.ref CB) (.type "type") "__init__" = some (.val (.builtin initId))
  vh : PySem.W.handedIn (.builtin initId) = true
abbrev sI_InvalidText : Stmt := inClass (top 7) 0
/-- InvalidText.__init__ -/
def spI_InvalidText (K : PySem.W.Frag) : Sp := fun vs H Q _ => ∃ (a C : Addr) (v1 : V), vs = [.ref a, v1] ∧ EcI K "ValueError.__init__" C ∧ (PySem.W.findIn K (.ref C) "code" = some none ∧ PySem.W.findIn K (.ref C) "at" = some none) ∧ H a = some (exo a C none) ∧ Adm H v1 ∧
  ∀ (d : Addr) (H' : Hp), H d = none → d ≠ a → H' a = some (exo a C (some d)) → H' d = some (exd d [("at", v1), ("code", .str "InvalidText")]) → But a H H' → Q .non H'
section
variable {P : Program} {w : World} {K : PySem.W.Frag} {mg : Str → Option Value} {base : Heap}
theorem scI_InvalidText : FnScope ["self", "at"] ["self", "at"] (defScope sI_InvalidText) := ⟨rfl, rfl, rfl, by decide +kernel, rfl, by decide +kernel, by decide +kernel⟩
theorem okI_InvalidText {f CB fS : Addr} {fd fdS : FuncData} (F : Fun K "__init__" "InvalidText.__init__" sI_InvalidText f fd) (W : Bs K mg "SlopeError" "ValueError.__init__" CB) (D : Dn K mg "shown" fS) (G : FnOk P w K mg base CX0 1 fS fdS ["value"] spShown) (bS : Binds K fdS ["value"] []) :
    FnOk P w K mg base CX0 2 f fd ["self", "at"] (spI_InvalidText K) := by
  refine F.ok scI_InvalidText (fun vs H Q E h => ?_) (fun cdv A outer s H vs Q E hr h => ?_)
  · obtain ⟨a, C, v1, rfl, _⟩ := h
    rfl
  · obtain ⟨a, C, v1, rfl, ec, ⟨n0, n1⟩, ea, ad1, k⟩ := h
    refine ⟨_, pss_cons (ps_expr (pe_bi (initId := "ValueError.__init__") (by rfl) W.gl W.sg W.rd W.vV W.vh (pa_cons (pv 0) (pa_cons (pe_joined (PJ.cons pe_str (PJ.cons (pe_fmt (pe_call G hr (by rfl) D.gl D.kp bS .nil pass0 (pa_cons (pv 1) pa_nil))) PJ.nil))) pa_nil)))) (pss_cons (ps_est (pv 0) pe_str) (pss_one (ps_est (pv 0) (pv 1)))), ?_⟩
    have ea2 : EcA K C := ⟨_, ec⟩
    refine ⟨_, rfl, _, rfl, fit (app_le e00 (show (Str.ofString "cannot be read at place ").length ≤ 200 by decide)) (by decide), _, rfl, v1, rfl, ad1, fun z1 hz1 => .inl ⟨z1, rfl, fit hz1 (by decide), z1, rfl, fit (app_le (app_le e00 (show (Str.ofString "cannot be read at place ").length ≤ 200 by decide)) hz1) (by decide), a, C, _, rfl, (by show 1 ≤ 1000; decide), ec, ea, ?_⟩⟩
    refine ⟨_, rfl, a, C, rfl, ea2, n0, .inl ⟨ea, fun d hd nd => ?_⟩⟩
    have xa : (upd (upd H d (exd d [("code", V.str "InvalidText")])) a (exo a C (some d))) a = some (exo a C (some d)) := upd_same
    have xd0 : (upd (upd H d (exd d [("code", V.str "InvalidText")])) a (exo a C (some d))) d = some (exd d [("code", V.str "InvalidText")]) := (upd_ne nd).trans upd_same
    have b0 : But a H (upd (upd H d (exd d [("code", V.str "InvalidText")])) a (exo a C (some d))) := fun x o e n => by
      rw [upd_ne n, upd_ne (ne_of_none e hd)]
      exact e
    refine ⟨_, rfl, _, rfl, a, C, rfl, ea2, n1, .inr ⟨d, _, xa, xd0, (by show 1 ≤ 900; decide), ?_⟩⟩
    replace xa : (upd (upd (upd H d (exd d [("code", V.str "InvalidText")])) a (exo a C (some d))) d (exd d (("at", v1) :: [("code", V.str "InvalidText")]))) a = some (exo a C (some d)) := (upd_ne nd.symm).trans xa
    have xd1 : (upd (upd (upd H d (exd d [("code", V.str "InvalidText")])) a (exo a C (some d))) d (exd d (("at", v1) :: [("code", V.str "InvalidText")]))) d = some (exd d (("at", v1) :: [("code", V.str "InvalidText")])) := upd_same
    have b1 : But a H (upd (upd (upd H d (exd d [("code", V.str "InvalidText")])) a (exo a C (some d))) d (exd d (("at", v1) :: [("code", V.str "InvalidText")]))) := fun x o e n => by
      rw [upd_ne (ne_of_none e hd)]
      exact b0 x o e n
    exact k d _ hd nd xa xd1 b1
end

/-- the class InvalidText, raised -/
structure IT (K : PySem.W.Frag) (mg : Str → Option Value) (C fI : Addr) : Prop where
  gl : mg "InvalidText" = some (.ref C)
  ox : OexC K C
  ec : EcI K "ValueError.__init__" C
  n0 : PySem.W.findIn K (.ref C) "code" = some none
  n1 : PySem.W.findIn K (.ref C) "at" = some none
  ini : PySem.W.findIn K (.ref C) "__init__" = some (some (.ref fI))
  ty : PySem.W.typeIn K (.ref fI) = some (.type "function")
/-- how it flies -/
def itFs : List (Str × V) := [("at", .int 0), ("code", .str "InvalidText")]
theorem del_put {H H2 : Hp} {a d : Addr} {o o' : HO} (na : H a = none) (hd : H d = none) (bu : But a (upd H a o) H2) : Same H (upd (del H2 a) d o') := fun x u e => by
  have xa := ne_of_none e na
  rw [upd_ne (ne_of_none e hd), del_ne xa]
  exact bu x u ((upd_ne xa).trans e) xa
theorem it_made {K : PySem.W.Frag} {mg : Str → Option Value} {C fI : Addr} (T : IT K mg C fI) {σ : L2.St} {H : Hp} {Q : XK} (h : ∀ d H', Same H H' → H' d = some (.xd itFs) → Q (.ref C) (some d) H') : tMkO C (spI_InvalidText K) [] (tCons (tC (.int 0)) tNil) σ H Q := by
  refine ⟨(by show 1 ≤ 1000; decide), fun a na => ⟨a, C, .int 0, rfl, T.ec, ⟨T.n0, T.n1⟩, upd_same, .int (by decide), fun d H2 hd nd ha hdd bu => ⟨rfl, d, _, ha, hdd, ?_, ?_⟩⟩⟩
  · rw [upd_ne nd] at hd
    exact hd
  · rw [upd_ne nd] at hd
    exact h d _ (del_put na hd bu) upd_same
/-! ### lowest terms -/
def cg (t b : Int) : Int := if b < 0 then -((Nat.gcd t.natAbs b.natAbs : Nat) : Int) else ((Nat.gcd t.natAbs b.natAbs : Nat) : Int)
def nT (t b : Int) : Int := t.fdiv (cg t b)
def nB (t b : Int) : Int := b.fdiv (cg t b)
def sg (b : Int) : Int := if b < 0 then -1 else 1
theorem g_pos {t b : Int} (hb : b ≠ 0) : 0 < Nat.gcd t.natAbs b.natAbs := Nat.gcd_pos_of_pos_right _ (by omega)
theorem cg_ne {t b : Int} (hb : b ≠ 0) : cg t b ≠ 0 := by
  have := g_pos (t := t) hb
  unfold cg
  split <;> omega
theorem cg_abs {t b : Int} : (cg t b).natAbs = Nat.gcd t.natAbs b.natAbs := by
  unfold cg
  split <;> omega
/-- t and b by their gcd -/
theorem parts (t b : Int) : ∃ k l : Int, t = ((Nat.gcd t.natAbs b.natAbs : Nat) : Int) * k ∧ b = ((Nat.gcd t.natAbs b.natAbs : Nat) : Int) * l := by
  have h1 : ((Nat.gcd t.natAbs b.natAbs : Nat) : Int) ∣ t := Int.ofNat_dvd_left.mpr (Nat.gcd_dvd_left _ _)
  have h2 : ((Nat.gcd t.natAbs b.natAbs : Nat) : Int) ∣ b := Int.ofNat_dvd_left.mpr (Nat.gcd_dvd_right _ _)
  obtain ⟨k, hk⟩ := h1
  obtain ⟨l, hl⟩ := h2
  exact ⟨k, l, hk, hl⟩
theorem fdiv_cg {t b x k : Int} (hb : b ≠ 0) (hx : x = ((Nat.gcd t.natAbs b.natAbs : Nat) : Int) * k) : x.fdiv (cg t b) = sg b * k := by
  have g0 := g_pos (t := t) hb
  generalize hg : ((Nat.gcd t.natAbs b.natAbs : Nat) : Int) = g at hx
  have gp : 0 < g := by omega
  have e : cg t b = sg b * g := by
    unfold cg sg
    rw [hg]
    split <;> omega
  rw [e, hx]
  unfold sg
  split
  · have e2 : g * k = (-1 * g) * (-k) := by
      rw [Int.neg_mul, Int.one_mul, Int.neg_mul_neg]
    rw [e2, Int.mul_fdiv_cancel_left _ (by omega)]
    omega
  · rw [Int.one_mul, Int.one_mul, Int.mul_fdiv_cancel_left _ (by omega)]
theorem sg_fdiv {t b x k : Int} (hb : b ≠ 0) (hx : x = ((Nat.gcd t.natAbs b.natAbs : Nat) : Int) * k) : (sg b * x).fdiv ((Nat.gcd t.natAbs b.natAbs : Nat) : Int) = sg b * k := by
  have g0 := g_pos (t := t) hb
  generalize hg : ((Nat.gcd t.natAbs b.natAbs : Nat) : Int) = g at hx
  have e : sg b * x = g * (sg b * k) := by
    rw [hx, ← Int.mul_assoc, ← Int.mul_assoc, Int.mul_comm (sg b) g]
  rw [e, Int.mul_fdiv_cancel_left _ (by omega)]
theorem law_nT {t b : Int} (hb : b ≠ 0) : (sg b * t).fdiv ((Nat.gcd t.natAbs b.natAbs : Nat) : Int) = nT t b := by
  obtain ⟨k, l, h1, h2⟩ := parts t b
  rw [sg_fdiv hb h1]
  exact (fdiv_cg hb h1).symm
theorem law_nB {t b : Int} (hb : b ≠ 0) : (sg b * b).fdiv ((Nat.gcd t.natAbs b.natAbs : Nat) : Int) = nB t b := by
  obtain ⟨k, l, h1, h2⟩ := parts t b
  rw [sg_fdiv hb h2]
  exact (fdiv_cg hb h2).symm
theorem sg_abs (b : Int) : (sg b).natAbs = 1 := by
  unfold sg
  split <;> rfl
theorem n_cop {t b : Int} (hb : b ≠ 0) : Nat.gcd (nT t b).natAbs (nB t b).natAbs = 1 := by
  obtain ⟨k, l, h1, h2⟩ := parts t b
  have e1 : nT t b = sg b * k := fdiv_cg hb h1
  have e2 : nB t b = sg b * l := fdiv_cg hb h2
  rw [e1, e2, Int.natAbs_mul, Int.natAbs_mul, sg_abs, Nat.one_mul, Nat.one_mul]
  have g0 := g_pos (t := t) hb
  have a1 : t.natAbs = Nat.gcd t.natAbs b.natAbs * k.natAbs := by
    have := congrArg Int.natAbs h1
    rw [Int.natAbs_mul] at this
    exact this
  have a2 : b.natAbs = Nat.gcd t.natAbs b.natAbs * l.natAbs := by
    have := congrArg Int.natAbs h2
    rw [Int.natAbs_mul] at this
    exact this
  have a3 := Nat.gcd_mul_left (Nat.gcd t.natAbs b.natAbs) k.natAbs l.natAbs
  rw [← a1, ← a2] at a3
  have a4 : Nat.gcd t.natAbs b.natAbs * 1 = Nat.gcd t.natAbs b.natAbs * Nat.gcd k.natAbs l.natAbs := by
    rw [Nat.mul_one]
    exact a3
  exact (Nat.eq_of_mul_eq_mul_left g0 a4).symm
theorem nB_pos {t b : Int} (hb : b ≠ 0) : 0 < nB t b := by
  obtain ⟨k, l, h1, h2⟩ := parts t b
  have e2 : nB t b = sg b * l := fdiv_cg hb h2
  rw [e2]
  have g0 := g_pos (t := t) hb
  generalize hg : ((Nat.gcd t.natAbs b.natAbs : Nat) : Int) = g at h2
  have gp : 0 < g := by omega
  unfold sg
  split
  · rename_i n
    have hl : l < 0 := by
      refine Int.not_le.mp fun c => ?_
      have := Int.mul_nonneg (Int.le_of_lt gp) c
      omega
    omega
  · rename_i n
    have hl : 0 < l := by
      refine Int.not_le.mp fun c => ?_
      have : g * l ≤ 0 := Int.mul_nonpos_of_nonneg_of_nonpos (Int.le_of_lt gp) c
      omega
    omega
theorem n_low {t b : Int} (hb : 0 < b) (hg : Nat.gcd t.natAbs b.natAbs = 1) : nT t b = t ∧ nB t b = b := by
  have e : cg t b = 1 := by
    unfold cg
    rw [hg, if_neg (by omega)]
    rfl
  unfold nT nB
  rw [e, Int.fdiv_one, Int.fdiv_one]
  exact ⟨rfl, rfl⟩
theorem n_abs {t b : Int} (hb : b ≠ 0) : (nT t b).natAbs ≤ t.natAbs ∧ (nB t b).natAbs ≤ b.natAbs := by
  obtain ⟨k, l, h1, h2⟩ := parts t b
  have e1 : nT t b = sg b * k := fdiv_cg hb h1
  have e2 : nB t b = sg b * l := fdiv_cg hb h2
  have g0 := g_pos (t := t) hb
  rw [e1, e2, Int.natAbs_mul, Int.natAbs_mul, sg_abs, Nat.one_mul, Nat.one_mul]
  have a1 : t.natAbs = Nat.gcd t.natAbs b.natAbs * k.natAbs := by
    have := congrArg Int.natAbs h1
    rw [Int.natAbs_mul] at this
    exact this
  have a2 : b.natAbs = Nat.gcd t.natAbs b.natAbs * l.natAbs := by
    have := congrArg Int.natAbs h2
    rw [Int.natAbs_mul] at this
    exact this
  constructor
  · rw [a1]
    exact Nat.le_trans (Nat.le_mul_of_pos_left _ g0) (by rw [← a1]; exact Nat.le_refl _)
  · rw [a2]
    exact Nat.le_trans (Nat.le_mul_of_pos_left _ g0) (by rw [← a2]; exact Nat.le_refl _)
theorem n_one (i : Int) : nT i 1 = i ∧ nB i 1 = 1 := n_low (by decide) (Nat.gcd_one_right _)
/-- below 2 ^ n -/
def Bd (n : Nat) (i : Int) : Prop := i.natAbs < 2 ^ n
theorem Bd.le {n m : Nat} {i : Int} (h : Bd n i) (l : n ≤ m) : Bd m i := Nat.lt_of_lt_of_le h (Nat.pow_le_pow_right (by decide) l)
theorem Bd.mul {n m : Nat} {i j : Int} (h : Bd n i) (k : Bd m j) : Bd (n + m) (i * j) := wide_lt h k
theorem Bd.add {n : Nat} {i j : Int} (h : Bd n i) (k : Bd n j) : Bd (n + 1) (i + j) := by
  unfold Bd at h k ⊢
  rw [Nat.pow_succ]
  omega
theorem Bd.neg {n : Nat} {i : Int} (h : Bd n i) : Bd n (-i) := by
  unfold Bd at h ⊢
  rw [Int.natAbs_neg]
  exact h
theorem Bd.of {n m : Nat} {i : Int} (h : i.natAbs ≤ m) (k : m < 2 ^ n) : Bd n i := Nat.lt_of_le_of_lt h k
theorem Bd.log {n : Nat} {i : Int} (h : Bd n i) (k : 0 < n) : i.natAbs.log2 < n := PySem.Flt.log2_lt_of k h
end K04

set_option Elab.async false
set_option linter.all false
set_option maxRecDepth 100000
set_option maxHeartbeats 4000000
set_option pp.maxSteps 500
namespace K04
open PySem PySem.Spec PyProof.Rows L2 Ux
abbrev sIsInt : Stmt := top 13
abbrev sDigits : Stmt := top 16
abbrev sNumeral : Stmt := top 17
abbrev sRInit : Stmt := inClass (top 20) 0
abbrev sRead : Stmt := inClass (top 20) 1
abbrev sNeg : Stmt := inClass (top 20) 9
theorem same_upd {H : Hp} {a : Addr} {o : HO} (ha : H a = none) : Same H (upd H a o) := same_upd' ha
theorem made_same {H H' : Hp} {x dx : Addr} {o1 o2 : HO} (nx : H x = none) (nd : H dx = none) (bu : But x (upd (upd H dx o1) x o2) H') : Same H H' := fun c o e => by
  have n1 := ne_of_none e nx
  refine bu c o ?_ n1
  rw [upd_ne n1, upd_ne (ne_of_none e nd)]
  exact e
/-- the class Ratio -/
structure RT (K : PySem.W.Frag) (mg : Str → Option Value) (CR : Addr) : Prop where
  cl : Cls K CR
  nT : NoAttr K CR "top"
  nB : NoAttr K CR "bottom"
  gl : mg "Ratio" = some (.ref CR)
  ha : PySem.W.findIn K (.ref CR) "__class__" = some (some (.builtin "object.__class__"))
  hn : PySem.W.specialIn K (.builtin "object.__class__") "__get__" = some (some (.builtin "getset_descriptor.__get__"))
  ht : PySem.W.takesIn K (.builtin "object.__class__") = some true
  hm : PySem.W.mroIn K CR (.type "object") = some true
  kR : PySem.W.kitOne K (.ref CR) (.ref CR) = some true
/-- the fields of a Ratio -/
def rf (t b : Int) : List (Str × V) := putF "bottom" (.int b) (putF "top" (.int t) [])
theorem ntb : ¬ (("top" : Str) = "bottom") := by decide +kernel
theorem rf_top (t b : Int) : (rf t b).lookup ("top" : Str) = some (.int t) := by
  unfold rf
  rw [lookup_putF, if_neg ntb, lookup_putF, if_pos rfl]
theorem rf_bot (t b : Int) : (rf t b).lookup ("bottom" : Str) = some (.int b) := by
  unfold rf
  rw [lookup_putF, if_pos rfl]
def RatAt (CR : Addr) (H : Hp) (a : Addr) (t b : Int) : Prop := ∃ dx, H a = some (.ins CR dx (rf t b))
theorem RatAt.same {CR : Addr} {H H' : Hp} {a : Addr} {t b : Int} (h : RatAt CR H a t b) (s : Same H H') : RatAt CR H' a t b := by
  obtain ⟨dx, h⟩ := h
  exact ⟨dx, s _ _ h⟩
theorem RatAt.ty {K : PySem.W.Frag} {mg : Str → Option Value} {CR : Addr} {H : Hp} {a : Addr} {t b : Int} (T : RT K mg CR) (h : RatAt CR H a t b) : TyX K H (.ref a) (.ref CR) := by
  obtain ⟨dx, h⟩ := h
  exact .base (.ins h T.cl T.ha T.hn T.ht T.hm)
def spIsInt (K : PySem.W.Frag) : Sp := fun vs H Q _ => ∃ (v : V) (t : Value) (b1 b2 : Bool), vs = [v] ∧ TyX K H v t ∧ PySem.W.kitOne K t (.type "int") = some b1 ∧ PySem.W.kitOne K t (.type "bool") = some b2 ∧ Q (.bl (b1 && !b2)) H
def spRInit (CR : Addr) : Sp := fun vs H Q _ => ∃ (p dx : Addr) (t b : Int), vs = [.ref p, .int t, .int b] ∧ H p = some (.ins CR dx []) ∧ b ≠ 0 ∧ Bd 8000 b ∧
  ∀ H', H' p = some (.ins CR dx (rf (nT t b) (nB t b))) → But p H H' → Q .non H'
def spUn (CR : Addr) (f : Int → Int) : Sp := fun vs H Q _ => ∃ (a : Addr) (t b : Int), vs = [.ref a] ∧ RatAt CR H a t b ∧ Bd 2000 b ∧ 0 < b ∧ ∀ (p : Addr) (H' : Hp), RatAt CR H' p (nT (f t) b) (nB (f t) b) → Same H H' → Q (.ref p) H'
theorem small1000 {n : Nat} (h : n ≤ 1000) : n < sizeLine := by
  rw [sizeLine_eq]
  omega
section
variable {P : Program} {w : World} {K : PySem.W.Frag} {mg : Str → Option Value} {base : Heap} {CR CI fI : Addr}
theorem scIsInt : FnScope ["value"] ["value"] (defScope sIsInt) := ⟨rfl, rfl, rfl, by decide +kernel, rfl, by decide +kernel, by decide +kernel⟩
theorem ok_isInt {f : Addr} {fd : FuncData} (F : Fun K "is_integer" "is_integer" sIsInt f fd) (B : Bn mg) : FnOk P w K mg base CX0 1 f fd ["value"] (spIsInt K) := by
  refine F.ok scIsInt (fun vs H Q E h => ?_) (fun cdv A outer s H vs Q E hr h => ?_)
  · obtain ⟨v, t, b1, b2, rfl, _⟩ := h
    rfl
  · obtain ⟨v, t, b1, b2, rfl, ty, k1, k2, q⟩ := h
    refine ⟨_, pss_one (ps_ret (pe_and (pe_callB call_isi (by rfl) B.isin (by decide +kernel) (pa_cons (pv 0) (pa_cons (pe_bltn (v := .ty "int") (by rfl) B.tint (by decide +kernel) rfl) pa_nil)))
      (pe_one (pe_not (pe_callB call_isi (by rfl) B.isin (by decide +kernel) (pa_cons (pv 0) (pa_cons (pe_bltn (v := .ty "bool") (by rfl) B.tbool (by decide +kernel) rfl) pa_nil))))))), ?_⟩
    refine ⟨_, rfl, _, _, _, _, b1, rfl, .ty "int", ty, k1, b1, rfl, ?_⟩
    cases b1 with
    | false => exact iteF q
    | true => exact iteT ⟨_, rfl, _, _, _, _, b2, rfl, .ty "bool", ty, k2, b2, rfl, q⟩
theorem scRInit : FnScope ["self", "top", "bottom", "common"] ["self", "top", "bottom"] (defScope sRInit) := ⟨rfl, rfl, rfl, by decide +kernel, rfl, by decide +kernel, by decide +kernel⟩
theorem ok_rinit {f fI : Addr} {fd fdI : FuncData} {dvs : List V} (F : FunD K "__init__" "Ratio.__init__" (defArgs sRInit) (defBody sRInit) (defScope sRInit) dvs [] f fd) (T : RT K mg CR) (gcd : mg "gcd" = some (.builtin "math.gcd")) (D : Dn K mg "is_integer" fI) (G : FnOk P w K mg base CX0 1 fI fdI ["value"] (spIsInt K)) (bI : Binds K fdI ["value"] []) :
    FnOk P w K mg base CX0 2 f fd ["self", "top", "bottom"] (spRInit CR) := by
  refine F.ok scRInit (fun vs H Q E h => ?_) (fun cdv A outer s H vs Q E hr h => ?_)
  · obtain ⟨p, dx, t, b, rfl, _⟩ := h
    rfl
  · obtain ⟨p, dx, t, b, rfl, hp, b0, bb, q⟩ := h
    refine ⟨_, pss_cons (ps_if (pt_not (pt_val (pe_call G hr (by rfl) D.gl D.kp bI .nil pass0 (pa_cons (pv 1) pa_nil)))) (pss_one ps_never) pss_nil)
      (pss_cons (ps_if (PW.pt (pw_or (pt_not (pt_val (pe_call G hr (by rfl) D.gl D.kp bI .nil pass0 (pa_cons (pv 2) pa_nil)))) (pw_or1 (pt_cmpR op_eq (pv 2) pe_int (nomark _))))) (pss_one ps_never) pss_nil)
      (pss_cons (ps_set (i := 3) scRInit.nd rfl (Or.inl rfl) (pe_callBfun cr_gcd (by rfl) gcd (pa_cons (pv 1) (pa_cons (pv 2) pa_nil))))
      (C8.pss_cut (ps_if (pt_cmpR op_lt (pv 2) pe_int (nomark _)) (pss_one (ps_set (i := 3) scRInit.nd rfl (Or.inl rfl) (pe_un un_neg (pv 3)))) pss_nil)
      (pss_cons (ps_fld (pv 0) (pe_op op_fdivX (pv 1) (pv 3)) rfl)
      (pss_one (ps_fld (pv 0) (pe_op op_fdivX (pv 2) (pv 3)) rfl)))))), ?_⟩
    refine ⟨_, rfl, _, _, true, false, rfl, .base (.int _), kit_ty (by decide +kernel), kit_ty (by decide +kernel), _, rfl, iteF ?_⟩
    refine ⟨_, rfl, _, _, true, false, rfl, .base (.int _), kit_ty (by decide +kernel), kit_ty (by decide +kernel), _, rfl, iteF ?_⟩
    have nb : ¬ (V.int b) = V.int 0 := fun z => b0 (V.int.inj z)
    refine ⟨_, rfl, rfl, _, rfl, ?_⟩
    rw [decide_eq_false nb]
    refine iteF ?_
    refine ⟨_, rfl, _, rfl, t, b, rfl, ?_⟩
    refine ⟨fun σ H' => σ = [some (.ref p), some (.int t), some (.int b), some (.int (cg t b))] ∧ H' = H, ?_, ?_⟩
    · refine ⟨_, rfl, _, _, rfl, rfl, _, rfl, ?_⟩
      by_cases hn : b < 0
      · rw [decide_eq_true hn]
        refine iteT ⟨_, rfl, _, rfl, ?_⟩
        unfold cg
        rw [if_pos hn]
        exact ⟨rfl, rfl⟩
      · rw [decide_eq_false hn]
        refine iteF ?_
        unfold cg
        rw [if_neg hn]
        exact ⟨rfl, rfl⟩
    · rintro σ H' ⟨rfl, rfl⟩
      have c0 := cg_ne (t := t) b0
      have c1 : (cg t b).natAbs.log2 < 9000 := by
        refine Nat.lt_of_lt_of_le (Bd.log (n := 8000) ?_ (by decide)) (by decide)
        unfold Bd
        rw [cg_abs]
        exact Nat.lt_of_le_of_lt (Nat.le_of_dvd (by omega) (Nat.gcd_dvd_right _ _)) bb
      refine ⟨_, rfl, _, rfl, _, _, rfl, rfl, ⟨c0, c1⟩, _, rfl, p, CR, dx, [], rfl, hp, T.cl, T.nT, (by show 0 < 1000; decide), ?_⟩
      refine ⟨_, rfl, _, rfl, _, _, rfl, rfl, ⟨c0, c1⟩, _, rfl, p, CR, dx, _, rfl, upd_same, T.cl, T.nB, (by show 1 < 1000; decide), ?_⟩
      exact q _ upd_same ((But.refl.upd).upd)
theorem scneg : FnScope ["self"] ["self"] (defScope sNeg) := ⟨rfl, rfl, rfl, by decide +kernel, rfl, by decide +kernel, by decide +kernel⟩
theorem ok_neg {f fi : Addr} {fd fdi : FuncData} (F : Fun K "__neg__" "Ratio.__neg__" sNeg f fd) (B : Bn mg) (T : RT K mg CR) (M : Mk K CR fi) (G : FnOk P w K mg base CX0 2 fi fdi ["self", "top", "bottom"] (spRInit CR)) (bR : Binds K fdi ["self", "top", "bottom"] []) :
    FnOk P w K mg base CX0 4 f fd ["self"] (spUn CR (fun t => -t)) := by
  refine F.ok scneg (fun vs H Q E h => ?_) (fun cdv A outer s H vs Q E hr h => ?_)
  · obtain ⟨a, t, b, rfl, _⟩ := h
    rfl
  · obtain ⟨a, t, b, rfl, ⟨da, ha⟩, B2, p1, q⟩ := h
    refine ⟨_, pss_one (ps_ret (pe_make M G hr (by rfl) T.gl bR .nil pass0 (pa_cons (pe_un un_neg (pe_fld (pv 0) rfl)) (pa_cons (pe_fld (pv 0) rfl) pa_nil)))), ?_⟩
    exact ⟨_, rfl, a, CR, _, _, _, rfl, ha, T.cl, T.nT, rf_top t b, _, rfl, _, rfl, a, CR, _, _, _, rfl, ha, T.cl, T.nB, rf_bot t b, fun x dx nx nd ne => ⟨x, dx, _, _, rfl, upd_same, by omega, B2.le (by decide), fun H' hx bu => ⟨rfl, q x H' ⟨dx, hx⟩ (made_same nx nd bu)⟩⟩⟩
end
end K04

set_option Elab.async false
set_option linter.all false
set_option maxRecDepth 100000
set_option maxHeartbeats 4000000
namespace K04
open PySem PySem.Spec PyProof.Rows L2 Ux
def digits : List Nat := ("0123456789" : Str).cps.toList
def allDig (z : Str) : Bool := (z.cps.toList.map fun c => decide (c ∈ digits)).all id
def hd1 (z : Str) : Str := ⟨#[z.cps.toList.headD 0]⟩
def digB (z : Str) : Bool := decide (1 ≤ z.length) && (decide (z.length ≤ 30) && (allDig z && (decide (V.str z = V.str "0") || !decide (V.str (hd1 z) = V.str "0"))))
def spDig : Sp := fun vs H Q _ => ∃ z : Str, vs = [.str z] ∧ z.length ≤ 1000 ∧ ∀ H', Same H H' → Q (.bl (digB z)) H'
def numB (z : Str) : Bool := if decide (V.str (Txt.partition z "/").2.1 = V.str "") = true then digB (Txt.partition z "/").1 else digB (Txt.partition z "/").1 && (digB (Txt.partition z "/").2.2 && !decide (V.str (Txt.partition z "/").2.2 = V.str "0"))
def spNum : Sp := fun vs H Q _ => ∃ z : Str, vs = [.str z] ∧ z.length ≤ 1000 ∧ (Txt.partition z "/").1.length ≤ 1000 ∧ (Txt.partition z "/").2.2.length ≤ 1000 ∧ ∀ H', Same H H' → Q (.bl (numB z)) H'
structure Dg (mg : Str → Option Value) : Prop where
  dg : ∃ t, mg "DIGITS" = some (.str "0123456789" t)
  md : ∃ t, mg "MOST_DIGITS" = some (.int 30 t)
section
variable {P : Program} {w : World} {K : PySem.W.Frag} {mg : Str → Option Value} {base : Heap}
theorem scDig : FnScope ["text", "sign"] ["text"] (defScope sDigits) := ⟨rfl, rfl, rfl, by decide +kernel, rfl, by decide +kernel, by decide +kernel⟩
theorem ok_dig {f : Addr} {fd : FuncData} (F : Fun K "is_digits" "is_digits" sDigits f fd) (B : Bn mg) (C : Dg mg) : FnOk P w K mg base CX0 1 f fd ["text"] spDig := by
  refine F.ok scDig (fun vs H Q E h => ?_) (fun cdv A outer s H vs Q E hr h => ?_)
  · obtain ⟨z, rfl, _⟩ := h
    rfl
  · obtain ⟨z, rfl, lz, q⟩ := h
    obtain ⟨t1, dg⟩ := C.dg
    obtain ⟨t2, md⟩ := C.md
    refine ⟨_, pss_cons (ps_if (pt_not (pt_chain op_le op_le pe_int (pe_callB call_len (by rfl) B.flen (by decide +kernel) (pa_cons (pv 0) pa_nil)) (pe_glob (v := .int 30) (by rfl) md ⟨_, rfl⟩))) (pss_one (ps_ret pe_bl)) pss_nil)
      (pss_cons (ps_if (pt_not (pt_val (pe_callB (cr_all rfl) (by rfl) B.fall (by decide +kernel) (pa_cons (pe_lc (own := [("sign", 1)]) (g := gName 1) rfl scDig.nd (pi_str (pv 0)) (blkOk_by (own := [("sign", 1)]) (N := ["text", "sign"]) (sc := defScope sDigits) (by decide +kernel))
          (fun _ _ _ _ _ => pg_name (i := 1) scDig.nd rfl (Or.inl rfl) (hf := Or.inr rfl)) (fun _ _ _ _ _ => pts_nil) (fun _ _ _ _ _ => pe_cmpR op_in_sign (pv 1) (pe_glob (v := .str "0123456789") (by rfl) dg ⟨_, rfl⟩) (by rfl))) pa_nil)))) (pss_one (ps_ret pe_bl)) pss_nil)
      (pss_one (ps_ret (pe_or (pe_cmpR op_eq (pv 0) pe_str (nomark _)) (pe_one (pe_cmpR op_ne (pe_ix ix_str (pv 0) pe_int (fun _ _ => rfl)) pe_str (nomark _))))))), ?_⟩
    refine ⟨_, rfl, _, _, rfl, ⟨fit lz (by decide), rfl⟩, _, _, rfl, rfl, _, rfl, ?_⟩
    unfold digB at q
    by_cases h1 : (1 : Int) ≤ ((z.length : Nat) : Int)
    · rw [decide_eq_true h1]
      rw [decide_eq_true (by omega : 1 ≤ z.length)] at q
      refine iteT ⟨_, _, rfl, rfl, _, rfl, ?_⟩
      by_cases h6 : ((z.length : Nat) : Int) ≤ 30
      · rw [decide_eq_true h6]
        rw [decide_eq_true (by omega : z.length ≤ 30)] at q
        refine iteF ?_
        refine ⟨_, rfl, z, rfl, fun D hD => ?_⟩
        refine lc_it walk_str (fun i H' => Same H H' ∧ H' D = some (.lst (((z.cps.toList.take i).map fun c => decide (c ∈ digits)).map V.bl))) ⟨same_upd hD, upd_same⟩ (fun _ _ _ _ => True.intro) ?_ ?_
        · rintro i x H2 H3 hi ⟨s2, d2⟩ ⟨rfl, c, hc, rfl⟩
          refine ⟨rfl, ?_⟩
          refine ⟨_, rfl, c, _, rfl, rfl, _, d2, ?_, fun a o e => ?_, ?_⟩
          · rw [List.length_map, List.length_map, List.length_take]
            have e0 : z.cps.toList.length = z.length := Array.length_toList
            exact small1000 (by omega)
          · rw [upd_ne (ne_of_none e hD)]
            exact s2 a o e
          · have hc' : z.cps.toList[i]? = some c := by
              rw [Array.getElem?_toList]
              exact hc
            have ht : z.cps.toList.take (i + 1) = z.cps.toList.take i ++ [c] := by
              rw [List.take_succ, hc']
              rfl
            rw [upd_same, ht, List.map_append, List.map_append]
            rfl
        · rintro H2 ⟨s2, d2⟩
          have et : z.cps.toList.take z.cps.size = z.cps.toList := by
            rw [← Array.length_toList, List.take_length]
          rw [et] at d2
          refine ⟨D, _, rfl, .of d2, ?_⟩
          have qq := q H2 s2
          cases ha : allDig z with
          | false =>
            rw [ha] at qq
            have ha' : (z.cps.toList.map fun c => decide (c ∈ digits)).all id = false := ha
            rw [ha']
            exact ⟨_, rfl, iteT qq⟩
          | true =>
            rw [ha] at qq
            have ha' : (z.cps.toList.map fun c => decide (c ∈ digits)).all id = true := ha
            rw [ha']
            refine ⟨_, rfl, iteF ⟨_, rfl, rfl, _, rfl, ?_⟩⟩
            cases h0 : decide (V.str z = V.str "0") with
            | true =>
              rw [h0] at qq
              exact iteT qq
            | false =>
              rw [h0] at qq
              have hl : 0 < z.cps.toList.length := by
                have e0 : z.cps.toList.length = z.length := Array.length_toList
                omega
              have hh : atI z.cps.toList 0 = some (z.cps.toList.headD 0) := by
                cases hz : z.cps.toList with
                | nil => rw [hz] at hl; exact absurd hl (by decide)
                | cons c r =>
                  have e1 : atI (c :: r) ((0 : Nat) : Int) = some c := atI_nat rfl
                  exact e1
              exact iteF ⟨_, rfl, _, _, _, rfl, rfl, fit lz (by decide), hh, rfl, qq⟩
      · rw [decide_eq_false h6]
        rw [decide_eq_false (by omega : ¬ z.length ≤ 30)] at q
        exact iteT (q H (Same.refl H))
    · rw [decide_eq_false h1]
      rw [decide_eq_false (by omega : ¬ 1 ≤ z.length)] at q
      refine iteF ⟨_, rfl, iteT ?_⟩
      have qq := q H (Same.refl H)
      exact qq
theorem scNum : FnScope ["text", "top", "slash", "bottom"] ["text"] (defScope sNumeral) := ⟨rfl, rfl, rfl, by decide +kernel, rfl, by decide +kernel, by decide +kernel⟩
theorem ok_num {f fD : Addr} {fd fdD : FuncData} (F : Fun K "is_numeral" "is_numeral" sNumeral f fd) (D : Dn K mg "is_digits" fD) (G : FnOk P w K mg base CX0 1 fD fdD ["text"] spDig) (bD : Binds K fdD ["text"] []) : FnOk P w K mg base CX0 2 f fd ["text"] spNum := by
  refine F.ok scNum (fun vs H Q E h => ?_) (fun cdv A outer s H vs Q E hr h => ?_)
  · obtain ⟨z, rfl, _⟩ := h
    rfl
  · obtain ⟨z, rfl, lz, l1, l3, q⟩ := h
    refine ⟨_, pss_cons (ps_asg (pe_partition (pv 0) pe_str) (pg_tup rfl (pgs_cons (pg_name (i := 1) scNum.nd rfl (Or.inl rfl)) (pgs_cons (pg_name (i := 2) scNum.nd rfl (Or.inl rfl)) (pgs_cons (pg_name (i := 3) scNum.nd rfl (Or.inl rfl)) pgs_nil)))))
      (pss_cons (ps_if (pt_cmpR op_eq (pv 2) pe_str (nomark _)) (pss_one (ps_ret (pe_call G hr (by rfl) D.gl D.kp bD .nil pass0 (pa_cons (pv 1) pa_nil)))) pss_nil)
      (pss_one (ps_ret (pe_and (pe_call G hr (by rfl) D.gl D.kp bD .nil pass0 (pa_cons (pv 1) pa_nil)) (pe_and (pe_call G hr (by rfl) D.gl D.kp bD .nil pass0 (pa_cons (pv 3) pa_nil)) (pe_one (pe_cmpR op_ne (pv 3) pe_str (nomark _)))))))), ?_⟩
    refine ⟨_, rfl, ⟨_, rfl⟩, _, _, rfl, rfl, (by decide), fit lz (by decide), fun p hp => ?_⟩
    have s1 := same_upd (o := .tup [.str (Txt.partition z "/").1, .str (Txt.partition z "/").2.1, .str (Txt.partition z "/").2.2]) hp
    refine ⟨p, _, rfl, .of upd_same, rfl, _, _, rfl, _, _, rfl, _, _, rfl, rfl, ?_⟩
    unfold numB at q
    refine ⟨_, rfl, rfl, _, rfl, ?_⟩
    cases h0 : decide (V.str (Txt.partition z "/").2.1 = V.str "") with
    | true =>
      rw [h0, if_pos rfl] at q
      exact iteT ⟨_, rfl, _, rfl, l1, fun H2 s2 => q H2 (s1.trans s2)⟩
    | false =>
      rw [h0, if_neg Bool.false_ne_true] at q
      refine iteF ⟨_, rfl, _, rfl, l1, fun H2 s2 => ⟨_, rfl, ?_⟩⟩
      cases h1 : digB (Txt.partition z "/").1 with
      | false =>
        rw [h1] at q
        exact iteF (q H2 (s1.trans s2))
      | true =>
        rw [h1] at q
        refine iteT ⟨_, rfl, _, rfl, l3, fun H3 s3 => ⟨_, rfl, ?_⟩⟩
        cases h2 : digB (Txt.partition z "/").2.2 with
        | false =>
          rw [h2] at q
          exact iteF (q H3 ((s1.trans s2).trans s3))
        | true =>
          rw [h2] at q
          exact iteT ⟨_, rfl, rfl, q H3 ((s1.trans s2).trans s3)⟩
end
end K04

set_option Elab.async false
set_option linter.all false
set_option maxRecDepth 100000
set_option maxHeartbeats 4000000
set_option pp.maxSteps 500
namespace K04
open PySem PySem.Spec PyProof.Rows L2 Ux TL
/-! ### texts of numbers -/
def nml (z : Str) : Str := Txt.removeprefix z "-"
def pTop (z : Str) : Str := (Txt.partition (nml z) "/").1
def pSla (z : Str) : Str := (Txt.partition (nml z) "/").2.1
def pBot (z : Str) : Str := (Txt.partition (nml z) "/").2.2
def numT (n : Nat) : Str := Str.ofString (toString ((n : Nat) : Int))
theorem tl_numT (n : Nat) : tl (numT n) = numL n := tl_num n
theorem tl_minus : tl ("-" : Str) = [45] := by decide +kernel
theorem tl_slash : tl ("/" : Str) = [47] := by decide +kernel
theorem tl_zero : tl ("0" : Str) = [48] := by decide +kernel
theorem tl_empty : tl ("" : Str) = [] := by decide +kernel
theorem rp_minus (x : Str) : Txt.removeprefix ("-" ++ x) "-" = x := by
  have h1 : tl ("-" ++ x) = 45 :: tl x := by rw [tl_append, tl_minus]; rfl
  have l1 : ("-" : Str).length = 1 := by decide +kernel
  have l2 : ("-" ++ x : Str).length = (tl x).length + 1 := by rw [len_tl, h1]; rfl
  have hs : PySem.Builtin.Str.subAt ("-" ++ x) "-" 0 = true := by
    rw [PySem.StrLaws.subAt_eq]
    show (((tl ("-" ++ x)).drop 0).take ("-" : Str).length == tl ("-" : Str)) = true
    rw [h1, tl_minus]
    rfl
  rw [PySem.StrLaws.removeprefix_eq, hs, l1, l2, if_pos (by rw [decide_eq_true (by omega : 0 + 1 ≤ (tl x).length + 1)]; rfl)]
  refine ext_tl ?_
  rw [tl_mk]
  show ((tl ("-" ++ x)).drop 1).take ((tl x).length + 1 - 1) = tl x
  rw [h1]
  show (tl x).take (tl x).length = tl x
  exact List.take_length
theorem rp_none {x : Str} (h : (tl x).headD 0 ≠ 45) : Txt.removeprefix x "-" = x := by
  have hs : PySem.Builtin.Str.subAt x "-" 0 = false := by
    rw [PySem.StrLaws.subAt_eq]
    show (((tl x).drop 0).take ("-" : Str).length == tl ("-" : Str)) = false
    rw [tl_minus]
    cases e : tl x with
    | nil => rfl
    | cons c r =>
      rw [e] at h
      have h' : c ≠ 45 := h
      show ([c] == [45]) = false
      simp [h']
  rw [PySem.StrLaws.removeprefix_eq, hs, Bool.and_false, if_neg Bool.false_ne_true]
theorem numL_head : ∀ n : Nat, 0 < n → (numL n).headD 0 ≠ 48
  | n, h => by
    by_cases q : n < 10
    · rw [numL_lt q]
      show 48 + n ≠ 48
      omega
    · rw [numL_step (by omega)]
      have ih := numL_head (n / 10) (by omega)
      cases e : numL (n / 10) with
      | nil => exact absurd e (numL_ne _)
      | cons c r =>
        rw [e] at ih
        exact ih
theorem dig_mem {c : Nat} (h : 48 ≤ c ∧ c ≤ 57) : c ∈ digits := by
  have e : digits = [48, 49, 50, 51, 52, 53, 54, 55, 56, 57] := by decide +kernel
  rw [e]
  simp only [List.mem_cons, List.mem_nil_iff, or_false]
  omega
theorem mem_dig {c : Nat} (h : c ∈ digits) : 48 ≤ c ∧ c ≤ 57 := by
  have e : digits = [48, 49, 50, 51, 52, 53, 54, 55, 56, 57] := by decide +kernel
  rw [e] at h
  simp only [List.mem_cons, List.mem_nil_iff, or_false] at h
  omega
theorem allDig_iff (z : Str) : allDig z = true ↔ ∀ c ∈ tl z, 48 ≤ c ∧ c ≤ 57 := by
  unfold allDig
  rw [List.all_eq_true]
  constructor
  · intro h c hc
    exact mem_dig (of_decide_eq_true (h _ (List.mem_map.mpr ⟨c, hc, rfl⟩)))
  · intro h x hx
    obtain ⟨c, hc, rfl⟩ := List.mem_map.mp hx
    exact decide_eq_true (dig_mem (h c hc))
theorem hd1_zero (z : Str) : decide (V.str (hd1 z) = V.str "0") = decide ((tl z).headD 0 = 48) := by
  have e : ("0" : Str) = ⟨#[48]⟩ := by decide +kernel
  by_cases h : (tl z).headD 0 = 48
  · have h' : z.cps.toList.headD 0 = 48 := h
    rw [decide_eq_true h, decide_eq_true]
    unfold hd1
    rw [h', e]
  · rw [decide_eq_false h, decide_eq_false]
    intro q
    have q1 : hd1 z = "0" := V.str.inj q
    rw [e] at q1
    unfold hd1 at q1
    have q2 := congrArg Str.cps q1
    have q3 := congrArg Array.toList q2
    have q4 : [z.cps.toList.headD 0] = [48] := q3
    exact h (List.cons.inj q4).1
theorem isZero (z : Str) : decide (V.str z = V.str "0") = decide (tl z = [48]) := by
  by_cases h : tl z = [48]
  · rw [decide_eq_true h, decide_eq_true]
    rw [ext_tl (h.trans tl_zero.symm)]
  · rw [decide_eq_false h, decide_eq_false]
    intro q
    rw [V.str.inj q] at h
    exact h tl_zero
theorem digB_num {n : Nat} (h : n < 10 ^ 30) : digB (numT n) = true := by
  have l1 := numL_ne n
  have l2 := numL_len (k := 30) (by decide) h
  have e := len_tl (numT n)
  rw [tl_numT] at e
  have l3 : 0 < (numL n).length := List.length_pos_iff.mpr l1
  unfold digB
  rw [decide_eq_true (by omega : 1 ≤ (numT n).length), decide_eq_true (by omega : (numT n).length ≤ 30), (allDig_iff _).mpr (by rw [tl_numT]; exact numL_digits n), isZero, hd1_zero, tl_numT]
  by_cases z : n = 0
  · subst z
    decide +kernel
  · rw [decide_eq_false (numL_head n (by omega))]
    simp
/-- a sign that is no digit -/
theorem digB_bad {z : Str} {c : Nat} (hc : c ∈ tl z) (h : c < 48 ∨ 57 < c) : digB z = false := by
  have e : allDig z = false := by
    cases q : allDig z with
    | false => rfl
    | true =>
      have := (allDig_iff z).mp q c hc
      omega
  unfold digB
  rw [e]
  simp
/-- a leading zero -/
theorem digB_zero {x : Str} (h : tl x ≠ []) : digB ("0" ++ x) = false := by
  have e : tl ("0" ++ x) = 48 :: tl x := by rw [tl_append, tl_zero]; rfl
  have n : ¬ tl ("0" ++ x) = [48] := by
    rw [e]
    intro q
    exact h (List.cons.inj q).2
  unfold digB
  rw [isZero, decide_eq_false n, hd1_zero, e]
  simp
theorem digB_empty : digB "" = false := by decide +kernel
/-- what a text reads as -/
structure Rd (z : Str) (t b : Int) : Prop where
  l0 : z.length ≤ 1000
  l1 : (nml z).length ≤ 1000
  l2 : (pTop z).length ≤ 600
  l3 : (pBot z).length ≤ 600
  nb : numB (nml z) = true
  rd : ∃ a c : Int, PySem.intText? (pTop z) = some a ∧ (if decide (V.str (pSla z) = V.str "/") = true then PySem.intText? (pBot z) = some c else c = 1) ∧ 0 < c ∧ Bd 2000 c ∧ b = nB a c ∧ t = if decide (V.str (nml z) = V.str z) = true then nT a c else -(nT a c)
structure No (z : Str) : Prop where
  l0 : z.length ≤ 1000
  l1 : (nml z).length ≤ 1000
  l2 : (pTop z).length ≤ 600
  l3 : (pBot z).length ≤ 600
  nb : numB (nml z) = false
def ngT (neg : Bool) : Str := if neg = true then "-" else ""
def ngI (neg : Bool) (i : Int) : Int := if neg = true then -i else i
theorem n_neg (t b : Int) (hb : b ≠ 0) : nT (-t) b = -(nT t b) ∧ nB (-t) b = nB t b := by
  have e : cg (-t) b = cg t b := by
    unfold cg
    rw [Int.natAbs_neg]
  obtain ⟨k, l, h1, h2⟩ := parts t b
  have h3 : -t = ((Nat.gcd t.natAbs b.natAbs : Nat) : Int) * (-k) := by
    rw [Int.mul_neg, ← h1]
  constructor
  · unfold nT
    rw [e, fdiv_cg hb h3, fdiv_cg hb h1, Int.mul_neg]
  · unfold nB
    rw [e]
theorem nml_ng {neg : Bool} {x : Str} (h : (tl x).headD 0 ≠ 45) : nml (ngT neg ++ x) = x ∧ decide (V.str x = V.str (ngT neg ++ x)) = !neg := by
  cases neg with
  | true =>
    refine ⟨rp_minus x, ?_⟩
    refine decide_eq_false fun q => ?_
    have e := congrArg List.length (congrArg tl (V.str.inj q))
    have e2 : tl (ngT true ++ x) = 45 :: tl x := by rw [tl_append]; show tl ("-" : Str) ++ _ = _; rw [tl_minus]; rfl
    rw [e2, List.length_cons] at e
    omega
  | false =>
    have e : ngT false ++ x = x := ext_tl (by rw [tl_append]; show tl ("" : Str) ++ _ = _; rw [tl_empty]; rfl)
    rw [e]
    exact ⟨rp_none h, decide_eq_true rfl⟩
theorem numT_head {n : Nat} : (tl (numT n)).headD 0 ≠ 45 := by
  rw [tl_numT]
  cases e : numL n with
  | nil => decide
  | cons c r =>
    have := numL_digits n c (by rw [e]; exact List.mem_cons_self ..)
    show c ≠ 45
    omega
theorem app_head {x y : Str} (h : tl x ≠ []) : (tl (x ++ y)).headD 0 = (tl x).headD 0 := by
  rw [tl_append]
  cases e : tl x with
  | nil => exact absurd e h
  | cons c r => rfl
theorem numT_ne (n : Nat) : tl (numT n) ≠ [] := by
  rw [tl_numT]
  exact numL_ne n
theorem numT_len {n : Nat} (h : n < 10 ^ 30) : (numT n).length ≤ 30 := by
  rw [len_tl, tl_numT]
  exact numL_len (by decide) h
theorem numT_int {n : Nat} (h : n < 10 ^ 30) : PySem.intText? (numT n) = some (n : Int) := int_num (by have := numL_len (k := 30) (by decide) h; omega)
theorem part_num (n : Nat) : Txt.partition (numT n) "/" = (numT n, Str.empty, Str.empty) := partition_none (s := 47) (S := []) tl_slash (by rw [tl_numT]; exact numL_free (by decide))
theorem part_two (n : Nat) (y : Str) : Txt.partition (numT n ++ "/" ++ y) "/" = (numT n, ("/" : Str), y) := partition_app (s := 47) (S := []) tl_slash (by rw [tl_numT]; exact numL_free (by decide))
theorem ng_len (neg : Bool) : (ngT neg).length ≤ 1 := by cases neg <;> decide
theorem app_len {x y : Str} {m n : Nat} (h : x.length ≤ m) (k : y.length ≤ n) : (x ++ y).length ≤ m + n := app_le h k
theorem e_str : decide (V.str Str.empty = V.str "") = true := by decide +kernel
theorem e_sl : decide (V.str Str.empty = V.str "/") = false := by decide +kernel
theorem e_se : decide (V.str "/" = V.str "") = false := by decide +kernel
theorem rd1 {neg : Bool} {n : Nat} (h : n < 10 ^ 30) : Rd (ngT neg ++ numT n) (ngI neg n) 1 := by
  obtain ⟨e1, e2⟩ := nml_ng (neg := neg) (x := numT n) numT_head
  have lt := numT_len h
  have pt : pTop (ngT neg ++ numT n) = numT n := by unfold pTop; rw [e1, part_num]
  have ps : pSla (ngT neg ++ numT n) = Str.empty := by unfold pSla; rw [e1, part_num]
  have pb : pBot (ngT neg ++ numT n) = Str.empty := by unfold pBot; rw [e1, part_num]
  refine ⟨Nat.le_trans (app_len (ng_len neg) lt) (by decide), by rw [e1]; omega, by rw [pt]; omega, by rw [pb]; decide, ?_, n, 1, by rw [pt]; exact numT_int h, ?_, by decide, Bd.of (m := 1) (by decide) (by decide +kernel), (n_one _).2.symm, ?_⟩
  · rw [e1]
    unfold numB
    rw [part_num]
    rw [e_str, if_pos rfl]
    exact digB_num h
  · rw [ps, e_sl, if_neg Bool.false_ne_true]
  · rw [e1, e2, (n_one _).1]
    cases neg <;> rfl
theorem rd2 {neg : Bool} {n m : Nat} (h : n < 10 ^ 30) (hm : m < 10 ^ 30) (m0 : 0 < m) : Rd (ngT neg ++ (numT n ++ "/" ++ numT m)) (nT (ngI neg n) m) (nB (ngI neg n) m) := by
  have hd : (tl (numT n ++ "/" ++ numT m)).headD 0 ≠ 45 := by
    rw [tl_append, tl_append]
    cases e : tl (numT n) with
    | nil => exact absurd e (numT_ne n)
    | cons c r =>
      have := numT_head (n := n)
      rw [e] at this
      exact this
  obtain ⟨e1, e2⟩ := nml_ng (neg := neg) hd
  have lt := numT_len h
  have lm := numT_len hm
  have ll := app_len (app_len lt (show ("/" : Str).length ≤ 1 by decide)) lm
  have pt : pTop (ngT neg ++ (numT n ++ "/" ++ numT m)) = numT n := by unfold pTop; rw [e1, part_two]
  have ps : pSla (ngT neg ++ (numT n ++ "/" ++ numT m)) = "/" := by unfold pSla; rw [e1, part_two]
  have pb : pBot (ngT neg ++ (numT n ++ "/" ++ numT m)) = numT m := by unfold pBot; rw [e1, part_two]
  have mz : decide (V.str (numT m) = V.str "0") = false := by
    rw [isZero, tl_numT]
    refine decide_eq_false fun q => ?_
    have := numL_head m m0
    rw [q] at this
    exact this rfl
  refine ⟨Nat.le_trans (app_len (ng_len neg) ll) (by decide), by rw [e1]; omega, by rw [pt]; omega, by rw [pb]; omega, ?_, n, m, by rw [pt]; exact numT_int h, ?_, by omega, ?_, ?_, ?_⟩
  · rw [e1]
    unfold numB
    rw [part_two]
    rw [e_se, if_neg Bool.false_ne_true]
    show (digB (numT n) && (digB (numT m) && !decide (V.str (numT m) = V.str "0"))) = true
    rw [digB_num h, digB_num hm, mz]
    rfl
  · rw [ps, decide_eq_true rfl, if_pos rfl, pb]
    exact numT_int hm
  · exact Bd.of (m := 10 ^ 30) (by omega) (by decide +kernel)
  · cases neg with
    | true => exact (n_neg _ _ (by omega)).2
    | false => rfl
  · rw [e1, e2]
    cases neg with
    | true => exact (n_neg _ _ (by omega)).1
    | false => rfl
theorem ofS_app (a b : String) : Str.ofString (a ++ b) = Str.ofString a ++ Str.ofString b := by
  refine ext_tl ?_
  rw [tl_append, Str.ofString_eq_toList, Str.ofString_eq_toList, Str.ofString_eq_toList, tl_mk, tl_mk, tl_mk, String.toList_append, List.map_append]
/-- the text of a whole number -/
theorem itxt (t : Int) : (toString t : Str) = ngT (decide (t < 0)) ++ numT t.natAbs := by
  by_cases h : t < 0
  · rw [decide_eq_true h]
    obtain ⟨n, rfl⟩ : ∃ n : Nat, t = Int.negSucc n := by
      cases t with
      | ofNat n => exact absurd h (by simp)
      | negSucc n => exact ⟨n, rfl⟩
    refine ext_tl ?_
    rw [tl_append, tl_numT]
    show tl (Str.ofString (toString (Int.negSucc n))) = tl ("-" : Str) ++ numL (n + 1)
    rw [tl_minus]
    have e0 : toString (Int.negSucc n) = "-" ++ toString (((n + 1 : Nat)) : Int) := rfl
    rw [e0, ofS_app]
    rw [tl_append, tl_num]
    show tl ("-" : Str) ++ _ = _
    rw [tl_minus]
  · rw [decide_eq_false h]
    obtain ⟨n, rfl⟩ : ∃ n : Nat, t = (n : Int) := ⟨t.toNat, by omega⟩
    refine ext_tl ?_
    rw [tl_append]
    show tl (Str.ofString (toString (n : Int))) = tl ("" : Str) ++ tl (numT n)
    rw [tl_empty]
    rfl
end K04

set_option Elab.async false
set_option linter.all false
set_option maxRecDepth 100000
set_option maxHeartbeats 4000000
set_option pp.maxSteps 500
namespace K04
open PySem PySem.Spec PyProof.Rows L2 Ux TL
abbrev sLow : Stmt := top 29
abbrev sPair : Stmt := top 30
abbrev sPairText : Stmt := top 31
/-! ### texts that are none -/
theorem no_of {z a s y : Str} (hd : (tl z).headD 0 ≠ 45) (hp : Txt.partition z "/" = (a, s, y)) (lz : z.length ≤ 1000) (la : a.length ≤ 600) (ly : y.length ≤ 600) (nb : (if decide (V.str s = V.str "") = true then digB a else digB a && (digB y && !decide (V.str y = V.str "0"))) = false) : No z := by
  have e : nml z = z := rp_none hd
  refine ⟨lz, by rw [e]; exact lz, ?_, ?_, ?_⟩
  · unfold pTop
    rw [e, hp]
    exact la
  · unfold pBot
    rw [e, hp]
    exact ly
  · rw [e]
    unfold numB
    rw [hp]
    exact nb
def noB (z : Str) : Bool := decide (z.length ≤ 1000) && (decide ((nml z).length ≤ 1000) && (decide ((pTop z).length ≤ 600) && (decide ((pBot z).length ≤ 600) && !numB (nml z))))
theorem no_dec {z : Str} (h : noB z = true) : No z := by
  unfold noB at h
  simp only [Bool.and_eq_true, decide_eq_true_eq, Bool.not_eq_true'] at h
  obtain ⟨h1, h2, h3, h4, h5⟩ := h
  exact ⟨h1, h2, h3, h4, h5⟩
theorem tl_plus : tl ("+" : Str) = [43] := by decide +kernel
theorem no1 {n : Nat} (h : n < 10 ^ 30) : No ("+" ++ numT n) := by
  have e : tl ("+" ++ numT n) = 43 :: numL n := by rw [tl_append, tl_plus, tl_numT]; rfl
  have l : ("+" ++ numT n : Str).length ≤ 31 := app_len (m := 1) (by decide) (numT_len h)
  refine no_of (by rw [e]; show 43 ≠ 45; decide) (partition_none (s := 47) (S := []) tl_slash ?_) (by omega) (by omega) (by decide) ?_
  · rw [e]
    intro q
    rcases List.mem_cons.mp q with q | q
    · exact absurd q (by decide)
    · exact numL_free (by decide) q
  · rw [e_str, if_pos rfl]
    exact digB_bad (c := 43) (by rw [e]; exact List.mem_cons_self ..) (.inl (by decide))
theorem no2 {n : Nat} (h : n < 10 ^ 30) : No ("0" ++ numT n) := by
  have e : tl ("0" ++ numT n) = 48 :: numL n := by rw [tl_append, tl_zero, tl_numT]; rfl
  have l : ("0" ++ numT n : Str).length ≤ 31 := app_len (m := 1) (by decide) (numT_len h)
  refine no_of (by rw [e]; show 48 ≠ 45; decide) (partition_none (s := 47) (S := []) tl_slash ?_) (by omega) (by omega) (by decide) ?_
  · rw [e]
    intro q
    rcases List.mem_cons.mp q with q | q
    · exact absurd q (by decide)
    · exact numL_free (by decide) q
  · rw [e_str, if_pos rfl]
    exact digB_zero (numT_ne n)
theorem head2 {n : Nat} {y : Str} : (tl (numT n ++ "/" ++ y)).headD 0 ≠ 45 := by
  rw [tl_append, tl_append]
  cases e : tl (numT n) with
  | nil => exact absurd e (numT_ne n)
  | cons c r =>
    have := numT_head (n := n)
    rw [e] at this
    exact this
theorem no_two {n : Nat} (h : n < 10 ^ 30) {y : Str} (ly : y.length ≤ 600) (nb : (digB y && !decide (V.str y = V.str "0")) = false) : No (numT n ++ "/" ++ y) := by
  have l := app_len (app_len (numT_len h) (show ("/" : Str).length ≤ 1 by decide)) ly
  refine no_of head2 (part_two n y) (by omega) (by have := numT_len h; omega) ly ?_
  rw [e_se, if_neg Bool.false_ne_true, nb, Bool.and_false]
theorem no3 {n : Nat} (h : n < 10 ^ 30) : No (numT n ++ "/0") := by
  have e : numT n ++ "/0" = numT n ++ "/" ++ "0" := ext_tl (by rw [tl_append, tl_append, tl_append, List.append_assoc]; exact congrArg _ (by decide +kernel))
  rw [e]
  exact no_two h (by decide) (by decide +kernel)
theorem no4 {n m : Nat} (h : n < 10 ^ 30) (hm : m < 10 ^ 30) : No (numT n ++ "/0" ++ numT m) := by
  have e : numT n ++ "/0" ++ numT m = numT n ++ "/" ++ ("0" ++ numT m) := ext_tl (by
    rw [tl_append, tl_append, tl_append, tl_append, tl_append, List.append_assoc, List.append_assoc]
    refine congrArg _ ?_
    rw [← List.append_assoc]
    exact congrArg (· ++ tl (numT m)) (by decide +kernel))
  rw [e]
  have l : ("0" ++ numT m : Str).length ≤ 31 := app_len (m := 1) (by decide) (numT_len hm)
  refine no_two h (by omega) ?_
  rw [digB_zero (numT_ne m)]
  rfl
theorem no5 {n : Nat} (h : n < 10 ^ 30) : No (numT n ++ "/") := by
  have e : numT n ++ "/" = numT n ++ "/" ++ "" := ext_tl (by rw [tl_append (numT n ++ "/"), tl_empty, List.append_nil])
  rw [e]
  exact no_two h (by decide) (by decide +kernel)
theorem no6 {m : Nat} (hm : m < 10 ^ 30) : No ("/" ++ numT m) := by
  have e : ("/" ++ numT m : Str) = "" ++ "/" ++ numT m := ext_tl (by rw [tl_append, tl_append, tl_append, tl_empty]; rfl)
  have l : ("/" ++ numT m : Str).length ≤ 31 := app_len (m := 1) (by decide) (numT_len hm)
  refine no_of (a := "") (s := "/") (y := numT m) ?_ ?_ (by omega) (by decide) (by have := numT_len hm; omega) ?_
  · rw [tl_append, tl_slash]
    show 47 ≠ 45
    decide
  · rw [e]
    exact partition_app (s := 47) (S := []) tl_slash (by rw [tl_empty]; exact List.not_mem_nil)
  · rw [e_se, if_neg Bool.false_ne_true, digB_empty]
    rfl
def farT : Str := "1" ++ Txt.mul "0" 30
def rest : List Str := ["--1", "1 ", " 1", "1/2/3", "", "-", "1/-2", "a", farT, "1/" ++ farT, "1.5", "1\n", "12a"]
theorem rest_ok : (rest.all noB) = true := by decide +kernel
theorem no_rest {z : Str} (h : z ∈ rest) : No z := no_dec (List.all_eq_true.mp rest_ok z h)
/-! ### Ratio.read -/
def Raises0 (CI : Addr) (H : Hp) (E : XK) : Prop := ∀ d H', Same H H' → H' d = some (.xd itFs) → E (.ref CI) (some d) H'
def spRead (K : PySem.W.Frag) (CR CI : Addr) : Sp := fun vs H Q E => (∃ (z : Str) (t b : Int), vs = [.str z] ∧ Rd z t b ∧ ∀ (p : Addr) (H' : Hp), RatAt CR H' p t b → Same H H' → Q (.ref p) H') ∨
  (∃ z : Str, vs = [.str z] ∧ No z ∧ Raises0 CI H E) ∨ ∃ v t, vs = [v] ∧ TyX K H v t ∧ PySem.W.kitOne K t (.type "str") = some false ∧ Raises0 CI H E
def TupI (H : Hp) (p : Addr) (t b : Int) : Prop := H p = some (.tup [.int t, .int b])
def spLow : Sp := fun vs H Q _ => ∃ t b : Int, vs = [.int t, .int b] ∧ b ≠ 0 ∧ Bd 8000 b ∧ ∀ (p : Addr) (H' : Hp), TupI H' p (nT t b) (nB t b) → Same H H' → Q (.ref p) H'
def spPair (CR : Addr) : Sp := fun vs H Q _ => ∃ (r : Addr) (t b : Int), vs = [.ref r] ∧ RatAt CR H r t b ∧ ∀ (p : Addr) (H' : Hp), TupI H' p t b → Same H H' → Q (.ref p) H'
def spPairText : Sp := fun vs H Q _ => ∃ (p : Addr) (t b : Int), vs = [.ref p] ∧ TupI H p t b ∧ t.natAbs < 10 ^ 30 ∧ b.natAbs < 10 ^ 30 ∧ Q (.str (if decide (V.int b = V.int 1) = true then (toString t : Str) else (toString t : Str) ++ "/" ++ (toString b : Str))) H
theorem dp_bls {K : PySem.W.Frag} {H : Hp} : ∀ bs : List Bool, DpAll K H (bs.map V.bl) (bs.map PyData.bool)
  | [] => .nil
  | b :: bs => .cons (.bl b) (dp_bls bs)
theorem log2_30 {i : Int} (h : i.natAbs < 10 ^ 30) : i.natAbs.log2 < 1920 := by
  have : Bd 1920 i := Nat.lt_trans h (by decide +kernel)
  exact this.log (by decide)
theorem toS_len {i : Int} (h : i.natAbs < 10 ^ 30) : (toString i : Str).length ≤ 31 := by
  rw [itxt]
  exact Nat.le_trans (app_len (ng_len _) (numT_len h)) (by decide)
section
variable {P : Program} {w : World} {K : PySem.W.Frag} {mg : Str → Option Value} {base : Heap} {CR CI fI : Addr}
theorem scRead : FnScope ["text", "numeral", "top", "slash", "bottom", "ratio"] ["text"] (defScope sRead) := ⟨rfl, rfl, rfl, by decide +kernel, rfl, by decide +kernel, by decide +kernel⟩
theorem ok_read {f fN fM fG : Addr} {fd fdN fdM fdG fdI : FuncData} (F : Fun K "read" "Ratio.read" sRead f fd) (B : Bn mg) (T : RT K mg CR) (I : IT K mg CI fI) (GI : FnOk P w K mg base CX0 2 fI fdI ["self", "at"] (spI_InvalidText K)) (bI : Binds K fdI ["self", "at"] [])
    (DN : Dn K mg "is_numeral" fM) (GN : FnOk P w K mg base CX0 2 fM fdM ["text"] spNum) (bM : Binds K fdM ["text"] [])
    (M : Mk K CR fN) (G : FnOk P w K mg base CX0 2 fN fdN ["self", "top", "bottom"] (spRInit CR)) (bN : Binds K fdN ["self", "top", "bottom"] [])
    (MN : OwnM K CR "__neg__" fG) (GG : FnOk P w K mg base CX0 4 fG fdG ["self"] (spUn CR (fun t => -t))) (bG : Binds K fdG ["self"] []) :
    FnOk P w K mg base (L2.CX P w) 5 f fd ["text"] (spRead K CR CI) := by
  refine F.okX scRead (fun vs H Q E h => ?_) (fun cdv A outer s H vs Q E hr h => ?_)
  · rcases h with ⟨z, t, b, rfl, _⟩ | ⟨z, rfl, _⟩ | ⟨v, t, rfl, _⟩ <;> rfl
  · have r3 : Room 3 _ := hr.mono (by decide)
    have r2 : Room 2 _ := hr.mono (by decide)
    refine ⟨_, pss_cons (ps_if (pt_not (pt_val (pe_callB call_isi (by rfl) B.isin (by decide +kernel) (pa_cons (pv 0) (pa_cons (pe_bltn (v := .ty "str") (by rfl) B.tstr (by decide +kernel) rfl) pa_nil))))) (pss_one (ps_raise rfl (takes_of rfl rfl rfl rfl) (pmk_oex I.ox I.ini I.ty GI r3 bI .nil pass0 (by rfl) I.gl (pa_cons pe_int pa_nil)))) pss_nil)
      (pss_cons (ps_set (i := 1) scRead.nd rfl (Or.inl rfl) (pe_m1 PySem.F.slot_str_removeprefix PySem.F.type_str_removeprefix mt_removeprefix (pv 0) pe_str))
      (pss_cons (ps_if (pt_not (pt_val (pe_call GN r2 (by rfl) DN.gl DN.kp bM .nil pass0 (pa_cons (pv 1) pa_nil)))) (pss_one (ps_raise rfl (takes_of rfl rfl rfl rfl) (pmk_oex I.ox I.ini I.ty GI r3 bI .nil pass0 (by rfl) I.gl (pa_cons pe_int pa_nil)))) pss_nil)
      (pss_cons (ps_asg (pe_partition (pv 1) pe_str) (pg_tup rfl (pgs_cons (pg_name (i := 2) scRead.nd rfl (Or.inl rfl)) (pgs_cons (pg_name (i := 3) scRead.nd rfl (Or.inl rfl)) (pgs_cons (pg_name (i := 4) scRead.nd rfl (Or.inl rfl)) pgs_nil)))))
      (pss_cons (ps_set (i := 5) scRead.nd rfl (Or.inl rfl) (pe_make M G r3 (by rfl) T.gl bN .nil pass0 (pa_cons (pe_callTy call_int_str (by rfl) B.tint (by decide +kernel) (pa_cons (pv 2) pa_nil)) (pa_cons (pe_ifExp (pt_cmpR op_eq (pv 3) pe_str (nomark _)) (pe_callTy call_int_str (by rfl) B.tint (by decide +kernel) (pa_cons (pv 4) pa_nil)) pe_int) pa_nil))))
      (pss_one (ps_ret (pe_ifExp (pt_cmpR op_eq (pv 1) (pv 0) (nomark _)) (pv 5) (pe_un (un_negO MN GG bG hr) (pv 5))))))))), ?_⟩
    rcases h with ⟨z, t, b, rfl, R, q⟩ | ⟨z, rfl, N, q⟩ | ⟨v, t, rfl, ty, ks, q⟩
    · obtain ⟨l0, l1, l2, l3, nb, a, c, ha, hc, c0, cB, hb, ht⟩ := R
      refine ⟨_, rfl, _, _, _, _, true, rfl, .ty "str", .base (.str _), kit_ty (by decide +kernel), _, rfl, iteF ?_⟩
      refine ⟨_, rfl, ⟨_, rfl⟩, _, _, rfl, rfl, fit l0 (by decide), ?_⟩
      refine ⟨_, rfl, nml z, rfl, l1, Nat.le_trans l2 (by decide), Nat.le_trans l3 (by decide), fun H1 s1 => ?_⟩
      rw [nb]
      refine ⟨_, rfl, iteF ?_⟩
      refine ⟨_, rfl, ⟨_, rfl⟩, _, _, rfl, rfl, (by decide), fit l1 (by decide), fun p hp => ?_⟩
      have s2 := s1.trans (same_upd (o := .tup [.str (pTop z), .str (pSla z), .str (pBot z)]) hp)
      refine ⟨p, _, rfl, .of upd_same, rfl, _, _, rfl, _, _, rfl, _, _, rfl, rfl, ?_⟩
      refine ⟨_, rfl, _, a, rfl, ha, Nat.le_trans l2 (by decide), ?_⟩
      refine ⟨_, rfl, rfl, _, rfl, ?_⟩
      have bb : Bd 2000 (nB a c) := Nat.lt_of_le_of_lt (n_abs (by omega)).2 cB
      have b0 : 0 < nB a c := nB_pos (by omega)
      have cop : Nat.gcd (-(nT a c)).natAbs (nB a c).natAbs = 1 := by
        rw [Int.natAbs_neg]
        exact n_cop (by omega)
      show if decide (V.str (pSla z) = V.str "/") = true then _ else _
      cases hs : decide (V.str (pSla z) = V.str "/") with
      | true =>
        rw [hs, if_pos rfl] at hc
        refine iteT ⟨_, rfl, _, c, rfl, hc, Nat.le_trans l3 (by decide), fun x dx nx nd ne => ?_⟩
        refine ⟨x, dx, a, c, rfl, upd_same, by omega, cB.le (by decide), fun H' hx bu => ⟨rfl, ?_⟩⟩
        have s3 := s2.trans (made_same nx nd bu)
        have ra : RatAt CR H' x (nT a c) (nB a c) := ⟨dx, hx⟩
        refine ⟨_, rfl, _, rfl, rfl, _, rfl, ?_⟩
        show if decide (V.str (nml z) = V.str z) = true then _ else _
        cases hq : decide (V.str (nml z) = V.str z) with
        | true =>
          rw [hq, if_pos rfl] at ht
          rw [← ht, ← hb] at ra
          exact iteT ⟨_, rfl, q x H' ra s3⟩
        | false =>
          rw [hq, if_neg Bool.false_ne_true] at ht
          refine iteF ⟨_, rfl, x, dx, _, rfl, hx, x, nT a c, nB a c, rfl, ra, bb, b0, fun p H2 rp sp => ?_⟩
          rw [(n_low b0 cop).1, (n_low b0 cop).2, ← ht, ← hb] at rp
          exact q p H2 rp (s3.trans sp)
      | false =>
        rw [hs, if_neg Bool.false_ne_true] at hc
        subst hc
        refine iteF fun x dx nx nd ne => ?_
        refine ⟨x, dx, a, 1, rfl, upd_same, by decide, cB.le (by decide), fun H' hx bu => ⟨rfl, ?_⟩⟩
        have s3 := s2.trans (made_same nx nd bu)
        have ra : RatAt CR H' x (nT a 1) (nB a 1) := ⟨dx, hx⟩
        refine ⟨_, rfl, _, rfl, rfl, _, rfl, ?_⟩
        show if decide (V.str (nml z) = V.str z) = true then _ else _
        cases hq : decide (V.str (nml z) = V.str z) with
        | true =>
          rw [hq, if_pos rfl] at ht
          rw [← ht, ← hb] at ra
          exact iteT ⟨_, rfl, q x H' ra s3⟩
        | false =>
          rw [hq, if_neg Bool.false_ne_true] at ht
          refine iteF ⟨_, rfl, x, dx, _, rfl, hx, x, nT a 1, nB a 1, rfl, ra, bb, b0, fun p H2 rp sp => ?_⟩
          rw [(n_low b0 cop).1, (n_low b0 cop).2, ← ht, ← hb] at rp
          exact q p H2 rp (s3.trans sp)
    · obtain ⟨l0, l1, l2, l3, nb⟩ := N
      refine ⟨_, rfl, _, _, _, _, true, rfl, .ty "str", .base (.str _), kit_ty (by decide +kernel), _, rfl, iteF ?_⟩
      refine ⟨_, rfl, ⟨_, rfl⟩, _, _, rfl, rfl, fit l0 (by decide), ?_⟩
      refine ⟨_, rfl, nml z, rfl, l1, Nat.le_trans l2 (by decide), Nat.le_trans l3 (by decide), fun H1 s1 => ?_⟩
      rw [nb]
      exact ⟨_, rfl, iteT (it_made I fun d H' s2 hd => q d H' (s1.trans s2) hd)⟩
    · refine ⟨_, rfl, _, _, _, _, false, rfl, .ty "str", ty, ks, _, rfl, iteT ?_⟩
      exact it_made I q
theorem scLow : FnScope ["_law_top", "_law_bottom", "_law_one", "_law_other", "_law_sign"] ["_law_top", "_law_bottom"] (defScope sLow) := ⟨rfl, rfl, rfl, by decide +kernel, rfl, by decide +kernel, by decide +kernel⟩
theorem ok_low {f : Addr} {fd : FuncData} (F : Fun K "_law_low" "_law_low" sLow f fd) (B : Bn mg) : FnOk P w K mg base CX0 1 f fd ["_law_top", "_law_bottom"] spLow := by
  refine F.ok scLow (fun vs H Q E h => ?_) (fun cdv A outer s H vs Q E hr h => ?_)
  · obtain ⟨t, b, rfl, _⟩ := h
    rfl
  · obtain ⟨t, b, rfl, b0, bb, q⟩ := h
    refine ⟨_, pss_cons (ps_par (i := 2) (j := 3) rfl scLow.nd rfl rfl (by decide) rfl rfl (pa_cons (pe_callB call_abs (by rfl) B.fabs (by decide +kernel) (pa_cons (pv 0) pa_nil)) (pa_cons (pe_callB call_abs (by rfl) B.fabs (by decide +kernel) (pa_cons (pv 1) pa_nil)) pa_nil)) rfl)
      (pss_cons (ps_while PassesOwn.never (pt_cmpR op_ne (pv 3) pe_int (nomark _)) (pss_one (ps_par (i := 2) (j := 3) rfl scLow.nd rfl rfl (by decide) rfl rfl (pa_cons (pv 3) (pa_cons (pe_op op_mod (pe_callTy call_int1 (by rfl) B.tint (by decide +kernel) (pa_cons (pv 2) pa_nil)) (pv 3)) pa_nil)) rfl)))
      (C8.pss_cut (ps_set (i := 4) scLow.nd rfl (Or.inl rfl) (pe_ifExp (pt_cmpR op_lt (pv 1) pe_int (nomark _)) (pe_un un_neg pe_int) pe_int))
      (pss_one (ps_ret (pe_tup (pa_cons (pe_op op_fdivX (pe_op op_mul (pv 4) (pv 0)) (pv 2)) (pa_cons (pe_op op_fdivX (pe_op op_mul (pv 4) (pv 1)) (pv 2)) pa_nil))))))), ?_⟩
    refine ⟨_, rfl, _, rfl, _, rfl, _, rfl, _, _, rfl, ?_⟩
    have ea : ∀ n : Int, (if n < 0 then -n else n) = ((n.natAbs : Nat) : Int) := fun n => by split <;> omega
    rw [ea, ea]
    refine while_by (fun σ H' => ∃ x y : Nat, σ = [some (.int t), some (.int b), some (.int x), some (.int y), none] ∧ H' = H ∧ Nat.gcd x y = Nat.gcd t.natAbs b.natAbs) (fun σ _ => match σ with | [_, _, _, some (.int y), _] => y.natAbs | _ => 0) ⟨_, _, rfl, rfl, rfl⟩ ?_ ?_
    · rintro σ H' ⟨x, y, rfl, rfl, g⟩
      refine ⟨_, rfl, rfl, _, rfl, ?_⟩
      by_cases z : y = 0
      · subst z
        refine iteF ?_
        rw [Nat.gcd_zero_right] at g
        have g0 : 0 < Nat.gcd t.natAbs b.natAbs := g_pos b0
        have gd : ((x : Int) ≠ 0 ∧ (x : Int).natAbs.log2 < 9000) := by
          refine ⟨by omega, ?_⟩
          have : Bd 8000 (x : Int) := by
            unfold Bd
            rw [Int.natAbs_natCast, g]
            exact Nat.lt_of_le_of_lt (Nat.le_of_dvd (by omega) (Nat.gcd_dvd_right _ _)) bb
          exact Nat.lt_of_lt_of_le (this.log (by decide)) (by decide)
        refine ⟨fun σ H2 => σ = [some (.int t), some (.int b), some (.int (x : Int)), some (.int ((0 : Nat) : Int)), some (.int (sg b))] ∧ H2 = H', ?_, ?_⟩
        · refine ⟨_, rfl, _, _, rfl, rfl, _, rfl, ?_⟩
          by_cases hn : b < 0
          · rw [decide_eq_true hn]
            refine iteT ⟨_, rfl, ?_⟩
            unfold sg
            rw [if_pos hn]
            exact ⟨rfl, rfl⟩
          · rw [decide_eq_false hn]
            refine iteF ?_
            unfold sg
            rw [if_neg hn]
            exact ⟨rfl, rfl⟩
        · rintro σ H2 ⟨rfl, rfl⟩
          have sb : -(2 ^ 64) < sg b ∧ sg b < 2 ^ 64 := by
            unfold sg
            split <;> decide
          refine ⟨_, rfl, _, rfl, _, _, rfl, rfl, .inl sb, _, rfl, _, _, rfl, rfl, gd, ?_⟩
          refine ⟨_, rfl, _, rfl, _, _, rfl, rfl, .inl sb, _, rfl, _, _, rfl, rfl, gd, (by show 2 ≤ sizeLine; decide), fun p hp => ?_⟩
          refine q p _ ?_ (same_upd hp)
          unfold TupI
          rw [upd_same, g]
          show some (HO.tup [V.int ((sg b * t).fdiv ((Nat.gcd t.natAbs b.natAbs : Nat) : Int)), V.int ((sg b * b).fdiv ((Nat.gcd t.natAbs b.natAbs : Nat) : Int))]) = _
          rw [law_nT b0, law_nB b0]
      · have ny : ¬ (V.int (y : Int)) = V.int 0 := fun e => z (by have := V.int.inj e; omega)
        have ey : (!decide (V.int (y : Int) = V.int 0)) = true := by
          rw [decide_eq_false ny]
          rfl
        show if (!decide (V.int (y : Int) = V.int 0)) = true then _ else _
        rw [ey]
        refine iteT ⟨_, rfl, _, rfl, .inl ⟨_, rfl, _, rfl, _, _, rfl, rfl, (by show (0 : Int) < (y : Int); omega), _, _, rfl, ?_⟩⟩
        refine ⟨⟨y, x % y, rfl, rfl, ?_⟩, ?_⟩
        · rw [← g, Nat.gcd_comm x y, Nat.gcd_rec y x, Nat.gcd_comm]
        · have := Nat.mod_lt x (Nat.pos_of_ne_zero z)
          show (((x : Int) % (y : Int)).natAbs) < ((y : Int)).natAbs
          omega
    · rintro σ H' Q1 Q2 hq ⟨x, hx, e1, k, e3, z⟩
      exact ⟨x, hx, e1, k, e3, hq _ _ z⟩
theorem at0 (x y : V) : atI [x, y] ((0 : Nat) : Int) = some x := atI_nat rfl
theorem at1 (x y : V) : atI [x, y] ((1 : Nat) : Int) = some y := atI_nat rfl
theorem vIsi : bootBuiltins ("isinstance" : Str) = some (.builtin "isinstance") := by decide +kernel
theorem vInt : bootBuiltins ("int" : Str) = some (.type "int") := by decide +kernel
theorem vBool : bootBuiltins ("bool" : Str) = some (.type "bool") := by decide +kernel
theorem scPair : FnScope ["_law_found", "_law_whole", "_law_part"] ["_law_found"] (defScope sPair) := ⟨rfl, rfl, rfl, by decide +kernel, rfl, by decide +kernel, by decide +kernel⟩
theorem ok_pair {f : Addr} {fd : FuncData} (F : Fun K "_law_pair" "_law_pair" sPair f fd) (B : Bn mg) (T : RT K mg CR) : FnOk P w K mg base CX0 1 f fd ["_law_found"] (spPair CR) := by
  refine F.ok scPair (fun vs H Q E h => ?_) (fun cdv A outer s H vs Q E hr h => ?_)
  · obtain ⟨r, t, b, rfl, _⟩ := h
    rfl
  · obtain ⟨r, t, b, rfl, ra, q⟩ := h
    refine ⟨_, pss_cons (ps_if (pt_not (pt_val (pe_callB call_isi (by rfl) B.isin (by decide +kernel) (pa_cons (pv 0) (pa_cons (pe_glob (v := .ref CR) (by rfl) T.gl rfl) pa_nil))))) (pss_one (ps_ret pe_non)) pss_nil)
      (pss_cons (ps_setLc (i := 1) (own := [("_law_part", 2)]) (g := gName 2) rfl scPair.nd rfl rfl (sw_true rfl rfl rfl rfl) (pi_list (pe_lst (pa_cons (pe_fld (pv 0) rfl) (pa_cons (pe_fld (pv 0) rfl) pa_nil)))) (blkOk_by (own := [("_law_part", 2)]) (N := ["_law_found", "_law_whole", "_law_part"]) (sc := defScope sPair) (by decide +kernel))
          (fun _ _ _ _ _ => pg_name (i := 2) scPair.nd rfl (Or.inl rfl) (hf := Or.inr rfl)) (fun _ _ _ _ _ => pts_nil)
          (fun _ _ _ _ _ => pe_and (pe_callB (id := "isinstance") (r := rIsi K) call_isi rfl B.isin vIsi (pa_cons (pv 2) (pa_cons (pe_bltn (v := .ty "int") rfl B.tint vInt rfl) pa_nil)))
            (pe_one (pe_not (pe_callB (id := "isinstance") (r := rIsi K) call_isi rfl B.isin vIsi (pa_cons (pv 2) (pa_cons (pe_bltn (v := .ty "bool") rfl B.tbool vBool rfl) pa_nil)))))))
      (pss_one (ps_ret (pe_ifExp (pt_cmpR (op_eqD hr.units) (pv 1) (pe_lst (pa_cons pe_bl (pa_cons pe_bl pa_nil))) (nomark _)) (pe_tup (pa_cons (pe_fld (pv 0) rfl) (pa_cons (pe_fld (pv 0) rfl) pa_nil))) pe_non)))), ?_⟩
    obtain ⟨dx, ha⟩ := id ra
    refine ⟨_, rfl, _, _, _, _, true, rfl, .own _, ra.ty T, T.kR, _, rfl, iteF ?_⟩
    refine ⟨_, rfl, r, CR, dx, _, _, rfl, ha, T.cl, T.nT, rf_top t b, _, rfl, r, CR, dx, _, _, rfl, ha, T.cl, T.nB, rf_bot t b, (by show 2 ≤ sizeLine; decide), fun p hp => ?_⟩
    have s1 : Same H (upd H p (.lst [.int t, .int b])) := same_upd hp
    refine ⟨p, rfl, ⟨_, .of upd_same⟩, fun D hD => ?_⟩
    refine lc_list (K := K) (a := p) (xs := [V.int t, V.int b]) (fun i H' => Same (upd H p (.lst [.int t, .int b])) H' ∧ H' D = some (.lst (List.replicate i (V.bl true)))) ⟨same_upd hD, upd_same⟩ (fun i H' _ z => .of (z.1 _ _ upd_same)) ?_ ?_
    · rintro i x H2 hx ⟨s2, d2⟩
      have hx' : ∃ n, x = .int n ∧ i < 2 := by
        match i, hx with
        | 0, hx => exact ⟨t, (Option.some.inj hx).symm, by decide⟩
        | 1, hx => exact ⟨b, (Option.some.inj hx).symm, by decide⟩
      obtain ⟨n, rfl, hi⟩ := hx'
      refine ⟨rfl, ?_⟩
      refine ⟨_, rfl, _, _, _, _, true, rfl, .ty "int", .base (.int _), kit_ty (by decide +kernel), true, rfl, iteT ?_⟩
      refine ⟨_, rfl, _, _, _, _, false, rfl, .ty "bool", .base (.int _), kit_ty (by decide +kernel), _, rfl, _, d2, ?_, fun c o e => ?_, ?_⟩
      · rw [List.length_replicate]
        exact small1000 (by omega)
      · rw [upd_ne (ne_of_none e hD)]
        exact s2 c o e
      · rw [upd_same, List.replicate_succ']
        rfl
    · rintro H2 ⟨s2, d2⟩
      have s3 := s1.trans s2
      refine ⟨_, rfl, (by show 2 ≤ sizeLine; decide), fun p2 hp2 => ?_⟩
      have d3 : upd H2 p2 (.lst [.bl true, .bl true]) D = some (.lst ([true, true].map V.bl)) := (upd_ne (ne_of_none d2 hp2)).trans d2
      refine ⟨_, _, .lst (.of d3) (dp_bls [true, true]), .lst (.of upd_same) (dp_bls [true, true]), rfl, rfl, _, rfl, ?_⟩
      rw [SeqAt.eqv_refl _ rfl]
      have s4 : Same H (upd H2 p2 (.lst [.bl true, .bl true])) := Same.new s3 hp2
      have ha4 := s4 _ _ ha
      refine iteT ⟨_, rfl, r, CR, dx, _, _, rfl, ha4, T.cl, T.nT, rf_top t b, _, rfl, r, CR, dx, _, _, rfl, ha4, T.cl, T.nB, rf_bot t b, (by show 2 ≤ sizeLine; decide), fun p3 hp3 => ?_⟩
      exact q p3 _ upd_same (Same.new s4 hp3)
theorem scPairText : FnScope ["_law_pair_here"] ["_law_pair_here"] (defScope sPairText) := ⟨rfl, rfl, rfl, by decide +kernel, rfl, by decide +kernel, by decide +kernel⟩
theorem ok_pairText {f : Addr} {fd : FuncData} (F : Fun K "_law_pair_text" "_law_pair_text" sPairText f fd) (B : Bn mg) : FnOk P w K mg base CX0 1 f fd ["_law_pair_here"] spPairText := by
  refine F.ok scPairText (fun vs H Q E h => ?_) (fun cdv A outer s H vs Q E hr h => ?_)
  · obtain ⟨p, t, b, rfl, _⟩ := h
    rfl
  · obtain ⟨p, t, b, rfl, hp, ht, hb, q⟩ := h
    have lt := toS_len ht
    have lb := toS_len hb
    refine ⟨_, pss_one (ps_ret (pe_ifExp (pt_cmpR op_eq (pe_ix ix_tup (pv 0) pe_int (fun _ _ => rfl)) pe_int (nomark _)) (pe_callTy call_str_int (by rfl) B.tstr (by decide +kernel) (pa_cons (pe_ix ix_tup (pv 0) pe_int (fun _ _ => rfl)) pa_nil))
      (pe_op op_add_str (pe_op op_add_str (pe_callTy call_str_int (by rfl) B.tstr (by decide +kernel) (pa_cons (pe_ix ix_tup (pv 0) pe_int (fun _ _ => rfl)) pa_nil)) pe_str) (pe_callTy call_str_int (by rfl) B.tstr (by decide +kernel) (pa_cons (pe_ix ix_tup (pv 0) pe_int (fun _ _ => rfl)) pa_nil))))), ?_⟩
    refine ⟨_, rfl, p, _, _, _, rfl, rfl, .of hp, at1 _ _, rfl, _, rfl, ?_⟩
    show if decide (V.int b = V.int 1) = true then _ else _
    cases e : decide (V.int b = V.int 1) with
    | true =>
      rw [e, if_pos rfl] at q
      exact iteT ⟨_, rfl, p, _, _, _, rfl, rfl, .of hp, at0 _ _, _, rfl, log2_30 ht, q⟩
    | false =>
      rw [e, if_neg Bool.false_ne_true] at q
      refine iteF ⟨_, rfl, p, _, _, _, rfl, rfl, .of hp, at0 _ _, _, rfl, log2_30 ht, _, _, rfl, rfl, fit (m := 40) (by have : ("/" : Str).length ≤ 1 := (by decide); omega) (by decide), _, rfl, p, _, _, _, rfl, rfl, .of hp, at1 _ _, _, rfl, log2_30 hb, _, _, rfl, rfl, fit (m := 100) (by have := app_len lt (show ("/" : Str).length ≤ 1 by decide); omega) (by decide), q⟩
end
end K04

set_option Elab.async false
set_option linter.all false
set_option maxRecDepth 100000
set_option maxHeartbeats 8000000
set_option pp.maxSteps 600
namespace K04
open PySem PySem.Spec PyProof.Rows L2 Ux
abbrev sLaw : Stmt := top 32
abbrev nLaw : List Str := ["_law_script", "_law_bag_here", "_law_turn", "_law_top", "_law_low_here", "_law_sign", "_law_worth", "_law_pair_here", "_law_far", "_law_wrong", "_law_odd", "_law_text"]
theorem scLaw : FnScope nLaw ["_law_script"] (defScope sLaw) := ⟨rfl, rfl, rfl, by decide +kernel, rfl, by decide +kernel, by decide +kernel⟩
def qn : Str := (envOfC "law" (defScope sLaw) 0 0 .none).qual ++ "<lambda>"
def spLaw (K : PySem.W.Frag) (PT : Addr) : Sp := fun vs H Q _ => ∃ (a : Addr) (ns : List Int), vs = [.ref a] ∧ SqL K H a (ns.map V.int) ∧ ns.length ≤ 63 ∧ H PT = some (.tbl #[]) ∧ ∀ H', Q (.bl true) H'
/-- s * n -/
theorem op_mulStr {X : Cx} : OpR X (binaryOp .Mult) (fun x y H Q => ∃ z n, x = .str z ∧ y = .int n ∧ MulOk z n ∧ Q (.str (Txt.mul z n)) H) := by
  intro pins s σ H x y v u Q I rx ry h
  obtain ⟨z, n, rfl, rfl, ok, q⟩ := h
  obtain ⟨t, rfl⟩ := rx
  obtain ⟨t', rfl⟩ := ry
  exact PySem.SB.mul ok fun t2 k => ⟨.str _, H, I.tok _, ⟨_, rfl⟩, q⟩
theorem BagAt.more {H : Hp} {b : Addr} {n m : Nat} (h : BagAt H b n) (l : n ≤ m) : BagAt H b m := by
  obtain ⟨a, ns, p, g, s', c, h1, h2, h3, h4, h5, h6, h7, h8⟩ := h
  exact ⟨a, ns, p, g, s', c, h1, h2, h3, h4, h5, h6, h7, by omega⟩
theorem BagAt.same {H H' : Hp} {b : Addr} {n : Nat} (h : BagAt H b n) (s : Same H H') : BagAt H' b n := by
  obtain ⟨l, ns, p, g, s', c, hb, hl, z⟩ := h
  exact ⟨l, ns, p, g, s', c, s _ _ hb, s _ _ hl, z⟩
theorem BagAt.lst {H : Hp} {b : Addr} {n : Nat} (h : BagAt H b n) : ∃ xs, H b = some (.lst xs) := by
  obtain ⟨l, ns, p, g, s', c, hb, hl, z⟩ := h
  exact ⟨_, hb⟩
theorem Tabs.but {T : List (Addr × Str)} {H H' : Hp} {b : Addr} {xs : List V} (t : LamX.Tabs T H) (hb : H b = some (.lst xs)) (s : But b H H') : LamX.Tabs T H' := fun p hp => by
  obtain ⟨ps, h1, h2, h3⟩ := t p hp
  refine ⟨ps, s _ _ h1 fun e => ?_, h2, fun pos cv hc => ?_⟩
  · rw [e, hb] at h1
    cases h1
  · obtain ⟨c, e1, e2⟩ := h3 pos cv hc
    refine ⟨c, e1, s _ _ e2 fun e => ?_⟩
    rw [e, hb] at e2
    cases e2
theorem Tabs.same {T : List (Addr × Str)} {H H' : Hp} (t : LamX.Tabs T H) (s : Same H H') : LamX.Tabs T H' := LamX.Tabs.ext t s
theorem BagAt.extN {H H' : Hp} {b : Addr} {n : Nat} (h : BagAt H b n) (s : LamX.ExtN H H') : BagAt H' b n := by
  obtain ⟨l, ns, p, g, s', c, hb, hl, z⟩ := h
  exact ⟨l, ns, p, g, s', c, s _ _ hb (fun ps e => by cases e), s _ _ hl (fun ps e => by cases e), z⟩
theorem like_str {H : Hp} {n : Nat} (x : Str) : Like H (n + 1) (.str x) (.str x) := .inl ⟨rfl, .inr (.inr (.inr ⟨x, rfl⟩))⟩
theorem like_int {H : Hp} {n : Nat} (i : Int) : Like H (n + 1) (.int i) (.int i) := .inl ⟨rfl, .inr (.inr (.inl ⟨i, rfl⟩))⟩
theorem like_non {H : Hp} {n : Nat} : Like H (n + 1) .non .non := .inl ⟨rfl, .inl rfl⟩
theorem like_bl {H : Hp} {n : Nat} (b : Bool) : Like H (n + 1) (.bl b) (.bl b) := .inl ⟨rfl, .inr (.inl ⟨b, rfl⟩)⟩
def plainV : V → Bool
  | .non => true
  | .bl _ => true
  | .int _ => true
  | .str _ => true
  | _ => false
theorem like_plain {H : Hp} {n : Nat} {v : V} (h : plainV v = true) : Like H (n + 1) v v := by
  cases v with
  | non => exact like_non
  | bl b => exact like_bl b
  | int i => exact like_int i
  | str x => exact like_str x
  | _ => exact absurd h (by intro z; cases z)
/-- two lists, or two tuples, of the same plain values -/
theorem like_seq {H : Hp} {n : Nat} {a b : Addr} {xs : List V} (h : (H a = some (.tup xs) ∧ H b = some (.tup xs)) ∨ (H a = some (.lst xs) ∧ H b = some (.lst xs))) (hp : xs.all plainV = true) (hl : xs.length ≤ 1000) : Like H (n + 2) (.ref a) (.ref b) := by
  refine .inr ⟨a, b, _, _, rfl, rfl, h, rfl, hl, fun i x y hx hy => ?_⟩
  rw [hx] at hy
  obtain rfl := Option.some.inj hy
  exact like_plain (List.all_eq_true.mp hp x (List.mem_of_getElem? hx))
/-- the error InvalidText, told -/
structure ITk (K : PySem.W.Frag) (C1 C2 CI : Addr) : Prop where
  ex : PySem.W.exmAny K (.ref CI) [.ref C1, .ref C2] = some true
  xf : XfC K CI
  no : ∀ f ∈ fieldNames, PySem.W.findIn K (.ref CI) f = some none
theorem told_it {K : PySem.W.Frag} {C1 C2 CI : Addr} (T : ITk K C1 C2 CI) {H : Hp} {Q : VK} (k : ∀ (t : Addr) (H' : Hp), H' t = some (.tup [.str "InvalidText", .int 0]) → Same H H' → Q (.ref t) H') : Raises0 CI H (Told K C1 C2 Q) := fun d H' s hd => by
  refine ⟨CI, d, itFs, "InvalidText", rfl, rfl, hd, T.ex, T.xf, T.no, by decide +kernel, ?_⟩
  have e1 : inV (.str "InvalidText") [.str "InvalidName", .str "InvalidNumber"] = false := by decide +kernel
  have e2 : inV (.str "InvalidText") [.str "InvalidText", .str "WrongKind", .str "InvalidBlank"] = true := by decide +kernel
  unfold fieldF
  rw [e1, if_neg Bool.false_ne_true, e2, if_pos rfl]
  exact ⟨.int 0, by decide +kernel, fun t H2 ht s2 => k t H2 ht (s.trans s2)⟩
/-! ### numbers of the law -/
def pd (p : Int × Int) : PyData := .tuple [.int p.1, .int p.2]
theorem TupI.same {H H' : Hp} {p : Addr} {t b : Int} (h : TupI H p t b) (s : Same H H') : TupI H' p t b := s _ _ h
theorem TupI.but {H H' : Hp} {p c : Addr} {t b : Int} {xs : List V} (h : TupI H p t b) (hc : H c = some (.lst xs)) (f : But c H H') : TupI H' p t b := f _ _ h fun e => by
  unfold TupI at h
  rw [e, hc] at h
  cases h
theorem tup_dp {K : PySem.W.Frag} {H : Hp} {r : Addr} {t b : Int} (h : TupI H r t b) : Dp K H (.ref r) (pd (t, b)) := .tup (.of h) (.cons (.int _) (.cons (.int _) .nil))
theorem mul_ok (n : Int) (h0 : 0 ≤ n) (h8 : n < 8) : MulOk "000" n ∧ ("1" ++ Txt.mul "000" n : Str).length ≤ 30 ∧ PySem.intText? ("1" ++ Txt.mul "000" n) = some (10 ^ (3 * n.toNat)) := by
  have h : n = 0 ∨ n = 1 ∨ n = 2 ∨ n = 3 ∨ n = 4 ∨ n = 5 ∨ n = 6 ∨ n = 7 := by omega
  rcases h with rfl | rfl | rfl | rfl | rfl | rfl | rfl | rfl <;> exact ⟨by unfold MulOk; decide +kernel, by decide +kernel, by decide +kernel⟩
theorem asc (neg : Bool) (n m : Nat) : ngT neg ++ numT n ++ "/" ++ numT m = ngT neg ++ (numT n ++ "/" ++ numT m) := TL.ext_tl (by
  rw [TL.tl_append, TL.tl_append, TL.tl_append, TL.tl_append, TL.tl_append, TL.tl_append, List.append_assoc, List.append_assoc, List.append_assoc])
theorem ng_back (t : Int) : ngI (decide (t < 0)) (t.natAbs : Nat) = t := by
  by_cases h : t < 0
  · rw [decide_eq_true h]
    show -((t.natAbs : Nat) : Int) = t
    omega
  · rw [decide_eq_false h]
    show ((t.natAbs : Nat) : Int) = t
    omega
theorem toS_nat (n : Nat) : (toString (n : Int) : Str) = numT n := rfl
theorem rd_pair {t b : Int} (hb : 0 < b) (g : Nat.gcd t.natAbs b.natAbs = 1) (ht : t.natAbs < 10 ^ 30) (hb3 : b.natAbs < 10 ^ 30) : Rd (if decide (V.int b = V.int 1) = true then (toString t : Str) else (toString t : Str) ++ "/" ++ (toString b : Str)) t b := by
  obtain ⟨m, rfl⟩ : ∃ m : Nat, b = (m : Int) := ⟨b.toNat, by omega⟩
  have hb4 : m < 10 ^ 30 := by
    rw [Int.natAbs_natCast] at hb3
    exact hb3
  rw [itxt t]
  by_cases h : (m : Int) = 1
  · rw [decide_eq_true (by rw [h]), if_pos rfl]
    have r := rd1 (neg := decide (t < 0)) ht
    rw [ng_back] at r
    rw [h]
    exact r
  · rw [decide_eq_false (fun e => h (V.int.inj e)), if_neg Bool.false_ne_true]
    have r := rd2 (neg := decide (t < 0)) ht hb4 (by omega)
    rw [ng_back, (n_low hb g).1, (n_low hb g).2] at r
    rw [toS_nat, asc]
    exact r
theorem last1 : Rd ("1" ++ Txt.mul "0" 29) (10 ^ 29) 1 := by
  have e : ngT false ++ numT (10 ^ 29) = "1" ++ Txt.mul "0" 29 := by decide +kernel
  have r := rd1 (neg := false) (n := 10 ^ 29) (by decide)
  rw [e] at r
  exact r
theorem last2 : Rd "-0" 0 1 := by
  have e : ngT true ++ numT 0 = "-0" := by decide +kernel
  have r := rd1 (neg := true) (n := 0) (by decide)
  rw [e] at r
  exact r
/-- values that are no text -/
def OddU (H : Hp) (v : V) : Prop := v = .non ∨ v = .int 5 ∨ v = .bl true ∨ ∃ l xs, v = .ref l ∧ (H l = some (.lst xs) ∨ H l = some (.tup xs))
theorem OddU.ty {K : PySem.W.Frag} {H : Hp} {v : V} (h : OddU H v) : ∃ t, TyX K H v t ∧ PySem.W.kitOne K t (.type "str") = some false := by
  rcases h with rfl | rfl | rfl | ⟨l, xs, rfl, h | h⟩
  · exact ⟨_, .base .non, kit_ty (by decide +kernel)⟩
  · exact ⟨_, .base (.int _), kit_ty (by decide +kernel)⟩
  · exact ⟨_, .base (.bl _), kit_ty (by decide +kernel)⟩
  · exact ⟨_, .base (.lst h), kit_ty (by decide +kernel)⟩
  · exact ⟨_, .base (.tup h), kit_ty (by decide +kernel)⟩
theorem OddU.extN {H H' : Hp} {v : V} (h : OddU H v) (s : LamX.ExtN H H') : OddU H' v := by
  rcases h with h | h | h | ⟨l, xs, e, h | h⟩
  · exact .inl h
  · exact .inr (.inl h)
  · exact .inr (.inr (.inl h))
  · exact .inr (.inr (.inr ⟨l, xs, e, .inl (s _ _ h (fun ps z => by cases z))⟩))
  · exact .inr (.inr (.inr ⟨l, xs, e, .inr (s _ _ h (fun ps z => by cases z))⟩))
def wrongL (N M : Nat) : List Str := ["+" ++ numT N, "0" ++ numT N, numT N ++ "/0", numT N ++ "/0" ++ numT M, numT N ++ "/", "/" ++ numT M, "--1", "1 ", " 1", "1/2/3", "", "-", "1/-2", "a", farT, "1/" ++ farT, "1.5", "1\n", "12a"]
theorem no_wrong {N M : Nat} (h : N < 10 ^ 30) (hm : M < 10 ^ 30) {z : Str} (hz : z ∈ wrongL N M) : No z := by
  unfold wrongL at hz
  rcases List.mem_cons.mp hz with rfl | hz
  · exact no1 h
  rcases List.mem_cons.mp hz with rfl | hz
  · exact no2 h
  rcases List.mem_cons.mp hz with rfl | hz
  · exact no3 h
  rcases List.mem_cons.mp hz with rfl | hz
  · exact no4 h hm
  rcases List.mem_cons.mp hz with rfl | hz
  · exact no5 h
  rcases List.mem_cons.mp hz with rfl | hz
  · exact no6 hm
  · exact no_rest hz
section
variable {P : Program} {w : World} {K : PySem.W.Frag} {mg : Str → Option Value} {base : Heap} {CR CI C1 C2 c PT : Addr}
theorem ok_law {f fBg fP fO fS fL fPr fPt fF gW fr pR : Addr} {fdBg fdP fdO fdS fdL fdPr fdPt fdF fdr : FuncData} {mc : Value}
    {oc kV doc pm ct ocW kVW dcW pmW cdW ctW : Value} {od an odW anW : Option Addr} {osl slW : Array (Option Value)}
    (lk : K.lookup f = some ⟨oc, od, .func (PySem.W.fnOf "law" "law" (defArgs sLaw) (defBody sLaw) (defScope sLaw) .none kV doc pm an (.ref c) ct), osl⟩) (hcd : PySem.W.codeIn K (.ref c) "law" = true)
    (lkW : K.lookup gW = some ⟨ocW, odW, .func (PySem.W.fnOf "_law_why" "_law_why" (defArgs sWhy) (defBody sWhy) (defScope sWhy) .none kVW dcW pmW anW cdW ctW), slW⟩) (ccW : PySem.W.codeIn K cdW "_law_why" = true) (DW : Dn K mg "_law_why" gW)
    (bW : Binds K (PySem.W.fnOf "_law_why" "_law_why" (defArgs sWhy) (defBody sWhy) (defScope sWhy) .none kVW dcW pmW anW cdW ctW) ["_law_ask"] [])
    (TB : LamX.TabB base mg c PT) (m1 : mg "SlopeError" = some (.ref C1)) (m2 : mg "Missing" = some (.ref C2)) (DF : Dn K mg "_law_field" fF) (GF : FnQ P w K mg base 2 fF fdF ["_law_e"] (spFieldE K)) (bF : Binds K fdF ["_law_e"] [])
    (B : Bn mg) (T : RT K mg CR) (TI : ITk K C1 C2 CI)
    (DBg : Dn K mg "_law_bag" fBg) (GBg : FnOk P w K mg base CX0 1 fBg fdBg ["_law_script"] (spBag K)) (bBg : Binds K fdBg ["_law_script"] [])
    (DP : Dn K mg "_law_pull" fP) (GP : FnOk P w K mg base CX0 1 fP fdP ["_law_bag_here", "_law_many"] spPull) (bP : Binds K fdP ["_law_bag_here", "_law_many"] [])
    (DO : Dn K mg "_law_of" fO) (GO : FnOk P w K mg base CX0 2 fO fdO ["_law_bag_here", "_law_things"] spOf) (bO : Binds K fdO ["_law_bag_here", "_law_things"] [])
    (DS : Dn K mg "_law_same" fS) (GS : FnOk P w K mg base CX0 4 fS fdS ["_law_found", "_law_due"] (spSame 4)) (bS : Binds K fdS ["_law_found", "_law_due"] [])
    (DL : Dn K mg "_law_low" fL) (GL : FnOk P w K mg base CX0 1 fL fdL ["_law_top", "_law_bottom"] spLow) (bL : Binds K fdL ["_law_top", "_law_bottom"] [])
    (DPr : Dn K mg "_law_pair" fPr) (GPr : FnOk P w K mg base CX0 1 fPr fdPr ["_law_found"] (spPair CR)) (bPr : Binds K fdPr ["_law_found"] [])
    (DPt : Dn K mg "_law_pair_text" fPt) (GPt : FnOk P w K mg base CX0 1 fPt fdPt ["_law_pair_here"] spPairText) (bPt : Binds K fdPt ["_law_pair_here"] [])
    (SR : StM K CR "read" mc pR fr) (GR : FnOk P w K mg base (L2.CX P w) 5 fr fdr ["text"] (spRead K CR CI)) (bR : Binds K fdr ["text"] []) (kR : KBinds K fdr ["text"] ["text"] (fun us ws => us ++ ws) (fun vs zs => vs ++ zs)) :
    FnOk P w K mg base CX0 8 f (PySem.W.fnOf "law" "law" (defArgs sLaw) (defBody sLaw) (defScope sLaw) .none kV doc pm an (.ref c) ct) ["_law_script"] (spLaw K PT) := by
  refine fn_of lk hcd scLaw (fun vs H Q E h => ?_) (fun A outer s H vs Q E hr h => ?_)
  · obtain ⟨a, ns, rfl, _⟩ := h
    rfl
  · obtain ⟨a, ns, rfl, hS, hlen, hP, q⟩ := h
    have r1 : Room 1 _ := hr.mono (by decide)
    have r2 : Room 2 _ := hr.mono (by decide)
    have r3 : Room 3 _ := hr.mono (by decide)
    have r4 : Room 4 _ := hr.mono (by decide)
    have r5 : Room 5 _ := hr.mono (by decide)
    refine ⟨_, PSs.nox (pss_cons (ps_set (i := 1) scLaw.nd rfl (Or.inl rfl) (pe_call GBg r1 (by rfl) DBg.gl DBg.kp bBg .nil pass0 (pa_cons (pv 0) pa_nil)))
      (pss_cons (ps_for PassesOwn.never rfl (pi_range1 rfl B.frange (pa_cons pe_int pa_nil)) (pg_name (i := 2) scLaw.nd rfl (Or.inl rfl))
        (C8.pss_cut (ps_set (i := 3) scLaw.nd rfl (Or.inl rfl) (pe_op op_mulW (pe_call GP r1 (by rfl) DP.gl DP.kp bP .nil pass0 (pa_cons (pv 1) (pa_cons (pe_op op_pow pe_int pe_int) pa_nil))) (pe_callTy call_int_str (by rfl) B.tint (by decide +kernel) (pa_cons (pe_op op_add_str pe_str (pe_op op_mulStr pe_str (pe_call GP r1 (by rfl) DP.gl DP.kp bP .nil pass0 (pa_cons (pv 1) (pa_cons pe_int pa_nil))))) pa_nil))))
        (C8.pss_cut (ps_set (i := 4) scLaw.nd rfl (Or.inl rfl) (pe_op op_add pe_int (pe_call GP r1 (by rfl) DP.gl DP.kp bP .nil pass0 (pa_cons (pv 1) (pa_cons pe_int pa_nil)))))
        (C8.pss_cut (ps_set (i := 5) scLaw.nd rfl (Or.inl rfl) (pe_call GO r2 (by rfl) DO.gl DO.kp bO .nil pass0 (pa_cons (pv 1) (pa_cons (pe_lst (pa_cons pe_str (pa_cons pe_str pa_nil))) pa_nil))))
        (C8.pss_cut (ps_set (i := 6) scLaw.nd rfl (Or.inl rfl) (pe_ifExp (pt_cmpR op_eq (pv 5) pe_str (nomark _)) (pe_un un_neg (pv 3)) (pv 3)))
        (C8.pss_cut (ps_if (pt_cmpR (op_neD hr.units) (pe_call GPr r1 (by rfl) DPr.gl DPr.kp bPr .nil pass0 (pa_cons (pe_smeth (E := E0) (by rfl) T.gl SR GR r5 bR .nil passL (pa_cons (pe_op op_add_str (pe_op op_add_str (pe_op op_add_str (pv 5) (pe_callTy call_str_int (by rfl) B.tstr (by decide +kernel) (pa_cons (pv 3) pa_nil))) pe_str) (pe_callTy call_str_int (by rfl) B.tstr (by decide +kernel) (pa_cons (pv 4) pa_nil))) pa_nil)) pa_nil)) (pe_call GL r1 (by rfl) DL.gl DL.kp bL .nil pass0 (pa_cons (pv 6) (pa_cons (pv 4) pa_nil))) (nomark _)) (pss_one (ps_ret pe_bl)) pss_nil)
        (C8.pss_cut (ps_if (pt_cmpR (op_neD hr.units) (pe_call GPr r1 (by rfl) DPr.gl DPr.kp bPr .nil pass0 (pa_cons (pe_smeth (E := E0) (by rfl) T.gl SR GR r5 bR .nil passL (pa_cons (pe_op op_add_str (pv 5) (pe_callTy call_str_int (by rfl) B.tstr (by decide +kernel) (pa_cons (pv 3) pa_nil))) pa_nil)) pa_nil)) (pe_tup (pa_cons (pv 6) (pa_cons pe_int pa_nil))) (nomark _)) (pss_one (ps_ret pe_bl)) pss_nil)
        (C8.pss_cut (ps_set (i := 7) scLaw.nd rfl (Or.inl rfl) (pe_call GL r1 (by rfl) DL.gl DL.kp bL .nil pass0 (pa_cons (pv 6) (pa_cons (pv 4) pa_nil))))
        (C8.pss_cut (ps_if (pt_cmpR (op_neD hr.units) (pe_call GPr r1 (by rfl) DPr.gl DPr.kp bPr .nil pass0 (pa_cons (pe_smethK (E := E0) (by rfl) T.gl SR GR r5 kR passL (pk_cons (pe_call GPt r1 (by rfl) DPt.gl DPt.kp bPt .nil pass0 (pa_cons (pv 7) pa_nil)) pk_nil)) pa_nil)) (pv 7) (nomark _)) (pss_one (ps_ret pe_bl)) pss_nil)
        (pss_cons (ps_set (i := 8) scLaw.nd rfl (Or.inl rfl) (pe_op op_add_str pe_str (pe_op op_mulStr pe_str pe_int)))
        (C8.pss_cut (ps_set (i := 9) scLaw.nd rfl (Or.inl rfl) (pe_lst (pa_cons (pe_op op_add_str pe_str (pe_callTy call_str_int (by rfl) B.tstr (by decide +kernel) (pa_cons (pv 3) pa_nil))) (pa_cons (pe_op op_add_str pe_str (pe_callTy call_str_int (by rfl) B.tstr (by decide +kernel) (pa_cons (pv 3) pa_nil))) (pa_cons (pe_op op_add_str (pe_callTy call_str_int (by rfl) B.tstr (by decide +kernel) (pa_cons (pv 3) pa_nil)) pe_str) (pa_cons (pe_op op_add_str (pe_op op_add_str (pe_callTy call_str_int (by rfl) B.tstr (by decide +kernel) (pa_cons (pv 3) pa_nil)) pe_str) (pe_callTy call_str_int (by rfl) B.tstr (by decide +kernel) (pa_cons (pv 4) pa_nil))) (pa_cons (pe_op op_add_str (pe_callTy call_str_int (by rfl) B.tstr (by decide +kernel) (pa_cons (pv 3) pa_nil)) pe_str) (pa_cons (pe_op op_add_str pe_str (pe_callTy call_str_int (by rfl) B.tstr (by decide +kernel) (pa_cons (pv 4) pa_nil))) (pa_cons pe_str (pa_cons pe_str (pa_cons pe_str (pa_cons pe_str (pa_cons pe_str (pa_cons pe_str (pa_cons pe_str (pa_cons pe_str (pa_cons (pv 8) (pa_cons (pe_op op_add_str pe_str (pv 8)) (pa_cons pe_str (pa_cons pe_str (pa_cons pe_str pa_nil)))))))))))))))))))))
        (C8.pss_cut (ps_set (i := 11) scLaw.nd rfl (Or.inr rfl) (pe_call GO r2 (by rfl) DO.gl DO.kp bO .nil pass0 (pa_cons (pv 1) (pa_cons (pv 9) pa_nil))))
        (C8.pss_cut (ps_if (pt_not (pt_val (pe_call GS r4 (by rfl) DS.gl DS.kp bS .nil pass0 (pa_cons (LamX.pe_lamcall (T := [(PT, qn)]) (TT := TTwhy K C1 C2) (t := fun E => tCall (spRead K CR CI) [] E (tCons (tVar 11) tNil)) (k := 5) (by rfl) DW.gl DW.kp lkW ccW bW scWhy rfl (.inl rfl) (why_gives r3 DF GF bF m1 m2) TB rfl (List.mem_singleton.mpr rfl) (fun p hp _ => congrArg Prod.snd (List.mem_singleton.mp hp)) hr (LamX.lamS_by rfl) rfl (fun _ _ _ _ _ => rfl) (fun A outer s H E f c hr => pe_smeth (E := E) (by rfl) T.gl SR GR hr bR .nil (passes_call (takes_of rfl rfl rfl rfl) fun _ _ _ _ z => z) (pa_cons (pv 11) pa_nil))) (pa_cons (pe_tup (pa_cons pe_str (pa_cons pe_int pa_nil))) pa_nil))))) (pss_one (ps_ret pe_bl)) pss_nil)
        (C8.pss_cut (ps_set (i := 10) scLaw.nd rfl (Or.inr rfl) (pe_call GO r2 (by rfl) DO.gl DO.kp bO .nil pass0 (pa_cons (pv 1) (pa_cons (pe_lst (pa_cons pe_non (pa_cons pe_int (pa_cons pe_bl (pa_cons (pe_lst (pa_cons pe_str pa_nil)) (pa_cons (pe_tup (pa_cons pe_str pa_nil)) pa_nil)))))) pa_nil))))
        (pss_one (ps_if (pt_not (pt_val (pe_call GS r4 (by rfl) DS.gl DS.kp bS .nil pass0 (pa_cons (LamX.pe_lamcall (T := [(PT, qn)]) (TT := TTwhy K C1 C2) (t := fun E => tCall (spRead K CR CI) [] E (tCons (tVar 10) tNil)) (k := 5) (by rfl) DW.gl DW.kp lkW ccW bW scWhy rfl (.inl rfl) (why_gives r3 DF GF bF m1 m2) TB rfl (List.mem_singleton.mpr rfl) (fun p hp _ => congrArg Prod.snd (List.mem_singleton.mp hp)) hr (LamX.lamS_by rfl) rfl (fun _ _ _ _ _ => rfl) (fun A outer s H E f c hr => pe_smeth (E := E) (by rfl) T.gl SR GR hr bR .nil (passes_call (takes_of rfl rfl rfl rfl) fun _ _ _ _ z => z) (pa_cons (pv 10) pa_nil))) (pa_cons (pe_tup (pa_cons pe_str (pa_cons pe_int pa_nil))) pa_nil))))) (pss_one (ps_ret pe_bl)) pss_nil))))))))))))))))
      (pss_one (ps_ret (pe_and (pe_cmpR (op_eqD hr.units) (pe_call GPr r1 (by rfl) DPr.gl DPr.kp bPr .nil pass0 (pa_cons (pe_smeth (E := E0) (by rfl) T.gl SR GR r5 bR .nil passL (pa_cons (pe_op op_add_str pe_str (pe_op op_mulStr pe_str pe_int)) pa_nil)) pa_nil)) (pe_tup (pa_cons (pe_op op_pow pe_int pe_int) (pa_cons pe_int pa_nil))) (nomark _)) (pe_one (pe_cmpR (op_eqD hr.units) (pe_call GPr r1 (by rfl) DPr.gl DPr.kp bPr .nil pass0 (pa_cons (pe_smeth (E := E0) (by rfl) T.gl SR GR r5 bR .nil passL (pa_cons pe_str pa_nil)) pa_nil)) (pe_tup (pa_cons pe_int (pa_cons pe_int pa_nil))) (nomark _)))))))), ?_⟩
    refine ⟨_, rfl, a, ns, rfl, hS, fun b H1 B1 nb s1 => ?_⟩
    have T1 : LamX.Tabs [(PT, qn)] H1 := fun p hp => by
      cases List.mem_singleton.mp hp
      exact LamX.TabS.nil (s1 _ _ hP)
    clear hS hlen hP s1 nb
    refine ⟨3, rfl, by decide, by decide, for_range (n := 3) (fun i σ H' => ∃ x2 x3 x4 x5 x6 x7 x8 x9 x10 x11 : Option V, σ = [some (.ref a), some (.ref b), x2, x3, x4, x5, x6, x7, x8, x9, x10, x11] ∧ BagAt H' b (i * 20) ∧ LamX.Tabs [(PT, qn)] H') ⟨none, none, none, none, none, none, none, none, none, none, rfl, B1, T1⟩ ?_ ?_⟩
    · clear B1 T1 H1
      rintro i σ H0 hi ⟨x2, x3, x4, x5, x6, x7, x8, x9, x10, x11, rfl, B0, T0⟩
      refine ⟨fun σ H' => ∃ N : Nat, N < 10 ^ 30 ∧ σ = [some (.ref a), some (.ref b), some (.int (0 + (i : Int))), some (.int (N : Int)), x4, x5, x6, x7, x8, x9, x10, x11] ∧ BagAt H' b (i * 20 + 2) ∧ LamX.Tabs [(PT, qn)] H', ?_, ?_⟩
      · refine ⟨_, rfl, _, _, rfl, rfl, ⟨by decide, by decide, by decide⟩, b, (10 : Int) ^ Int.toNat 9, i * 20, rfl, by decide, by decide, B0, by omega, fun p H1 p0 p1 B1 f1 => ?_⟩
        refine ⟨_, rfl, b, 8, i * 20 + 1, rfl, by decide, by decide, B1, by omega, fun k H2 k0 k1 B2 f2 => ?_⟩
        obtain ⟨ok, l30, it⟩ := mul_ok k k0 k1
        have e9 : (10 : Int) ^ Int.toNat 9 = 1000000000 := by decide
        rw [e9] at p1
        obtain ⟨ys, hb⟩ := B0.lst
        obtain ⟨ys1, hb1⟩ := B1.lst
        refine ⟨"000", k, rfl, rfl, ok, _, _, rfl, rfl, ?_, _, _, rfl, it, by omega, ?_⟩
        · rw [PySem.Str.length_append] at l30
          exact fit (m := 30) l30 (by decide)
        have bp : Bd 30 p := Bd.of (m := 1000000000) (by omega) (by decide)
        have bk : Bd 1000 ((10 : Int) ^ (3 * k.toNat)) := by
          unfold Bd
          rw [Int.natAbs_pow]
          exact Nat.lt_of_le_of_lt (Nat.pow_le_pow_right (by decide) (by omega : 3 * k.toNat ≤ 21)) (by decide +kernel)
        refine ⟨_, _, rfl, rfl, wide_mul bp bk (by decide) (by decide) (by decide), (p * 10 ^ (3 * k.toNat)).toNat, ?_, ?_, B2, Tabs.but (Tabs.but T0 hb f1) hb1 f2⟩
        · have e : (p * 10 ^ (3 * k.toNat)).toNat = p.toNat * 10 ^ (3 * k.toNat) := by
            obtain ⟨q, rfl⟩ : ∃ q : Nat, p = (q : Int) := ⟨p.toNat, by omega⟩
            rfl
          rw [e]
          have h1 : p.toNat < 10 ^ 9 := by
            have : (10 : Nat) ^ 9 = 1000000000 := by decide
            omega
          have h2 : 10 ^ (3 * k.toNat) ≤ 10 ^ 21 := Nat.pow_le_pow_right (by decide) (by omega)
          have h3 : p.toNat * 10 ^ (3 * k.toNat) ≤ p.toNat * 10 ^ 21 := Nat.mul_le_mul_left _ h2
          have h4 : p.toNat * 10 ^ 21 < 10 ^ 9 * 10 ^ 21 := Nat.mul_lt_mul_of_pos_right h1 (by decide)
          have h5 : (10 : Nat) ^ 9 * 10 ^ 21 = 10 ^ 30 := by decide
          omega
        · have e : ((p * 10 ^ (3 * k.toNat)).toNat : Int) = p * 10 ^ (3 * k.toNat) := Int.toNat_of_nonneg (Int.mul_nonneg p0 (Int.le_of_lt (Int.pow_pos (by decide))))
          rw [e]
          rfl
      · clear B0 T0 H0
        rintro σ H0 ⟨N, hN, rfl, B0, T0⟩
        refine ⟨fun σ H' => ∃ M : Nat, 0 < M ∧ M ≤ 400 ∧ σ = [some (.ref a), some (.ref b), some (.int (0 + (i : Int))), some (.int (N : Int)), some (.int (M : Int)), x5, x6, x7, x8, x9, x10, x11] ∧ BagAt H' b (i * 20 + 3) ∧ LamX.Tabs [(PT, qn)] H', ?_, ?_⟩
        · refine ⟨_, rfl, b, 400, i * 20 + 2, rfl, by decide, by decide, B0, by omega, fun r H1 r0 r1 B1 f1 => ⟨_, _, rfl, rfl, (1 + r).toNat, by omega, by omega, ?_, B1, ?_⟩⟩
          · rw [Int.toNat_of_nonneg (by omega)]
            rfl
          · obtain ⟨ys, hb⟩ := B0.lst
            exact Tabs.but T0 hb f1
        · clear B0 T0 H0
          rintro σ H0 ⟨M, m0, m1, rfl, B0, T0⟩
          have hM : M < 10 ^ 30 := Nat.lt_of_le_of_lt m1 (by decide)
          refine ⟨fun σ H' => ∃ neg : Bool, σ = [some (.ref a), some (.ref b), some (.int (0 + (i : Int))), some (.int (N : Int)), some (.int (M : Int)), some (.str (ngT neg)), x6, x7, x8, x9, x10, x11] ∧ BagAt H' b (i * 20 + 4) ∧ LamX.Tabs [(PT, qn)] H', ?_, ?_⟩
          · refine ⟨_, rfl, (by show 2 ≤ sizeLine; decide), fun L hL => ?_⟩
            have sL := same_upd (o := .lst [V.str "", .str "-"]) hL
            obtain ⟨ys, hb⟩ := B0.lst
            refine ⟨b, L, i * 20 + 3, _, rfl, B0.same sL, by omega, (ne_of_none hb hL).symm, upd_same, (by show 0 < 2; decide), (by show 2 ≤ 1000; decide), fun j v H1 hj B1 f1 => ?_⟩
            have T1 := Tabs.but (Tabs.same T0 sL) (sL _ _ hb) f1
            match j, hj with
            | 0, hj =>
              obtain rfl := Option.some.inj hj
              exact ⟨false, rfl, B1, T1⟩
            | 1, hj =>
              obtain rfl := Option.some.inj hj
              exact ⟨true, rfl, B1, T1⟩
          · clear B0 T0 H0
            rintro σ H0 ⟨neg, rfl, B0, T0⟩
            refine ⟨fun σ H' => σ = [some (.ref a), some (.ref b), some (.int (0 + (i : Int))), some (.int (N : Int)), some (.int (M : Int)), some (.str (ngT neg)), some (.int (ngI neg N)), x7, x8, x9, x10, x11] ∧ H' = H0, ?_, ?_⟩
            · refine ⟨_, rfl, rfl, _, rfl, ?_⟩
              cases neg with
              | true => exact iteT ⟨_, rfl, _, rfl, rfl, rfl⟩
              | false => exact iteF ⟨_, rfl, rfl, rfl⟩
            · rintro σ H' ⟨rfl, rfl⟩
              have lN : (numT N).length ≤ 30 := numT_len hN
              have lM : (numT M).length ≤ 30 := numT_len hM
              have lg := ng_len neg
              have l1 := app_len lg lN
              have l2 := app_len l1 (show ("/" : Str).length ≤ 1 by decide)
              have logN : ((N : Nat) : Int).natAbs.log2 < 1920 := log2_30 (by rw [Int.natAbs_natCast]; exact hN)
              have logM : ((M : Nat) : Int).natAbs.log2 < 1920 := log2_30 (by rw [Int.natAbs_natCast]; exact hM)
              have mne : (M : Int) ≠ 0 := by omega
              have bM : Bd 8000 (M : Int) := Bd.of (m := 400) (by omega) (by decide +kernel)
              refine ⟨fun σ H1 => σ = [some (.ref a), some (.ref b), some (.int (0 + (i : Int))), some (.int (N : Int)), some (.int (M : Int)), some (.str (ngT neg)), some (.int (ngI neg N)), x7, x8, x9, x10, x11] ∧ Same H' H1, ?_, ?_⟩
              · refine ⟨_, rfl, _, rfl, _, rfl, logN, _, _, rfl, rfl, fit (m := 100) (by show (ngT neg).length + (numT N).length ≤ 100; omega) (by decide), _, _, rfl, rfl, fit (m := 100) (by have : ("/" : Str).length ≤ 1 := (by decide); show (ngT neg ++ numT N).length + _ ≤ 100; omega) (by decide), _, rfl, _, rfl, logM, _, _, rfl, rfl, fit (m := 100) (by show (ngT neg ++ numT N ++ "/").length + (numT M).length ≤ 100; omega) (by decide), ?_⟩
                have rd := rd2 (neg := neg) hN hM m0
                rw [← asc] at rd
                refine .inl ⟨_, _, _, rfl, rd, fun x K1 rx s1 => ⟨x, _, _, rfl, rx, fun u K2 hu s2 => ?_⟩⟩
                refine ⟨_, rfl, _, rfl, _, _, rfl, mne, bM, fun v K3 hv s3 => ?_⟩
                refine ⟨_, _, tup_dp (hu.same s3), tup_dp hv, rfl, rfl, _, rfl, ?_⟩
                rw [SeqAt.eqv_refl _ rfl]
                exact iteF ⟨rfl, (s1.trans s2).trans s3⟩
              · rintro σ H1 ⟨rfl, s1⟩
                have B1 := B0.same s1
                have T1 := Tabs.same T0 s1
                clear s1 B0 T0 H'
                refine ⟨fun σ H2 => σ = [some (.ref a), some (.ref b), some (.int (0 + (i : Int))), some (.int (N : Int)), some (.int (M : Int)), some (.str (ngT neg)), some (.int (ngI neg N)), x7, x8, x9, x10, x11] ∧ Same H1 H2, ?_, ?_⟩
                · refine ⟨_, rfl, _, rfl, _, rfl, logN, _, _, rfl, rfl, fit (m := 100) (by show (ngT neg).length + (numT N).length ≤ 100; omega) (by decide), ?_⟩
                  refine .inl ⟨_, _, _, rfl, rd1 (neg := neg) hN, fun x K1 rx s1 => ⟨x, _, _, rfl, rx, fun u K2 hu s2 => ?_⟩⟩
                  refine ⟨_, rfl, (by show 2 ≤ sizeLine; decide), fun v hv => ?_⟩
                  have sv := same_upd (o := .tup [.int (ngI neg N), .int 1]) hv
                  refine ⟨_, _, tup_dp (hu.same sv), tup_dp (t := ngI neg N) (b := 1) upd_same, rfl, rfl, _, rfl, ?_⟩
                  rw [SeqAt.eqv_refl _ rfl]
                  exact iteF ⟨rfl, (s1.trans s2).trans sv⟩
                · rintro σ H2 ⟨rfl, s2⟩
                  have B2 := B1.same s2
                  have T2 := Tabs.same T1 s2
                  clear s2 B1 T1 H1
                  refine ⟨fun σ H3 => ∃ p : Addr, σ = [some (.ref a), some (.ref b), some (.int (0 + (i : Int))), some (.int (N : Int)), some (.int (M : Int)), some (.str (ngT neg)), some (.int (ngI neg N)), some (.ref p), x8, x9, x10, x11] ∧ TupI H3 p (nT (ngI neg N) M) (nB (ngI neg N) M) ∧ Same H2 H3, ?_, ?_⟩
                  · exact ⟨_, rfl, _, rfl, _, _, rfl, mne, bM, fun p K1 hp s1 => ⟨p, rfl, hp, s1⟩⟩
                  · rintro σ H3 ⟨p, rfl, hp, s3⟩
                    have B3 := B2.same s3
                    have T3 := Tabs.same T2 s3
                    clear s3 B2 T2 H2
                    have na := n_abs (t := ngI neg N) mne
                    have ea : (ngI neg (N : Int)).natAbs = N := by cases neg <;> simp [ngI]
                    have hT : (nT (ngI neg N) M).natAbs < 10 ^ 30 := by omega
                    have hB : (nB (ngI neg N) M).natAbs < 10 ^ 30 := by
                      have := na.2
                      rw [Int.natAbs_natCast] at this
                      omega
                    refine ⟨fun σ H4 => σ = [some (.ref a), some (.ref b), some (.int (0 + (i : Int))), some (.int (N : Int)), some (.int (M : Int)), some (.str (ngT neg)), some (.int (ngI neg N)), some (.ref p), x8, x9, x10, x11] ∧ Same H3 H4, ?_, ?_⟩
                    · refine ⟨_, rfl, p, _, _, rfl, hp, hT, hB, ?_⟩
                      refine .inl ⟨_, _, _, rfl, rd_pair (nB_pos mne) (n_cop mne) hT hB, fun x K1 rx s1 => ⟨x, _, _, rfl, rx, fun u K2 hu s2 => ?_⟩⟩
                      refine ⟨_, rfl, _, _, tup_dp hu, tup_dp (hp.same (s1.trans s2)), rfl, rfl, _, rfl, ?_⟩
                      rw [SeqAt.eqv_refl _ rfl]
                      exact iteF ⟨rfl, s1.trans s2⟩
                    · rintro σ H4 ⟨rfl, s4⟩
                      have B4 := B3.same s4
                      have T4 := Tabs.same T3 s4
                      clear s4 B3 T3 hp H3
                      refine ⟨"0", 30, rfl, rfl, by unfold MulOk; decide +kernel, _, _, rfl, rfl, by decide +kernel, ?_⟩
                      refine ⟨fun σ H5 => ∃ W : Addr, σ = [some (.ref a), some (.ref b), some (.int (0 + (i : Int))), some (.int (N : Int)), some (.int (M : Int)), some (.str (ngT neg)), some (.int (ngI neg N)), some (.ref p), some (.str farT), some (.ref W), x10, x11] ∧ H5 W = some (.lst ((wrongL N M).map V.str)) ∧ W ≠ b ∧ Same H4 H5, ?_, ?_⟩
                      · have c1 : ∀ z : Str, z.length ≤ 5 → z.length + (numT N).length ≤ sizeLine := fun z h => fit (m := 100) (by omega) (by decide)
                        have c2 : ∀ z : Str, z.length ≤ 5 → (numT N).length + z.length ≤ sizeLine := fun z h => fit (m := 100) (by omega) (by decide)
                        have c3 : (numT N ++ "/0").length + (numT M).length ≤ sizeLine := fit (m := 100) (by have := app_len lN (show ("/0" : Str).length ≤ 2 by decide); omega) (by decide)
                        have c4 : ("/" : Str).length + (numT M).length ≤ sizeLine := fit (m := 100) (by have : ("/" : Str).length ≤ 1 := (by decide); omega) (by decide)
                        refine ⟨_, rfl, _, rfl, logN, _, _, rfl, rfl, c1 _ (by decide), _, rfl, _, rfl, logN, _, _, rfl, rfl, c1 _ (by decide), _, rfl, _, rfl, logN, _, _, rfl, rfl, c2 _ (by decide), ?_⟩
                        refine ⟨_, rfl, _, rfl, logN, _, _, rfl, rfl, c2 _ (by decide), _, rfl, _, rfl, logM, _, _, rfl, rfl, c3, _, rfl, _, rfl, logN, _, _, rfl, rfl, c2 _ (by decide), _, rfl, _, rfl, logM, _, _, rfl, rfl, c4, ?_⟩
                        refine ⟨_, rfl, _, rfl, _, _, rfl, rfl, by decide +kernel, (by show 19 ≤ sizeLine; decide), fun W hW => ?_⟩
                        obtain ⟨ys, hb⟩ := B4.lst
                        exact ⟨W, rfl, upd_same, (ne_of_none hb hW).symm, same_upd hW⟩
                      · rintro σ H5 ⟨W, rfl, hW, nW, s5⟩
                        have B5 := B4.same s5
                        have T5 := Tabs.same T4 s5
                        clear s5 B4 T4 H4
                        refine ⟨fun σ H6 => ∃ z : Str, σ = [some (.ref a), some (.ref b), some (.int (0 + (i : Int))), some (.int (N : Int)), some (.int (M : Int)), some (.str (ngT neg)), some (.int (ngI neg N)), some (.ref p), some (.str farT), some (.ref W), x10, some (.str z)] ∧ No z ∧ BagAt H6 b (i * 20 + 5) ∧ LamX.Tabs [(PT, qn)] H6, ?_, ?_⟩
                        · obtain ⟨ys, hb⟩ := B5.lst
                          refine ⟨_, rfl, _, rfl, b, W, i * 20 + 4, _, rfl, B5, by omega, nW, hW, (by show 0 < 19; decide), (by show 19 ≤ 1000; decide), fun j v H6 hj B6 f6 => ?_⟩
                          obtain ⟨z, hz, rfl⟩ := List.mem_map.mp (List.mem_of_getElem? hj)
                          exact ⟨z, rfl, no_wrong hN hM hz, B6, Tabs.but T5 hb f6⟩
                        · clear hW nW B5 T5 H5
                          rintro σ H5 ⟨z, rfl, nz, B5, T5⟩
                          refine ⟨fun σ H6 => σ = [some (.ref a), some (.ref b), some (.int (0 + (i : Int))), some (.int (N : Int)), some (.int (M : Int)), some (.str (ngT neg)), some (.int (ngI neg N)), some (.ref p), some (.str farT), some (.ref W), x10, some (.str z)] ∧ BagAt H6 b (i * 20 + 5) ∧ LamX.Tabs [(PT, qn)] H6, ?_, ?_⟩
                          · refine ⟨T5, fun H8 x8 T8 => ?_⟩
                            have B8 := B5.extN x8
                            refine ⟨_, rfl, .inr (.inl ⟨z, rfl, nz, told_it TI fun t H9 ht s9 => ?_⟩)⟩
                            refine ⟨(by show 2 ≤ sizeLine; decide), fun t2 ht2 => ?_⟩
                            have s10 := same_upd (o := .tup [.str "InvalidText", .int 0]) ht2
                            refine ⟨.ref t, .ref t2, rfl, .inr ⟨t, t2, _, _, rfl, rfl, .inl ⟨s10 _ _ ht, upd_same⟩, rfl, (by show 2 ≤ 1000; decide), fun j x y hx hy => ?_⟩, fun H11 s11 => ⟨_, rfl, iteF ⟨rfl, B8.same ((s9.trans s10).trans s11), Tabs.same T8 ((s9.trans s10).trans s11)⟩⟩⟩
                            match j, hx, hy with
                            | 0, hx, hy =>
                              obtain rfl := Option.some.inj hx
                              obtain rfl := Option.some.inj hy
                              exact like_str _
                            | 1, hx, hy =>
                              obtain rfl := Option.some.inj hx
                              obtain rfl := Option.some.inj hy
                              exact like_int _
                          · clear nz B5 T5 H5
                            rintro σ H5 ⟨rfl, B5, T5⟩
                            refine ⟨fun σ H6 => ∃ v : V, σ = [some (.ref a), some (.ref b), some (.int (0 + (i : Int))), some (.int (N : Int)), some (.int (M : Int)), some (.str (ngT neg)), some (.int (ngI neg N)), some (.ref p), some (.str farT), some (.ref W), some v, some (.str z)] ∧ OddU H6 v ∧ BagAt H6 b (i * 20 + 6) ∧ LamX.Tabs [(PT, qn)] H6, ?_, ?_⟩
                            · obtain ⟨ys, hb⟩ := B5.lst
                              refine ⟨_, rfl, (by show 1 ≤ sizeLine; decide), fun l hl => ⟨(by show 1 ≤ sizeLine; decide), fun t ht => ⟨(by show 5 ≤ sizeLine; decide), fun L hL => ?_⟩⟩⟩
                              have sl := same_upd (o := .lst [V.str "1"]) hl
                              have st := same_upd (o := .tup [V.str "1"]) ht
                              have sL := same_upd (o := .lst [V.non, .int 5, .bl true, .ref l, .ref t]) hL
                              have S := (sl.trans st).trans sL
                              have nL : L ≠ b := (ne_of_none ((sl.trans st) _ _ hb) hL).symm
                              have nl : l ≠ b := (ne_of_none hb hl).symm
                              have nt : t ≠ b := (ne_of_none (sl _ _ hb) ht).symm
                              refine ⟨b, L, i * 20 + 5, _, rfl, B5.same S, by omega, nL, upd_same, (by show 0 < 5; decide), (by show 5 ≤ 1000; decide), fun j v H8 hj B8 f8 => ?_⟩
                              have hl2 := f8 _ _ (sL _ _ (st _ _ (upd_same (H := H5) (a := l) (o := .lst [V.str "1"])))) nl
                              have ht2 := f8 _ _ (sL _ _ (upd_same (a := t) (o := .tup [V.str "1"]))) nt
                              refine ⟨v, rfl, ?_, B8, Tabs.but (Tabs.same T5 S) (S _ _ hb) f8⟩
                              match j, hj with
                              | 0, hj => exact .inl (Option.some.inj hj).symm
                              | 1, hj => exact .inr (.inl (Option.some.inj hj).symm)
                              | 2, hj => exact .inr (.inr (.inl (Option.some.inj hj).symm))
                              | 3, hj => exact .inr (.inr (.inr ⟨l, _, (Option.some.inj hj).symm, .inl hl2⟩))
                              | 4, hj => exact .inr (.inr (.inr ⟨t, _, (Option.some.inj hj).symm, .inr ht2⟩))
                            · clear B5 T5 H5
                              rintro σ H5 ⟨v, rfl, odd, B5, T5⟩
                              refine ⟨T5, fun H8 x8 T8 => ?_⟩
                              have B8 := B5.extN x8
                              obtain ⟨ty, h1, h2⟩ := OddU.ty (K := K) (odd.extN x8)
                              refine ⟨_, rfl, .inr (.inr ⟨v, ty, rfl, h1, h2, told_it TI fun t H9 ht s9 => ?_⟩)⟩
                              refine ⟨(by show 2 ≤ sizeLine; decide), fun t2 ht2 => ?_⟩
                              have s10 := same_upd (o := .tup [.str "InvalidText", .int 0]) ht2
                              refine ⟨.ref t, .ref t2, rfl, .inr ⟨t, t2, _, _, rfl, rfl, .inl ⟨s10 _ _ ht, upd_same⟩, rfl, (by show 2 ≤ 1000; decide), fun j x y hx hy => ?_⟩, fun H11 s11 => ⟨_, rfl, iteF ⟨_, _, _, _, _, _, _, _, _, _, rfl, (B8.same ((s9.trans s10).trans s11)).more (by omega), Tabs.same T8 ((s9.trans s10).trans s11)⟩⟩⟩
                              match j, hx, hy with
                              | 0, hx, hy =>
                                obtain rfl := Option.some.inj hx
                                obtain rfl := Option.some.inj hy
                                exact like_str _
                              | 1, hx, hy =>
                                obtain rfl := Option.some.inj hx
                                obtain rfl := Option.some.inj hy
                                exact like_int _
    · rintro σ H2 ⟨x2, x3, x4, x5, x6, x7, x8, x9, x10, x11, rfl, B2, T2⟩
      refine ⟨"0", 29, rfl, rfl, by unfold MulOk; decide +kernel, _, _, rfl, rfl, by decide +kernel, ?_⟩
      refine .inl ⟨_, _, _, rfl, last1, fun x K1 rx s1 => ⟨x, _, _, rfl, rx, fun u K2 hu s2 => ?_⟩⟩
      refine ⟨_, _, rfl, rfl, ⟨by decide, by decide, by decide⟩, (by show 2 ≤ sizeLine; decide), fun v hv => ?_⟩
      have sv := same_upd (o := .tup [.int (10 ^ 29), .int 1]) hv
      refine ⟨_, _, tup_dp (hu.same sv), tup_dp (t := 10 ^ 29) (b := 1) upd_same, rfl, rfl, _, rfl, ?_⟩
      rw [SeqAt.eqv_refl _ rfl]
      refine iteT ?_
      refine .inl ⟨_, _, _, rfl, last2, fun x2 K3 rx2 s3 => ⟨x2, _, _, rfl, rx2, fun u2 K4 hu2 s4 => ?_⟩⟩
      refine ⟨(by show 2 ≤ sizeLine; decide), fun v2 hv2 => ?_⟩
      have sv2 := same_upd (o := .tup [.int 0, .int 1]) hv2
      refine ⟨_, _, tup_dp (hu2.same sv2), tup_dp (t := 0) (b := 1) upd_same, rfl, rfl, ?_⟩
      rw [SeqAt.eqv_refl _ rfl]
      exact q _
end
end K04

set_option Elab.async false
set_option linter.all false
set_option maxRecDepth 100000
set_option maxHeartbeats 8000000
set_option pp.maxSteps 400
namespace K04
open PySem PySem.Spec PyProof.Rows L2 Ux
def isB (a : Option (Option Value)) (v : Value) : Bool := decide (a = some (some v))
def isN (a : Option (Option Value)) : Bool := decide (a = some none)
theorem isB_of {a : Option (Option Value)} {v : Value} (h : isB a v = true) : a = some (some v) := of_decide_eq_true h
theorem isN_of {a : Option (Option Value)} (h : isN a = true) : a = some none := of_decide_eq_true h
/-- what every class of the text has -/
def chC (K : PySem.W.Frag) (C f : Addr) : Bool := PySem.W.plainGet K C Str.empty && (PySem.W.hasDictIn K C && (PySem.W.plainOver K C && (isB (PySem.W.findIn K (.ref C) "__setattr__") (.builtin "object.__setattr__") &&
  (isB (PySem.W.findIn K (.ref C) "__class__") (.builtin "object.__class__") && (decide (PySem.W.mroIn K C (.type "object") = some true) && (decide (PySem.W.kitOne K (.ref C) (.ref C) = some true) &&
  (PySem.W.makesIn K C && (isB (PySem.W.findIn K (.ref C) "__init__") (.ref f) && (PySem.W.isFn K (.ref f) && PySem.W.keepIn K (.ref C))))))))))
def chM (K : PySem.W.Frag) (C : Addr) (m : Str) (f : Addr) : Bool := isB (PySem.W.findIn K (.ref C) m) (.ref f) && PySem.W.isFn K (.ref f)
def chG (K : PySem.W.Frag) : Bool := isB (PySem.W.specialIn K (.builtin "object.__class__") "__get__") (.builtin "getset_descriptor.__get__") && decide (PySem.W.takesIn K (.builtin "object.__class__") = some true)
theorem cls_of {K : PySem.W.Frag} {C f : Addr} (h : chC K C f = true) : Cls K C ∧ PySem.W.findIn K (.ref C) "__class__" = some (some (.builtin "object.__class__")) ∧ PySem.W.mroIn K C (.type "object") = some true ∧ PySem.W.kitOne K (.ref C) (.ref C) = some true ∧ Mk K C f := by
  simp only [chC, Bool.and_eq_true] at h
  obtain ⟨h1, h2, h3, h4, h5, h6, h7, h8, h9, h10, h11⟩ := h
  exact ⟨⟨h1, h2, h3, isB_of h4⟩, isB_of h5, of_decide_eq_true h6, of_decide_eq_true h7, ⟨h8, isB_of h9, h10, h11⟩⟩
theorem own_of {K : PySem.W.Frag} {C : Addr} {m : Str} {f : Addr} (h : chM K C m f = true) : OwnM K C m f := ⟨isB_of (Bool.and_eq_true_iff.mp h).1, (Bool.and_eq_true_iff.mp h).2⟩
abbrev pR3 : List Str := ["self", "top", "bottom"]
theorem r_binds2 {K : PySem.W.Frag} {f : Addr} {fd : FuncData} (F : FunD K "__init__" "Ratio.__init__" (defArgs sRInit) (defBody sRInit) (defScope sRInit) [.int 1] [] f fd) : ∃ ds, Vals [V.int 1] ds ∧ Binds K fd ["self", "top", "bottom"] ds :=
  F.binds1 2 0 (by simp) rfl fun T kV doc pm an cdv ct us its h1 h2 => match us, its, h1, h2 with | [_, _], [_], _, _ => ⟨_, rfl, rfl⟩
theorem r_binds3 {K : PySem.W.Frag} {f : Addr} {fd : FuncData} (F : FunD K "__init__" "Ratio.__init__" (defArgs sRInit) (defBody sRInit) (defScope sRInit) [.int 1] [] f fd) : Binds K fd ["self", "top", "bottom"] [] := by
  obtain ⟨ds, v, b⟩ := F.binds1 (ps := ["self", "top", "bottom"]) 3 1 (by simp) rfl fun T kV doc pm an cdv ct us its h1 h2 => match us, its, h1, h2 with | [_, _, _], [_], _, _ => ⟨_, rfl, rfl⟩
  cases v
  exact b
def chR (K : PySem.W.Frag) (C fi fn : Addr) : Bool := chC K C fi && (isN (PySem.W.findIn K (.ref C) "top") && (isN (PySem.W.findIn K (.ref C) "bottom") && chM K C "__neg__" fn))
def chX (K : PySem.W.Frag) (C : Addr) : Bool := isB (PySem.W.specialIn K (.ref C) "__getattribute__") (.builtin "type.__getattribute__") && PySem.W.readsIn K C (.type "type")
theorem same_zero {P : Program} {w : World} {K : PySem.W.Frag} {mg : Str → Option Value} {base : Heap} {f : Addr} {fd : FuncData} : FnOk P w K mg base CX0 0 f fd ["_law_found", "_law_due"] (spSame 0) :=
  ⟨fun _ _ _ _ h => by obtain ⟨_, _, rfl, z, _⟩ := h; exact z.elim, fun _ _ _ _ _ _ _ _ _ _ _ _ _ h => by obtain ⟨_, _, _, z, _⟩ := h; exact z.elim⟩
def chB (K : PySem.W.Frag) (C : Addr) (ini : String) : Bool :=
  isB (PySem.W.specialIn K (.ref C) "__getattribute__") (.builtin "type.__getattribute__") && (PySem.W.readsIn K C (.type "type") && PySem.W.handedIn (.builtin ini))
abbrev veB : List Value := [.type "ValueError", .type "Exception", .type "BaseException", .type "object"]
def chI (K : PySem.W.Frag) (C CS CM f : Addr) : Bool :=
  PySem.W.excInitIn K C veB "ValueError.__new__" && (PySem.W.excOver K C veB && (PySem.W.hasDictIn K C && (isB (PySem.W.findIn K (.ref C) "__setattr__") (.builtin "object.__setattr__") && (PySem.W.keepIn K (.ref C) && (isB (PySem.W.findIn K (.ref C) "__getattribute__") (.builtin "BaseException.__getattribute__") &&
  (isN (PySem.W.findIn K (.ref C) "__getattr__") && (decide (PySem.W.subIn K (.ref C) (.type "BaseException") = some true) && (fieldNames.all (fun x => isN (PySem.W.findIn K (.ref C) x)) && decide (PySem.W.exmAny K (.ref C) [.ref CS, .ref CM] = some true)))))))))
theorem rt_of {K : PySem.W.Frag} {mg : Str → Option Value} {C fi fn : Addr} (h : chR K C fi fn = true) (g : chG K = true) (gl : mg "Ratio" = some (.ref C)) : RT K mg C ∧ Mk K C fi ∧ OwnM K C "__neg__" fn := by
  simp only [chR, Bool.and_eq_true] at h
  obtain ⟨h0, n1, n2, h1⟩ := h
  obtain ⟨c1, c2, c3, c4, c5⟩ := cls_of h0
  obtain ⟨g1, g2⟩ := Bool.and_eq_true_iff.mp g
  exact ⟨⟨c1, isN_of n1, isN_of n2, gl, c2, isB_of g1, of_decide_eq_true g2, c3, c4⟩, c5, own_of h1⟩
theorem all_mk {l : PySem.W.OpenLaw} {w : World} {K : PySem.W.Frag} {h : Heap} {mg : Str → Option Value} {fa CR CI CS CM pR cL PT g_sho g_isi g_dig g_nml g_bag g_pul g_lof g_sam g_lfi g_lot g_why g_low g_par g_ptx g_law g_neg g_rrd g_iin T_rin g_rin : Addr} (X : K.In h) (G : h.Ns mainGlobals mg) (hfa : mg "law" = some (.ref fa)) (hPT : h.get? PT = some { cls := .none, data := .fields #[] }) (nPT : K.lookup PT = none) (hCH : PySem.W.CodeHd h cL PT)
    {tG tH : Tok}
    {od_sho an_sho : Option Addr} {sl_sho : Array (Option Value)} {oc_sho kV_sho dc_sho pm_sho cd_sho ct_sho : Value}
    {od_isi an_isi : Option Addr} {sl_isi : Array (Option Value)} {oc_isi kV_isi dc_isi pm_isi cd_isi ct_isi : Value}
    {od_dig an_dig : Option Addr} {sl_dig : Array (Option Value)} {oc_dig kV_dig dc_dig pm_dig cd_dig ct_dig : Value}
    {od_nml an_nml : Option Addr} {sl_nml : Array (Option Value)} {oc_nml kV_nml dc_nml pm_nml cd_nml ct_nml : Value}
    {od_bag an_bag : Option Addr} {sl_bag : Array (Option Value)} {oc_bag kV_bag dc_bag pm_bag cd_bag ct_bag : Value}
    {od_pul an_pul : Option Addr} {sl_pul : Array (Option Value)} {oc_pul kV_pul dc_pul pm_pul cd_pul ct_pul : Value}
    {od_lof an_lof : Option Addr} {sl_lof : Array (Option Value)} {oc_lof kV_lof dc_lof pm_lof cd_lof ct_lof : Value}
    {od_sam an_sam : Option Addr} {sl_sam : Array (Option Value)} {oc_sam kV_sam dc_sam pm_sam cd_sam ct_sam : Value}
    {od_lfi an_lfi : Option Addr} {sl_lfi : Array (Option Value)} {oc_lfi kV_lfi dc_lfi pm_lfi cd_lfi ct_lfi : Value}
    {od_lot an_lot : Option Addr} {sl_lot : Array (Option Value)} {oc_lot kV_lot dc_lot pm_lot cd_lot ct_lot : Value}
    {od_why an_why : Option Addr} {sl_why : Array (Option Value)} {oc_why kV_why dc_why pm_why cd_why ct_why : Value}
    {od_low an_low : Option Addr} {sl_low : Array (Option Value)} {oc_low kV_low dc_low pm_low cd_low ct_low : Value}
    {od_par an_par : Option Addr} {sl_par : Array (Option Value)} {oc_par kV_par dc_par pm_par cd_par ct_par : Value}
    {od_ptx an_ptx : Option Addr} {sl_ptx : Array (Option Value)} {oc_ptx kV_ptx dc_ptx pm_ptx cd_ptx ct_ptx : Value}
    {od_law an_law : Option Addr} {sl_law : Array (Option Value)} {oc_law kV_law dc_law pm_law ct_law : Value}
    {od_neg an_neg : Option Addr} {sl_neg : Array (Option Value)} {oc_neg kV_neg dc_neg pm_neg cd_neg ct_neg : Value}
    {rest_rrd : List Value}
    {od_rrd an_rrd : Option Addr} {sl_rrd : Array (Option Value)} {oc_rrd kV_rrd dc_rrd pm_rrd cd_rrd ct_rrd : Value}
    {od_iin an_iin : Option Addr} {sl_iin : Array (Option Value)} {oc_iin kV_iin dc_iin pm_iin cd_iin ct_iin : Value}
    {od_rin an_rin : Option Addr} {sl_rin : Array (Option Value)} {oc_rin kV_rin dc_rin pm_rin cd_rin ct_rin : Value}
    {oT_rin : Value} {oD_rin : Option Addr} {nT_rin : Nat} {tk_rin : Tok} {sT_rin : Array (Option Value)}
    {nmI qI : Str} {NI : Addr} {bsI bmI : List Value} {snI : List Str} {subI : List Value} {abI : Bool} {colI : Option Bool} {ddI : Option Addr} {kI0 kI1 kI2 kI3 kI5 : Option Value}
    (aR : PySem.W.nsIn K mainGlobals "Ratio" = some (some (.ref CR))) (aI : PySem.W.nsIn K mainGlobals "InvalidText" = some (some (.ref CI))) (aS : PySem.W.nsIn K mainGlobals "SlopeError" = some (some (.ref CS))) (aM : PySem.W.nsIn K mainGlobals "Missing" = some (some (.ref CM))) (aGc : PySem.W.nsIn K mainGlobals "gcd" = some (some (.builtin "math.gcd"))) (aDg : PySem.W.nsIn K mainGlobals "DIGITS" = some (some (.str "0123456789" tG))) (aMg : PySem.W.nsIn K mainGlobals "MOST_DIGITS" = some (some (.int 30 tH)))
    (a_sho : PySem.W.nsIn K mainGlobals "shown" = some (some (.ref g_sho)))
    (l_sho : K.lookup g_sho = some ⟨oc_sho, od_sho, .func (PySem.W.fnOf "shown" "shown" (defArgs sShown) (defBody sShown) (defScope sShown) .none kV_sho dc_sho pm_sho an_sho cd_sho ct_sho), sl_sho⟩) (c_sho : PySem.W.codeIn K cd_sho "shown" = true) (k_sho : PySem.W.keepIn K (.ref g_sho) = true)
    (a_isi : PySem.W.nsIn K mainGlobals "is_integer" = some (some (.ref g_isi)))
    (l_isi : K.lookup g_isi = some ⟨oc_isi, od_isi, .func (PySem.W.fnOf "is_integer" "is_integer" (defArgs sIsInt) (defBody sIsInt) (defScope sIsInt) .none kV_isi dc_isi pm_isi an_isi cd_isi ct_isi), sl_isi⟩) (c_isi : PySem.W.codeIn K cd_isi "is_integer" = true) (k_isi : PySem.W.keepIn K (.ref g_isi) = true)
    (a_dig : PySem.W.nsIn K mainGlobals "is_digits" = some (some (.ref g_dig)))
    (l_dig : K.lookup g_dig = some ⟨oc_dig, od_dig, .func (PySem.W.fnOf "is_digits" "is_digits" (defArgs sDigits) (defBody sDigits) (defScope sDigits) .none kV_dig dc_dig pm_dig an_dig cd_dig ct_dig), sl_dig⟩) (c_dig : PySem.W.codeIn K cd_dig "is_digits" = true) (k_dig : PySem.W.keepIn K (.ref g_dig) = true)
    (a_nml : PySem.W.nsIn K mainGlobals "is_numeral" = some (some (.ref g_nml)))
    (l_nml : K.lookup g_nml = some ⟨oc_nml, od_nml, .func (PySem.W.fnOf "is_numeral" "is_numeral" (defArgs sNumeral) (defBody sNumeral) (defScope sNumeral) .none kV_nml dc_nml pm_nml an_nml cd_nml ct_nml), sl_nml⟩) (c_nml : PySem.W.codeIn K cd_nml "is_numeral" = true) (k_nml : PySem.W.keepIn K (.ref g_nml) = true)
    (a_bag : PySem.W.nsIn K mainGlobals "_law_bag" = some (some (.ref g_bag)))
    (l_bag : K.lookup g_bag = some ⟨oc_bag, od_bag, .func (PySem.W.fnOf "_law_bag" "_law_bag" (defArgs sBag) (defBody sBag) (defScope sBag) .none kV_bag dc_bag pm_bag an_bag cd_bag ct_bag), sl_bag⟩) (c_bag : PySem.W.codeIn K cd_bag "_law_bag" = true) (k_bag : PySem.W.keepIn K (.ref g_bag) = true)
    (a_pul : PySem.W.nsIn K mainGlobals "_law_pull" = some (some (.ref g_pul)))
    (l_pul : K.lookup g_pul = some ⟨oc_pul, od_pul, .func (PySem.W.fnOf "_law_pull" "_law_pull" (defArgs sPull) (defBody sPull) (defScope sPull) .none kV_pul dc_pul pm_pul an_pul cd_pul ct_pul), sl_pul⟩) (c_pul : PySem.W.codeIn K cd_pul "_law_pull" = true) (k_pul : PySem.W.keepIn K (.ref g_pul) = true)
    (a_lof : PySem.W.nsIn K mainGlobals "_law_of" = some (some (.ref g_lof)))
    (l_lof : K.lookup g_lof = some ⟨oc_lof, od_lof, .func (PySem.W.fnOf "_law_of" "_law_of" (defArgs sOf) (defBody sOf) (defScope sOf) .none kV_lof dc_lof pm_lof an_lof cd_lof ct_lof), sl_lof⟩) (c_lof : PySem.W.codeIn K cd_lof "_law_of" = true) (k_lof : PySem.W.keepIn K (.ref g_lof) = true)
    (a_sam : PySem.W.nsIn K mainGlobals "_law_same" = some (some (.ref g_sam)))
    (l_sam : K.lookup g_sam = some ⟨oc_sam, od_sam, .func (PySem.W.fnOf "_law_same" "_law_same" (defArgs sSame) (defBody sSame) (defScope sSame) .none kV_sam dc_sam pm_sam an_sam cd_sam ct_sam), sl_sam⟩) (c_sam : PySem.W.codeIn K cd_sam "_law_same" = true) (k_sam : PySem.W.keepIn K (.ref g_sam) = true)
    (a_lfi : PySem.W.nsIn K mainGlobals "_law_field" = some (some (.ref g_lfi)))
    (l_lfi : K.lookup g_lfi = some ⟨oc_lfi, od_lfi, .func (PySem.W.fnOf "_law_field" "_law_field" (defArgs sField) (defBody sField) (defScope sField) .none kV_lfi dc_lfi pm_lfi an_lfi cd_lfi ct_lfi), sl_lfi⟩) (c_lfi : PySem.W.codeIn K cd_lfi "_law_field" = true) (k_lfi : PySem.W.keepIn K (.ref g_lfi) = true)
    (a_lot : PySem.W.nsIn K mainGlobals "_law_other_field" = some (some (.ref g_lot)))
    (l_lot : K.lookup g_lot = some ⟨oc_lot, od_lot, .func (PySem.W.fnOf "_law_other_field" "_law_other_field" (defArgs sOtherField) (defBody sOtherField) (defScope sOtherField) .none kV_lot dc_lot pm_lot an_lot cd_lot ct_lot), sl_lot⟩) (c_lot : PySem.W.codeIn K cd_lot "_law_other_field" = true) (k_lot : PySem.W.keepIn K (.ref g_lot) = true)
    (a_why : PySem.W.nsIn K mainGlobals "_law_why" = some (some (.ref g_why)))
    (l_why : K.lookup g_why = some ⟨oc_why, od_why, .func (PySem.W.fnOf "_law_why" "_law_why" (defArgs sWhy) (defBody sWhy) (defScope sWhy) .none kV_why dc_why pm_why an_why cd_why ct_why), sl_why⟩) (c_why : PySem.W.codeIn K cd_why "_law_why" = true) (k_why : PySem.W.keepIn K (.ref g_why) = true)
    (a_low : PySem.W.nsIn K mainGlobals "_law_low" = some (some (.ref g_low)))
    (l_low : K.lookup g_low = some ⟨oc_low, od_low, .func (PySem.W.fnOf "_law_low" "_law_low" (defArgs sLow) (defBody sLow) (defScope sLow) .none kV_low dc_low pm_low an_low cd_low ct_low), sl_low⟩) (c_low : PySem.W.codeIn K cd_low "_law_low" = true) (k_low : PySem.W.keepIn K (.ref g_low) = true)
    (a_par : PySem.W.nsIn K mainGlobals "_law_pair" = some (some (.ref g_par)))
    (l_par : K.lookup g_par = some ⟨oc_par, od_par, .func (PySem.W.fnOf "_law_pair" "_law_pair" (defArgs sPair) (defBody sPair) (defScope sPair) .none kV_par dc_par pm_par an_par cd_par ct_par), sl_par⟩) (c_par : PySem.W.codeIn K cd_par "_law_pair" = true) (k_par : PySem.W.keepIn K (.ref g_par) = true)
    (a_ptx : PySem.W.nsIn K mainGlobals "_law_pair_text" = some (some (.ref g_ptx)))
    (l_ptx : K.lookup g_ptx = some ⟨oc_ptx, od_ptx, .func (PySem.W.fnOf "_law_pair_text" "_law_pair_text" (defArgs sPairText) (defBody sPairText) (defScope sPairText) .none kV_ptx dc_ptx pm_ptx an_ptx cd_ptx ct_ptx), sl_ptx⟩) (c_ptx : PySem.W.codeIn K cd_ptx "_law_pair_text" = true) (k_ptx : PySem.W.keepIn K (.ref g_ptx) = true)
    (a_law : PySem.W.nsIn K mainGlobals "law" = some (some (.ref g_law)))
    (l_law : K.lookup g_law = some ⟨oc_law, od_law, .func (PySem.W.fnOf "law" "law" (defArgs sLaw) (defBody sLaw) (defScope sLaw) .none kV_law dc_law pm_law an_law (.ref cL) ct_law), sl_law⟩) (c_law : PySem.W.codeIn K (.ref cL) "law" = true) (k_law : PySem.W.keepIn K (.ref g_law) = true)
    (i_neg : PySem.W.findIn K (.ref CR) "__neg__" = some (some (.ref g_neg)))
    (l_neg : K.lookup g_neg = some ⟨oc_neg, od_neg, .func (PySem.W.fnOf "__neg__" "Ratio.__neg__" (defArgs sNeg) (defBody sNeg) (defScope sNeg) .none kV_neg dc_neg pm_neg an_neg cd_neg ct_neg), sl_neg⟩) (c_neg : PySem.W.codeIn K cd_neg "Ratio.__neg__" = true) (k_neg : PySem.W.keepIn K (.ref g_neg) = true)
    (f_rrd : PySem.W.findCls K (.ref CR) (.type "type") "read" = some (.get (.builtin "staticmethod.__get__") (.ref pR) .none (.ref CR))) (r_rrd : PySem.W.recIn K pR "staticmethod" = some (.ref g_rrd :: rest_rrd))
    (l_rrd : K.lookup g_rrd = some ⟨oc_rrd, od_rrd, .func (PySem.W.fnOf "read" "Ratio.read" (defArgs sRead) (defBody sRead) (defScope sRead) .none kV_rrd dc_rrd pm_rrd an_rrd cd_rrd ct_rrd), sl_rrd⟩) (c_rrd : PySem.W.codeIn K cd_rrd "Ratio.read" = true) (k_rrd : PySem.W.keepIn K (.ref g_rrd) = true)
    (i_iin : PySem.W.findIn K (.ref CI) "__init__" = some (some (.ref g_iin)))
    (l_iin : K.lookup g_iin = some ⟨oc_iin, od_iin, .func (PySem.W.fnOf "__init__" "InvalidText.__init__" (defArgs sI_InvalidText) (defBody sI_InvalidText) (defScope sI_InvalidText) .none kV_iin dc_iin pm_iin an_iin cd_iin ct_iin), sl_iin⟩) (c_iin : PySem.W.codeIn K cd_iin "InvalidText.__init__" = true) (k_iin : PySem.W.keepIn K (.ref g_iin) = true)
    (i_rin : PySem.W.findIn K (.ref CR) "__init__" = some (some (.ref g_rin)))
    (l_rin : K.lookup g_rin = some ⟨oc_rin, od_rin, .func (PySem.W.fnOf "__init__" "Ratio.__init__" (defArgs sRInit) (defBody sRInit) (defScope sRInit) (.ref T_rin) kV_rin dc_rin pm_rin an_rin cd_rin ct_rin), sl_rin⟩) (c_rin : PySem.W.codeIn K cd_rin "Ratio.__init__" = true) (k_rin : PySem.W.keepIn K (.ref g_rin) = true)
    (t_rin : K.lookup T_rin = some ⟨oT_rin, oD_rin, .seq [Value.int 1 tk_rin].toArray nT_rin, sT_rin⟩)
    (z_isin : PySem.W.nsIn K mainGlobals "isinstance" = some none)
    (z_tstr : PySem.W.nsIn K mainGlobals "str" = some none)
    (z_tint : PySem.W.nsIn K mainGlobals "int" = some none)
    (z_tlist : PySem.W.nsIn K mainGlobals "list" = some none)
    (z_ttuple : PySem.W.nsIn K mainGlobals "tuple" = some none)
    (z_tbool : PySem.W.nsIn K mainGlobals "bool" = some none)
    (z_fabs : PySem.W.nsIn K mainGlobals "abs" = some none)
    (z_frepr : PySem.W.nsIn K mainGlobals "repr" = some none)
    (z_flen : PySem.W.nsIn K mainGlobals "len" = some none)
    (z_frange : PySem.W.nsIn K mainGlobals "range" = some none)
    (z_fzip : PySem.W.nsIn K mainGlobals "zip" = some none)
    (z_fall : PySem.W.nsIn K mainGlobals "all" = some none)
    (z_tve : PySem.W.nsIn K mainGlobals "ValueError" = some none)
    (z_tle : PySem.W.nsIn K mainGlobals "LookupError" = some none)
    (lCI : K.lookup CI = some (excClassObj nmI qI CI NI bsI bmI true snI subI abI colI ddI kI0 kI1 kI2 kI3 kI5 "ValueError.__new__")) (tyI : PySem.W.typeIn K (.ref CI) = some (.type "type")) (tyF : PySem.W.typeIn K (.ref g_iin) = some (.type "function")) (vS : PySem.W.findCls K (.ref CS) (.type "type") "__init__" = some (.val (.builtin "ValueError.__init__")))
    (hRv : PySem.HandSPX.refsVE bmI = true) (hR : chR K CR g_rin g_neg = true) (hX : chX K CR = true) (hG : chG K = true) (hS : chB K CS "ValueError.__init__" = true) (hI : chI K CI CS CM g_iin = true) :
    LamX.LawAtS l w K CX0 8 63 "_law_script" mg fa h := by
  have e := hfa.symm.trans (PySem.W.mg_of X G a_law)
  cases e
  have gl : ∀ x v, PySem.W.nsIn K mainGlobals x = some (some v) → mg x = some v := fun x v z => PySem.W.mg_of X G z
  have B : Bn mg := ⟨PySem.W.mg_none_of X G z_isin, PySem.W.mg_none_of X G z_tstr, PySem.W.mg_none_of X G z_tint, PySem.W.mg_none_of X G z_tlist, PySem.W.mg_none_of X G z_ttuple, PySem.W.mg_none_of X G z_tbool, PySem.W.mg_none_of X G z_fabs, PySem.W.mg_none_of X G z_frepr, PySem.W.mg_none_of X G z_flen, PySem.W.mg_none_of X G z_frange, PySem.W.mg_none_of X G z_fzip, PySem.W.mg_none_of X G z_fall, PySem.W.mg_none_of X G z_tve, PySem.W.mg_none_of X G z_tle⟩
  obtain ⟨RTT, MkR, MNg⟩ := rt_of hR hG (gl _ _ aR)
  simp only [chX, Bool.and_eq_true] at hX
  have SMR : StM K CR "read" (.type "type") pR g_rrd := ⟨isB_of hX.1, hX.2, f_rrd, ⟨_, r_rrd⟩, k_rrd⟩
  have DGG : Dg mg := ⟨⟨_, gl _ _ aDg⟩, ⟨_, gl _ _ aMg⟩⟩
  simp only [chI, Bool.and_eq_true] at hI
  obtain ⟨i1, i2, i3, i4, i5, i6, i7, i8, i9, i10⟩ := hI
  have noI : ∀ f ∈ fieldNames, PySem.W.findIn K (.ref CI) f = some none := fun f hf => isN_of (List.all_eq_true.mp i9 f hf)
  have EC : EcI K "ValueError.__init__" CI := ⟨_, _, _, ⟨PySem.F.excBase_ValueError, PySem.F.store_ValueError, i1, i2, i3, isB_of i4, i5, isB_of i6, isN_of i7, of_decide_eq_true i8⟩⟩
  have OX : OexC K CI := ⟨⟨_, _, _, _, _, _, _, _, _, _, _, _, _, _, _, lCI, hRv⟩, isB_of i4, of_decide_eq_true i8, tyI, i5⟩
  have ITT : IT K mg CI g_iin := ⟨gl _ _ aI, OX, EC, noI _ (by decide +kernel), noI _ (by decide +kernel), i_iin, tyF⟩
  have TKK : ITk K CS CM CI := ⟨of_decide_eq_true i10, ⟨isB_of i6, isN_of i7, of_decide_eq_true i8, i3⟩, noI⟩
  obtain ⟨s1, s2, s3⟩ : PySem.W.specialIn K (.ref CS) "__getattribute__" = some (some (.builtin "type.__getattribute__")) ∧ PySem.W.readsIn K CS (.type "type") = true ∧ PySem.W.handedIn (.builtin "ValueError.__init__") = true := by
    simp only [chB, Bool.and_eq_true] at hS
    exact ⟨isB_of hS.1, hS.2.1, hS.2.2⟩
  have BSS : Bs K mg "SlopeError" "ValueError.__init__" CS := ⟨gl _ _ aS, s1, s2, vS, s3⟩
  have F_sho := fun_mk (st := sShown) l_sho c_sho k_sho
  have D_sho : Dn K mg "shown" g_sho := ⟨gl _ _ a_sho, k_sho⟩
  have b_sho := F_sho.binds (ps := ["value"]) fun _ _ _ _ _ _ us hl => match us, hl with | [_], _ => rfl
  have F_isi := fun_mk (st := sIsInt) l_isi c_isi k_isi
  have D_isi : Dn K mg "is_integer" g_isi := ⟨gl _ _ a_isi, k_isi⟩
  have b_isi := F_isi.binds (ps := ["value"]) fun _ _ _ _ _ _ us hl => match us, hl with | [_], _ => rfl
  have F_dig := fun_mk (st := sDigits) l_dig c_dig k_dig
  have D_dig : Dn K mg "is_digits" g_dig := ⟨gl _ _ a_dig, k_dig⟩
  have b_dig := F_dig.binds (ps := ["text"]) fun _ _ _ _ _ _ us hl => match us, hl with | [_], _ => rfl
  have F_nml := fun_mk (st := sNumeral) l_nml c_nml k_nml
  have D_nml : Dn K mg "is_numeral" g_nml := ⟨gl _ _ a_nml, k_nml⟩
  have b_nml := F_nml.binds (ps := ["text"]) fun _ _ _ _ _ _ us hl => match us, hl with | [_], _ => rfl
  have F_bag := fun_mk (st := sBag) l_bag c_bag k_bag
  have D_bag : Dn K mg "_law_bag" g_bag := ⟨gl _ _ a_bag, k_bag⟩
  have b_bag := F_bag.binds (ps := ["_law_script"]) fun _ _ _ _ _ _ us hl => match us, hl with | [_], _ => rfl
  have F_pul := fun_mk (st := sPull) l_pul c_pul k_pul
  have D_pul : Dn K mg "_law_pull" g_pul := ⟨gl _ _ a_pul, k_pul⟩
  have b_pul := F_pul.binds (ps := ["_law_bag_here", "_law_many"]) fun _ _ _ _ _ _ us hl => match us, hl with | [_, _], _ => rfl
  have F_lof := fun_mk (st := sOf) l_lof c_lof k_lof
  have D_lof : Dn K mg "_law_of" g_lof := ⟨gl _ _ a_lof, k_lof⟩
  have b_lof := F_lof.binds (ps := ["_law_bag_here", "_law_things"]) fun _ _ _ _ _ _ us hl => match us, hl with | [_, _], _ => rfl
  have F_sam := fun_mk (st := sSame) l_sam c_sam k_sam
  have D_sam : Dn K mg "_law_same" g_sam := ⟨gl _ _ a_sam, k_sam⟩
  have b_sam := F_sam.binds (ps := ["_law_found", "_law_due"]) fun _ _ _ _ _ _ us hl => match us, hl with | [_, _], _ => rfl
  have F_lfi := fun_mk (st := sField) l_lfi c_lfi k_lfi
  have D_lfi : Dn K mg "_law_field" g_lfi := ⟨gl _ _ a_lfi, k_lfi⟩
  have b_lfi := F_lfi.binds (ps := ["_law_e"]) fun _ _ _ _ _ _ us hl => match us, hl with | [_], _ => rfl
  have F_lot := fun_mk (st := sOtherField) l_lot c_lot k_lot
  have D_lot : Dn K mg "_law_other_field" g_lot := ⟨gl _ _ a_lot, k_lot⟩
  have b_lot := F_lot.binds (ps := ["_law_e"]) fun _ _ _ _ _ _ us hl => match us, hl with | [_], _ => rfl
  have F_why := fun_mk (st := sWhy) l_why c_why k_why
  have D_why : Dn K mg "_law_why" g_why := ⟨gl _ _ a_why, k_why⟩
  have b_why := F_why.binds (ps := ["_law_ask"]) fun _ _ _ _ _ _ us hl => match us, hl with | [_], _ => rfl
  have F_low := fun_mk (st := sLow) l_low c_low k_low
  have D_low : Dn K mg "_law_low" g_low := ⟨gl _ _ a_low, k_low⟩
  have b_low := F_low.binds (ps := ["_law_top", "_law_bottom"]) fun _ _ _ _ _ _ us hl => match us, hl with | [_, _], _ => rfl
  have F_par := fun_mk (st := sPair) l_par c_par k_par
  have D_par : Dn K mg "_law_pair" g_par := ⟨gl _ _ a_par, k_par⟩
  have b_par := F_par.binds (ps := ["_law_found"]) fun _ _ _ _ _ _ us hl => match us, hl with | [_], _ => rfl
  have F_ptx := fun_mk (st := sPairText) l_ptx c_ptx k_ptx
  have D_ptx : Dn K mg "_law_pair_text" g_ptx := ⟨gl _ _ a_ptx, k_ptx⟩
  have b_ptx := F_ptx.binds (ps := ["_law_pair_here"]) fun _ _ _ _ _ _ us hl => match us, hl with | [_], _ => rfl
  have F_neg := fun_mk (st := sNeg) l_neg c_neg k_neg
  have b_neg := F_neg.binds (ps := ["self"]) fun _ _ _ _ _ _ us hl => match us, hl with | [_], _ => rfl
  have F_rrd := fun_mk (st := sRead) l_rrd c_rrd k_rrd
  have b_rrd := F_rrd.binds (ps := ["text"]) fun _ _ _ _ _ _ us hl => match us, hl with | [_], _ => rfl
  have F_iin := fun_mk (st := sI_InvalidText) l_iin c_iin k_iin
  have b_iin := F_iin.binds (ps := ["self", "at"]) fun _ _ _ _ _ _ us hl => match us, hl with | [_, _], _ => rfl
  have I_r : FunD K "__init__" "Ratio.__init__" (defArgs sRInit) (defBody sRInit) (defScope sRInit) [.int 1] [] g_rin (PySem.W.fnOf "__init__" "Ratio.__init__" (defArgs sRInit) (defBody sRInit) (defScope sRInit) (.ref T_rin) kV_rin dc_rin pm_rin an_rin cd_rin ct_rin) :=
    ⟨⟨_, _, _, _, _, _, _, _, _, _, rfl, l_rin, c_rin, .inr ⟨by simp, T_rin, _, [Value.int 1 tk_rin], _, rfl, t_rin, rfl, .cons ⟨_, rfl⟩ .nil⟩, .inl rfl⟩, k_rin⟩
  have bR3 := r_binds3 I_r
  have kR : KBinds K (PySem.W.fnOf "read" "Ratio.read" (defArgs sRead) (defBody sRead) (defScope sRead) .none kV_rrd dc_rrd pm_rrd an_rrd cd_rrd ct_rrd) ["text"] ["text"] (fun us ws => us ++ ws) (fun vs zs => vs ++ zs) := ⟨fun s us ws _ hl => match us, ws, hl with
    | [_], [], _ => .of_eq rfl
    | [], [_], _ => .of_eq rfl, fun a b => a.append b⟩
  refine ⟨PySem.W.fnOf "law" "law" (defArgs sLaw) (defBody sLaw) (defScope sLaw) .none kV_law dc_law pm_law an_law (.ref cL) ct_law, [(cL, PT)], spLaw K PT, fun p hp => by cases List.mem_singleton.mp hp; exact hPT, fun p hp => by cases List.mem_singleton.mp hp; exact nPT, fun p hp => by cases List.mem_singleton.mp hp; exact hCH, fun s v => .of_eq rfl,
    fun H a ns hl _ hT hS => ⟨a, ns, rfl, hS, hl, hT _ (List.mem_singleton.mpr rfl), fun _ => rfl⟩, fun base _ _ hTB => ?_⟩
  have G_sho : FnOk l.prog w K mg base CX0 1 g_sho _ ["value"] spShown := ok_shown F_sho B
  have G_iin : FnOk l.prog w K mg base CX0 2 g_iin _ ["self", "at"] (spI_InvalidText K) := okI_InvalidText F_iin BSS D_sho G_sho b_sho
  have G_isi : FnOk l.prog w K mg base CX0 1 g_isi _ ["value"] (spIsInt K) := ok_isInt F_isi B
  have G_rin : FnOk l.prog w K mg base CX0 2 g_rin _ ["self", "top", "bottom"] (spRInit CR) := ok_rinit I_r RTT (gl _ _ aGc) D_isi G_isi b_isi
  have G_neg : FnOk l.prog w K mg base CX0 4 g_neg _ ["self"] (spUn CR (fun t => -t)) := ok_neg F_neg B RTT MkR G_rin bR3
  have G_dig : FnOk l.prog w K mg base CX0 1 g_dig _ ["text"] spDig := ok_dig F_dig B DGG
  have G_nml : FnOk l.prog w K mg base CX0 2 g_nml _ ["text"] spNum := ok_num F_nml D_dig G_dig b_dig
  have G_rrd : FnOk l.prog w K mg base (L2.CX l.prog w) 5 g_rrd _ ["text"] (spRead K CR CI) := ok_read F_rrd B RTT ITT G_iin b_iin D_nml G_nml b_nml MkR G_rin bR3 MNg G_neg b_neg
  have G_bag : FnOk l.prog w K mg base CX0 1 g_bag _ ["_law_script"] (spBag K) := ok_bag F_bag B
  have G_pul : FnOk l.prog w K mg base CX0 1 g_pul _ ["_law_bag_here", "_law_many"] spPull := ok_pull F_pul B
  have G_lof : FnOk l.prog w K mg base CX0 2 g_lof _ ["_law_bag_here", "_law_things"] spOf := ok_of F_lof B D_pul G_pul b_pul
  have S0 : FnOk l.prog w K mg base CX0 0 g_sam (PySem.W.fnOf "_law_same" "_law_same" (defArgs sSame) (defBody sSame) (defScope sSame) .none kV_sam dc_sam pm_sam an_sam cd_sam ct_sam) ["_law_found", "_law_due"] (spSame 0) := same_zero
  have S1 := ok_same_step F_sam B D_sam S0 b_sam
  have S2 := ok_same_step F_sam B D_sam S1 b_sam
  have S3 := ok_same_step F_sam B D_sam S2 b_sam
  have S4 := ok_same_step F_sam B D_sam S3 b_sam
  have G_lot : FnQ l.prog w K mg base 1 g_lot _ ["_law_e"] (spOtherF K) := ok_otherField F_lot
  have G_lfi : FnQ l.prog w K mg base 2 g_lfi _ ["_law_e"] (spFieldE K) := ok_field F_lfi D_lot G_lot b_lot
  have G_low : FnOk l.prog w K mg base CX0 1 g_low _ ["_law_top", "_law_bottom"] spLow := ok_low F_low B
  have G_par : FnOk l.prog w K mg base CX0 1 g_par _ ["_law_found"] (spPair CR) := ok_pair F_par B RTT
  have G_ptx : FnOk l.prog w K mg base CX0 1 g_ptx _ ["_law_pair_here"] spPairText := ok_pairText F_ptx B
  exact ok_law l_law c_law l_why c_why D_why b_why (hTB _ (List.mem_singleton.mpr rfl)) (gl _ _ aS) (gl _ _ aM) D_lfi G_lfi b_lfi B RTT TKK D_bag G_bag b_bag D_pul G_pul b_pul D_lof G_lof b_lof D_sam S4 b_sam D_low G_low b_low D_par G_par b_par D_ptx G_ptx b_ptx
    SMR G_rrd b_rrd kR
end K04

set_option Elab.async false
open PySem PySem.W PyProof.Rows
set_option maxRecDepth 100000 in
set_option maxHeartbeats 0 in
theorem PySem.Challenge.cw_unseenslopes_k04_ratio_texts_holds : PySem.Challenge.rw_unseenslopes_k04_ratio_texts.Holds := by
  w_on; o_law; k_head; (case hw => w_witness2)
  k_fill
  refine LamX.walk_ofTsE (l := PySem.Challenge.rw_unseenslopes_k04_ratio_texts) (n := 63) (k := 8) (x := "_law_script") (CX := fun _ => L2.CX0) rfl (by decide) rfl ⟨rfl, by decide, by decide⟩ ?F (fun _ _ _ _ _ z => z)
  case F =>
    intro w mg fa h Y G hmg
    have KX := PySem.W.km_in_of Y
    refine' ⟨_, KX, K04.all_mk (PT := 359) KX G hmg (PySem.W.km_tabs_of Y 359 (List.mem_singleton.mpr rfl)) ?np (PySem.W.codeHd_of_K KX ?ch) ?aR ?aI ?aS ?aM ?aGc ?aDg ?aMg ?a_sho ?l_sho ?c_sho ?k_sho ?a_isi ?l_isi ?c_isi ?k_isi ?a_dig ?l_dig ?c_dig ?k_dig ?a_nml ?l_nml ?c_nml ?k_nml ?a_bag ?l_bag ?c_bag ?k_bag ?a_pul ?l_pul ?c_pul ?k_pul ?a_lof ?l_lof ?c_lof ?k_lof ?a_sam ?l_sam ?c_sam ?k_sam ?a_lfi ?l_lfi ?c_lfi ?k_lfi ?a_lot ?l_lot ?c_lot ?k_lot ?a_why ?l_why ?c_why ?k_why ?a_low ?l_low ?c_low ?k_low ?a_par ?l_par ?c_par ?k_par ?a_ptx ?l_ptx ?c_ptx ?k_ptx ?a_law ?l_law ?c_law ?k_law ?i_neg ?l_neg ?c_neg ?k_neg ?f_rrd ?r_rrd ?l_rrd ?c_rrd ?k_rrd ?i_iin ?l_iin ?c_iin ?k_iin ?i_rin ?l_rin ?c_rin ?k_rin ?t_rin ?z_isin ?z_tstr ?z_tint ?z_tlist ?z_ttuple ?z_tbool ?z_fabs ?z_frepr ?z_flen ?z_frange ?z_fzip ?z_fall ?z_tve ?z_tle ?lCI ?tyI ?tyF ?vS ?hRv ?hR ?hX ?hG ?hS ?hI⟩
    (case aR => k_is); (case aI => k_is); (case aS => k_is); (case aM => k_is); (case aGc => k_is); (case aDg => k_is); (case aMg => k_is); (case a_sho => k_is); (case l_sho => k_is); (case c_sho => k_is); (case k_sho => k_is); (case a_isi => k_is); (case l_isi => k_is); (case c_isi => k_is); (case k_isi => k_is); (case a_dig => k_is); (case l_dig => k_is); (case c_dig => k_is); (case k_dig => k_is); (case a_nml => k_is); (case l_nml => k_is); (case c_nml => k_is); (case k_nml => k_is); (case a_bag => k_is); (case l_bag => k_is); (case c_bag => k_is); (case k_bag => k_is); (case a_pul => k_is); (case l_pul => k_is); (case c_pul => k_is); (case k_pul => k_is); (case a_lof => k_is); (case l_lof => k_is); (case c_lof => k_is); (case k_lof => k_is); (case a_sam => k_is); (case l_sam => k_is); (case c_sam => k_is); (case k_sam => k_is); (case a_lfi => k_is); (case l_lfi => k_is); (case c_lfi => k_is); (case k_lfi => k_is); (case a_lot => k_is); (case l_lot => k_is); (case c_lot => k_is); (case k_lot => k_is); (case a_why => k_is); (case l_why => k_is); (case c_why => k_is); (case k_why => k_is); (case a_low => k_is); (case l_low => k_is); (case c_low => k_is); (case k_low => k_is); (case a_par => k_is); (case l_par => k_is); (case c_par => k_is); (case k_par => k_is); (case a_ptx => k_is); (case l_ptx => k_is); (case c_ptx => k_is); (case k_ptx => k_is); (case a_law => k_is); (case l_law => k_is); (case c_law => k_is); (case k_law => k_is); (case i_neg => k_is); (case l_neg => k_is); (case c_neg => k_is); (case k_neg => k_is); (case f_rrd => k_is); (case r_rrd => k_is); (case l_rrd => k_is); (case c_rrd => k_is); (case k_rrd => k_is); (case i_iin => k_is); (case l_iin => k_is); (case c_iin => k_is); (case k_iin => k_is); (case i_rin => k_is); (case l_rin => k_is); (case c_rin => k_is); (case k_rin => k_is); (case t_rin => k_is); (case z_isin => k_is); (case z_tstr => k_is); (case z_tint => k_is); (case z_tlist => k_is); (case z_ttuple => k_is); (case z_tbool => k_is); (case z_fabs => k_is); (case z_frepr => k_is); (case z_flen => k_is); (case z_frange => k_is); (case z_fzip => k_is); (case z_fall => k_is); (case z_tve => k_is); (case z_tle => k_is); (case lCI => k_is); (case tyI => k_is); (case tyF => k_is); (case vS => k_is)
    (case np => kernel_rfl); (case ch => kernel_rfl)
    (case hRv => kernel_rfl); (case hR => kernel_rfl); (case hX => kernel_rfl); (case hG => kernel_rfl); (case hS => kernel_rfl); (case hI => kernel_rfl)
