import PyProof.Rows.All
import Wide.All
import OpenK.AllK
import Wide.FinOn
import KE.KExcInit
import HandS.ForMost
import HandS.Exc
import HandS.ExcInit
import HandS.IsInst
import HandS.Defaults
import HandS.MakeKw
import HandS.FStr
import HandS.RaiseMore
import HandS.ExcIs
import KE.KExcIs
import PyProof.FactsAll.bool_1
import KE.KCallOwn
import PyProof.InstEq
import HandS.Property
import HandS.Gcd
import HandS.MakeKwOnly
import KE.KTryMore
import HandS.HotCalls
import HandS.ExcField
import KE.KFmtOwn
import HandS.Codes
import HandS.Walk
import KE.KOpsOwn
import HandS.Wide
import PyProof.DictUpdate
import PyProof.DictDisplay
import HandS.Star
import HandS.Conv
import HandS.More
import HandS.Zip
import HandS.Style
import HandS.SetKeys
import HandS.DictComp
import HandS.ClsMeth
import PySem.Challenge.RW_unseenslopes_k08_worlds_told
set_option Elab.async false
set_option linter.all false
set_option maxRecDepth 100000
set_option maxHeartbeats 4000000
/-! Own error classes over any built-in base: called with keywords too, held as values, their fields. -/
namespace Ux
open PySem PySem.Calls PySem.W
open Builtin Builtin.ObjectAttr
section
variable {M : Model} {prog : Program} {w : World} {A : Around} {E : Value → Shared → Prop} {h : Heap} {g : Array GenState} {d : Drawn} {t : Nat} {os : OsState}
variable {nm q : Str} {C N : Addr} {bs bm bmB : List Value} {hdct : Bool} {sn : List Str} {sub : List Value} {ab : Bool} {col : Option Bool} {dd : Option Addr} {k0 k1 k2 k3 k5 : Option Value} {B newId initId : String}
/-- the class object as the built-in rules read it -/
abbrev ClsO (nm q : Str) (C N : Addr) (bs bm : List Value) (hdct : Bool) (sn : List Str) (sub : List Value) (ab : Bool) (col : Option Bool) (dd : Option Addr) (k0 k1 k2 k3 k5 : Option Value) (newId : String) : Obj := excClassObj nm q C N bs bm hdct sn sub ab col dd k0 k1 k2 k3 k5 newId
theorem kw_check (F : ExcBaseFacts B newId initId bmB) (hT : ∀ Y : String, bm.contains (.type Y) = bmB.contains (.type Y)) {rest : List Value} {kw : List (Str × Value)} {Q : Unit → Shared → Prop}
    (oc : h.get? C = some (ClsO nm q C N bs bm hdct sn sub ab col dd k0 k1 k2 k3 k5 newId)) (z : Q () ⟨h, g, d, t, os⟩) : wpAny M A (checkBuiltinCall newId ⟨.ref C :: rest, kw⟩) Q E ⟨h, g, d, t, os⟩ := by
  have inB : (Value.ref C :: bm).contains (.type B) = true := by rw [List.contains_cons, hT B, F.hasB, Bool.or_true]
  have star := F.noStar
  simp only [checkBuiltinCall, F.newKind, F.newSplit, F.newRow]
  repeat (first
    | refine wpAny_loadPart_at oc ?_
    | (refine wpAny_isSubtype_exc oc ?_; rw [inB])
    | refine wpAny_staticBase_exc oc ?_
    | refine wpAny_madeBy_exc oc ?_
    | simp only [bne_self_eq_false, Bool.false_eq_true, if_false]
    | wp_step)
  exact z
theorem kw_new {R : Result → Shared → Prop} (F : ExcBaseFacts B newId initId bmB) (hT : ∀ Y : String, bm.contains (.type Y) = bmB.contains (.type Y)) {rest : List Value} {kw : List (Str × Value)}
    (oc : h.get? C = some (ClsO nm q C N bs bm hdct sn sub ab col dd k0 k1 k2 k3 k5 newId)) (z : R (.ok (.ret (.ref (h.objs.size + 1)))) ⟨(h.push (kdv_tup rest)).push (excObj C h.objs.size none .none), g, d, t, os⟩) (hz : rest.length ≤ sizeLine) :
    codeAny (model prog w) A (.builtin newId ⟨.ref C :: rest, kw⟩) R ⟨h, g, d, t, os⟩ := by
  have ends := F.ends
  have inB : (Value.ref C :: bm).contains (.type B) = true := by rw [List.contains_cons, hT B, F.hasB, Bool.or_true]
  have inA : (Value.ref C :: bm).contains (.type "AttributeError") = false := by rw [List.contains_cons, hT _, F.noAttr]; rfl
  have inN : (Value.ref C :: bm).contains (.type "NameError") = false := by rw [List.contains_cons, hT _, F.noName]; rfl
  refine codeAny_builtinAt F.entry ?_
  unfold Builtin.«BaseException.__new__»
  refine wpAt_bind ?_
  show wpAt _ _ _ (stack >>= _) _ _ _
  refine wpAt_bind (wpAt_stack fun p below => wpAt_of_wpAny ?_)
  wp_walk
  refine wpAt_of_wpAny ?_
  rw [F.owner]
  repeat (first
    | with_reducible refine wpAny_madeHere_exc F.canon oc ?_
    | with_reducible refine wpAny_loadPart_at oc ?_
    | (with_reducible refine wpAny_isSubtype_exc oc ?_; first | rw [inB] | rw [inA] | rw [inN])
    | wp_step)
  show R _ _
  rw [Heap.size_push]
  exact z
theorem kw_typecall (F : ExcBaseFacts B newId initId bmB) (hT : ∀ Y : String, bm.contains (.type Y) = bmB.contains (.type Y)) {rest : List Value} {kw : List (Str × Value)} {fI : Addr} {Q : Fin → Shared → Prop}
    (oc : h.get? C = some (ClsO nm q C N bs bm hdct sn sub ab col dd k0 k1 k2 k3 k5 newId)) (li : Looks (model prog w) h (typeLookup (.ref C) "__init__") (some (.ref fI)))
    (lb : ∀ self, Looks (model prog w) h (bindSpecial (.ref fI) self) (.ref fI, [self])) (hz : rest.length ≤ sizeLine)
    (z : codeAny (model prog w) A (.call (.ref fI) ⟨.ref (h.objs.size + 1) :: rest, kw⟩) (fun r s' => match r with | .ok (.ret v) => v = .none ∧ Q (.done (.ret (.ref (h.objs.size + 1)))) s' | .ok _ => False | .error e => E e s')
      ⟨(h.push (kdv_tup rest)).push (excObj C h.objs.size none .none), g, d, t, os⟩) :
    wpAny (model prog w) A (Builtin.«type.__call__» ⟨.ref C :: rest, kw⟩) Q E ⟨h, g, d, t, os⟩ := by
  repeat (first
    | with_reducible refine wpAny_loadPart_at oc ?_
    | with_reducible refine wpAny_madeBy_exc oc ?_
    | wp_step)
  refine codeAny_call_builtin_code (Code.quiet_builtin _ F.quiet) (kw_check F hT oc ?_)
  refine kw_new F hT oc ?_ hz
  show wpAny _ _ _ _ _ _
  have stays : ∀ b o, h.get? b = some o → ((h.push (kdv_tup rest)).push (excObj C h.objs.size none .none)).get? b = some o := fun b o y => Heap.get?_push_of_some _ (Heap.get?_push_of_some _ y)
  have oc' := stays _ _ oc
  have made : ((h.push (kdv_tup rest)).push (excObj C h.objs.size none .none)).get? (h.objs.size + 1) = some (excObj C h.objs.size none .none) := by heap_get
  have inC : (Value.ref C :: bm).contains (.ref C) = true := by simp
  have i1 := li.keeps stays
  have b1 := (lb (.ref (h.objs.size + 1))).keeps stays
  unfold isInstance
  repeat (first
    | with_reducible refine wpAny_loadPart_at made ?_
    | (with_reducible refine wpAny_isSubtype_exc oc' ?_; rw [inC])
    | wp_step)
  show wpAny _ _ (typeLookup (.ref C) _) _ _ _
  refine i1.at ?_
  refine wpAny_holding (wpAny_bind (b1.at ?_))
  refine wpAny_bind (wpAny_call (codeAny_mono z fun r s' y => ?_))
  rcases r with e | (v | _ | _ | _) <;> first | exact y | exact y.elim | skip
  obtain ⟨rfl, y⟩ := y
  first
    | exact wpAny_pure (wpAny_pure y)
    | (wp_walk; exact y)
theorem kw_call {R : Result → Shared → Prop} (F : ExcBaseFacts B newId initId bmB) (hT : ∀ Y : String, bm.contains (.type Y) = bmB.contains (.type Y)) {rest : List Value} {kw : List (Str × Value)} {fI : Addr}
    (oc : h.get? C = some (ClsO nm q C N bs bm hdct sn sub ab col dd k0 k1 k2 k3 k5 newId)) (li : Looks (model prog w) h (typeLookup (.ref C) "__init__") (some (.ref fI)))
    (lb : ∀ self, Looks (model prog w) h (bindSpecial (.ref fI) self) (.ref fI, [self])) (hz : rest.length ≤ sizeLine)
    (z : codeAny (model prog w) (A.under (.builtin "type.__call__" ⟨.ref C :: rest, kw⟩)) (.call (.ref fI) ⟨.ref (h.objs.size + 1) :: rest, kw⟩) (InitBack (h.objs.size + 1) R)
      ⟨(h.push (kdv_tup rest)).push (excObj C h.objs.size none .none), g, d, t, os⟩) :
    codeAny (model prog w) A (.call (.ref C) ⟨rest, kw⟩) R ⟨h, g, d, t, os⟩ := by
  have f1 := tc_lookup
  have f2 := tc_bind (.ref C)
  have ty : (⟨h, g, d, t, os⟩ : Shared).TypeIs (.ref C) "type" := ⟨_, oc, rfl⟩
  refine codeAny_of_tree ?_
  show wpAny _ _ (callAny (.ref C) _) _ _ _
  repeat (any_goals (first
    | assumption
    | with_reducible refine wpAny_loadPart_at oc ?_
    | wp_step))
  refine ⟨rfl, ?_⟩
  refine codeAny_call_builtin_at (Code.quiet_builtin _ (by decide +kernel)) entry_typeCall (wpAny_check_type_call_sub oc (kw_typecall F hT oc li lb hz ?_))
  refine codeAny_mono z fun r s' y => ?_
  rcases r with e | (v | _ | _ | _) <;> exact y
end
end Ux

set_option Elab.async false
set_option linter.all false
set_option maxRecDepth 100000
set_option maxHeartbeats 4000000
namespace Ux
open PySem PySem.Calls PySem.W
section
variable {prog : Program} {w : World} {A : Around} {E : Value → Shared → Prop} {R : Result → Shared → Prop} {hp : Heap} {g : Array GenState} {d : Drawn} {t : Nat} {os : OsState}
variable {K : Frag} {B : String} {bmB : List Value} {name : Str} {tk : Tok} {v : Value} {x C : Addr}
theorem taker_of (n : findIn K (.ref C) name = some none) : takerIn K C name = some none := by
  unfold takerIn
  rw [n]
  rfl
/-- the first field of an exception -/
theorem put_first {t0 : Addr} (SF : StoreFacts B bmB "object.__setattr__" "object") (IN : K.In hp) (ex : hp.get? x = some (excObj C t0 none .none)) (ov : excOver K C bmB = true) (nf : findIn K (.ref C) name = some none) (hd : hasDictIn K C = true)
    (z : ∀ h' tk' dx, (∀ b o, b ≠ x → hp.get? b = some o → h'.get? b = some o) → hp.objs.size ≤ dx → dx ≠ x → h'.get? x = some (excObj C t0 (some dx) .none) → h'.Ns1 dx (fun y => if y = name then some v else none) → R (.ok (.ret .none)) ⟨h', g, d, tk', os⟩) :
    codeAny (model prog w) A (.call (.builtin "object.__setattr__") ⟨[.ref x, .str name tk, v], []⟩) R ⟨hp, g, d, t, os⟩ := by
  refine osa_openX (s := ⟨hp, g, d, t, os⟩) (od := none) SF IN ⟨ex, rfl, rfl, trivial⟩ ov (taker_of nf) fun b => ?_
  obtain ⟨cd, hc, hdc⟩ := any_some hd
  have lx := Heap.lt_size ex
  have nx : hp.objs.size ≠ x := Nat.ne_of_gt lx
  have ex1 : (hp.push (dictOf [] 0)).get? x = some (excObj C t0 none .none) := Heap.get?_push_of_some _ ex
  refine wpAny_bind (wpAny_pure (wpAny_bind (instanceDict_exc (s := ⟨hp, g, d, t, os⟩) ex (looks_clsIn IN hc) hdc ?_)))
  show wpAny _ _ (Builtin.ObjectAttr.storeInDict hp.objs.size (.str name tk) name v) _ _ _
  refine HandSPX.store_in_new ⟨_, #[], _, (Heap.get?_update_ne _ _ _ _ nx).trans (Heap.get?_push_at rfl rfl), rfl, fun e he => absurd he (by simp), fun _ => rfl⟩ fun h' tk' hn same => ?_
  refine z h' tk' hp.objs.size (fun b o nb ho => ?_) (Nat.le_refl _) nx ?_ hn
  · exact (same.2 b (Nat.ne_of_lt (Heap.lt_size ho))).trans ((Heap.get?_update_ne _ _ _ _ nb).trans (Heap.get?_push_of_some _ ho))
  · exact (same.2 x nx.symm).trans (Heap.get?_update_self _ ex1 rfl)
/-- a further one -/
theorem put_more {t0 dx : Addr} {m0 : Str → Option Value} {ns : List Str} (SF : StoreFacts B bmB "object.__setattr__" "object") (IN : K.In hp) (ex : hp.get? x = some (excObj C t0 (some dx) .none)) (hn : hp.Ns1 dx m0) (hw : Within m0 ns) (hz : ns.length ≤ 1000)
    (ov : excOver K C bmB = true) (nf : findIn K (.ref C) name = some none) (hd : hasDictIn K C = true)
    (z : ∀ h' tk', (∀ b o, b ≠ dx → hp.get? b = some o → h'.get? b = some o) → h'.Ns1 dx (fun y => if y = name then some v else m0 y) → R (.ok (.ret .none)) ⟨h', g, d, tk', os⟩) :
    codeAny (model prog w) A (.call (.builtin "object.__setattr__") ⟨[.ref x, .str name tk, v], []⟩) R ⟨hp, g, d, t, os⟩ := by
  obtain ⟨oD, _, _, hoD, _, _⟩ := hn.count hw
  refine osa_openX (s := ⟨hp, g, d, t, os⟩) (od := some oD) SF IN ⟨ex, rfl, rfl, hoD⟩ ov (taker_of nf) fun b => ?_
  obtain ⟨cd, hc, hdc⟩ := any_some hd
  refine wpAny_bind (wpAny_pure (wpAny_bind (wpAny_bind (wpAny_loadPart ex (wpAny_bind ((looks_clsIn IN hc).here ?_))))))
  rw [hdc]
  refine wpAny_pure (a := some dx) ?_
  exact OEX.store_in_old hn hw hz fun h' tk' hn' same => z h' tk' (fun b o nb ho => (same.2 b nb).trans ho) hn'
end
end Ux

namespace Ux
open PySem PySem.Spec PyProof.Rows L2
/-- what the written part says of an error class over the built-in B -/
structure Ec (K : PySem.W.Frag) (B newId initId : String) (bmB : List Value) (C : Addr) : Prop where
  FB : ExcBaseFacts B newId initId bmB
  SF : StoreFacts B bmB "object.__setattr__" "object"
  ini : PySem.W.excInitIn K C bmB newId = true
  ovr : PySem.W.excOver K C bmB = true
  hdc : PySem.W.hasDictIn K C = true
  sa : PySem.W.findIn K (.ref C) "__setattr__" = some (some (.builtin "object.__setattr__"))
  kc : PySem.W.keepIn K (.ref C) = true
  ga : PySem.W.findIn K (.ref C) "__getattribute__" = some (some (.builtin "BaseException.__getattribute__"))
  gg : PySem.W.findIn K (.ref C) "__getattr__" = some none
  exC : PySem.W.subIn K (.ref C) (.type "BaseException") = some true
section
variable {X : Cx} {pins : List (Addr × Obj)} {σ : L2.St} {H : Hp} {s : Shared} {a C dx : Addr} {f : Str} {y : V} {u : Value} {fs : List (Str × V)} {Q : Unit → Shared → Prop} {E : Value → Shared → Prop} {A : Around} {B newId initId : String} {bmB : List Value}
theorem not_own {c x : Addr} {o : HO} (e : H c = some o) (n : ∀ y, o ≠ .own y) (z : H x = some (.own a)) : x ≠ c := fun q => by
  rw [q, e] at z
  exact n _ (Option.some.inj z)
theorem est_first (T : Ec X.K B newId initId bmB C) (I : Inv X pins σ H s) (ea : H a = some (exo a C none)) (nf : PySem.W.findIn X.K (.ref C) f = some none) (r : RelV y u)
    (z : ∀ dx s', H dx = none → dx ≠ a → Inv X pins σ (upd (upd H dx (exd dx [(f, y)])) a (exo a C (some dx))) s' → Q () s') : wpAny (model X.prog X.w) A (setAttr (.ref a) f u) Q E s := by
  obtain ⟨t1, ho⟩ := exo_at I.hok ea
  obtain ⟨hp, g, d, t, os⟩ := s
  refine PySem.W.set_plain I.kIn (ox := PySem.W.excObj C t1 none .none) (od := none) ⟨ho, rfl, rfl, trivial⟩ T.sa ?_
  refine put_first T.SF I.kIn ho T.ovr nf T.hdc fun h' tk' dx keep lo ne hx hn => ?_
  have fr : H dx = none := I.hok.fresh lo
  have nd : ∀ {b : Addr} {o : Obj}, hp.get? b = some o → b ≠ dx := fun q => Nat.ne_of_lt (Nat.lt_of_lt_of_le (Heap.lt_size q) lo)
  have na : ∀ {b : Addr}, H b = none → b ≠ a := fun n q => by
    rw [q, ea] at n
    cases n
  have U : Un X.fs [] H (upd (upd H dx (exd dx [(f, y)])) a (exo a C (some dx))) hp h' := by
    refine ⟨fun b o q n _ _ => keep b o (na n) q, fun b o q n _ _ => ⟨o.slots, keep b o (na n) q⟩, fun b o q n _ => ?_, fun b o q _ => ?_, fun b xs q => ?_, fun b o v q => ?_, fun b ps q => ⟨#[], ?_⟩⟩
    · rw [upd_ne (na n), upd_ne (nd q)]
      exact n
    · by_cases hb : b = a
      · subst hb
        exact ⟨_, hx⟩
      · exact ⟨o, keep b o hb q⟩
    · rw [upd_ne (at_ne ea q exo_tup), upd_ne (ne_of_none q fr)]
      exact q
    · rw [upd_ne (at_ne ea q exo_frz), upd_ne (ne_of_none q fr)]
      exact q
    · rw [upd_ne (at_ne ea q exo_tbl), upd_ne (ne_of_none q fr), q]
      simp
  refine z dx _ fr ne (I.un (t' := tk') U fun b o q => ?_)
  by_cases hb : b = a
  · subst hb
    rw [upd_same] at q
    cases q
    exact exo_ok hx
  · rw [upd_ne hb] at q
    by_cases hd : b = dx
    · subst hd
      rw [upd_same] at q
      cases q
      exact exd_ok hn (relO_put (fs := []) r fun _ => True.intro)
    · rw [upd_ne hd] at q
      refine (I.hok b o q).stay (fun c v hc w => keep c v ?_ w) (fun c hc => ?_) (fun c xs hc => ?_)
      · rcases hc with hc | hc
        · rw [hc]
          exact hb
        · exact at_ne ea hc exo_own
      · rw [upd_ne (at_ne ea hc exo_own), upd_ne (ne_of_none hc fr)]
        exact hc
      · rw [upd_ne (at_ne ea hc exo_tup), upd_ne (ne_of_none hc fr)]
        exact hc
theorem est_more (T : Ec X.K B newId initId bmB C) (I : Inv X pins σ H s) (ea : H a = some (exo a C (some dx))) (ed : H dx = some (exd dx fs)) (hl : fs.length ≤ 900) (nf : PySem.W.findIn X.K (.ref C) f = some none) (r : RelV y u)
    (z : ∀ s', Inv X pins σ (upd H dx (exd dx ((f, y) :: fs))) s' → Q () s') : wpAny (model X.prog X.w) A (setAttr (.ref a) f u) Q E s := by
  obtain ⟨t1, ho⟩ := exo_at I.hok ea
  obtain ⟨mA, hns, rel⟩ := exd_at I.hok ed
  have hw := within_of rel
  obtain ⟨hp, g, d, t, os⟩ := s
  obtain ⟨oD, _, _, hoD, _, _⟩ := hns.count hw
  refine PySem.W.set_plain I.kIn (ox := PySem.W.excObj C t1 (some dx) .none) (od := some oD) ⟨ho, rfl, rfl, hoD⟩ T.sa ?_
  refine put_more T.SF I.kIn ho hns hw (by rw [List.length_map]; omega) T.ovr nf T.hdc fun h' tk' keep hn => ?_
  have there : ∃ o, h'.get? dx = some o := by
    obtain ⟨o, _, _, q, _⟩ := hn
    exact ⟨o, q⟩
  exact z _ (I.write (t' := tk') (x := dx) (e := dx) (o := exd dx ((f, y) :: fs)) (by rw [ed]; exact True.intro) (.inl rfl) keep there (exd_ok hn (relO_put r rel)))
/-- the base's __init__ on it: nothing of it is told -/
theorem base_init {us : List Value} {Q : Value → Shared → Prop} (T : Ec X.K B newId initId bmB C) (I : Inv X pins σ H s) (ea : H a = some (exo a C none)) (hl : us.length ≤ sizeLine) (z : ∀ s', Inv X pins σ H s' → Q .none s') :
    wpAny (model X.prog X.w) A (call (.builtin initId) (.ref a :: us)) Q E s := by
  obtain ⟨t1, ho⟩ := exo_at I.hok ea
  obtain ⟨nm, N, qn, bs, bm, hdct, sn, sub, ab, col, dd, k0, k1, k2, k3, k5, oc, hT⟩ := PySem.W.excInit_of I.kIn T.ini
  obtain ⟨hp, g, d, t, os⟩ := s
  refine wpAny_call (PySem.HandSPX.init_base T.FB hT oc ho hl fun h' t2 keep hx => ?_)
  have J := I.write (t' := t) (x := a) (e := a) (o := exo a C none) (by rw [ea]; exact True.intro) (.inl rfl) keep ⟨_, hx⟩ (exo_ok hx)
  have same : upd H a (exo a C none) = H := by
    funext b
    by_cases hb : b = a
    · rw [hb, upd_same, ea]
    · rw [upd_ne hb]
  rw [same] at J
  exact z _ J
end
/-- .. whatever the base's other facts -/
def EcI (K : PySem.W.Frag) (initId : String) (C : Addr) : Prop := ∃ (B newId : String) (bmB : List Value), Ec K B newId initId bmB C
def EcA (K : PySem.W.Frag) (C : Addr) : Prop := ∃ initId : String, EcI K initId C
/-! ### readings and rules -/
/-- Base.__init__(self, ..) -/
def tBI (K : PySem.W.Frag) (initId : String) (ta : TA) : TE := fun σ H Q => ta σ H fun vs H1 => ∃ (a C : Addr) (ws : List V), vs = .ref a :: ws ∧ ws.length ≤ 1000 ∧ EcI K initId C ∧ H1 a = some (exo a C none) ∧ Q .non H1
/-- self.f = e -/
def tEst (K : PySem.W.Frag) (f : Str) (to te : TE) : TS := fun D σ H => te σ H fun y H1 => to σ H1 fun x H2 => ∃ a C : Addr, x = .ref a ∧ EcA K C ∧ PySem.W.findIn K (.ref C) f = some none ∧
  ((H2 a = some (exo a C none) ∧ ∀ dx, H2 dx = none → dx ≠ a → D.nx σ (upd (upd H2 dx (exd dx [(f, y)])) a (exo a C (some dx)))) ∨
    ∃ (dx : Addr) (fs : List (Str × V)), H2 a = some (exo a C (some dx)) ∧ H2 dx = some (exd dx fs) ∧ fs.length ≤ 900 ∧ D.nx σ (upd H2 dx (exd dx ((f, y) :: fs))))
/-- e.f -/
def tEf (K : PySem.W.Frag) (f : Str) (to : TE) : TE := fun σ H Q => to σ H fun x H1 => ∃ (a C dx : Addr) (fs : List (Str × V)) (v : V), x = .ref a ∧ EcA K C ∧ PySem.W.findIn K (.ref C) f = some none ∧
  H1 a = some (exo a C (some dx)) ∧ H1 dx = some (exd dx fs) ∧ fs.lookup f = some v ∧ Q v H1
section
variable {X : Cx} {o e : Expr} {es : List Expr} {to te : TE} {ta : TA} {f x : Str} {p p' p1 p2 pos : Pos} {B newId initId : String} {bmB : List Value} {CB : Addr} {mc : Value}
theorem pe_bi {pl : Sem Bool} (hg : Gl X x) (hm : X.mg x = some (.ref CB)) (sg : PySem.W.specialIn X.K (.ref CB) "__getattribute__" = some (some (.builtin "type.__getattribute__"))) (rd : PySem.W.readsIn X.K CB mc = true)
    (vV : PySem.W.findCls X.K (.ref CB) mc "__init__" = some (.val (.builtin initId))) (vh : PySem.W.handedIn (.builtin initId) = true) (ha : PA X (e :: es) ta) (hdb : (x == ("__debug__" : Str)) = false := by decide)
    (hc : eval (.Call (.Attribute (.Name x p1) "__init__" p2) (e :: es) [] pos) X.env = (do
      let ov ← eval (.Name x p1) X.env
      standAt p2.atName
      let (f, first) ← holding [ov] (getMethod ov "__init__" pl)
      callWith pos f first (backTo pos (starEach (e :: es) X.env)) (backToKw pos (keywordEach [] X.env))) := by rfl)
    (he : starEach (e :: es) X.env = (false, eval e X.env) :: starEach es X.env := by rfl) (hpl : (backTo pos (starEach es X.env)).any (·.1) = false := by rfl) :
    PE X (.Call (.Attribute (.Name x p1) "__init__" p2) (e :: es) [] pos) (tBI X.K initId ta) := by
  refine ⟨fun pins s σ H Q I h => ?_⟩
  refine PySem.W.methodCall_KW (ld_glob I hg hm ?_ hdb) hc
  refine PySem.W.method_cls I.kIn sg (PySem.W.cls_value I.kIn rd vV vh ?_)
  show wpAny _ _ (callWith pos (Value.builtin initId) [] (backTo pos (starEach (e :: es) X.env)) []) _ _ _
  refine PyProof.Rows.callWith_method1 (thn (ha.run pos pins _ σ H _ (I.tok _) h) fun us s1 ⟨vs, H1, I1, r1, a, C, ws, ev, hl, T, ea, q⟩ => ?_) he hpl
  subst ev
  obtain ⟨_, _, _, T⟩ := T
  cases r1 with
  | @cons _ u0 _ ur ra rw' =>
    obtain rfl : u0 = Value.ref a := ra
    have hz : ur.length ≤ sizeLine := by
      rw [← Paired.length rw', sizeLine_eq]
      omega
    exact base_init T I1 ea hz fun s' J => ⟨.non, H1, J, rfl, q⟩
theorem ps_est (ho : PE X o to) (he : PE X e te) (hs : swapsWith e (some (.Attribute o f p')) pos.line X.env = pure false := by rfl) : PS X (.Assign [.Attribute o f p'] e pos) (tEst X.K f to te) := by
  refine ⟨fun pins s σ H D I h => ?_⟩
  refine plainObj_wpAny_Assign_Attribute (thn (he.run pins s σ H _ I h) fun v s1 ⟨y, H1, I1, r1, q1⟩ => thn (ho.run pins s1 σ H1 _ I1 q1) fun u s2 ⟨x, H2, I2, r2, a, C, ex, T, nf, q⟩ => ?_) hs
  subst ex
  obtain rfl : u = Value.ref a := r2
  obtain ⟨_, _, _, _, T⟩ := T
  rcases q with ⟨ea, q⟩ | ⟨dx, fs, ea, ed, hl, q⟩
  · exact est_first T I2 ea nf r1 fun dx s' n ne J => ⟨σ, _, J, q dx n ne⟩
  · exact est_more T I2 ea ed hl nf r1 fun s' J => ⟨σ, _, J, q⟩
theorem pe_ef (ho : PE X o to) (hb : attributeBase o f X.env (eval o X.env) = eval o X.env := by rfl) : PE X (.Attribute o f pos) (tEf X.K f to) := by
  refine ⟨fun pins s σ H Q I h => ?_⟩
  refine attr_of hb (thn (ho.run pins s σ H _ I h) fun u s1 hh => ?_)
  obtain ⟨x, H1, I1, rx, a, C, dx, fs, v, ex, T, nf, ea, ed, l, q⟩ := hh
  subst ex
  obtain rfl : u = Value.ref a := rx
  obtain ⟨_, _, _, _, T⟩ := T
  obtain ⟨t1, hoa⟩ := exo_at I1.hok ea
  obtain ⟨mA, hns, hr⟩ := exd_at I1.hok ed
  obtain ⟨od, hod, hl⟩ := lookIn_ns hns
  obtain ⟨u, hu, ru⟩ := RelO.some_of (v := v) (o := mA f) (by rw [← l]; exact hr f)
  have J : PySem.W.InstAt s1.heap a (PySem.W.excObj C t1 (some dx) .none) C (some od) := ⟨hoa, rfl, rfl, hod⟩
  exact HandSPX.exc_get I1.kIn J T.ga T.gg T.exC (PySem.W.findObj_own T.hdc nf rfl (by rw [hl, hu])) (handed_of ru) ⟨v, H1, I1.tok _, ru, q⟩
end
/-! ### an error made -/
/-- C(..) by values vs and keywords zs: a new error a, then __init__ by its promise -/
def tMkE (C : Addr) (n m : Nat) (sp : Sp) (gV : List V → List V → List V) (ta tk : TA) : TE := fun σ H Q => ta σ H fun vs H1 => tk σ H1 fun zs H2 => vs.length = n ∧ zs.length = m ∧ ∀ a, H2 a = none → sp (gV (.ref a :: vs) zs) (upd H2 a (exo a C none)) (fun v H3 => v = .non ∧ Q (.ref a) H3) (fun _ _ _ => False)
section
variable {X : Cx} {CX : CXT} {k n : Nat} {fI C : Addr} {fd : FuncData} {ps ks : List Str} {sp : Sp} {B newId initId : String} {bmB : List Value} {g : List Value → List Value → List Value} {gV : List V → List V → List V}
theorem run_mkE {pins : List (Addr × Obj)} {σ : L2.St} {H : Hp} {s : Shared} {Q : VK} {us ws : List Value} {vs zs : List V} (T : Ec X.K B newId initId bmB C) (iC : PySem.W.findIn X.K (.ref C) "__init__" = some (some (.ref fI))) (tI : PySem.W.typeIn X.K (.ref fI) = some (.type "function"))
    (F : FnOk X.prog X.w X.K X.mg X.base CX k fI fd ps sp) (hr : Room (k + 1) X.A) (hb : KBn X.K fd ps (n + 1) ks g gV) (hx : Passes CX X (fun _ _ _ => False)) (I : Inv X pins σ H s) (r : Vals vs us) (rz : Vals zs ws) (l1 : vs.length = n) (l2 : zs.length = ks.length) (hn : n ≤ 1000)
    (z : ∀ a, H a = none → sp (gV (.ref a :: vs) zs) (upd H a (exo a C none)) (fun v H3 => v = .non ∧ Q (.ref a) H3) (fun _ _ _ => False)) :
    wpAny (model X.prog X.w) X.A (call (.ref C) us (ks.zip ws)) (EP X pins σ Q) X.xe s := by
  obtain ⟨nm, N, qn, bs, bm, hdct, sn, sub, ab, col, dd, k0, k1, k2, k3, k5, oc, hT⟩ := PySem.W.excInit_of I.kIn T.ini
  obtain ⟨hp, gn, dr, tk, os⟩ := s
  have lo : hp.objs.size ≤ hp.objs.size + 1 := Nat.le_succ _
  have fr : H (hp.objs.size + 1) = none := I.hok.fresh lo
  have hq := z _ fr
  have kk : ∀ b o, hp.get? b = some o → ((hp.push (PySem.W.kdv_tup us)).push (PySem.W.excObj C hp.objs.size none .none)).get? b = some o := fun b o e => Heap.get?_push_of_some _ (Heap.get?_push_of_some _ e)
  have made : ((hp.push (PySem.W.kdv_tup us)).push (PySem.W.excObj C hp.objs.size none .none)).get? (hp.objs.size + 1) = some (PySem.W.excObj C hp.objs.size none .none) := by heap_get
  have I2 : Inv X pins σ (upd H (hp.objs.size + 1) (exo (hp.objs.size + 1) C none)) ⟨(hp.push (PySem.W.kdv_tup us)).push (PySem.W.excObj C hp.objs.size none .none), gn, dr, tk, os⟩ :=
    I.laid (t' := tk) (a := hp.objs.size + 1) (o := exo (hp.objs.size + 1) C none) kk lo (exo_ok made)
  have r1 : Vals (V.ref (hp.objs.size + 1) :: vs) (Value.ref (hp.objs.size + 1) :: us) := .cons rfl r
  have r2 := hb.rel r1 rz
  have e1 : (Value.ref (hp.objs.size + 1) :: us).length = n + 1 := r1.length.symm.trans (congrArg Nat.succ l1)
  have e2 : ws.length = ks.length := rz.length.symm.trans l2
  have hus : us.length ≤ sizeLine := by
    rw [← Paired.length r, l1, sizeLine_eq]
    omega
  refine wpAny_call (kw_call T.FB hT oc (PySem.W.looks_findIn I.kIn iC) (fun self => PySem.W.bind_fn I.kIn self tI) hus
    (codeAny_mono (F.run _ X.stack _ _ ⟨Value.ref (hp.objs.size + 1) :: us, ks.zip ws⟩ (g (Value.ref (hp.objs.size + 1) :: us) ws) _ _ (fun _ _ _ => False) (hr.make C us (ks.zip ws)) (I2.env0.make C us (ks.zip ws)) (hb.to _ (Value.ref (hp.objs.size + 1) :: us) ws I2.kIn e1 e2) r2 hq) fun r s' hq' => ?_))
  cases r with
  | error er => exact hx pins σ _ _ er s' I2 hq'
  | ok fl =>
    cases fl with
    | ret u =>
      obtain ⟨v, H', I3, rv, ev, q3⟩ := I2.after hq'
      subst ev
      exact ⟨rv, ⟨V.ref (hp.objs.size + 1), H', I3, rfl, q3⟩⟩
    | next => exact False.elim hq'
    | brk => exact False.elim hq'
    | cont => exact False.elim hq'
end
end Ux

set_option Elab.async false
set_option linter.all false
set_option maxRecDepth 100000
set_option maxHeartbeats 4000000
namespace Ux
open PySem PySem.Spec PyProof.Rows L2
section
variable {X : Cx} {CX : CXT} {k n : Nat} {fI C : Addr} {fd : FuncData} {ps ks : List Str} {sp : Sp} {B newId initId : String} {bmB : List Value} {g : List Value → List Value → List Value} {gV : List V → List V → List V}
variable {x : Str} {p pos : Pos} {e : Expr} {es : List Expr} {kws : List Keyword} {ta tk : TA}
theorem kbn_pos {K : PySem.W.Frag} {fd : FuncData} {ps : List Str} (hb : Binds K fd ps []) (n : Nat) (hn : ps.length = n) : KBn K fd ps n [] (fun us _ => us) (fun vs _ => vs) := by
  refine ⟨fun s us ws IN l1 l2 => ?_, fun r _ => r⟩
  have hz : ws = [] := List.length_eq_zero_iff.mp l2
  subst hz
  have z := hb s us IN (by rw [List.append_nil, l1, hn])
  rw [List.append_nil] at z
  exact z
theorem kbn_mk {K : PySem.W.Frag} {y qual : Str} {st : Stmt} {f : Addr} {fd : FuncData} (F : Fun K y qual st f fd) (n : Nat) (ks : List Str) (g : {α : Type} → List α → List α → List α)
    (hrel : ∀ {vs zs : List V} {us ws : List Value}, Vals vs us → Vals zs ws → Vals (g vs zs) (g us ws))
    (h : ∀ (kV doc pm : Value) (an : Option Addr) (cdv ct : Value) (us ws : List Value), us.length = n → ws.length = ks.length → bindArgs (PySem.W.fnOf y qual (defArgs st) (defBody st) (defScope st) .none kV doc pm an cdv ct) ⟨us, ks.zip ws⟩ = pure (ps.zip (g us ws))) : KBn K fd ps n ks (fun us ws => g us ws) (fun vs zs => g vs zs) := by
  obtain ⟨oc, od, kV, doc, pm, an, cdv, ct, osl, rfl, lk, hcd⟩ := F.ex
  exact ⟨fun s us ws _ l1 l2 => .of_eq (h kV doc pm an cdv ct us ws l1 l2), fun r z => hrel r z⟩
/-- C(e, ..) -/
theorem pe_mkE (T : Ec X.K B newId initId bmB C) (iC : PySem.W.findIn X.K (.ref C) "__init__" = some (some (.ref fI))) (tI : PySem.W.typeIn X.K (.ref fI) = some (.type "function")) (F : FnOk X.prog X.w X.K X.mg X.base CX k fI fd ps sp) (hr : Room (k + 1) X.A)
    (hb : KBn X.K fd ps (n + 1) [] g gV) (hx : Passes CX X (fun _ _ _ => False)) (hn : n ≤ 1000) (hg : Gl X x) (hm : X.mg x = some (.ref C)) (ha : PA X (e :: es) ta)
    (hdb : (x == ("__debug__" : Str)) = false := by decide) (he : starEach (e :: es) X.env = (false, eval e X.env) :: starEach es X.env := by rfl) (hpl : (backTo pos (starEach es X.env)).any (·.1) = false := by rfl) :
    PE X (.Call (.Name x p) (e :: es) [] pos) (tMkE C n 0 sp gV ta tNil) := by
  refine ⟨fun pins s σ H Q I h => ?_⟩
  refine wpAny_Call_Name_kw (ld_glob I hg hm ?_ hdb)
  refine PySem.W.callWith_K (h₀ := X.base) I.ok.mod.kin T.kc (thn (ha.run pos pins s σ H _ I h) fun us s1 hh => ?_) he hpl
  obtain ⟨vs, H1, I1, r1, l1, _, z⟩ := hh
  refine ⟨I1.kIn, ?_⟩
  exact run_mkE (ks := []) (ws := []) (zs := []) T iC tI F hr hb hx I1 r1 .nil l1 rfl hn z
/-- C() -/
theorem pe_mkE0 (T : Ec X.K B newId initId bmB C) (iC : PySem.W.findIn X.K (.ref C) "__init__" = some (some (.ref fI))) (tI : PySem.W.typeIn X.K (.ref fI) = some (.type "function")) (F : FnOk X.prog X.w X.K X.mg X.base CX k fI fd ps sp) (hr : Room (k + 1) X.A)
    (hb : KBn X.K fd ps 1 [] g gV) (hx : Passes CX X (fun _ _ _ => False)) (hg : Gl X x) (hm : X.mg x = some (.ref C)) (hdb : (x == ("__debug__" : Str)) = false := by decide) : PE X (.Call (.Name x p) [] [] pos) (tMkE C 0 0 sp gV tNil tNil) := by
  refine ⟨fun pins s σ H Q I h => ?_⟩
  refine wpAny_Call_Name_kw (ld_glob I hg hm ?_ hdb)
  obtain ⟨l1, l2, z⟩ := h
  exact PySem.W.callWith_K0 I.kIn T.kc (run_mkE (ks := []) (ws := []) (zs := []) (us := []) (vs := []) T iC tI F hr hb hx I .nil .nil rfl rfl (Nat.zero_le _) z)
/-- C(k = e, ..) -/
theorem pe_mkEK (T : Ec X.K B newId initId bmB C) (iC : PySem.W.findIn X.K (.ref C) "__init__" = some (some (.ref fI))) (tI : PySem.W.typeIn X.K (.ref fI) = some (.type "function")) (F : FnOk X.prog X.w X.K X.mg X.base CX k fI fd ps sp) (hr : Room (k + 1) X.A)
    (hb : KBn X.K fd ps 1 ks g gV) (hx : Passes CX X (fun _ _ _ => False)) (hg : Gl X x) (hm : X.mg x = some (.ref C)) (hkw : PK X kws tk)
    (hall : (backToKw pos (keywordEach kws X.env)).all (·.1.isSome) = true := by rfl) (hks : (backToKw pos (keywordEach kws X.env)).filterMap (·.1) = ks := by rfl) (hdb : (x == ("__debug__" : Str)) = false := by decide)
    (hpl : ((backTo pos (starEach [] X.env)).any (·.1) || (backToKw pos (keywordEach kws X.env)).any (·.1.isNone)) = false := by rfl) :
    PE X (.Call (.Name x p) [] kws pos) (tMkE C 0 ks.length sp gV tNil tk) := by
  refine ⟨fun pins s σ H Q I h => ?_⟩
  refine wpAny_Call_Name_kw (ld_glob I hg hm ?_ hdb)
  refine PySem.W.callWith_KW0 (h₀ := X.base) I.ok.mod.kin T.kc hall ?_ hpl
  refine thn (hkw.run pos pins s σ H _ I h) fun ws s2 hh => ?_
  obtain ⟨zs, H2, I2, rz, l1, l2, z⟩ := hh
  refine ⟨I2.kIn, ?_⟩
  rw [hks]
  exact run_mkE (us := []) (vs := []) T iC tI F hr hb hx I2 .nil rz rfl l2 (Nat.zero_le _) z
end
/-! ### isinstance of an error -/
structure Ei (K : PySem.W.Frag) (C : Addr) : Prop where
  cl : (PySem.W.clsIn K C).isSome = true
  hg : PySem.W.findIn K (.ref C) "__getattribute__" = some (some (.builtin "BaseException.__getattribute__"))
  hk : PySem.W.findIn K (.ref C) "__getattr__" = some none
  hs : PySem.W.subIn K (.ref C) (.type "BaseException") = some true
  ha : PySem.W.findIn K (.ref C) "__class__" = some (some (.builtin "object.__class__"))
  hn : PySem.W.specialIn K (.builtin "object.__class__") "__get__" = some (some (.builtin "getset_descriptor.__get__"))
  ht : PySem.W.takesIn K (.builtin "object.__class__") = some true
  hm : PySem.W.mroIn K C (.type "object") = some true
/-- isinstance(e, c), e an error with its dict -/
def rIsEr (K : PySem.W.Frag) : List V → Hp → VK → Prop := fun xs H Q => ∃ (a C dx : Addr) (fs : List (Str × V)) (c : V) (u : Value) (b : Bool), xs = [.ref a, c] ∧ ClsV c u ∧ Ei K C ∧ H a = some (exo a C (some dx)) ∧ H dx = some (exd dx fs) ∧ PySem.W.kitOne K (.ref C) u = some b ∧ Q (.bl b) H
theorem call_isEr {X : Cx} : CallR X (.builtin "isinstance") (rIsEr X.K) := by
  intro pins s σ H xs us Q I r h
  obtain ⟨a, C, dx, fs, c, u, b, rfl, kc, E, ea, ed, e, q⟩ := h
  obtain ⟨u1, u2, rfl, r1, r2⟩ := vals2 r
  cases (show u1 = Value.ref a from r1)
  have ec := kc.eq r2
  subst ec
  obtain ⟨t1, hoa⟩ := exo_at I.hok ea
  obtain ⟨mA, hns, hr⟩ := exd_at I.hok ed
  obtain ⟨od, hod, hl⟩ := lookIn_ns hns
  have J : PySem.W.InstAt s.heap a (PySem.W.excObj C t1 (some dx) .none) C (some od) := ⟨hoa, rfl, rfl, hod⟩
  exact PySem.W.kia_one (PySem.W.kitx_exc E.cl E.hg E.hk E.hs E.ha E.hn E.ht E.hm) I.kIn J e (fun z => nomatch z) fun tk => ⟨.bl b, H, I.tok tk, rfl, q⟩
/-! ### abs and str of a truth value -/
theorem abs_true {prog : Program} {w : World} {A : Around} {E : Value → Shared → Prop} {s : Shared} {Q : Value → Shared → Prop} (h : ∀ u tk, Q (.int 1 u) { s with toks := tk }) : wpAny (model prog w) A (call (.builtin "abs") [.bool true]) Q E s := by
  refine PySem.Calls.call_function_entry kind_abs plain_abs entry_abs (args_abs _) ?_
  unfold Builtin.«abs»
  refine wpAny_bind (m := oneArg "abs" _) (wpAny_pure ?_)
  refine wpAny_bind (m := callSpecial? (.bool true) (Str.ofString "__abs__")) (wpAny_callSpecial?_slot (name := Str.ofString "__abs__") (PySem.typeIs_bool s true) F.slot_bool_abs
    (wpAny_call_entry F.slot_bool_abs (PySem.typeIs_bool s true) entry_int_abs ?_ (args_int_abs _)))
  have h' := h s.toks (s.toks + 1)
  exact wpAny_ret_mkInt (wpAny_pure ⟨_, rfl, h'⟩)
theorem call_absT {X : Cx} : CallR X (.builtin "abs") (fun xs H Q => (∃ i, xs = [.int i] ∧ Q (.int (if i < 0 then -i else i)) H) ∨ (xs = [.bl true] ∧ Q (.int 1) H)) := by
  intro pins s σ H xs us Q I r h
  rcases h with ⟨i, rfl, q⟩ | ⟨rfl, q⟩
  · obtain ⟨u, rfl, t, rfl⟩ := vals1 r
    exact call_abs_int fun u tk => ⟨.int (if i < 0 then -i else i), H, I.tok _, ⟨_, rfl⟩, q⟩
  · obtain ⟨u, rfl, r1⟩ := vals1 r
    cases (show u = Value.bool true from r1)
    exact abs_true fun u tk => ⟨.int 1, H, I.tok _, ⟨_, rfl⟩, q⟩
theorem str_true {prog : Program} {w : World} {A : Around} {E : Value → Shared → Prop} {s : Shared} {Q : Value → Shared → Prop} (h : Q (.str "True" s.toks) { s with toks := s.toks + 1 }) : wpAny (model prog w) A (call (.type "str") [.bool true]) Q E s :=
  callType_new F.called_str (by decide) (F.typeCall_str_1 _) (F.newCall_str_1 _) (fun obj => F.args_object_init_2 obj _) F.entry_str_new
    (meets_str_new (S := fun _ R s => R (.ok (.ret (.str "True" s.toks))) { s with toks := s.toks + 1 }) fun _ _ _ _ s hq =>
      wpAny_strOf_gives rfl (PySem.typeIs_bool s true) F.slot_bool_str F.slot_bool_repr F.entry_bool_repr (F.args_bool_repr_1 _) (gives_bool_repr true) hq (hsz := by decide)) ⟨typeIs_str _ _ _, h⟩
theorem call_strT {X : Cx} : CallR X (.type "str") (fun xs H Q => (∃ i, xs = [.int i] ∧ i.natAbs.log2 < 1920 ∧ Q (.str (toString i)) H) ∨ (xs = [.bl true] ∧ Q (.str "True") H)) := by
  intro pins s σ H xs us Q I r h
  rcases h with ⟨i, rfl, hz, q⟩ | ⟨rfl, q⟩
  · obtain ⟨u, rfl, t, rfl⟩ := vals1 r
    exact PySem.P.str_of_int hz ⟨.str _, H, I.tok _, ⟨_, rfl⟩, q⟩
  · obtain ⟨u, rfl, r1⟩ := vals1 r
    cases (show u = Value.bool true from r1)
    exact str_true ⟨.str _, H, I.tok _, ⟨_, rfl⟩, q⟩
theorem call_reprS {X : Cx} : CallR X (.builtin "repr") (fun xs H Q => ∃ x, xs = [.str x] ∧ (reprText x).length ≤ sizeLine ∧ Q (.str (reprText x)) H) := by
  intro pins s σ H xs us Q I r h
  obtain ⟨x, rfl, hz, q⟩ := h
  obtain ⟨u, rfl, t, rfl⟩ := vals1 r
  exact PySem.P.repr_of_str (hsz := hz) ⟨.str _, H, I.tok _, ⟨_, rfl⟩, q⟩
end Ux

set_option Elab.async false
set_option linter.all false
set_option maxRecDepth 100000
set_option maxHeartbeats 4000000
/-! Own classes: str, repr, == and != by the text's own methods. -/
namespace Ux
open PySem PySem.Spec PyProof.Rows L2
section
variable {X : Cx} {pins : List (Addr × Obj)} {σ : L2.St} {H : Hp} {s : Shared} {k : Nat} {f C : Addr} {fd : FuncData} {ps : List Str} {sp : Sp}
theorem own_run {A' : Around} {us : List Value} {vs : List V} {Q : VK} {R : Value → Shared → Prop} {E' : Value → Shared → Prop} (F : FnOk X.prog X.w X.K X.mg X.base CX0 k f fd ps sp) (hr : Room k A') (e0 : Env0 X.prog X.w X.K X.mg X.base A' X.stack s H)
    (hb : Binds X.K fd ps []) (I : Inv X pins σ H s) (r : Vals vs us) (h : sp vs H Q (fun _ _ _ => False)) (z : ∀ u s', EP X pins σ Q u s' → R u s') : wpAny (model X.prog X.w) A' (call (.ref f) us) R E' s := by
  have hl : us.length = ps.length := r.length.symm.trans (F.len _ _ _ _ h)
  have b := hb s us I.kIn (by rw [List.append_nil]; exact hl)
  rw [List.append_nil] at b
  refine wpAny_call (codeAny_mono (F.run A' X.stack s H ⟨us, []⟩ us vs Q (fun _ _ _ => False) hr e0 b r h) fun r s' hq => ?_)
  cases r with
  | error e => exact False.elim hq
  | ok fl =>
    cases fl with
    | ret u => exact z u s' (I.after hq)
    | next => exact False.elim hq
    | brk => exact False.elim hq
    | cont => exact False.elim hq
/-- an own method by its name, on an instance -/
structure OwnM (K : PySem.W.Frag) (C : Addr) (m : Str) (f : Addr) : Prop where
  at_ : PySem.W.findIn K (.ref C) m = some (some (.ref f))
  fn : PySem.W.isFn K (.ref f) = true
/-- a text handed back -/
def rOwnS (C : Addr) (sp : Sp) : List V → Hp → VK → Prop := fun xs H Q => ∃ (a dx : Addr) (fs : List (Str × V)), xs = [.ref a] ∧ H a = some (.ins C dx fs) ∧ sp [.ref a] H (fun v H' => ∃ z, v = .str z ∧ Q (.str z) H') (fun _ _ _ => False)
theorem call_strO (M : OwnM X.K C "__str__" f) (F : FnOk X.prog X.w X.K X.mg X.base CX0 k f fd ["self"] sp) (hb : Binds X.K fd ["self"] []) (hr : Room (k + 2) X.A) : CallR X (.type "str") (rOwnS C sp) := by
  intro pins s σ H xs us Q I r h
  obtain ⟨a, dx, fs, rfl, ea, q⟩ := h
  obtain ⟨u, rfl, rx⟩ := vals1 r
  cases (show u = Value.ref a from rx)
  obtain ⟨mA, O, _⟩ := ins_get I.hok ea
  obtain ⟨od, J, _⟩ := O.look
  refine PySem.W.kso_call hr.in1.in1.units0 I.kIn J M.at_ M.fn (own_run F hr.in1.in1 I.env0.in1.in1 hb (vs := [.ref a]) I (.cons rfl .nil) q fun u s' hq => ?_)
  obtain ⟨v, H', I', rv, z, ev, q'⟩ := hq
  subst ev
  obtain ⟨t, rfl⟩ := rv
  exact ⟨.str z, H', I', ⟨t, rfl⟩, q'⟩
theorem call_reprO (M : OwnM X.K C "__repr__" f) (F : FnOk X.prog X.w X.K X.mg X.base CX0 k f fd ["self"] sp) (hb : Binds X.K fd ["self"] []) (hr : Room (k + 1) X.A) : CallR X (.builtin "repr") (rOwnS C sp) := by
  intro pins s σ H xs us Q I r h
  obtain ⟨a, dx, fs, rfl, ea, q⟩ := h
  obtain ⟨u, rfl, rx⟩ := vals1 r
  cases (show u = Value.ref a from rx)
  obtain ⟨mA, O, _⟩ := ins_get I.hok ea
  obtain ⟨od, J, _⟩ := O.look
  obtain ⟨m, hF⟩ := I.fr
  refine PySem.W.repr_K hr.in1.units0 hF I.ok.mod.kin J M.at_ M.fn (own_run F hr.in1 I.env0.in1 hb (vs := [.ref a]) I (.cons rfl .nil) q fun u s' hq => ?_)
  obtain ⟨v, H', I', rv, z, ev, q'⟩ := hq
  subst ev
  obtain ⟨t, rfl⟩ := rv
  exact ⟨.str z, H', I', ⟨t, rfl⟩, q'⟩
/-- o == y, o != y by o's own __eq__ -/
def rOwnEq (K : PySem.W.Frag) (C : Addr) (sp : Sp) (neg : Bool) : R2 := fun x y H Q => ∃ (a dx : Addr) (fs : List (Str × V)) (t : Value), x = .ref a ∧ H a = some (.ins C dx fs) ∧ TyX K H y t ∧ PySem.W.notFirst K C t = true ∧ sp [x, y] H (fun v H' => ∃ b, v = .bl b ∧ Q (.bl (b != neg)) H') (fun _ _ _ => False)
theorem op_eqO (M : OwnM X.K C "__eq__" f) (F : FnOk X.prog X.w X.K X.mg X.base CX0 k f fd ["self", "other"] sp) (hb : Binds X.K fd ["self", "other"] []) (hr : Room k X.A) : OpR X (compareOp .Eq) (rOwnEq X.K C sp false) := by
  intro pins s σ H x y v u Q I rx ry h
  obtain ⟨a, dx, fs, t, rfl, ea, ty, nf, q⟩ := h
  cases (show v = Value.ref a from rx)
  obtain ⟨mA, O, _⟩ := ins_get I.hok ea
  obtain ⟨od, J, _⟩ := O.look
  obtain ⟨m, hF⟩ := I.fr
  obtain ⟨P', Z, hp, _⟩ := kit_of I ry ty
  show wpAny (model X.prog X.w) X.A (richCompare .Eq (.ref a) u) (EP X pins σ Q) X.xe s
  refine PySem.W.cmp_K (op := .Eq) (tb := t) hr.units0 hF I.ok.mod.kin J (Z.ty _ _ I.kIn hp) nf M.at_ M.fn (own_run F hr I.env0 hb (vs := [.ref a, y]) I (.cons rfl (.cons ry .nil)) q fun w s' hq => ?_)
  obtain ⟨v, H', I', rv, b, ev, q'⟩ := hq
  subst ev
  cases (show w = Value.bool b from rv)
  have e : (b != false) = b := by cases b <;> rfl
  rw [e] at q'
  exact ⟨.bl b, H', I', rfl, q'⟩
/-- what != wants besides: the class keeps object's __ne__ -/
structure NeO (K : PySem.W.Frag) (C : Addr) : Prop where
  ne : PySem.W.findIn K (.ref C) "__ne__" = some (some (.builtin "object.__ne__"))
  ob : PySem.W.mroIn K C (.type "object") = some true
end
end Ux
namespace Ux
open PySem PySem.W
section
variable {prog : Program} {w : World} {M : Model} {A : Around} {E : Value → Shared → Prop} {s : Shared} {K : Frag} {x C L f : Addr} {h₀ : Heap} {m : Str → Option Value} {ox : Obj} {od : Option Obj} {tb b : Value}
theorem ifBound_bi {name : Str} {id : String} {args : List Value} {Q : Option Value → Shared → Prop} (IN : K.In s.heap) (I : InstAt s.heap x ox C od) (hs : findIn K (.ref C) name = some (some (.builtin id))) (hb : ∀ self, bindSpecial (.builtin id) self = pure (.builtin id, [self]))
    (hn : (Value.builtin id == Value.none) = false) (h : wpAny M A (call (.builtin id) (.ref x :: args)) (fun v => Q (some v)) E s) : wpAny M A (callSpecialIfBound? (.ref x) name args) Q E s := by
  simp only [callSpecialIfBound?, bindSpecialIfBound?]
  refine wpAny_holding (wpAny_bind (wpAny_bind (wpAny_bind (I.type.here ((looks_findIn IN hs).here ?_)))))
  simp only [hb]
  refine wpAny_bind (wpAny_askSetting (wpAny_ite ?_))
  have last : wpAny M A (call (.builtin id) ([.ref x] ++ args) >>= fun v => pure (some v)) Q E s := wpAny_bind (wpAny_mono h (fun v s' z => wpAny_pure z) fun _ _ z => z)
  split
  · exact wpAny_bind (wpAny_pure (wpAny_pure last))
  · exact wpAny_tryCatch (wpAny_bind (wpAny_pure (wpAny_pure last)))
/-- o != b where o has its own __eq__ and keeps object's __ne__ -/
theorem ne_own {Q : Value → Shared → Prop} (hu : A.units < cLine) (hu1 : A.in1.units < cLine) (IN : K.In s.heap) (I : InstAt s.heap x ox C od) (hb : Looks (model prog w) s.heap (typeOf b) tb) (hn : notFirst K C tb = true)
    (hne : findIn K (.ref C) "__ne__" = some (some (.builtin "object.__ne__"))) (hm : mroIn K C (.type "object") = some true) (hs : findIn K (.ref C) "__eq__" = some (some (.ref f))) (hf : isFn K (.ref f) = true)
    (h : wpAny (model prog w) A.in1 (call (.ref f) [.ref x, b]) (fun v s' => ∃ r, v = .bool r ∧ Q (.bool (!r)) s') E s) : wpAny (model prog w) A (richCompare .NotEq (.ref x) b) Q E s := by
  have SL := PySem.F.cmp_object.ne
  have one : wpAny (model prog w) A (tryCompare (.ref x) "__ne__" b) (fun r s' => ∃ v, r = some v ∧ Q v s') E s := by
    unfold tryCompare
    refine wpAny_bind (ifBound_bi IN I hne SL.bind rfl ?_)
    refine wpAny_call (codeAny_call_builtin SL.plain PySem.F.cmpEntry_ne (check_slot (i := "object.__ne__") (owner := "object") (n := "__ne__") PySem.F.cmpKind_ne PySem.F.cmpSplit_ne (I.type.andThen (looks_mroIn IN hm)) (PySem.F.cmpArgs_ne _ _) ?_))
    unfold Builtin.«object.__ne__»
    refine wpAny_bind (m := slotArgs "__ne__" 1 _) (wpAny_pure ?_)
    refine wpAny_bind (m := cRoomFor _ _) (wpAny_cRoomFor hu1 ?_)
    refine wpAny_bind (m := callSpecialIfBound? (.ref x) (Str.ofString "__eq__") _) (ifBound_K IN I hs hf (wpAny_mono h (fun v s' z => ?_) fun _ _ z => z))
    obtain ⟨r, rfl, q⟩ := z
    refine wpAny_bind (wpAny_truthy_bool ?_)
    exact wpAny_pure (wpAny_pure ⟨_, rfl, q⟩)
  have SN : (cmpInfo .NotEq).2.1 = ("__ne__" : Str) := rfl
  unfold richCompare
  simp only [oneThing_ref, cmpInfo_NotEq]
  refine wpAny_holding (wpAny_bind (wpAny_cRoomFor hu ?_))
  refine wpAny_bind (I.type.here (wpAny_bind (hb.here ?_)))
  split
  · rename_i q
    have e : subIn K tb (.ref C) = some false := by
      rcases Bool.or_eq_true_iff.mp hn with e | e
      · rw [beq_iff_eq.mp e] at q
        simp at q
      · exact beq_iff_eq.mp e
    refine wpAny_bind ((looks_subIn IN e).here ?_)
    simp only [Bool.false_eq_true, if_false]
    refine wpAny_bind (wpAny_mono one (fun r s' z => ?_) fun _ _ e => e)
    obtain ⟨v, rfl, hq⟩ := z
    exact wpAny_pure hq
  · refine wpAny_bind (wpAny_pure ?_)
    simp only [Bool.false_eq_true, if_false]
    refine wpAny_bind (wpAny_mono one (fun r s' z => ?_) fun _ _ e => e)
    obtain ⟨v, rfl, hq⟩ := z
    exact wpAny_pure hq
end
end Ux
namespace Ux
open PySem PySem.Spec PyProof.Rows L2
section
variable {X : Cx} {k : Nat} {f C : Addr} {fd : FuncData} {sp : Sp}
theorem op_neO (M : OwnM X.K C "__eq__" f) (N : NeO X.K C) (F : FnOk X.prog X.w X.K X.mg X.base CX0 k f fd ["self", "other"] sp) (hb : Binds X.K fd ["self", "other"] []) (hr : Room (k + 1) X.A) : OpR X (compareOp .NotEq) (rOwnEq X.K C sp true) := by
  intro pins s σ H x y v u Q I rx ry h
  obtain ⟨a, dx, fs, t, rfl, ea, ty, nf, q⟩ := h
  cases (show v = Value.ref a from rx)
  obtain ⟨mA, O, _⟩ := ins_get I.hok ea
  obtain ⟨od, J, _⟩ := O.look
  obtain ⟨P', Z, hp, _⟩ := kit_of I ry ty
  show wpAny (model X.prog X.w) X.A (richCompare .NotEq (.ref a) u) (EP X pins σ Q) X.xe s
  refine ne_own (tb := t) hr.units0 hr.in1.units0 I.kIn J (Z.ty _ _ I.kIn hp) nf N.ne N.ob M.at_ M.fn (own_run F hr.in1 I.env0.in1 hb (vs := [.ref a, y]) I (.cons rfl (.cons ry .nil)) q fun w s' hq => ?_)
  obtain ⟨v, H', I', rv, b, ev, q'⟩ := hq
  subst ev
  cases (show w = Value.bool b from rv)
  have e : (b != true) = !b := by cases b <;> rfl
  rw [e] at q'
  exact ⟨b, rfl, .bl (!b), H', I', rfl, q'⟩
end
end Ux

set_option Elab.async false
set_option linter.all false
set_option maxRecDepth 100000
set_option maxHeartbeats 4000000
namespace Ux
open PySem PySem.Spec PyProof.Rows L2
/-! ### try: .. except (A, B) as n: .., where every exception of the body is caught -/
/-- what such a clause wishes of an exception -/
def wAs2 (K : PySem.W.Frag) (C1 C2 : Addr) (len i : Nat) (ts : Addr → Value → Option Addr → TS) (D : Ends) : WX := fun cls d σ H =>
  PySem.W.exmAny K cls [.ref C1, .ref C2] = some true ∧ ∀ a, H a = none → σ.length = len →
    ts a cls d ⟨fun σ' H' => D.nx (σ'.set i none) H', D.rt, fun σ' H' => D.bk (σ'.set i none) H', fun σ' H' => D.ct (σ'.set i none) H'⟩ (σ.set i (some (.ref a))) H
theorem fly_push {B h : Heap} {l : List Env} {e : Addr} {Z : Obj → Prop} {o : Obj} (f : HandSPX.FlyingZ B l e Z h) : HandSPX.FlyingZ B l e Z (h.push o) := by
  obtain ⟨k1, k2, k3, oe, vs, T, oT, ts, a1, a2, a3, a4, a5, a6, a7, a8, a9⟩ := f
  have kp : ∀ {b u}, h.get? b = some u → (h.push o).get? b = some u := fun z => Heap.get?_push_of_some _ z
  exact ⟨fun b u z => kp (k1 b u z), k2, k3.of_keeps fun b u z _ => ⟨u, kp z, rfl⟩, oe, vs, T, oT, ts, kp a1, a2, a3, a4, a5, a6, kp a7, a8, a9⟩
section
variable {X : Cx} {x1 x2 n : Str} {C1 C2 : Addr} {i : Nat} {body suite : List Stmt} {b₀ : Stmt} {p1 p2 tpos pos pos' : Pos} {kk : Nat} {tb : WX → TS} {ts : Addr → Value → Option Addr → TS}
theorem ps_try_as2 (hs : X.stack = X.env :: X.outer) (hf : X.env.frame = some X.env.locals) (hN : X.N.Nodup) (hi : X.N[i]? = some n) (hln : X.env.kindOf n = some .local)
    (g1 : Gl X x1) (g2 : Gl X x2) (m1 : X.mg x1 = some (.ref C1)) (m2 : X.mg x2 = some (.ref C2)) (d1 : (x1 == ("__debug__" : Str)) = false) (d2 : (x2 == ("__debug__" : Str)) = false)
    (hb : ∀ (W : WX) (pn : List (Addr × Obj)) (xe : Value → Shared → Prop), Takes (X.tr pn xe) W → PassesOwn (model X.prog X.w) X.A X.env xe → PSs (X.tr pn xe) body (tb W))
    (hsu : ∀ (a : Addr) (oe : Obj) (cls : Value) (d : Option Addr) (pn : List (Addr × Obj)), Zc cls d oe → (∃ vs, oe.data = .fields vs) → PSs (X.suite a ((a, oe) :: pn)) (b₀ :: suite) (ts a cls d)) :
    PS X (.Try body [.ExceptHandler (some (.Tuple [.Name x1 p1, .Name x2 p2] kk tpos)) (some n) (b₀ :: suite) pos'] [] [] pos) (fun D σ H => tb (wAs2 X.K C1 C2 X.N.length i ts D) D σ H) := by
  constructor
  intro pins s σ H D I h
  have ok := I.ok
  have frm : X.A.frames = some (X.env :: X.outer) := ok.frames.trans (congrArg some hs)
  refine wpAny_Try_except (wpAny_mono ((hb (wAs2 X.K C1 C2 X.N.length i ts D) (X.pn ++ pins) (fun e s₁ => wpAny (model X.prog X.w) X.A (noteFrame e X.env) (fun _ s₂ => wpAny (model X.prog X.w) X.A (setFlight e none)
    (fun _ s₃ => wpAny (model X.prog X.w) X.A (handleBy e X.env [.ExceptHandler (some (.Tuple [.Name x1 p1, .Name x2 p2] kk tpos)) (some n) (b₀ :: suite) pos']) (SP X pins D) X.xe s₃) X.xe s₂) X.xe s₁)
    (fun u sx caught => ?_) PassesOwn.looking).run [] s σ H D (I.toTry _) h) (fun f sf done => ?_) (fun _ _ z => z))
  · obtain ⟨a, B, sI, pins', σc, Hc, cls, d, rfl, Jt, nb, up, sky, na, os, ag, hm, go⟩ := caught
    have J := Jt.ofTry ok
    rw [hs] at sky
    show wpAny (model X.prog X.w) X.A (noteFrame (.ref a) X.env) _ _ _
    refine Sky.land Zc.steady frm hf sky fun h1 fl1 up1 => ?_
    have J1 : Inv X pins σc Hc { sx with heap := h1 } := J.landed nb fl1.1 (up.trans up1) os ag
    obtain ⟨oe, vs, he, hz, hd⟩ := fl1.there
    have out : a ∉ frs (X.env :: X.outer) := fun m => by
      obtain ⟨_, o', e', hnf⟩ := fl1.2.2.1.mem m
      have q := Option.some.inj (he.symm.trans e')
      exact hnf vs (q ▸ hd)
    have nL : a ≠ X.env.locals := fun z => out (List.mem_filterMap.mpr ⟨X.env, List.mem_cons_self, hf.trans (congrArg some z.symm)⟩)
    have nF : a ∉ X.fs := fun m => by
      obtain ⟨e, h2, h3⟩ := List.mem_filterMap.mp m
      exact out (List.mem_filterMap.mpr ⟨e, List.mem_cons_of_mem _ h2, h3⟩)
    have S1 := J1.suite he hd na nL nF
    refine wpAny_handleBy_cons (codeAny_handlers_test ?_) (by intro q; cases q)
    have LT : PySem.W.Looks (model X.prog X.w) h1 (typeOf (.ref a)) cls := fun A Q E s k q => wpAny_typeOf_ref (k _ _ he) (hz.1.symm ▸ q)
    refine wpAny_Tuple (wpAny_items_cons (ld_glob (X := X.suite a ((a, oe) :: (X.pn ++ pins))) S1 g1 m1 ?_ d1))
    refine wpAny_items_cons (ld_glob (X := X.suite a ((a, oe) :: (X.pn ++ pins))) S1 g2 m2 ?_ d2)
    refine wpAny_items_nil ⟨(by show 2 ≤ sizeLine; decide), ?_⟩
    have kp : ∀ q o, h1.get? q = some o → (h1.push { cls := .type "tuple", data := .seq [Value.ref C1, Value.ref C2].toArray }).get? q = some o := fun _ _ z => Heap.get?_push_of_some _ z
    refine (PySem.W.exm_tup2 (J1.kIn.keeps kp) (LT.keeps kp) (Heap.get?_push_size h1 rfl) hm).here ?_
    refine codeAny_handlers_suite_as (HandSPX.lands_againZ (fly_push fl1) fun h2 fl2 up2 => ?_)
    have J2 : Inv X pins σc Hc { sx with heap := h2 } := J.landed nb fl2.1 (((up.trans up1).trans (Heap.UpToSlots.of_keeps kp)).trans up2) os ag
    obtain ⟨oe2, vs2, he2, hz2, hd2⟩ := fl2.there
    have S2 := J2.suite he2 hd2 na nL nF
    refine store_ok (X := X.suite a ((a, oe2) :: (X.pn ++ pins))) (v := .ref a) S2 hN hi (.inl hln) rfl (fun s3 S3 => ?_) (.inr hln)
    refine wpAny_mono ((hsu a oe2 cls d (X.pn ++ pins) hz2 ⟨_, hd2⟩).run [] s3 _ Hc _ S3 (go a na J.len)) (fun f s4 fin => ?_) (fun _ _ z => z.elim)
    have gone : ∀ {σ4 : L2.St} {H4 : Hp} {Q : Shared → Prop}, Inv (X.suite a ((a, oe2) :: (X.pn ++ pins))) [] σ4 H4 s4 → (∀ s5, Inv X pins (σ4.set i none) H4 s5 → Q s5) →
        wpAny (model X.prog X.w) X.A (do bindName X.env n .none; unbindBehindTheSuite X.env n pos') (fun _ s5 => Q s5) X.xe s4 := fun S4 q4 => gone_ok (S4.unsuite ok) hN hi hln q4
    cases f with
    | ret u =>
      obtain ⟨v4, σ4, H4, S4, r4, q4⟩ := fin
      exact gone S4 fun s5 J5 => ⟨_, _, _, J5, r4, q4⟩
    | next =>
      obtain ⟨σ4, H4, S4, q4⟩ := fin
      exact gone S4 fun s5 J5 => ⟨_, _, J5, q4⟩
    | brk =>
      obtain ⟨σ4, H4, S4, q4⟩ := fin
      exact gone S4 fun s5 J5 => ⟨_, _, J5, q4⟩
    | cont =>
      obtain ⟨σ4, H4, S4, q4⟩ := fin
      exact gone S4 fun s5 J5 => ⟨_, _, J5, q4⟩
  · cases f with
    | ret u =>
      obtain ⟨v, σ5, H5, J5, r, q⟩ := done
      exact ⟨v, σ5, H5, J5.ofTry ok, r, q⟩
    | next =>
      obtain ⟨σ5, H5, J5, q⟩ := done
      exact wpAny_execs_nil ⟨σ5, H5, J5.ofTry ok, q⟩
    | brk =>
      obtain ⟨σ5, H5, J5, q⟩ := done
      exact ⟨σ5, H5, J5.ofTry ok, q⟩
    | cont =>
      obtain ⟨σ5, H5, J5, q⟩ := done
      exact ⟨σ5, H5, J5.ofTry ok, q⟩
end
end Ux

set_option Elab.async false
set_option linter.all false
set_option maxRecDepth 100000
set_option maxHeartbeats 4000000
namespace Ux
open PySem PySem.Spec PyProof.Rows L2
/-! ### within an except suite: fields of the caught exception, defs that are handed it -/
/-- a caught exception: its class C, its dict dd -/
def Caught (p : Addr × Obj) (C dd : Addr) : Prop := Zc (.ref C) (some dd) p.2 ∧ ∃ vs, p.2.data = .fields vs
/-- e.f, e the exception of a pin -/
def tPf (a dd : Addr) (f : Str) (te : TE) : TE := fun σ H Q => te σ H fun x H1 => ∃ (fs : List (Str × V)) (v : V), x = .ref a ∧ H1 dd = some (.xd fs) ∧ fs.lookup f = some v ∧ Q v H1
section
variable {X : Cx} {C dd : Addr} {p : Addr × Obj} {e : Expr} {te : TE} {pos : Pos} {f : Str}
theorem pe_pf (T : XfC X.K C) (no : PySem.W.findIn X.K (.ref C) f = some none) (hp : p ∈ X.pn) (c : Caught p C dd) (he : PE X e te) (hb : attributeBase e f X.env (eval e X.env) = eval e X.env := by rfl) : PE X (.Attribute e f pos) (tPf p.1 dd f te) := by
  constructor
  intro pins s σ H Q I h
  refine attr_of hb (thn (he.run pins s σ H _ I h) fun u s1 got => ?_)
  obtain ⟨x, H1, I1, rx, fs, v, rfl, hx, l, q⟩ := got
  cases (show u = Value.ref p.1 from rx)
  obtain ⟨⟨z1, z2⟩, vs, hd⟩ := c
  have ok : ObjOk X.prog X.w H1 s1.heap dd (.xd fs) := I1.hok dd _ hx
  obtain ⟨mA, ns, rel⟩ := ok
  obtain ⟨od, ho, hl⟩ := lookIn_ns ns
  obtain ⟨w, hw, rw'⟩ := RelO.some_of (v := v) (o := mA f) (l ▸ rel f)
  have J : PySem.W.InstAt s1.heap p.1 p.2 C (some od) := ⟨(I1.pin p (List.mem_append_left _ hp)).1, z1, by unfold PySem.W.notCls; rw [hd] <;> rfl, by rw [z2]; exact ho⟩
  exact HandSPX.exc_get I1.kIn J T.ga T.gg T.exC (PySem.W.findObj_own T.hdC no rfl ((hl f).trans (congrArg some hw))) (handed_of rw') ⟨v, H1, I1.tok _, rw', q⟩
end
/-- what a def promises that is called while p's exception is handled -/
structure FnQ (P : Program) (w : World) (K : PySem.W.Frag) (mg : Str → Option Value) (base : Heap) (k : Nat) (f : Addr) (fd : FuncData) (ps : List Str) (sp : Addr × Obj → Sp) : Prop where
  len : ∀ p vs H Q E, sp p vs H Q E → vs.length = ps.length
  run : ∀ (A : Around) (outer : List Env) (s : Shared) (H : Hp) (args : Args) (us : List Value) (vs : List V) (Q : VK) (E : XK) (p : Addr × Obj), L2H.RoomH k A → L2H.PinOk outer H s p → Env0 P w K mg base A outer s H → BindsTo s fd args (ps.zip us) → Vals vs us → sp p vs H Q E →
    codeAny (model P w) A (.call (.ref f) args) (CR CX0 outer P w H s Q E) s
theorem Fun.okQ {P : Program} {w : World} {K : PySem.W.Frag} {mg : Str → Option Value} {base : Heap} {k : Nat} {f : Addr} {fd : FuncData} {x qual : Str} {st : Stmt} {N ps : List Str} {sp : Addr × Obj → Sp} (F : Fun K x qual st f fd) (S : FnScope N ps (defScope st))
    (len : ∀ p vs H Q E, sp p vs H Q E → vs.length = ps.length)
    (body : ∀ (cdv : Value) (A : Around) (outer : List Env) (s : Shared) (H : Hp) (vs : List V) (Q : VK) (E : XK) (p : Addr × Obj), L2H.RoomH k (A.deeper (envOfC qual (defScope st) s.heap.objs.size f cdv)) → sp p vs H Q E →
      ∃ t, PSs (L2H.cxH CX0 P w K mg base N qual (defScope st) f cdv A outer s H E p) (defBody st) t ∧ t { nx := fun _ H' => Q .non H', rt := Q } (L2.start N vs) H) :
    FnQ P w K mg base (k + 1) f fd ps sp := by
  obtain ⟨oc, od, kV, doc, pm, an, cdv, ct, osl, rfl, lk, hcd⟩ := F.ex
  refine ⟨len, fun A outer s H args us vs Q E p hr pin e0 hb r want => ?_⟩
  have kin : K.In s.heap := e0.mod.kin.keeps fun b o z => (e0.bs b o z).1
  have lim : s.heap.NoLimit := e0.mod.nolimit.keeps fun b o z => (e0.bs b o z).1
  have kinds : ∀ y ∈ ps.zip us, (defScope st).names.lookup y.1 = some .local ∨ ((defScope st).names.lookup y.1 = some .cell ∧ ((cellsFrom (s.heap.objs.size + 1) (defScope st).names []).lookup y.1).isSome = true) := by
    rintro ⟨n, v⟩ hy
    rcases S.par n (List.of_mem_zip hy).1 with z | z
    · exact .inl z
    · exact .inr ⟨z, PySem.W.cellsFrom_some _ _ _ (.inl z)⟩
  refine codeAny_call_function hr.depth (kin _ _ lk) rfl S.co S.gen rfl (PySem.W.codeRec_of kin hcd) (hb _ _ _ _ (wpAny_newFunctionEnv_cells S.kind kinds fun env he s1 inn => ?_))
  subst he
  obtain ⟨t, ht, hq⟩ := body cdv A outer s H vs Q E p (hr.deeper _) want
  have I := L2H.inv_startH (CX := CX0) (E := E) S pin e0 (len _ _ _ _ _ want) r inn
  refine ⟨lim.keeps inn.toInCall.keep, codeAny_func (wpAny_mono (ht.run [] s1 (L2.start N vs) H _ I hq) (fun fl s2 fin => ?_) fun _ _ z => z)⟩
  cases fl with
  | ret u =>
    obtain ⟨v, σ2, H2, J, rv, q⟩ := fin
    exact ⟨v, H2, J.os, J.bare, J.base, J.hok, rv, q⟩
  | next =>
    obtain ⟨σ2, H2, J, q⟩ := fin
    exact ⟨.non, H2, J.os, J.bare, J.base, J.hok, rfl, q⟩
  | brk =>
    obtain ⟨_, _, _, q⟩ := fin
    exact q.elim
  | cont =>
    obtain ⟨_, _, _, q⟩ := fin
    exact q.elim
/-- such a call, with one argument -/
def tCallQ (p : Addr × Obj) (sp : Addr × Obj → Sp) (t : TA) : TE := fun σ H Q => t σ H fun vs H1 => sp p vs H1 Q E0
section
variable {X : Cx} {k : Nat} {f : Addr} {fd : FuncData} {ps : List Str} {sp : Addr × Obj → Sp} {x : Str} {q pos : Pos} {e : Expr} {es : List Expr} {t : TA} {p : Addr × Obj}
theorem pe_callQ (F : FnQ X.prog X.w X.K X.mg X.base k f fd ps sp) (hr : L2H.RoomH k X.A) (hp : p ∈ X.pn) (hg : Gl X x) (hm : X.mg x = some (.ref f)) (hk : PySem.W.keepIn X.K (.ref f) = true) (hb : Binds X.K fd ps [])
    (ha : PA X (e :: es) t) (hdb : (x == ("__debug__" : Str)) = false := by decide) (he : starEach (e :: es) X.env = (false, eval e X.env) :: starEach es X.env := by rfl) (hpl : (backTo pos (starEach es X.env)).any (·.1) = false := by rfl) :
    PE X (.Call (.Name x q) (e :: es) [] pos) (tCallQ p sp t) := by
  constructor
  intro pins s σ H Q I h
  refine wpAny_Call_Name_kw (ld_glob I hg hm ?_ hdb)
  refine PySem.W.callWith_K (h₀ := X.base) I.ok.mod.kin hk (thn (ha.run pos pins s σ H _ I h) fun us s1 got => ?_) he hpl
  obtain ⟨vs, H1, I1, r, want⟩ := got
  refine ⟨I1.kIn, ?_⟩
  have b := hb s1 us I1.kIn (by rw [List.append_nil, ← r.length]; exact F.len _ _ _ _ _ want)
  rw [List.append_nil] at b
  obtain ⟨a1, a2, a3, a4, a5⟩ := I1.pin p (List.mem_append_left _ hp)
  refine wpAny_call (codeAny_mono (F.run X.A X.stack s1 H1 ⟨us, []⟩ us vs Q E0 p hr ⟨a1, a2, fun m => (List.mem_cons.mp (I1.stkSub p.1 m)).elim a3 a4, a5⟩ I1.env0 b r want) fun r2 s2 fin => ?_)
  cases r2 with
  | error e => exact pass0 (X := X) pins σ H1 s1 e s2 I1 fin
  | ok fl =>
    cases fl with
    | ret u => exact I1.after fin
    | next => exact fin.elim
    | brk => exact fin.elim
    | cont => exact fin.elim
end
end Ux

set_option Elab.async false
set_option linter.all false
set_option maxRecDepth 100000
set_option maxHeartbeats 4000000
namespace Ux
open PySem PySem.Spec PyProof.Rows L2
/-! ### C.m(..), m a staticmethod of an own class -/
structure StM (K : PySem.W.Frag) (C : Addr) (m : Str) (mc : Value) (p g : Addr) : Prop where
  sg : PySem.W.specialIn K (.ref C) "__getattribute__" = some (some (.builtin "type.__getattribute__"))
  rd : PySem.W.readsIn K C mc = true
  fc : PySem.W.findCls K (.ref C) mc m = some (.get (.builtin "staticmethod.__get__") (.ref p) .none (.ref C))
  rc : ∃ rest, PySem.W.recIn K p "staticmethod" = some (.ref g :: rest)
  kp : PySem.W.keepIn K (.ref g) = true
section
variable {X : Cx} {CX : CXT} {k : Nat} {C p g : Addr} {x m : Str} {mc : Value} {fd : FuncData} {ps : List Str} {sp : Sp} {dvs : List V} {ds : List Value} {E : XK} {e : Expr} {es : List Expr} {t : TA} {p1 p2 pos : Pos} {pl : Sem Bool}
theorem pe_smeth (hg : Gl X x) (hm : X.mg x = some (.ref C)) (S : StM X.K C m mc p g) (F : FnOk X.prog X.w X.K X.mg X.base CX k g fd ps sp) (hr : Room k X.A) (hb : Binds X.K fd ps ds) (hd : Vals dvs ds) (hx : Passes CX X E) (ha : PA X (e :: es) t)
    (hdb : (x == ("__debug__" : Str)) = false := by decide)
    (hc : eval (.Call (.Attribute (.Name x p1) m p2) (e :: es) [] pos) X.env = (do
      let ov ← eval (.Name x p1) X.env
      standAt p2.atName
      let (f, first) ← holding [ov] (getMethod ov m pl)
      callWith pos f first (backTo pos (starEach (e :: es) X.env)) (backToKw pos (keywordEach [] X.env))) := by rfl)
    (he : starEach (e :: es) X.env = (false, eval e X.env) :: starEach es X.env := by rfl) (hpl : (backTo pos (starEach es X.env)).any (·.1) = false := by rfl) :
    PE X (.Call (.Attribute (.Name x p1) m p2) (e :: es) [] pos) (tCall sp dvs E t) := by
  constructor
  intro pins s σ H Q I h
  obtain ⟨rest, rc⟩ := S.rc
  refine PySem.W.methodCall_KW (ld_glob I hg hm ?_ hdb) hc
  refine PySem.W.method_cls I.kIn S.sg (PySem.W.cls_bind I.kIn S.rd S.fc (wpAny_call (PySem.W.sm_get (s := { s with toks := s.toks + 1 }) I.kIn rc (PySem.W.handed_on rfl ?_))))
  show wpAny _ _ (callWith pos (Value.ref g) [] (backTo pos (starEach (e :: es) X.env)) []) _ _ _
  refine PySem.W.callWith_K (h₀ := X.base) I.ok.mod.kin S.kp (thn (ha.run pos pins _ σ H _ (I.tok _) h) fun us s1 got => ?_) he hpl
  obtain ⟨vs, H1, I1, r, q⟩ := got
  exact ⟨I1.kIn, run_fn F hr hb hd hx I1 r q⟩
end
end Ux

set_option Elab.async false
set_option linter.all false
set_option maxRecDepth 100000
set_option maxHeartbeats 4000000
namespace Ux
open PySem PySem.Spec PyProof.Rows L2
section
variable {X : Cx} {CX : CXT} {k : Nat} {C p g : Addr} {x m : Str} {mc : Value} {fd : FuncData} {ps ks : List Str} {sp : Sp} {E : XK} {kws : List Keyword} {tk : TA} {p1 p2 pos : Pos} {pl : Sem Bool} {gg : List Value → List Value → List Value} {gV : List V → List V → List V}
/-- C.m(k = v, ..), m a staticmethod of an own class -/
theorem pe_smethK (hg : Gl X x) (hm : X.mg x = some (.ref C)) (S : StM X.K C m mc p g) (F : FnOk X.prog X.w X.K X.mg X.base CX k g fd ps sp) (hr : Room k X.A) (hb : KBinds X.K fd ps ks gg gV) (hx : Passes CX X E) (hkw : PK X kws tk)
    (hall : (backToKw pos (keywordEach kws X.env)).all (·.1.isSome) = true := by rfl) (hks : (backToKw pos (keywordEach kws X.env)).filterMap (·.1) = ks := by rfl)
    (hdb : (x == ("__debug__" : Str)) = false := by decide)
    (hc : eval (.Call (.Attribute (.Name x p1) m p2) [] kws pos) X.env = (do
      let ov ← eval (.Name x p1) X.env
      standAt p2.atName
      let (f, first) ← holding [ov] (getMethod ov m pl)
      callWith pos f first (backTo pos (starEach [] X.env)) (backToKw pos (keywordEach kws X.env))) := by rfl)
    (hpl : ((backTo pos (starEach [] X.env)).any (·.1) || (backToKw pos (keywordEach kws X.env)).any (·.1.isNone)) = false := by rfl) :
    PE X (.Call (.Attribute (.Name x p1) m p2) [] kws pos) (fun σ H Q => tk σ H fun zs H2 => sp (gV [] zs) H2 Q E) := by
  constructor
  intro pins s σ H Q I h
  obtain ⟨rest, rc⟩ := S.rc
  refine PySem.W.methodCall_KW (ld_glob I hg hm ?_ hdb) hc
  refine PySem.W.method_cls I.kIn S.sg (PySem.W.cls_bind I.kIn S.rd S.fc (wpAny_call (PySem.W.sm_get (s := { s with toks := s.toks + 1 }) I.kIn rc (PySem.W.handed_on rfl ?_))))
  refine PySem.W.callWith_KW0 (h₀ := X.base) I.ok.mod.kin S.kp hall ?_ hpl
  refine thn (hkw.run pos pins _ σ H _ (I.tok _) h) fun ws s2 got => ?_
  obtain ⟨zs, H2, I2, rz, q2⟩ := got
  refine ⟨I2.kIn, ?_⟩
  rw [hks]
  exact run_fnk (us := []) (vs := []) F hr hb hx I2 .nil rz q2
end
end Ux

set_option Elab.async false
set_option linter.all false
set_option maxRecDepth 100000
set_option maxHeartbeats 4000000
namespace Ux
open PySem PySem.Spec PyProof.Rows L2
/-! ### {o} in an f-string by o's own __str__; the inner walk of a comprehension with two for -/
structure FmO (K : PySem.W.Frag) (C : Addr) : Prop where
  fm : PySem.W.findIn K (.ref C) "__format__" = some (some (.builtin "object.__format__"))
  ob : PySem.W.mroIn K C (.type "object") = some true
def tFmtO (C : Addr) (sp : Sp) (te : TE) : TE := fun σ H Q => te σ H fun x H1 => ∃ (a dx : Addr) (fs : List (Str × V)), x = .ref a ∧ H1 a = some (.ins C dx fs) ∧ sp [.ref a] H1 (fun v H' => ∃ z, v = .str z ∧ Q (.str z) H') (fun _ _ _ => False)
section
variable {X : Cx} {k : Nat} {f C : Addr} {fd : FuncData} {sp : Sp} {e : Expr} {te : TE} {pos : Pos}
theorem pe_fmtO (M : OwnM X.K C "__str__" f) (N : FmO X.K C) (F : FnOk X.prog X.w X.K X.mg X.base CX0 k f fd ["self"] sp) (hb : Binds X.K fd ["self"] []) (hr : Room (k + 1) X.A) (he : PE X e te) : PE X (.FormattedValue e (-1) none pos) (tFmtO C sp te) := by
  refine ⟨fun pins s σ H Q I h => ?_⟩
  refine wpAny_FormattedValue_plain (thn (he.run pins s σ H _ I h) fun v s1 hv => ?_)
  obtain ⟨x, H1, I1, r1, a, dx, fs, rfl, ea, q⟩ := hv
  cases (show v = Value.ref a from r1)
  obtain ⟨mA, O, _⟩ := ins_get I1.hok ea
  obtain ⟨od, J, _⟩ := O.look
  refine PySem.W.kfo_fieldS hr.in1.units0 I1.kIn J N.fm N.ob M.at_ M.fn (own_run F hr.in1 (I1.tok _).env0.in1 hb (vs := [.ref a]) (I1.tok _) (.cons rfl .nil) q fun u s' hq => ?_)
  obtain ⟨v, H', I', rv, z, ev, q'⟩ := hq
  subst ev
  obtain ⟨t, rfl⟩ := rv
  exact ⟨.str z, H', I', ⟨t, rfl⟩, q'⟩
end
theorem lc_in {K : PySem.W.Frag} {a : Addr} {xs : List V} {H4 : Hp} {Nx : Hp → Prop} {T : V → Hp → (Hp → Prop) → Prop} (Pv : Nat → Hp → Prop) (h0 : Pv 0 H4) (hl : ∀ i H, i ≤ xs.length → Pv i H → SqT K H a xs)
    (hs : ∀ i x H, xs[i]? = some x → Pv i H → T x H (Pv (i + 1))) (hd : ∀ H, Pv xs.length H → Nx H) :
    ∃ W : Nat → Nat → Hp → Prop, (∃ m, W 0 m H4) ∧ ∀ i m H, W i m H →
      ((Itt K a).stop i H ∧ Nx H) ∨ ((Itt K a).go i H ∧ ∃ N1 : Hp → Prop, (∀ H', N1 H' → ∃ m', m' < m ∧ W (i + 1) m' H') ∧ ∀ x H', (Itt K a).yld i H x H' → T x H' N1) := by
  refine ⟨fun i m H => m = xs.length - i ∧ i ≤ xs.length ∧ Pv i H, ⟨xs.length, by simp, Nat.zero_le _, h0⟩, ?_⟩
  rintro i m H ⟨rfl, hi, p⟩
  have q := hl i H hi p
  by_cases hlt : i < xs.length
  · refine .inr ⟨⟨xs, xs[i], q, by simp [hlt]⟩, Pv (i + 1), fun H' p' => ⟨xs.length - (i + 1), by omega, rfl, hlt, p'⟩, fun x H' y => ?_⟩
    obtain ⟨e, y⟩ := y
    subst e
    exact hs i x _ (y xs q) p
  · have e : i = xs.length := by omega
    subst e
    exact .inl ⟨⟨xs, q, Nat.le_refl _⟩, hd H p⟩
end Ux

set_option Elab.async false
set_option linter.all false
set_option maxRecDepth 100000
set_option maxHeartbeats 4000000
namespace Ux
open PySem PySem.Spec PyProof.Rows L2
section
variable {X : Cx} {CX : CXT} {k : Nat} {C p g : Addr} {x m : Str} {mc : Value} {fd : FuncData} {ps : List Str} {sp : Sp} {dvs : List V} {ds : List Value} {E : XK} {p1 p2 pos : Pos} {pl : Sem Bool}
/-- C.m(), m a staticmethod of an own class -/
theorem pe_smeth0 (hg : Gl X x) (hm : X.mg x = some (.ref C)) (S : StM X.K C m mc p g) (F : FnOk X.prog X.w X.K X.mg X.base CX k g fd ps sp) (hr : Room k X.A) (hb : Binds X.K fd ps ds) (hd : Vals dvs ds) (hx : Passes CX X E)
    (hdb : (x == ("__debug__" : Str)) = false := by decide)
    (hc : eval (.Call (.Attribute (.Name x p1) m p2) [] [] pos) X.env = (do
      let ov ← eval (.Name x p1) X.env
      standAt p2.atName
      let (f, first) ← holding [ov] (getMethod ov m pl)
      callWith pos f first (backTo pos (starEach [] X.env)) (backToKw pos (keywordEach [] X.env))) := by rfl) :
    PE X (.Call (.Attribute (.Name x p1) m p2) [] [] pos) (tCall sp dvs E tNil) := by
  constructor
  intro pins s σ H Q I h
  obtain ⟨rest, rc⟩ := S.rc
  refine PySem.W.methodCall_KW (ld_glob I hg hm ?_ hdb) hc
  refine PySem.W.method_cls I.kIn S.sg (PySem.W.cls_bind I.kIn S.rd S.fc (wpAny_call (PySem.W.sm_get (s := { s with toks := s.toks + 1 }) I.kIn rc (PySem.W.handed_on rfl ?_))))
  exact PySem.W.callWith_K0 (I.tok _).kIn S.kp (run_fn (us := []) F hr hb hd hx (I.tok _) .nil h)
end
end Ux

set_option Elab.async false
set_option linter.all false
set_option maxRecDepth 100000
set_option maxHeartbeats 4000000
namespace Ux
open PySem PySem.W
/-! ### own binary operators: the right side of the same class, an int, or the int on the left; own unary minus and abs; // by any divisor -/
section
variable {prog : Program} {w : World} {M : Model} {A : Around} {E : Value → Shared → Prop} {s : Shared} {K : Frag} {x C L f : Addr} {h₀ : Heap} {m : Str → Option Value} {ox : Obj} {od : Option Obj}
theorem intBin_ref {name : String} {g : Int → Int → Sem Fin} {refl : Bool} {i : Int} {t : Tok} {Q : Fin → Shared → Prop} (ho : s.heap.get? x = some ox) (np : ∀ j u, ox.data ≠ .prim (.int j u)) (h : Q (.done (.ret .notImplemented)) s) :
    wpAny M A (Builtin.Int.intBinary name g refl ⟨[.int i t, .ref x], []⟩) Q E s := by
  unfold Builtin.Int.intBinary
  refine wpAny_bind (m := slotArgs name 1 _) (wpAny_pure ?_)
  unfold Builtin.Int.intOfSelf
  refine wpAny_bind (wpAny_bind (m := asInt? (.int i t)) (wpAny_pure (wpAny_pure ?_)))
  refine wpAny_bind (m := asInt? (.ref x)) ?_
  unfold asInt?
  refine wpAny_bind (wpAny_load ho ?_)
  split
  · rename_i j u e
    exact absurd e (np j u)
  · refine wpAny_pure ?_
    exact wpAny_bind (wpAny_rule (wpAny_pure h))
theorem intSlot_ref {name : Str} {id nm : String} {g : Int → Int → Sem Fin} {i : Int} {t : Tok} {Q : Option Value → Shared → Prop} (h : Slot "int" name id) (hb : entryFor table id = some (Builtin.Int.intBinary nm g)) (ha : argsOk id ⟨[.int i t, .ref x], []⟩) (ho : s.heap.get? x = some ox) (np : ∀ j u, ox.data ≠ .prim (.int j u)) (hq : Q none s) :
    wpAny (model prog w) A (tryMethod (.int i t) name (.ref x)) Q E s :=
  wpAny_tryMethod_declines (typeIs_int s i t) h (wpAny_call_entry h (typeIs_int s i t) hb (intBin_ref ho np ⟨_, rfl, rfl, hq⟩) ha)
/-- i + x, x of a class with its own reflected method -/
theorem bin_refl {op : Operator} {nm sym idl : String} {g : Int → Int → Sem Fin} {n0 : String} {f' : Addr} {i : Int} {t : Tok} {Q : Value → Shared → Prop} (hi : op.info = (sym, nm)) (X : K.In s.heap) (I : InstAt s.heap x ox C od) (np : ∀ j u, ox.data ≠ .prim (.int j u)) (hc : selfFirst K C = true)
    (hs : findIn K (.ref C) (PySem.dunder nm) = some (some (.ref f'))) (hr : findIn K (.ref C) (dunderR nm) = some (some (.ref f))) (hf : isFn K (.ref f) = true) (hsub : subIn K (.ref C) (.type "int") = some false)
    (fills : fillsNumberSlot (.type "int") nm = pure true) (slot : Slot "int" (PySem.dunder nm) idl) (hb : entryFor table idl = some (Builtin.Int.intBinary n0 g)) (ha : argsOk idl ⟨[.int i t, .ref x], []⟩)
    (h : wpAny (model prog w) A (call (.ref f) [.ref x, .int i t]) (CmpBack Q) E s) : wpAny (model prog w) A (binaryOp op (.int i t) (.ref x)) Q E s := by
  obtain ⟨cd, rest, hcd, hm⟩ := ksp_first hc
  have one := ksp_try X I hr hf h
  have L3 : Looks (model prog w) s.heap (fillsNumberSlot (.ref C) nm) true := fills_K X hcd hm hs
  simp only [binaryOp, hi]
  refine wpAny_holding (wpAny_bind ?_)
  unfold binaryOp1
  refine wpAny_bind (wpAny_typeOf (typeIs_int s i t) (wpAny_bind (I.type.here (wpAny_bind (wpAny_of_eq fills ?_)))))
  have hne : (Value.type "int" == Value.ref C) = false := Bool.eq_false_iff.mpr fun q => by cases beq_iff_eq.mp q
  simp only [hne, Bool.false_eq_true, if_false]
  refine wpAny_bind (L3.here ?_)
  simp only [Bool.and_self, if_true]
  refine wpAny_bind ((looks_subIn X hsub).here ?_)
  have hpy : numberSlotInPython (.type "int") nm = pure false := rfl
  simp only [Bool.false_eq_true, if_false, pure_bind, Bool.not_false, Bool.and_self, if_true, hpy]
  refine wpAny_bind (intSlot_ref slot hb ha I.1 np ?_)
  dsimp only
  refine wpAny_bind (wpAny_mono one (fun r s' hr' => ?_) fun _ _ e => e)
  obtain ⟨v, rfl, hq⟩ := hr'
  exact wpAny_bind (wpAny_rule (wpAny_pure (wpAny_pure hq)))
end
end Ux
namespace Ux
open PySem PySem.Spec PyProof.Rows L2
/-- o op y by o's own method -/
structure BinM (K : PySem.W.Frag) (C : Addr) (nm : String) (f : Addr) : Prop where
  sf : PySem.W.selfFirst K C = true
  at_ : PySem.W.findIn K (.ref C) (PySem.dunder nm) = some (some (.ref f))
  fn : PySem.W.isFn K (.ref f) = true
/-- .. with an int on the right -/
structure BinI (K : PySem.W.Frag) (C : Addr) (nm : String) : Prop where
  rc : ∃ g : Addr, PySem.W.findIn K (.ref C) (dunderR nm) = some (some (.ref g))
  t1 : ∃ fo, PySem.W.findIn K (.type "int") (PySem.dunder nm) = some fo
  t2 : ∃ ro, PySem.W.findIn K (.type "int") (dunderR nm) = some ro
  sb : PySem.W.subIn K (.type "int") (.ref C) = some false
/-- .. with an int on the left -/
structure BinL (K : PySem.W.Frag) (C : Addr) (nm : String) (f : Addr) : Prop where
  sf : PySem.W.selfFirst K C = true
  lt : ∃ g : Addr, PySem.W.findIn K (.ref C) (PySem.dunder nm) = some (some (.ref g))
  at_ : PySem.W.findIn K (.ref C) (dunderR nm) = some (some (.ref f))
  fn : PySem.W.isFn K (.ref f) = true
  sb : PySem.W.subIn K (.ref C) (.type "int") = some false
/-- an object handed back -/
def Ob (Q : VK) : VK := fun v H => ∃ p, v = .ref p ∧ Q (.ref p) H
def rBinO (K : PySem.W.Frag) (C : Addr) (sp : Sp) : R2 := fun x y H Q => ∃ (a dx : Addr) (fs : List (Str × V)), x = .ref a ∧ H a = some (.ins C dx fs) ∧ TyX K H y (.ref C) ∧ sp [x, y] H (Ob Q) (fun _ _ _ => False)
def rBinI (C : Addr) (sp : Sp) : R2 := fun x y H Q => ∃ (a dx : Addr) (fs : List (Str × V)) (i : Int), x = .ref a ∧ y = .int i ∧ H a = some (.ins C dx fs) ∧ sp [x, y] H (Ob Q) (fun _ _ _ => False)
def rBinL (C : Addr) (sp : Sp) : R2 := fun x y H Q => ∃ (a dx : Addr) (fs : List (Str × V)) (i : Int), x = .int i ∧ y = .ref a ∧ H a = some (.ins C dx fs) ∧ sp [y, x] H (Ob Q) (fun _ _ _ => False)
section
variable {X : Cx} {k : Nat} {f C : Addr} {fd : FuncData} {sp : Sp} {op : Operator} {ps : List Str}
theorem ob_back {pins : List (Addr × Obj)} {σ : L2.St} {Q : VK} {u : Value} {s' : Shared} (hq : EP X pins σ (Ob Q) u s') : PySem.W.CmpBack (EP X pins σ Q) u s' := by
  obtain ⟨v, H', I', rv, p, ev, q'⟩ := hq
  subst ev
  cases (show u = Value.ref p from rv)
  exact ⟨.ref p, H', I', rfl, q'⟩
theorem op_binO (M : BinM X.K C op.info.2 f) (F : FnOk X.prog X.w X.K X.mg X.base CX0 k f fd ps sp) (hb : Binds X.K fd ps []) (hr : Room k X.A) : OpR X (binaryOp op) (rBinO X.K C sp) := by
  intro pins s σ H x y v u Q I rx ry h
  obtain ⟨a, dx, fs, rfl, ea, ty, q⟩ := h
  cases (show v = Value.ref a from rx)
  obtain ⟨mA, O, _⟩ := ins_get I.hok ea
  obtain ⟨od, J, _⟩ := O.look
  obtain ⟨m, hF⟩ := I.fr
  obtain ⟨P', Z, hp, _⟩ := kit_of I ry ty
  exact PySem.W.binop_K hF I.ok.mod.kin J (Z.ty _ _ I.kIn hp) M.sf M.at_ M.fn (own_run F hr I.env0 hb (vs := [.ref a, y]) I (.cons rfl (.cons ry .nil)) q fun u s' hq => ob_back hq)
theorem op_binI (M : BinM X.K C op.info.2 f) (N : BinI X.K C op.info.2) (F : FnOk X.prog X.w X.K X.mg X.base CX0 k f fd ps sp) (hb : Binds X.K fd ps []) (hr : Room k X.A) : OpR X (binaryOp op) (rBinI C sp) := by
  intro pins s σ H x y v u Q I rx ry h
  obtain ⟨a, dx, fs, i, rfl, rfl, ea, q⟩ := h
  cases (show v = Value.ref a from rx)
  obtain ⟨mA, O, _⟩ := ins_get I.hok ea
  obtain ⟨od, J, _⟩ := O.look
  obtain ⟨m, hF⟩ := I.fr
  obtain ⟨t, rfl⟩ := ry
  obtain ⟨g, rc⟩ := N.rc
  obtain ⟨fo, t1⟩ := N.t1
  obtain ⟨ro, t2⟩ := N.t2
  exact PySem.W.ksp_binT (T := "int") hF I.ok.mod.kin J rfl M.sf M.at_ M.fn rc (.inr ⟨g, rfl⟩) t1 t2 N.sb (own_run F hr I.env0 hb (vs := [.ref a, .int i]) I (.cons rfl (.cons ⟨t, rfl⟩ .nil)) q fun u s' hq => ob_back hq)
theorem op_binL {nm sym idl n0 : String} {g : Int → Int → Sem Fin} (hi : op.info = (sym, nm)) (M : BinL X.K C nm f) (F : FnOk X.prog X.w X.K X.mg X.base CX0 k f fd ps sp) (hb : Binds X.K fd ps []) (hr : Room k X.A)
    (fills : fillsNumberSlot (.type "int") nm = pure true) (slot : Slot "int" (PySem.dunder nm) idl) (he : entryFor table idl = some (Builtin.Int.intBinary n0 g)) (ha : ∀ a b, argsOk idl ⟨[a, b], []⟩) : OpR X (binaryOp op) (rBinL C sp) := by
  intro pins s σ H x y v u Q I rx ry h
  obtain ⟨a, dx, fs, i, rfl, rfl, ea, q⟩ := h
  cases (show u = Value.ref a from ry)
  obtain ⟨mA, O, _⟩ := ins_get I.hok ea
  obtain ⟨od, J, _⟩ := O.look
  obtain ⟨t, rfl⟩ := rx
  obtain ⟨g', lt⟩ := M.lt
  exact bin_refl hi I.kIn J (fun j u e => by cases e) M.sf lt M.at_ M.fn M.sb fills slot he (ha _ _) (own_run F hr I.env0 hb (vs := [.ref a, .int i]) I (.cons rfl (.cons ⟨t, rfl⟩ .nil)) q fun u s' hq => ob_back hq)
theorem op_addL (M : BinL X.K C "add" f) (F : FnOk X.prog X.w X.K X.mg X.base CX0 k f fd ps sp) (hb : Binds X.K fd ps []) (hr : Room k X.A) : OpR X (binaryOp .Add) (rBinL C sp) :=
  op_binL rfl M F hb hr PySem.F.fills_int_add PySem.F.slot_int_add PySem.F.entry_int_add PySem.F.args_int_add_2
theorem op_subL (M : BinL X.K C "sub" f) (F : FnOk X.prog X.w X.K X.mg X.base CX0 k f fd ps sp) (hb : Binds X.K fd ps []) (hr : Room k X.A) : OpR X (binaryOp .Sub) (rBinL C sp) :=
  op_binL rfl M F hb hr PySem.F.fills_int_sub PySem.F.slot_int_sub PySem.F.entry_int_sub PySem.F.args_int_sub_2
/-- -o by o's own __neg__ -/
def rOwnNeg (C : Addr) (sp : Sp) : V → Hp → VK → Prop := fun x H Q => ∃ (a dx : Addr) (fs : List (Str × V)), x = .ref a ∧ H a = some (.ins C dx fs) ∧ sp [.ref a] H Q (fun _ _ _ => False)
theorem un_negO (M : OwnM X.K C "__neg__" f) (F : FnOk X.prog X.w X.K X.mg X.base CX0 k f fd ["self"] sp) (hb : Binds X.K fd ["self"] []) (hr : Room k X.A) : UnR X (unaryOp .USub) (rOwnNeg C sp) := by
  intro pins s σ H x v Q I rx h
  obtain ⟨a, dx, fs, rfl, ea, q⟩ := h
  cases (show v = Value.ref a from rx)
  obtain ⟨mA, O, _⟩ := ins_get I.hok ea
  obtain ⟨od, J, _⟩ := O.look
  obtain ⟨m, hF⟩ := I.fr
  exact PySem.W.ksp_neg hF I.ok.mod.kin J M.at_ M.fn (own_run F hr I.env0 hb (vs := [.ref a]) I (.cons rfl .nil) q fun u s' hq => hq)
theorem op_any {f : Value → Value → Sem Value} {r1 r2 : R2} (h1 : OpR X f r1) (h2 : OpR X f r2) : OpR X f (fun x y H Q => r1 x y H Q ∨ r2 x y H Q) := by
  intro pins s σ H x y v u Q I rx ry h
  rcases h with h | h
  · exact h1 pins s σ H x y v u Q I rx ry h
  · exact h2 pins s σ H x y v u Q I rx ry h
/-- // by any divisor but 0, below 2 ^ 9000 -/
theorem op_fdivX : OpR X (binaryOp .FloorDiv) (rI (fun _ j => j ≠ 0 ∧ j.natAbs.log2 < 9000) fun i j => .int (i.fdiv j)) := opI fun _ _ _ _ _ _ _ hc q => floordiv_int hc.1 q (.inl (PyProof.noPylong_of_log2 hc.2))
end
end Ux

set_option Elab.async false
set_option linter.all false
set_option maxRecDepth 100000
set_option maxHeartbeats 4000000
namespace Ux
open PySem PySem.Spec PyProof.Rows L2
/-! ### abs(o) by o's own __abs__; o.m(k = e) -/
section
variable {X : Cx} {k : Nat} {f C : Addr} {fd : FuncData} {sp : Sp}
theorem call_absO (M : OwnM X.K C "__abs__" f) (F : FnOk X.prog X.w X.K X.mg X.base CX0 k f fd ["self"] sp) (hb : Binds X.K fd ["self"] []) (hr : Room (k + 1) X.A) : CallR X (.builtin "abs") (fun xs H Q => ∃ (a dx : Addr) (fs : List (Str × V)), xs = [.ref a] ∧ H a = some (.ins C dx fs) ∧ sp [.ref a] H (Ob Q) (fun _ _ _ => False)) := by
  intro pins s σ H xs us Q I r h
  obtain ⟨a, dx, fs, rfl, ea, q⟩ := h
  obtain ⟨u, rfl, rx⟩ := vals1 r
  cases (show u = Value.ref a from rx)
  obtain ⟨mA, O, _⟩ := ins_get I.hok ea
  obtain ⟨od, J, _⟩ := O.look
  refine PySem.Calls.call_function_entry kind_abs plain_abs entry_abs (args_abs _) ?_
  unfold Builtin.«abs»
  refine wpAny_bind (m := oneArg "abs" _) (wpAny_pure ?_)
  refine wpAny_bind (m := callSpecial? (.ref a) (Str.ofString "__abs__")) (PySem.W.special_fn I.kIn J M.at_ (beq_iff_eq.mp M.fn) (own_run F hr.in1 I.env0.in1 hb (vs := [.ref a]) I (.cons rfl .nil) q fun u s' hq => ?_))
  obtain ⟨v, H', I', rv, p, ev, q'⟩ := hq
  subst ev
  cases (show u = Value.ref p from rv)
  exact wpAny_pure ⟨_, rfl, .ref p, H', I', rfl, q'⟩
end
section
variable {X : Cx} {o : Expr} {m : Str} {pos apos : Pos} {ta : TE} {CX : CXT} {k : Nat} {f C : Addr} {fd : FuncData} {ps ks : List Str} {sp : Sp} {E : XK} {kws : List Keyword} {tk : TA} {gg : List Value → List Value → List Value} {gV : List V → List V → List V}
def tMethK0 (C : Addr) (m : Str) (sp : Sp) (gV : List V → List V → List V) (E : XK) (ta : TE) (tk : TA) : TE := fun σ H Q => ta σ H fun x H1 => ∃ a dx fs, x = .ref a ∧ H1 a = some (.ins C dx fs) ∧ fs.lookup m = none ∧ tk σ H1 fun zs H2 => sp (gV [x] zs) H2 Q E
theorem pe_methK0 {pl : Sem Bool} (he : PE X o ta) (c : Cls X.K C) (hm : Meth X.K C m f) (F : FnOk X.prog X.w X.K X.mg X.base CX k f fd ps sp) (hr : Room k X.A) (hb : KBinds X.K fd ps ks gg gV) (hx : Passes CX X E) (hkw : PK X kws tk)
    (hall : (backToKw pos (keywordEach kws X.env)).all (·.1.isSome) = true := by rfl) (hks : (backToKw pos (keywordEach kws X.env)).filterMap (·.1) = ks := by rfl)
    (ht : eval (.Call (.Attribute o m apos) [] kws pos) X.env = (do
      let ov ← eval o X.env
      standAt apos.atName
      let (f, first) ← holding [ov] (getMethod ov m pl)
      callWith pos f first (backTo pos (starEach [] X.env)) (backToKw pos (keywordEach kws X.env))) := by rfl)
    (hpl : ((backTo pos (starEach [] X.env)).any (·.1) || (backToKw pos (keywordEach kws X.env)).any (·.1.isNone)) = false := by rfl) :
    PE X (.Call (.Attribute o m apos) [] kws pos) (tMethK0 C m sp gV E ta tk) := by
  refine ⟨fun pins s σ H Q I h => ?_⟩
  refine PySem.W.methodCall_KW (pl := pl) (thn (he.run pins s σ H _ I h) fun u s1 ⟨x, H1, I1, rx, a, dx, fs, ex, ea, l, q⟩ => ?_) ht
  subst ex
  obtain rfl : u = Value.ref a := rx
  refine getmeth_ok I1 ea c hm l ?_
  refine PySem.W.callWith_KW0 (first := [.ref a]) (h₀ := X.base) I.ok.mod.kin hm.kp hall (thn (hkw.run pos pins s1 σ H1 _ I1 q) fun ws s2 got => ?_) hpl
  obtain ⟨zs, H2, I2, rz, q2⟩ := got
  refine ⟨I2.kIn, ?_⟩
  rw [hks]
  exact run_fnk (us := [.ref a]) (vs := [.ref a]) F hr hb hx I2 (.cons rfl .nil) rz q2
end
end Ux
/-! ### abs and str of False -/
namespace Ux
open PySem PySem.Spec PyProof.Rows L2
theorem abs_false {prog : Program} {w : World} {A : Around} {E : Value → Shared → Prop} {s : Shared} {Q : Value → Shared → Prop} (h : ∀ u tk, Q (.int 0 u) { s with toks := tk }) : wpAny (model prog w) A (call (.builtin "abs") [.bool false]) Q E s := by
  refine PySem.Calls.call_function_entry kind_abs plain_abs entry_abs (args_abs _) ?_
  unfold Builtin.«abs»
  refine wpAny_bind (m := oneArg "abs" _) (wpAny_pure ?_)
  refine wpAny_bind (m := callSpecial? (.bool false) (Str.ofString "__abs__")) (wpAny_callSpecial?_slot (name := Str.ofString "__abs__") (PySem.typeIs_bool s false) F.slot_bool_abs
    (wpAny_call_entry F.slot_bool_abs (PySem.typeIs_bool s false) entry_int_abs ?_ (args_int_abs _)))
  have h' := h s.toks (s.toks + 1)
  exact wpAny_ret_mkInt (wpAny_pure ⟨_, rfl, h'⟩)
theorem str_false {prog : Program} {w : World} {A : Around} {E : Value → Shared → Prop} {s : Shared} {Q : Value → Shared → Prop} (h : Q (.str "False" s.toks) { s with toks := s.toks + 1 }) : wpAny (model prog w) A (call (.type "str") [.bool false]) Q E s :=
  callType_new F.called_str (by decide) (F.typeCall_str_1 _) (F.newCall_str_1 _) (fun obj => F.args_object_init_2 obj _) F.entry_str_new
    (meets_str_new (S := fun _ R s => R (.ok (.ret (.str "False" s.toks))) { s with toks := s.toks + 1 }) fun _ _ _ _ s hq =>
      wpAny_strOf_gives rfl (PySem.typeIs_bool s false) F.slot_bool_str F.slot_bool_repr F.entry_bool_repr (F.args_bool_repr_1 _) (gives_bool_repr false) hq (hsz := by decide)) ⟨typeIs_str _ _ _, h⟩
theorem call_absB {X : Cx} : CallR X (.builtin "abs") (fun xs H Q => ((∃ i, xs = [.int i] ∧ Q (.int (if i < 0 then -i else i)) H) ∨ (xs = [.bl true] ∧ Q (.int 1) H)) ∨ (xs = [.bl false] ∧ Q (.int 0) H)) := by
  intro pins s σ H xs us Q I r h
  rcases h with h | ⟨rfl, q⟩
  · exact call_absT pins s σ H xs us Q I r h
  · obtain ⟨u, rfl, r1⟩ := vals1 r
    cases (show u = Value.bool false from r1)
    exact abs_false fun u tk => ⟨.int 0, H, I.tok _, ⟨_, rfl⟩, q⟩
theorem call_strB {X : Cx} : CallR X (.type "str") (fun xs H Q => ((∃ i, xs = [.int i] ∧ i.natAbs.log2 < 1920 ∧ Q (.str (toString i)) H) ∨ (xs = [.bl true] ∧ Q (.str "True") H)) ∨ (xs = [.bl false] ∧ Q (.str "False") H)) := by
  intro pins s σ H xs us Q I r h
  rcases h with h | ⟨rfl, q⟩
  · exact call_strT pins s σ H xs us Q I r h
  · obtain ⟨u, rfl, r1⟩ := vals1 r
    cases (show u = Value.bool false from r1)
    exact str_false ⟨.str _, H, I.tok _, ⟨_, rfl⟩, q⟩
end Ux

set_option Elab.async false
set_option linter.all false
set_option maxRecDepth 100000
set_option maxHeartbeats 4000000
/-! x in o by o's own __contains__; len(o) by o's own __len__ -/
namespace Ux
open PySem PySem.W
section
variable {M : Model} {A : Around} {E : Value → Shared → Prop} {s : Shared} {K : Frag} {x C f : Addr} {ox : Obj} {od : Option Obj} {y : Value}
theorem unless_fn {name : Str} {args : List Value} {refuse : Sem Value} {Q : Option Value → Shared → Prop} (IN : K.In s.heap) (I : InstAt s.heap x ox C od)
    (hs : findIn K (.ref C) name = some (some (.ref f))) (hf : typeIn K (.ref f) = some (.type "function")) (h : wpAny M A (call (.ref f) (.ref x :: args)) (fun v => Q (some v)) E s) :
    wpAny M A (callSpecialUnlessNone? (.ref x) name args refuse) Q E s := by
  simp only [callSpecialUnlessNone?]
  refine wpAny_bind (wpAny_bind (I.type.here ((looks_findIn IN hs).here (wpAny_holding (wpAny_bind ((bind_fn IN _ hf).here ?_))))))
  have e : (Value.ref f == Value.none) = false := rfl
  simp only [e, Bool.false_eq_true, if_false]
  exact wpAny_bind (wpAny_mono h (fun _ _ z => wpAny_pure z) fun _ _ z => z)
theorem contains_own {Q : Bool → Shared → Prop} (IN : K.In s.heap) (I : InstAt s.heap x ox C od)
    (hs : findIn K (.ref C) "__contains__" = some (some (.ref f))) (hf : typeIn K (.ref f) = some (.type "function")) (h : wpAny M A (call (.ref f) [.ref x, y]) (fun v s' => ∃ b, v = .bool b ∧ Q b s') E s) :
    wpAny M A (contains (.ref x) y) Q E s := by
  unfold contains
  refine wpAny_holding ?_
  have e0 : stdlibNamesSay? (.ref x) y = none := rfl
  rw [e0]
  refine wpAny_bind (wpAny_bind (I.type.here ((looks_findIn IN hs).here ?_)))
  have e : (some (Value.ref f) == some Value.none) = false := rfl
  simp only [e, Bool.false_eq_true, if_false]
  refine wpAny_bind (unless_fn IN I hs hf (wpAny_mono h (fun v s' z => ?_) fun _ _ z => z))
  obtain ⟨b, rfl, q⟩ := z
  exact wpAny_truthy_bool q
end
end Ux
namespace Ux
open PySem PySem.Spec PyProof.Rows L2
section
variable {X : Cx} {k : Nat} {f C : Addr} {fd : FuncData} {sp : Sp}
def rOwnIn (C : Addr) (sp : Sp) (neg : Bool) : R2 := fun x y H Q => ∃ (a dx : Addr) (fs : List (Str × V)), y = .ref a ∧ H a = some (.ins C dx fs) ∧ sp [y, x] H (fun v H' => ∃ b, v = .bl b ∧ Q (.bl (b != neg)) H') (fun _ _ _ => False)
theorem op_inO {ps : List Str} (M : OwnM X.K C "__contains__" f) (F : FnOk X.prog X.w X.K X.mg X.base CX0 k f fd ps sp) (hb : Binds X.K fd ps []) (hr : Room k X.A) : OpR X (compareOp .In) (rOwnIn C sp false) := by
  intro pins s σ H x y v u Q I rx ry h
  obtain ⟨a, dx, fs, rfl, ea, q⟩ := h
  cases (show u = Value.ref a from ry)
  obtain ⟨mA, O, _⟩ := ins_get I.hok ea
  obtain ⟨od, J, _⟩ := O.look
  show wpAny (model X.prog X.w) X.A (do return .bool (← contains (.ref a) v)) (EP X pins σ Q) X.xe s
  refine wpAny_bind (contains_own I.kIn J M.at_ (beq_iff_eq.mp M.fn) (own_run F hr I.env0 hb (vs := [.ref a, x]) I (.cons rfl (.cons rx .nil)) q fun w s' hq => ?_))
  obtain ⟨v, H', I', rv, b, ev, q'⟩ := hq
  subst ev
  cases (show w = Value.bool b from rv)
  have e : (b != false) = b := by cases b <;> rfl
  rw [e] at q'
  exact ⟨b, rfl, wpAny_pure ⟨.bl b, H', I', rfl, q'⟩⟩
theorem call_lenO {ps : List Str} (M : OwnM X.K C "__len__" f) (F : FnOk X.prog X.w X.K X.mg X.base CX0 k f fd ps sp) (hb : Binds X.K fd ps []) (hr : Room (k + 1) X.A) : CallR X (.builtin "len") (fun xs H Q => ∃ (a dx : Addr) (fs : List (Str × V)), xs = [.ref a] ∧ H a = some (.ins C dx fs) ∧ sp [.ref a] H (fun v H' => ∃ n : Int, v = .int n ∧ 0 ≤ n ∧ n < 2 ^ 63 ∧ Q (.int n) H') (fun _ _ _ => False)) := by
  intro pins s σ H xs us Q I r h
  obtain ⟨a, dx, fs, rfl, ea, q⟩ := h
  obtain ⟨u, rfl, rx⟩ := vals1 r
  cases (show u = Value.ref a from rx)
  obtain ⟨mA, O, _⟩ := ins_get I.hok ea
  obtain ⟨od, J, _⟩ := O.look
  refine PySem.Calls.call_function_entry kind_len plain_len entry_len (args_len1 _) ?_
  unfold Builtin.«len»
  refine wpAny_bind (m := oneArg "len" _) (wpAny_pure ?_)
  refine wpAny_bind (m := callSpecial? (.ref a) (Str.ofString "__len__")) (PySem.W.special_fn I.kIn J M.at_ (beq_iff_eq.mp M.fn) (own_run F hr.in1 I.env0.in1 hb (vs := [.ref a]) I (.cons rfl .nil) q fun u s' hq => ?_))
  obtain ⟨v, H', I', rv, n, ev, n0, n1, q'⟩ := hq
  subst ev
  obtain ⟨t, rfl⟩ := rv
  refine wpAny_bind (wpAny_holding (wpAny_pure ?_))
  refine wpAny_bind (wpAny_letGo ?_)
  show wpAny _ _ (if n < 0 then _ else _) _ _ _
  rw [if_neg (by omega)]
  show wpAny _ _ (if n ≥ 2 ^ 63 then _ else _) _ _ _
  rw [if_neg (by omega)]
  exact wpAny_bind (wpAny_mkInt (wpAny_pure ⟨_, rfl, .int n, H', I'.tok _, ⟨_, rfl⟩, q'⟩))
end
end Ux

set_option Elab.async false
set_option linter.all false
set_option maxRecDepth 100000
set_option maxHeartbeats 4000000
set_option pp.maxSteps 600
/-! {**d, k: v}, the keys ints or texts -/
namespace Ux
open PySem PySem.W
section
variable {prog : Program} {w : World} {κ : Type} [DecidableEq κ] {kd : KeyKind prog w κ} {A : Around} {E : Value → Shared → Prop} {s : Shared}
theorem put_pairs {a : Addr} {xs : List (κ × Value)} {j : κ} {ky u : Value} {Q : Unit → Shared → Prop} (hj : kd.is j ky = true) (D : s.heap.DictOf kd a xs) (few : xs.length ≤ sizeLine)
    (q : ∀ g, g.DictOf kd a (stored xs j u) → Heap.SameBut a s.heap g → Q () { s with heap := g }) : wpAny (model prog w) A (dictPut a (kd.hash j) ky u) Q E s := by
  obtain ⟨ob, tb, n, at_, ex, dat, keys, prs, nd⟩ := D
  have fits : tb.size ≤ sizeLine := by
    have e1 := prs.length
    rw [Array.length_toList] at e1
    omega
  have same : (tb.findIdx? fun e => kd.is j e.key) = xs.findIdx? fun p => decide (p.1 = j) := by
    rw [← prs.findIdx j]
    obtain ⟨l⟩ := tb
    simp
  unfold dictPut
  refine wpAny_bind (wpAny_dictFind_of hj at_ dat keys ?_)
  cases fi : tb.findIdx? fun e => kd.is j e.key with
  | some i =>
    have has := any_of_findIdx_some (same ▸ fi)
    have li : (tb.toList.findIdx? fun e => kd.is j e.key) = some i := by
      rw [← fi]
      obtain ⟨l⟩ := tb
      simp
    refine wpAny_updateDict at_ dat (q _ ⟨_, _, n, Heap.get?_update_self _ at_ (Obj.isFreed_of_dict (Obj.data_mapDict dat _)), ex.mapDict _, Obj.data_mapDict dat _, keys.modify _ _, ?_, ?_⟩ (Heap.SameBut.update ..))
    · unfold stored
      rw [if_pos has]
      have z := prs.modify nd li u
      obtain ⟨l⟩ := tb
      simpa using z
    · unfold stored
      rw [if_pos has, keys_map_store]
      exact nd
  | none =>
    have out := not_mem_of_findIdx_none (same ▸ fi)
    have has : ¬ (xs.any fun p => decide (p.1 = j)) = true := fun z => by
      obtain ⟨p, hp, e⟩ := List.any_eq_true.mp z
      exact out (List.mem_map.mpr ⟨p, hp, of_decide_eq_true e⟩)
    refine wpAny_updateDictKeys (hz := fits) at_ dat (q _ ⟨_, _, n + 1, Heap.get?_update_self _ at_ (Obj.isFreed_of_dict (Obj.data_mapDictKeys dat _)), ex.mapDictKeys _, Obj.data_mapDictKeys dat _, keys.push hj _, ?_, ?_⟩ (Heap.SameBut.update ..))
    · unfold stored
      rw [if_neg has]
      have z := prs.append hj (kd.hash j) u
      obtain ⟨l⟩ := tb
      simpa using z
    · unfold stored
      rw [if_neg has, List.map_append, List.nodup_append]
      refine ⟨nd, by simp, fun x hx y hy e => ?_⟩
      rw [List.map_cons, List.map_nil, List.mem_singleton] at hy
      have ej : x = j := e.trans hy
      exact out (ej ▸ hx)
/-- **d into a dict of its own -/
theorem merge_pairs {d a : Addr} {xs more : List (κ × Value)} {Q : Unit → Shared → Prop} (hda : d ≠ a) (hs : (a == sysModules) = false) (hd : s.heap.DictOf kd d xs) (ha : s.heap.DictOf kd a more) (few : xs.length + more.length ≤ sizeLine)
    (q : ∀ g, g.DictOf kd d (merged xs more) → Heap.SameBut d s.heap g → Q () { s with heap := g }) : wpAny (model prog w) A (mergeMapping d (.ref a) false) Q E s := by
  obtain ⟨od, td, nd, atd, exd, datd, keysd, prsd, ndd⟩ := id hd
  obtain ⟨oa, ta, na, ata, exa, data, keysa, prsa, nda⟩ := id ha
  have lnm : more.length = ta.size := by
    rw [← prsa.length]
    simp
  unfold mergeMapping
  refine wpAny_bind (wpAny_isInstance ha.typeIs isSubtype_dict_dict ?_)
  rw [if_pos rfl]
  refine wpAny_bind (wpAny_specialOf ha.typeIs F.slot_dict_iter.lookup ?_)
  refine wpAny_bind (wpAny_pure ?_)
  have e1 : (some (Value.builtin "dict.__iter__") == some (Value.builtin "dict.__iter__")) = true := by simp
  rw [e1]
  dsimp only
  rw [if_neg (by rw [hs]; exact Bool.false_ne_true)]
  have rest : wpAny (model prog w) A (do
      let z ← dictEntries a
      let n ← dictEpoch a
      forIn (List.range z.size) PUnit.unit fun i (_ : PUnit) => (do
        let z' ← dictEntries a
        match z'[i]? with
        | some e => do
          holding [e.key, e.val] (dictPut d e.hash e.key e.val)
          let m ← dictEpoch a
          if (m != n) = true then do
            (unsupported "dict.changed-during-merge" : Sem PUnit)
            pure (ForInStep.yield PUnit.unit)
          else pure (ForInStep.yield PUnit.unit)
        | _ => do
          (unsupported "dict.changed-during-merge" : Sem PUnit)
          pure (ForInStep.yield PUnit.unit) : Sem (ForInStep PUnit))
      pure ()) Q E s := by
    refine wpAny_bind (wpAny_dictEntries ata data ?_)
    refine wpAny_bind (wpAny_dictEpoch ata data ?_)
    refine wpAny_bind ?_
    refine wpAny_forIn_list _ (fun l _ s' => ∃ g i, s' = { s with heap := g } ∧ l = List.range' i (ta.size - i) ∧ i ≤ ta.size ∧ g.DictOf kd d (merged xs (more.take i)) ∧ g.get? a = some oa ∧ Heap.SameBut d s.heap g) _ ?_ ?_ _ _
      ⟨s.heap, 0, rfl, by rw [List.range_eq_range', Nat.sub_zero], Nat.zero_le _, hd, ata, Heap.SameBut.refl _ _⟩
    · rintro x l _ s' ⟨g, i, rfl, hl, hi, gd, ga, gs⟩
      have lt : i < ta.size := by
        rcases Nat.lt_or_ge i ta.size with z | z
        · exact z
        · rw [Nat.sub_eq_zero_of_le z] at hl
          cases hl
      have sp : ta.size - i = ta.size - (i + 1) + 1 := by omega
      rw [sp, List.range'_succ] at hl
      injection hl with h1 h2
      subst h1
      refine wpAny_bind (wpAny_dictEntries ga data ?_)
      rw [Array.getElem?_eq_getElem lt]
      obtain ⟨⟨j, u⟩, hj⟩ : ∃ p, more[x]? = some p := ⟨more[x]'(by omega), List.getElem?_eq_getElem _⟩
      obtain ⟨k1, k2⟩ := prsa.get? (e := ta[x]) (by simp [lt]) hj
      obtain ⟨j', k3, k4⟩ := keysa ta[x] (Array.getElem_mem lt)
      obtain rfl : j' = j := kd.inj _ _ _ k3 k1
      show wpAny _ _ (holding [ta[x].key, ta[x].val] (dictPut d ta[x].hash ta[x].key ta[x].val) >>= _) _ _ _
      rw [k4, k2]
      have lim : (merged xs (more.take x)).length ≤ sizeLine := by
        have b1 := merged_length_le xs (more.take x)
        have b2 : (more.take x).length ≤ more.length := by
          rw [List.length_take]
          omega
        omega
      refine wpAny_bind (wpAny_holding (put_pairs k1 gd lim fun g2 gd2 gs2 => ?_))
      have ga2 : g2.get? a = some oa := (gs2.2 a hda.symm).trans ga
      refine wpAny_bind (wpAny_dictEpoch ga2 data ?_)
      rw [if_neg (by simp)]
      exact wpAny_pure ⟨g2, x + 1, rfl, h2, lt, by rw [merged_take_succ xs more x (j', u) hj]; exact gd2, ga2, gs.trans gs2⟩
    · rintro _ s' ⟨g, i, rfl, hl, hi, gd, ga, gs⟩
      have ei : i = ta.size := by
        rcases Nat.lt_or_ge i ta.size with z | z
        · have sp : ta.size - i = ta.size - (i + 1) + 1 := by omega
          rw [sp, List.range'_succ] at hl
          cases hl
        · exact Nat.le_antisymm hi z
      rw [ei, ← lnm, List.take_length] at gd
      exact wpAny_pure (q g gd gs)
  refine wpAny_bind (wpAny_dictEntries atd datd ?_)
  split
  · refine wpAny_bind (wpAny_dictEntries ata data ?_)
    refine wpAny_bind ?_
    rw [← Array.forIn_toList]
    refine wpAny_forIn_list _ (fun l _ s' => s' = s ∧ ∀ e ∈ l, e ∈ ta) _ ?_ ?_ _ _ ⟨rfl, fun e he => by simpa using he⟩
    · rintro e l _ s' ⟨rfl, hl⟩
      obtain ⟨j, k3, _⟩ := keysa e (hl e (List.mem_cons_self ..))
      have b := kd.byValue _ _ k3
      split
      · rename_i x ek
        rw [ek] at b
        cases b
      · exact wpAny_pure ⟨rfl, fun e' he => hl e' (List.mem_cons_of_mem _ he)⟩
    · rintro _ s' ⟨rfl, _⟩
      exact rest
  · exact rest
end
end Ux

set_option Elab.async false
set_option linter.all false
set_option maxRecDepth 100000
set_option maxHeartbeats 4000000
set_option pp.maxSteps 150
/-! {**d, k: v}, the keys ints or texts: the display -/
namespace Ux
open PySem PySem.W
section
variable {prog : Program} {w : World} {κ : Type} [DecidableEq κ] {kd : KeyKind prog w κ} {A : Around} {E : Value → Shared → Prop} {s : Shared}
abbrev mtD : Obj := { cls := .type "dict", data := .dict #[] }
theorem display_star {m k v : Sem Value} {Q : Value → Shared → Prop}
    (h : wpAny (model prog w) A m (fun u s1 => ∃ (a : Addr) (xs : List (κ × Value)), u = .ref a ∧ (a == sysModules) = false ∧ s.heap.objs.size ≠ a ∧ s1.heap.DictOf kd s.heap.objs.size [] ∧ s1.heap.DictOf kd a xs ∧ xs.length + 1 ≤ sizeLine ∧ (xs.map (·.1)).Nodup ∧
      ∀ g, g.DictOf kd s.heap.objs.size xs → Heap.SameBut s.heap.objs.size s1.heap g →
        wpAny (model prog w) A (evalPairs [(k, v)]) (fun vs s2 => ∃ (j : κ) (y : Value) (ys : List (κ × Value)), Carries kd vs [(j, y)] ∧ s2.heap.DictOf kd g.objs.size [] ∧ s2.heap.DictOf kd s.heap.objs.size ys ∧ ys.length + 1 ≤ sizeLine ∧ s.heap.objs.size ≠ g.objs.size ∧ (g.objs.size == sysModules) = false ∧
          ∀ g2, g2.DictOf kd g.objs.size [(j, y)] → Heap.SameBut g.objs.size s2.heap g2 → ∀ g3 tk, g3.DictOf kd s.heap.objs.size (stored ys j y) → Heap.SameBut s.heap.objs.size g2 g3 → Q (.ref s.heap.objs.size) { s2 with heap := g3, toks := tk }) E { s1 with heap := g.push mtD })
      E { s with heap := s.heap.push mtD }) : wpAny (model prog w) A (dictDisplay [(none, m), (some k, v)]) Q E s := by
  unfold dictDisplay
  dsimp only
  refine wpAny_bind ?_
  rw [List.forIn_cons]
  refine wpAny_bind ?_
  refine wpAny_bind ?_
  simp only [List.isEmpty_nil, if_true]
  refine wpAny_pure ?_
  refine wpAny_bind ?_
  refine wpAny_alloc ?_
  refine wpAny_bind (wpAny_holding (wpAny_mono h (fun u s1 h1 => ?_) fun _ _ e => e))
  obtain ⟨a, xs, rfl, hs, na, dd, da, few, nd, h2⟩ := h1
  have fin : ∀ g, g.DictOf kd s.heap.objs.size xs → Heap.SameBut s.heap.objs.size s1.heap g → True := fun _ _ _ => trivial
  refine wpAny_bind (wpAny_onRaise (wpAny_tryCatch (wpAny_onRaise (wpAny_holding (merge_pairs na hs dd da (by rw [List.length_nil]; omega) fun g gd gs => ?_)))))
  rw [merged_nil_of_nodup xs nd] at gd
  have h3 := h2 g gd gs
  clear h2 fin
  refine wpAny_pure ?_
  dsimp only
  rw [List.forIn_cons]
  refine wpAny_bind ?_
  dsimp only
  have e17 : (([] ++ [(k, v)] : List (Sem Value × Sem Value)).length == 17) = false := rfl
  simp only [e17, Bool.false_eq_true, if_false]
  refine wpAny_pure ?_
  dsimp only
  rw [List.forIn_nil]
  refine wpAny_pure ?_
  dsimp only
  refine wpAny_bind ?_
  rw [if_neg (by simp)]
  refine wpAny_bind (wpAny_holding (wpAny_subDict (knd := kd) (by simp) ?_))
  refine wpAny_mono h3 (fun vs s2 h4 => ?_) fun _ _ e => e
  obtain ⟨j, y, ys, ca, d1, d2, few2, n2, m2, h5⟩ := h4
  refine ⟨[(j, y)], ca, d1, fun g2 dg2 sg2 => ?_⟩
  have e1 : merged [] [(j, y)] = [(j, y)] := rfl
  rw [e1] at dg2
  have d2' : g2.DictOf kd s.heap.objs.size ys := d2.sameBut sg2 n2
  refine wpAny_bind (wpAny_onRaise (wpAny_holding (merge_pairs n2 m2 d2' dg2 (by simpa using few2) fun g3 dg3 sg3 => ?_)))
  refine wpAny_pure ?_
  dsimp only
  have e2 : merged ys [(j, y)] = stored ys j y := rfl
  rw [e2] at dg3
  exact wpAny_pure (h5 g2 dg2 sg2 g3 _ dg3 sg3)
end
end Ux

set_option Elab.async false
set_option linter.all false
set_option maxRecDepth 100000
set_option maxHeartbeats 4000000
set_option pp.maxSteps 300
/-! {**d, k: v}, the keys ints or texts: the rule; [*d, ..] over a dict's keys -/
namespace Ux
open PySem PySem.Spec PyProof.Rows L2
def tDispS (te tk tv : TE) : TE := fun σ H Q => ∀ p, H p = none → te σ (upd H p (.dK [])) fun x H1 => H1 p = some (.dK []) ∧ ∃ (a : Addr) (kvs : List (L2.Key × V)), x = .ref a ∧ H1 a = some (.dK kvs) ∧ a ≠ p ∧ kvs.length + 1 ≤ sizeLine ∧
  ∀ p2, upd H1 p (.dK kvs) p2 = none → tk σ (upd (upd H1 p (.dK kvs)) p2 (.dK [])) fun y H2 => tv σ H2 fun z H3 => H3 p2 = some (.dK []) ∧ H3 p = some (.dK kvs) ∧ ∃ k, y = kV k ∧ Q (.ref p) (upd (upd H3 p2 (.dK [(k, z)])) p (.dK (putK kvs k z)))
section
variable {X : Cx} {e k v : Expr} {te tk tv : TE} {pos : Pos}
theorem pe_dispS (he : PE X e te) (hk : PE X k tk) (hv : PE X v tv) : PE X (.Dict [none, some k] [e, v] pos) (tDispS te tk tv) := by
  refine ⟨fun pins s σ H Q I q => ?_⟩
  have hn := I.hok.fresh (Nat.le_refl s.heap.objs.size)
  have I1 := I.laid (a := s.heap.objs.size) (o := .dK []) (h' := s.heap.push { cls := .type "dict", data := .dict #[] }) (t' := s.toks) (fun _ _ q => Heap.get?_push_of_some _ q) (Nat.le_refl _) (dk_empty s.heap I.big)
  rw [arm_eval_Dict]
  refine wpAny_bind (wpAny_standAt ?_)
  show wpAny _ _ (dictDisplay [(none, do let x ← eval e X.env; standAt pos; pure x), (some (eval k X.env), do let x ← eval v X.env; standAt pos; pure x)]) _ _ s
  refine display_star (kd := mixKind X.prog X.w) ?_
  refine wpAny_bind (thn (he.run pins _ σ _ _ I1 (q _ hn)) fun u s1 hq => ?_)
  obtain ⟨x, H1, I2, rx, hp, a, kvs, rfl, ha, na, few, q2⟩ := hq
  obtain rfl : u = Value.ref a := rx
  refine wpAny_bind (wpAny_standAt (wpAny_pure ?_))
  obtain ⟨z1, m1, vs1, rk1, d1⟩ := dk_of I2.hok hp
  cases rk1
  obtain ⟨z2, m2, xs, rk2, d2⟩ := dk_of I2.hok ha
  have ln : kvs.length = xs.length := Paired.length rk2
  have nd : (xs.map (·.1)).Nodup := by
    obtain ⟨o, es, ep, _, _, _, _, _, n⟩ := id d2
    exact n
  refine ⟨a, xs, rfl, m2, na.symm, d1, d2, by omega, nd, fun g gd gs => ?_⟩
  have he' : ∃ q, g.get? s.heap.objs.size = some q := let ⟨q, _, _, hq, _⟩ := gd; ⟨q, hq⟩
  have I3 : Inv X pins σ (upd H1 s.heap.objs.size (.dK kvs)) { s1 with heap := g } := d_write (t' := s1.toks) I2 (by rw [hp]; exact True.intro) gs he' (dk_new (by omega) m1 rk2 gd)
  have hn2 := I3.hok.fresh (Nat.le_refl g.objs.size)
  have I4 := I3.laid (a := g.objs.size) (o := .dK []) (h' := g.push { cls := .type "dict", data := .dict #[] }) (t' := s1.toks) (fun _ _ q => Heap.get?_push_of_some _ q) (Nat.le_refl _) (dk_empty g I3.big)
  refine evalPairs_cons (thn (hk.run pins _ σ _ _ I4 (q2 _ hn2)) fun uk s2 hq => ?_)
  obtain ⟨y, H2, I5, ry, q3⟩ := hq
  refine wpAny_bind (thn (hv.run pins _ σ _ _ I5 q3) fun uv s3 hq => ?_)
  obtain ⟨z, H3, I6, rz, hp2, hp3, j, rfl, q4⟩ := hq
  refine wpAny_bind (wpAny_standAt (wpAny_pure (evalPairs_nil ?_)))
  obtain ⟨z3, m3, vs3, rk3, d3⟩ := dk_of I6.hok hp2
  cases rk3
  obtain ⟨z4, m4, ys, rk4, d4⟩ := dk_of I6.hok hp3
  have nn : s.heap.objs.size ≠ g.objs.size := fun z => by
    rw [← z, upd_same] at hn2
    cases hn2
  have ly : kvs.length = ys.length := Paired.length rk4
  refine ⟨j, uv, ys, ⟨kV_is ry, rfl, trivial⟩, d3, d4, by omega, nn, m3, fun g2 dg2 sg2 g3 tk3 dg3 sg3 => ?_⟩
  have e2 : ∃ q, g2.get? g.objs.size = some q := let ⟨q, _, _, hq, _⟩ := dg2; ⟨q, hq⟩
  have I7 : Inv X pins σ (upd H3 g.objs.size (.dK [(j, z)])) { s3 with heap := g2 } := d_write (t' := s3.toks) I6 (by rw [hp2]; exact True.intro) sg2 e2 (dk_new (by rw [sizeLine_eq]; simp) m3 (.cons ⟨rfl, rz⟩ .nil) dg2)
  have hp4 : upd H3 g.objs.size (.dK [(j, z)]) s.heap.objs.size = some (.dK kvs) := (upd_ne nn).trans hp3
  have e3 : ∃ q, g3.get? s.heap.objs.size = some q := let ⟨q, _, _, hq, _⟩ := dg3; ⟨q, hq⟩
  have lp := length_putK kvs j z
  exact ⟨.ref s.heap.objs.size, _, d_write (s := { s3 with heap := g2 }) (t' := tk3) I7 (by rw [hp4]; exact True.intro) sg3 e3 (dk_new (by omega) m4 (rk4.put j rz) dg3), rfl, q4⟩
end
end Ux

set_option Elab.async false
set_option linter.all false
set_option maxRecDepth 100000
set_option maxHeartbeats 4000000
set_option pp.maxSteps 300
/-! [*d, ..] over a dict's keys -/
namespace Ux
open PySem PySem.Spec PyProof.Rows L2
def tStarD (te : TE) (t : TA) : TA := fun σ H Q => te σ H fun x H1 => ∃ (a : Addr) (kvs : List (L2.Key × V)), x = V.ref a ∧ Rd H1 a (.dK kvs) ∧ t σ H1 fun ys H2 => Q ((kvs.map fun kv => kV kv.1) ++ ys) H2
section
variable {X : Cx} {e : Expr} {es : List Expr} {te : TE} {t : TA} {p : Pos}
theorem star_dict {pins : List (Addr × Obj)} {σ : L2.St} {H : Hp} {s : Shared} {a : Addr} {kvs : List (L2.Key × V)} {E : Value → Shared → Prop} {Q : List Value → Shared → Prop} (hc : X.calm = true) (I : Inv X pins σ H s) (h : Rd H a (.dK kvs))
    (hQ : ∀ us s', Inv X pins σ H s' → Vals (kvs.map fun kv => kV kv.1) us → Q us s') : PySem.W.StarOf (model X.prog X.w) X.A E (.ref a) Q s := by
  obtain ⟨z, lo, vs, rel, dd⟩ := dk_rd I.hok h
  obtain ⟨ep, hat⟩ := dd.dictAt
  have hl : kvs.length = vs.length := Paired.length rel
  have run : wpAny (model X.prog X.w) X.A (collect (.ref a)) Q E s := by
    refine PySem.W.kdu_collect (A := X.A) (PySem.W.kdl_dict (knd := mixKind X.prog X.w) (kvs := vs) (ep := ep) lo) (I.ok.hd hc) hat (by rw [← hl]; exact z) fun h' tk acc hk hacc => ?_
    have e0 : acc.toList.length = acc.size := by simp
    refine hQ acc.toList _ (I.kept (t' := tk) hk) (vals_of_at (by rw [List.length_map, e0, hacc.1, hl]) fun j x w h1 h2 => ?_)
    obtain ⟨k, y, hky, hi⟩ := hacc.2 j w (by rw [← Array.getElem?_toList]; exact h2)
    have e1 : (kvs.map (·.1))[j]? = some k := by
      rw [KV.keys rel, List.getElem?_map, hky]
      rfl
    rw [List.getElem?_map] at e1 h1
    cases ek : kvs[j]? with
    | none => rw [ek] at e1; cases e1
    | some q =>
      rw [ek] at e1 h1
      cases e1
      cases h1
      exact keyIs_rel hi
  unfold PySem.W.StarOf notIterableAtAll
  exact wpAny_bind (wpAny_specialOf dd.typeIs PySem.F.slot_dict_iter.lookup (wpAny_pure ⟨rfl, run⟩))
theorem pa_starD (hc : X.calm = true) (he : PE X e te) (hr : PA X es t) (hs : starEach (.Starred e p :: es) X.env = (true, eval e X.env) :: starEach es X.env := by rfl) : PA X (.Starred e p :: es) (tStarD te t) := by
  refine ⟨fun pos pins s σ H Q I h => ?_⟩
  refine PySem.W.items_star (thn (he.run pins s σ H _ I h) fun v s1 hq => ?_) hs
  obtain ⟨y, H1, I1, ry, a, kvs, ey, hx, q⟩ := hq
  subst ey
  obtain rfl : v = Value.ref a := ry
  refine star_dict hc I1 hx fun us s2 I2 rv => ?_
  exact thn (hr.run pos pins s2 σ H1 _ I2 q) fun ws s3 hq => by
    obtain ⟨vs, H3, I3, r3, q3⟩ := hq
    exact ⟨_, H3, I3, rv.append r3, q3⟩
end
end Ux

set_option Elab.async false
set_option linter.all false
set_option maxRecDepth 100000
set_option maxHeartbeats 4000000
namespace K08
open PySem PySem.Spec PyProof.Rows L2 Ux
def top (i : Nat) : Stmt := PySem.Challenge.pw_unseenslopes_k08_worlds_told.main.body.getD i (.Pass ⟨0, 0, 0, 0⟩)
abbrev sBag : Stmt := top 50
abbrev sPull : Stmt := top 51
abbrev sOf : Stmt := top 52
abbrev sSame : Stmt := top 53
/-- the built-ins that the text calls still stand -/
structure Bn (mg : Str → Option Value) : Prop where
  isin : mg "isinstance" = none
  tstr : mg "str" = none
  tint : mg "int" = none
  tlist : mg "list" = none
  ttuple : mg "tuple" = none
  tbool : mg "bool" = none
  fabs : mg "abs" = none
  frepr : mg "repr" = none
  flen : mg "len" = none
  frange : mg "range" = none
  fzip : mg "zip" = none
  fall : mg "all" = none
  tve : mg "ValueError" = none
  tle : mg "LookupError" = none
def BagL (l : Addr) (p : Nat) (g s c : Int) : List V := [.ref l, .int p, .int g, .int s, .int c]
/-- the bag of numbers at b, asked at most n times -/
structure BagAt (H : Hp) (b : Addr) (n : Nat) : Prop where
  ex : ∃ (l : Addr) (ns : List Int) (p : Nat) (g s c : Int), H b = some (.lst (BagL l p g s c)) ∧ H l = some (.lst (ns.map V.int)) ∧ b ≠ l ∧ 0 ≤ g ∧ 0 ≤ s ∧ s < 2147483549 ∧ 0 ≤ c ∧ c ≤ n
/-- all that was told stands, but what is at b -/
def But (b : Addr) (H H' : Hp) : Prop := ∀ x o, H x = some o → x ≠ b → H' x = some o
theorem But.refl {b : Addr} {H : Hp} : But b H H := fun _ _ h _ => h
theorem But.upd {b : Addr} {H H' : Hp} {o : HO} (h : But b H H') : But b H (upd H' b o) := fun x u e n => by
  rw [upd_ne n]
  exact h x u e n
theorem But.trans {b : Addr} {H H1 H2 : Hp} (h : But b H H1) (k : But b H1 H2) : But b H H2 := fun x o e n => k x o (h x o e n) n
/-- the list at b keeps its first item -/
def Hd (b : Addr) (H H' : Hp) : Prop := ∀ (l : Addr) (r : List V), H b = some (.lst (V.ref l :: r)) → ∃ r', H' b = some (.lst (V.ref l :: r'))
/-- all but b stands, and b keeps its first item -/
def Bt (b : Addr) (H H' : Hp) : Prop := But b H H' ∧ Hd b H H'
theorem Bt.trans {b : Addr} {H H1 H2 : Hp} (h : Bt b H H1) (k : Bt b H1 H2) : Bt b H H2 := ⟨h.1.trans k.1, fun l r e => by
  obtain ⟨r1, e1⟩ := h.2 l r e
  exact k.2 l r1 e1⟩
def spPull : Sp := fun vs H Q _ => ∃ (b : Addr) (m : Int) (n : Nat), vs = [.ref b, .int m] ∧ 0 < m ∧ m < 1073741824 ∧ BagAt H b n ∧ n ≤ 1000000000 ∧ ∀ (r : Int) (H' : Hp), 0 ≤ r → r < m → BagAt H' b (n + 1) → Bt b H H' → Q (.int r) H'
section
variable {P : Program} {w : World} {K : PySem.W.Frag} {mg : Str → Option Value} {base : Heap}
theorem scPull : FnScope ["_law_bag_here", "_law_many", "_law_cell", "_law_small", "_law_digit", "_law_seed", "_law_step"] ["_law_bag_here", "_law_many"] (defScope sPull) := ⟨rfl, rfl, rfl, by decide +kernel, rfl, by decide +kernel, by decide +kernel⟩
theorem ok_pull {f : Addr} {fd : FuncData} (F : Fun K "_law_pull" "_law_pull" sPull f fd) (T : Bn mg) : FnOk P w K mg base CX0 1 f fd ["_law_bag_here", "_law_many"] spPull := by
  refine F.ok scPull (fun vs H Q E h => ?_) (fun cdv A outer s H vs Q E hr h => ?_)
  · obtain ⟨b, m, n, rfl, _⟩ := h
    rfl
  · obtain ⟨b, m, n, rfl, m0, m1, ⟨l, ns, p, g, s', c, hb, hl, nbl, g0, s0, s1, c0, c1⟩, hn, k⟩ := h
    refine ⟨_, pss_cons (ps_asg (pe_op op_add (pe_ix ix_list (pv 0) pe_int (fun _ _ => rfl)) pe_int) (pg_sub (pv 0) pe_int set_list))
      (C8.pss_cut (ps_if (PW.pt (pw_and (pt_cmpR op_eq (pe_ix ix_list (pv 0) pe_int (fun _ _ => rfl)) pe_int (nomark _))
            (pw_and1 (pt_cmpR op_lt (pe_ix ix_list (pv 0) pe_int (fun _ _ => rfl)) (pe_callB call_len (by rfl) T.flen (by decide +kernel) (pa_cons (pe_ix ix_list (pv 0) pe_int (fun _ _ => rfl)) pa_nil)) (nomark _)))))
          (pss_cons (ps_set (i := 2) scPull.nd rfl (Or.inl rfl) (pe_ix ix_list (pe_ix ix_list (pv 0) pe_int (fun _ _ => rfl)) (pe_ix ix_list (pv 0) pe_int (fun _ _ => rfl)) (fun _ _ => rfl)))
          (pss_cons (ps_asg (pe_op op_add (pe_ix ix_list (pv 0) pe_int (fun _ _ => rfl)) pe_int) (pg_sub (pv 0) pe_int set_list))
          (pss_one (ps_if (pt_cmpR op_ge (pe_callB call_abs (by rfl) T.fabs (by decide +kernel) (pa_cons (pv 2) pa_nil)) (pe_op op_pow pe_int pe_int) (nomark _))
            (pss_one (ps_asg (pe_callB call_abs (by rfl) T.fabs (by decide +kernel) (pa_cons (pv 2) pa_nil)) (pg_sub (pv 0) pe_int set_list)))
            (pss_cons (ps_set (i := 3) scPull.nd rfl (Or.inl rfl) (pe_op op_add (pe_op op_mul (pe_op op_mod (pe_callTy call_int1 (by rfl) T.tint (by decide +kernel) (pa_cons (pv 2) pa_nil)) pe_int) pe_int) pe_int))
            (pss_one (ps_asg (pe_op op_mod (pe_callTy call_int1 (by rfl) T.tint (by decide +kernel) (pa_cons (pe_op op_add (pe_op op_mul (pe_ix ix_list (pv 0) pe_int (fun _ _ => rfl)) pe_int) (pv 3)) pa_nil)) pe_int) (pg_sub (pv 0) pe_int set_list))))))))
          pss_nil)
      (pss_cons (ps_if (pt_cmpR op_gt (pe_ix ix_list (pv 0) pe_int (fun _ _ => rfl)) pe_int (nomark _))
          (pss_cons (ps_set (i := 4) scPull.nd rfl (Or.inl rfl) (pe_op op_mod (pe_callTy call_int1 (by rfl) T.tint (by decide +kernel) (pa_cons (pe_ix ix_list (pv 0) pe_int (fun _ _ => rfl)) pa_nil)) (pv 1)))
          (pss_cons (ps_asg (pe_op op_fdiv (pe_ix ix_list (pv 0) pe_int (fun _ _ => rfl)) (pv 1)) (pg_sub (pv 0) pe_int set_list))
          (pss_one (ps_ret (pv 4))))) pss_nil)
      (pss_cons (ps_set (i := 5) scPull.nd rfl (Or.inl rfl) (pe_ix ix_list (pv 0) pe_int (fun _ _ => rfl)))
      (pss_cons (ps_set (i := 6) scPull.nd rfl (Or.inl rfl) (pe_op op_add (pe_op op_add (pe_op op_mul (pv 5) pe_int) (pe_op op_mul (pe_ix ix_list (pv 0) pe_int (fun _ _ => rfl)) pe_int)) pe_int))
      (pss_cons (ps_asg (pe_op op_mod (pe_callTy call_int1 (by rfl) T.tint (by decide +kernel) (pa_cons (pe_op op_add (pe_op op_mul (pe_op op_mul (pv 5) (pv 5)) pe_int) (pv 6)) pa_nil)) pe_int) (pg_sub (pv 0) pe_int set_list))
      (pss_one (ps_ret (pe_op op_mod (pe_callTy call_int1 (by rfl) T.tint (by decide +kernel) (pa_cons (pe_op op_add (pe_op op_fdiv (pe_ix ix_list (pv 0) pe_int (fun _ _ => rfl)) pe_int) (pe_op op_mul (pe_op op_mod (pe_callTy call_int1 (by rfl) T.tint (by decide +kernel) (pa_cons (pe_ix ix_list (pv 0) pe_int (fun _ _ => rfl)) pa_nil)) pe_int) pe_int)) pa_nil)) (pv 1))))))))), ?_⟩
    -- bag[4] = bag[4] + 1
    refine ⟨_, rfl, b, _, 4, _, rfl, rfl, .of hb, rfl, _, _, rfl, rfl, _, rfl, b, _, 4, 4, rfl, rfl, hb, rfl, ?_⟩
    have hb1 : upd H b (.lst (BagL l p g s' (c + 1))) b = some (.lst (BagL l p g s' (c + 1))) := upd_same
    have hl1 : upd H b (.lst (BagL l p g s' (c + 1))) l = some (.lst (ns.map V.int)) := (upd_ne (Ne.symm nbl)).trans hl
    have f1 : But b H (upd H b (.lst (BagL l p g s' (c + 1)))) := But.refl.upd
    -- the first if: the bag again
    refine ⟨fun σ H2 => ∃ (v2 v3 : Option V) (p : Nat) (g s : Int), σ = [some (.ref b), some (.int m), v2, v3, none, none, none] ∧ H2 b = some (.lst (BagL l p g s (c + 1))) ∧ H2 l = some (.lst (ns.map V.int)) ∧ 0 ≤ g ∧ 0 ≤ s ∧ s < 2147483549 ∧ But b H H2, ?_, ?_⟩
    · refine ⟨_, rfl, b, _, 2, _, rfl, rfl, .of hb1, rfl, rfl, _, rfl, ?_⟩
      by_cases hg : (V.int g) = V.int 0
      · rw [decide_eq_true hg]
        refine iteT ⟨_, rfl, b, _, 1, _, rfl, rfl, .of hb1, rfl, _, rfl, b, _, 0, _, rfl, rfl, .of hb1, rfl, _, _, rfl, .inl ⟨_, .of hl1, rfl⟩, _, _, rfl, rfl, _, rfl, ?_⟩
        by_cases hp : (p : Int) < ((ns.map V.int).length : Nat)
        · rw [decide_eq_true hp]
          have hp' : p < ns.length := by
            rw [List.length_map] at hp
            omega
          have hat : (ns.map V.int)[p]? = some (V.int ns[p]) := by
            rw [List.getElem?_map, List.getElem?_eq_getElem hp']
            rfl
          refine iteT ⟨_, rfl, b, _, 0, _, rfl, rfl, .of hb1, rfl, _, rfl, b, _, 1, _, rfl, rfl, .of hb1, rfl, l, _, _, _, rfl, rfl, .of hl1, atI_nat hat, ?_⟩
          refine ⟨_, rfl, b, _, 1, _, rfl, rfl, .of hb1, rfl, _, _, rfl, rfl, _, rfl, b, _, 1, 1, rfl, rfl, hb1, rfl, ?_⟩
          generalize ns[p] = z
          have hb2 : ∀ H2 : Hp, upd H2 b (.lst (BagL l (p + 1) g s' (c + 1))) b = some (.lst (BagL l (p + 1) g s' (c + 1))) := fun _ => upd_same
          refine ⟨_, rfl, _, rfl, _, _, rfl, rfl, ⟨by decide, by decide, by decide⟩, _, _, rfl, rfl, _, rfl, ?_⟩
          refine ite2 (fun big => ?_) (fun _ => ?_)
          · refine ⟨_, rfl, _, rfl, _, rfl, b, _, 2, 2, rfl, rfl, hb2 _, rfl, ?_⟩
            refine ⟨_, _, p + 1, _, s', rfl, upd_same, ?_, ?_, s0, s1, ((f1.upd).upd)⟩
            · rw [upd_ne (Ne.symm nbl), upd_ne (Ne.symm nbl)]
              exact hl1
            · show (0 : Int) ≤ if z < 0 then -z else z
              split <;> omega
          · refine ⟨_, rfl, .inl ⟨_, rfl, _, _, rfl, rfl, (by show (0 : Int) < 1000000007; decide), _, _, rfl, rfl, ?_, _, _, rfl, rfl, ?_⟩⟩
            · have q1 := Int.emod_nonneg z (show (1000000007 : Int) ≠ 0 by decide)
              have q2 := Int.emod_lt_of_pos z (show (0 : Int) < 1000000007 by decide)
              exact .inl ⟨by omega, by omega⟩
            · refine ⟨_, rfl, b, _, 3, _, rfl, rfl, .of (hb2 _), rfl, _, _, rfl, rfl, .inl ⟨by omega, by omega⟩, _, rfl, _, _, rfl, rfl, .inl ⟨_, rfl, _, _, rfl, rfl, (by show (0 : Int) < 2147483549; decide), ?_⟩⟩
              refine ⟨_, rfl, b, _, 3, 3, rfl, rfl, hb2 _, rfl, ?_⟩
              refine ⟨_, _, p + 1, g, _, rfl, upd_same, ?_, g0, Int.emod_nonneg _ (by decide), Int.emod_lt_of_pos _ (by decide), ((f1.upd).upd)⟩
              rw [upd_ne (Ne.symm nbl), upd_ne (Ne.symm nbl)]
              exact hl1
        · rw [decide_eq_false hp]
          refine iteF ?_
          exact ⟨_, _, p, g, s', rfl, hb1, hl1, g0, s0, s1, f1⟩
      · rw [decide_eq_false hg]
        refine iteF (iteF ?_)
        exact ⟨_, _, p, g, s', rfl, hb1, hl1, g0, s0, s1, f1⟩
    · clear hb1 hl1 f1 g0 s0 s1
      rintro σ H2 ⟨v2, v3, p, g, s, rfl, hb2, hl2, g0, s0, s1, f2⟩
      refine ⟨_, rfl, b, _, 2, _, rfl, rfl, .of hb2, rfl, _, _, rfl, rfl, _, rfl, ?_⟩
      refine ite2 (fun big => ?_) (fun _ => ?_)
      · refine ⟨_, rfl, b, _, 2, _, rfl, rfl, .of hb2, rfl, .inl ⟨_, rfl, _, rfl, _, _, rfl, rfl, m0, ?_⟩⟩
        refine ⟨_, rfl, b, _, 2, _, rfl, rfl, .of hb2, rfl, _, rfl, _, _, rfl, rfl, ⟨m0, m1⟩, _, rfl, b, _, 2, 2, rfl, rfl, hb2, rfl, ?_⟩
        refine ⟨_, rfl, ?_⟩
        refine k _ _ (Int.emod_nonneg _ (by omega)) (Int.emod_lt_of_pos _ m0) ⟨l, ns, p, g / m, s, c + 1, upd_same, ?_, nbl, Int.ediv_nonneg g0 (by omega), s0, s1, by omega, by omega⟩ ⟨f2.upd, fun l' r e => by rw [hb] at e; cases e; exact ⟨_, upd_same⟩⟩
        rw [upd_ne (Ne.symm nbl)]
        exact hl2
      · refine ⟨_, rfl, b, _, 3, _, rfl, rfl, .of hb2, rfl, ?_⟩
        refine ⟨_, rfl, _, _, rfl, rfl, .inl ⟨by omega, by omega⟩, _, rfl, b, _, 4, _, rfl, rfl, .of hb2, rfl, _, _, rfl, rfl, .inl ⟨by omega, by omega⟩, _, _, rfl, rfl, _, _, rfl, rfl, ?_⟩
        have sq : s * s ≤ 2147483549 * 2147483549 := Int.mul_le_mul (by omega) (by omega) s0 (by decide)
        have sq0 : 0 ≤ s * s := Int.mul_nonneg s0 s0
        refine ⟨_, rfl, _, rfl, _, _, rfl, rfl, .inl ⟨by omega, by omega⟩, _, _, rfl, rfl, .inl ⟨by omega, by omega⟩, _, rfl, _, _, rfl, rfl, .inl ⟨_, rfl, _, _, rfl, rfl, (by show (0 : Int) < 2147483549; decide), ?_⟩⟩
        refine ⟨_, rfl, b, _, 3, 3, rfl, rfl, hb2, rfl, ?_⟩
        have hb3 : ∀ y, upd H2 b (.lst (BagL l p g y (c + 1))) b = some (.lst (BagL l p g y (c + 1))) := fun _ => upd_same
        refine ⟨_, rfl, b, _, 3, _, rfl, rfl, .of (hb3 _), rfl, _, _, rfl, rfl, ⟨by decide, by decide⟩, _, rfl, b, _, 3, _, rfl, rfl, .of (hb3 _), rfl, .inl ⟨_, rfl, _, _, rfl, rfl, (by show (0 : Int) < 7901; decide), _, _, rfl, rfl, ?_, _, _, rfl, rfl, .inl ⟨_, rfl, _, rfl, _, _, rfl, rfl, m0, ?_⟩⟩⟩
        · refine .inr ⟨by decide, by decide⟩
        · refine k _ _ (Int.emod_nonneg _ (by omega)) (Int.emod_lt_of_pos _ m0) ⟨l, ns, p, g, _, c + 1, upd_same, ?_, nbl, g0, Int.emod_nonneg _ (by decide), Int.emod_lt_of_pos _ (by decide), by omega, by omega⟩ ⟨f2.upd, fun l' r e => by rw [hb] at e; cases e; exact ⟨_, upd_same⟩⟩
          rw [upd_ne (Ne.symm nbl)]
          exact hl2
end
/-- a def of the text under its name -/
structure Dn (K : PySem.W.Frag) (mg : Str → Option Value) (x : Str) (f : Addr) : Prop where
  gl : mg x = some (.ref f)
  kp : PySem.W.keepIn K (.ref f) = true
def spBag (K : PySem.W.Frag) : Sp := fun vs H Q _ => ∃ (a : Addr) (ns : List Int), vs = [.ref a] ∧ SqL K H a (ns.map V.int) ∧ ∀ (b : Addr) (H' : Hp), BagAt H' b 0 → H b = none → Same H H' → Q (.ref b) H'
def spOf : Sp := fun vs H Q _ => ∃ (b t : Addr) (n : Nat) (xs : List V), vs = [.ref b, .ref t] ∧ BagAt H b n ∧ n ≤ 1000000000 ∧ t ≠ b ∧ H t = some (.lst xs) ∧ 0 < xs.length ∧ xs.length ≤ 1000 ∧ ∀ (i : Nat) (v : V) (H' : Hp), xs[i]? = some v → BagAt H' b (n + 1) → Bt b H H' → Q v H'
theorem cut_ints (ns : List Int) (lo hi : Option Int) : ∃ ms : List Int, cutV (ns.map V.int) lo hi = ms.map V.int := by
  unfold cutV
  rw [← List.map_drop, ← List.map_take]
  exact ⟨_, rfl⟩
section
variable {P : Program} {w : World} {K : PySem.W.Frag} {mg : Str → Option Value} {base : Heap}
theorem scBag : FnScope ["_law_script"] ["_law_script"] (defScope sBag) := ⟨rfl, rfl, rfl, by decide +kernel, rfl, by decide +kernel, by decide +kernel⟩
theorem ok_bag {f : Addr} {fd : FuncData} (F : Fun K "_law_bag" "_law_bag" sBag f fd) (T : Bn mg) : FnOk P w K mg base CX0 1 f fd ["_law_script"] (spBag K) := by
  refine F.ok scBag (fun vs H Q E h => ?_) (fun cdv A outer s H vs Q E hr h => ?_)
  · obtain ⟨a, ns, rfl, _⟩ := h
    rfl
  · obtain ⟨a, ns, rfl, hS, k⟩ := h
    refine ⟨_, pss_one (ps_ret (pe_lst (pa_cons (pe_callTy call_list_of (by rfl) T.tlist (by decide +kernel) (pa_cons (pe_slice sl_list (pv 0) po_none (po_some pe_int)) pa_nil)) (pa_cons pe_int (pa_cons pe_int (pa_cons pe_int (pa_cons pe_int pa_nil))))))), ?_⟩
    obtain ⟨ms, hm⟩ := cut_ints ns none (some 63)
    refine ⟨_, rfl, _, rfl, a, _, rfl, hS, fun p hp => ?_⟩
    rw [hm]
    refine ⟨p, _, rfl, .inl (SqL.of upd_same), fun l hl => ?_⟩
    refine ⟨(by show 5 ≤ sizeLine; decide), fun b hb => ?_⟩
    have nbl : b ≠ l := (ne_of_none upd_same hb).symm
    refine k b _ ⟨l, ms, 0, 0, 12004, 0, upd_same, ?_, nbl, by decide, by decide, by decide, by decide, by decide⟩ ?_ ?_
    · rw [upd_ne nbl.symm]
      exact upd_same
    · have e1 : H b ≠ none → False := fun z => by
        cases e : H b with
        | none => exact z e
        | some o =>
          have q : (upd (upd H p (.lst (ms.map V.int))) l (.lst (ms.map V.int))) b = some o := by
            rw [upd_ne nbl, upd_ne (ne_of_none e hp)]
            exact e
          rw [q] at hb
          cases hb
      exact Classical.byContradiction e1
    · intro c o e
      have h1 := ne_of_none e hp
      have s1 : upd H p (.lst (ms.map V.int)) c = some o := by
        rw [upd_ne h1]
        exact e
      have h2 := ne_of_none s1 hl
      have s2 : upd (upd H p (.lst (ms.map V.int))) l (.lst (ms.map V.int)) c = some o := by
        rw [upd_ne h2]
        exact s1
      rw [upd_ne (ne_of_none s2 hb)]
      exact s2
theorem scOf : FnScope ["_law_bag_here", "_law_things"] ["_law_bag_here", "_law_things"] (defScope sOf) := ⟨rfl, rfl, rfl, by decide +kernel, rfl, by decide +kernel, by decide +kernel⟩
theorem ok_of {f fP : Addr} {fd fdP : FuncData} (F : Fun K "_law_of" "_law_of" sOf f fd) (T : Bn mg) (D : Dn K mg "_law_pull" fP) (G : FnOk P w K mg base CX0 1 fP fdP ["_law_bag_here", "_law_many"] spPull) (bP : Binds K fdP ["_law_bag_here", "_law_many"] []) :
    FnOk P w K mg base CX0 2 f fd ["_law_bag_here", "_law_things"] spOf := by
  refine F.ok scOf (fun vs H Q E h => ?_) (fun cdv A outer s H vs Q E hr h => ?_)
  · obtain ⟨b, t, n, xs, rfl, _⟩ := h
    rfl
  · obtain ⟨b, t, n, xs, rfl, B, hn, nt, ht, l0, l1, k⟩ := h
    refine ⟨_, pss_one (ps_ret (pe_ix ix_list (pv 1) (pe_call G hr (by rfl) D.gl D.kp bP .nil pass0 (pa_cons (pv 0) (pa_cons (pe_callB call_len (by rfl) T.flen (by decide +kernel) (pa_cons (pv 1) pa_nil)) pa_nil))) (fun _ _ => rfl))), ?_⟩
    refine ⟨_, rfl, _, rfl, _, rfl, _, _, rfl, .inl ⟨_, .of ht, rfl⟩, b, _, n, rfl, by omega, by omega, B, hn, fun r H' r0 r1 B' f' => ?_⟩
    have hi : r.toNat < xs.length := by omega
    have q := List.getElem?_eq_getElem hi
    generalize xs[r.toNat] = y at q
    refine ⟨t, xs, r, y, rfl, rfl, .of (f'.1 _ _ ht nt), ?_, k r.toNat y H' q B' f'⟩
    have z := atI_nat q
    rw [Int.toNat_of_nonneg r0] at z
    exact z
/-! ### same -/
/-- u and v are like data, less than n deep -/
def Like (H : Hp) : Nat → V → V → Prop
  | 0, _, _ => False
  | n + 1, u, v => (u = v ∧ (v = .non ∨ (∃ b, v = .bl b) ∨ (∃ i, v = .int i) ∨ ∃ x, v = .str x)) ∨
    ∃ (a b : Addr) (xs ys : List V), u = .ref a ∧ v = .ref b ∧ ((H a = some (.tup xs) ∧ H b = some (.tup ys)) ∨ (H a = some (.lst xs) ∧ H b = some (.lst ys))) ∧ xs.length = ys.length ∧ xs.length ≤ 1000 ∧ ∀ (i : Nat) (x y : V), xs[i]? = some x → ys[i]? = some y → Like H n x y
theorem Like.mono {H H' : Hp} (s : Same H H') : ∀ {n : Nat} {u v : V}, Like H n u v → Like H' n u v
  | 0, _, _, h => h.elim
  | n + 1, u, v, h => by
    rcases h with h | ⟨a, b, xs, ys, e1, e2, hh, l1, l2, k⟩
    · exact .inl h
    · refine .inr ⟨a, b, xs, ys, e1, e2, ?_, l1, l2, fun i x y hx hy => Like.mono s (k i x y hx hy)⟩
      rcases hh with ⟨h1, h2⟩ | ⟨h1, h2⟩
      · exact .inl ⟨s _ _ h1, s _ _ h2⟩
      · exact .inr ⟨s _ _ h1, s _ _ h2⟩
def spSame (n : Nat) : Sp := fun vs H Q _ => ∃ u v, vs = [u, v] ∧ Like H n u v ∧ ∀ H', Same H H' → Q (.bl true) H'
theorem Same.new {H H' : Hp} {p : Addr} {o : HO} (s : Same H H') (hp : H' p = none) : Same H (upd H' p o) := fun c u e => by
  rw [upd_ne (ne_of_none (s c u e) hp)]
  exact s c u e
theorem scSame : FnScope ["_law_found", "_law_due", "_law_a", "_law_b"] ["_law_found", "_law_due"] (defScope sSame) := ⟨rfl, rfl, rfl, by decide +kernel, rfl, by decide +kernel, by decide +kernel⟩
theorem walk_zipT {a b : Addr} {xs ys : List V} {n : Nat} (hn : n = min xs.length ys.length) : Walk (RZ.ItzT K a b) n (fun H => SqT K H a xs ∧ SqT K H b ys) (YPair (fun i => xs[i]?) (fun i => ys[i]?)) := by
  subst hn
  refine ⟨fun i _ hi q => ?_, fun _ q => ⟨xs, ys, q.1, q.2, ?_⟩, fun i H v H' _ q y => ?_⟩
  · have h1 : i < xs.length := by omega
    have h2 : i < ys.length := by omega
    refine ⟨xs, ys, xs[i], ys[i], q.1, q.2, List.getElem?_eq_getElem h1, List.getElem?_eq_getElem h2⟩
  · omega
  · obtain ⟨T, x, z, h1, h2, h3, h4, h5⟩ := y
    exact ⟨T, x, z, h1, h2, h3, h4 xs q.1, h5 ys q.2⟩
theorem all_true (n : Nat) : (List.replicate n true).all id = true := by
  induction n with
  | zero => rfl
  | succ n ih =>
    rw [List.replicate_succ, List.all_cons, ih]
    rfl
theorem any_no {T : String} (h1 : kitB T "list" = some false) (h2 : kitB T "tuple" = some false) : PySem.W.kitAny K (.type T) [.type "list", .type "tuple"] = some false :=
  kitAny_cons (kit_ty h1) (fun _ => kitAny_cons (kit_ty h2) (fun _ => kitAny_nil) (fun z => nomatch z)) (fun z => nomatch z)
theorem any_lst : PySem.W.kitAny K (.type "list") [.type "list", .type "tuple"] = some true :=
  kitAny_cons (b := true) (kit_ty (by decide +kernel)) (fun z => nomatch z) (fun _ => rfl)
theorem any_tup : PySem.W.kitAny K (.type "tuple") [.type "list", .type "tuple"] = some true :=
  kitAny_cons (b := false) (kit_ty (by decide +kernel)) (fun _ => kitAny_cons (b := true) (kit_ty (by decide +kernel)) (fun z => nomatch z) (fun _ => rfl)) (fun z => nomatch z)
theorem lt_tup : Paired ClsV [V.ty "list", V.ty "tuple"] [Value.type "list", Value.type "tuple"] := .cons (.ty _) (.cons (.ty _) .nil)
theorem ok_same_step {f : Addr} {fd : FuncData} {n k : Nat} (F : Fun K "_law_same" "_law_same" sSame f fd) (T : Bn mg) (D : Dn K mg "_law_same" f) (G : FnOk P w K mg base CX0 k f fd ["_law_found", "_law_due"] (spSame n)) (bS : Binds K fd ["_law_found", "_law_due"] []) :
    FnOk P w K mg base CX0 (k + 1) f fd ["_law_found", "_law_due"] (spSame (n + 1)) := by
  refine F.ok scSame (fun vs H Q E h => ?_) (fun cdv A outer s H vs Q E hr h => ?_)
  · obtain ⟨u, v, rfl, _⟩ := h
    rfl
  · obtain ⟨u, v, rfl, lk, kk⟩ := h
    refine ⟨_, pss_cons (ps_if (PW.pt (pw_or (pt_cmpR op_isN (pv 1) pe_non (nomark _)) (pw_or1 (pt_cmpR op_isN (pv 0) pe_non (nomark _)))))
        (pss_one (ps_ret (pe_and (pe_cmpR op_isN (pv 1) pe_non (nomark _)) (pe_one (pe_cmpR op_isN (pv 0) pe_non (nomark _)))))) pss_nil)
      (pss_cons (ps_if (PW.pt (pw_or (pt_val (pe_callB call_isi (by rfl) T.isin (by decide +kernel) (pa_cons (pv 1) (pa_cons (pe_bltn (v := .ty "bool") (by rfl) T.tbool (by decide +kernel) rfl) pa_nil)))) (pw_or1 (pt_val (pe_callB call_isi (by rfl) T.isin (by decide +kernel) (pa_cons (pv 0) (pa_cons (pe_bltn (v := .ty "bool") (by rfl) T.tbool (by decide +kernel) rfl) pa_nil)))))))
        (pss_one (ps_ret (pe_and (pe_callB call_isi (by rfl) T.isin (by decide +kernel) (pa_cons (pv 1) (pa_cons (pe_bltn (v := .ty "bool") (by rfl) T.tbool (by decide +kernel) rfl) pa_nil))) (pe_and (pe_callB call_isi (by rfl) T.isin (by decide +kernel) (pa_cons (pv 0) (pa_cons (pe_bltn (v := .ty "bool") (by rfl) T.tbool (by decide +kernel) rfl) pa_nil))) (pe_one (pe_cmpR op_eq (pv 0) (pv 1) (nomark _))))))) pss_nil)
      (pss_cons (ps_if (PW.pt (pw_or (pt_val (pe_callB call_isiT (by rfl) T.isin (by decide +kernel) (pa_cons (pv 1) (pa_cons (pe_tup (pa_cons (pe_bltn (v := .ty "list") (by rfl) T.tlist (by decide +kernel) rfl) (pa_cons (pe_bltn (v := .ty "tuple") (by rfl) T.ttuple (by decide +kernel) rfl) pa_nil))) pa_nil)))) (pw_or1 (pt_val (pe_callB call_isiT (by rfl) T.isin (by decide +kernel) (pa_cons (pv 0) (pa_cons (pe_tup (pa_cons (pe_bltn (v := .ty "list") (by rfl) T.tlist (by decide +kernel) rfl) (pa_cons (pe_bltn (v := .ty "tuple") (by rfl) T.ttuple (by decide +kernel) rfl) pa_nil))) pa_nil)))))))
        (pss_cons (ps_if (pt_cmpR op_ne (pe_callB call_isi (by rfl) T.isin (by decide +kernel) (pa_cons (pv 1) (pa_cons (pe_bltn (v := .ty "list") (by rfl) T.tlist (by decide +kernel) rfl) pa_nil))) (pe_callB call_isi (by rfl) T.isin (by decide +kernel) (pa_cons (pv 0) (pa_cons (pe_bltn (v := .ty "list") (by rfl) T.tlist (by decide +kernel) rfl) pa_nil))) (nomark _)) (pss_one (ps_ret pe_bl)) pss_nil)
        (pss_cons (ps_if (PW.pt (pw_or (pt_cmpR op_ne (pe_callB call_isi (by rfl) T.isin (by decide +kernel) (pa_cons (pv 1) (pa_cons (pe_bltn (v := .ty "tuple") (by rfl) T.ttuple (by decide +kernel) rfl) pa_nil))) (pe_callB call_isi (by rfl) T.isin (by decide +kernel) (pa_cons (pv 0) (pa_cons (pe_bltn (v := .ty "tuple") (by rfl) T.ttuple (by decide +kernel) rfl) pa_nil))) (nomark _)) (pw_or1 (pt_cmpR op_ne (pe_callB call_len (by rfl) T.flen (by decide +kernel) (pa_cons (pv 0) pa_nil)) (pe_callB call_len (by rfl) T.flen (by decide +kernel) (pa_cons (pv 1) pa_nil)) (nomark _))))) (pss_one (ps_ret pe_bl)) pss_nil)
        (pss_one (ps_ret (pe_callB (cr_all rfl) (by rfl) T.fall (by decide +kernel) (pa_cons (pe_lc (own := [("_law_a", 2), ("_law_b", 3)]) (g := gTup K 2 (gCons (gName 2) (gCons (gName 3) gNil))) rfl scSame.nd (RZ.pi_zipA (by rfl) T.fzip (pa_cons (pv 0) (pa_cons (pv 1) pa_nil))) (blkOk_by (own := [("_law_a", 2), ("_law_b", 3)]) (N := ["_law_found", "_law_due", "_law_a", "_law_b"]) (sc := defScope sSame) (by decide +kernel))
            (fun _ _ _ _ _ => pg_tup (n := 2) rfl (pgs_cons (pg_name (i := 2) scSame.nd rfl (Or.inl rfl) (hf := Or.inr rfl)) (pgs_cons (pg_name (i := 3) scSame.nd rfl (Or.inl rfl) (hf := Or.inr rfl)) pgs_nil))) (fun _ _ _ _ _ => pts_nil)
            (fun _ _ _ _ _ => pe_call G hr (by rfl) D.gl D.kp bS .nil pass0 (pa_cons (pv 2) (pa_cons (pv 3) pa_nil)))) pa_nil)))))) pss_nil)
      (pss_cons (ps_if (pt_cmpR op_ne (pe_callB call_isi (by rfl) T.isin (by decide +kernel) (pa_cons (pv 1) (pa_cons (pe_bltn (v := .ty "int") (by rfl) T.tint (by decide +kernel) rfl) pa_nil))) (pe_callB call_isi (by rfl) T.isin (by decide +kernel) (pa_cons (pv 0) (pa_cons (pe_bltn (v := .ty "int") (by rfl) T.tint (by decide +kernel) rfl) pa_nil))) (nomark _)) (pss_one (ps_ret pe_bl)) pss_nil)
      (pss_one (ps_ret (pe_and (pe_cmpR op_eq (pe_callB call_isi (by rfl) T.isin (by decide +kernel) (pa_cons (pv 1) (pa_cons (pe_bltn (v := .ty "str") (by rfl) T.tstr (by decide +kernel) rfl) pa_nil))) (pe_callB call_isi (by rfl) T.isin (by decide +kernel) (pa_cons (pv 0) (pa_cons (pe_bltn (v := .ty "str") (by rfl) T.tstr (by decide +kernel) rfl) pa_nil))) (nomark _)) (pe_one (pe_cmpR op_eq (pv 0) (pv 1) (nomark _))))))))), ?_⟩
    rcases lk with ⟨rfl, (rfl | ⟨b, rfl⟩ | ⟨i, rfl⟩ | ⟨x, rfl⟩)⟩ | ⟨a, b, xs, ys, rfl, rfl, hh, l1, l2, like⟩
    · refine ⟨_, rfl, rfl, _, rfl, iteT ?_⟩
      exact ⟨_, rfl, rfl, _, rfl, iteT ⟨_, rfl, rfl, kk _ (Same.refl _)⟩⟩
    · refine ⟨_, rfl, rfl, _, rfl, iteF ⟨_, rfl, rfl, _, rfl, iteF ?_⟩⟩
      refine ⟨_, rfl, _, _, _, _, true, rfl, .ty "bool", .base (.bl _), kit_ty (by decide +kernel), _, rfl, iteT ?_⟩
      refine ⟨_, rfl, _, _, _, _, true, rfl, .ty "bool", .base (.bl _), kit_ty (by decide +kernel), _, rfl, iteT ⟨_, rfl, _, _, _, _, true, rfl, .ty "bool", .base (.bl _), kit_ty (by decide +kernel), _, rfl, iteT ⟨_, rfl, _, rfl, rfl, ?_⟩⟩⟩
      rw [decide_eq_true rfl]
      exact kk _ (Same.refl _)
    · refine ⟨_, rfl, rfl, _, rfl, iteF ⟨_, rfl, rfl, _, rfl, iteF ?_⟩⟩
      refine ⟨_, rfl, _, _, _, _, false, rfl, .ty "bool", .base (.int _), kit_ty (by decide +kernel), _, rfl, iteF ⟨_, rfl, _, _, _, _, false, rfl, .ty "bool", .base (.int _), kit_ty (by decide +kernel), _, rfl, iteF ?_⟩⟩
      refine ⟨_, rfl, (by show 2 ≤ sizeLine; decide), fun p hp => ⟨_, p, _, _, _, false, rfl, upd_same, lt_tup, .base (.int _), any_no (by decide +kernel) (by decide +kernel), _, rfl, iteF ⟨_, rfl, (by show 2 ≤ sizeLine; decide), fun p2 hp2 => ⟨_, p2, _, _, _, false, rfl, upd_same, lt_tup, .base (.int _), any_no (by decide +kernel) (by decide +kernel), _, rfl, iteF ?_⟩⟩⟩⟩
      have s2 := (Same.new (Same.new (Same.refl H) hp (o := .tup [V.ty "list", V.ty "tuple"])) hp2 (o := .tup [V.ty "list", V.ty "tuple"]))
      refine ⟨_, rfl, _, _, _, _, true, rfl, .ty "int", .base (.int _), kit_ty (by decide +kernel), _, rfl, _, _, _, _, true, rfl, .ty "int", .base (.int _), kit_ty (by decide +kernel), rfl, _, rfl, iteF ?_⟩
      refine ⟨_, rfl, _, _, _, _, false, rfl, .ty "str", .base (.int _), kit_ty (by decide +kernel), _, rfl, _, _, _, _, false, rfl, .ty "str", .base (.int _), kit_ty (by decide +kernel), rfl, _, rfl, iteT ⟨_, rfl, _, rfl, rfl, ?_⟩⟩
      rw [decide_eq_true rfl]
      exact kk _ s2
    · refine ⟨_, rfl, rfl, _, rfl, iteF ⟨_, rfl, rfl, _, rfl, iteF ?_⟩⟩
      refine ⟨_, rfl, _, _, _, _, false, rfl, .ty "bool", .base (.str _), kit_ty (by decide +kernel), _, rfl, iteF ⟨_, rfl, _, _, _, _, false, rfl, .ty "bool", .base (.str _), kit_ty (by decide +kernel), _, rfl, iteF ?_⟩⟩
      refine ⟨_, rfl, (by show 2 ≤ sizeLine; decide), fun p hp => ⟨_, p, _, _, _, false, rfl, upd_same, lt_tup, .base (.str _), any_no (by decide +kernel) (by decide +kernel), _, rfl, iteF ⟨_, rfl, (by show 2 ≤ sizeLine; decide), fun p2 hp2 => ⟨_, p2, _, _, _, false, rfl, upd_same, lt_tup, .base (.str _), any_no (by decide +kernel) (by decide +kernel), _, rfl, iteF ?_⟩⟩⟩⟩
      have s2 := (Same.new (Same.new (Same.refl H) hp (o := .tup [V.ty "list", V.ty "tuple"])) hp2 (o := .tup [V.ty "list", V.ty "tuple"]))
      refine ⟨_, rfl, _, _, _, _, false, rfl, .ty "int", .base (.str _), kit_ty (by decide +kernel), _, rfl, _, _, _, _, false, rfl, .ty "int", .base (.str _), kit_ty (by decide +kernel), rfl, _, rfl, iteF ?_⟩
      refine ⟨_, rfl, _, _, _, _, true, rfl, .ty "str", .base (.str _), kit_ty (by decide +kernel), _, rfl, _, _, _, _, true, rfl, .ty "str", .base (.str _), kit_ty (by decide +kernel), rfl, _, rfl, iteT ⟨_, rfl, _, rfl, rfl, ?_⟩⟩
      rw [decide_eq_true rfl]
      exact kk _ s2
    · refine ⟨_, rfl, rfl, _, rfl, iteF ⟨_, rfl, rfl, _, rfl, iteF ?_⟩⟩
      rcases hh with ⟨ha, hb⟩ | ⟨ha, hb⟩
      · refine ⟨_, rfl, _, _, _, _, false, rfl, .ty "bool", .base (.tup hb), kit_ty (by decide +kernel), _, rfl, iteF ⟨_, rfl, _, _, _, _, false, rfl, .ty "bool", .base (.tup ha), kit_ty (by decide +kernel), _, rfl, iteF ?_⟩⟩
        refine ⟨_, rfl, (by show 2 ≤ sizeLine; decide), fun p hp => ?_⟩
        have s1 := Same.new (Same.refl H) hp (o := .tup [V.ty "list", V.ty "tuple"])
        have ha1 := s1 _ _ ha
        have hb1 := s1 _ _ hb
        refine ⟨_, p, _, _, _, true, rfl, upd_same, lt_tup, .base (.tup hb1), any_tup, _, rfl, iteT ?_⟩
        refine ⟨_, rfl, _, _, _, _, false, rfl, .ty "list", .base (.tup hb1), kit_ty (by decide +kernel), _, rfl, _, _, _, _, false, rfl, .ty "list", .base (.tup ha1), kit_ty (by decide +kernel), rfl, _, rfl, iteF ?_⟩
        refine ⟨_, rfl, _, _, _, _, true, rfl, .ty "tuple", .base (.tup hb1), kit_ty (by decide +kernel), _, rfl, _, _, _, _, true, rfl, .ty "tuple", .base (.tup ha1), kit_ty (by decide +kernel), rfl, _, rfl, iteF ⟨_, rfl, _, _, rfl, .inr ⟨_, .of ha1, rfl⟩, _, rfl, _, _, rfl, .inr ⟨_, .of hb1, rfl⟩, ?_⟩⟩
        refine ⟨rfl, _, rfl, ?_⟩
        rw [l1, decide_eq_true rfl]
        refine iteF ?_
        refine ⟨_, rfl, _, rfl, a, b, xs, ys, rfl, .inr ⟨SqT.of ha1, SqT.of hb1, fun D hD => ?_⟩⟩
        refine lc_it (walk_zipT (n := ys.length) (by rw [l1, Nat.min_self])) (fun i H' => Same (upd H p (.tup [V.ty "list", V.ty "tuple"])) H' ∧ H' D = some (.lst ((List.replicate i true).map V.bl))) ⟨Same.new (Same.refl _) hD, upd_same⟩ (fun i H' _ z => ⟨SqT.of (z.1 _ _ ha1), SqT.of (z.1 _ _ hb1)⟩) ?_ ?_
        · rintro i x H2 H3 hi ⟨t2, d2⟩ ⟨T1, y, z, rfl, nT, rfl, hy, hz⟩
          have t3 := Same.new t2 nT (o := .tup [y, z])
          refine ⟨T1, _, rfl, SqT.of upd_same, rfl, y, _, rfl, z, _, rfl, rfl, rfl, ?_⟩
          refine ⟨_, rfl, _, rfl, y, z, rfl, Like.mono (s1.trans t3) (like i y z hy hz), fun H4 s4 => ?_⟩
          have d4 : H4 D = some (.lst ((List.replicate i true).map V.bl)) := s4 _ _ (by rw [upd_ne (ne_of_none d2 nT)]; exact d2)
          refine ⟨_, d4, ?_, fun c o e => ?_, ?_⟩
          · rw [List.length_map, List.length_replicate]
            exact small1000 (by omega)
          · have q := s4 _ _ (t3 c o e)
            rw [upd_ne (ne_of_none e hD)]
            exact q
          · rw [upd_same, List.replicate_succ', List.map_append]
            rfl
        · rintro H2 ⟨t2, d2⟩
          refine ⟨D, _, rfl, .of d2, ?_⟩
          rw [all_true]
          exact kk _ (s1.trans t2)

      · refine ⟨_, rfl, _, _, _, _, false, rfl, .ty "bool", .base (.lst hb), kit_ty (by decide +kernel), _, rfl, iteF ⟨_, rfl, _, _, _, _, false, rfl, .ty "bool", .base (.lst ha), kit_ty (by decide +kernel), _, rfl, iteF ?_⟩⟩
        refine ⟨_, rfl, (by show 2 ≤ sizeLine; decide), fun p hp => ?_⟩
        have s1 := Same.new (Same.refl H) hp (o := .tup [V.ty "list", V.ty "tuple"])
        have ha1 := s1 _ _ ha
        have hb1 := s1 _ _ hb
        refine ⟨_, p, _, _, _, true, rfl, upd_same, lt_tup, .base (.lst hb1), any_lst, _, rfl, iteT ?_⟩
        refine ⟨_, rfl, _, _, _, _, true, rfl, .ty "list", .base (.lst hb1), kit_ty (by decide +kernel), _, rfl, _, _, _, _, true, rfl, .ty "list", .base (.lst ha1), kit_ty (by decide +kernel), rfl, _, rfl, iteF ?_⟩
        refine ⟨_, rfl, _, _, _, _, false, rfl, .ty "tuple", .base (.lst hb1), kit_ty (by decide +kernel), _, rfl, _, _, _, _, false, rfl, .ty "tuple", .base (.lst ha1), kit_ty (by decide +kernel), rfl, _, rfl, iteF ⟨_, rfl, _, _, rfl, .inl ⟨_, .of ha1, rfl⟩, _, rfl, _, _, rfl, .inl ⟨_, .of hb1, rfl⟩, ?_⟩⟩
        refine ⟨rfl, _, rfl, ?_⟩
        rw [l1, decide_eq_true rfl]
        refine iteF ?_
        refine ⟨_, rfl, _, rfl, a, b, xs, ys, rfl, .inl ⟨SqL.of ha1, SqL.of hb1, fun D hD => ?_⟩⟩
        refine lc_it (walk_zip (n := ys.length) (by rw [l1, Nat.min_self])) (fun i H' => Same (upd H p (.tup [V.ty "list", V.ty "tuple"])) H' ∧ H' D = some (.lst ((List.replicate i true).map V.bl))) ⟨Same.new (Same.refl _) hD, upd_same⟩ (fun i H' _ z => ⟨SqL.of (z.1 _ _ ha1), SqL.of (z.1 _ _ hb1)⟩) ?_ ?_
        · rintro i x H2 H3 hi ⟨t2, d2⟩ ⟨T1, y, z, rfl, nT, rfl, hy, hz⟩
          have t3 := Same.new t2 nT (o := .tup [y, z])
          refine ⟨T1, _, rfl, SqT.of upd_same, rfl, y, _, rfl, z, _, rfl, rfl, rfl, ?_⟩
          refine ⟨_, rfl, _, rfl, y, z, rfl, Like.mono (s1.trans t3) (like i y z hy hz), fun H4 s4 => ?_⟩
          have d4 : H4 D = some (.lst ((List.replicate i true).map V.bl)) := s4 _ _ (by rw [upd_ne (ne_of_none d2 nT)]; exact d2)
          refine ⟨_, d4, ?_, fun c o e => ?_, ?_⟩
          · rw [List.length_map, List.length_replicate]
            exact small1000 (by omega)
          · have q := s4 _ _ (t3 c o e)
            rw [upd_ne (ne_of_none e hD)]
            exact q
          · rw [upd_same, List.replicate_succ', List.map_append]
            rfl
        · rintro H2 ⟨t2, d2⟩
          refine ⟨D, _, rfl, .of d2, ?_⟩
          rw [all_true]
          exact kk _ (s1.trans t2)

end
end K08

set_option Elab.async false
set_option linter.all false
set_option maxRecDepth 100000
set_option maxHeartbeats 4000000
namespace K08
open PySem PySem.Spec PyProof.Rows L2 Ux
abbrev sIsInt : Stmt := top 18
abbrev sIsNum : Stmt := top 19
abbrev sRatioOf : Stmt := top 20
abbrev sIntText : Stmt := top 23
abbrev sRatText : Stmt := top 24
abbrev sRInit : Stmt := inClass (top 25) 0
abbrev sREq : Stmt := inClass (top 25) 12
abbrev sRStr : Stmt := inClass (top 25) 13
/-- the class Ratio -/
structure RT (K : PySem.W.Frag) (mg : Str → Option Value) (CR : Addr) : Prop where
  cl : Cls K CR
  nT : NoAttr K CR "top"
  nB : NoAttr K CR "bottom"
  gl : mg "Ratio" = some (.ref CR)
  ha : PySem.W.findIn K (.ref CR) "__class__" = some (some (.builtin "object.__class__"))
  hn : PySem.W.specialIn K (.builtin "object.__class__") "__get__" = some (some (.builtin "getset_descriptor.__get__"))
  ht : PySem.W.takesIn K (.builtin "object.__class__") = some true
  hm : PySem.W.mroIn K CR (.type "object") = some true
  kR : PySem.W.kitOne K (.ref CR) (.ref CR) = some true
  kI : PySem.W.kitOne K (.type "int") (.ref CR) = some false
  kN : PySem.W.kitOne K (.type "NoneType") (.ref CR) = some false
/-- the fields of a Ratio -/
def rf (t b : Int) : List (Str × V) := putF "bottom" (.int b) (putF "top" (.int t) [])
theorem ntb : ¬ (("top" : Str) = "bottom") := by decide +kernel
theorem rf_top (t b : Int) : (rf t b).lookup ("top" : Str) = some (.int t) := by
  unfold rf
  rw [lookup_putF, if_neg ntb, lookup_putF, if_pos rfl]
theorem rf_bot (t b : Int) : (rf t b).lookup ("bottom" : Str) = some (.int b) := by
  unfold rf
  rw [lookup_putF, if_pos rfl]
def RatAt (CR : Addr) (H : Hp) (a : Addr) (t b : Int) : Prop := ∃ dx, H a = some (.ins CR dx (rf t b))
theorem RatAt.same {CR : Addr} {H H' : Hp} {a : Addr} {t b : Int} (h : RatAt CR H a t b) (s : Same H H') : RatAt CR H' a t b := by
  obtain ⟨dx, h⟩ := h
  exact ⟨dx, s _ _ h⟩
theorem RatAt.ty {K : PySem.W.Frag} {mg : Str → Option Value} {CR : Addr} {H : Hp} {a : Addr} {t b : Int} (T : RT K mg CR) (h : RatAt CR H a t b) : TyX K H (.ref a) (.ref CR) := by
  obtain ⟨dx, h⟩ := h
  exact .base (.ins h T.cl T.ha T.hn T.ht T.hm)
theorem same_upd {H : Hp} {a : Addr} {o : HO} (ha : H a = none) : Same H (upd H a o) := fun x u e => by
  rw [upd_ne (ne_of_none e ha)]
  exact e
/-! ### is_integer, is_number -/
def spIsInt (K : PySem.W.Frag) : Sp := fun vs H Q _ => ∃ (v : V) (t : Value) (b1 b2 : Bool), vs = [v] ∧ TyX K H v t ∧ PySem.W.kitOne K t (.type "int") = some b1 ∧ PySem.W.kitOne K t (.type "bool") = some b2 ∧ Q (.bl (b1 && !b2)) H
def spIsNum (K : PySem.W.Frag) (CR : Addr) : Sp := fun vs H Q _ => ∃ v, vs = [v] ∧ ((∃ a t b, v = .ref a ∧ RatAt CR H a t b) ∨ ∃ i, v = .int i) ∧ Q (.bl true) H
def spRInit (CR : Addr) : Sp := fun vs H Q _ => ∃ (p dx : Addr) (t b : Int), vs = [.ref p, .int t, .int b] ∧ H p = some (.ins CR dx []) ∧ 0 < b ∧ b < 1073741824 ∧
  ∀ H', H' p = some (.ins CR dx (rf (t / (Nat.gcd t.natAbs b.natAbs : Nat)) (b / (Nat.gcd t.natAbs b.natAbs : Nat)))) → But p H H' → Q .non H'
def spRatioOf (CR : Addr) : Sp := fun vs H Q _ => (∃ a t b, vs = [.ref a] ∧ RatAt CR H a t b ∧ Q (.ref a) H) ∨ ∃ i : Int, vs = [.int i] ∧ ∀ (p : Addr) (H' : Hp), RatAt CR H' p i 1 → Same H H' → H p = none → Q (.ref p) H'
section
variable {P : Program} {w : World} {K : PySem.W.Frag} {mg : Str → Option Value} {base : Heap} {CR : Addr}
theorem scIsInt : FnScope ["value"] ["value"] (defScope sIsInt) := ⟨rfl, rfl, rfl, by decide +kernel, rfl, by decide +kernel, by decide +kernel⟩
theorem ok_isInt {f : Addr} {fd : FuncData} (F : Fun K "is_integer" "is_integer" sIsInt f fd) (B : Bn mg) : FnOk P w K mg base CX0 1 f fd ["value"] (spIsInt K) := by
  refine F.ok scIsInt (fun vs H Q E h => ?_) (fun cdv A outer s H vs Q E hr h => ?_)
  · obtain ⟨v, t, b1, b2, rfl, _⟩ := h
    rfl
  · obtain ⟨v, t, b1, b2, rfl, ty, k1, k2, q⟩ := h
    refine ⟨_, pss_one (ps_ret (pe_and (pe_callB call_isi (by rfl) B.isin (by decide +kernel) (pa_cons (pv 0) (pa_cons (pe_bltn (v := .ty "int") (by rfl) B.tint (by decide +kernel) rfl) pa_nil)))
      (pe_one (pe_not (pe_callB call_isi (by rfl) B.isin (by decide +kernel) (pa_cons (pv 0) (pa_cons (pe_bltn (v := .ty "bool") (by rfl) B.tbool (by decide +kernel) rfl) pa_nil))))))), ?_⟩
    refine ⟨_, rfl, _, _, _, _, b1, rfl, .ty "int", ty, k1, b1, rfl, ?_⟩
    cases b1 with
    | false => exact iteF q
    | true => exact iteT ⟨_, rfl, _, _, _, _, b2, rfl, .ty "bool", ty, k2, b2, rfl, q⟩
theorem scIsNum : FnScope ["value"] ["value"] (defScope sIsNum) := ⟨rfl, rfl, rfl, by decide +kernel, rfl, by decide +kernel, by decide +kernel⟩
theorem ok_isNum {f fI : Addr} {fd fdI : FuncData} (F : Fun K "is_number" "is_number" sIsNum f fd) (B : Bn mg) (T : RT K mg CR) (D : Dn K mg "is_integer" fI) (G : FnOk P w K mg base CX0 1 fI fdI ["value"] (spIsInt K)) (bI : Binds K fdI ["value"] []) : FnOk P w K mg base CX0 2 f fd ["value"] (spIsNum K CR) := by
  refine F.ok scIsNum (fun vs H Q E h => ?_) (fun cdv A outer s H vs Q E hr h => ?_)
  · obtain ⟨v, rfl, _⟩ := h
    rfl
  · obtain ⟨v, rfl, hv, q⟩ := h
    refine ⟨_, pss_one (ps_ret (pe_or (pe_callB call_isi (by rfl) B.isin (by decide +kernel) (pa_cons (pv 0) (pa_cons (pe_glob (v := .ref CR) (by rfl) T.gl rfl) pa_nil))) (pe_one (pe_call G hr (by rfl) D.gl D.kp bI .nil pass0 (pa_cons (pv 0) pa_nil))))), ?_⟩
    rcases hv with ⟨a, t, b, rfl, ra⟩ | ⟨i, rfl⟩
    · exact ⟨_, rfl, _, _, _, _, true, rfl, .own _, ra.ty T, T.kR, true, rfl, iteT q⟩
    · refine ⟨_, rfl, _, _, _, _, false, rfl, .own _, .base (.int _), T.kI, false, rfl, iteF ?_⟩
      exact ⟨_, rfl, _, _, true, false, rfl, .base (.int _), kit_ty (by decide +kernel), kit_ty (by decide +kernel), q⟩
theorem scRInit : FnScope ["self", "top", "bottom", "common"] ["self", "top", "bottom"] (defScope sRInit) := ⟨rfl, rfl, rfl, by decide +kernel, rfl, by decide +kernel, by decide +kernel⟩
theorem ok_rinit {f fI : Addr} {fd fdI : FuncData} {dvs : List V} (F : FunD K "__init__" "Ratio.__init__" (defArgs sRInit) (defBody sRInit) (defScope sRInit) dvs [] f fd) (T : RT K mg CR) (gcd : mg "gcd" = some (.builtin "math.gcd")) (D : Dn K mg "is_integer" fI) (G : FnOk P w K mg base CX0 1 fI fdI ["value"] (spIsInt K)) (bI : Binds K fdI ["value"] []) :
    FnOk P w K mg base CX0 2 f fd ["self", "top", "bottom"] (spRInit CR) := by
  refine F.ok scRInit (fun vs H Q E h => ?_) (fun cdv A outer s H vs Q E hr h => ?_)
  · obtain ⟨p, dx, t, b, rfl, _⟩ := h
    rfl
  · obtain ⟨p, dx, t, b, rfl, hp, b0, b1, q⟩ := h
    refine ⟨_, pss_cons (ps_if (pt_not (pt_val (pe_call G hr (by rfl) D.gl D.kp bI .nil pass0 (pa_cons (pv 1) pa_nil)))) (pss_one ps_never) pss_nil)
      (pss_cons (ps_if (PW.pt (pw_or (pt_not (pt_val (pe_call G hr (by rfl) D.gl D.kp bI .nil pass0 (pa_cons (pv 2) pa_nil)))) (pw_or1 (pt_cmpR op_eq (pv 2) pe_int (nomark _))))) (pss_one ps_never) pss_nil)
      (pss_cons (ps_set (i := 3) scRInit.nd rfl (Or.inl rfl) (pe_callBfun cr_gcd (by rfl) gcd (pa_cons (pv 1) (pa_cons (pv 2) pa_nil))))
      (pss_cons (ps_if (pt_cmpR op_lt (pv 2) pe_int (nomark _)) (pss_one ps_never) pss_nil)
      (pss_cons (ps_fld (pv 0) (pe_op op_fdivN (pv 1) (pv 3)) rfl)
      (pss_one (ps_fld (pv 0) (pe_op op_fdivN (pv 2) (pv 3)) rfl)))))), ?_⟩
    refine ⟨_, rfl, _, _, true, false, rfl, .base (.int _), kit_ty (by decide +kernel), kit_ty (by decide +kernel), _, rfl, iteF ?_⟩
    refine ⟨_, rfl, _, _, true, false, rfl, .base (.int _), kit_ty (by decide +kernel), kit_ty (by decide +kernel), _, rfl, iteF ?_⟩
    have nb : ¬ (V.int b) = V.int 0 := fun z => by
      have := V.int.inj z
      omega
    refine ⟨_, rfl, rfl, _, rfl, ?_⟩
    rw [decide_eq_false nb]
    refine iteF ?_
    refine ⟨_, rfl, _, rfl, t, b, rfl, ?_⟩
    have nlt : ¬ b < 0 := by omega
    refine ⟨_, rfl, _, _, rfl, rfl, _, rfl, ?_⟩
    rw [decide_eq_false nlt]
    refine iteF ?_
    have g0 : 0 < Nat.gcd t.natAbs b.natAbs := Nat.gcd_pos_of_pos_right _ (by omega)
    have g1 : Nat.gcd t.natAbs b.natAbs ≤ b.natAbs := Nat.le_of_dvd (by omega) (Nat.gcd_dvd_right _ _)
    generalize hgg : Nat.gcd t.natAbs b.natAbs = g at *
    refine ⟨_, rfl, _, rfl, _, _, rfl, rfl, ⟨by omega, by omega⟩, _, rfl, p, CR, dx, [], rfl, hp, T.cl, T.nT, (by show 0 < 1000; decide), ?_⟩
    refine ⟨_, rfl, _, rfl, _, _, rfl, rfl, ⟨by omega, by omega⟩, _, rfl, p, CR, dx, _, rfl, upd_same, T.cl, T.nB, (by show 1 < 1000; decide), ?_⟩
    refine q _ ?_ ((But.refl.upd).upd)
    rw [upd_same]
    show some (HO.ins CR dx (putF ("bottom" : Str) (V.int (b.fdiv (g : Int))) (putF ("top" : Str) (V.int (t.fdiv (g : Int))) []))) = _
    rw [Int.fdiv_eq_ediv_of_nonneg t (by omega), Int.fdiv_eq_ediv_of_nonneg b (by omega)]
    rfl
theorem scRatioOf : FnScope ["number"] ["number"] (defScope sRatioOf) := ⟨rfl, rfl, rfl, by decide +kernel, rfl, by decide +kernel, by decide +kernel⟩
theorem ok_ratioOf {f fN : Addr} {fd fdN : FuncData} {ds : List Value} (F : Fun K "ratio_of" "ratio_of" sRatioOf f fd) (B : Bn mg) (T : RT K mg CR) (M : Mk K CR fN) (G : FnOk P w K mg base CX0 2 fN fdN ["self", "top", "bottom"] (spRInit CR)) (vD : Vals [V.int 1] ds) (bN : Binds K fdN ["self", "top", "bottom"] ds) :
    FnOk P w K mg base CX0 4 f fd ["number"] (spRatioOf CR) := by
  refine F.ok scRatioOf (fun vs H Q E h => ?_) (fun cdv A outer s H vs Q E hr h => ?_)
  · rcases h with ⟨a, t, b, rfl, _⟩ | ⟨i, rfl, _⟩ <;> rfl
  · refine ⟨_, pss_cons (ps_if (pt_val (pe_callB call_isi (by rfl) B.isin (by decide +kernel) (pa_cons (pv 0) (pa_cons (pe_glob (v := .ref CR) (by rfl) T.gl rfl) pa_nil)))) (pss_one (ps_ret (pv 0))) pss_nil)
      (pss_one (ps_ret (pe_make M G hr (by rfl) T.gl bN vD pass0 (pa_cons (pv 0) pa_nil)))), ?_⟩
    rcases h with ⟨a, t, b, rfl, ra, q⟩ | ⟨i, rfl, q⟩
    · refine ⟨_, rfl, _, _, _, _, true, rfl, .own _, ra.ty T, T.kR, true, rfl, iteT ?_⟩
      exact ⟨_, rfl, q⟩
    · refine ⟨_, rfl, _, _, _, _, false, rfl, .own _, .base (.int _), T.kI, false, rfl, iteF ?_⟩
      refine ⟨_, rfl, fun x dx nx nd ne => ?_⟩
      refine ⟨x, dx, i, 1, rfl, upd_same, by decide, by decide, fun H' hx bu => ⟨rfl, ?_⟩⟩
      have g1 : Nat.gcd i.natAbs (1 : Int).natAbs = 1 := Nat.gcd_one_right _
      rw [g1] at hx
      refine q x H' ⟨dx, ?_⟩ (fun c o e => bu c o ?_ (ne_of_none e nx)) nx
      · rw [hx]
        show some (HO.ins CR dx (rf (i / 1) (1 / 1))) = _
        rw [Int.ediv_one]
        rfl
      · rw [upd_ne (ne_of_none e nx), upd_ne (ne_of_none e nd)]
        exact e
end
end K08

set_option Elab.async false
set_option linter.all false
set_option maxRecDepth 100000
set_option maxHeartbeats 4000000
namespace K08
open PySem PySem.Spec PyProof.Rows L2 Ux
/-! ### the texts of small Ratios -/
/-- a text of one number over another -/
def ctext (t b : Int) : Str := if b = 1 then (toString t : Str) else (toString t : Str) ++ "/" ++ (toString b : Str)
def spIntText : Sp := fun vs H Q _ => ∃ n : Int, vs = [.int n] ∧ -100 ≤ n ∧ n ≤ 100 ∧ ∀ H', Same H H' → Q (.str (toString n)) H'
def spRatText (CR : Addr) : Sp := fun vs H Q _ => ∃ (a : Addr) (t b : Int), vs = [.ref a] ∧ RatAt CR H a t b ∧ -100 ≤ t ∧ t ≤ 100 ∧ 0 < b ∧ b ≤ 100 ∧ ∀ H', Same H H' → Q (.str (ctext t b)) H'
def spREq (CR : Addr) : Sp := fun vs H Q _ => ∃ (a : Addr) (t b i : Int), vs = [.ref a, .int i] ∧ RatAt CR H a t b ∧ Q (.bl (decide (b = 1) && decide (t = i))) H
def smalls : List Int := (List.range 201).map fun (n : Nat) => (n : Int) - 100
theorem smalls_in {n : Int} (h0 : -100 ≤ n) (h1 : n ≤ 100) : n ∈ smalls := by
  unfold smalls
  rw [List.mem_map]
  exact ⟨(n + 100).toNat, List.mem_range.mpr (by omega), by omega⟩
theorem text_pos : ∀ n ∈ smalls, 0 ≤ n → Txt.join "" [(toString (if n < 0 then -n else n) : Str)] = (toString n : Str) := by decide +kernel
theorem text_neg : ∀ n ∈ smalls, n < 0 → Txt.join "" [("-" : Str), (toString (if n < 0 then -n else n) : Str)] = (toString n : Str) := by decide +kernel
theorem text_len {n : Int} (h0 : -100 ≤ n) (h1 : n ≤ 100) : (toString n : Str).length ≤ 12 := by
  show (Str.ofString (toString n)).length ≤ 12
  have q := int_text_length_le10 (a := n) (k := 10) (by decide) (by
    have : n.natAbs ≤ 100 := by omega
    have e : (10 : Nat) ^ 10 = 10000000000 := by decide
    omega)
  rw [PySem.ofString_length]
  omega
theorem log2_100 {n : Int} (h0 : -100 ≤ n) (h1 : n ≤ 100) : n.natAbs.log2 < 1920 := by
  by_cases z : n.natAbs = 0
  · rw [z]
    decide
  · have q := Nat.log2_self_le z
    have : n.natAbs.log2 < 10 := by
      refine Nat.lt_of_not_le fun c => ?_
      have q2 : 2 ^ 10 ≤ 2 ^ n.natAbs.log2 := Nat.pow_le_pow_right (by decide) c
      omega
    omega
theorem app_len {x y : Str} {m n : Nat} (h : x.length ≤ m) (k : y.length ≤ n) : (x ++ y).length ≤ m + n := by
  rw [PySem.Str.length_append]
  omega
theorem fit {n m : Nat} (h : n ≤ m) (k : m ≤ 100000) : n ≤ sizeLine := by
  rw [sizeLine_eq]
  omega
theorem ctext_len {t b : Int} (h0 : -100 ≤ t) (h1 : t ≤ 100) (b0 : 0 < b) (b1 : b ≤ 100) : (ctext t b).length ≤ 30 := by
  unfold ctext
  split
  · exact Nat.le_trans (text_len h0 h1) (by decide)
  · exact Nat.le_trans (app_len (app_len (text_len h0 h1) (show (Str.ofString "/").length ≤ 1 by decide)) (text_len (by omega) b1)) (by decide)
theorem empty_app (x : Str) : Str.empty ++ x = x := by
  show Str.mk (#[] ++ x.cps) = x
  rw [Array.empty_append]
section
variable {P : Program} {w : World} {K : PySem.W.Frag} {mg : Str → Option Value} {base : Heap} {CR : Addr}
theorem scIntText : FnScope ["number", "pieces", "rest", "low"] ["number"] (defScope sIntText) := ⟨rfl, rfl, rfl, by decide +kernel, rfl, by decide +kernel, by decide +kernel⟩
theorem ok_intText {f : Addr} {fd : FuncData} (F : Fun K "integer_text" "integer_text" sIntText f fd) (B : Bn mg) (cb : ∃ t, mg "CHUNK_BASE" = some (.int 1000000000000000000000000000000000000000000000000000000000000 t)) : FnOk P w K mg base CX0 1 f fd ["number"] spIntText := by
  refine F.ok scIntText (fun vs H Q E h => ?_) (fun cdv A outer s H vs Q E hr h => ?_)
  · obtain ⟨n, rfl, _⟩ := h
    rfl
  · obtain ⟨n, rfl, h0, h1, q⟩ := h
    obtain ⟨ct, cb⟩ := cb
    refine ⟨_, pss_cons (ps_set (i := 1) scIntText.nd rfl (Or.inl rfl) (pe_lst pa_nil))
      (pss_cons (ps_set (i := 2) scIntText.nd rfl (Or.inl rfl) (pe_callB call_abs (by rfl) B.fabs (by decide +kernel) (pa_cons (pv 0) pa_nil)))
      (pss_cons (ps_while PassesOwn.never (pt_cmpR op_ge (pv 2) (pe_glob (v := .int 1000000000000000000000000000000000000000000000000000000000000) (by rfl) cb ⟨_, rfl⟩) (nomark _)) pss_never)
      (pss_cons (ps_expr (pe_bm PySem.F.plainAttrs_list PySem.F.slot_list_append PySem.F.type_list_append mt_append (pv 1) (pa_cons (pe_callTy call_str_int (by rfl) B.tstr (by decide +kernel) (pa_cons (pv 2) pa_nil)) pa_nil)))
      (pss_cons (ps_if (pt_cmpR op_lt (pv 0) pe_int (nomark _)) (pss_one (ps_expr (pe_bm PySem.F.plainAttrs_list PySem.F.slot_list_append PySem.F.type_list_append mt_append (pv 1) (pa_cons pe_str pa_nil)))) pss_nil)
      (pss_one (ps_ret (pe_join pe_str (pe_revL (pv 1))))))))), ?_⟩
    refine ⟨(by show 0 ≤ sizeLine; decide), fun p hp => ?_⟩
    refine ⟨_, rfl, _, rfl, ?_⟩
    refine while_by (fun σ H' => σ = [some (.int n), some (.ref p), some (.int (if n < 0 then -n else n)), none] ∧ H' = upd H p (.lst [])) (fun _ _ => 0) ⟨rfl, rfl⟩ ?_ ?_
    · rintro σ H' ⟨rfl, rfl⟩
      refine ⟨_, rfl, _, _, rfl, rfl, _, rfl, ?_⟩
      have nb : ¬ (1000000000000000000000000000000000000000000000000000000000000 : Int) ≤ (if n < 0 then -n else n) := by split <;> omega
      rw [decide_eq_false nb]
      refine iteF ?_
      have hp1 : upd H p (.lst []) p = some (.lst []) := upd_same
      have ab0 : -100 ≤ (if n < 0 then -n else n) := by split <;> omega
      have ab1 : (if n < 0 then -n else n) ≤ 100 := by split <;> omega
      refine ⟨_, rfl, .inl ⟨rfl, _, SqL.of hp1⟩, _, rfl, _, rfl, log2_100 ab0 ab1, p, _, _, rfl, rfl, hp1, (by show 0 < sizeLine; decide), ?_⟩
      have hp2 : upd (upd H p (.lst [])) p (.lst ([] ++ [V.str (toString (if n < 0 then -n else n))])) p = some (.lst [V.str (toString (if n < 0 then -n else n))]) := upd_same
      refine ⟨_, rfl, _, _, rfl, rfl, _, rfl, ?_⟩
      have sm : ∀ o, Same H (upd (upd H p (.lst [])) p o) := fun o => by
        rw [upd_upd]
        exact same_upd hp
      have tl := text_len ab0 ab1
      have ine := smalls_in h0 h1
      by_cases neg : n < 0
      · rw [decide_eq_true neg]
        refine iteT ⟨_, rfl, .inl ⟨rfl, _, SqL.of hp2⟩, p, _, _, rfl, rfl, hp2, (by show 1 < sizeLine; decide), ?_⟩
        refine ⟨⟨_, rfl⟩, _, rfl, p, _, rfl, .of upd_same, fun p2 hp3 => ?_⟩
        refine ⟨_, p2, [("-" : Str), (toString (if n < 0 then -n else n) : Str)], rfl, rfl, .inl (.of upd_same), ?_, ?_⟩
        · show ([("-" : Str).length, (toString (if n < 0 then -n else n) : Str).length]).sum + 2 * ("" : Str).length ≤ 16777216
          have e1 : ("-" : Str).length = 1 := by decide
          have e2 : ("" : Str).length = 0 := by decide
          simp only [List.sum_cons, List.sum_nil, e1, e2]
          omega
        · rw [text_neg n ine neg]
          refine q _ fun c o e => ?_
          have nc := ne_of_none e hp
          have e1 : (upd (upd (upd H p (.lst [])) p (.lst ([] ++ [V.str (toString (if n < 0 then -n else n))]))) p (.lst ([V.str (toString (if n < 0 then -n else n))] ++ [V.str "-"]))) c = some o := by
            rw [upd_ne nc, upd_ne nc, upd_ne nc]
            exact e
          rw [upd_ne (ne_of_none e1 hp3)]
          exact e1
      · rw [decide_eq_false neg]
        refine iteF ?_
        refine ⟨⟨_, rfl⟩, _, rfl, p, _, rfl, .of hp2, fun p2 hp3 => ?_⟩
        refine ⟨_, p2, [(toString (if n < 0 then -n else n) : Str)], rfl, rfl, .inl (.of upd_same), ?_, ?_⟩
        · show ([(toString (if n < 0 then -n else n) : Str).length]).sum + 1 * ("" : Str).length ≤ 16777216
          have e2 : ("" : Str).length = 0 := by decide
          simp only [List.sum_cons, List.sum_nil, e2]
          omega
        · rw [text_pos n ine (by omega)]
          refine q _ fun c o e => ?_
          have nc := ne_of_none e hp
          have e1 : (upd (upd H p (.lst [])) p (.lst ([] ++ [V.str (toString (if n < 0 then -n else n))]))) c = some o := by
            rw [upd_ne nc, upd_ne nc]
            exact e
          rw [upd_ne (ne_of_none e1 hp3)]
          exact e1
    · rintro σ H' Q1 Q2 hq ⟨x, hx, i, j, e1, e2, k, e3, z⟩
      exact ⟨x, hx, i, j, e1, e2, k, e3, hq _ _ z⟩
theorem scRatText : FnScope ["ratio"] ["ratio"] (defScope sRatText) := ⟨rfl, rfl, rfl, by decide +kernel, rfl, by decide +kernel, by decide +kernel⟩
theorem ok_ratText {f fI : Addr} {fd fdI : FuncData} (F : Fun K "ratio_text" "ratio_text" sRatText f fd) (T : RT K mg CR) (D : Dn K mg "integer_text" fI) (G : FnOk P w K mg base CX0 1 fI fdI ["number"] spIntText) (bI : Binds K fdI ["number"] []) : FnOk P w K mg base CX0 2 f fd ["ratio"] (spRatText CR) := by
  refine F.ok scRatText (fun vs H Q E h => ?_) (fun cdv A outer s H vs Q E hr h => ?_)
  · obtain ⟨a, t, b, rfl, _⟩ := h
    rfl
  · obtain ⟨a, t, b, rfl, ra, t0, t1, b0, b1, q⟩ := h
    refine ⟨_, pss_cons (ps_if (pt_cmpR op_eq (pe_fld (pv 0) rfl) pe_int (nomark _)) (pss_one (ps_ret (pe_call G hr (by rfl) D.gl D.kp bI .nil pass0 (pa_cons (pe_fld (pv 0) rfl) pa_nil)))) pss_nil)
      (pss_one (ps_ret (pe_joined (PJ.cons (pe_fmt (pe_call G hr (by rfl) D.gl D.kp bI .nil pass0 (pa_cons (pe_fld (pv 0) rfl) pa_nil))) (PJ.cons pe_str (PJ.cons (pe_fmt (pe_call G hr (by rfl) D.gl D.kp bI .nil pass0 (pa_cons (pe_fld (pv 0) rfl) pa_nil))) PJ.nil)))))), ?_⟩
    obtain ⟨dx, ha⟩ := id ra
    refine ⟨_, rfl, a, CR, dx, _, _, rfl, ha, T.cl, T.nB, rf_bot t b, rfl, _, rfl, ?_⟩
    by_cases e1 : (V.int b) = V.int 1
    · rw [decide_eq_true e1]
      have eb : b = 1 := V.int.inj e1
      refine iteT ⟨_, rfl, a, CR, dx, _, _, rfl, ha, T.cl, T.nT, rf_top t b, t, rfl, t0, t1, fun H1 s1 => ?_⟩
      have z := q H1 s1
      unfold ctext at z
      rw [if_pos eb] at z
      exact z
    · rw [decide_eq_false e1]
      have nb : ¬ b = 1 := fun z => e1 (by rw [z])
      refine iteF ⟨_, rfl, a, CR, dx, _, _, rfl, ha, T.cl, T.nT, rf_top t b, t, rfl, t0, t1, fun H1 s1 => .inl ⟨_, rfl, fit (text_len t0 t1) (by decide), _, rfl, ?_, ?_⟩⟩
      · rw [empty_app]
        exact fit (text_len t0 t1) (by decide)
      · rw [empty_app]
        refine ⟨_, rfl, fit (app_len (text_len t0 t1) (show (Str.ofString "/").length ≤ 1 by decide)) (by decide), ?_⟩
        refine ⟨_, rfl, a, CR, dx, _, _, rfl, s1 _ _ ha, T.cl, T.nB, rf_bot t b, b, rfl, by omega, b1, fun H2 s2 => .inl ⟨_, rfl, fit (text_len (by omega) b1) (by decide), _, rfl, ?_, ?_⟩⟩
        · exact fit (app_len (app_len (text_len t0 t1) (show (Str.ofString "/").length ≤ 1 by decide)) (text_len (n := b) (by omega) b1)) (by decide)
        · have z := q H2 (s1.trans s2)
          unfold ctext at z
          rw [if_neg nb] at z
          exact z
theorem scRStr : FnScope ["self"] ["self"] (defScope sRStr) := ⟨rfl, rfl, rfl, by decide +kernel, rfl, by decide +kernel, by decide +kernel⟩
theorem ok_rstr {f fI : Addr} {fd fdI : FuncData} (F : Fun K "__str__" "Ratio.__str__" sRStr f fd) (D : Dn K mg "ratio_text" fI) (G : FnOk P w K mg base CX0 2 fI fdI ["ratio"] (spRatText CR)) (bI : Binds K fdI ["ratio"] []) : FnOk P w K mg base CX0 3 f fd ["self"] (spRatText CR) := by
  refine F.ok scRStr (fun vs H Q E h => ?_) (fun cdv A outer s H vs Q E hr h => ?_)
  · obtain ⟨a, t, b, rfl, _⟩ := h
    rfl
  · obtain ⟨a, t, b, rfl, ra, t0, t1, b0, b1, q⟩ := h
    refine ⟨_, pss_one (ps_ret (pe_joined1 (pe_fmt (pe_call G hr (by rfl) D.gl D.kp bI .nil pass0 (pa_cons (pv 0) pa_nil))))), ?_⟩
    exact ⟨_, rfl, a, t, b, rfl, ra, t0, t1, b0, b1, fun H1 s1 => .inl ⟨_, rfl, fit (ctext_len t0 t1 b0 b1) (by decide), q H1 s1⟩⟩
theorem scREq : FnScope ["self", "other"] ["self", "other"] (defScope sREq) := ⟨rfl, rfl, rfl, by decide +kernel, rfl, by decide +kernel, by decide +kernel⟩
theorem ok_req {f fI : Addr} {fd fdI : FuncData} (F : Fun K "__eq__" "Ratio.__eq__" sREq f fd) (B : Bn mg) (T : RT K mg CR) (D : Dn K mg "is_integer" fI) (G : FnOk P w K mg base CX0 1 fI fdI ["value"] (spIsInt K)) (bI : Binds K fdI ["value"] []) : FnOk P w K mg base CX0 2 f fd ["self", "other"] (spREq CR) := by
  refine F.ok scREq (fun vs H Q E h => ?_) (fun cdv A outer s H vs Q E hr h => ?_)
  · obtain ⟨a, t, b, i, rfl, _⟩ := h
    rfl
  · obtain ⟨a, t, b, i, rfl, ⟨dx, ha⟩, q⟩ := h
    refine ⟨_, pss_cons (ps_if (pt_val (pe_callB call_isi (by rfl) B.isin (by decide +kernel) (pa_cons (pv 1) (pa_cons (pe_glob (v := .ref CR) (by rfl) T.gl rfl) pa_nil)))) (pss_one ps_never) pss_nil)
      (pss_one (ps_ret (pe_and (pe_call G hr (by rfl) D.gl D.kp bI .nil pass0 (pa_cons (pv 1) pa_nil)) (pe_and (pe_cmpR op_eq (pe_fld (pv 0) rfl) pe_int (nomark _)) (pe_one (pe_cmpR op_eq (pe_fld (pv 0) rfl) (pv 1) (nomark _))))))), ?_⟩
    refine ⟨_, rfl, _, _, _, _, false, rfl, .own _, .base (.int _), T.kI, _, rfl, iteF ?_⟩
    refine ⟨_, rfl, _, _, true, false, rfl, .base (.int _), kit_ty (by decide +kernel), kit_ty (by decide +kernel), true, rfl, iteT ?_⟩
    refine ⟨_, rfl, a, CR, dx, _, _, rfl, ha, T.cl, T.nB, rf_bot t b, rfl, _, rfl, ?_⟩
    by_cases e1 : b = 1
    · rw [decide_eq_true (show V.int b = V.int 1 by rw [e1])]
      rw [decide_eq_true e1] at q
      refine iteT ⟨_, rfl, a, CR, dx, _, _, rfl, ha, T.cl, T.nT, rf_top t b, _, rfl, rfl, ?_⟩
      have e2 : decide (V.int t = V.int i) = decide (t = i) := by
        by_cases z : t = i
        · rw [decide_eq_true z, decide_eq_true (by rw [z])]
        · rw [decide_eq_false z, decide_eq_false (fun y => z (V.int.inj y))]
      rw [e2]
      exact q
    · rw [decide_eq_false (fun z => e1 (V.int.inj z) : ¬ V.int b = V.int 1)]
      rw [decide_eq_false e1] at q
      exact iteF q
end
end K08

set_option Elab.async false
set_option linter.all false
set_option maxRecDepth 100000
set_option maxHeartbeats 4000000
namespace K08
open PySem PySem.Spec PyProof.Rows L2 Ux
abbrev sIsName : Stmt := top 33
abbrev sChoice : Stmt := top 34
abbrev sWhole : Stmt := top 35
abbrev sMirror : Stmt := top 36
abbrev sCentre : Stmt := top 37
abbrev sDegree : Stmt := top 38
abbrev sSwap : Stmt := top 39
abbrev sCheck : Stmt := top 40
/-- the constants of the text -/
structure GC (K : PySem.W.Frag) (mg : Str → Option Value) (pK pM pS : Addr) : Prop where
  lt : ∃ t, mg "LETTERS" = some (.str "abcdefghijklmnopqrstuvwxyz" t)
  ml : ∃ t, mg "MOST_LETTERS" = some (.int 6 t)
  md : ∃ t, mg "MOST_DEGREE" = some (.int 3 t)
  gK : mg "KEPT_WORDS" = some (.ref pK)
  kK : ∀ H, SqT K H pK [.str "fn", .str "let", .str "slope"]
  gM : mg "MIRRORS" = some (.ref pM)
  kM : ∀ H, SqT K H pM [.str "even", .str "odd"]
  gS : mg "SWAPS" = some (.ref pS)
  kS : ∀ H, SqT K H pS [.str "same", .str "minus"]
def letters : List Nat := ("abcdefghijklmnopqrstuvwxyz" : Str).cps.toList
/-- whether a text is a name -/
def nameB (z : Str) : Bool := decide (1 ≤ z.length) && decide (z.length ≤ 6) && (z.cps.toList.all (fun c => decide (c ∈ letters)) && !inV (.str z) [.str "fn", .str "let", .str "slope"])
def spIsName (K : PySem.W.Frag) : Sp := fun vs H Q _ => (∃ z : Str, vs = [.str z] ∧ z.length ≤ 1000 ∧ ∀ H', Same H H' → Q (.bl (nameB z)) H') ∨ ∃ v t, vs = [v] ∧ TyX K H v t ∧ PySem.W.kitOne K t (.type "str") = some false ∧ Q (.bl false) H
def spChoice (K : PySem.W.Frag) : Sp := fun vs H Q _ => ∃ (z : Str) (p : Addr) (xs : List V), vs = [.str z, .ref p] ∧ SqT K H p xs ∧ xs.all flatV = true ∧ Q (.bl (inV (.str z) xs)) H
def spWhole : Sp := fun vs H Q _ => ∃ i lo hi : Int, vs = [.int i, .int lo, .int hi] ∧ Q (.bl (decide (lo ≤ i) && decide (i ≤ hi))) H
/-- facts -/
structure FT where
  ar : Int
  mi : Option Str
  t : Int
  b : Int
  dg : Option Int
  sw : Option Str
  deriving DecidableEq
def ov : Option Str → V
  | none => .non
  | some z => .str z
def oi : Option Int → V
  | none => .non
  | some i => .int i
/-- good facts -/
def FOk (f : FT) : Prop := -100 ≤ f.t ∧ f.t ≤ 100 ∧ 0 < f.b ∧ f.b ≤ 100 ∧
  ((f.ar = 2 ∧ f.mi = none ∧ f.dg = none ∧ (f.sw = none ∨ f.sw = some "same" ∨ f.sw = some "minus")) ∨ (f.ar = 1 ∧ f.sw = none ∧ (f.mi = none ∨ f.mi = some "even" ∨ f.mi = some "odd") ∧ (f.dg = none ∨ ∃ d, f.dg = some d ∧ 0 ≤ d ∧ d ≤ 3))) ∧ (f.mi = none → f.t = 0 ∧ f.b = 1)
/-- a centre as it is handed in -/
def CenV (CR : Addr) (H : Hp) (c : V) (t b : Int) : Prop := (∃ r, c = .ref r ∧ RatAt CR H r t b) ∨ (c = .int t ∧ b = 1)
def spMirror : Sp := fun vs H Q _ => ∃ f : FT, vs = [.int f.ar, ov f.mi] ∧ FOk f ∧ Q (.bl true) H
def spCentre (CR : Addr) : Sp := fun vs H Q _ => ∃ (f : FT) (c : V), vs = [ov f.mi, c] ∧ FOk f ∧ CenV CR H c f.t f.b ∧ Q (.bl true) H
def spDegree : Sp := fun vs H Q _ => ∃ f : FT, vs = [.int f.ar, oi f.dg] ∧ FOk f ∧ Q (.bl true) H
def spSwap : Sp := fun vs H Q _ => ∃ f : FT, vs = [.int f.ar, ov f.sw] ∧ FOk f ∧ Q (.bl true) H
def spCheck (CR : Addr) : Sp := fun vs H Q _ => ∃ (f : FT) (c : V), vs = [.int f.ar, ov f.mi, c, oi f.dg, ov f.sw] ∧ FOk f ∧ CenV CR H c f.t f.b ∧ Q .non H
theorem op_or {X : Cx} {f : Value → Value → Sem Value} {r1 r2 : R2} (h1 : OpR X f r1) (h2 : OpR X f r2) : OpR X f (fun x y H Q => r1 x y H Q ∨ r2 x y H Q) := by
  intro pins s σ H x y v u Q I rx ry h
  rcases h with h | h
  · exact h1 pins s σ H x y v u Q I rx ry h
  · exact h2 pins s σ H x y v u Q I rx ry h
section
variable {P : Program} {w : World} {K : PySem.W.Frag} {mg : Str → Option Value} {base : Heap} {CR pK pM pS : Addr}
theorem scIsName : FnScope ["value", "sign"] ["value"] (defScope sIsName) := ⟨rfl, rfl, rfl, by decide +kernel, rfl, by decide +kernel, by decide +kernel⟩
theorem ok_isName {f : Addr} {fd : FuncData} (F : Fun K "is_name" "is_name" sIsName f fd) (B : Bn mg) (C : GC K mg pK pM pS) : FnOk P w K mg base CX0 1 f fd ["value"] (spIsName K) := by
  refine F.ok scIsName (fun vs H Q E h => ?_) (fun cdv A outer s H vs Q E hr h => ?_)
  · rcases h with ⟨z, rfl, _⟩ | ⟨v, t, rfl, _⟩ <;> rfl
  · obtain ⟨t1, lt⟩ := C.lt
    obtain ⟨t2, ml⟩ := C.ml
    refine ⟨_, pss_cons (ps_if (PW.pt (pw_or (pt_not (pt_val (pe_callB call_isi (by rfl) B.isin (by decide +kernel) (pa_cons (pv 0) (pa_cons (pe_bltn (v := .ty "str") (by rfl) B.tstr (by decide +kernel) rfl) pa_nil)))))
          (pw_or1 (pt_not (pt_chain op_le op_le pe_int (pe_callB call_len (by rfl) B.flen (by decide +kernel) (pa_cons (pv 0) pa_nil)) (pe_glob (v := .int 6) (by rfl) ml ⟨_, rfl⟩)))))) (pss_one (ps_ret pe_bl)) pss_nil)
      (pss_one (ps_ret (pe_and (pe_callB (cr_all rfl) (by rfl) B.fall (by decide +kernel) (pa_cons (pe_lc (own := [("sign", 1)]) (g := gName 1) rfl scIsName.nd (pi_str (pv 0)) (blkOk_by (own := [("sign", 1)]) (N := ["value", "sign"]) (sc := defScope sIsName) (by decide +kernel))
          (fun _ _ _ _ _ => pg_name (i := 1) scIsName.nd rfl (Or.inl rfl) (hf := Or.inr rfl)) (fun _ _ _ _ _ => pts_nil) (fun _ _ _ _ _ => pe_cmpR op_in_sign (pv 1) (pe_glob (v := .str "abcdefghijklmnopqrstuvwxyz") (by rfl) lt ⟨_, rfl⟩) (by rfl))) pa_nil))
        (pe_one (pe_cmpR op_notIn_seq (pv 0) (pe_glob (v := .ref pK) (by rfl) C.gK rfl) (by rfl)))))), ?_⟩
    rcases h with ⟨z, rfl, lz, q⟩ | ⟨v, t, rfl, ty, ks, q⟩
    · refine ⟨_, rfl, _, _, _, _, true, rfl, .ty "str", .base (.str _), kit_ty (by decide +kernel), _, rfl, iteF ?_⟩
      refine ⟨_, rfl, _, _, rfl, ⟨fit lz (by decide), rfl⟩, _, _, rfl, rfl, _, rfl, ?_⟩
      by_cases h1 : (1 : Int) ≤ ((z.length : Nat) : Int)
      · rw [decide_eq_true h1]
        refine iteT ⟨_, _, rfl, rfl, _, rfl, ?_⟩
        by_cases h6 : ((z.length : Nat) : Int) ≤ 6
        · rw [decide_eq_true h6]
          refine iteF ?_
          refine ⟨_, rfl, z, rfl, fun D hD => ?_⟩
          refine lc_it walk_str (fun i H' => Same H H' ∧ H' D = some (.lst (((z.cps.toList.take i).map fun c => decide (c ∈ letters)).map V.bl))) ⟨same_upd hD, upd_same⟩ (fun _ _ _ _ => True.intro) ?_ ?_
          · rintro i x H2 H3 hi ⟨s2, d2⟩ ⟨rfl, c, hc, rfl⟩
            refine ⟨rfl, ?_⟩
            refine ⟨_, rfl, c, _, rfl, rfl, _, d2, ?_, fun a o e => ?_, ?_⟩
            · rw [List.length_map, List.length_map, List.length_take]
              have e0 : z.cps.toList.length = z.length := Array.length_toList
              exact small1000 (by omega)
            · rw [upd_ne (ne_of_none e hD)]
              exact s2 a o e
            · have hc' : z.cps.toList[i]? = some c := by
                rw [Array.getElem?_toList]
                exact hc
              have ht : z.cps.toList.take (i + 1) = z.cps.toList.take i ++ [c] := by
                rw [List.take_succ, hc']
                rfl
              rw [upd_same, ht, List.map_append, List.map_append]
              rfl
          · rintro H2 ⟨s2, d2⟩
            have et : z.cps.toList.take z.cps.size = z.cps.toList := by
              rw [← Array.length_toList, List.take_length]
            rw [et] at d2
            refine ⟨D, _, rfl, .of d2, _, rfl, ?_⟩
            have en : nameB z = (((z.cps.toList.map fun c => decide (c ∈ letters)).all id) && !inV (.str z) [.str "fn", .str "let", .str "slope"]) := by
              unfold nameB
              rw [decide_eq_true (by omega : 1 ≤ z.length), decide_eq_true (by omega : z.length ≤ 6), List.all_map]
              rfl
            have qq := q H2 s2
            rw [en] at qq
            cases ha : (z.cps.toList.map fun c => decide (c ∈ letters)).all id with
            | false =>
              rw [ha] at qq
              exact iteF qq
            | true =>
              rw [ha] at qq
              exact iteT ⟨_, rfl, pK, _, rfl, .inr (C.kK _), rfl, rfl, qq⟩
        · rw [decide_eq_false h6]
          refine iteT ?_
          have en : nameB z = false := by
            unfold nameB
            rw [decide_eq_false (by omega : ¬ z.length ≤ 6), Bool.and_false]
            rfl
          have qq := q H (Same.refl H)
          rw [en] at qq
          exact qq
      · rw [decide_eq_false h1]
        refine iteF ⟨_, rfl, iteT ?_⟩
        have en : nameB z = false := by
          unfold nameB
          rw [decide_eq_false (by omega : ¬ 1 ≤ z.length)]
          rfl
        have qq := q H (Same.refl H)
        rw [en] at qq
        exact qq
    · exact ⟨_, rfl, _, _, _, _, false, rfl, .ty "str", ty, ks, _, rfl, iteT q⟩
theorem scChoice : FnScope ["value", "words"] ["value", "words"] (defScope sChoice) := ⟨rfl, rfl, rfl, by decide +kernel, rfl, by decide +kernel, by decide +kernel⟩
theorem ok_choice {f : Addr} {fd : FuncData} (F : Fun K "is_choice" "is_choice" sChoice f fd) (B : Bn mg) : FnOk P w K mg base CX0 1 f fd ["value", "words"] (spChoice K) := by
  refine F.ok scChoice (fun vs H Q E h => ?_) (fun cdv A outer s H vs Q E hr h => ?_)
  · obtain ⟨z, p, xs, rfl, _⟩ := h
    rfl
  · obtain ⟨z, p, xs, rfl, hs, fl, q⟩ := h
    refine ⟨_, pss_one (ps_ret (pe_and (pe_callB call_isi (by rfl) B.isin (by decide +kernel) (pa_cons (pv 0) (pa_cons (pe_bltn (v := .ty "str") (by rfl) B.tstr (by decide +kernel) rfl) pa_nil))) (pe_one (pe_cmpR op_in_seq (pv 0) (pv 1) (by rfl))))), ?_⟩
    exact ⟨_, rfl, _, _, _, _, true, rfl, .ty "str", .base (.str _), kit_ty (by decide +kernel), true, rfl, iteT ⟨_, rfl, _, rfl, p, xs, rfl, .inr hs, rfl, fl, q⟩⟩
theorem scWhole : FnScope ["value", "low", "high"] ["value", "low", "high"] (defScope sWhole) := ⟨rfl, rfl, rfl, by decide +kernel, rfl, by decide +kernel, by decide +kernel⟩
theorem ok_whole {f fI : Addr} {fd fdI : FuncData} (F : Fun K "is_whole_within" "is_whole_within" sWhole f fd) (D : Dn K mg "is_integer" fI) (G : FnOk P w K mg base CX0 1 fI fdI ["value"] (spIsInt K)) (bI : Binds K fdI ["value"] []) : FnOk P w K mg base CX0 2 f fd ["value", "low", "high"] spWhole := by
  refine F.ok scWhole (fun vs H Q E h => ?_) (fun cdv A outer s H vs Q E hr h => ?_)
  · obtain ⟨i, lo, hi, rfl, _⟩ := h
    rfl
  · obtain ⟨i, lo, hi, rfl, q⟩ := h
    refine ⟨_, pss_one (ps_ret (pe_and (pe_call G hr (by rfl) D.gl D.kp bI .nil pass0 (pa_cons (pv 0) pa_nil)) (pe_one (pe_chain op_le op_le (pv 1) (pv 0) (pv 2))))), ?_⟩
    refine ⟨_, rfl, _, _, true, false, rfl, .base (.int _), kit_ty (by decide +kernel), kit_ty (by decide +kernel), true, rfl, iteT ?_⟩
    refine ⟨_, rfl, _, rfl, _, _, rfl, rfl, _, rfl, ?_⟩
    cases hlo : decide (lo ≤ i) with
    | true =>
      rw [hlo] at q
      exact iteT ⟨_, rfl, _, _, rfl, rfl, q⟩
    | false =>
      rw [hlo] at q
      exact iteF q
theorem scMirror : FnScope ["arity", "mirror"] ["arity", "mirror"] (defScope sMirror) := ⟨rfl, rfl, rfl, by decide +kernel, rfl, by decide +kernel, by decide +kernel⟩
theorem ok_mirror {f fC : Addr} {fd fdC : FuncData} (F : Fun K "is_mirror" "is_mirror" sMirror f fd) (C : GC K mg pK pM pS) (D : Dn K mg "is_choice" fC) (G : FnOk P w K mg base CX0 1 fC fdC ["value", "words"] (spChoice K)) (bC : Binds K fdC ["value", "words"] []) : FnOk P w K mg base CX0 2 f fd ["arity", "mirror"] spMirror := by
  refine F.ok scMirror (fun vs H Q E h => ?_) (fun cdv A outer s H vs Q E hr h => ?_)
  · obtain ⟨f, rfl, _⟩ := h
    rfl
  · obtain ⟨⟨ar, mi, t, b, dg, sw⟩, rfl, ok, q⟩ := h
    refine ⟨_, pss_one (ps_ret (pe_or (pe_cmpR op_isN (pv 1) pe_non (nomark _)) (pe_one (pe_and (pe_cmpR op_eq (pv 0) pe_int (nomark _)) (pe_one (pe_call G hr (by rfl) D.gl D.kp bC .nil pass0 (pa_cons (pv 1) (pa_cons (pe_glob (v := .ref pM) (by rfl) C.gM rfl) pa_nil)))))))), ?_⟩
    cases mi with
    | none => exact ⟨_, rfl, rfl, true, rfl, iteT q⟩
    | some z =>
      obtain ⟨_, _, _, _, ⟨_, h, _⟩ | ⟨e1, _, h, _⟩, _⟩ := ok
      · cases h
      · have ea : ar = 1 := e1
        subst ea
        refine ⟨_, rfl, rfl, false, rfl, iteF ⟨_, rfl, rfl, true, rfl, iteT ?_⟩⟩
        refine ⟨_, rfl, z, pM, _, rfl, C.kM _, rfl, ?_⟩
        rcases h with h | h | h
        · cases h
        · obtain rfl := Option.some.inj (show some z = some "even" from h)
          exact q
        · obtain rfl := Option.some.inj (show some z = some "odd" from h)
          exact q
theorem scSwap : FnScope ["arity", "swap"] ["arity", "swap"] (defScope sSwap) := ⟨rfl, rfl, rfl, by decide +kernel, rfl, by decide +kernel, by decide +kernel⟩
theorem ok_swap {f fC : Addr} {fd fdC : FuncData} (F : Fun K "is_swap" "is_swap" sSwap f fd) (C : GC K mg pK pM pS) (D : Dn K mg "is_choice" fC) (G : FnOk P w K mg base CX0 1 fC fdC ["value", "words"] (spChoice K)) (bC : Binds K fdC ["value", "words"] []) : FnOk P w K mg base CX0 2 f fd ["arity", "swap"] spSwap := by
  refine F.ok scSwap (fun vs H Q E h => ?_) (fun cdv A outer s H vs Q E hr h => ?_)
  · obtain ⟨f, rfl, _⟩ := h
    rfl
  · obtain ⟨⟨ar, mi, t, b, dg, sw⟩, rfl, ok, q⟩ := h
    refine ⟨_, pss_one (ps_ret (pe_or (pe_cmpR op_isN (pv 1) pe_non (nomark _)) (pe_one (pe_and (pe_cmpR op_eq (pv 0) pe_int (nomark _)) (pe_one (pe_call G hr (by rfl) D.gl D.kp bC .nil pass0 (pa_cons (pv 1) (pa_cons (pe_glob (v := .ref pS) (by rfl) C.gS rfl) pa_nil)))))))), ?_⟩
    cases sw with
    | none => exact ⟨_, rfl, rfl, true, rfl, iteT q⟩
    | some z =>
      obtain ⟨_, _, _, _, ⟨e1, _, _, h⟩ | ⟨_, h, _⟩, _⟩ := ok
      · have ea : ar = 2 := e1
        subst ea
        refine ⟨_, rfl, rfl, false, rfl, iteF ⟨_, rfl, rfl, true, rfl, iteT ?_⟩⟩
        refine ⟨_, rfl, z, pS, _, rfl, C.kS _, rfl, ?_⟩
        rcases h with h | h | h
        · cases h
        · obtain rfl := Option.some.inj (show some z = some "same" from h)
          exact q
        · obtain rfl := Option.some.inj (show some z = some "minus" from h)
          exact q
      · cases h
theorem scDegree : FnScope ["arity", "degree"] ["arity", "degree"] (defScope sDegree) := ⟨rfl, rfl, rfl, by decide +kernel, rfl, by decide +kernel, by decide +kernel⟩
theorem ok_degree {f fC : Addr} {fd fdC : FuncData} (F : Fun K "is_degree" "is_degree" sDegree f fd) (C : GC K mg pK pM pS) (D : Dn K mg "is_whole_within" fC) (G : FnOk P w K mg base CX0 2 fC fdC ["value", "low", "high"] spWhole) (bC : Binds K fdC ["value", "low", "high"] []) : FnOk P w K mg base CX0 3 f fd ["arity", "degree"] spDegree := by
  refine F.ok scDegree (fun vs H Q E h => ?_) (fun cdv A outer s H vs Q E hr h => ?_)
  · obtain ⟨f, rfl, _⟩ := h
    rfl
  · obtain ⟨⟨ar, mi, t, b, dg, sw⟩, rfl, ok, q⟩ := h
    obtain ⟨t3, md⟩ := C.md
    refine ⟨_, pss_one (ps_ret (pe_or (pe_cmpR op_isN (pv 1) pe_non (nomark _)) (pe_one (pe_and (pe_cmpR op_eq (pv 0) pe_int (nomark _)) (pe_one (pe_call G hr (by rfl) D.gl D.kp bC .nil pass0 (pa_cons (pv 1) (pa_cons pe_int (pa_cons (pe_glob (v := .int 3) (by rfl) md ⟨_, rfl⟩) pa_nil))))))))), ?_⟩
    cases dg with
    | none => exact ⟨_, rfl, rfl, true, rfl, iteT q⟩
    | some d =>
      obtain ⟨_, _, _, _, ⟨_, _, h, _⟩ | ⟨e1, _, _, h⟩, _⟩ := ok
      · cases h
      · have ea : ar = 1 := e1
        subst ea
        refine ⟨_, rfl, rfl, false, rfl, iteF ⟨_, rfl, rfl, true, rfl, iteT ?_⟩⟩
        refine ⟨_, rfl, d, 0, 3, rfl, ?_⟩
        rcases h with h | ⟨d', h, d0, d3⟩
        · cases h
        · obtain rfl := Option.some.inj (show some d = some d' from h)
          rw [decide_eq_true d0, decide_eq_true d3]
          exact q
theorem scCentre : FnScope ["mirror", "centre"] ["mirror", "centre"] (defScope sCentre) := ⟨rfl, rfl, rfl, by decide +kernel, rfl, by decide +kernel, by decide +kernel⟩
theorem ok_centre {f fN fE : Addr} {fd fdN fdE : FuncData} (F : Fun K "is_centre" "is_centre" sCentre f fd) (T : RT K mg CR) (nf : PySem.W.notFirst K CR (.type "int") = true) (M : OwnM K CR "__eq__" fE) (GE : FnOk P w K mg base CX0 2 fE fdE ["self", "other"] (spREq CR)) (bE : Binds K fdE ["self", "other"] [])
    (D : Dn K mg "is_number" fN) (G : FnOk P w K mg base CX0 2 fN fdN ["value"] (spIsNum K CR)) (bN : Binds K fdN ["value"] []) : FnOk P w K mg base CX0 3 f fd ["mirror", "centre"] (spCentre CR) := by
  refine F.ok scCentre (fun vs H Q E h => ?_) (fun cdv A outer s H vs Q E hr h => ?_)
  · obtain ⟨f, c, rfl, _⟩ := h
    rfl
  · obtain ⟨⟨ar, mi, t, b, dg, sw⟩, c, rfl, ok, cv, q⟩ := h
    refine ⟨_, pss_one (ps_ret (pe_and (pe_call G hr (by rfl) D.gl D.kp bN .nil pass0 (pa_cons (pv 1) pa_nil)) (pe_one (pe_or (pe_cmpR op_notN (pv 0) pe_non (nomark _)) (pe_one (pe_cmpR (op_or op_eq (op_eqO M GE bE hr)) (pv 1) pe_int (nomark _))))))), ?_⟩
    refine ⟨_, rfl, c, rfl, ?_, true, rfl, iteT ?_⟩
    · rcases cv with ⟨r, rfl, ra⟩ | ⟨rfl, _⟩
      · exact .inl ⟨r, _, _, rfl, ra⟩
      · exact .inr ⟨_, rfl⟩
    · cases mi with
      | some z => exact ⟨_, rfl, rfl, true, rfl, iteT q⟩
      | none =>
        obtain ⟨_, _, _, _, _, h⟩ := ok
        obtain ⟨rfl, rfl⟩ : t = 0 ∧ b = 1 := h rfl
        refine ⟨_, rfl, rfl, false, rfl, iteF ⟨_, rfl, ?_⟩⟩
        rcases cv with ⟨r, rfl, ra⟩ | ⟨rfl, _⟩
        · obtain ⟨dx, hx⟩ := id ra
          exact .inr ⟨r, dx, _, .type "int", rfl, hx, .base (.int _), nf, r, 0, 1, 0, rfl, ra, true, rfl, q⟩
        · exact .inl ⟨rfl, q⟩
theorem scCheck : FnScope ["arity", "mirror", "centre", "degree", "swap"] ["arity", "mirror", "centre", "degree", "swap"] (defScope sCheck) := ⟨rfl, rfl, rfl, by decide +kernel, rfl, by decide +kernel, by decide +kernel⟩
theorem ok_check {f fW fM fC fD fS : Addr} {fd fdW fdM fdC fdD fdS : FuncData} (F : Fun K "check_facts" "check_facts" sCheck f fd)
    (DW : Dn K mg "is_whole_within" fW) (GW : FnOk P w K mg base CX0 2 fW fdW ["value", "low", "high"] spWhole) (bW : Binds K fdW ["value", "low", "high"] [])
    (DM : Dn K mg "is_mirror" fM) (GM : FnOk P w K mg base CX0 2 fM fdM ["arity", "mirror"] spMirror) (bM : Binds K fdM ["arity", "mirror"] [])
    (DC : Dn K mg "is_centre" fC) (GCe : FnOk P w K mg base CX0 3 fC fdC ["mirror", "centre"] (spCentre CR)) (bC : Binds K fdC ["mirror", "centre"] [])
    (DD : Dn K mg "is_degree" fD) (GD : FnOk P w K mg base CX0 3 fD fdD ["arity", "degree"] spDegree) (bD : Binds K fdD ["arity", "degree"] [])
    (DS : Dn K mg "is_swap" fS) (GS : FnOk P w K mg base CX0 2 fS fdS ["arity", "swap"] spSwap) (bS : Binds K fdS ["arity", "swap"] []) : FnOk P w K mg base CX0 4 f fd ["arity", "mirror", "centre", "degree", "swap"] (spCheck CR) := by
  refine F.ok scCheck (fun vs H Q E h => ?_) (fun cdv A outer s H vs Q E hr h => ?_)
  · obtain ⟨f, c, rfl, _⟩ := h
    rfl
  · obtain ⟨f, c, rfl, ok, cv, q⟩ := h
    have r2 : Room 2 _ := hr.mono (by decide)
    refine ⟨_, pss_cons (ps_if (pt_not (pt_val (pe_call GW r2 (by rfl) DW.gl DW.kp bW .nil pass0 (pa_cons (pv 0) (pa_cons pe_int (pa_cons pe_int pa_nil)))))) (pss_one ps_never) pss_nil)
      (pss_cons (ps_if (pt_not (pt_val (pe_call GM r2 (by rfl) DM.gl DM.kp bM .nil pass0 (pa_cons (pv 0) (pa_cons (pv 1) pa_nil))))) (pss_one ps_never) pss_nil)
      (pss_cons (ps_if (pt_not (pt_val (pe_call GCe hr (by rfl) DC.gl DC.kp bC .nil pass0 (pa_cons (pv 1) (pa_cons (pv 2) pa_nil))))) (pss_one ps_never) pss_nil)
      (pss_cons (ps_if (pt_not (pt_val (pe_call GD hr (by rfl) DD.gl DD.kp bD .nil pass0 (pa_cons (pv 0) (pa_cons (pv 3) pa_nil))))) (pss_one ps_never) pss_nil)
      (pss_one (ps_if (pt_not (pt_val (pe_call GS r2 (by rfl) DS.gl DS.kp bS .nil pass0 (pa_cons (pv 0) (pa_cons (pv 4) pa_nil))))) (pss_one ps_never) pss_nil))))), ?_⟩
    refine ⟨_, rfl, f.ar, 1, 2, rfl, _, rfl, ?_⟩
    have e1 : (decide (1 ≤ f.ar) && decide (f.ar ≤ 2)) = true := by
      obtain ⟨_, _, _, _, ⟨h, _⟩ | ⟨h, _⟩, _⟩ := ok <;> rw [h] <;> rfl
    rw [e1]
    refine iteF ?_
    refine ⟨_, rfl, _, rfl, f, rfl, ok, _, rfl, iteF ?_⟩
    refine ⟨_, rfl, _, rfl, f, c, rfl, ok, cv, _, rfl, iteF ?_⟩
    refine ⟨_, rfl, _, rfl, f, rfl, ok, _, rfl, iteF ?_⟩
    exact ⟨_, rfl, _, rfl, f, rfl, ok, _, rfl, iteF q⟩
end
end K08

set_option Elab.async false
set_option linter.all false
set_option maxRecDepth 100000
set_option maxHeartbeats 4000000
namespace K08
open PySem PySem.Spec PyProof.Rows L2 Ux
abbrev sFText : Stmt := top 41
abbrev sUInit : Stmt := inClass (top 42) 0
abbrev sFree : Stmt := inClass (top 42) 2
abbrev sUEq : Stmt := inClass (top 42) 3
abbrev sUStr : Stmt := inClass (top 42) 4
abbrev sURepr : Stmt := inClass (top 42) 5
/-! ### the text of facts -/
def mw (f : FT) : List Str := match f.mi with
  | none => []
  | some z => [z, ctext f.t f.b]
def dw (f : FT) : List Str := match f.dg with
  | none => []
  | some d => ["degree", (toString d : Str)]
def sw' (f : FT) : List Str := match f.sw with
  | none => []
  | some z => [z]
def fwords (f : FT) : List Str := (([(toString f.ar : Str)] ++ mw f) ++ dw f) ++ sw' f
def ftext (f : FT) : Str := Txt.join " " (fwords f)
/-- a list of few short words -/
def Short (n : Nat) (ws : List Str) : Prop := ws.length ≤ n ∧ ∀ x ∈ ws, x.length ≤ 30
theorem Short.app {n m : Nat} {a b : List Str} (h : Short n a) (k : Short m b) : Short (n + m) (a ++ b) := by
  refine ⟨?_, fun x hx => ?_⟩
  · rw [List.length_append]
    have := h.1
    have := k.1
    omega
  · rcases List.mem_append.mp hx with z | z
    · exact h.2 x z
    · exact k.2 x z
theorem Short.sum {n : Nat} : ∀ {ws : List Str}, Short n ws → (ws.map (·.length)).sum ≤ 30 * ws.length
  | [], _ => Nat.zero_le _
  | x :: ws, h => by
    have h1 := h.2 x (List.mem_cons_self ..)
    have h2 : Short ws.length ws := ⟨Nat.le_refl _, fun y hy => h.2 y (List.mem_cons_of_mem _ hy)⟩
    have h3 := Short.sum h2
    rw [List.map_cons, List.sum_cons, List.length_cons]
    omega
theorem short_ar {f : FT} (ok : FOk f) : Short 1 [(toString f.ar : Str)] := ⟨Nat.le_refl _, fun x hx => by
  rw [List.mem_singleton] at hx
  subst hx
  obtain ⟨_, _, _, _, ⟨h, _⟩ | ⟨h, _⟩, _⟩ := ok <;> rw [h] <;> decide⟩
theorem short_mw {f : FT} (ok : FOk f) : Short 2 (mw f) := by
  unfold mw
  cases hm : f.mi with
  | none => exact ⟨Nat.zero_le _, fun x hx => by cases hx⟩
  | some z =>
    refine ⟨Nat.le_refl _, fun x hx => ?_⟩
    obtain ⟨t0, t1, b0, b1, ⟨_, h, _⟩ | ⟨_, _, h, _⟩, _⟩ := ok
    · rw [hm] at h
      cases h
    · rcases List.mem_cons.mp hx with e | e
      · subst e
        rw [hm] at h
        rcases h with h | h | h
        · cases h
        · obtain rfl := Option.some.inj h
          decide
        · obtain rfl := Option.some.inj h
          decide
      · rw [List.mem_singleton] at e
        subst e
        exact ctext_len t0 t1 b0 b1
theorem short_dw {f : FT} (ok : FOk f) : Short 2 (dw f) := by
  unfold dw
  cases hm : f.dg with
  | none => exact ⟨Nat.zero_le _, fun x hx => by cases hx⟩
  | some d =>
    refine ⟨Nat.le_refl _, fun x hx => ?_⟩
    obtain ⟨_, _, _, _, ⟨_, _, h, _⟩ | ⟨_, _, _, h⟩, _⟩ := ok
    · rw [hm] at h
      cases h
    · rw [hm] at h
      rcases h with h | ⟨d', h, d0, d3⟩
      · cases h
      · obtain rfl := Option.some.inj h
        rcases List.mem_cons.mp hx with e | e
        · subst e
          decide
        · rw [List.mem_singleton] at e
          subst e
          exact Nat.le_trans (text_len (by omega) (by omega)) (by decide)
theorem short_sw {f : FT} (ok : FOk f) : Short 1 (sw' f) := by
  unfold sw'
  cases hm : f.sw with
  | none => exact ⟨Nat.zero_le _, fun x hx => by cases hx⟩
  | some z =>
    refine ⟨Nat.le_refl _, fun x hx => ?_⟩
    rw [List.mem_singleton] at hx
    subst hx
    obtain ⟨_, _, _, _, ⟨_, _, _, h⟩ | ⟨_, h, _⟩, _⟩ := ok
    · rw [hm] at h
      rcases h with h | h | h
      · cases h
      · obtain rfl := Option.some.inj h
        decide
      · obtain rfl := Option.some.inj h
        decide
    · rw [hm] at h
      cases h
def spFText (CR : Addr) : Sp := fun vs H Q _ => ∃ (f : FT) (r : Addr), vs = [.int f.ar, ov f.mi, .ref r, oi f.dg, ov f.sw] ∧ FOk f ∧ RatAt CR H r f.t f.b ∧ ∀ H', Same H H' → Q (.str (ftext f)) H'
section
variable {P : Program} {w : World} {K : PySem.W.Frag} {mg : Str → Option Value} {base : Heap} {CR CU : Addr}
theorem scFText : FnScope ["arity", "mirror", "centre", "degree", "swap", "words"] ["arity", "mirror", "centre", "degree", "swap"] (defScope sFText) := ⟨rfl, rfl, rfl, by decide +kernel, rfl, by decide +kernel, by decide +kernel⟩
theorem ov_some (z : Str) : decide (ov (some z) = V.non) = false := rfl
theorem ok_fText {f fS : Addr} {fd fdS : FuncData} (F : Fun K "facts_text" "facts_text" sFText f fd) (B : Bn mg) (M : OwnM K CR "__str__" fS) (G : FnOk P w K mg base CX0 3 fS fdS ["self"] (spRatText CR)) (bS : Binds K fdS ["self"] []) : FnOk P w K mg base CX0 6 f fd ["arity", "mirror", "centre", "degree", "swap"] (spFText CR) := by
  refine F.ok scFText (fun vs H Q E h => ?_) (fun cdv A outer s H vs Q E hr h => ?_)
  · obtain ⟨f, r, rfl, _⟩ := h
    rfl
  · obtain ⟨f, r, rfl, ok, ra, q⟩ := h
    refine ⟨_, pss_cons (ps_set (i := 5) scFText.nd rfl (Or.inl rfl) (pe_lst (pa_cons (pe_callTy call_str_int (by rfl) B.tstr (by decide +kernel) (pa_cons (pv 0) pa_nil)) pa_nil)))
      (C8.pss_cut (ps_if (pt_cmpR op_notN (pv 1) pe_non (nomark _)) (pss_one (ps_expr (pe_bm PySem.F.plainAttrs_list PySem.F.slot_list_extend PySem.F.type_list_extend mt_extend (pv 5) (pa_cons (pe_lst (pa_cons (pv 1) (pa_cons (pe_callTy (call_strO M G bS hr) (by rfl) B.tstr (by decide +kernel) (pa_cons (pv 2) pa_nil)) pa_nil))) pa_nil)))) pss_nil)
      (C8.pss_cut (ps_if (pt_cmpR op_notN (pv 3) pe_non (nomark _)) (pss_one (ps_expr (pe_bm PySem.F.plainAttrs_list PySem.F.slot_list_extend PySem.F.type_list_extend mt_extend (pv 5) (pa_cons (pe_lst (pa_cons pe_str (pa_cons (pe_callTy call_str_int (by rfl) B.tstr (by decide +kernel) (pa_cons (pv 3) pa_nil)) pa_nil))) pa_nil)))) pss_nil)
      (C8.pss_cut (ps_if (pt_cmpR op_notN (pv 4) pe_non (nomark _)) (pss_one (ps_expr (pe_bm PySem.F.plainAttrs_list PySem.F.slot_list_append PySem.F.type_list_append mt_append (pv 5) (pa_cons (pv 4) pa_nil)))) pss_nil)
      (pss_one (ps_ret (pe_join pe_str (pv 5))))))), ?_⟩
    obtain ⟨t0, t1, b0, b1, kind, _⟩ := id ok
    have ar0 : -100 ≤ f.ar ∧ f.ar ≤ 100 := by rcases kind with ⟨h, _⟩ | ⟨h, _⟩ <;> omega
    have sa := short_ar ok
    have sm := short_mw ok
    have sd := short_dw ok
    have ss := short_sw ok
    refine ⟨_, rfl, _, rfl, log2_100 ar0.1 ar0.2, (by show 1 ≤ sizeLine; decide), fun p hp => ?_⟩
    refine ⟨fun σ H' => σ = [some (.int f.ar), some (ov f.mi), some (.ref r), some (oi f.dg), some (ov f.sw), some (.ref p)] ∧ Same H H' ∧ H' p = some (.lst (([(toString f.ar : Str)] ++ mw f).map V.str)), ?_, ?_⟩
    · refine ⟨_, rfl, rfl, _, rfl, ?_⟩
      cases hm : f.mi with
      | none =>
        refine iteF ⟨by first | rfl | (rw [← hm]; done) | (rw [← hm]; rfl), same_upd hp, ?_⟩
        have e : mw f = [] := by unfold mw; rw [hm]
        rw [e, upd_same]
        rfl
      | some z =>
        refine iteT ?_
        have hp1 : upd H p (.lst [V.str (toString f.ar)]) p = some (.lst [V.str (toString f.ar)]) := upd_same
        obtain ⟨dx, hx⟩ := id ra
        have s1 : Same H (upd H p (.lst [V.str (toString f.ar)])) := same_upd hp
        refine ⟨_, rfl, .inl ⟨rfl, _, SqL.of hp1⟩, _, rfl, _, rfl, r, dx, _, rfl, s1 _ _ hx, r, f.t, f.b, rfl, ra.same s1, t0, t1, b0, b1, fun H2 s2 => ⟨_, rfl, (by show 2 ≤ sizeLine; decide), fun l hl => ?_⟩⟩
        have n2 := s2 _ _ hp1
        have n3 : upd H2 l (.lst [V.str z, V.str (ctext f.t f.b)]) p = some (.lst [V.str (toString f.ar)]) := (upd_ne (ne_of_none n2 hl)).trans n2
        refine ⟨p, l, _, _, rfl, rfl, n3, upd_same, (by show 1 + 2 ≤ sizeLine; decide), ?_⟩
        refine ⟨by first | rfl | (rw [← hm]; done) | (rw [← hm]; rfl), fun c o e => ?_, ?_⟩
        · rw [upd_ne (ne_of_none e hp)]
          have e1 := s2 _ _ (s1 _ _ e)
          rw [upd_ne (ne_of_none e1 hl)]
          exact e1
        · have e : mw f = [z, ctext f.t f.b] := by unfold mw; rw [hm]
          rw [e, upd_same]
          rfl
    · rintro σ H1 ⟨rfl, s1, hp1⟩
      refine ⟨fun σ H' => σ = [some (.int f.ar), some (ov f.mi), some (.ref r), some (oi f.dg), some (ov f.sw), some (.ref p)] ∧ Same H H' ∧ H' p = some (.lst ((([(toString f.ar : Str)] ++ mw f) ++ dw f).map V.str)), ?_, ?_⟩
      · refine ⟨_, rfl, rfl, _, rfl, ?_⟩
        cases hm : f.dg with
        | none =>
          refine iteF ⟨by first | rfl | (rw [← hm]; done) | (rw [← hm]; rfl), s1, ?_⟩
          have e : dw f = [] := by unfold dw; rw [hm]
          rw [e, List.append_nil]
          exact hp1
        | some d =>
          refine iteT ?_
          have d03 : -100 ≤ d ∧ d ≤ 100 := by
            rcases kind with ⟨_, _, h, _⟩ | ⟨_, _, _, h⟩
            · rw [hm] at h
              cases h
            · rw [hm] at h
              rcases h with h | ⟨d', h, d0, d3⟩
              · cases h
              · have := Option.some.inj h
                omega
          refine ⟨_, rfl, .inl ⟨rfl, _, SqL.of hp1⟩, _, rfl, _, rfl, log2_100 d03.1 d03.2, (by show 2 ≤ sizeLine; decide), fun l hl => ?_⟩
          have n3 : upd H1 l (.lst [V.str "degree", V.str (toString d)]) p = _ := (upd_ne (ne_of_none hp1 hl)).trans hp1
          refine ⟨p, l, _, _, rfl, rfl, n3, upd_same, ?_, ?_⟩
          · rw [List.length_map]
            have := (sa.app sm).1
            exact fit (m := 10) (by show _ + 2 ≤ 10; omega) (by decide)
          · refine ⟨by first | rfl | (rw [← hm]; done) | (rw [← hm]; rfl), fun c o e => ?_, ?_⟩
            · rw [upd_ne (ne_of_none e hp)]
              have e1 := s1 _ _ e
              rw [upd_ne (ne_of_none e1 hl)]
              exact e1
            · have e : dw f = [("degree" : Str), (toString d : Str)] := by unfold dw; rw [hm]
              rw [e, upd_same]
              simp only [List.map_append]
              rfl
      · clear hp1 s1 H1
        rintro σ H1 ⟨rfl, s1, hp1⟩
        refine ⟨fun σ H' => σ = [some (.int f.ar), some (ov f.mi), some (.ref r), some (oi f.dg), some (ov f.sw), some (.ref p)] ∧ Same H H' ∧ H' p = some (.lst ((fwords f).map V.str)), ?_, ?_⟩
        · refine ⟨_, rfl, rfl, _, rfl, ?_⟩
          cases hm : f.sw with
          | none =>
            refine iteF ⟨by first | rfl | (rw [← hm]; done) | (rw [← hm]; rfl), s1, ?_⟩
            have e : sw' f = [] := by unfold sw'; rw [hm]
            unfold fwords
            rw [e, List.append_nil]
            exact hp1
          | some z =>
            refine iteT ⟨_, rfl, .inl ⟨rfl, _, SqL.of hp1⟩, _, rfl, p, _, _, rfl, rfl, hp1, ?_, ?_⟩
            · rw [List.length_map]
              have := ((sa.app sm).app sd).1
              exact small1000 (by omega)
            · refine ⟨by first | rfl | (rw [← hm]; done) | (rw [← hm]; rfl), fun c o e => ?_, ?_⟩
              · rw [upd_ne (ne_of_none e hp)]
                exact s1 _ _ e
              · have e : sw' f = [z] := by unfold sw'; rw [hm]
                unfold fwords
                rw [e, upd_same]
                simp only [List.map_append]
                rfl
        · clear hp1 s1 H1
          rintro σ H1 ⟨rfl, s1, hp1⟩
          have sf : Short 6 (fwords f) := ((sa.app sm).app sd).app ss
          refine ⟨⟨_, rfl⟩, _, rfl, _, p, fwords f, rfl, rfl, .inl (.of hp1), ?_, q H1 s1⟩
          have h1 := sf.sum
          have h2 := sf.1
          have h3 : (" " : Str).length = 1 := by decide
          rw [h3]
          omega
end
end K08

set_option Elab.async false
set_option linter.all false
set_option maxRecDepth 100000
set_option maxHeartbeats 4000000
namespace K08
open PySem PySem.Spec PyProof.Rows L2 Ux
theorem putF_len (f : Str) (v : V) : ∀ fs : List (Str × V), (putF f v fs).length ≤ fs.length + 1
  | [] => Nat.le_refl _
  | (g, x) :: r => by
    unfold putF
    split
    · exact Nat.le_succ _
    · have := putF_len f v r
      simp only [List.length_cons]
      omega
theorem ftext_len {f : FT} (ok : FOk f) : (ftext f).length ≤ 400 := by
  have sf : Short 6 (fwords f) := (((short_ar ok).app (short_mw ok)).app (short_dw ok)).app (short_sw ok)
  have h1 := sf.sum
  have h2 := sf.1
  have e0 : Txt.join " " (fwords f) = Str.join " " (fwords f) := StrLaws.glued_eq_join _ _
  unfold ftext
  rw [e0]
  refine Nat.le_trans (StrLaws.join_length_le _ _) ?_
  have e : (" " : Str).length = 1 := by decide
  rw [e]
  omega
/-- the class Unseen -/
structure UT (K : PySem.W.Frag) (mg : Str → Option Value) (CU : Addr) : Prop where
  cl : Cls K CU
  n1 : NoAttr K CU "arity"
  n2 : NoAttr K CU "mirror"
  n3 : NoAttr K CU "centre"
  n4 : NoAttr K CU "degree"
  n5 : NoAttr K CU "swap"
  n6 : NoAttr K CU "text"
  gl : mg "Unseen" = some (.ref CU)
  ha : PySem.W.findIn K (.ref CU) "__class__" = some (some (.builtin "object.__class__"))
  hn : PySem.W.specialIn K (.builtin "object.__class__") "__get__" = some (some (.builtin "getset_descriptor.__get__"))
  ht : PySem.W.takesIn K (.builtin "object.__class__") = some true
  hm : PySem.W.mroIn K CU (.type "object") = some true
  kU : PySem.W.kitOne K (.ref CU) (.ref CU) = some true
  kS : PySem.W.kitOne K (.type "str") (.ref CU) = some false
  f1 : PySem.W.notFirst K CU (.ref CU) = true
  f2 : PySem.W.notFirst K CU (.type "str") = true
/-- the fields of an Unseen -/
def u1 (f : FT) : List (Str × V) := putF "arity" (.int f.ar) []
def u2 (f : FT) : List (Str × V) := putF "mirror" (ov f.mi) (u1 f)
def u3 (f : FT) (r : Addr) : List (Str × V) := putF "centre" (.ref r) (u2 f)
def u4 (f : FT) (r : Addr) : List (Str × V) := putF "degree" (oi f.dg) (u3 f r)
def u5 (f : FT) (r : Addr) : List (Str × V) := putF "swap" (ov f.sw) (u4 f r)
def u6 (f : FT) (r : Addr) : List (Str × V) := putF "text" (.str (ftext f)) (u5 f r)
theorem l1 (f : FT) : (u1 f).length < 1000 := Nat.lt_of_le_of_lt (putF_len _ _ _) (by show 1 < 1000; decide)
theorem l1' (f : FT) : (u1 f).length ≤ 1 := putF_len _ _ _
theorem l2' (f : FT) : (u2 f).length ≤ 2 := Nat.le_trans (putF_len _ _ _) (Nat.succ_le_succ (l1' f))
theorem l3' (f : FT) (r : Addr) : (u3 f r).length ≤ 3 := Nat.le_trans (putF_len _ _ _) (Nat.succ_le_succ (l2' f))
theorem l4' (f : FT) (r : Addr) : (u4 f r).length ≤ 4 := Nat.le_trans (putF_len _ _ _) (Nat.succ_le_succ (l3' f r))
theorem l5' (f : FT) (r : Addr) : (u5 f r).length ≤ 5 := Nat.le_trans (putF_len _ _ _) (Nat.succ_le_succ (l4' f r))
theorem neq (a b : Str) (h : decide (a = b) = false := by decide +kernel) : ¬ a = b := of_decide_eq_false h
theorem gAr (f : FT) (r : Addr) : (u6 f r).lookup ("arity" : Str) = some (.int f.ar) := by
  unfold u6 u5 u4 u3 u2 u1
  rw [lookup_putF, if_neg (neq _ _), lookup_putF, if_neg (neq _ _), lookup_putF, if_neg (neq _ _), lookup_putF, if_neg (neq _ _), lookup_putF, if_neg (neq _ _), lookup_putF, if_pos rfl]
theorem gMi (f : FT) (r : Addr) : (u6 f r).lookup ("mirror" : Str) = some (ov f.mi) := by
  unfold u6 u5 u4 u3 u2
  rw [lookup_putF, if_neg (neq _ _), lookup_putF, if_neg (neq _ _), lookup_putF, if_neg (neq _ _), lookup_putF, if_neg (neq _ _), lookup_putF, if_pos rfl]
theorem gCe5 (f : FT) (r : Addr) : (u5 f r).lookup ("centre" : Str) = some (.ref r) := by
  unfold u5 u4 u3
  rw [lookup_putF, if_neg (neq _ _), lookup_putF, if_neg (neq _ _), lookup_putF, if_pos rfl]
theorem gCe (f : FT) (r : Addr) : (u6 f r).lookup ("centre" : Str) = some (.ref r) := by
  unfold u6
  rw [lookup_putF, if_neg (neq _ _), gCe5]
theorem gDg (f : FT) (r : Addr) : (u6 f r).lookup ("degree" : Str) = some (oi f.dg) := by
  unfold u6 u5 u4
  rw [lookup_putF, if_neg (neq _ _), lookup_putF, if_neg (neq _ _), lookup_putF, if_pos rfl]
theorem gSw (f : FT) (r : Addr) : (u6 f r).lookup ("swap" : Str) = some (ov f.sw) := by
  unfold u6 u5
  rw [lookup_putF, if_neg (neq _ _), lookup_putF, if_pos rfl]
theorem gTx (f : FT) (r : Addr) : (u6 f r).lookup ("text" : Str) = some (.str (ftext f)) := by
  unfold u6
  rw [lookup_putF, if_pos rfl]
/-- an Unseen at a -/
def UnsAt (CR CU : Addr) (H : Hp) (a : Addr) (f : FT) : Prop := ∃ dx r, H a = some (.ins CU dx (u6 f r)) ∧ RatAt CR H r f.t f.b
theorem UnsAt.same {CR CU : Addr} {H H' : Hp} {a : Addr} {f : FT} (h : UnsAt CR CU H a f) (s : Same H H') : UnsAt CR CU H' a f := by
  obtain ⟨dx, r, h, k⟩ := h
  exact ⟨dx, r, s _ _ h, k.same s⟩
theorem UnsAt.ty {K : PySem.W.Frag} {mg : Str → Option Value} {CR CU : Addr} {H : Hp} {a : Addr} {f : FT} (T : UT K mg CU) (h : UnsAt CR CU H a f) : TyX K H (.ref a) (.ref CU) := by
  obtain ⟨dx, r, h, _⟩ := h
  exact .base (.ins h T.cl T.ha T.hn T.ht T.hm)
def spUInit (CR CU : Addr) : Sp := fun vs H Q _ => ∃ (p dx : Addr) (f : FT) (c : V), vs = [.ref p, .int f.ar, ov f.mi, c, oi f.dg, ov f.sw] ∧ H p = some (.ins CU dx []) ∧ FOk f ∧ CenV CR H c f.t f.b ∧
  ∀ H', UnsAt CR CU H' p f → But p H H' → Q .non H'
def spUEq (CR CU : Addr) : Sp := fun vs H Q _ => (∃ (a b : Addr) (f g : FT), vs = [.ref a, .ref b] ∧ UnsAt CR CU H a f ∧ UnsAt CR CU H b g ∧ Q (.bl (decide (ftext f = ftext g))) H) ∨ ∃ (a : Addr) (f : FT) (z : Str), vs = [.ref a, .str z] ∧ UnsAt CR CU H a f ∧ Q (.bl false) H
def spUStr (CR CU : Addr) : Sp := fun vs H Q _ => ∃ (a : Addr) (f : FT), vs = [.ref a] ∧ UnsAt CR CU H a f ∧ FOk f ∧ Q (.str (ftext f)) H
def spURepr (CR CU : Addr) : Sp := fun vs H Q _ => ∃ (a : Addr) (f : FT), vs = [.ref a] ∧ UnsAt CR CU H a f ∧ FOk f ∧ Q (.str ("Unseen(" ++ ftext f ++ ")")) H
section
variable {P : Program} {w : World} {K : PySem.W.Frag} {mg : Str → Option Value} {base : Heap} {CR CU : Addr}
theorem RatAt.upd {H : Hp} {r p : Addr} {t b : Int} {o : HO} (h : RatAt CR H r t b) (n : r ≠ p) : RatAt CR (upd H p o) r t b := by
  obtain ⟨dx, h⟩ := h
  exact ⟨dx, (upd_ne n).trans h⟩
theorem RatAt.ne {H : Hp} {r p dx : Addr} {t b : Int} {fs : List (Str × V)} (h : RatAt CR H r t b) (hp : H p = some (.ins CU dx fs)) (nf : fs.lookup ("bottom" : Str) = none) : r ≠ p := fun e => by
  obtain ⟨dx', h⟩ := h
  rw [e, hp] at h
  have e1 := Option.some.inj h
  have e2 : fs = rf t b := by injection e1
  rw [e2, rf_bot] at nf
  cases nf
theorem scUInit : FnScope ["self", "arity", "mirror", "centre", "degree", "swap"] ["self", "arity", "mirror", "centre", "degree", "swap"] (defScope sUInit) := ⟨rfl, rfl, rfl, by decide +kernel, rfl, by decide +kernel, by decide +kernel⟩
theorem ok_uinit {f fC fR fT : Addr} {fd fdC fdR fdT : FuncData} {dvs : List V} {kws : List (Str × V)} (F : FunD K "__init__" "Unseen.__init__" (defArgs sUInit) (defBody sUInit) (defScope sUInit) dvs kws f fd) (T : RT K mg CR) (U : UT K mg CU)
    (DC : Dn K mg "check_facts" fC) (GCh : FnOk P w K mg base CX0 4 fC fdC ["arity", "mirror", "centre", "degree", "swap"] (spCheck CR)) (bC : Binds K fdC ["arity", "mirror", "centre", "degree", "swap"] [])
    (DR : Dn K mg "ratio_of" fR) (GR : FnOk P w K mg base CX0 4 fR fdR ["number"] (spRatioOf CR)) (bR : Binds K fdR ["number"] [])
    (DT : Dn K mg "facts_text" fT) (GT : FnOk P w K mg base CX0 6 fT fdT ["arity", "mirror", "centre", "degree", "swap"] (spFText CR)) (bT : Binds K fdT ["arity", "mirror", "centre", "degree", "swap"] []) :
    FnOk P w K mg base CX0 7 f fd ["self", "arity", "mirror", "centre", "degree", "swap"] (spUInit CR CU) := by
  refine F.ok scUInit (fun vs H Q E h => ?_) (fun cdv A outer s H vs Q E hr h => ?_)
  · obtain ⟨p, dx, f, c, rfl, _⟩ := h
    rfl
  · obtain ⟨p, dx, f, c, rfl, hp, ok, cv, q⟩ := h
    have r4 : Room 4 _ := hr.mono (by decide)
    refine ⟨_, pss_cons (ps_expr (pe_call GCh r4 (by rfl) DC.gl DC.kp bC .nil pass0 (pa_cons (pv 1) (pa_cons (pv 2) (pa_cons (pv 3) (pa_cons (pv 4) (pa_cons (pv 5) pa_nil)))))))
      (pss_cons (ps_fld (pv 0) (pv 1) rfl)
      (pss_cons (ps_fld (pv 0) (pv 2) rfl)
      (C8.pss_cut (ps_fld (pv 0) (pe_call GR r4 (by rfl) DR.gl DR.kp bR .nil pass0 (pa_cons (pv 3) pa_nil)) rfl)
      (pss_cons (ps_fld (pv 0) (pv 4) rfl)
      (pss_cons (ps_fld (pv 0) (pv 5) rfl)
      (pss_one (ps_fld (pv 0) (pe_call GT hr (by rfl) DT.gl DT.kp bT .nil pass0 (pa_cons (pv 1) (pa_cons (pv 2) (pa_cons (pe_fld (pv 0) rfl) (pa_cons (pv 4) (pa_cons (pv 5) pa_nil)))))) rfl))))))), ?_⟩
    refine ⟨_, rfl, _, rfl, _, rfl, _, rfl, _, rfl, f, c, rfl, ok, cv, ?_⟩
    refine ⟨_, rfl, _, rfl, p, CU, dx, _, rfl, hp, U.cl, U.n1, (by show 0 < 1000; decide), ?_⟩
    refine ⟨_, rfl, _, rfl, p, CU, dx, u1 f, rfl, upd_same, U.cl, U.n2, by have := l1' f; omega, ?_⟩
    have b2 : But p H (upd (upd H p (.ins CU dx (u1 f))) p (.ins CU dx (u2 f))) := But.refl.upd.upd
    have h2 : upd (upd H p (.ins CU dx (u1 f))) p (.ins CU dx (u2 f)) p = some (.ins CU dx (u2 f)) := upd_same
    have n2 : (u2 f).lookup ("bottom" : Str) = none := by
      unfold u2 u1
      rw [lookup_putF, if_neg (neq _ _), lookup_putF, if_neg (neq _ _)]
      rfl
    refine ⟨fun σ H4 => ∃ r, σ = [some (.ref p), some (.int f.ar), some (ov f.mi), some c, some (oi f.dg), some (ov f.sw)] ∧ RatAt CR H4 r f.t f.b ∧ But p H H4 ∧ H4 p = some (.ins CU dx (u3 f r)) ∧ r ≠ p, ?_, ?_⟩
    · refine ⟨_, rfl, ?_⟩
      rcases cv with ⟨r, rfl, ra⟩ | ⟨rfl, eb⟩
      · have nr : r ≠ p := ra.ne hp rfl
        obtain ⟨dx', hr'⟩ := ra
        have ra2 : RatAt CR (upd (upd H p (.ins CU dx (u1 f))) p (.ins CU dx (u2 f))) r f.t f.b := ⟨dx', b2 _ _ hr' nr⟩
        refine .inl ⟨r, _, _, rfl, ra2, ?_⟩
        refine ⟨_, rfl, p, CU, dx, u2 f, rfl, h2, U.cl, U.n3, by have := l2' f; omega, r, rfl, ra2.upd nr, b2.upd, upd_same, nr⟩
      · refine .inr ⟨f.t, rfl, fun p' H3 ra3 s3 n3 => ?_⟩
        have nr : p' ≠ p := (ne_of_none h2 n3).symm
        rw [← eb] at ra3
        refine ⟨_, rfl, p, CU, dx, u2 f, rfl, s3 _ _ h2, U.cl, U.n3, by have := l2' f; omega, p', rfl, ra3.upd nr, ?_, upd_same, nr⟩
        exact But.upd fun x o e n => s3 _ _ (b2 x o e n)
    · clear b2 h2
      rintro σ H4 ⟨r, rfl, ra, bt, h4, nr⟩
      refine ⟨_, rfl, _, rfl, p, CU, dx, u3 f r, rfl, h4, U.cl, U.n4, by have := l3' f r; omega, ?_⟩
      refine ⟨_, rfl, _, rfl, p, CU, dx, u4 f r, rfl, upd_same, U.cl, U.n5, by have := l4' f r; omega, ?_⟩
      have b6 : But p H (upd (upd H4 p (.ins CU dx (u4 f r))) p (.ins CU dx (u5 f r))) := bt.upd.upd
      have h6 : upd (upd H4 p (.ins CU dx (u4 f r))) p (.ins CU dx (u5 f r)) p = some (.ins CU dx (u5 f r)) := upd_same
      have ra6 : RatAt CR (upd (upd H4 p (.ins CU dx (u4 f r))) p (.ins CU dx (u5 f r))) r f.t f.b := (ra.upd nr).upd nr
      refine ⟨_, rfl, _, rfl, _, rfl, p, CU, dx, u5 f r, _, rfl, h6, U.cl, U.n3, gCe5 f r, _, rfl, _, rfl, f, r, rfl, ok, ra6, fun H7 s7 => ?_⟩
      refine ⟨_, rfl, p, CU, dx, u5 f r, rfl, s7 _ _ h6, U.cl, U.n6, by have := l5' f r; omega, ?_⟩
      refine q _ ⟨dx, r, upd_same, (ra6.same s7).upd nr⟩ (But.upd fun x o e n => s7 _ _ (b6 x o e n))
theorem scUEq : FnScope ["self", "other"] ["self", "other"] (defScope sUEq) := ⟨rfl, rfl, rfl, by decide +kernel, rfl, by decide +kernel, by decide +kernel⟩
theorem ok_ueq {f : Addr} {fd : FuncData} (F : Fun K "__eq__" "Unseen.__eq__" sUEq f fd) (B : Bn mg) (U : UT K mg CU) : FnOk P w K mg base CX0 1 f fd ["self", "other"] (spUEq CR CU) := by
  refine F.ok scUEq (fun vs H Q E h => ?_) (fun cdv A outer s H vs Q E hr h => ?_)
  · rcases h with ⟨a, b, f, g, rfl, _⟩ | ⟨a, f, z, rfl, _⟩ <;> rfl
  · refine ⟨_, pss_one (ps_ret (pe_and (pe_callB call_isi (by rfl) B.isin (by decide +kernel) (pa_cons (pv 1) (pa_cons (pe_glob (v := .ref CU) (by rfl) U.gl rfl) pa_nil))) (pe_one (pe_cmpR op_eq (pe_fld (pv 0) rfl) (pe_fld (pv 1) rfl) (nomark _))))), ?_⟩
    rcases h with ⟨a, b, f, g, rfl, ua, ub, q⟩ | ⟨a, f, z, rfl, ua, q⟩
    · refine ⟨_, rfl, _, _, _, _, true, rfl, .own _, ub.ty U, U.kU, true, rfl, iteT ?_⟩
      obtain ⟨dx, r, ha, _⟩ := ua
      obtain ⟨dx2, r2, hb, _⟩ := ub
      refine ⟨_, rfl, a, CU, dx, _, _, rfl, ha, U.cl, U.n6, gTx f r, _, rfl, b, CU, dx2, _, _, rfl, hb, U.cl, U.n6, gTx g r2, rfl, ?_⟩
      have e2 : decide (V.str (ftext f) = V.str (ftext g)) = decide (ftext f = ftext g) := by
        by_cases z : ftext f = ftext g
        · rw [decide_eq_true z, decide_eq_true (by rw [z])]
        · rw [decide_eq_false z, decide_eq_false (fun y => z (V.str.inj y))]
      rw [e2]
      exact q
    · exact ⟨_, rfl, _, _, _, _, false, rfl, .own _, .base (.str _), U.kS, false, rfl, iteF q⟩
theorem scUStr : FnScope ["self"] ["self"] (defScope sUStr) := ⟨rfl, rfl, rfl, by decide +kernel, rfl, by decide +kernel, by decide +kernel⟩
theorem ok_ustr {f : Addr} {fd : FuncData} (F : Fun K "__str__" "Unseen.__str__" sUStr f fd) (U : UT K mg CU) : FnOk P w K mg base CX0 1 f fd ["self"] (spUStr CR CU) := by
  refine F.ok scUStr (fun vs H Q E h => ?_) (fun cdv A outer s H vs Q E hr h => ?_)
  · obtain ⟨a, f, rfl, _⟩ := h
    rfl
  · obtain ⟨a, f, rfl, ⟨dx, r, ha, ra⟩, ok, q⟩ := h
    refine ⟨_, pss_one (ps_ret (pe_joined1 (pe_fmt (pe_fld (pv 0) rfl)))), ?_⟩
    exact ⟨_, rfl, a, CU, dx, _, _, rfl, ha, U.cl, U.n6, gTx f r, .inl ⟨_, rfl, fit (ftext_len ok) (by decide), q⟩⟩
theorem scURepr : FnScope ["self"] ["self"] (defScope sURepr) := ⟨rfl, rfl, rfl, by decide +kernel, rfl, by decide +kernel, by decide +kernel⟩
theorem ok_urepr {f : Addr} {fd : FuncData} (F : Fun K "__repr__" "Unseen.__repr__" sURepr f fd) (U : UT K mg CU) : FnOk P w K mg base CX0 1 f fd ["self"] (spURepr CR CU) := by
  refine F.ok scURepr (fun vs H Q E h => ?_) (fun cdv A outer s H vs Q E hr h => ?_)
  · obtain ⟨a, f, rfl, _⟩ := h
    rfl
  · obtain ⟨a, f, rfl, ⟨dx, r, ha, ra⟩, ok, q⟩ := h
    refine ⟨_, pss_one (ps_ret (pe_joined (PJ.cons pe_str (PJ.cons (pe_fmt (pe_fld (pv 0) rfl)) (PJ.cons pe_str PJ.nil))))), ?_⟩
    refine ⟨_, rfl, ?_, ?_⟩
    · rw [empty_app]
      exact fit (m := 20) (by decide) (by decide)
    · rw [empty_app]
      refine ⟨_, rfl, a, CU, dx, _, _, rfl, ha, U.cl, U.n6, gTx f r, .inl ⟨_, rfl, fit (ftext_len ok) (by decide), _, rfl, ?_, _, rfl, ?_, q⟩⟩
      · exact fit (app_len (show (Str.ofString "Unseen(").length ≤ 20 by decide) (ftext_len ok)) (by decide)
      · exact fit (app_len (app_len (show (Str.ofString "Unseen(").length ≤ 20 by decide) (ftext_len ok)) (show (Str.ofString ")").length ≤ 20 by decide)) (by decide)
end
end K08

set_option Elab.async false
set_option linter.all false
set_option maxRecDepth 100000
set_option maxHeartbeats 4000000
namespace K08
open PySem PySem.Spec PyProof.Rows L2 Ux
abbrev sName : Stmt := top 54
abbrev sLow : Stmt := top 56
abbrev sRatio : Stmt := top 57
theorem letters_letters : letters.length = 26 := by decide +kernel
/-- n letters -/
def Lt (z : Str) (n : Nat) : Prop := z.length = n ∧ ∀ c ∈ z.cps.toList, c ∈ letters
theorem Lt.one {c : Nat} (h : c ∈ letters) : Lt ⟨#[c]⟩ 1 := ⟨rfl, fun x hx => by
  obtain rfl : x = c := List.mem_singleton.mp hx
  exact h⟩
theorem Lt.app {x y : Str} {n m : Nat} (h : Lt x n) (k : Lt y m) : Lt (x ++ y) (n + m) := by
  refine ⟨by rw [PySem.Str.length_append, h.1, k.1], fun c hc => ?_⟩
  have e : (x ++ y).cps.toList = x.cps.toList ++ y.cps.toList := Array.toList_append
  rw [e] at hc
  rcases List.mem_append.mp hc with z | z
  · exact h.2 c z
  · exact k.2 c z
def kept : List V := [.str "fn", .str "let", .str "slope"]
theorem Lt.name {z : Str} {n : Nat} (h : Lt z n) (h1 : 1 ≤ n) (h6 : n ≤ 6) (k : inV (.str z) kept = false) : nameB z = true := by
  have e : (z.cps.toList.all fun c => decide (c ∈ letters)) = true := List.all_eq_true.mpr fun c hc => decide_eq_true (h.2 c hc)
  have k' : inV (.str z) [.str "fn", .str "let", .str "slope"] = false := k
  unfold nameB
  rw [e, k', h.1, decide_eq_true h1, decide_eq_true h6]
  rfl
theorem kept_in {z : Str} (h : inV (.str z) kept = true) : z = "fn" ∨ z = "let" ∨ z = "slope" := by
  have e : ∀ x : Str, eqV (.str x) (.str z) = true → z = x := fun x hx => by
    have := of_decide_eq_true hx
    exact this.symm
  unfold inV kept at h
  simp only [List.any_cons, List.any_nil, Bool.or_false, Bool.or_eq_true] at h
  rcases h with h | h | h
  · exact .inl (e _ h)
  · exact .inr (.inl (e _ h))
  · exact .inr (.inr (e _ h))
theorem BagAt.more {H : Hp} {b : Addr} {n m : Nat} (h : BagAt H b n) (l : n ≤ m) : BagAt H b m := by
  obtain ⟨a, ns, p, g, s', c, h1, h2, h3, h4, h5, h6, h7, h8⟩ := h
  exact ⟨a, ns, p, g, s', c, h1, h2, h3, h4, h5, h6, h7, by omega⟩
theorem BagAt.same {H H' : Hp} {b : Addr} {n : Nat} (h : BagAt H b n) (s : Same H H') : BagAt H' b n := by
  obtain ⟨l, ns, p, g, s', c, hb, hl, z⟩ := h
  exact ⟨l, ns, p, g, s', c, s _ _ hb, s _ _ hl, z⟩
theorem BagAt.lst {H : Hp} {b : Addr} {n : Nat} (h : BagAt H b n) : ∃ xs, H b = some (.lst xs) := by
  obtain ⟨l, ns, p, g, s', c, hb, hl, z⟩ := h
  exact ⟨_, hb⟩
theorem but_same {b : Addr} {H H' : Hp} (s : Same H H') : Bt b H H' := ⟨fun x o e _ => s x o e, fun l r e => ⟨r, s _ _ e⟩⟩
def spName : Sp := fun vs H Q _ => ∃ (b : Addr) (n : Nat), vs = [.ref b] ∧ BagAt H b n ∧ n ≤ 900000000 ∧ ∀ (z : Str) (H' : Hp), nameB z = true → BagAt H' b (n + 7) → Bt b H H' → Q (.str z) H'
/-- the lowest terms -/
def lowT (t b : Int) : Int := t / (Nat.gcd t.natAbs b.natAbs : Nat)
def lowB (t b : Int) : Int := b / (Nat.gcd t.natAbs b.natAbs : Nat)
def spLow : Sp := fun vs H Q _ => ∃ t b : Int, vs = [.int t, .int b] ∧ 0 < b ∧ b < 1000 ∧ -1000 < t ∧ t < 1000 ∧ ∀ (p : Addr) (H' : Hp), H' p = some (.tup [.int (lowT t b), .int (lowB t b)]) → Same H H' → Q (.ref p) H'
def PairAt (H : Hp) (q : Addr) (t b : Int) : Prop := H q = some (.tup [.int t, .int b])
def spMkRatio (CR : Addr) : Sp := fun vs H Q _ => ∃ (q : Addr) (t b : Int), vs = [.ref q] ∧ PairAt H q t b ∧ 0 < b ∧ b < 1000 ∧ Nat.gcd t.natAbs b.natAbs = 1 ∧ ∀ (p : Addr) (H' : Hp), RatAt CR H' p t b → Same H H' → Q (.ref p) H'
theorem dp_bls {K : PySem.W.Frag} {H : Hp} : ∀ bs : List Bool, DpAll K H (bs.map V.bl) (bs.map PyData.bool)
  | [] => .nil
  | b :: bs => .cons (.bl b) (dp_bls bs)
section
variable {X : Cx} {CX : CXT} {k : Nat} {f : Addr} {fd : FuncData} {ps ks : List Str} {sp : Sp} {E : XK} {x : Str} {p pos : Pos} {kws : List Keyword} {tk : TA} {g : List Value → List Value → List Value} {gV : List V → List V → List V}
/-- f(k = v, ..) -/
theorem pe_callK0 (F : FnOk X.prog X.w X.K X.mg X.base CX k f fd ps sp) (hr : Room k X.A) (hg : Gl X x) (hm : X.mg x = some (.ref f)) (hk : PySem.W.keepIn X.K (.ref f) = true) (hb : KBinds X.K fd ps ks g gV) (hx : Passes CX X E)
    (hkw : PK X kws tk) (hall : (backToKw pos (keywordEach kws X.env)).all (·.1.isSome) = true := by rfl) (hks : (backToKw pos (keywordEach kws X.env)).filterMap (·.1) = ks := by rfl)
    (hdb : (x == ("__debug__" : Str)) = false := by decide)
    (hpl : ((backTo pos (starEach [] X.env)).any (·.1) || (backToKw pos (keywordEach kws X.env)).any (·.1.isNone)) = false := by rfl) :
    PE X (.Call (.Name x p) [] kws pos) (fun σ H Q => tk σ H fun zs H2 => sp (gV [] zs) H2 Q E) := by
  refine ⟨fun pins s σ H Q I h => ?_⟩
  refine wpAny_Call_Name_kw (ld_glob I hg hm ?_ hdb)
  refine PySem.W.callWith_KW0 (h₀ := X.base) I.ok.mod.kin hk hall ?_ hpl
  refine thn (hkw.run pos pins s σ H _ I h) fun ws s2 ⟨zs, H2, I2, rz, q2⟩ => ⟨I2.kIn, ?_⟩
  rw [hks]
  exact run_fnk (us := []) (vs := []) F hr hb hx I2 .nil rz q2
end
section
variable {P : Program} {w : World} {K : PySem.W.Frag} {mg : Str → Option Value} {base : Heap} {CR CU : Addr}
theorem scName : FnScope ["_law_bag_here", "_law_letters", "_law_text", "_law_k"] ["_law_bag_here"] (defScope sName) := ⟨rfl, rfl, rfl, by decide +kernel, rfl, by decide +kernel, by decide +kernel⟩
theorem letter_at {r : Int} (h0 : 0 ≤ r) (h1 : r < 26) : ∃ c, atI ("abcdefghijklmnopqrstuvwxyz" : Str).cps.toList r = some c ∧ c ∈ letters := by
  have hl : r.toNat < letters.length := by
    rw [letters_letters]
    omega
  refine ⟨letters[r.toNat], ?_, List.getElem_mem hl⟩
  have z := atI_nat (List.getElem?_eq_getElem hl)
  rw [Int.toNat_of_nonneg h0] at z
  exact z
theorem ok_name {f fP : Addr} {fd fdP : FuncData} (F : Fun K "_law_name" "_law_name" sName f fd) (B : Bn mg) (D : Dn K mg "_law_pull" fP) (G : FnOk P w K mg base CX0 1 fP fdP ["_law_bag_here", "_law_many"] spPull) (bP : Binds K fdP ["_law_bag_here", "_law_many"] []) :
    FnOk P w K mg base CX0 2 f fd ["_law_bag_here"] spName := by
  refine F.ok scName (fun vs H Q E h => ?_) (fun cdv A outer s H vs Q E hr h => ?_)
  · obtain ⟨b, n, rfl, _⟩ := h
    rfl
  · obtain ⟨b, n, rfl, bag, hn, q⟩ := h
    refine ⟨_, pss_cons (ps_set (i := 1) scName.nd rfl (Or.inl rfl) pe_str)
      (pss_cons (ps_set (i := 2) scName.nd rfl (Or.inl rfl) (pe_ix ix_str (pv 1) (pe_call G hr (by rfl) D.gl D.kp bP .nil pass0 (pa_cons (pv 0) (pa_cons pe_int pa_nil))) (fun _ _ => rfl)))
      (pss_cons (ps_for PassesOwn.never rfl (pi_range1 (by rfl) B.frange (pa_cons (pe_call G hr (by rfl) D.gl D.kp bP .nil pass0 (pa_cons (pv 0) (pa_cons pe_int pa_nil))) pa_nil)) (pg_name (i := 3) scName.nd rfl (Or.inl rfl))
        (pss_one (ps_set (i := 2) scName.nd rfl (Or.inl rfl) (pe_op op_add_str (pv 2) (pe_ix ix_str (pv 1) (pe_call G hr (by rfl) D.gl D.kp bP .nil pass0 (pa_cons (pv 0) (pa_cons pe_int pa_nil))) (fun _ _ => rfl))))))
      (pss_one (ps_ret (pe_ifExp (pt_cmpR op_in_seq (pv 2) (pe_tup (pa_cons pe_str (pa_cons pe_str (pa_cons pe_str pa_nil)))) (by rfl)) (pe_op op_add_str (pv 2) pe_str) (pv 2)))))), ?_⟩
    have e26 : ("abcdefghijklmnopqrstuvwxyz" : Str).length ≤ sizeLine := fit (m := 26) (by decide) (by decide)
    refine ⟨_, rfl, _, rfl, b, 26, n, rfl, by decide, by decide, bag, by omega, fun r H1 r0 r1 B1 f1 => ?_⟩
    obtain ⟨c, hc, hl⟩ := letter_at r0 r1
    refine ⟨_, _, c, rfl, rfl, e26, hc, ?_⟩
    refine ⟨_, rfl, b, 6, n + 1, rfl, by decide, by decide, B1, by omega, fun m H2 m0 m1 B2 f2 => ⟨m, rfl, by omega, by omega, ?_⟩⟩
    refine for_range (n := m.toNat) (fun i σ H' => ∃ (z : Str) (x3 : Option V), σ = [some (.ref b), some (.str "abcdefghijklmnopqrstuvwxyz"), some (.str z), x3] ∧ Lt z (i + 1) ∧ BagAt H' b (n + 2 + i) ∧ Bt b H H') ⟨_, none, rfl, .one hl, B2, f1.trans f2⟩ ?_ ?_
    · clear hc hl B1 B2 f1 f2
      rintro i σ H' hi ⟨z, x3, rfl, lt, B3, f3⟩
      refine ⟨_, rfl, _, rfl, _, rfl, b, 26, n + 2 + i, rfl, by decide, by decide, B3, by omega, fun r' H4 r0' r1' B4 f4 => ?_⟩
      obtain ⟨c', hc', hl'⟩ := letter_at r0' r1'
      refine ⟨_, _, c', rfl, rfl, e26, hc', _, _, rfl, rfl, ?_, _, _, rfl, lt.app (.one hl'), B4, f3.trans f4⟩
      have e1 : (⟨#[c']⟩ : Str).length = 1 := rfl
      rw [lt.1, e1]
      exact fit (m := 10) (by omega) (by decide)
    · clear hc hl B1 B2 f1 f2
      rintro σ H3 ⟨z, x3, rfl, lt, B3, f3⟩
      refine ⟨_, rfl, (by show 3 ≤ sizeLine; decide), fun p hp => ?_⟩
      have bp : BagAt (upd H3 p (.tup [.str "fn", .str "let", .str "slope"])) b (n + 7) := (B3.same (same_upd hp)).more (by omega)
      have fp : Bt b H (upd H3 p (.tup [.str "fn", .str "let", .str "slope"])) := f3.trans (but_same (same_upd hp))
      refine ⟨p, _, rfl, .inr (.of upd_same), rfl, rfl, _, rfl, ?_⟩
      cases hk : inV (.str z) kept with
      | true =>
        have hk' : inV (.str z) [.str "fn", .str "let", .str "slope"] = true := hk
        show if (if false = true then _ else inV (.str z) [.str "fn", .str "let", .str "slope"]) = true then _ else _
        rw [hk']
        refine iteT ⟨_, rfl, _, _, rfl, rfl, ?_, q _ _ ?_ bp fp⟩
        · rw [lt.1]
          exact fit (m := 10) (by show m.toNat + 1 + 1 ≤ 10; omega) (by decide)
        · rcases kept_in hk with rfl | rfl | rfl <;> decide +kernel
      | false =>
        have hk' : inV (.str z) [.str "fn", .str "let", .str "slope"] = false := hk
        show if (if false = true then _ else inV (.str z) [.str "fn", .str "let", .str "slope"]) = true then _ else _
        rw [hk']
        exact iteF ⟨_, rfl, q _ _ (lt.name (by omega) (by omega) hk) bp fp⟩
theorem scLow : FnScope ["_law_top", "_law_bottom", "_law_one", "_law_other", "_law_sign"] ["_law_top", "_law_bottom"] (defScope sLow) := ⟨rfl, rfl, rfl, by decide +kernel, rfl, by decide +kernel, by decide +kernel⟩
theorem ok_low {f : Addr} {fd : FuncData} (F : Fun K "_law_low" "_law_low" sLow f fd) (B : Bn mg) : FnOk P w K mg base CX0 1 f fd ["_law_top", "_law_bottom"] spLow := by
  refine F.ok scLow (fun vs H Q E h => ?_) (fun cdv A outer s H vs Q E hr h => ?_)
  · obtain ⟨t, b, rfl, _⟩ := h
    rfl
  · obtain ⟨t, b, rfl, b0, b1, t0, t1, q⟩ := h
    refine ⟨_, pss_cons (ps_par (i := 2) (j := 3) rfl scLow.nd rfl rfl (by decide) rfl rfl (pa_cons (pe_callB call_abs (by rfl) B.fabs (by decide +kernel) (pa_cons (pv 0) pa_nil)) (pa_cons (pe_callB call_abs (by rfl) B.fabs (by decide +kernel) (pa_cons (pv 1) pa_nil)) pa_nil)) rfl)
      (pss_cons (ps_while PassesOwn.never (pt_cmpR op_ne (pv 3) pe_int (nomark _)) (pss_one (ps_par (i := 2) (j := 3) rfl scLow.nd rfl rfl (by decide) rfl rfl (pa_cons (pv 3) (pa_cons (pe_op op_mod (pe_callTy call_int1 (by rfl) B.tint (by decide +kernel) (pa_cons (pv 2) pa_nil)) (pv 3)) pa_nil)) rfl)))
      (pss_cons (ps_set (i := 4) scLow.nd rfl (Or.inl rfl) (pe_ifExp (pt_cmpR op_lt (pv 1) pe_int (nomark _)) (pe_un un_neg pe_int) pe_int))
      (pss_one (ps_ret (pe_tup (pa_cons (pe_op op_fdivN (pe_op op_mul (pv 4) (pv 0)) (pv 2)) (pa_cons (pe_op op_fdivN (pe_op op_mul (pv 4) (pv 1)) (pv 2)) pa_nil))))))), ?_⟩
    refine ⟨_, rfl, _, rfl, _, rfl, _, rfl, _, _, rfl, ?_⟩
    have ea : ∀ n : Int, (if n < 0 then -n else n) = ((n.natAbs : Nat) : Int) := fun n => by split <;> omega
    rw [ea, ea]
    refine while_by (fun σ H' => ∃ x y : Nat, σ = [some (.int t), some (.int b), some (.int x), some (.int y), none] ∧ H' = H ∧ Nat.gcd x y = Nat.gcd t.natAbs b.natAbs ∧ x ≤ 1000 ∧ y ≤ 1000) (fun σ _ => match σ with | [_, _, _, some (.int y), _] => y.natAbs | _ => 0) ⟨_, _, rfl, rfl, rfl, by omega, by omega⟩ ?_ ?_
    · rintro σ H' ⟨x, y, rfl, rfl, g, hx, hy⟩
      refine ⟨_, rfl, rfl, _, rfl, ?_⟩
      by_cases z : y = 0
      · subst z
        refine iteF ?_
        rw [Nat.gcd_zero_right] at g
        have g0 : 0 < Nat.gcd t.natAbs b.natAbs := Nat.gcd_pos_of_pos_right _ (by omega)
        refine ⟨_, rfl, _, _, rfl, rfl, _, rfl, ?_⟩
        rw [decide_eq_false (by omega : ¬ b < 0)]
        refine iteF ?_
        refine ⟨_, rfl, _, rfl, _, _, rfl, rfl, .inl ⟨by omega, by omega⟩, _, rfl, _, _, rfl, rfl, ⟨by omega, by omega⟩, ?_⟩
        refine ⟨_, rfl, _, rfl, _, _, rfl, rfl, .inl ⟨by omega, by omega⟩, _, rfl, _, _, rfl, rfl, ⟨by omega, by omega⟩, (by show 2 ≤ sizeLine; decide), fun p hp => ?_⟩
        refine q p _ ?_ (same_upd hp)
        have e1 : Int.fdiv t ((Nat.gcd t.natAbs b.natAbs : Nat) : Int) = lowT t b := Int.fdiv_eq_ediv_of_nonneg t (by omega)
        have e2 : Int.fdiv b ((Nat.gcd t.natAbs b.natAbs : Nat) : Int) = lowB t b := Int.fdiv_eq_ediv_of_nonneg b (by omega)
        rw [upd_same, Int.one_mul, Int.one_mul, g, ← e1, ← e2]
      · have ny : ¬ (V.int (y : Int)) = V.int 0 := fun e => z (by have := V.int.inj e; omega)
        have ey : (!decide (V.int (y : Int) = V.int 0)) = true := by
          rw [decide_eq_false ny]
          rfl
        show if (!decide (V.int (y : Int) = V.int 0)) = true then _ else _
        rw [ey]
        refine iteT ⟨_, rfl, _, rfl, .inl ⟨_, rfl, _, rfl, _, _, rfl, rfl, (by show (0 : Int) < (y : Int); omega), _, _, rfl, ?_⟩⟩
        refine ⟨⟨y, x % y, rfl, rfl, ?_, hy, ?_⟩, ?_⟩
        · rw [← g, Nat.gcd_comm x y, Nat.gcd_rec y x, Nat.gcd_comm]
        · have := Nat.mod_lt x (Nat.pos_of_ne_zero z)
          omega
        · have := Nat.mod_lt x (Nat.pos_of_ne_zero z)
          show (((x : Int) % (y : Int)).natAbs) < ((y : Int)).natAbs
          omega
    · rintro σ H' Q1 Q2 hq ⟨x, hx, e1, k, e3, z⟩
      exact ⟨x, hx, e1, k, e3, hq _ _ z⟩
theorem scRatio : FnScope ["_law_pair"] ["_law_pair"] (defScope sRatio) := ⟨rfl, rfl, rfl, by decide +kernel, rfl, by decide +kernel, by decide +kernel⟩
theorem ok_ratio {f fN : Addr} {fd fdN : FuncData} {ds : List Value} (F : Fun K "_law_ratio" "_law_ratio" sRatio f fd) (T : RT K mg CR) (M : Mk K CR fN) (G : FnOk P w K mg base CX0 2 fN fdN ["self", "top", "bottom"] (spRInit CR)) (bN : Binds K fdN ["self", "top", "bottom"] []) :
    FnOk P w K mg base CX0 4 f fd ["_law_pair"] (spMkRatio CR) := by
  refine F.ok scRatio (fun vs H Q E h => ?_) (fun cdv A outer s H vs Q E hr h => ?_)
  · obtain ⟨q, t, b, rfl, _⟩ := h
    rfl
  · obtain ⟨q0, t, b, rfl, pa, b0, b1, g, q⟩ := h
    refine ⟨_, pss_one (ps_ret (pe_make M G hr (by rfl) T.gl bN .nil pass0 (pa_cons (pe_ix ix_tup (pv 0) pe_int (fun _ _ => rfl)) (pa_cons (pe_ix ix_tup (pv 0) pe_int (fun _ _ => rfl)) pa_nil)))), ?_⟩
    refine ⟨_, rfl, q0, _, 0, _, rfl, rfl, .of pa, rfl, _, rfl, q0, _, 1, _, rfl, rfl, .of pa, rfl, fun x dx nx nd ne => ?_⟩
    refine ⟨x, dx, t, b, rfl, upd_same, b0, by omega, fun H' hx bu => ⟨rfl, ?_⟩⟩
    rw [g] at hx
    refine q x H' ⟨dx, ?_⟩ (fun c o e => bu c o ?_ (ne_of_none e nx))
    · rw [hx]
      show some (HO.ins CR dx (rf (t / 1) (b / 1))) = _
      rw [Int.ediv_one, Int.ediv_one]
    · rw [upd_ne (ne_of_none e nx), upd_ne (ne_of_none e nd)]
      exact e
end
end K08

set_option Elab.async false
set_option linter.all false
set_option maxRecDepth 100000
set_option maxHeartbeats 4000000
namespace K08
open PySem PySem.Spec PyProof.Rows L2 Ux
abbrev sFacts : Stmt := top 58
abbrev sUnseen : Stmt := top 59
def dgs : List (Option Int) := [none, some 0, some 1, some 2, some 3]
def cents : List (Int × Int) := [(-3, 1), (-2, 1), (-1, 1), (0, 1), (1, 1), (2, 1), (3, 1), (-3, 2), (-1, 2), (1, 2), (3, 2)]
def facts : List FT := ([none, some ("same" : Str), some "minus"].map fun s => FT.mk 2 none 0 1 none s) ++ (dgs.map fun d => FT.mk 1 none 0 1 d none) ++
  [("even" : Str), "odd"].flatMap fun m => cents.flatMap fun c => dgs.map fun d => FT.mk 1 (some m) c.1 c.2 d none
theorem facts_ok : ∀ f ∈ facts, FOk f ∧ Nat.gcd f.t.natAbs f.b.natAbs = 1 := by
  intro f hf
  unfold facts at hf
  rcases List.mem_append.mp hf with h | h
  · rcases List.mem_append.mp h with h | h
    · rcases List.mem_map.mp h with ⟨s, hs, rfl⟩
      refine ⟨⟨show (-100 : Int) ≤ 0 by decide, show (0 : Int) ≤ 100 by decide, show (0 : Int) < 1 by decide, show (1 : Int) ≤ 100 by decide, .inl ⟨rfl, rfl, rfl, ?_⟩, fun _ => ⟨rfl, rfl⟩⟩, (show Nat.gcd 0 1 = 1 by decide)⟩
      rcases List.mem_cons.mp hs with e | hs
      · exact .inl e
      · rcases List.mem_cons.mp hs with e | hs
        · exact .inr (.inl e)
        · exact .inr (.inr (List.mem_singleton.mp hs))
    · rcases List.mem_map.mp h with ⟨d, hd, rfl⟩
      refine ⟨⟨show (-100 : Int) ≤ 0 by decide, show (0 : Int) ≤ 100 by decide, show (0 : Int) < 1 by decide, show (1 : Int) ≤ 100 by decide, .inr ⟨rfl, rfl, .inl rfl, ?_⟩, fun _ => ⟨rfl, rfl⟩⟩, (show Nat.gcd 0 1 = 1 by decide)⟩
      have : ∀ d ∈ dgs, d = none ∨ ∃ d', d = some d' ∧ 0 ≤ d' ∧ d' ≤ 3 := by
        intro d hd
        unfold dgs at hd
        simp only [List.mem_cons, List.mem_nil_iff, or_false] at hd
        rcases hd with h | h | h | h | h
        · exact .inl h
        · exact .inr ⟨_, h, by decide, by decide⟩
        · exact .inr ⟨_, h, by decide, by decide⟩
        · exact .inr ⟨_, h, by decide, by decide⟩
        · exact .inr ⟨_, h, by decide, by decide⟩
      exact this d hd
  · rcases List.mem_flatMap.mp h with ⟨m, hm, h⟩
    rcases List.mem_flatMap.mp h with ⟨c, hc, h⟩
    rcases List.mem_map.mp h with ⟨d, hd, rfl⟩
    have cc : ∀ c ∈ cents, -100 ≤ c.1 ∧ c.1 ≤ 100 ∧ 0 < c.2 ∧ c.2 ≤ 100 ∧ Nat.gcd c.1.natAbs c.2.natAbs = 1 := by decide +kernel
    obtain ⟨c1, c2, c3, c4, c5⟩ := cc c hc
    have : ∀ d ∈ dgs, d = none ∨ ∃ d', d = some d' ∧ 0 ≤ d' ∧ d' ≤ 3 := by
      intro d hd
      unfold dgs at hd
      simp only [List.mem_cons, List.mem_nil_iff, or_false] at hd
      rcases hd with h | h | h | h | h
      · exact .inl h
      · exact .inr ⟨_, h, by decide, by decide⟩
      · exact .inr ⟨_, h, by decide, by decide⟩
      · exact .inr ⟨_, h, by decide, by decide⟩
      · exact .inr ⟨_, h, by decide, by decide⟩
    refine ⟨⟨c1, c2, c3, c4, .inr ⟨rfl, rfl, .inr ?_, this d hd⟩, fun h => by cases h⟩, c5⟩
    rcases List.mem_cons.mp hm with e | hm
    · exact .inl (congrArg some e)
    · exact .inr (congrArg some (List.mem_singleton.mp hm))
theorem mem_two (s : Option Str) (h : s = none ∨ s = some "same" ∨ s = some "minus") : FT.mk 2 none 0 1 none s ∈ facts := by
  unfold facts
  refine List.mem_append_left _ (List.mem_append_left _ (List.mem_map.mpr ⟨s, ?_, rfl⟩))
  rcases h with rfl | rfl | rfl <;> decide +kernel
theorem mem_free (d : Option Int) (h : d ∈ dgs) : FT.mk 1 none 0 1 d none ∈ facts := by
  unfold facts
  exact List.mem_append_left _ (List.mem_append_right _ (List.mem_map.mpr ⟨d, h, rfl⟩))
theorem mem_mir (m : Str) (c : Int × Int) (d : Option Int) (hm : m = "even" ∨ m = "odd") (hc : c ∈ cents) (h : d ∈ dgs) : FT.mk 1 (some m) c.1 c.2 d none ∈ facts := by
  unfold facts
  refine List.mem_append_right _ (List.mem_flatMap.mpr ⟨m, ?_, List.mem_flatMap.mpr ⟨c, hc, List.mem_map.mpr ⟨d, h, rfl⟩⟩⟩)
  rcases hm with rfl | rfl <;> decide +kernel
/-- facts of one argument, the degree changed -/
theorem facts_deg {f : FT} (h : f ∈ facts) (h2 : f.dg = some 2) : FT.mk f.ar f.mi f.t f.b (some 3) none ∈ facts := by
  have ok := (facts_ok f h).1
  have all : ∀ f ∈ facts, f.dg = some 2 → FT.mk f.ar f.mi f.t f.b (some 3) none ∈ facts := by decide +kernel
  exact all f h h2
theorem low_mem {t b : Int} (t0 : -3 ≤ t) (t1 : t ≤ 3) (hb : b = 1 ∨ b = 2) : (lowT t b, lowB t b) ∈ cents := by
  have all : ∀ t ∈ [(-3 : Int), -2, -1, 0, 1, 2, 3], ∀ b ∈ [(1 : Int), 2], (lowT t b, lowB t b) ∈ cents := by decide +kernel
  refine all t ?_ b ?_
  · simp only [List.mem_cons, List.mem_nil_iff, or_false]
    omega
  · simp only [List.mem_cons, List.mem_nil_iff, or_false]
    exact hb
def injB : Bool := facts.all fun f => facts.all fun g => !decide (ftext f = ftext g) || decide (f = g)
theorem inj_ok : injB = true := by decide +kernel
theorem ftext_inj {f g : FT} (hf : f ∈ facts) (hg : g ∈ facts) (e : ftext f = ftext g) : f = g := by
  have h := List.all_eq_true.mp (List.all_eq_true.mp inj_ok f hf) g hg
  rw [decide_eq_true e] at h
  exact of_decide_eq_true h
end K08

set_option Elab.async false
set_option linter.all false
set_option maxRecDepth 100000
set_option maxHeartbeats 4000000
namespace K08
open PySem PySem.Spec PyProof.Rows L2 Ux
def factL (f : FT) (q : Addr) : List V := [.int f.ar, ov f.mi, .ref q, oi f.dg, ov f.sw]
/-- facts as a tuple at p -/
def FactAt (H : Hp) (p : Addr) (f : FT) : Prop := ∃ q, H p = some (.tup (factL f q)) ∧ PairAt H q f.t f.b
theorem FactAt.same {H H' : Hp} {p : Addr} {f : FT} (h : FactAt H p f) (s : Same H H') : FactAt H' p f := by
  obtain ⟨q, h1, h2⟩ := h
  exact ⟨q, s _ _ h1, s _ _ h2⟩
theorem FactAt.but {H H' : Hp} {p b : Addr} {f : FT} (h : FactAt H p f) {xs : List V} (hb : H b = some (.lst xs)) (s : Bt b H H') : FactAt H' p f := by
  obtain ⟨q, h1, h2⟩ := h
  refine ⟨q, s.1 _ _ h1 fun e => ?_, s.1 _ _ h2 fun e => ?_⟩
  · rw [e, hb] at h1
    cases h1
  · rw [e] at h2
    have h3 := hb.symm.trans h2
    cases h3
def spFacts : Sp := fun vs H Q _ => ∃ (b : Addr) (n : Nat), vs = [.ref b, .bl true] ∧ BagAt H b n ∧ n ≤ 900000000 ∧ ∀ (p : Addr) (f : FT) (H' : Hp), f ∈ facts → FactAt H' p f → BagAt H' b (n + 5) → Bt b H H' → Q (.ref p) H'
def spMkUnseen (CR CU : Addr) : Sp := fun vs H Q _ => ∃ (p : Addr) (f : FT), vs = [.ref p] ∧ FactAt H p f ∧ f ∈ facts ∧ ∀ (u : Addr) (H' : Hp), UnsAt CR CU H' u f → Same H H' → Q (.ref u) H'
section
variable {P : Program} {w : World} {K : PySem.W.Frag} {mg : Str → Option Value} {base : Heap} {CR CU : Addr}
theorem scFacts : FnScope ["_law_bag_here", "_law_degrees", "_law_mirror", "_law_centre"] ["_law_bag_here", "_law_degrees"] (defScope sFacts) := ⟨rfl, rfl, rfl, by decide +kernel, rfl, by decide +kernel, by decide +kernel⟩
theorem ok_facts {f fP fO fL : Addr} {fd fdP fdO fdL : FuncData} (F : Fun K "_law_facts" "_law_facts" sFacts f fd) (B : Bn mg)
    (DP : Dn K mg "_law_pull" fP) (GP : FnOk P w K mg base CX0 1 fP fdP ["_law_bag_here", "_law_many"] spPull) (bP : Binds K fdP ["_law_bag_here", "_law_many"] [])
    (DO : Dn K mg "_law_of" fO) (GO : FnOk P w K mg base CX0 2 fO fdO ["_law_bag_here", "_law_things"] spOf) (bO : Binds K fdO ["_law_bag_here", "_law_things"] [])
    (DL : Dn K mg "_law_low" fL) (GL : FnOk P w K mg base CX0 1 fL fdL ["_law_top", "_law_bottom"] spLow) (bL : Binds K fdL ["_law_top", "_law_bottom"] []) :
    FnOk P w K mg base CX0 3 f fd ["_law_bag_here", "_law_degrees"] spFacts := by
  refine F.ok scFacts (fun vs H Q E h => ?_) (fun cdv A outer s H vs Q E hr h => ?_)
  · obtain ⟨b, n, rfl, _⟩ := h
    rfl
  · obtain ⟨b, n, rfl, bag, hn, q⟩ := h
    have r1 : Room 1 _ := hr.mono (by decide)
    refine ⟨_, pss_cons (ps_if (pt_cmpR op_eq (pe_call GP r1 (by rfl) DP.gl DP.kp bP .nil pass0 (pa_cons (pv 0) (pa_cons pe_int pa_nil))) pe_int (nomark _))
        (pss_one (ps_ret (pe_tup (pa_cons pe_int (pa_cons pe_non (pa_cons (pe_tup (pa_cons pe_int (pa_cons pe_int pa_nil))) (pa_cons pe_non (pa_cons (pe_call GO hr (by rfl) DO.gl DO.kp bO .nil pass0 (pa_cons (pv 0) (pa_cons (pe_lst (pa_cons pe_non (pa_cons pe_str (pa_cons pe_str pa_nil)))) pa_nil))) pa_nil)))))))) pss_nil)
      (pss_cons (ps_set (i := 2) scFacts.nd rfl (Or.inl rfl) (pe_call GO hr (by rfl) DO.gl DO.kp bO .nil pass0 (pa_cons (pv 0) (pa_cons (pe_lst (pa_cons pe_non (pa_cons pe_non (pa_cons pe_str (pa_cons pe_str pa_nil))))) pa_nil))))
      (C8.pss_cut (ps_set (i := 3) scFacts.nd rfl (Or.inl rfl) (pe_ifExp (pt_cmpR op_notN (pv 2) pe_non (nomark _))
          (pe_call GL r1 (by rfl) DL.gl DL.kp bL .nil pass0 (pa_cons (pe_op op_sub (pe_call GP r1 (by rfl) DP.gl DP.kp bP .nil pass0 (pa_cons (pv 0) (pa_cons pe_int pa_nil))) pe_int) (pa_cons (pe_op op_add pe_int (pe_call GP r1 (by rfl) DP.gl DP.kp bP .nil pass0 (pa_cons (pv 0) (pa_cons pe_int pa_nil)))) pa_nil)))
          (pe_tup (pa_cons pe_int (pa_cons pe_int pa_nil)))))
      (pss_one (ps_ret (pe_tup (pa_cons pe_int (pa_cons (pv 2) (pa_cons (pv 3) (pa_cons (pe_ifExp (pt_val (pv 1)) (pe_call GO hr (by rfl) DO.gl DO.kp bO .nil pass0 (pa_cons (pv 0) (pa_cons (pe_lst (pa_cons pe_non (pa_cons pe_int (pa_cons pe_int (pa_cons pe_int pa_nil))))) pa_nil))) pe_non) (pa_cons pe_non pa_nil)))))))))), ?_⟩
    refine ⟨_, rfl, b, 3, n, rfl, by decide, by decide, bag, by omega, fun r H1 r0 r1' B1 f1 => ⟨rfl, _, rfl, ?_⟩⟩
    by_cases z : r = 0
    · rw [decide_eq_true (show V.int r = V.int 0 by rw [z])]
      refine iteT ⟨(by show 2 ≤ sizeLine; decide), fun p0 hp0 => ?_⟩
      have B2 := B1.same (same_upd (o := .tup [.int 0, .int 1]) hp0)
      have f2 := f1.trans (but_same (same_upd (o := .tup [.int 0, .int 1]) hp0))
      refine ⟨_, rfl, (by show 3 ≤ sizeLine; decide), fun L hL => ?_⟩
      have sL := same_upd (o := .lst [V.non, .str "same", .str "minus"]) hL
      have B3 := B2.same sL
      have f3 := f2.trans (but_same sL)
      have h0 := sL _ _ (upd_same (H := H1) (a := p0) (o := .tup [.int 0, .int 1]))
      obtain ⟨ys, hb⟩ := B2.lst
      obtain ⟨ys1, hb1⟩ := B1.lst
      refine ⟨b, L, n + 1, _, rfl, B3, by omega, (ne_of_none hb hL).symm, upd_same, (by show 0 < 3; decide), (by show 3 ≤ 1000; decide), fun i v H4 hi B4 f4 => ⟨(by show 5 ≤ sizeLine; decide), fun p hp => ?_⟩⟩
      have hv : ∃ sw : Option Str, v = ov sw ∧ (sw = none ∨ sw = some "same" ∨ sw = some "minus") := by
        match i, hi with
        | 0, hi => exact ⟨none, (Option.some.inj hi).symm, .inl rfl⟩
        | 1, hi => exact ⟨some "same", (Option.some.inj hi).symm, .inr (.inl rfl)⟩
        | 2, hi => exact ⟨some "minus", (Option.some.inj hi).symm, .inr (.inr rfl)⟩
      obtain ⟨sw, rfl, hsw⟩ := hv
      have nb : p0 ≠ b := (ne_of_none hb1 hp0).symm
      have h4 := f4.1 _ _ h0 nb
      exact q p (FT.mk 2 none 0 1 none sw) _ (mem_two sw hsw) ⟨p0, upd_same, same_upd hp _ _ h4⟩ ((B4.same (same_upd hp)).more (by omega)) ((f3.trans f4).trans (but_same (same_upd hp)))
    · rw [decide_eq_false (fun e => z (V.int.inj e) : ¬ V.int r = V.int 0)]
      refine iteF ⟨_, rfl, (by show 4 ≤ sizeLine; decide), fun L hL => ?_⟩
      have sL := same_upd (o := .lst [V.non, V.non, .str "even", .str "odd"]) hL
      have B2 := B1.same sL
      have f2 := f1.trans (but_same sL)
      obtain ⟨ys, hb⟩ := B1.lst
      refine ⟨b, L, n + 1, _, rfl, B2, by omega, (ne_of_none hb hL).symm, upd_same, (by show 0 < 4; decide), (by show 4 ≤ 1000; decide), fun i v H3 hi B3 f3' => ?_⟩
      have f3 := f2.trans f3'
      have hv : ∃ mi : Option Str, v = ov mi ∧ (mi = none ∨ mi = some "even" ∨ mi = some "odd") := by
        match i, hi with
        | 0, hi => exact ⟨none, (Option.some.inj hi).symm, .inl rfl⟩
        | 1, hi => exact ⟨none, (Option.some.inj hi).symm, .inl rfl⟩
        | 2, hi => exact ⟨some "even", (Option.some.inj hi).symm, .inr (.inl rfl)⟩
        | 3, hi => exact ⟨some "odd", (Option.some.inj hi).symm, .inr (.inr rfl)⟩
      obtain ⟨mi, rfl, hmi⟩ := hv
      clear hi f3' hL sL B2 f2 hb f1 B1
      refine ⟨fun σ H' => ∃ (q0 : Addr) (t b' : Int), σ = [some (.ref b), some (.bl true), some (ov mi), some (.ref q0)] ∧ PairAt H' q0 t b' ∧ (∀ d ∈ dgs, FT.mk 1 mi t b' d none ∈ facts) ∧ BagAt H' b (n + 4) ∧ Bt b H H', ?_, ?_⟩
      · cases hm : mi with
        | none =>
          refine ⟨_, rfl, rfl, _, rfl, iteF ⟨(by show 2 ≤ sizeLine; decide), fun p hp => ?_⟩⟩
          exact ⟨p, 0, 1, rfl, upd_same, fun d hd => mem_free d hd, (B3.same (same_upd hp)).more (by omega), f3.trans (but_same (same_upd hp))⟩
        | some m =>
          rw [hm] at hmi
          have hmm : m = "even" ∨ m = "odd" := by
            rcases hmi with h | h | h
            · cases h
            · exact .inl (Option.some.inj h)
            · exact .inr (Option.some.inj h)
          refine ⟨_, rfl, rfl, _, rfl, iteT ?_⟩
          refine ⟨_, rfl, b, 7, n + 2, rfl, by decide, by decide, B3, by omega, fun x H4 x0 x1 B4 f4 => ⟨_, _, rfl, rfl, ?_⟩⟩
          refine ⟨_, rfl, b, 2, n + 3, rfl, by decide, by decide, B4, by omega, fun y H5 y0 y1 B5 f5 => ⟨_, _, rfl, rfl, ?_⟩⟩
          refine ⟨x - 3, 1 + y, rfl, by omega, by omega, by omega, by omega, fun p H6 hp s6 => ?_⟩
          refine ⟨p, lowT (x - 3) (1 + y), lowB (x - 3) (1 + y), rfl, hp, fun d hd => mem_mir m _ d hmm (low_mem (by omega) (by omega) (by omega)) hd, B5.same s6, ?_⟩
          exact ((f3.trans f4).trans f5).trans (but_same s6)
      · clear B3 f3 H3
        rintro σ H3 ⟨q0, t, b', rfl, pa, mem, B3, f3⟩
        refine ⟨_, rfl, _, rfl, _, rfl, true, rfl, iteT ?_⟩
        refine ⟨_, rfl, (by show 4 ≤ sizeLine; decide), fun L hL => ?_⟩
        have sL := same_upd (o := .lst [V.non, .int 0, .int 1, .int 2]) hL
        obtain ⟨ys, hb⟩ := B3.lst
        refine ⟨b, L, n + 4, _, rfl, B3.same sL, by omega, (ne_of_none hb hL).symm, upd_same, (by show 0 < 4; decide), (by show 4 ≤ 1000; decide), fun i v H4 hi B4 f4 => ?_⟩
        have hv : ∃ d : Option Int, v = oi d ∧ d ∈ dgs := by
          match i, hi with
          | 0, hi => exact ⟨none, (Option.some.inj hi).symm, by decide⟩
          | 1, hi => exact ⟨some 0, (Option.some.inj hi).symm, by decide⟩
          | 2, hi => exact ⟨some 1, (Option.some.inj hi).symm, by decide⟩
          | 3, hi => exact ⟨some 2, (Option.some.inj hi).symm, by decide⟩
        obtain ⟨d, rfl, hd⟩ := hv
        refine ⟨(by show 5 ≤ sizeLine; decide), fun p hp => ?_⟩
        have nq : q0 ≠ b := fun e => by
          rw [e] at pa
          have := hb.symm.trans pa
          cases this
        have p4 := f4.1 _ _ (sL _ _ pa) nq
        exact q p (FT.mk 1 mi t b' d none) _ (mem d hd) ⟨q0, upd_same, same_upd hp _ _ p4⟩ ((B4.same (same_upd hp)).more (by omega)) (((f3.trans (but_same sL)).trans f4).trans (but_same (same_upd hp)))
theorem scUnseen : FnScope ["_law_fact"] ["_law_fact"] (defScope sUnseen) := ⟨rfl, rfl, rfl, by decide +kernel, rfl, by decide +kernel, by decide +kernel⟩
abbrev pU : List Str := ["self", "arity", "mirror", "centre", "degree", "swap"]
theorem ok_unseen {f fN fR : Addr} {fd fdN fdR : FuncData} {g : List Value → List Value → List Value} (F : Fun K "_law_unseen" "_law_unseen" sUnseen f fd) (U : UT K mg CU)
    (DR : Dn K mg "_law_ratio" fR) (GR : FnOk P w K mg base CX0 4 fR fdR ["_law_pair"] (spMkRatio CR)) (bR : Binds K fdR ["_law_pair"] [])
    (M : Mk K CU fN) (G : FnOk P w K mg base CX0 7 fN fdN pU (spUInit CR CU)) (bN : KBn K fdN pU 2 ["mirror", "centre", "degree", "swap"] g (fun vs zs => vs ++ zs)) :
    FnOk P w K mg base CX0 9 f fd ["_law_fact"] (spMkUnseen CR CU) := by
  refine F.ok scUnseen (fun vs H Q E h => ?_) (fun cdv A outer s H vs Q E hr h => ?_)
  · obtain ⟨p, f, rfl, _⟩ := h
    rfl
  · obtain ⟨p, f, rfl, fa, mem, q⟩ := h
    have r4 : Room 4 _ := hr.mono (by decide)
    refine ⟨_, pss_one (ps_ret (pe_makeN M G hr (by rfl) U.gl bN pass0 (pa_cons (pe_ix ix_tup (pv 0) pe_int (fun _ _ => rfl)) pa_nil)
      (pk_cons (pe_ix ix_tup (pv 0) pe_int (fun _ _ => rfl)) (pk_cons (pe_call GR r4 (by rfl) DR.gl DR.kp bR .nil pass0 (pa_cons (pe_ix ix_tup (pv 0) pe_int (fun _ _ => rfl)) pa_nil)) (pk_cons (pe_ix ix_tup (pv 0) pe_int (fun _ _ => rfl)) (pk_cons (pe_ix ix_tup (pv 0) pe_int (fun _ _ => rfl)) pk_nil)))))), ?_⟩
    obtain ⟨q0, hp, hq⟩ := id fa
    obtain ⟨ok, cop⟩ := facts_ok f mem
    obtain ⟨t0, t1, b0, b1, _⟩ := id ok
    refine ⟨_, rfl, p, _, 0, _, rfl, rfl, .of hp, rfl, _, rfl, p, _, 1, _, rfl, rfl, .of hp, rfl, _, rfl, p, _, 2, _, rfl, rfl, .of hp, rfl, ?_⟩
    refine ⟨q0, f.t, f.b, rfl, hq, b0, by omega, cop, fun r H1 ra s1 => ?_⟩
    have hp1 := s1 _ _ hp
    refine ⟨_, rfl, p, _, 3, _, rfl, rfl, .of hp1, rfl, _, rfl, p, _, 4, _, rfl, rfl, .of hp1, rfl, rfl, rfl, fun x dx nx nd ne => ?_⟩
    obtain ⟨dr, hr1⟩ := id ra
    have nr : r ≠ x := ne_of_none hr1 nx
    have nr2 : r ≠ dx := ne_of_none hr1 nd
    refine ⟨x, dx, f, .ref r, rfl, upd_same, ok, .inl ⟨r, rfl, (ra.upd nr2).upd nr⟩, fun H2 un bu => ⟨rfl, q x H2 un fun c o e => ?_⟩⟩
    have e1 := s1 _ _ e
    have n1 := ne_of_none e1 nx
    refine bu c o ?_ n1
    rw [upd_ne n1, upd_ne (ne_of_none e1 nd)]
    exact e1
end
end K08

set_option Elab.async false
set_option linter.all false
set_option maxRecDepth 100000
set_option maxHeartbeats 4000000
set_option pp.maxSteps 400
namespace K08
open PySem PySem.Spec PyProof.Rows L2 Ux
/-! ### the order of texts: a sorted arrangement is one alone -/
theorem str_ext {a b : Str} (h : a.cps.toList = b.cps.toList) : a = b := by
  cases a
  cases b
  congr
  exact Array.toList_inj.mp h
theorem not_lt_le {a b : List Nat} (h : ltCps b a = false) : a ≤ b := by
  rw [ltCps_eq] at h
  exact List.not_lt.mp (of_decide_eq_false h)
theorem rising_pw : ∀ (l : List Str) (p : Str), risingS p l = true → (p :: l).Pairwise (fun a b => a.cps.toList ≤ b.cps.toList)
  | [], p, _ => List.pairwise_singleton _ _
  | x :: r, p, h => by
    unfold risingS at h
    obtain ⟨h1, h2⟩ := Bool.and_eq_true_iff.mp h
    have ih := rising_pw r x h2
    have l1 : p.cps.toList ≤ x.cps.toList := not_lt_le (by simpa using h1)
    refine List.pairwise_cons.mpr ⟨fun y hy => ?_, ih⟩
    rcases List.mem_cons.mp hy with rfl | hy
    · exact l1
    · exact List.le_trans l1 ((List.pairwise_cons.mp ih).1 y hy)
theorem sorted_pw {l : List Str} (h : sortedS l = true) : l.Pairwise (fun a b => a.cps.toList ≤ b.cps.toList) := by
  cases l with
  | nil => exact List.Pairwise.nil
  | cons x r => exact rising_pw r x h
theorem sorted_one {l m : List Str} (p : l.Perm m) (hl : sortedS l = true) (hm : sortedS m = true) : l = m :=
  List.Perm.eq_of_pairwise (fun a b _ _ h k => str_ext (List.le_antisymm h k)) (sorted_pw hl) (sorted_pw hm) p
/-! ### joins -/
theorem join_step (sep x : Str) : ∀ {l : List Str}, l ≠ [] → Str.join sep (x :: l) = x ++ sep ++ Str.join sep l
  | [], h => absurd rfl h
  | y :: r, _ => rfl
theorem app_assoc (a b c : Str) : a ++ b ++ c = a ++ (b ++ c) := PySem.Str.append_assoc a b c
theorem join_shape (sep : Str) : ∀ (pre post : List Str), ∃ A B : Str, ∀ x, Str.join sep (pre ++ x :: post) = A ++ x ++ B
  | [], [] => ⟨Str.empty, Str.empty, fun x => by
      rw [PySem.Str.empty_append, PySem.Str.append_empty]
      rfl⟩
  | [], y :: r => ⟨Str.empty, sep ++ Str.join sep (y :: r), fun x => by
      rw [PySem.Str.empty_append, List.nil_append, join_step sep x (l := y :: r) (by simp), app_assoc]⟩
  | p :: pre, post => by
    obtain ⟨A, B, h⟩ := join_shape sep pre post
    refine ⟨p ++ sep ++ A, B, fun x => ?_⟩
    rw [List.cons_append, join_step sep p (l := pre ++ x :: post) (by simp), h x]
    simp only [app_assoc]
theorem app_left {a b c : Str} (h : a ++ b = a ++ c) : b = c := by
  have e := congrArg (fun z : Str => z.cps.toList) h
  rw [show (a ++ b).cps.toList = a.cps.toList ++ b.cps.toList from Array.toList_append, show (a ++ c).cps.toList = a.cps.toList ++ c.cps.toList from Array.toList_append] at e
  exact str_ext (List.append_cancel_left e)
theorem app_right {a b c : Str} (h : b ++ a = c ++ a) : b = c := by
  have e := congrArg (fun z : Str => z.cps.toList) h
  rw [show (b ++ a).cps.toList = b.cps.toList ++ a.cps.toList from Array.toList_append, show (c ++ a).cps.toList = c.cps.toList ++ a.cps.toList from Array.toList_append] at e
  exact str_ext (List.append_cancel_right e)
theorem join_diff {sep x y : Str} {pre post : List Str} (h : Str.join sep (pre ++ x :: post) = Str.join sep (pre ++ y :: post)) : x = y := by
  obtain ⟨A, B, e⟩ := join_shape sep pre post
  rw [e x, e y] at h
  exact app_left (app_right h)
theorem split_at {c : Nat} : ∀ {a b s t : List Nat}, c ∉ a → c ∉ b → a ++ c :: s = b ++ c :: t → a = b ∧ s = t
  | [], [], s, t, _, _, h => ⟨rfl, (List.cons.inj h).2⟩
  | [], y :: b, s, t, _, hb, h => absurd ((List.cons.inj h).1 ▸ List.mem_cons_self ..) hb
  | x :: a, [], s, t, ha, _, h => absurd ((List.cons.inj h).1 ▸ List.mem_cons_self ..) ha
  | x :: a, y :: b, s, t, ha, hb, h => by
    obtain ⟨e1, e2⟩ := List.cons.inj h
    obtain ⟨e3, e4⟩ := split_at (fun m => ha (List.mem_cons_of_mem _ m)) (fun m => hb (List.mem_cons_of_mem _ m)) e2
    exact ⟨by rw [e1, e3], e4⟩
/-- no comma within -/
def NoC (z : Str) : Prop := 44 ∉ z.cps.toList
theorem cat_list (a b : Str) : (a ++ b).cps.toList = a.cps.toList ++ b.cps.toList := Array.toList_append
theorem comma : (Str.ofString ", ").cps.toList = [44, 32] := by decide +kernel
theorem join_inj : ∀ {xs ys : List Str}, (∀ x ∈ xs, NoC x) → (∀ y ∈ ys, NoC y) → xs.length = ys.length → Str.join ", " xs = Str.join ", " ys → xs = ys
  | [], [], _, _, _, _ => rfl
  | [x], [y], _, _, _, h => by
    have e : x = y := h
    rw [e]
  | x :: x2 :: r, y :: y2 :: t, hx, hy, hl, h => by
    rw [join_step ", " x (l := x2 :: r) (by simp), join_step ", " y (l := y2 :: t) (by simp)] at h
    have e := congrArg (fun z : Str => z.cps.toList) h
    simp only [cat_list, comma, List.append_assoc, List.cons_append, List.nil_append] at e
    obtain ⟨e1, e2⟩ := split_at (hx x (List.mem_cons_self ..)) (hy y (List.mem_cons_self ..)) e
    have e3 := str_ext (List.cons.inj e2).2
    rw [str_ext e1, join_inj (fun z hz => hx z (List.mem_cons_of_mem _ hz)) (fun z hz => hy z (List.mem_cons_of_mem _ hz)) (Nat.succ.inj hl) e3]
theorem name_noC {z : Str} (h : nameB z = true) : NoC z := fun m => by
  unfold nameB at h
  simp only [Bool.and_eq_true] at h
  have h2 := List.all_eq_true.mp h.2.1 44 m
  have h3 : decide (44 ∈ letters) = false := by decide +kernel
  rw [h3] at h2
  cases h2
theorem join_len {m : Nat} (sep : Str) : ∀ (xs : List Str), (∀ x ∈ xs, x.length ≤ m) → (Str.join sep xs).length ≤ xs.length * (m + sep.length)
  | [], _ => Nat.zero_le _
  | [x], h => by
    have := h x (List.mem_cons_self ..)
    show x.length ≤ 1 * (m + sep.length)
    omega
  | x :: y :: r, h => by
    have h1 := h x (List.mem_cons_self ..)
    have ih := join_len sep (y :: r) (fun z hz => h z (List.mem_cons_of_mem _ hz))
    rw [join_step sep x (l := y :: r) (by simp), PySem.Str.length_append, PySem.Str.length_append]
    have e : (x :: y :: r).length * (m + sep.length) = (y :: r).length * (m + sep.length) + (m + sep.length) := by
      rw [List.length_cons, Nat.succ_mul]
    omega
theorem sum_len {m : Nat} : ∀ (xs : List Str), (∀ x ∈ xs, x.length ≤ m) → (xs.map (·.length)).sum ≤ xs.length * m
  | [], _ => Nat.zero_le _
  | x :: r, h => by
    have h1 := h x (List.mem_cons_self ..)
    have ih := sum_len r (fun z hz => h z (List.mem_cons_of_mem _ hz))
    rw [List.map_cons, List.sum_cons, List.length_cons, Nat.succ_mul]
    omega
end K08

set_option Elab.async false
set_option linter.all false
set_option maxRecDepth 100000
set_option maxHeartbeats 4000000
set_option pp.maxSteps 400
namespace K08
open PySem PySem.Spec PyProof.Rows L2 Ux
abbrev sChkN : Stmt := top 46
abbrev sWText : Stmt := top 47
abbrev sWInit : Stmt := inClass (top 48) 1
abbrev sWIns : Stmt := inClass (top 48) 2
abbrev sWFuns : Stmt := inClass (top 48) 3
abbrev sWFact : Stmt := inClass (top 48) 4
abbrev sWWith : Stmt := inClass (top 48) 5
abbrev sWCont : Stmt := inClass (top 48) 6
abbrev sWLen : Stmt := inClass (top 48) 7
abbrev sWEq : Stmt := inClass (top 48) 8
abbrev sWStr : Stmt := inClass (top 48) 9
abbrev sWRepr : Stmt := inClass (top 48) 10
/-- more built-ins that still stand -/
structure Bm (mg : Str → Option Value) : Prop where
  bn : Bn mg
  tset : mg "set" = none
  fsort : mg "sorted" = none
theorem nameB_len {z : Str} (h : nameB z = true) : z.length ≤ 6 := by
  unfold nameB at h
  simp only [Bool.and_eq_true] at h
  exact of_decide_eq_true h.1.2
def spChkN : Sp := fun vs H Q _ => ∃ (l : Addr) (zs : List Str), vs = [.ref l] ∧ H l = some (.lst (zs.map V.str)) ∧ zs.Nodup ∧ (∀ z ∈ zs, nameB z = true) ∧ zs.length ≤ 1000 ∧ ∀ H', Same H H' → Q .non H'
theorem at_map {zs : List Str} {i : Nat} {x : V} (h : (zs.map V.str)[i]? = some x) : ∃ z, zs[i]? = some z ∧ x = .str z := by
  rw [List.getElem?_map] at h
  cases e : zs[i]? with
  | none => rw [e] at h; cases h
  | some z => rw [e] at h; exact ⟨z, rfl, (Option.some.inj h).symm⟩
theorem not_taken {zs : List Str} (nd : zs.Nodup) {i : Nat} {z : Str} (h : zs[i]? = some z) : z ∉ zs.take i := fun m => by
  obtain ⟨j, hj⟩ := List.mem_iff_getElem?.mp m
  rw [List.getElem?_take] at hj
  split at hj
  · rename_i lt
    have e := (List.getElem?_inj (List.getElem?_eq_some_iff.mp h).1 nd).mp (h.trans hj.symm)
    omega
  · cases hj
theorem take_more {zs : List Str} {i : Nat} {z y : Str} (h : zs[i]? = some z) (m : y ∈ zs.take i ∨ y = z) : y ∈ zs.take (i + 1) := by
  rw [List.take_add_one, h]
  rcases m with m | rfl
  · exact List.mem_append_left _ m
  · exact List.mem_append_right _ (by simp)
section
variable {P : Program} {w : World} {K : PySem.W.Frag} {mg : Str → Option Value} {base : Heap} {CR CU : Addr}
theorem scChkN : FnScope ["names", "name", "seen"] ["names"] (defScope sChkN) := ⟨rfl, rfl, rfl, by decide +kernel, rfl, by decide +kernel, by decide +kernel⟩
theorem ok_chkN {f fN : Addr} {fd fdN : FuncData} (F : Fun K "check_names" "check_names" sChkN f fd) (B : Bm mg) (DN : Dn K mg "is_name" fN) (GN : FnOk P w K mg base CX0 1 fN fdN ["value"] (spIsName K)) (bN : Binds K fdN ["value"] []) :
    FnOk P w K mg base CX0 2 f fd ["names"] spChkN := by
  refine F.ok scChkN (fun vs H Q E h => ?_) (fun cdv A outer s H vs Q E hr h => ?_)
  · obtain ⟨l, zs, rfl, _⟩ := h
    rfl
  · obtain ⟨l, zs, rfl, hl, nd, nm, few, q⟩ := h
    refine ⟨_, pss_cons (ps_for PassesOwn.never rfl (pi_list (pv 0)) (pg_name (i := 1) scChkN.nd rfl (Or.inl rfl)) (pss_one (ps_if (pt_not (pt_val (pe_call GN hr (by rfl) DN.gl DN.kp bN .nil pass0 (pa_cons (pv 1) pa_nil)))) (pss_one ps_never) pss_nil)))
      (pss_cons (ps_set (i := 2) scChkN.nd rfl (Or.inl rfl) (pe_callTy0 cr_set0K (by rfl) B.tset (by decide +kernel)))
      (pss_one (ps_for PassesOwn.never rfl (pi_list (pv 0)) (pg_name (i := 1) scChkN.nd rfl (Or.inl rfl))
        (pss_cons (ps_if (pt_cmpR or_sinK (pv 1) (pv 2) (by rfl)) (pss_one ps_never) pss_nil) (pss_one (ps_expr (pe_saddK (pv 2) (pa_cons (pv 1) pa_nil)))))))), ?_⟩
    refine ⟨_, rfl, l, rfl, ⟨_, .of hl⟩, for_list (xs := zs.map V.str) (fun i σ H' => (∃ x1, σ = [some (.ref l), x1, none]) ∧ Same H H') ⟨⟨none, rfl⟩, Same.refl _⟩ (fun i σ H' _ z => .of (z.2 _ _ hl)) ?_ ?_⟩
    · rintro i x σ H1 hx ⟨⟨x1, rfl⟩, s1⟩
      obtain ⟨z, hz, rfl⟩ := at_map hx
      have nz := nm z (List.mem_of_getElem? hz)
      refine ⟨_, rfl, .inl ⟨z, rfl, by have := nameB_len nz; omega, fun H2 s2 => ⟨_, rfl, ?_⟩⟩⟩
      rw [nz]
      exact iteF ⟨⟨_, rfl⟩, s1.trans s2⟩
    · rintro σ H1 ⟨⟨x1, rfl⟩, s1⟩
      refine ⟨rfl, fun p hp => ?_⟩
      have s2 : Same H (upd H1 p (SetK P w p (fun _ => false) 0)) := s1.trans (same_upd hp)
      refine ⟨_, rfl, l, rfl, ⟨_, .of (s2 _ _ hl)⟩, for_list (xs := zs.map V.str) (fun i σ H' => ∃ x1 S n, σ = [some (.ref l), x1, some (.ref p)] ∧ H' p = some (SetK P w p S n) ∧ Same H H' ∧ (∀ z, S (Sum.inr z) = true → z ∈ zs.take i) ∧ n ≤ i) ⟨x1, _, 0, rfl, upd_same, s2, (fun (z : Str) (hz : false = true) => Bool.noConfusion hz), Nat.le_refl _⟩ (fun i σ H' _ z => by
          obtain ⟨_, _, _, _, _, s3, _⟩ := z
          exact .of (s3 _ _ hl)) ?_ ?_⟩
      · rintro i x σ H2 hx ⟨x1, S, n, rfl, hS, s3, sub, hn⟩
        obtain ⟨z, hz, rfl⟩ := at_map hx
        have hi : i < zs.length := (List.getElem?_eq_some_iff.mp hz).1
        have out : S (Sum.inr z) = false := by
          cases e : S (Sum.inr z) with
          | false => rfl
          | true => exact absurd (sub z e) (not_taken nd hz)
        refine ⟨_, rfl, _, rfl, Sum.inr z, p, S, n, rfl, rfl, hS, _, rfl, ?_⟩
        rw [if_neg (by decide), out]
        refine iteF ⟨_, rfl, ⟨p, S, n, rfl, hS⟩, _, rfl, p, Sum.inr z, S, n, rfl, rfl, hS, by show n + 1 < 4096; omega, ?_⟩
        have np : ∀ c o, H c = some o → c ≠ p := fun c o e => by
          intro z
          subst z
          have := s1 _ _ e
          rw [hp] at this
          cases this
        refine ⟨_, _, _, rfl, upd_same, fun c o e => (upd_ne (np c o e)).trans (s3 _ _ e), fun y hy => ?_, ?_⟩
        · rcases Bool.or_eq_true_iff.mp hy with h | h
          · exact take_more hz (.inl (sub y h))
          · exact take_more hz (.inr (Sum.inr.inj (of_decide_eq_true h)))
        · rw [out]
          show n + 1 ≤ i + 1
          omega
      · rintro σ H2 ⟨x1, S, n, rfl, hS, s3, _⟩
        exact q _ s3
end
end K08

set_option Elab.async false
set_option linter.all false
set_option maxRecDepth 100000
set_option maxHeartbeats 4000000
set_option pp.maxSteps 400
namespace K08
open PySem PySem.Spec PyProof.Rows L2 Ux
theorem jeq (s : Str) (ps : List Str) : Txt.join s ps = Str.join s ps := StrLaws.glued_eq_join _ _
/-- the dict of the names ns, an object for each -/
def dkN (ns : List Str) (u : Str → Addr) : List (L2.Key × V) := ns.map fun n => (Sum.inr n, V.ref (u n))
theorem dkN_len (ns : List Str) (u : Str → Addr) : (dkN ns u).length = ns.length := List.length_map _
theorem dkN_keys (ns : List Str) (u : Str → Addr) : (dkN ns u).map (·.1) = ns.map Sum.inr := by
  unfold dkN
  rw [List.map_map]
  rfl
theorem dkN_at {ns : List Str} {u : Str → Addr} {i : Nat} {k : L2.Key} {v : V} (h : (dkN ns u)[i]? = some (k, v)) : ∃ n, ns[i]? = some n ∧ k = Sum.inr n ∧ v = .ref (u n) := by
  unfold dkN at h
  rw [List.getElem?_map] at h
  cases e : ns[i]? with
  | none => rw [e] at h; cases h
  | some n => rw [e] at h; cases h; exact ⟨n, rfl, rfl, rfl⟩
theorem dkN_val (u : Str → Addr) (n : Str) : ∀ ns : List Str, valV (dkN ns u) (Sum.inr n) = if n ∈ ns then some (.ref (u n)) else none
  | [] => by rw [if_neg (fun h => nomatch h)]; rfl
  | m :: r => by
    have ih := dkN_val u n r
    by_cases e : m = n
    · subst e
      rw [if_pos (List.mem_cons_self ..)]
      exact valV_pos (p := (Sum.inr m, V.ref (u m))) rfl
    · have e2 : ¬ (Sum.inr m : L2.Key) = Sum.inr n := fun z => e (Sum.inr.inj z)
      show valV ((Sum.inr m, V.ref (u m)) :: dkN r u) _ = _
      rw [valV_neg (p := (Sum.inr m, V.ref (u m))) e2, ih]
      by_cases h : n ∈ r
      · rw [if_pos h, if_pos (List.mem_cons_of_mem _ h)]
      · rw [if_neg h, if_neg (fun z => (List.mem_cons.mp z).elim (fun y => e y.symm) h)]
theorem dkN_in {u : Str → Addr} {n : Str} {ns : List Str} (h : n ∈ ns) : valV (dkN ns u) (Sum.inr n) = some (.ref (u n)) := by rw [dkN_val, if_pos h]
theorem dkN_out {u : Str → Addr} {n : Str} {ns : List Str} (h : n ∉ ns) : valV (dkN ns u) (Sum.inr n) = none := by rw [dkN_val, if_neg h]
theorem dkN_cong {u v : Str → Addr} {ns : List Str} (h : ∀ n ∈ ns, u n = v n) : dkN ns u = dkN ns v := List.map_congr_left fun n hn => by rw [h n hn]
/-- u with p for n -/
def putU (u : Str → Addr) (n : Str) (p : Addr) : Str → Addr := fun m => if m = n then p else u m
theorem dkN_new {u : Str → Addr} {n : Str} {ns : List Str} (p : Addr) (h : n ∉ ns) : putK (dkN ns u) (Sum.inr n) (.ref p) = dkN (ns ++ [n]) (putU u n p) := by
  rw [putK_new _ (dkN_out h)]
  unfold dkN
  rw [List.map_append]
  congr 1
  · refine List.map_congr_left fun m hm => ?_
    unfold putU
    rw [if_neg (fun e : m = n => h (by rw [← e]; exact hm))]
  · unfold putU
    rw [List.map_cons, if_pos rfl]
    rfl
theorem dkN_old {u : Str → Addr} {n : Str} {ns : List Str} (p : Addr) (h : n ∈ ns) : putK (dkN ns u) (Sum.inr n) (.ref p) = dkN ns (putU u n p) := by
  unfold putK
  have e : ((dkN ns u).any fun kv => decide (kv.1 = Sum.inr n)) = true := by
    rw [valV_any, dkN_in h]
    rfl
  rw [if_pos e]
  unfold dkN
  rw [List.map_map]
  refine List.map_congr_left fun m _ => ?_
  unfold putU
  by_cases z : m = n
  · subst z
    simp
  · rw [if_neg z]
    show (if (Sum.inr m : L2.Key) = Sum.inr n then _ else _) = _
    rw [if_neg (fun y => z (Sum.inr.inj y))]
/-! ### the text of a world -/
def ents (ns : List Str) (g : Str → FT) : List Str := ns.map fun n => (n ++ ": ") ++ ftext (g n)
def wtext (ins ns : List Str) (g : Str → FT) : Str := Txt.join ", " ins ++ "; " ++ Txt.join ", " (ents ns g)
/-- names, at most eight -/
def Nms (ns : List Str) : Prop := ns.length ≤ 8 ∧ ∀ n ∈ ns, nameB n = true
theorem Nms.len {ns : List Str} (h : Nms ns) : ∀ n ∈ ns, n.length ≤ 6 := fun n m => nameB_len (h.2 n m)
theorem ent_len {n : Str} {f : FT} (h : nameB n = true) (ok : FOk f) : ((n ++ ": ") ++ ftext f).length ≤ 408 := by
  have h1 := nameB_len h
  have h2 := ftext_len ok
  have e : (": " : Str).length = 2 := by decide
  rw [PySem.Str.length_append, PySem.Str.length_append, e]
  omega
theorem ents_len {ns : List Str} {g : Str → FT} (h : Nms ns) (ok : ∀ n ∈ ns, FOk (g n)) : ∀ x ∈ ents ns g, x.length ≤ 408 := fun x m => by
  obtain ⟨n, hn, rfl⟩ := List.mem_map.mp m
  exact ent_len (h.2 n hn) (ok n hn)
theorem sep_len : (", " : Str).length = 2 := by decide
theorem ins_len {ns : List Str} (h : Nms ns) : (Txt.join ", " ns).length ≤ 64 := by
  rw [jeq]
  have := join_len ", " ns h.len
  rw [sep_len] at this
  have := h.1
  omega
theorem fns_len {ns : List Str} {g : Str → FT} (h : Nms ns) (ok : ∀ n ∈ ns, FOk (g n)) : (Txt.join ", " (ents ns g)).length ≤ 3280 := by
  rw [jeq]
  have h1 := join_len ", " (ents ns g) (ents_len h ok)
  rw [sep_len] at h1
  have h2 : (ents ns g).length = ns.length := List.length_map _
  have h3 := h.1
  have h4 : (ents ns g).length * (408 + 2) ≤ 8 * 410 := Nat.mul_le_mul (by omega) (by decide)
  omega
theorem wtext_len {ins ns : List Str} {g : Str → FT} (hi : Nms ins) (h : Nms ns) (ok : ∀ n ∈ ns, FOk (g n)) : (wtext ins ns g).length ≤ 3400 := by
  have h1 := ins_len hi
  have h2 := fns_len h ok
  have e : ("; " : Str).length = 2 := by decide
  unfold wtext
  rw [PySem.Str.length_append, PySem.Str.length_append, e]
  omega
theorem wtext_ins {ins jns ns ms : List Str} {g : Str → FT} (hi : Nms ins) (hj : Nms jns) (hl : ins.length = jns.length) (h : wtext ins ns g = wtext jns ns g) : ins = jns := by
  unfold wtext at h
  have e := app_right (app_right h)
  rw [jeq, jeq] at e
  exact join_inj (fun x m => name_noC (hi.2 x m)) (fun x m => name_noC (hj.2 x m)) hl e
/-- other facts for n -/
def putG (g : Str → FT) (n : Str) (f : FT) : Str → FT := fun m => if m = n then f else g m
theorem ents_put {ns : List Str} {g : Str → FT} {n : Str} {f : FT} (nd : ns.Nodup) (m : n ∈ ns) : ∃ pre post, ents ns g = pre ++ ((n ++ ": ") ++ ftext (g n)) :: post ∧ ents ns (putG g n f) = pre ++ ((n ++ ": ") ++ ftext f) :: post := by
  obtain ⟨a, b, e⟩ := List.append_of_mem m
  subst e
  have na : n ∉ a := fun z => (List.nodup_append.mp nd).2.2 n z n (List.mem_cons_self ..) rfl
  have nb : n ∉ b := (List.nodup_cons.mp (List.nodup_append.mp nd).2.1).1
  have k : ∀ c : List Str, n ∉ c → (c.map fun x => (x ++ ": ") ++ ftext (putG g n f x)) = c.map fun x => (x ++ ": ") ++ ftext (g x) := fun c hc => List.map_congr_left fun x hx => by
    unfold putG
    rw [if_neg (fun z : x = n => hc (by rw [← z]; exact hx))]
  refine ⟨a.map fun x => (x ++ ": ") ++ ftext (g x), b.map fun x => (x ++ ": ") ++ ftext (g x), ?_, ?_⟩
  · unfold ents
    rw [List.map_append, List.map_cons]
  · unfold ents
    rw [List.map_append, List.map_cons, k a na, k b nb]
    unfold putG
    rw [if_pos rfl]
theorem wtext_put {ins ns : List Str} {g : Str → FT} {n : Str} {f : FT} (nd : ns.Nodup) (m : n ∈ ns) : decide (wtext ins ns (putG g n f) = wtext ins ns g) = decide (ftext f = ftext (g n)) := by
  obtain ⟨pre, post, e1, e2⟩ := ents_put (f := f) (g := g) nd m
  by_cases h : ftext f = ftext (g n)
  · rw [decide_eq_true h, decide_eq_true]
    unfold wtext
    rw [e1, e2, h]
  · rw [decide_eq_false h, decide_eq_false]
    intro z
    unfold wtext at z
    have z1 := app_left z
    rw [e1, e2, jeq, jeq] at z1
    exact h (app_left (join_diff z1))
end K08

set_option Elab.async false
set_option linter.all false
set_option maxRecDepth 100000
set_option maxHeartbeats 4000000
set_option pp.maxSteps 500
namespace K08
open PySem PySem.Spec PyProof.Rows L2 Ux
/-- what is at d is no instance -/
def NoIns (H : Hp) (d : Addr) : Prop := ∃ o, H d = some o ∧ ∀ C dx fs, o ≠ HO.ins C dx fs
theorem UnsAt.off {CR CU : Addr} {H : Hp} {a d : Addr} {f : FT} {o : HO} (h : UnsAt CR CU H a f) (n : NoIns H d) : UnsAt CR CU (upd H d o) a f := by
  obtain ⟨o2, e2, n2⟩ := n
  obtain ⟨dx, r, h1, dx2, h2⟩ := h
  refine ⟨dx, r, (upd_ne fun e => ?_).trans h1, dx2, (upd_ne fun e => ?_).trans h2⟩
  · rw [e, e2] at h1
    exact n2 _ _ _ (Option.some.inj h1)
  · rw [e, e2] at h2
    exact n2 _ _ _ (Option.some.inj h2)
theorem NoIns.dk {H : Hp} {d : Addr} {kvs : List (L2.Key × V)} (h : H d = some (.dK kvs)) : NoIns H d := ⟨_, h, fun _ _ _ z => nomatch z⟩
theorem NoIns.ls {H : Hp} {d : Addr} {xs : List V} (h : H d = some (.lst xs)) : NoIns H d := ⟨_, h, fun _ _ _ z => nomatch z⟩
/-- the Unseens of the names -/
def Uns (CR CU : Addr) (H : Hp) (ns : List Str) (u : Str → Addr) (g : Str → FT) : Prop := ∀ n ∈ ns, FOk (g n) ∧ UnsAt CR CU H (u n) (g n)
theorem Uns.same {CR CU : Addr} {H H' : Hp} {ns : List Str} {u : Str → Addr} {g : Str → FT} (h : Uns CR CU H ns u g) (s : Same H H') : Uns CR CU H' ns u g := fun n m => ⟨(h n m).1, (h n m).2.same s⟩
theorem Uns.off {CR CU : Addr} {H : Hp} {ns : List Str} {u : Str → Addr} {g : Str → FT} {d : Addr} {o : HO} (h : Uns CR CU H ns u g) (n : NoIns H d) : Uns CR CU (upd H d o) ns u g := fun m hm => ⟨(h m hm).1, (h m hm).2.off n⟩
theorem Uns.ok {CR CU : Addr} {H : Hp} {ns : List Str} {u : Str → Addr} {g : Str → FT} (h : Uns CR CU H ns u g) : ∀ n ∈ ns, FOk (g n) := fun n m => (h n m).1
def spWText (CR CU : Addr) : Sp := fun vs H Q _ => ∃ (l d : Addr) (ins ns : List Str) (u : Str → Addr) (g : Str → FT), vs = [.ref l, .ref d] ∧ H l = some (.lst (ins.map V.str)) ∧ H d = some (.dK (dkN ns u)) ∧ Nms ins ∧ Nms ns ∧ Uns CR CU H ns u g ∧ ∀ H', Same H H' → Q (.str (wtext ins ns g)) H'
section
variable {P : Program} {w : World} {K : PySem.W.Frag} {mg : Str → Option Value} {base : Heap} {CR CU : Addr}
theorem scWText : FnScope ["names", "facts", "functions", "name"] ["names", "facts"] (defScope sWText) := ⟨rfl, rfl, rfl, by decide +kernel, rfl, by decide +kernel, by decide +kernel⟩
theorem ok_wText {f fS : Addr} {fd fdS : FuncData} (F : Fun K "world_text" "world_text" sWText f fd) (M : OwnM K CU "__str__" fS) (N : FmO K CU) (G : FnOk P w K mg base CX0 1 fS fdS ["self"] (spUStr CR CU)) (bS : Binds K fdS ["self"] []) :
    FnOk P w K mg base CX0 3 f fd ["names", "facts"] (spWText CR CU) := by
  refine F.ok scWText (fun vs H Q E h => ?_) (fun cdv A outer s H vs Q E hr h => ?_)
  · obtain ⟨l, d, ins, ns, u, g, rfl, _⟩ := h
    rfl
  · obtain ⟨l, d, ins, ns, u, g, rfl, hl, hd, ni, nn, un, q⟩ := h
    refine ⟨_, C8.pss_cut (ps_lock (ps_setLc (i := 2) (own := [("name", 3)]) (g := gName 3) rfl scWText.nd rfl rfl (sw_true rfl rfl rfl (by decide +kernel)) (pi_keys (pv 1)) (blkOk_by (own := [("name", 3)]) (N := ["names", "facts", "functions", "name"]) (sc := defScope sWText) (by decide +kernel))
        (fun _ _ _ _ _ => pg_name (i := 3) scWText.nd rfl (Or.inl rfl) (hf := Or.inr rfl)) (fun _ _ _ _ _ => pts_nil)
        (fun _ _ _ _ _ => pe_joined (PJ.cons (pe_fmt (pv 3)) (PJ.cons pe_str (PJ.cons (pe_fmtO M N G bS hr (pe_dget (hu_of hr) (pv 1) (pv 3) (fun _ _ => rfl))) PJ.nil))))))
      (pss_one (ps_ret (pe_op op_add_str (pe_op op_add_str (pe_join pe_str (pv 0)) pe_str) (pe_join pe_str (pv 2))))), ?_⟩
    have hnd : NoIns H d := .dk hd
    refine ⟨fun σ H' => ∃ D, σ = [some (.ref l), some (.ref d), some (.ref D), none] ∧ H' D = some (.lst ((ents ns g).map V.str)) ∧ Same H H', ?_, ?_⟩
    · refine ⟨d, _, hd, trivial, fun od => ?_⟩
      have hL : upd H d (.frz od (.dK (dkN ns u))) d = some (.frz od (.dK (dkN ns u))) := upd_same
      have unL : Uns CR CU (upd H d (.frz od (.dK (dkN ns u)))) ns u g := un.off hnd
      have ld : l ≠ d := fun e => by
        rw [e, hd] at hl
        cases hl
      have hlL : upd H d (.frz od (.dK (dkN ns u))) l = some (.lst (ins.map V.str)) := (upd_ne ld).trans hl
      have back : ∀ H', Same (upd H d (.frz od (.dK (dkN ns u)))) H' → Same H (upd H' d (.dK (dkN ns u))) := fun H' s' c o e => by
        by_cases z : c = d
        · rw [z, hd] at e
          rw [z, upd_same]
          exact e
        · rw [upd_ne z]
          exact s' _ _ ((upd_ne z).trans e)
      generalize upd H d (.frz od (.dK (dkN ns u))) = HL at hL unL hlL back
      have el := ents_len nn un.ok
      have eln : (ents ns g).length = ns.length := List.length_map _
      refine ⟨_, rfl, d, od, rfl, .inl ⟨_, hL, fun D hD => lc_it (g := gName 3) (tt := tYes) (te := fun σ H Q => tJs [tFmt (tVar 3), tC (V.str ": "), tFmtO CU (spUStr CR CU) (tDGet (tVar 1) (tVar 3))] Str.empty σ H fun out H1 => Q (V.str out) H1) walk_keys (fun i H' => Same HL H' ∧ H' D = some (.lst (((ents ns g).take i).map V.str))) ⟨same_upd hD, upd_same⟩ (fun i H' _ z => z.1 _ _ hL) ?_ ?_⟩⟩
      · rintro i x H1 H2 hi ⟨s1, d1⟩ ⟨rfl, k, v, hk, rfl⟩
        obtain ⟨n, hn, rfl, rfl⟩ := dkN_at hk
        have mn := List.mem_of_getElem? hn
        obtain ⟨ok, ua⟩ := unL n mn
        have ua1 := ua.same s1
        obtain ⟨dx, r, hu, _⟩ := id ua1
        have ln := nameB_len (nn.2 n mn)
        refine ⟨rfl, ?_⟩
        have e2 : (": " : Str).length = 2 := by decide
        have lf := ftext_len ok
        refine ⟨_, rfl, .inl ⟨n, rfl, fit (m := 10) (by omega) (by decide), n, rfl, ?_, ": ", rfl, ?_, ?_⟩⟩
        · rw [empty_app]
          exact fit (m := 10) (by omega) (by decide)
        · rw [empty_app, PySem.Str.length_append, e2]
          exact fit (m := 10) (by omega) (by decide)
        · rw [empty_app]
          refine ⟨_, rfl, _, rfl, d, .ref (u n), rfl, .inl ⟨_, Sum.inr n, .inr ⟨od, s1 _ _ hL⟩, rfl, (dkN_in mn).symm⟩, u n, dx, _, rfl, hu, u n, g n, rfl, ua1, ok, _, rfl, _, rfl, ?_, ?_⟩
          · rw [PySem.Str.length_append, PySem.Str.length_append, e2]
            exact fit (m := 500) (by omega) (by decide)
          · refine ⟨_, d1, ?_, fun c o e => ?_, ?_⟩
            · rw [List.length_map, List.length_take]
              exact small1000 (by have := nn.1; omega)
            · rw [upd_ne (ne_of_none e hD)]
              exact s1 _ _ e
            · have ei : (ents ns g)[i]? = some ((n ++ ": ") ++ ftext (g n)) := by
                unfold ents
                rw [List.getElem?_map, hn]
                rfl
              rw [upd_same, List.take_add_one, ei, List.map_append]
              rfl
      · rintro H1 ⟨s1, d1⟩
        have dd : D ≠ d := fun e => by
          rw [e, hL] at hD
          cases hD
        rw [dkN_len, ← eln, List.take_length] at d1
        exact ⟨s1 _ _ hL, D, rfl, (upd_ne dd).trans d1, back H1 s1⟩
    · rintro σ H1 ⟨D, rfl, d2, s2⟩
      have el := ents_len nn un.ok
      have e2 : ("; " : Str).length = 2 := by decide
      have li := ins_len ni
      have lf := fns_len nn un.ok
      refine ⟨⟨_, rfl⟩, _, rfl, ", ", l, ins, rfl, rfl, .inl (.of (s2 _ _ hl)), ?_, _, _, rfl, rfl, ?_, ⟨_, rfl⟩, _, rfl, ", ", D, ents ns g, rfl, rfl, .inl (.of d2), ?_, _, _, rfl, rfl, ?_, q _ s2⟩
      · have h1 := sum_len ins ni.len
        have h2 := ni.1
        rw [sep_len]
        omega
      · rw [e2]
        exact fit (m := 500) (by omega) (by decide)
      · have h1 := sum_len (ents ns g) el
        have h2 := nn.1
        have eln : (ents ns g).length = ns.length := List.length_map _
        rw [sep_len]
        omega
      · rw [PySem.Str.length_append, e2]
        exact fit (m := 5000) (by omega) (by decide)
end
end K08

set_option Elab.async false
set_option linter.all false
set_option maxRecDepth 100000
set_option maxHeartbeats 4000000
set_option pp.maxSteps 500
namespace K08
open PySem PySem.Spec PyProof.Rows L2 Ux ClX
theorem dc_list {K : PySem.W.Frag} {a : Addr} {xs : List V} {g : TG} {tt : TT} {tk tv : TE} {js : List Nat} {σ : L2.St} {H1 : Hp} {D : Addr} {Qd : Hp → Prop} (Pv : Nat → Hp → Prop) (h0 : Pv 0 (upd H1 D (.dK []))) (there : ∀ i H, i ≤ xs.length → Pv i H → SqL K H a xs)
    (turn : ∀ i x H, xs[i]? = some x → Pv i H → g x (wipe σ js) H fun σ2 H2 => wipe σ2 js = wipe σ js ∧ tt σ2 H2 fun b H3 => if b = true then tk σ2 H3 fun y H4 => tv σ2 H4 fun z H5 => ∃ kvs k, y = kV k ∧ H5 D = some (.dK kvs) ∧ kvs.length < sizeLine ∧ Pv (i + 1) (upd H5 D (.dK (putK kvs k z))) else Pv (i + 1) H3)
    (fin : ∀ H, Pv xs.length H → Qd H) : ∃ W : Nat → Nat → Hp → Prop, (∃ m, W 0 m (upd H1 D (.dK []))) ∧ ∀ i m H, W i m H → ((Itl K a).stop i H ∧ Qd H) ∨ ((Itl K a).go i H ∧ ∃ Nx : Hp → Prop, (∀ H', Nx H' → ∃ m', m' < m ∧ W (i + 1) m' H') ∧
      ∀ x H', (Itl K a).yld i H x H' → g x (wipe σ js) H' fun σ2 H2 => wipe σ2 js = wipe σ js ∧ tt σ2 H2 fun b H3 => if b = true then tk σ2 H3 fun y H4 => tv σ2 H4 fun z H5 => ∃ kvs k, y = kV k ∧ H5 D = some (.dK kvs) ∧ kvs.length < sizeLine ∧ Nx (upd H5 D (.dK (putK kvs k z))) else Nx H3) := by
  refine ⟨fun i m H => m = xs.length - i ∧ i ≤ xs.length ∧ Pv i H, ⟨_, rfl, Nat.zero_le _, h0⟩, fun i m H hw => ?_⟩
  obtain ⟨rfl, hi, p⟩ := hw
  have q := there i H hi p
  rcases Nat.lt_or_ge i xs.length with lt | ge
  · refine .inr ⟨⟨xs, xs[i], q, List.getElem?_eq_getElem lt⟩, Pv (i + 1), fun H' p' => ⟨_, by omega, rfl, lt, p'⟩, fun x H' y => ?_⟩
    obtain ⟨rfl, y⟩ := y
    exact turn i x _ (y xs q) p
  · obtain rfl : i = xs.length := by omega
    exact .inl ⟨⟨xs, q, Nat.le_refl _⟩, fin H p⟩
/-- the class World -/
structure WT (K : PySem.W.Frag) (mg : Str → Option Value) (CW : Addr) (mc : Value) : Prop where
  cl : Cls K CW
  n1 : NoAttr K CW "_inputs"
  n2 : NoAttr K CW "_facts"
  n3 : NoAttr K CW "_names"
  n4 : NoAttr K CW "text"
  gl : mg "World" = some (.ref CW)
  ha : PySem.W.findIn K (.ref CW) "__class__" = some (some (.builtin "object.__class__"))
  hn : PySem.W.specialIn K (.builtin "object.__class__") "__get__" = some (some (.builtin "getset_descriptor.__get__"))
  ht : PySem.W.takesIn K (.builtin "object.__class__") = some true
  hm : PySem.W.mroIn K CW (.type "object") = some true
  kW : PySem.W.kitOne K (.ref CW) (.ref CW) = some true
  kS : PySem.W.kitOne K (.type "str") (.ref CW) = some false
  f1 : PySem.W.notFirst K CW (.ref CW) = true
  f2 : PySem.W.notFirst K CW (.type "str") = true
  rd : CRead K CW mc
  most : ∃ t, CVal K CW mc "MOST" (.int 4) (.int 4 t)
def w1 (li : Addr) : List (Str × V) := putF "_inputs" (.ref li) []
def w2 (li df : Addr) : List (Str × V) := putF "_facts" (.ref df) (w1 li)
def w3 (li df ln : Addr) : List (Str × V) := putF "_names" (.ref ln) (w2 li df)
def w4 (li df ln : Addr) (tx : Str) : List (Str × V) := putF "text" (.str tx) (w3 li df ln)
theorem w1l (li : Addr) : (w1 li).length ≤ 1 := putF_len _ _ _
theorem w2l (li df : Addr) : (w2 li df).length ≤ 2 := Nat.le_trans (putF_len _ _ _) (Nat.succ_le_succ (w1l li))
theorem w3l (li df ln : Addr) : (w3 li df ln).length ≤ 3 := Nat.le_trans (putF_len _ _ _) (Nat.succ_le_succ (w2l li df))
theorem w3In (li df ln : Addr) : (w3 li df ln).lookup ("_inputs" : Str) = some (.ref li) := by
  unfold w3 w2 w1
  rw [lookup_putF, if_neg (neq _ _), lookup_putF, if_neg (neq _ _), lookup_putF, if_pos rfl]
theorem w3Fa (li df ln : Addr) : (w3 li df ln).lookup ("_facts" : Str) = some (.ref df) := by
  unfold w3 w2
  rw [lookup_putF, if_neg (neq _ _), lookup_putF, if_pos rfl]
theorem wIn (li df ln : Addr) (tx : Str) : (w4 li df ln tx).lookup ("_inputs" : Str) = some (.ref li) := by
  unfold w4
  rw [lookup_putF, if_neg (neq _ _), w3In]
theorem wFa (li df ln : Addr) (tx : Str) : (w4 li df ln tx).lookup ("_facts" : Str) = some (.ref df) := by
  unfold w4
  rw [lookup_putF, if_neg (neq _ _), w3Fa]
theorem wNa (li df ln : Addr) (tx : Str) : (w4 li df ln tx).lookup ("_names" : Str) = some (.ref ln) := by
  unfold w4 w3
  rw [lookup_putF, if_neg (neq _ _), lookup_putF, if_pos rfl]
theorem wTx (li df ln : Addr) (tx : Str) : (w4 li df ln tx).lookup ("text" : Str) = some (.str tx) := by
  unfold w4
  rw [lookup_putF, if_pos rfl]
/-- inputs and functions that make a world -/
def WIn (ins ns : List Str) : Prop := (ins ++ ns).Nodup ∧ (∀ z ∈ ins ++ ns, nameB z = true) ∧ ins.length ≤ 4 ∧ ns.length ≤ 4
theorem WIn.ni {ins ns : List Str} (h : WIn ins ns) : Nms ins := ⟨by have := h.2.2.1; omega, fun n m => h.2.1 n (List.mem_append_left _ m)⟩
theorem WIn.nn {ins ns : List Str} (h : WIn ins ns) : Nms ns := ⟨by have := h.2.2.2; omega, fun n m => h.2.1 n (List.mem_append_right _ m)⟩
theorem WIn.nd {ins ns : List Str} (h : WIn ins ns) : ns.Nodup := (List.nodup_append.mp h.1).2.1
theorem WIn.perm {ins ns ms : List Str} (h : WIn ins ns) (p : ms.Perm ns) : WIn ins ms := by
  obtain ⟨a, b, c, d⟩ := h
  have q : (ins ++ ms).Perm (ins ++ ns) := List.Perm.append_left ins p
  exact ⟨q.nodup_iff.mpr a, fun z m => b z (q.mem_iff.mp m), c, by rw [p.length_eq]; exact d⟩
/-- a world at a: inputs, functions in their order, facts, all names -/
def WorldAt (CR CU CW : Addr) (H : Hp) (a : Addr) (ins ns : List Str) (g : Str → FT) (nm : List Str) : Prop := ∃ (dx li df ln : Addr) (u : Str → Addr), H a = some (.ins CW dx (w4 li df ln (wtext ins ns g))) ∧ H li = some (.lst (ins.map V.str)) ∧ H df = some (.dK (dkN ns u)) ∧ H ln = some (.lst (nm.map V.str)) ∧
  Uns CR CU H ns u g ∧ WIn ins ns ∧ sortedS ns = true ∧ nm.Perm (ins ++ ns)
theorem WorldAt.same {CR CU CW : Addr} {H H' : Hp} {a : Addr} {ins ns : List Str} {g : Str → FT} {nm : List Str} (h : WorldAt CR CU CW H a ins ns g nm) (s : Same H H') : WorldAt CR CU CW H' a ins ns g nm := by
  obtain ⟨dx, li, df, ln, u, h1, h2, h3, h4, h5, h6⟩ := h
  exact ⟨dx, li, df, ln, u, s _ _ h1, s _ _ h2, s _ _ h3, s _ _ h4, h5.same s, h6⟩
theorem WorldAt.ty {K : PySem.W.Frag} {mg : Str → Option Value} {CR CU CW : Addr} {mc : Value} {H : Hp} {a : Addr} {ins ns : List Str} {g : Str → FT} {nm : List Str} (T : WT K mg CW mc) (h : WorldAt CR CU CW H a ins ns g nm) : TyX K H (.ref a) (.ref CW) := by
  obtain ⟨dx, li, df, ln, u, h1, _⟩ := h
  exact .base (.ins h1 T.cl T.ha T.hn T.ht T.hm)
theorem keysV (ns : List Str) (u : Str → Addr) : ((dkN ns u).map fun kv => kV kv.1) = ns.map V.str := by
  unfold dkN
  rw [List.map_map]
  rfl
theorem Uns.ins {CR CU : Addr} {H : Hp} {ns : List Str} {u : Str → Addr} {g : Str → FT} {p C dx : Addr} {fs : List (Str × V)} {o : HO} (h : Uns CR CU H ns u g) (hp : H p = some (.ins C dx fs)) (m1 : fs.lookup ("arity" : Str) = none) (m2 : fs.lookup ("top" : Str) = none) : Uns CR CU (upd H p o) ns u g := fun n m => by
  obtain ⟨ok, dx2, r, h1, dx3, h2⟩ := h n m
  refine ⟨ok, dx2, r, (upd_ne fun e => ?_).trans h1, dx3, (upd_ne fun e => ?_).trans h2⟩
  · rw [e, hp] at h1
    have e1 := Option.some.inj h1
    have e2 : fs = u6 (g n) r := by injection e1
    rw [e2, gAr] at m1
    cases m1
  · rw [e, hp] at h2
    have e1 := Option.some.inj h2
    have e2 : fs = rf (g n).t (g n).b := by injection e1
    rw [e2, rf_top] at m2
    cases m2
/-- the same, its own lists and its dict new -/
def WorldNew (CR CU CW : Addr) (H0 H : Hp) (a : Addr) (ins ns : List Str) (g : Str → FT) (nm : List Str) : Prop := ∃ (dx li df ln : Addr) (u : Str → Addr), H a = some (.ins CW dx (w4 li df ln (wtext ins ns g))) ∧ H li = some (.lst (ins.map V.str)) ∧ H df = some (.dK (dkN ns u)) ∧ H ln = some (.lst (nm.map V.str)) ∧
  (Uns CR CU H ns u g ∧ WIn ins ns ∧ sortedS ns = true ∧ nm.Perm (ins ++ ns)) ∧ H0 li = none ∧ H0 df = none ∧ H0 ln = none
theorem WorldNew.at {CR CU CW : Addr} {H0 H : Hp} {a : Addr} {ins ns : List Str} {g : Str → FT} {nm : List Str} (h : WorldNew CR CU CW H0 H a ins ns g nm) : WorldAt CR CU CW H a ins ns g nm := by
  obtain ⟨dx, li, df, ln, u, h1, h2, h3, h4, h5, _⟩ := h
  exact ⟨dx, li, df, ln, u, h1, h2, h3, h4, h5⟩
theorem WorldNew.same {CR CU CW : Addr} {H0 H H' : Hp} {a : Addr} {ins ns : List Str} {g : Str → FT} {nm : List Str} (h : WorldNew CR CU CW H0 H a ins ns g nm) (s : Same H H') : WorldNew CR CU CW H0 H' a ins ns g nm := by
  obtain ⟨dx, li, df, ln, u, h1, h2, h3, h4, ⟨h5, h6⟩, h7⟩ := h
  exact ⟨dx, li, df, ln, u, s _ _ h1, s _ _ h2, s _ _ h3, s _ _ h4, ⟨h5.same s, h6⟩, h7⟩
/-- what stood there before and is no instance may change -/
theorem WorldNew.off {CR CU CW : Addr} {H0 H : Hp} {a d : Addr} {o o' : HO} {ins ns : List Str} {g : Str → FT} {nm : List Str} (h : WorldNew CR CU CW H0 H a ins ns g nm) (h0 : H0 d = some o') (n : NoIns H d) : WorldNew CR CU CW H0 (upd H d o) a ins ns g nm := by
  obtain ⟨dx, li, df, ln, u, h1, h2, h3, h4, ⟨h5, h6⟩, h7, h8, h9⟩ := h
  have ne : ∀ x, H0 x = none → x ≠ d := fun x e z => by
    rw [z, h0] at e
    cases e
  refine ⟨dx, li, df, ln, u, (upd_ne fun z => ?_).trans h1, (upd_ne (ne _ h7)).trans h2, (upd_ne (ne _ h8)).trans h3, (upd_ne (ne _ h9)).trans h4, ⟨h5.off n, h6⟩, h7, h8, h9⟩
  obtain ⟨o2, e2, n2⟩ := n
  rw [z, e2] at h1
  exact n2 _ _ _ (Option.some.inj h1)
theorem WorldNew.base {CR CU CW : Addr} {H0 H0' H : Hp} {a : Addr} {ins ns : List Str} {g : Str → FT} {nm : List Str} (h : WorldNew CR CU CW H0 H a ins ns g nm) (s : Same H0' H0) : WorldNew CR CU CW H0' H a ins ns g nm := by
  obtain ⟨dx, li, df, ln, u, h1, h2, h3, h4, h5, h7, h8, h9⟩ := h
  have k : ∀ x, H0 x = none → H0' x = none := fun x e => by
    cases z : H0' x with
    | none => rfl
    | some o =>
      rw [s _ _ z] at e
      cases e
  exact ⟨dx, li, df, ln, u, h1, h2, h3, h4, h5, k _ h7, k _ h8, k _ h9⟩
theorem none_of {H H' : Hp} {x : Addr} (s : Same H H') (h : H' x = none) : H x = none := by
  cases e : H x with
  | none => rfl
  | some o =>
    rw [s _ _ e] at h
    cases h
theorem none_but {H H' : Hp} {x p : Addr} {o : HO} (s : But p H H') (hp : H' p = some o) (h : H' x = none) : H x = none := by
  cases e : H x with
  | none => rfl
  | some o' =>
    have n : x ≠ p := fun z => by
      rw [z, hp] at h
      cases h
    rw [s _ _ e n] at h
    cases h
def spWInit (CR CU CW : Addr) : Sp := fun vs H Q _ => ∃ (p dx li df : Addr) (ins ns : List Str) (u : Str → Addr) (g : Str → FT), vs = [.ref p, .ref li, .ref df] ∧ H p = some (.ins CW dx []) ∧ H li = some (.lst (ins.map V.str)) ∧ H df = some (.dK (dkN ns u)) ∧ WIn ins ns ∧ Uns CR CU H ns u g ∧
  ∀ (H' : Hp) (ys : List Str), ys.Perm ns → sortedS ys = true → WorldNew CR CU CW H H' p ins ys g (ins ++ ns) → But p H H' → Q .non H'
section
variable {P : Program} {w : World} {K : PySem.W.Frag} {mg : Str → Option Value} {base : Heap} {CR CU CW : Addr} {mc : Value}
theorem scWInit : FnScope ["self", "inputs", "functions", "name"] ["self", "inputs", "functions"] (defScope sWInit) := ⟨rfl, rfl, rfl, by decide +kernel, rfl, by decide +kernel, by decide +kernel⟩
theorem ok_winit {f fC fT : Addr} {fd fdC fdT : FuncData} (F : Fun K "__init__" "World.__init__" sWInit f fd) (B : Bm mg) (T : WT K mg CW mc)
    (DC : Dn K mg "check_names" fC) (GC : FnOk P w K mg base CX0 2 fC fdC ["names"] spChkN) (bC : Binds K fdC ["names"] [])
    (DT : Dn K mg "world_text" fT) (GT : FnOk P w K mg base CX0 3 fT fdT ["names", "facts"] (spWText CR CU)) (bT : Binds K fdT ["names", "facts"] []) :
    FnOk P w K mg base CX0 4 f fd ["self", "inputs", "functions"] (spWInit CR CU CW) := by
  refine F.ok scWInit (fun vs H Q E h => ?_) (fun cdv A outer s H vs Q E hr h => ?_)
  · obtain ⟨p, dx, li, df, ins, ns, u, g, rfl, _⟩ := h
    rfl
  · obtain ⟨p, dx, li, df, ins, ns, u, g, rfl, hp, hl, hd, wi, un, q⟩ := h
    have r2 : Room 2 _ := hr.mono (by decide)
    refine ⟨_, pss_cons (ps_expr (pe_call GC r2 (by rfl) DC.gl DC.kp bC .nil pass0 (pa_cons (pe_lst (StX.pa_star (pv 1) (pa_starD rfl (pv 2) pa_nil))) pa_nil)))
      (pss_cons (ps_if (pt_cmpR op_gt (pe_callB call_len_seq (by rfl) B.bn.flen (by decide +kernel) (pa_cons (pv 1) pa_nil)) (pe_cval (pe_glob (v := .ref CW) (by rfl) T.gl rfl)) (nomark _)) (pss_one ps_never) pss_nil)
      (pss_cons (ps_if (pt_cmpR op_gt (pe_callB call_lenD (by rfl) B.bn.flen (by decide +kernel) (pa_cons (pv 2) pa_nil)) (pe_cval (pe_glob (v := .ref CW) (by rfl) T.gl rfl)) (nomark _)) (pss_one ps_never) pss_nil)
      (pss_cons (ps_fld (pv 0) (pe_callTy call_list_of (by rfl) B.bn.tlist (by decide +kernel) (pa_cons (pv 1) pa_nil)) rfl)
      (C8.pss_cut (ps_fld (pv 0) (pe_dc (own := [("name", 3)]) (g := gName 3) rfl scWInit.nd (pi_list (pe_callB (call_sortedD rfl) (by rfl) B.fsort (by decide +kernel) (pa_cons (pv 2) pa_nil))) (blkOk_by (own := [("name", 3)]) (N := ["self", "inputs", "functions", "name"]) (sc := defScope sWInit) (by decide +kernel))
        (fun _ _ _ _ _ => pg_name (i := 3) scWInit.nd rfl (Or.inl rfl) (hf := Or.inr rfl)) (fun _ _ _ _ _ => pts_nil) (fun _ _ _ _ _ => pv 3) (fun _ _ _ _ _ => pe_dget (hu_of hr) (pv 2) (pv 3) (fun _ _ => rfl))) rfl)
      (pss_cons (ps_fld (pv 0) (pe_lst (StX.pa_star (pv 1) (pa_starD rfl (pv 2) pa_nil))) rfl)
      (pss_one (ps_fld (pv 0) (pe_call GT hr (by rfl) DT.gl DT.kp bT .nil pass0 (pa_cons (pe_fld (pv 0) rfl) (pa_cons (pe_fld (pv 0) rfl) pa_nil))) rfl))))))), ?_⟩
    have nmE : ins.map V.str ++ (((dkN ns u).map fun kv => kV kv.1) ++ []) = (ins ++ ns).map V.str := by rw [List.append_nil, keysV, ← List.map_append]
    have nml : (ins ++ ns).length ≤ 8 := by
      rw [List.length_append]
      have := wi.2.2
      omega
    obtain ⟨t4, hm4⟩ := T.most
    refine ⟨_, rfl, li, _, rfl, .inr (.of hl), _, rfl, df, dkN ns u, rfl, .inl hd, ?_⟩
    refine ⟨by rw [nmE, List.length_map]; exact fit (m := 8) (by omega) (by decide), fun l0 hl0 => ⟨l0, ins ++ ns, rfl, by rw [upd_same, nmE], wi.1, wi.2.1, by omega, fun H1 s1 => ?_⟩⟩
    have t1 : Same H H1 := (same_upd hl0).trans s1
    have hl1 := t1 _ _ hl
    have hd1 := t1 _ _ hd
    have hp1 := t1 _ _ hp
    have un1 := un.same t1
    clear hl hd hp un
    refine ⟨_, rfl, li, _, rfl, .inl (.of hl1), CW, mc, .int 4, _, rfl, T.rd, hm4, _, _, rfl, rfl, _, rfl, ?_⟩
    refine ite2 (fun z => absurd (of_decide_eq_true z) (by rw [List.length_map]; have := wi.2.2.1; omega)) (fun _ => ?_)
    refine ⟨_, rfl, df, _, rfl, hd1, CW, mc, .int 4, _, rfl, T.rd, hm4, _, _, rfl, rfl, _, rfl, ?_⟩
    refine ite2 (fun z => absurd (of_decide_eq_true z) (by rw [dkN_len]; have := wi.2.2.2; omega)) (fun _ => ?_)
    -- self._inputs = list(inputs)
    refine ⟨_, rfl, li, _, rfl, .inl (.of hl1), fun l1 hn1 => ⟨_, rfl, p, CW, dx, [], rfl, ?_, T.cl, T.n1, (by show 0 < 1000; decide), ?_⟩⟩
    · exact same_upd hn1 _ _ hp1
    have a1 : Same H1 (upd H1 l1 (.lst (ins.map V.str))) := same_upd hn1
    have np1 : l1 ≠ p := (ne_of_none hp1 hn1).symm
    have lp1 : li ≠ p := fun e => by
      rw [e, hp1] at hl1
      cases hl1
    have dp1 : df ≠ p := fun e => by
      rw [e, hp1] at hd1
      cases hd1
    have bt : But p H (upd (upd H1 l1 (.lst (ins.map V.str))) p (.ins CW dx (putF "_inputs" (V.ref l1) []))) := fun x o e n => (upd_ne n).trans (a1 _ _ (t1 _ _ e))
    have hpb : upd (upd H1 l1 (.lst (ins.map V.str))) p (.ins CW dx (putF "_inputs" (V.ref l1) [])) p = some (.ins CW dx (putF "_inputs" (V.ref l1) [])) := upd_same
    have hlb : upd (upd H1 l1 (.lst (ins.map V.str))) p (.ins CW dx (putF "_inputs" (V.ref l1) [])) li = some (.lst (ins.map V.str)) := (upd_ne lp1).trans (a1 _ _ hl1)
    have hdb : upd (upd H1 l1 (.lst (ins.map V.str))) p (.ins CW dx (putF "_inputs" (V.ref l1) [])) df = some (.dK (dkN ns u)) := (upd_ne dp1).trans (a1 _ _ hd1)
    have hib : upd (upd H1 l1 (.lst (ins.map V.str))) p (.ins CW dx (putF "_inputs" (V.ref l1) [])) l1 = some (.lst (ins.map V.str)) := (upd_ne np1).trans upd_same
    have unb : Uns CR CU (upd (upd H1 l1 (.lst (ins.map V.str))) p (.ins CW dx (putF "_inputs" (V.ref l1) []))) ns u g := (un1.same a1).ins (a1 _ _ hp1) rfl rfl
    generalize upd (upd H1 l1 (.lst (ins.map V.str))) p (.ins CW dx (putF "_inputs" (V.ref l1) [])) = Hb at bt hpb hlb hdb hib unb
    have hl1n : H l1 = none := none_of t1 hn1
    clear a1 hl1 hd1 hp1 un1 hn1 s1 hl0 t1 H1 l0
    refine ⟨fun σ H' => ∃ (D : Addr) (ys : List Str), σ = [some (.ref p), some (.ref li), some (.ref df), none] ∧ ys.Perm ns ∧ sortedS ys = true ∧ H' p = some (.ins CW dx (w2 l1 D)) ∧ H' l1 = some (.lst (ins.map V.str)) ∧ H' D = some (.dK (dkN ys u)) ∧ D ≠ p ∧ H D = none ∧ H' li = some (.lst (ins.map V.str)) ∧ H' df = some (.dK (dkN ns u)) ∧ Uns CR CU H' ns u g ∧ But p H H', ?_, ?_⟩
    · refine ⟨_, rfl, df, dkN ns u, ns, rfl, .inl hdb, dkN_keys ns u, by have := wi.2.2.2; omega, fun ys L pm so nL => ⟨L, rfl, ⟨_, .of upd_same⟩, fun D nD => dc_list (xs := ys.map V.str) (g := gName 3) (tt := tYes) (tk := tVar 3) (tv := tDGet (tVar 2) (tVar 3)) (fun i H' => Same (upd Hb L (.lst (ys.map V.str))) H' ∧ H' D = some (.dK (dkN (ys.take i) u))) ⟨same_upd nD, upd_same⟩ (fun i H' _ z => .of (z.1 _ _ upd_same)) ?_ ?_⟩⟩
      · rintro i x H1 hx ⟨s1, d1⟩
        obtain ⟨y, hy, rfl⟩ := at_map hx
        have my : y ∈ ns := pm.mem_iff.mp (List.mem_of_getElem? hy)
        have ndy : ys.Nodup := pm.nodup_iff.mpr wi.nd
        have hdf := s1 _ _ ((same_upd nL) _ _ hdb)
        refine ⟨rfl, _, rfl, _, rfl, _, rfl, df, .ref (u y), rfl, .inl ⟨_, Sum.inr y, .inl hdf, rfl, (dkN_in my).symm⟩, _, Sum.inr y, rfl, d1, ?_, fun c o e => ?_, ?_⟩
        · rw [dkN_len, List.length_take]
          have := pm.length_eq
          have := wi.2.2.2
          exact small1000 (by omega)
        · rw [upd_ne (ne_of_none e nD)]
          exact s1 _ _ e
        · rw [upd_same, dkN_new _ (not_taken ndy hy), List.take_add_one, hy]
          have e1 : putU u y (u y) = u := funext fun m => by
            unfold putU
            split
            · rename_i z
              rw [z]
            · rfl
          rw [e1]
          rfl
      · rintro H1 ⟨s1, d1⟩
        have s2 : Same Hb H1 := (same_upd nL).trans s1
        rw [List.length_map, List.take_length] at d1
        have dp : D ≠ p := fun e => by
          rw [e, s2 _ _ hpb] at d1
          cases d1
        refine ⟨_, rfl, p, CW, dx, w1 l1, rfl, s2 _ _ hpb, T.cl, T.n2, by have := w1l l1; omega, D, ys, rfl, pm, so, upd_same, (upd_ne np1).trans (s2 _ _ hib), (upd_ne dp).trans d1, dp, none_but bt hpb (none_of (same_upd nL) nD), (upd_ne lp1).trans (s2 _ _ hlb), (upd_ne dp1).trans (s2 _ _ hdb), ?_, fun x o e n => (upd_ne n).trans (s2 _ _ (bt _ _ e n))⟩
        refine (unb.same s2).ins (s2 _ _ hpb) ?_ ?_
        · rw [lookup_putF, if_neg (neq _ _)]
          rfl
        · rw [lookup_putF, if_neg (neq _ _)]
          rfl
    · clear bt hpb hlb hdb hib unb Hb
      rintro σ H1 ⟨D, ys, rfl, pm, so, hp1, hi1, hD1, nDp, hDn, hl1, hd1, un1, bt⟩
      have wy := wi.perm pm
      have uny : Uns CR CU H1 ys u g := fun n m => un1 n (pm.mem_iff.mp m)
      refine ⟨_, rfl, li, _, rfl, .inr (.of hl1), _, rfl, df, dkN ns u, rfl, .inl hd1, by rw [nmE, List.length_map]; exact fit (m := 8) (by omega) (by decide), fun ln nln => ⟨_, rfl, p, CW, dx, w2 l1 D, rfl, (same_upd nln) _ _ hp1, T.cl, T.n3, by have := w2l l1 D; omega, ?_⟩⟩
      have a2 := same_upd (o := .lst (ins.map V.str ++ (((dkN ns u).map fun kv => kV kv.1) ++ []))) nln
      have pn : ln ≠ p := (ne_of_none hp1 nln).symm
      have hpc : upd (upd H1 ln (.lst (ins.map V.str ++ (((dkN ns u).map fun kv => kV kv.1) ++ [])))) p (.ins CW dx (putF "_names" (V.ref ln) (w2 l1 D))) p = some (.ins CW dx (w3 l1 D ln)) := upd_same
      have hic : upd (upd H1 ln (.lst (ins.map V.str ++ (((dkN ns u).map fun kv => kV kv.1) ++ [])))) p (.ins CW dx (putF "_names" (V.ref ln) (w2 l1 D))) l1 = some (.lst (ins.map V.str)) := (upd_ne np1).trans (a2 _ _ hi1)
      have hDc : upd (upd H1 ln (.lst (ins.map V.str ++ (((dkN ns u).map fun kv => kV kv.1) ++ [])))) p (.ins CW dx (putF "_names" (V.ref ln) (w2 l1 D))) D = some (.dK (dkN ys u)) := (upd_ne nDp).trans (a2 _ _ hD1)
      have hnc : upd (upd H1 ln (.lst (ins.map V.str ++ (((dkN ns u).map fun kv => kV kv.1) ++ [])))) p (.ins CW dx (putF "_names" (V.ref ln) (w2 l1 D))) ln = some (.lst ((ins ++ ns).map V.str)) := by
        rw [upd_ne pn, upd_same, nmE]
      have unc : Uns CR CU (upd (upd H1 ln (.lst (ins.map V.str ++ (((dkN ns u).map fun kv => kV kv.1) ++ [])))) p (.ins CW dx (putF "_names" (V.ref ln) (w2 l1 D)))) ys u g := by
        refine (uny.same a2).ins (a2 _ _ hp1) ?_ ?_
        · unfold w2 w1
          rw [lookup_putF, if_neg (neq _ _), lookup_putF, if_neg (neq _ _)]
          rfl
        · unfold w2 w1
          rw [lookup_putF, if_neg (neq _ _), lookup_putF, if_neg (neq _ _)]
          rfl
      have btc : But p H (upd (upd H1 ln (.lst (ins.map V.str ++ (((dkN ns u).map fun kv => kV kv.1) ++ [])))) p (.ins CW dx (putF "_names" (V.ref ln) (w2 l1 D)))) := fun x o e n => (upd_ne n).trans (a2 _ _ (bt _ _ e n))
      generalize upd (upd H1 ln (.lst (ins.map V.str ++ (((dkN ns u).map fun kv => kV kv.1) ++ [])))) p (.ins CW dx (putF "_names" (V.ref ln) (w2 l1 D))) = Hc at hpc hic hDc hnc unc btc
      refine ⟨_, rfl, p, CW, dx, w3 l1 D ln, _, rfl, hpc, T.cl, T.n1, w3In _ _ _, _, rfl, p, CW, dx, w3 l1 D ln, _, rfl, hpc, T.cl, T.n2, w3Fa _ _ _, l1, D, ins, ys, u, g, rfl, hic, hDc, wi.ni, wy.nn, unc, fun H2 s2 => ?_⟩
      have lnp : D ≠ p := nDp
      refine ⟨_, rfl, p, CW, dx, w3 l1 D ln, rfl, s2 _ _ hpc, T.cl, T.n4, by have := w3l l1 D ln; omega, ?_⟩
      refine q _ ys pm so ⟨dx, l1, D, ln, u, upd_same, (upd_ne np1).trans (s2 _ _ hic), (upd_ne nDp).trans (s2 _ _ hDc), (upd_ne pn).trans (s2 _ _ hnc), ⟨?_, wy, so, List.Perm.append_left ins pm.symm⟩, hl1n, hDn, none_but bt hp1 nln⟩ fun x o e n => (upd_ne n).trans (s2 _ _ (btc _ _ e n))
      refine (unc.same s2).ins (s2 _ _ hpc) ?_ ?_
      · unfold w3 w2 w1
        rw [lookup_putF, if_neg (neq _ _), lookup_putF, if_neg (neq _ _), lookup_putF, if_neg (neq _ _)]
        rfl
      · unfold w3 w2 w1
        rw [lookup_putF, if_neg (neq _ _), lookup_putF, if_neg (neq _ _), lookup_putF, if_neg (neq _ _)]
        rfl
end
end K08

set_option Elab.async false
set_option linter.all false
set_option maxRecDepth 100000
set_option maxHeartbeats 4000000
set_option pp.maxSteps 500
namespace K08
open PySem PySem.Spec PyProof.Rows L2 Ux ClX
theorem inV_str (z : Str) (ns : List Str) : inV (.str z) (ns.map V.str) = decide (z ∈ ns) := by
  unfold inV
  rw [List.any_map]
  induction ns with
  | nil => rfl
  | cons n r ih =>
    rw [List.any_cons, ih]
    have e : ((fun y => eqV y (V.str z)) ∘ V.str) n = decide (z = n) := by
      show eqV (.str n) (.str z) = _
      unfold eqV
      by_cases h : z = n
      · subst h
        simp
      · rw [decide_eq_false h]
        first
          | exact decide_eq_false (fun k => h (V.str.inj k).symm)
          | exact decide_eq_false (fun k => h k.symm)
          | (simp; exact fun k => h k.symm)
    rw [e]
    by_cases h : z = n
    · rw [decide_eq_true h, Bool.true_or, decide_eq_true (by rw [h]; exact List.mem_cons_self ..)]
    · rw [decide_eq_false h, Bool.false_or]
      by_cases k : z ∈ r
      · rw [decide_eq_true k, decide_eq_true (List.mem_cons_of_mem _ k)]
      · rw [decide_eq_false k, decide_eq_false (fun m => (List.mem_cons.mp m).elim h k)]
theorem flat_strs (ns : List Str) : (ns.map V.str).all flatV = true := by
  rw [List.all_map, List.all_eq_true]
  intro _ _
  rfl
def spWIns (CR CU CW : Addr) : Sp := fun vs H Q _ => ∃ a ins ns g nm, vs = [.ref a] ∧ WorldAt CR CU CW H a ins ns g nm ∧ ∀ l, H l = none → Q (.ref l) (upd H l (.lst (ins.map V.str)))
def spWFuns (CR CU CW : Addr) : Sp := fun vs H Q _ => ∃ a ins ns g nm, vs = [.ref a] ∧ WorldAt CR CU CW H a ins ns g nm ∧ ∀ l, H l = none → Q (.ref l) (upd H l (.lst (ns.map V.str)))
def spWFact (CR CU CW : Addr) : Sp := fun vs H Q _ => ∃ a ins ns g nm n, vs = [.ref a, .str n] ∧ WorldAt CR CU CW H a ins ns g nm ∧ n ∈ ns ∧ ∀ x, UnsAt CR CU H x (g n) → FOk (g n) → Q (.ref x) H
def spWLen (CR CU CW : Addr) : Sp := fun vs H Q _ => ∃ a ins ns g nm, vs = [.ref a] ∧ WorldAt CR CU CW H a ins ns g nm ∧ Q (.int (nm.length : Nat)) H
def spWCont (K : PySem.W.Frag) (CR CU CW : Addr) : Sp := fun vs H Q _ => ∃ a ins ns g nm v, vs = [.ref a, v] ∧ WorldAt CR CU CW H a ins ns g nm ∧ ((∃ z, v = .str z ∧ Q (.bl (decide (z ∈ nm))) H) ∨ ∃ t, TyX K H v t ∧ PySem.W.kitOne K t (.type "str") = some false ∧ Q (.bl false) H)
def spWEq (CR CU CW : Addr) : Sp := fun vs H Q _ => ∃ a ins ns g nm, WorldAt CR CU CW H a ins ns g nm ∧ ((∃ b jns ms h om, vs = [.ref a, .ref b] ∧ WorldAt CR CU CW H b jns ms h om ∧ Q (.bl (decide (wtext ins ns g = wtext jns ms h))) H) ∨ ∃ z : Str, vs = [.ref a, .str z] ∧ Q (.bl false) H)
def spWStr (CR CU CW : Addr) : Sp := fun vs H Q _ => ∃ a ins ns g nm, vs = [.ref a] ∧ WorldAt CR CU CW H a ins ns g nm ∧ Q (.str (wtext ins ns g)) H
def spWRepr (CR CU CW : Addr) : Sp := fun vs H Q _ => ∃ a ins ns g nm, vs = [.ref a] ∧ WorldAt CR CU CW H a ins ns g nm ∧ Q (.str ("World(" ++ wtext ins ns g ++ ")")) H
def spWWith (CR CU CW : Addr) : Sp := fun vs H Q _ => ∃ a ins ns g nm n x φ, vs = [.ref a, .str n, .ref x] ∧ WorldAt CR CU CW H a ins ns g nm ∧ n ∈ ns ∧ UnsAt CR CU H x φ ∧ FOk φ ∧ φ.ar = (g n).ar ∧ ∀ p H', WorldAt CR CU CW H' p ins ns (putG g n φ) (ins ++ ns) → Same H H' → Q (.ref p) H'
theorem made_same {H H' : Hp} {x dx : Addr} {o1 o2 : HO} (nx : H x = none) (nd : H dx = none) (bu : But x (upd (upd H dx o1) x o2) H') : Same H H' := fun c o e => by
  have n1 := ne_of_none e nx
  refine bu c o ?_ n1
  rw [upd_ne n1, upd_ne (ne_of_none e nd)]
  exact e
section
variable {P : Program} {w : World} {K : PySem.W.Frag} {mg : Str → Option Value} {base : Heap} {CR CU CW : Addr} {mc : Value}
theorem scWIns : FnScope ["self"] ["self"] (defScope sWIns) := ⟨rfl, rfl, rfl, by decide +kernel, rfl, by decide +kernel, by decide +kernel⟩
theorem ok_wins {f : Addr} {fd : FuncData} (F : Fun K "inputs" "World.inputs" sWIns f fd) (B : Bn mg) (T : WT K mg CW mc) : FnOk P w K mg base CX0 1 f fd ["self"] (spWIns CR CU CW) := by
  refine F.ok scWIns (fun vs H Q E h => ?_) (fun cdv A outer s H vs Q E hr h => ?_)
  · obtain ⟨a, ins, ns, g, nm, rfl, _⟩ := h
    rfl
  · obtain ⟨a, ins, ns, g, nm, rfl, ⟨dx, li, df, ln, u, ha, hl, hd, hn, un, _⟩, q⟩ := h
    refine ⟨_, pss_one (ps_ret (pe_callTy call_list_of (by rfl) B.tlist (by decide +kernel) (pa_cons (pe_fld (pv 0) rfl) pa_nil))), ?_⟩
    exact ⟨_, rfl, a, CW, dx, _, _, rfl, ha, T.cl, T.n1, wIn _ _ _ _, li, _, rfl, .inl (.of hl), fun l nl => q l nl⟩
theorem scWFuns : FnScope ["self"] ["self"] (defScope sWFuns) := ⟨rfl, rfl, rfl, by decide +kernel, rfl, by decide +kernel, by decide +kernel⟩
theorem ok_wfuns {f : Addr} {fd : FuncData} (F : Fun K "functions" "World.functions" sWFuns f fd) (B : Bn mg) (T : WT K mg CW mc) : FnOk P w K mg base CX0 1 f fd ["self"] (spWFuns CR CU CW) := by
  refine F.ok scWFuns (fun vs H Q E h => ?_) (fun cdv A outer s H vs Q E hr h => ?_)
  · obtain ⟨a, ins, ns, g, nm, rfl, _⟩ := h
    rfl
  · obtain ⟨a, ins, ns, g, nm, rfl, ⟨dx, li, df, ln, u, ha, hl, hd, hn, un, _⟩, q⟩ := h
    refine ⟨_, pss_one (ps_ret (pe_callTy (call_list_dK rfl) (by rfl) B.tlist (by decide +kernel) (pa_cons (pe_fld (pv 0) rfl) pa_nil))), ?_⟩
    refine ⟨_, rfl, a, CW, dx, _, _, rfl, ha, T.cl, T.n2, wFa _ _ _ _, df, _, rfl, hd, fun l nl => ?_⟩
    rw [keysV]
    exact q l nl
theorem scWFact : FnScope ["self", "name"] ["self", "name"] (defScope sWFact) := ⟨rfl, rfl, rfl, by decide +kernel, rfl, by decide +kernel, by decide +kernel⟩
theorem ok_wfact {f : Addr} {fd : FuncData} (F : Fun K "fact" "World.fact" sWFact f fd) (B : Bn mg) (T : WT K mg CW mc) : FnOk P w K mg base CX0 1 f fd ["self", "name"] (spWFact CR CU CW) := by
  refine F.ok scWFact (fun vs H Q E h => ?_) (fun cdv A outer s H vs Q E hr h => ?_)
  · obtain ⟨a, ins, ns, g, nm, n, rfl, _⟩ := h
    rfl
  · obtain ⟨a, ins, ns, g, nm, n, rfl, ⟨dx, li, df, ln, u, ha, hl, hd, hn, un, _⟩, m, q⟩ := h
    refine ⟨_, pss_cons (ps_if (PW.pt (pw_or (pt_not (pt_val (pe_callB call_isi (by rfl) B.isin (by decide +kernel) (pa_cons (pv 1) (pa_cons (pe_bltn (v := .ty "str") (by rfl) B.tstr (by decide +kernel) rfl) pa_nil))))) (pw_or1 (pt_cmp (pc_dnotin (hu_of hr) (pv 1) (pe_fld (pv 0) rfl)))))) (pss_one ps_never) pss_nil)
      (pss_one (ps_ret (pe_dget (hu_of hr) (pe_fld (pv 0) rfl) (pv 1) (fun _ _ => rfl)))), ?_⟩
    have dg : DGet H df (.str n) (some (.ref (u n))) := .inl ⟨_, Sum.inr n, .inl hd, rfl, (dkN_in m).symm⟩
    refine ⟨_, rfl, _, _, _, _, true, rfl, .ty "str", .base (.str _), kit_ty (by decide +kernel), _, rfl, iteF ?_⟩
    refine ⟨_, rfl, _, rfl, a, CW, dx, _, _, rfl, ha, T.cl, T.n2, wFa _ _ _ _, df, _, rfl, dg, _, rfl, iteF ?_⟩
    exact ⟨_, rfl, a, CW, dx, _, _, rfl, ha, T.cl, T.n2, wFa _ _ _ _, _, rfl, df, _, rfl, dg, q _ (un n m).2 (un n m).1⟩
theorem scWCont : FnScope ["self", "name"] ["self", "name"] (defScope sWCont) := ⟨rfl, rfl, rfl, by decide +kernel, rfl, by decide +kernel, by decide +kernel⟩
theorem ok_wcont {f : Addr} {fd : FuncData} (F : Fun K "__contains__" "World.__contains__" sWCont f fd) (B : Bn mg) (T : WT K mg CW mc) : FnOk P w K mg base CX0 1 f fd ["self", "name"] (spWCont K CR CU CW) := by
  refine F.ok scWCont (fun vs H Q E h => ?_) (fun cdv A outer s H vs Q E hr h => ?_)
  · obtain ⟨a, ins, ns, g, nm, v, rfl, _⟩ := h
    rfl
  · obtain ⟨a, ins, ns, g, nm, v, rfl, ⟨dx, li, df, ln, u, ha, hl, hd, hn, un, _⟩, q⟩ := h
    refine ⟨_, pss_one (ps_ret (pe_and (pe_callB call_isi (by rfl) B.isin (by decide +kernel) (pa_cons (pv 1) (pa_cons (pe_bltn (v := .ty "str") (by rfl) B.tstr (by decide +kernel) rfl) pa_nil))) (pe_one (pe_cmpR op_in_seq (pv 1) (pe_fld (pv 0) rfl) (by rfl))))), ?_⟩
    rcases q with ⟨z, rfl, q⟩ | ⟨t, ty, kt, q⟩
    · refine ⟨_, rfl, _, _, _, _, true, rfl, .ty "str", .base (.str _), kit_ty (by decide +kernel), _, rfl, iteT ?_⟩
      refine ⟨_, rfl, _, rfl, a, CW, dx, _, _, rfl, ha, T.cl, T.n3, wNa _ _ _ _, ln, _, rfl, .inl (.of hn), rfl, flat_strs nm, ?_⟩
      rw [if_neg (by decide), inV_str]
      exact q
    · exact ⟨_, rfl, _, _, _, _, false, rfl, .ty "str", ty, kt, _, rfl, iteF q⟩
theorem scWLen : FnScope ["self"] ["self"] (defScope sWLen) := ⟨rfl, rfl, rfl, by decide +kernel, rfl, by decide +kernel, by decide +kernel⟩
theorem ok_wlen {f : Addr} {fd : FuncData} (F : Fun K "__len__" "World.__len__" sWLen f fd) (B : Bn mg) (T : WT K mg CW mc) : FnOk P w K mg base CX0 1 f fd ["self"] (spWLen CR CU CW) := by
  refine F.ok scWLen (fun vs H Q E h => ?_) (fun cdv A outer s H vs Q E hr h => ?_)
  · obtain ⟨a, ins, ns, g, nm, rfl, _⟩ := h
    rfl
  · obtain ⟨a, ins, ns, g, nm, rfl, ⟨dx, li, df, ln, u, ha, hl, hd, hn, un, _⟩, q⟩ := h
    refine ⟨_, pss_one (ps_ret (pe_callB call_len_seq (by rfl) B.flen (by decide +kernel) (pa_cons (pe_fld (pv 0) rfl) pa_nil))), ?_⟩
    refine ⟨_, rfl, a, CW, dx, _, _, rfl, ha, T.cl, T.n3, wNa _ _ _ _, ln, _, rfl, .inl (.of hn), ?_⟩
    rw [List.length_map]
    exact q
theorem scWEq : FnScope ["self", "other"] ["self", "other"] (defScope sWEq) := ⟨rfl, rfl, rfl, by decide +kernel, rfl, by decide +kernel, by decide +kernel⟩
theorem ok_weq {f : Addr} {fd : FuncData} (F : Fun K "__eq__" "World.__eq__" sWEq f fd) (B : Bn mg) (T : WT K mg CW mc) : FnOk P w K mg base CX0 1 f fd ["self", "other"] (spWEq CR CU CW) := by
  refine F.ok scWEq (fun vs H Q E h => ?_) (fun cdv A outer s H vs Q E hr h => ?_)
  · obtain ⟨a, ins, ns, g, nm, _, ⟨b, _, _, _, _, rfl, _⟩ | ⟨z, rfl, _⟩⟩ := h <;> rfl
  · refine ⟨_, pss_one (ps_ret (pe_and (pe_callB call_isi (by rfl) B.isin (by decide +kernel) (pa_cons (pv 1) (pa_cons (pe_glob (v := .ref CW) (by rfl) T.gl rfl) pa_nil))) (pe_one (pe_cmpR op_eq (pe_fld (pv 0) rfl) (pe_fld (pv 1) rfl) (nomark _))))), ?_⟩
    obtain ⟨a, ins, ns, g, nm, wa, h⟩ := h
    rcases h with ⟨b, jns, ms, h, om, rfl, wb, q⟩ | ⟨z, rfl, q⟩
    · refine ⟨_, rfl, _, _, _, _, true, rfl, .own _, wb.ty T, T.kW, true, rfl, iteT ?_⟩
      obtain ⟨dx, li, df, ln, u, ha, _⟩ := wa
      obtain ⟨dx2, li2, df2, ln2, u2, hb, _⟩ := wb
      refine ⟨_, rfl, a, CW, dx, _, _, rfl, ha, T.cl, T.n4, wTx _ _ _ _, _, rfl, b, CW, dx2, _, _, rfl, hb, T.cl, T.n4, wTx _ _ _ _, rfl, ?_⟩
      have e2 : ∀ x y : Str, decide (V.str x = V.str y) = decide (x = y) := fun x y => by
        by_cases z : x = y
        · rw [decide_eq_true z, decide_eq_true (by rw [z])]
        · rw [decide_eq_false z, decide_eq_false (fun y => z (V.str.inj y))]
      rw [e2]
      exact q
    · exact ⟨_, rfl, _, _, _, _, false, rfl, .own _, .base (.str _), T.kS, false, rfl, iteF q⟩
theorem scWStr : FnScope ["self"] ["self"] (defScope sWStr) := ⟨rfl, rfl, rfl, by decide +kernel, rfl, by decide +kernel, by decide +kernel⟩
theorem ok_wstr {f : Addr} {fd : FuncData} (F : Fun K "__str__" "World.__str__" sWStr f fd) (T : WT K mg CW mc) : FnOk P w K mg base CX0 1 f fd ["self"] (spWStr CR CU CW) := by
  refine F.ok scWStr (fun vs H Q E h => ?_) (fun cdv A outer s H vs Q E hr h => ?_)
  · obtain ⟨a, ins, ns, g, nm, rfl, _⟩ := h
    rfl
  · obtain ⟨a, ins, ns, g, nm, rfl, ⟨dx, li, df, ln, u, ha, hl, hd, hn, un, wi, _⟩, q⟩ := h
    refine ⟨_, pss_one (ps_ret (pe_joined1 (pe_fmt (pe_fld (pv 0) rfl)))), ?_⟩
    exact ⟨_, rfl, a, CW, dx, _, _, rfl, ha, T.cl, T.n4, wTx _ _ _ _, .inl ⟨_, rfl, fit (wtext_len wi.ni wi.nn un.ok) (by decide), q⟩⟩
theorem scWRepr : FnScope ["self"] ["self"] (defScope sWRepr) := ⟨rfl, rfl, rfl, by decide +kernel, rfl, by decide +kernel, by decide +kernel⟩
theorem ok_wrepr {f : Addr} {fd : FuncData} (F : Fun K "__repr__" "World.__repr__" sWRepr f fd) (T : WT K mg CW mc) : FnOk P w K mg base CX0 1 f fd ["self"] (spWRepr CR CU CW) := by
  refine F.ok scWRepr (fun vs H Q E h => ?_) (fun cdv A outer s H vs Q E hr h => ?_)
  · obtain ⟨a, ins, ns, g, nm, rfl, _⟩ := h
    rfl
  · obtain ⟨a, ins, ns, g, nm, rfl, ⟨dx, li, df, ln, u, ha, hl, hd, hn, un, wi, _⟩, q⟩ := h
    have tl := wtext_len wi.ni wi.nn un.ok
    refine ⟨_, pss_one (ps_ret (pe_joined (PJ.cons pe_str (PJ.cons (pe_fmt (pe_fld (pv 0) rfl)) (PJ.cons pe_str PJ.nil))))), ?_⟩
    refine ⟨_, rfl, ?_, ?_⟩
    · rw [empty_app]
      exact fit (m := 20) (by decide) (by decide)
    · rw [empty_app]
      refine ⟨_, rfl, a, CW, dx, _, _, rfl, ha, T.cl, T.n4, wTx _ _ _ _, .inl ⟨_, rfl, fit tl (by decide), _, rfl, ?_, _, rfl, ?_, q⟩⟩
      · exact fit (app_len (show (Str.ofString "World(").length ≤ 20 by decide) tl) (by decide)
      · exact fit (app_len (app_len (show (Str.ofString "World(").length ≤ 20 by decide) tl) (show (Str.ofString ")").length ≤ 20 by decide)) (by decide)
theorem scWWith : FnScope ["self", "name", "fact"] ["self", "name", "fact"] (defScope sWWith) := ⟨rfl, rfl, rfl, by decide +kernel, rfl, by decide +kernel, by decide +kernel⟩
theorem ok_wwith {f fF fI : Addr} {fd fdF fdI : FuncData} (F : Fun K "with_fact" "World.with_fact" sWWith f fd) (U : UT K mg CU) (T : WT K mg CW mc)
    (MF : Meth K CW "fact" fF) (GF : FnOk P w K mg base CX0 1 fF fdF ["self", "name"] (spWFact CR CU CW)) (bF : Binds K fdF ["self", "name"] [])
    (MI : Mk K CW fI) (GI : FnOk P w K mg base CX0 4 fI fdI ["self", "inputs", "functions"] (spWInit CR CU CW)) (bI : Binds K fdI ["self", "inputs", "functions"] []) :
    FnOk P w K mg base CX0 6 f fd ["self", "name", "fact"] (spWWith CR CU CW) := by
  refine F.ok scWWith (fun vs H Q E h => ?_) (fun cdv A outer s H vs Q E hr h => ?_)
  · obtain ⟨a, ins, ns, g, nm, n, x, φ, rfl, _⟩ := h
    rfl
  · obtain ⟨a, ins, ns, g, nm, n, x, φ, rfl, wa, m, ux, ok, ar, q⟩ := h
    have r1 : Room 1 _ := hr.mono (by decide)
    refine ⟨_, pss_cons (ps_if (pt_cmpR op_ne (pe_fld (pe_meth (pv 0) T.cl MF GF r1 bF .nil pass0 (pa_cons (pv 1) pa_nil)) rfl) (pe_fld (pv 2) rfl) (nomark _)) (pss_one ps_never) pss_nil)
      (pss_one (ps_ret (pe_make MI GI hr (by rfl) T.gl bI .nil pass0 (pa_cons (pe_fld (pv 0) rfl) (pa_cons (pe_dispS (pe_fld (pv 0) rfl) (pv 1) (pv 2)) pa_nil))))), ?_⟩
    obtain ⟨dx, li, df, ln, u, ha, hl, hd, hn, un, wi, so, pm⟩ := id wa
    obtain ⟨dx', rx, hx, _⟩ := id ux
    have nf : (w4 li df ln (wtext ins ns g)).lookup ("fact" : Str) = none := by
      unfold w4 w3 w2 w1
      rw [lookup_putF, if_neg (neq _ _), lookup_putF, if_neg (neq _ _), lookup_putF, if_neg (neq _ _), lookup_putF, if_neg (neq _ _)]
      rfl
    refine ⟨_, rfl, a, dx, _, rfl, ha, nf, _, rfl, a, ins, ns, g, nm, n, rfl, wa, m, fun y uy oky => ?_⟩
    obtain ⟨dy, ry, hy, _⟩ := id uy
    refine ⟨y, CU, dy, _, _, rfl, hy, U.cl, U.n1, gAr _ _, _, rfl, x, CU, dx', _, _, rfl, hx, U.cl, U.n1, gAr _ _, rfl, _, rfl, ?_⟩
    rw [decide_eq_true (show V.int (g n).ar = V.int φ.ar by rw [ar])]
    refine iteF ?_
    refine ⟨_, rfl, a, CW, dx, _, _, rfl, ha, T.cl, T.n1, wIn _ _ _ _, fun p np => ?_⟩
    have hd1 : upd H p (.dK []) df = some (.dK (dkN ns u)) := same_upd np _ _ hd
    have ha1 : upd H p (.dK []) a = some (.ins CW dx (w4 li df ln (wtext ins ns g))) := same_upd np _ _ ha
    have nd : df ≠ p := ne_of_none hd np
    have few : ns.length ≤ 4 := wi.2.2.2
    refine ⟨_, rfl, a, CW, dx, _, _, rfl, ha1, T.cl, T.n2, wFa _ _ _ _, upd_same, df, dkN ns u, rfl, hd1, nd, by rw [dkN_len]; exact fit (m := 5) (by omega) (by decide), fun p2 np2 => ?_⟩
    have np12 : p2 ≠ p := fun e => by
      rw [e, upd_same] at np2
      cases np2
    refine ⟨_, rfl, _, rfl, upd_same, (upd_ne np12.symm).trans upd_same, Sum.inr n, rfl, ?_⟩
    have sm : Same H (upd (upd (upd (upd (upd H p (.dK [])) p (.dK (dkN ns u))) p2 (.dK [])) p2 (.dK [(Sum.inr n, .ref x)])) p (.dK (putK (dkN ns u) (Sum.inr n) (.ref x)))) := fun c o e => by
      have n1 := ne_of_none e np
      have e2 : upd (upd H p (.dK [])) p (.dK (dkN ns u)) c = some o := (upd_ne n1).trans ((upd_ne n1).trans e)
      have n2 := ne_of_none e2 np2
      exact (upd_ne n1).trans ((upd_ne n2).trans ((upd_ne n2).trans e2))
    have hD : upd (upd (upd (upd (upd H p (.dK [])) p (.dK (dkN ns u))) p2 (.dK [])) p2 (.dK [(Sum.inr n, .ref x)])) p (.dK (putK (dkN ns u) (Sum.inr n) (.ref x))) p = some (.dK (dkN ns (putU u n x))) := by rw [upd_same, dkN_old x m]
    generalize upd (upd (upd (upd (upd H p (.dK [])) p (.dK (dkN ns u))) p2 (.dK [])) p2 (.dK [(Sum.inr n, .ref x)])) p (.dK (putK (dkN ns u) (Sum.inr n) (.ref x))) = G at sm hD
    intro z dz nz ndz nez
    have s2 : Same G (upd (upd G dz (.own z)) z (.ins CW dz [])) := fun c o e => by
      have n1 := ne_of_none e nz
      rw [upd_ne n1, upd_ne (ne_of_none e ndz)]
      exact e
    have unz : Uns CR CU (upd (upd G dz (.own z)) z (.ins CW dz [])) ns (putU u n x) (putG g n φ) := fun k hk => by
      by_cases e : k = n
      · subst e
        unfold putU putG
        rw [if_pos rfl, if_pos rfl]
        exact ⟨ok, (ux.same sm).same s2⟩
      · unfold putU putG
        rw [if_neg e, if_neg e]
        exact ⟨(un k hk).1, ((un k hk).2.same sm).same s2⟩
    refine ⟨z, dz, li, p, ins, ns, putU u n x, putG g n φ, rfl, upd_same, s2 _ _ (sm _ _ hl), s2 _ _ hD, wi, unz, fun H' ys py sy wz bz => ⟨rfl, ?_⟩⟩
    have ey : ys = ns := sorted_one py sy so
    subst ey
    exact q z H' wz.at (sm.trans (made_same nz ndz bz))
end
end K08

set_option Elab.async false
set_option linter.all false
set_option maxRecDepth 100000
set_option maxHeartbeats 4000000
set_option pp.maxSteps 500
namespace K08
open PySem PySem.Spec PyProof.Rows L2 Ux ClX
abbrev sNames : Stmt := top 55
def twelve : Str := "abcdfghijklm"
/-- the first five letters -/
def pre5 (z : Str) : Str := cutS z none (some 5)
theorem pre5_lt {z : Str} (h : ∀ c ∈ z.cps.toList, c ∈ letters) : ∃ k, k ≤ 5 ∧ Lt (pre5 z) k := by
  refine ⟨(pre5 z).length, ?_, rfl, fun c hc => ?_⟩
  · unfold pre5 cutS
    show (((z.cps.toList.drop (HT.sIx z.length 0 none)).take (HT.sIx z.length z.length (some 5) - HT.sIx z.length 0 none)).toArray).size ≤ 5
    rw [List.size_toArray, List.length_take]
    have e : HT.sIx z.length z.length (some 5) ≤ 5 := by
      unfold HT.sIx
      simp
      omega
    omega
  · refine h c ?_
    unfold pre5 cutS at hc
    have hc2 := hc
    simp only [List.toList_toArray] at hc2
    exact List.mem_of_mem_drop (List.mem_of_mem_take hc2)
theorem name_letters {z : Str} (h : nameB z = true) : ∀ c ∈ z.cps.toList, c ∈ letters := fun c hc => by
  unfold nameB at h
  simp only [Bool.and_eq_true] at h
  exact of_decide_eq_true (List.all_eq_true.mp h.2.1 c hc)
def cand (z : Str) (c : Nat) : Str := pre5 z ++ ⟨#[c]⟩
theorem twelve_ok : (twelve.cps.toList.all fun c => decide (c ∈ letters) && (decide (c ≠ 110) && (decide (c ≠ 116) && decide (c ≠ 101)))) = true := by decide +kernel
theorem twelve_len : twelve.cps.toList.length = 12 := by decide +kernel
theorem twelve_nd : twelve.cps.toList.Nodup := by decide +kernel
theorem cand_name {z : Str} (hz : nameB z = true) {c : Nat} (hc : c ∈ twelve.cps.toList) : nameB (cand z c) = true := by
  have hk := List.all_eq_true.mp twelve_ok c hc
  simp only [Bool.and_eq_true, decide_eq_true_eq] at hk
  obtain ⟨k, k5, lt⟩ := pre5_lt (name_letters hz)
  refine (lt.app (Lt.one hk.1)).name (by omega) (by omega) ?_
  cases e : inV (V.str (pre5 z ++ ⟨#[c]⟩)) kept with
  | false => rfl
  | true =>
    have last : ∀ w : Str, pre5 z ++ ⟨#[c]⟩ = w → w.cps.toList.getLast? = some c := fun w e => by
      rw [← e, cat_list]
      simp
    rcases kept_in e with e | e | e
    · have := last _ e
      have e2 : (Str.ofString "fn").cps.toList.getLast? = some 110 := by decide +kernel
      rw [e2] at this
      exact absurd (Option.some.inj this).symm hk.2.1
    · have := last _ e
      have e2 : (Str.ofString "let").cps.toList.getLast? = some 116 := by decide +kernel
      rw [e2] at this
      exact absurd (Option.some.inj this).symm hk.2.2.1
    · have := last _ e
      have e2 : (Str.ofString "slope").cps.toList.getLast? = some 101 := by decide +kernel
      rw [e2] at this
      exact absurd (Option.some.inj this).symm hk.2.2.2
theorem cand_inj {z : Str} {c d : Nat} (h : cand z c = cand z d) : c = d := by
  have e := congrArg (fun w : Str => w.cps.toList) (app_left h)
  exact (List.cons.inj (show [c] = [d] from e)).1
theorem sub_len {α : Type} [DecidableEq α] : ∀ (l m : List α), l.Nodup → (∀ x ∈ l, x ∈ m) → l.length ≤ m.length
  | [], _, _, _ => Nat.zero_le _
  | x :: l, m, nd, h => by
    have nx := (List.nodup_cons.mp nd).1
    have ih := sub_len l (m.erase x) (List.nodup_cons.mp nd).2 fun y hy => (List.mem_erase_of_ne (fun e : y = x => nx (by rw [← e]; exact hy))).mpr (h y (List.mem_cons_of_mem _ hy))
    have hx := h x (List.mem_cons_self ..)
    have el := List.length_erase_of_mem hx
    have pos : 0 < m.length := List.length_pos_of_mem hx
    rw [List.length_cons]
    omega
/-- the candidates that are no names yet -/
def spare (z : Str) (fs : List Str) (i : Nat) : List Str := ((twelve.cps.toList.take i).map (cand z)).filter fun y => !decide (y ∈ fs)
theorem spare_some {z : Str} {fs : List Str} (h : fs.length < 12) : ∃ c, c ∈ twelve.cps.toList ∧ cand z c ∉ fs ∧ (spare z fs 12)[0]? = some (cand z c) := by
  have ne : spare z fs 12 ≠ [] := fun e => by
    have all : ∀ y ∈ twelve.cps.toList.map (cand z), y ∈ fs := fun y hy => by
      by_cases k : y ∈ fs
      · exact k
      · have m : y ∈ spare z fs 12 := by
          unfold spare
          refine List.mem_filter.mpr ⟨?_, by rw [decide_eq_false k]; rfl⟩
          rw [← twelve_len, List.take_length]
          exact hy
        rw [e] at m
        cases m
    have nd : (twelve.cps.toList.map (cand z)).Nodup := List.Pairwise.map (cand z) (fun a b (n : a ≠ b) (e : cand z a = cand z b) => n (cand_inj e)) twelve_nd
    have := sub_len _ _ nd all
    rw [List.length_map, twelve_len] at this
    omega
  cases e : spare z fs 12 with
  | nil => exact absurd e ne
  | cons y r =>
    have m : y ∈ spare z fs 12 := by
      rw [e]
      exact List.mem_cons_self ..
    unfold spare at m
    obtain ⟨m1, m2⟩ := List.mem_filter.mp m
    obtain ⟨c, hc, rfl⟩ := List.mem_map.mp m1
    refine ⟨c, List.mem_of_mem_take hc, fun k => ?_, rfl⟩
    rw [decide_eq_true k] at m2
    cases m2
theorem spare_len (z : Str) (fs : List Str) (i : Nat) : (spare z fs i).length ≤ 12 := by
  unfold spare
  refine Nat.le_trans (List.length_filter_le _ _) ?_
  rw [List.length_map, List.length_take, twelve_len]
  omega
theorem spare_next {z : Str} {fs : List Str} {i c : Nat} (h : twelve.cps.toList[i]? = some c) : spare z fs (i + 1) = if cand z c ∈ fs then spare z fs i else spare z fs i ++ [cand z c] := by
  unfold spare
  rw [List.take_add_one, h, List.map_append, List.filter_append]
  by_cases k : cand z c ∈ fs
  · rw [if_pos k]
    simp [k]
  · rw [if_neg k]
    simp [k]
end K08

set_option Elab.async false
set_option linter.all false
set_option maxRecDepth 100000
set_option maxHeartbeats 4000000
set_option pp.maxSteps 500
namespace K08
open PySem PySem.Spec PyProof.Rows L2 Ux ClX
def spNames : Sp := fun vs H Q _ => ∃ (b : Addr) (m n : Nat), vs = [.ref b, .int (m : Nat)] ∧ m ≤ 12 ∧ BagAt H b n ∧ n ≤ 800000000 ∧
  ∀ (zs : List Str) (L : Addr) (H' : Hp), zs.length = m → zs.Nodup → (∀ z ∈ zs, nameB z = true) → H' L = some (.lst (zs.map V.str)) → BagAt H' b (n + 7 * m) → Bt b H H' → L ≠ b → Q (.ref L) H'
section
variable {P : Program} {w : World} {K : PySem.W.Frag} {mg : Str → Option Value} {base : Heap}
abbrev nNames : List Str := ["_law_bag_here", "_law_many", "_law_found", "_law_k", "_law_name_here", "_law_spare", "_law_letter"]
theorem scNames : FnScope nNames ["_law_bag_here", "_law_many"] (defScope sNames) := ⟨rfl, rfl, rfl, by decide +kernel, rfl, by decide +kernel, by decide +kernel⟩
theorem ok_names {f fN : Addr} {fd fdN : FuncData} (F : Fun K "_law_names" "_law_names" sNames f fd) (B : Bn mg) (DN : Dn K mg "_law_name" fN) (GN : FnOk P w K mg base CX0 2 fN fdN ["_law_bag_here"] spName) (bN : Binds K fdN ["_law_bag_here"] []) :
    FnOk P w K mg base CX0 3 f fd ["_law_bag_here", "_law_many"] spNames := by
  refine F.ok scNames (fun vs H Q E h => ?_) (fun cdv A outer s H vs Q E hr h => ?_)
  · obtain ⟨b, m, n, rfl, _⟩ := h
    rfl
  · obtain ⟨b, m, n, rfl, hm, hB, hn, q⟩ := h
    refine ⟨_, pss_cons (ps_set (i := 2) scNames.nd rfl (Or.inr rfl) (pe_lst pa_nil))
      (pss_cons (ps_for PassesOwn.never rfl (pi_range1 rfl B.frange (pa_cons (pv 1) pa_nil)) (pg_name (i := 3) scNames.nd rfl (Or.inl rfl))
        (pss_cons (ps_set (i := 4) scNames.nd rfl (Or.inr rfl) (pe_call GN hr (by rfl) DN.gl DN.kp bN .nil pass0 (pa_cons (pv 0) pa_nil)))
        (C8.pss_cut (ps_if (pt_cmpR op_in_seq (pv 4) (pv 2) (by rfl))
          (pss_cons (ps_setLc (i := 5) (own := [("_law_letter", 6)]) (g := gName 6) (tt := tTest (tOp (rIn K true) (tOp (fun x y H Q => ∃ i j, x = V.str i ∧ y = V.str j ∧ i.length + j.length ≤ sizeLine ∧ Q (.str (i ++ j)) H) (tSl rSlS (tVar 4) tNoPart (tPart (tC (.int 5)))) (tVar 6)) (tVar 2))) rfl scNames.nd rfl rfl (sw_true rfl rfl rfl (by decide +kernel)) (pi_str pe_str) (blkOk_by (own := [("_law_letter", 6)]) (N := nNames) (sc := defScope sNames) (by decide +kernel))
              (fun _ _ _ _ _ => pg_name (i := 6) scNames.nd rfl (Or.inl rfl) (hf := Or.inr rfl)) (fun _ _ _ _ _ => pts_one (pt_cmpR op_notIn_seq (pe_op op_add_str (pe_slice sl_str (pv 4) po_none (po_some pe_int)) (pv 6)) (pv 2) (by rfl)))
              (fun _ _ _ _ _ => pe_op op_add_str (pe_slice sl_str (pv 4) po_none (po_some pe_int)) (pv 6)))
            (pss_one (ps_set (i := 4) scNames.nd rfl (Or.inr rfl) (pe_ix ix_list (pv 5) pe_int (fun _ _ => rfl))))) pss_nil)
        (pss_one (ps_expr (pe_bm PySem.F.plainAttrs_list PySem.F.slot_list_append PySem.F.type_list_append mt_append (pv 2) (pa_cons (pv 4) pa_nil)))))))
      (pss_one (ps_ret (pv 2)))), ?_⟩
    refine ⟨Nat.zero_le _, fun L nL => ?_⟩
    have sL := same_upd (o := .lst []) nL
    obtain ⟨ys, hb⟩ := hB.lst
    have Lb : L ≠ b := (ne_of_none hb nL).symm
    refine ⟨_, rfl, (m : Nat), rfl, by omega, by omega, ?_⟩
    rw [Int.toNat_natCast]
    refine for_range (n := m) (fun i σ H' => ∃ x3 x4 x5 zs, σ = [some (.ref b), some (.int (m : Nat)), some (.ref L), x3, x4, x5, none] ∧ H' L = some (.lst (zs.map V.str)) ∧ zs.length = i ∧ zs.Nodup ∧ (∀ z ∈ zs, nameB z = true) ∧ BagAt H' b (n + 7 * i) ∧ Bt b H H')
      ⟨none, none, none, [], rfl, upd_same, rfl, List.nodup_nil, (fun z h => nomatch h), hB.same sL, but_same sL⟩ ?_ ?_
    · rintro i σ H1 hi ⟨x3, x4, x5, zs, rfl, hL, lz, ndz, nmz, B1, bt⟩
      refine ⟨_, rfl, b, n + 7 * i, rfl, B1, by omega, fun z H2 nz B2 f2 => ?_⟩
      have hL2 := f2.1 _ _ hL Lb
      have bt2 := bt.trans f2
      clear B1 hL bt f2 H1
      have l6 := nameB_len nz
      refine ⟨fun σ H' => ∃ y x5, σ = [some (.ref b), some (.int (m : Nat)), some (.ref L), some (.int (0 + (i : Int))), some (.str y), x5, none] ∧ nameB y = true ∧ y ∉ zs ∧ H' L = some (.lst (zs.map V.str)) ∧ BagAt H' b (n + 7 * (i + 1)) ∧ Bt b H H', ?_, ?_⟩
      · refine ⟨_, rfl, _, rfl, L, _, rfl, .inl (.of hL2), rfl, flat_strs zs, _, rfl, ?_⟩
        rw [if_neg (by decide), inV_str]
        by_cases hz : z ∈ zs
        · rw [decide_eq_true hz]
          refine iteT ?_
          have ok5 : ∀ c : Nat, (cutS z none (some 5)).length + (⟨#[c]⟩ : Str).length ≤ sizeLine := fun c => by
            have h1 := cutS_length z none (some 5)
            have h2 : (⟨#[c]⟩ : Str).length = 1 := rfl
            rw [h2]
            exact fit (m := 10) (by omega) (by decide)
          refine ⟨twelve, rfl, fun D nD => ?_⟩
          refine lc_it walk_str (fun i H' => Same H2 H' ∧ H' D = some (.lst ((spare z zs i).map V.str))) ⟨same_upd nD, upd_same⟩ (fun _ _ _ _ => trivial) ?_ ?_
          · rintro j x H3 H4 hj ⟨s3, d3⟩ ⟨rfl, c, hc, rfl⟩
            have hc2 : twelve.cps.toList[j]? = some c := by rw [Array.getElem?_toList]; exact hc
            refine ⟨rfl, _, rfl, _, rfl, z, rfl, fit (m := 10) (by omega) (by decide), _, rfl, _, _, rfl, rfl, ok5 c, _, rfl, L, _, rfl, .inl (.of (s3 _ _ hL2)), rfl, flat_strs zs, _, rfl, ?_⟩
            rw [if_pos rfl, inV_str]
            have en := spare_next (z := z) (fs := zs) hc2
            by_cases k : cand z c ∈ zs
            · rw [if_pos k] at en
              rw [decide_eq_true (show cutS z none (some 5) ++ ⟨#[c]⟩ ∈ zs from k)]
              refine iteF ⟨s3, ?_⟩
              rw [en]
              exact d3
            · rw [if_neg k] at en
              rw [decide_eq_false (show ¬ cutS z none (some 5) ++ ⟨#[c]⟩ ∈ zs from k)]
              refine iteT ⟨_, rfl, _, rfl, z, rfl, fit (m := 10) (by omega) (by decide), _, rfl, _, _, rfl, rfl, ok5 c, _, d3, ?_, fun c' o e => ?_, ?_⟩
              · rw [List.length_map]
                have := spare_len z zs j
                exact small1000 (by omega)
              · rw [upd_ne (ne_of_none e nD)]
                exact s3 _ _ e
              · rw [upd_same, en, List.map_append]
                rfl
          · rintro H3 ⟨s3, d3⟩
            have e12 : twelve.cps.size = 12 := by decide +kernel
            rw [e12] at d3
            obtain ⟨c, hc, nc, h0⟩ := spare_some (z := z) (fs := zs) (by omega)
            have at0 : ((spare z zs 12).map V.str)[0]? = some (V.str (cand z c)) := by
              rw [List.getElem?_map, h0]
              rfl
            refine ⟨_, rfl, D, _, 0, _, rfl, rfl, .of d3, atI_nat at0, cand z c, _, rfl, cand_name nz hc, nc, s3 _ _ hL2, ?_, bt2.trans (but_same s3)⟩
            have B3 := B2.same s3
            exact B3.more (by omega)
        · rw [decide_eq_false hz]
          exact iteF ⟨z, _, rfl, nz, hz, hL2, B2.more (by omega), bt2⟩
      · clear hL2 bt2 B2 nz l6 H2
        rintro σ H2 ⟨y, x5', rfl, ny, hy, hL2, B2, bt2⟩
        refine ⟨_, rfl, .inl ⟨rfl, _, SqL.of hL2⟩, _, rfl, L, _, _, rfl, rfl, hL2, ?_, ?_⟩
        · rw [List.length_map]
          exact small1000 (by omega)
        · refine ⟨_, _, _, zs ++ [y], rfl, ?_, ?_, ?_, ?_, ?_, fun x o e nb => ?_, fun l r e => ?_⟩
          · rw [upd_same, List.map_append]
            rfl
          · rw [List.length_append, lz]
            rfl
          · refine List.nodup_append.mpr ⟨ndz, by simp, fun a ha c hc e => hy ?_⟩
            rw [List.mem_singleton] at hc
            rw [← hc, ← e]
            exact ha
          · intro a ha
            rcases List.mem_append.mp ha with h | h
            · exact nmz a h
            · rw [List.mem_singleton] at h
              rw [h]
              exact ny
          · obtain ⟨l0, _, _, _, _, _, k1, k2, _⟩ := hB.ex
            obtain ⟨l, ns', p, g, s', c, h1, h2, h3, h4⟩ := B2.ex
            obtain ⟨r', e1⟩ := bt2.2 l0 _ k1
            rw [h1] at e1
            have el : l = l0 := by
              have e2 := Option.some.inj e1
              injection e2 with e3
              exact V.ref.inj (List.cons.inj e3).1
            have Ll : l ≠ L := fun e => by
              rw [← el, e, nL] at k2
              cases k2
            exact ⟨l, ns', p, g, s', c, (upd_ne Lb.symm).trans h1, (upd_ne Ll).trans h2, h3, h4⟩
          · have nc : x ≠ L := fun e' => by
              rw [e', nL] at e
              cases e
            rw [upd_ne nc]
            exact bt2.1 _ _ e nb
          · obtain ⟨r', e1⟩ := bt2.2 l r e
            exact ⟨r', (upd_ne Lb.symm).trans e1⟩
    · rintro σ H1 ⟨x3, x4, x5, zs, rfl, hL, lz, ndz, nmz, B1, bt⟩
      exact ⟨_, rfl, q zs L H1 lz ndz nmz hL B1 bt Lb⟩
end
end K08

set_option Elab.async false
set_option linter.all false
set_option maxRecDepth 100000
set_option maxHeartbeats 4000000
set_option pp.maxSteps 500
namespace K08
open PySem PySem.Spec PyProof.Rows L2 Ux ClX
theorem bag_head {H : Hp} {b : Addr} {k : Nat} (B : BagAt H b k) : ∃ l r, H b = some (.lst (V.ref l :: r)) := by
  obtain ⟨l, ns, p, g, s, c, h, _⟩ := B.ex
  exact ⟨l, _, h⟩
theorem strs_ne {H : Hp} {b x : Addr} {k : Nat} {zs : List Str} (B : BagAt H b k) (h : H x = some (.lst (zs.map V.str))) : x ≠ b := fun e => by
  obtain ⟨l, r, hb⟩ := bag_head B
  rw [e, hb] at h
  have e1 := Option.some.inj h
  have e2 : V.ref l :: r = zs.map V.str := by injection e1
  cases zs with
  | nil => cases e2
  | cons z zs => cases (List.cons.inj e2).1
theorem keep_strs {H H' : Hp} {b x : Addr} {k : Nat} {zs : List Str} (B : BagAt H b k) (s : Bt b H H') (h : H x = some (.lst (zs.map V.str))) : H' x = some (.lst (zs.map V.str)) := s.1 _ _ h (strs_ne B h)
theorem keep_ins {H H' : Hp} {b x C dx : Addr} {k : Nat} {fs : List (Str × V)} (B : BagAt H b k) (s : Bt b H H') (h : H x = some (.ins C dx fs)) : H' x = some (.ins C dx fs) := s.1 _ _ h fun e => by
  obtain ⟨l, r, hb⟩ := bag_head B
  rw [e, hb] at h
  cases h
theorem keep_dk {H H' : Hp} {b x : Addr} {k : Nat} {kvs : List (L2.Key × V)} (B : BagAt H b k) (s : Bt b H H') (h : H x = some (.dK kvs)) : H' x = some (.dK kvs) := s.1 _ _ h fun e => by
  obtain ⟨l, r, hb⟩ := bag_head B
  rw [e, hb] at h
  cases h
theorem keep_fact {H H' : Hp} {b p : Addr} {k : Nat} {f : FT} (B : BagAt H b k) (s : Bt b H H') (h : FactAt H p f) : FactAt H' p f := by
  obtain ⟨l, r, hb⟩ := bag_head B
  exact h.but hb s
theorem Uns.but {CR CU : Addr} {H H' : Hp} {b : Addr} {k : Nat} {ns : List Str} {u : Str → Addr} {g : Str → FT} (B : BagAt H b k) (s : Bt b H H') (h : Uns CR CU H ns u g) : Uns CR CU H' ns u g := fun n m => by
  obtain ⟨ok, dx, r, h1, dx2, h2⟩ := h n m
  exact ⟨ok, dx, r, keep_ins B s h1, dx2, keep_ins B s h2⟩
theorem WorldAt.but {CR CU CW : Addr} {H H' : Hp} {b a : Addr} {k : Nat} {ins ns nm : List Str} {g : Str → FT} (B : BagAt H b k) (s : Bt b H H') (h : WorldAt CR CU CW H a ins ns g nm) : WorldAt CR CU CW H' a ins ns g nm := by
  obtain ⟨dx, li, df, ln, u, h1, h2, h3, h4, h5, h6⟩ := h
  exact ⟨dx, li, df, ln, u, keep_ins B s h1, keep_strs B s h2, keep_dk B s h3, keep_strs B s h4, h5.but B s, h6⟩
/-- with_fact(fact = x, name = y) -/
def g12 {α : Type} (us ws : List α) : List α := match us, ws with
  | [a], [x, y] => [a, y, x]
  | _, _ => []
theorem kb12 {K : PySem.W.Frag} {fd : FuncData} {n x y : Str} (h : ∀ (s : Shared) (a b c : Value), BindsTo s fd ⟨[a], [y, x].zip [b, c]⟩ ([n, x, y].zip [a, c, b])) : KBinds K fd [n, x, y] [y, x] g12 g12 := by
  refine ⟨fun s us ws _ hl => ?_, fun {vs us zs ws} r1 r2 => ?_⟩
  · match us, ws, hl with
    | [a], [b, c], _ => exact h s a b c
  · match vs, us, zs, ws, r1, r2 with
    | [], _, _, _, .nil, r2 => cases r2 <;> exact .nil
    | [_], _, [], _, .cons _ .nil, .nil => exact .nil
    | [_], _, [_], _, .cons _ .nil, .cons _ .nil => exact .nil
    | [_], _, [_, _], _, .cons e1 .nil, .cons e2 (.cons e3 .nil) => exact .cons e1 (.cons e3 (.cons e2 .nil))
    | [_], _, _ :: _ :: _ :: _, _, .cons _ .nil, .cons _ (.cons _ (.cons _ _)) => exact .nil
    | _ :: _ :: _, _, _, _, .cons _ (.cons _ _), r2 => cases r2 <;> exact .nil
def zz : Str := "zzzzzzzz"
theorem zz_no {n : Str} (h : nameB n = true) : n ≠ zz := fun e => by
  have h1 := nameB_len h
  rw [e] at h1
  exact absurd h1 (by decide +kernel)
/-- the names of the law: inputs and functions -/
def insOf (zs : List Str) (m : Nat) : List Str := zs.take m
def lateOf (zs : List Str) (m : Nat) : List Str := (zs.drop 4).take m
structure Nine (zs : List Str) : Prop where
  len : zs.length = 9
  nd : zs.Nodup
  nm : ∀ z ∈ zs, nameB z = true
theorem Nine.win {zs : List Str} {m k : Nat} (h : Nine zs) (hm : m ≤ 4) (hk : k ≤ 4) : WIn (insOf zs m) (lateOf zs k) := by
  have sub : (insOf zs m ++ lateOf zs k).Sublist zs := by
    have e1 : (zs.take m).Sublist (zs.take 4) := by
      have : zs.take m = (zs.take 4).take m := by rw [List.take_take, Nat.min_eq_left hm]
      rw [this]
      exact List.take_sublist _ _
    have e2 : ((zs.drop 4).take k).Sublist (zs.drop 4) := List.take_sublist _ _
    have e3 := e1.append e2
    rw [List.take_append_drop] at e3
    exact e3
  refine ⟨h.nd.sublist sub, fun z hz => h.nm z (sub.subset hz), ?_, ?_⟩
  · unfold insOf
    rw [List.length_take]
    omega
  · unfold lateOf
    rw [List.length_take]
    omega
theorem Nine.il {zs : List Str} {m : Nat} (h : Nine zs) (hm : m ≤ 4) : (insOf zs m).length = m := by
  unfold insOf
  rw [List.length_take, h.len]
  omega
theorem Nine.ll {zs : List Str} {m : Nat} (h : Nine zs) (hm : m ≤ 4) : (lateOf zs m).length = m := by
  unfold lateOf
  rw [List.length_take, List.length_drop, h.len]
  omega
theorem wNo1 (li df ln : Addr) (tx : Str) : (w4 li df ln tx).lookup ("inputs" : Str) = none := by
  unfold w4 w3 w2 w1
  rw [lookup_putF, if_neg (neq _ _), lookup_putF, if_neg (neq _ _), lookup_putF, if_neg (neq _ _), lookup_putF, if_neg (neq _ _)]
  rfl
theorem wNo2 (li df ln : Addr) (tx : Str) : (w4 li df ln tx).lookup ("functions" : Str) = none := by
  unfold w4 w3 w2 w1
  rw [lookup_putF, if_neg (neq _ _), lookup_putF, if_neg (neq _ _), lookup_putF, if_neg (neq _ _), lookup_putF, if_neg (neq _ _)]
  rfl
theorem wNo3 (li df ln : Addr) (tx : Str) : (w4 li df ln tx).lookup ("fact" : Str) = none := by
  unfold w4 w3 w2 w1
  rw [lookup_putF, if_neg (neq _ _), lookup_putF, if_neg (neq _ _), lookup_putF, if_neg (neq _ _), lookup_putF, if_neg (neq _ _)]
  rfl
theorem wNo4 (li df ln : Addr) (tx : Str) : (w4 li df ln tx).lookup ("with_fact" : Str) = none := by
  unfold w4 w3 w2 w1
  rw [lookup_putF, if_neg (neq _ _), lookup_putF, if_neg (neq _ _), lookup_putF, if_neg (neq _ _), lookup_putF, if_neg (neq _ _)]
  rfl
theorem ref_ne {H : Hp} {x y z : Addr} {r : List V} {zs : List Str} (h : H x = some (.lst (V.ref z :: r))) (k : H y = some (.lst (zs.map V.str))) : x ≠ y := fun e => by
  rw [e, k] at h
  have e1 := Option.some.inj h
  have e2 : zs.map V.str = V.ref z :: r := by injection e1
  cases zs with
  | nil => cases e2
  | cons a b => cases (List.cons.inj e2).1
/-- the object of a world -/
theorem WorldAt.obj {CR CU CW : Addr} {H : Hp} {a : Addr} {ins ns nm : List Str} {g : Str → FT} (h : WorldAt CR CU CW H a ins ns g nm) : ∃ dx li df ln, H a = some (.ins CW dx (w4 li df ln (wtext ins ns g))) := by
  obtain ⟨dx, li, df, ln, u, h1, _⟩ := h
  exact ⟨dx, li, df, ln, h1⟩
/-- what the heap holds before the world is made -/
structure HA (H : Hp) (b : Addr) (k : Nat) (nA iA lA fA : Addr) (zs : List Str) (m o : Nat) (fT : Str → FT) (pA : Str → Addr) : Prop where
  bag : BagAt H b k
  nam : H nA = some (.lst (zs.map V.str))
  inp : H iA = some (.lst ((insOf zs m).map V.str))
  lat : H lA = some (.lst ((lateOf zs o).map V.str))
  fac : H fA = some (.dK (dkN (lateOf zs o) pA))
  fct : ∀ n ∈ lateOf zs o, fT n ∈ facts ∧ FactAt H (pA n) (fT n)
theorem HA.same {H H' : Hp} {b : Addr} {k : Nat} {nA iA lA fA : Addr} {zs : List Str} {m o : Nat} {fT : Str → FT} {pA : Str → Addr} (h : HA H b k nA iA lA fA zs m o fT pA) (s : Same H H') : HA H' b k nA iA lA fA zs m o fT pA :=
  ⟨h.bag.same s, s _ _ h.nam, s _ _ h.inp, s _ _ h.lat, s _ _ h.fac, fun n x => ⟨(h.fct n x).1, (h.fct n x).2.same s⟩⟩
theorem HA.but {H H' : Hp} {b : Addr} {k k' : Nat} {nA iA lA fA : Addr} {zs : List Str} {m o : Nat} {fT : Str → FT} {pA : Str → Addr} (h : HA H b k nA iA lA fA zs m o fT pA) (s : Bt b H H') (B : BagAt H' b k') : HA H' b k' nA iA lA fA zs m o fT pA :=
  ⟨B, keep_strs h.bag s h.nam, keep_strs h.bag s h.inp, keep_strs h.bag s h.lat, keep_dk h.bag s h.fac, fun n x => ⟨(h.fct n x).1, keep_fact h.bag s (h.fct n x).2⟩⟩
/-- and behind it -/
structure HS (CR CU CW : Addr) (H : Hp) (b : Addr) (k : Nat) (nA iA lA fA gA wA : Addr) (zs : List Str) (m o : Nat) (fT : Str → FT) (pA uU : Str → Addr) (ys : List Str) : Prop where
  ha : HA H b k nA iA lA fA zs m o fT pA
  fn : H gA = some (.dK (dkN (lateOf zs o ++ [zz]) uU))
  un : Uns CR CU H (lateOf zs o) uU fT
  wd : WorldAt CR CU CW H wA (insOf zs m) ys fT (insOf zs m ++ lateOf zs o)
theorem HS.same {CR CU CW : Addr} {H H' : Hp} {b : Addr} {k : Nat} {nA iA lA fA gA wA : Addr} {zs : List Str} {m o : Nat} {fT : Str → FT} {pA uU : Str → Addr} {ys : List Str} (h : HS CR CU CW H b k nA iA lA fA gA wA zs m o fT pA uU ys) (s : Same H H') : HS CR CU CW H' b k nA iA lA fA gA wA zs m o fT pA uU ys :=
  ⟨h.ha.same s, s _ _ h.fn, h.un.same s, h.wd.same s⟩
theorem HS.but {CR CU CW : Addr} {H H' : Hp} {b : Addr} {k k' : Nat} {nA iA lA fA gA wA : Addr} {zs : List Str} {m o : Nat} {fT : Str → FT} {pA uU : Str → Addr} {ys : List Str} (h : HS CR CU CW H b k nA iA lA fA gA wA zs m o fT pA uU ys) (s : Bt b H H') (B : BagAt H' b k') : HS CR CU CW H' b k' nA iA lA fA gA wA zs m o fT pA uU ys :=
  ⟨h.ha.but s B, keep_dk h.ha.bag s h.fn, h.un.but h.ha.bag s, h.wd.but h.ha.bag s⟩
theorem like_int {H : Hp} {n : Nat} (i : Int) : Like H (n + 1) (.int i) (.int i) := .inl ⟨rfl, .inr (.inr (.inl ⟨i, rfl⟩))⟩
theorem like_str {H : Hp} {n : Nat} (x : Str) : Like H (n + 1) (.str x) (.str x) := .inl ⟨rfl, .inr (.inr (.inr ⟨x, rfl⟩))⟩
theorem like_bl {H : Hp} {n : Nat} (b : Bool) : Like H (n + 1) (.bl b) (.bl b) := .inl ⟨rfl, .inr (.inl ⟨b, rfl⟩)⟩
theorem like_strs {H : Hp} {n : Nat} {a b : Addr} (xs : List Str) (h1 : H a = some (.lst (xs.map V.str))) (h2 : H b = some (.lst (xs.map V.str))) (hl : xs.length ≤ 1000) : Like H (n + 2) (.ref a) (.ref b) := by
  refine .inr ⟨a, b, _, _, rfl, rfl, .inr ⟨h1, h2⟩, rfl, by rw [List.length_map]; exact hl, fun i x y hx hy => ?_⟩
  rw [hx] at hy
  obtain rfl := Option.some.inj hy
  obtain ⟨z, _, rfl⟩ := at_map hx
  exact like_str z
theorem like_bls {H : Hp} {n : Nat} {a b : Addr} {xs ys : List V} (bs : List Bool) (h1 : H a = some (.lst xs)) (h2 : H b = some (.lst ys)) (e1 : xs = bs.map V.bl) (e2 : ys = bs.map V.bl) (hl : bs.length ≤ 1000) : Like H (n + 2) (.ref a) (.ref b) := by
  subst e1 e2
  refine .inr ⟨a, b, _, _, rfl, rfl, .inr ⟨h1, h2⟩, rfl, by rw [List.length_map]; exact hl, fun i x y hx hy => ?_⟩
  rw [hx] at hy
  obtain rfl := Option.some.inj hy
  rw [List.getElem?_map] at hx
  cases e : bs[i]? with
  | none => rw [e] at hx; cases hx
  | some c =>
    rw [e] at hx
    obtain rfl := Option.some.inj hx
    exact like_bl c
theorem cut_take (zs : List Str) (m : Nat) : cutV (zs.map V.str) none (some (m : Int)) = (insOf zs m).map V.str := by
  unfold cutV insOf
  rw [HT.sIx_nat, HT.sIx_none, List.length_map, List.drop_zero, Nat.sub_zero, ← List.map_take]
  congr 1
  by_cases h : m ≤ zs.length
  · rw [Nat.min_eq_left h]
  · rw [Nat.min_eq_right (by omega), List.take_of_length_le (Nat.le_refl _), List.take_of_length_le (by omega)]
theorem cut_late {zs : List Str} {m : Nat} (hz : zs.length = 9) (hm : m ≤ 4) : cutV (zs.map V.str) (some 4) (some (4 + (m : Int))) = (lateOf zs m).map V.str := by
  unfold cutV lateOf
  have e1 : (4 : Int) + (m : Int) = ((4 + m : Nat) : Int) := by omega
  have e2 : HT.sIx (zs.map V.str).length 0 (some 4) = 4 := by
    have := HT.sIx_nat (zs.map V.str).length 0 4
    rw [List.length_map, hz] at this ⊢
    exact this
  rw [e1, HT.sIx_nat, e2, List.length_map, hz, Nat.min_eq_left (by omega), ← List.map_drop, ← List.map_take]
  congr 2
  omega
theorem rev_ne {xs : List Str} (nd : xs.Nodup) (h : 2 ≤ xs.length) : xs.reverse ≠ xs := fun e => by
  match xs, nd, h, e with
  | x :: y :: r, nd, _, e =>
    have e0 : ((x :: y :: r).reverse)[0]? = (x :: y :: r)[0]? := by rw [e]
    rw [List.getElem?_reverse (by simp)] at e0
    have e1 := (List.getElem?_inj (i := (x :: y :: r).length - 1 - 0) (by simp) nd).mp e0
    simp at e1
def fS : FT := ⟨2, none, 0, 1, none, some "same"⟩
def fO9 : FT := ⟨1, some "odd", 9, 1, none, none⟩
theorem fS_ok : FOk fS := (facts_ok fS (mem_two (some "same") (.inr (.inl rfl)))).1
theorem fO9_ok : FOk fO9 := ⟨show (-100 : Int) ≤ 9 by decide, show (9 : Int) ≤ 100 by decide, show (0 : Int) < 1 by decide, show (1 : Int) ≤ 100 by decide, .inr ⟨rfl, rfl, .inr (.inr rfl), .inl rfl⟩, fun h => by cases h⟩
def f00 : FT := ⟨1, none, 0, 1, none, none⟩
theorem f00_ok : FOk f00 := (facts_ok f00 (mem_free none (by decide))).1
theorem win_nil : WIn [] [] := ⟨List.nodup_nil, (fun z h => nomatch h), by decide, by decide⟩
theorem wtext_nil (g : Str → FT) : wtext [] [] g = "; " := by
  show Txt.join ", " [] ++ "; " ++ Txt.join ", " [] = "; "
  decide +kernel
theorem depth_strs : ∀ xs : List Str, PyData.depthAll (xs.map PyData.str) = 0
  | [] => by simp [PyData.depthAll]
  | x :: r => by
    rw [List.map_cons, PyData.depthAll, depth_strs r]
    simp [PyData.depth]
theorem lay_names : ∀ xs : List Str, (∀ x ∈ xs, nameB x = true) → PyData.canLayAll0 (xs.map PyData.str) = true
  | [], _ => by simp [PyData.canLayAll0]
  | x :: r, h => by
    have h1 : PyData.canLay0 (.str x) = true := by
      have hx := name_letters (h x (List.mem_cons_self ..))
      unfold PyData.canLay0
      have k : (letters.all fun c => decide (c < 0x110000)) = true := by decide +kernel
      unfold PyData.strOk
      rw [← Array.all_toList, List.all_eq_true]
      exact fun c hc => List.all_eq_true.mp k c (hx c hc)
    rw [List.map_cons, PyData.canLayAll0, h1, lay_names r (fun y hy => h y (List.mem_cons_of_mem _ hy))]
    rfl
theorem shaped_names {xs : List Str} (h : ∀ x ∈ xs, nameB x = true) : SeqAt.shaped (.list (xs.map PyData.str)) = true := by
  have e1 : PyData.canLay0 (.list (xs.map PyData.str)) = true := by
    rw [PyData.canLay0]
    exact lay_names xs h
  have e2 : PyData.depth (.list (xs.map PyData.str)) ≤ 64 := by
    rw [PyData.depth, depth_strs]
    decide
  unfold SeqAt.shaped
  rw [e1, decide_eq_true e2]
  rfl
theorem eqv_names {xs : List Str} (h : ∀ x ∈ xs, nameB x = true) : PyData.eqv (.list (xs.map PyData.str)) (.list (xs.map PyData.str)) = true := SeqAt.eqv_refl _ (by
    rw [PyData.canLay0]
    exact lay_names xs h)
theorem dp_strs {K : PySem.W.Frag} {H : Hp} : ∀ xs : List Str, DpAll K H (xs.map V.str) (xs.map PyData.str)
  | [] => .nil
  | x :: r => .cons (.str x) (dp_strs r)
end K08

set_option Elab.async false
set_option linter.all false
set_option maxRecDepth 100000
set_option maxHeartbeats 4000000
set_option pp.maxSteps 500
namespace K08
open PySem PySem.Spec PyProof.Rows L2 Ux ClX
abbrev sLaw : Stmt := top 60
def spLaw (K : PySem.W.Frag) : Sp := fun vs H Q _ => ∃ (a : Addr) (ns : List Int), vs = [.ref a] ∧ SqL K H a (ns.map V.int) ∧ ns.length ≤ 63 ∧ ∀ H', Q (.bl true) H'
abbrev nLaw : List Str := ["_law_script", "_law_bag_here", "_law_names_here", "_law_many", "_law_more", "_law_inputs", "_law_late", "_law_facts_here", "_law_name_here", "_law_handed", "_law_functions", "_law_world", "_law_text", "_law_again", "_law_found", "_law_due", "_law_turned", "_law_fresh", "_law_made", "_law_value", "_law_one"]
theorem scLaw : FnScope nLaw ["_law_script"] (defScope sLaw) := ⟨rfl, rfl, rfl, by decide +kernel, rfl, by decide +kernel, by decide +kernel⟩
section
variable {P : Program} {w : World} {K : PySem.W.Frag} {mg : Str → Option Value} {base : Heap} {CR CU CW : Addr} {mc : Value}
theorem ok_law {f fB fP fO fS fNm fA fUn fi fe fW fIn fFu fFa fWi fCo fLe fEw fSt fRe : Addr} {fd fdB fdP fdO fdS fdNm fdA fdUn fdi fde fdW fdIn fdFu fdFa fdWi fdCo fdLe fdEw fdSt fdRe : FuncData} {g2 g0 : List Value → List Value → List Value} {gw : List Value → List Value → List Value} {d0 : List Value} (F : Fun K "law" "law" sLaw f fd) (B2 : Bm mg) (U : UT K mg CU) (W : WT K mg CW mc)
    (DB : Dn K mg "_law_bag" fB) (GB : FnOk P w K mg base CX0 1 fB fdB ["_law_script"] (spBag K)) (bB : Binds K fdB ["_law_script"] [])
    (DP : Dn K mg "_law_pull" fP) (GP : FnOk P w K mg base CX0 1 fP fdP ["_law_bag_here", "_law_many"] spPull) (bP : Binds K fdP ["_law_bag_here", "_law_many"] [])
    (DO : Dn K mg "_law_of" fO) (GO : FnOk P w K mg base CX0 2 fO fdO ["_law_bag_here", "_law_things"] spOf) (bO : Binds K fdO ["_law_bag_here", "_law_things"] [])
    (DS : Dn K mg "_law_same" fS) (GS : FnOk P w K mg base CX0 4 fS fdS ["_law_found", "_law_due"] (spSame 4)) (bS : Binds K fdS ["_law_found", "_law_due"] [])
    (DNm : Dn K mg "_law_names" fNm) (GNm : FnOk P w K mg base CX0 3 fNm fdNm ["_law_bag_here", "_law_many"] spNames) (bNm : Binds K fdNm ["_law_bag_here", "_law_many"] [])
    (DA : Dn K mg "_law_facts" fA) (GA : FnOk P w K mg base CX0 3 fA fdA ["_law_bag_here", "_law_degrees"] spFacts) (bA : Binds K fdA ["_law_bag_here", "_law_degrees"] [])
    (DUn : Dn K mg "_law_unseen" fUn) (GUn : FnOk P w K mg base CX0 9 fUn fdUn ["_law_fact"] (spMkUnseen CR CU)) (bUn : Binds K fdUn ["_law_fact"] [])
    (M : Mk K CU fi) (GM : FnOk P w K mg base CX0 7 fi fdi pU (spUInit CR CU)) (b0 : Binds K fdi pU d0) (v0 : Vals [.int 1, .non, .int 0, .non, .non] d0)
    (kM2 : KBn K fdi pU 2 ["swap"] g2 (fun vs zs => vs ++ (.non :: .int 0 :: .non :: zs))) (kM0 : KBn K fdi pU 1 ["mirror", "centre"] g0 (fun vs zs => vs ++ (.int 1 :: (zs ++ [.non, .non]))))
    (ME : OwnM K CU "__eq__" fe) (NE : NeO K CU) (GE : FnOk P w K mg base CX0 1 fe fde ["self", "other"] (spUEq CR CU)) (bE : Binds K fde ["self", "other"] [])
    (MW : Mk K CW fW) (GW : FnOk P w K mg base CX0 4 fW fdW ["self", "inputs", "functions"] (spWInit CR CU CW)) (bW : Binds K fdW ["self", "inputs", "functions"] [])
    (MIn : Meth K CW "inputs" fIn) (GIn : FnOk P w K mg base CX0 1 fIn fdIn ["self"] (spWIns CR CU CW)) (bIn : Binds K fdIn ["self"] [])
    (MFu : Meth K CW "functions" fFu) (GFu : FnOk P w K mg base CX0 1 fFu fdFu ["self"] (spWFuns CR CU CW)) (bFu : Binds K fdFu ["self"] [])
    (MFa : Meth K CW "fact" fFa) (GFa : FnOk P w K mg base CX0 1 fFa fdFa ["self", "name"] (spWFact CR CU CW)) (bFa : Binds K fdFa ["self", "name"] [])
    (MWi : Meth K CW "with_fact" fWi) (GWi : FnOk P w K mg base CX0 6 fWi fdWi ["self", "name", "fact"] (spWWith CR CU CW)) (kWi : KBinds K fdWi ["self", "name", "fact"] ["fact", "name"] gw g12)
    (MCo : OwnM K CW "__contains__" fCo) (GCo : FnOk P w K mg base CX0 1 fCo fdCo ["self", "name"] (spWCont K CR CU CW)) (bCo : Binds K fdCo ["self", "name"] [])
    (MLe : OwnM K CW "__len__" fLe) (GLe : FnOk P w K mg base CX0 1 fLe fdLe ["self"] (spWLen CR CU CW)) (bLe : Binds K fdLe ["self"] [])
    (MEw : OwnM K CW "__eq__" fEw) (NEw : NeO K CW) (GEw : FnOk P w K mg base CX0 1 fEw fdEw ["self", "other"] (spWEq CR CU CW)) (bEw : Binds K fdEw ["self", "other"] [])
    (MSt : OwnM K CW "__str__" fSt) (GSt : FnOk P w K mg base CX0 1 fSt fdSt ["self"] (spWStr CR CU CW)) (bSt : Binds K fdSt ["self"] [])
    (MRe : OwnM K CW "__repr__" fRe) (GRe : FnOk P w K mg base CX0 1 fRe fdRe ["self"] (spWRepr CR CU CW)) (bRe : Binds K fdRe ["self"] []) :
    FnOk P w K mg base CX0 10 f fd ["_law_script"] (spLaw K) := by
  refine F.ok scLaw (fun vs H Q E h => ?_) (fun cdv A outer s H vs Q E hr h => ?_)
  · obtain ⟨a, ns, rfl, _⟩ := h
    rfl
  · obtain ⟨a, ns, rfl, hS, hlen, q⟩ := h
    have B := B2.bn
    have r1 : Room 1 _ := hr.mono (by decide)
    have r2 : Room 2 _ := hr.mono (by decide)
    have r3 : Room 3 _ := hr.mono (by decide)
    have r4 : Room 4 _ := hr.mono (by decide)
    have r5 : Room 5 _ := hr.mono (by decide)
    have r6 : Room 6 _ := hr.mono (by decide)
    have r8 : Room 8 _ := hr.mono (by decide)
    refine ⟨_, (pss_cons (ps_set (i := 1) scLaw.nd rfl (Or.inl rfl) (pe_call GB r1 (by rfl) DB.gl DB.kp bB .nil pass0 (pa_cons (pv 0) pa_nil)))
      (pss_cons (ps_set (i := 2) scLaw.nd rfl (Or.inl rfl) (pe_call GNm r3 (by rfl) DNm.gl DNm.kp bNm .nil pass0 (pa_cons (pv 1) (pa_cons pe_int pa_nil))))
      (C8.pss_cut (ps_par (i := 3) (j := 4) rfl scLaw.nd rfl rfl (by decide) rfl rfl (pa_cons (pe_call GP r1 (by rfl) DP.gl DP.kp bP .nil pass0 (pa_cons (pv 1) (pa_cons pe_int pa_nil))) (pa_cons (pe_call GP r1 (by rfl) DP.gl DP.kp bP .nil pass0 (pa_cons (pv 1) (pa_cons pe_int pa_nil))) pa_nil)) rfl)
      (C8.pss_cut (ps_asg (pe_tup (pa_cons (pe_slice sl_list (pv 2) po_none (po_some (pv 3))) (pa_cons (pe_slice sl_list (pv 2) (po_some pe_int) (po_some (pe_op op_add pe_int (pv 4)))) (pa_cons pe_dnewK pa_nil)))) (pg_tup rfl (pgs_cons (pg_name (i := 5) scLaw.nd rfl (Or.inr rfl)) (pgs_cons (pg_name (i := 6) scLaw.nd rfl (Or.inr rfl)) (pgs_cons (pg_name (i := 7) scLaw.nd rfl (Or.inl rfl)) pgs_nil)))))
      (C8.pss_cut (ps_for PassesOwn.never rfl (pi_list (pv 6)) (pg_name (i := 8) scLaw.nd rfl (Or.inr rfl)) (pss_one (ps_dput (hu_of hr) (pv 7) (pv 8) (pe_call GA r3 (by rfl) DA.gl DA.kp bA .nil pass0 (pa_cons (pv 1) (pa_cons pe_bl pa_nil))) rfl)))
      (C8.pss_cut (ps_asg (pe_tup (pa_cons (pe_callTy call_list_of (by rfl) B.tlist (by decide +kernel) (pa_cons (pv 5) pa_nil)) (pa_cons pe_dnewK pa_nil))) (pg_tup rfl (pgs_cons (pg_name (i := 9) scLaw.nd rfl (Or.inl rfl)) (pgs_cons (pg_name (i := 10) scLaw.nd rfl (Or.inr rfl)) pgs_nil))))
      (C8.pss_cut (ps_for PassesOwn.never rfl (pi_list (pv 6)) (pg_name (i := 8) scLaw.nd rfl (Or.inr rfl)) (pss_one (ps_dput (hu_of hr) (pv 10) (pv 8) (pe_call GUn hr (by rfl) DUn.gl DUn.kp bUn .nil pass0 (pa_cons (pe_dget (hu_of hr) (pv 7) (pv 8) (fun _ _ => rfl)) pa_nil)) rfl)))
      (C8.pss_cut (ps_set (i := 11) scLaw.nd rfl (Or.inr rfl) (pe_make MW GW r5 (by rfl) W.gl bW .nil pass0 (pa_cons (pv 9) (pa_cons (pv 10) pa_nil))))
      (pss_cons (ps_expr (pe_bm PySem.F.plainAttrs_list PySem.F.slot_list_append PySem.F.type_list_append mt_append (pv 9) (pa_cons pe_str pa_nil)))
      (C8.pss_cut (ps_dput (hu_of hr) (pv 10) pe_str (pe_make0 M GM r8 (by rfl) U.gl b0 v0 pass0) rfl)
      (C8.pss_cut (ps_set (i := 12) scLaw.nd rfl (Or.inl rfl) (pe_op op_add_str (pe_op op_add_str (pe_join pe_str (pv 5)) pe_str) (pe_join pe_str (pe_lc (own := [("_law_name_here", 8)]) (g := gName 8) (te := tOp (fun x y H Q => ∃ i j, x = V.str i ∧ y = V.str j ∧ i.length + j.length ≤ sizeLine ∧ Q (V.str (i ++ j)) H) (tOp (fun x y H Q => ∃ i j, x = V.str i ∧ y = V.str j ∧ i.length + j.length ≤ sizeLine ∧ Q (V.str (i ++ j)) H) (tVar 8) (tC (.str ": "))) (tFld K (tDGet (tVar 10) (tVar 8)) "text")) rfl scLaw.nd (pi_list (pe_callB cr_sortedS (by rfl) B2.fsort (by decide +kernel) (pa_cons (pv 6) pa_nil))) (blkOk_by (own := [("_law_name_here", 8)]) (N := nLaw) (sc := defScope sLaw) (by decide +kernel)) (fun _ _ _ _ _ => pg_name (i := 8) scLaw.nd rfl (Or.inl rfl) (hf := Or.inr rfl)) (fun _ _ _ _ _ => pts_nil) (fun _ _ _ _ _ => (pe_op op_add_str (pe_op op_add_str (pv 8) pe_str) (pe_fld (pe_dget (hu_of hr) (pv 10) (pv 8) (fun _ _ => rfl)) rfl)))))))
      (C8.pss_cut (ps_for PassesOwn.never rfl (pi_range1 rfl B.frange (pa_cons pe_int pa_nil)) (pg_name (i := 13) scLaw.nd rfl (Or.inl rfl)) (C8.pss_cut (ps_set (i := 14) scLaw.nd rfl (Or.inl rfl) (pe_lst (pa_cons (pe_meth0 (pv 11) W.cl MIn GIn r1 bIn .nil pass0) (pa_cons (pe_meth0 (pv 11) W.cl MFu GFu r1 bFu .nil pass0) (pa_cons (pe_callB (call_lenO MLe GLe bLe r2) (by rfl) B.flen (by decide +kernel) (pa_cons (pv 11) pa_nil)) (pa_cons (pe_fld (pv 11) rfl) (pa_cons (pe_callTy (call_strO MSt GSt bSt r3) (by rfl) B.tstr (by decide +kernel) (pa_cons (pv 11) pa_nil)) (pa_cons (pe_callB (call_reprO MRe GRe bRe r2) (by rfl) B.frepr (by decide +kernel) (pa_cons (pv 11) pa_nil)) pa_nil))))))))
      (C8.pss_cut (ps_if (pt_not (pt_val (pe_call GS r4 (by rfl) DS.gl DS.kp bS .nil pass0 (pa_cons (pv 14) (pa_cons (pe_lst (pa_cons (pv 5) (pa_cons (pe_callB cr_sortedS (by rfl) B2.fsort (by decide +kernel) (pa_cons (pv 6) pa_nil)) (pa_cons (pe_op op_add (pv 3) (pv 4)) (pa_cons (pv 12) (pa_cons (pv 12) (pa_cons (pe_op op_add_str (pe_op op_add_str pe_str (pv 12)) pe_str) pa_nil))))))) pa_nil))))) (pss_one (ps_ret pe_bl)) pss_nil)
      (pss_cons (ps_expr (pe_bm PySem.F.plainAttrs_list PySem.F.slot_list_append PySem.F.type_list_append mt_append (pe_ix ix_list (pv 14) pe_int (fun _ _ => rfl)) (pa_cons pe_non pa_nil)))
      (pss_one (ps_expr (pe_bm PySem.F.plainAttrs_list PySem.F.slot_list_append PySem.F.type_list_append mt_append (pe_ix ix_list (pv 14) pe_int (fun _ _ => rfl)) (pa_cons pe_non pa_nil))))))))
      (C8.pss_cut (ps_set (i := 15) scLaw.nd rfl (Or.inl rfl) (pe_op op_cat (pe_lc (own := [("_law_name_here", 8)]) (g := gName 8) (te := tOp (rIn K false) (tVar 8) (tOp rCat (tVar 5) (tVar 6))) rfl scLaw.nd (pi_list (pv 2)) (blkOk_by (own := [("_law_name_here", 8)]) (N := nLaw) (sc := defScope sLaw) (by decide +kernel)) (fun _ _ _ _ _ => pg_name (i := 8) scLaw.nd rfl (Or.inl rfl) (hf := Or.inr rfl)) (fun _ _ _ _ _ => pts_nil) (fun _ _ _ _ _ => (pe_cmpR op_in_seq (pv 8) (pe_op op_cat (pv 5) (pv 6)) (by rfl)))) (pe_op op_rep (pe_lst (pa_cons pe_bl pa_nil)) pe_int)))
      (C8.pss_cut (ps_if (pt_not (pt_val (pe_call GS r4 (by rfl) DS.gl DS.kp bS .nil pass0 (pa_cons (pe_op op_cat (pe_lc (own := [("_law_name_here", 8)]) (g := gName 8) (te := tOp (rOwnIn CW (spWCont K CR CU CW) false) (tVar 8) (tVar 11)) rfl scLaw.nd (pi_list (pv 2)) (blkOk_by (own := [("_law_name_here", 8)]) (N := nLaw) (sc := defScope sLaw) (by decide +kernel)) (fun _ _ _ _ _ => pg_name (i := 8) scLaw.nd rfl (Or.inl rfl) (hf := Or.inr rfl)) (fun _ _ _ _ _ => pts_nil) (fun _ _ _ _ _ => (pe_cmpR (op_inO MCo GCo bCo r1) (pv 8) (pv 11) (by rfl)))) (pe_lc (own := [("_law_value", 19)]) (g := gName 19) (te := tOp (rOwnIn CW (spWCont K CR CU CW) false) (tVar 19) (tVar 11)) rfl scLaw.nd (pi_list (pe_lst (pa_cons pe_non (pa_cons pe_int (pa_cons (pe_lst (pa_cons (pe_ix ix_list (pv 2) pe_int (fun _ _ => rfl)) pa_nil)) pa_nil))))) (blkOk_by (own := [("_law_value", 19)]) (N := nLaw) (sc := defScope sLaw) (by decide +kernel)) (fun _ _ _ _ _ => pg_name (i := 19) scLaw.nd rfl (Or.inl rfl) (hf := Or.inr rfl)) (fun _ _ _ _ _ => pts_nil) (fun _ _ _ _ _ => (pe_cmpR (op_inO MCo GCo bCo r1) (pv 19) (pv 11) (by rfl))))) (pa_cons (pv 15) pa_nil))))) (pss_one (ps_ret pe_bl)) pss_nil)
      (C8.pss_cut (ps_if (pt_not (pt_val (pe_callB (cr_all rfl) (by rfl) B.fall (by decide +kernel) (pa_cons (pe_lc (own := [("_law_name_here", 8)]) (g := gName 8) (te := tOp (rOwnEq K CU (spUEq CR CU) false) (tMeth CW "fact" (spWFact CR CU CW) [] E0 (tVar 11) (tCons (tVar 8) tNil)) (tDGet (tVar 10) (tVar 8))) rfl scLaw.nd (pi_list (pv 6)) (blkOk_by (own := [("_law_name_here", 8)]) (N := nLaw) (sc := defScope sLaw) (by decide +kernel)) (fun _ _ _ _ _ => pg_name (i := 8) scLaw.nd rfl (Or.inl rfl) (hf := Or.inr rfl)) (fun _ _ _ _ _ => pts_nil) (fun _ _ _ _ _ => (pe_cmpR (op_eqO ME GE bE r1) (pe_meth (pv 11) W.cl MFa GFa r1 bFa .nil pass0 (pa_cons (pv 8) pa_nil)) (pe_dget (hu_of hr) (pv 10) (pv 8) (fun _ _ => rfl)) (nomark _)))) pa_nil)))) (pss_one (ps_ret pe_bl)) pss_nil)
      (pss_cons (ps_set (i := 16) scLaw.nd rfl (Or.inl rfl) pe_dnewK)
      (C8.pss_cut (ps_for PassesOwn.never rfl (pi_list (pe_revL (pv 6))) (pg_name (i := 8) scLaw.nd rfl (Or.inr rfl)) (pss_one (ps_dput (hu_of hr) (pv 16) (pv 8) (pe_dget (hu_of hr) (pv 10) (pv 8) (fun _ _ => rfl)) rfl)))
      (C8.pss_cut (ps_if (PW.pt (pw_or (pt_cmpR (op_neO MEw NEw GEw bEw r2) (pe_make MW GW r5 (by rfl) W.gl bW .nil pass0 (pa_cons (pv 5) (pa_cons (pv 16) pa_nil))) (pv 11) (nomark _)) (pw_or (PW.pt (pw_and (pt_cmpR op_gt (pv 3) pe_int (nomark _)) (pw_and1 (pt_cmpR (op_eqO MEw GEw bEw r1) (pe_make MW GW r5 (by rfl) W.gl bW .nil pass0 (pa_cons (pe_revL (pv 5)) (pa_cons (pv 16) pa_nil))) (pv 11) (nomark _))))) (pw_or1 (pt_cmpR (op_eqO MEw GEw bEw r1) (pv 11) (pv 12) (nomark _)))))) (pss_one (ps_ret pe_bl)) pss_nil)
      (C8.pss_cut (ps_if (pt_cmpR op_gt (pv 4) pe_int (nomark _)) (C8.pss_cut (ps_set (i := 8) scLaw.nd rfl (Or.inr rfl) (pe_call GO r2 (by rfl) DO.gl DO.kp bO .nil pass0 (pa_cons (pv 1) (pa_cons (pv 6) pa_nil))))
      (C8.pss_cut (ps_set (i := 17) scLaw.nd rfl (Or.inl rfl) (pe_ifExp (pt_cmpR op_eq (pe_ix ix_tup (pe_dget (hu_of hr) (pv 7) (pv 8) (fun _ _ => rfl)) pe_int (fun _ _ => rfl)) pe_int (nomark _)) (pe_makeN M GM r8 (by rfl) U.gl kM2 pass0 (pa_cons pe_int pa_nil) (pk_cons pe_str pk_nil)) (pe_makeK0 M GM r8 (by rfl) U.gl kM0 pass0 (pk_cons pe_str (pk_cons pe_int pk_nil)))))
      (C8.pss_cut (ps_set (i := 18) scLaw.nd rfl (Or.inr rfl) (pe_methK0 (pv 11) W.cl MWi GWi r6 kWi pass0 (pk_cons (pv 17) (pk_cons (pv 8) pk_nil))))
      (C8.pss_cut (ps_if (PW.pt (pw_or (pt_cmpR (op_neO ME NE GE bE r2) (pe_meth (pv 18) W.cl MFa GFa r1 bFa .nil pass0 (pa_cons (pv 8) pa_nil)) (pv 17) (nomark _)) (pw_or (pt_cmpR (op_neO ME NE GE bE r2) (pe_meth (pv 11) W.cl MFa GFa r1 bFa .nil pass0 (pa_cons (pv 8) pa_nil)) (pe_dget (hu_of hr) (pv 10) (pv 8) (fun _ _ => rfl)) (nomark _)) (pw_or1 (pt_cmpR op_ne (pe_cmpR (op_eqO MEw GEw bEw r1) (pv 18) (pv 11) (nomark _)) (pe_cmpR (op_eqO ME GE bE r1) (pv 17) (pe_dget (hu_of hr) (pv 10) (pv 8) (fun _ _ => rfl)) (nomark _)) (nomark _)))))) (pss_one (ps_ret pe_bl)) pss_nil)
      (pss_one (ps_if (PW.pt (pw_or (pt_not (pt_val (pe_callB (cr_all rfl) (by rfl) B.fall (by decide +kernel) (pa_cons (pe_lc (own := [("_law_one", 20)]) (g := gName 20) (tt := tTest (tOp rNe (tVar 20) (tVar 8))) (te := tOp (rOwnEq K CU (spUEq CR CU) false) (tMeth CW "fact" (spWFact CR CU CW) [] E0 (tVar 18) (tCons (tVar 20) tNil)) (tMeth CW "fact" (spWFact CR CU CW) [] E0 (tVar 11) (tCons (tVar 20) tNil))) rfl scLaw.nd (pi_list (pv 6)) (blkOk_by (own := [("_law_one", 20)]) (N := nLaw) (sc := defScope sLaw) (by decide +kernel)) (fun _ _ _ _ _ => pg_name (i := 20) scLaw.nd rfl (Or.inl rfl) (hf := Or.inr rfl)) (fun _ _ _ _ _ => pts_one (pt_cmpR op_ne (pv 20) (pv 8) (nomark _))) (fun _ _ _ _ _ => (pe_cmpR (op_eqO ME GE bE r1) (pe_meth (pv 18) W.cl MFa GFa r1 bFa .nil pass0 (pa_cons (pv 20) pa_nil)) (pe_meth (pv 11) W.cl MFa GFa r1 bFa .nil pass0 (pa_cons (pv 20) pa_nil)) (nomark _)))) pa_nil)))) (pw_or1 (pt_cmpR (op_neD hr.units) (pe_meth0 (pv 18) W.cl MIn GIn r1 bIn .nil pass0) (pv 5) (nomark _))))) (pss_one (ps_ret pe_bl)) pss_nil)))))) pss_nil)
      (pss_one (ps_ret (pe_and (pe_cmpR op_eq (pe_fld (pe_make MW GW r5 (by rfl) W.gl bW .nil pass0 (pa_cons (pe_lst pa_nil) (pa_cons pe_dnewK pa_nil))) rfl) pe_str (nomark _)) (pe_one (pe_cmpR op_eq (pe_cval (pe_glob (v := .ref CW) (by rfl) W.gl rfl)) pe_int (nomark _))))))))))))))))))))))))), ?_⟩
    refine ⟨_, rfl, a, ns, rfl, hS, fun b H1 B1 nb s1 => ?_⟩
    refine ⟨_, rfl, b, 9, 0, rfl, by decide, B1, by decide, fun zs nA H2 l9 nd nmz hnA B2 bt2 nbA => ?_⟩
    have ni : Nine zs := ⟨l9, nd, nmz⟩
    have t2 : True := trivial
    clear l9 nd nmz bt2 hS s1 nb B1 t2
    refine ⟨fun σ H' => ∃ m o : Nat, m ≤ 4 ∧ o ≤ 4 ∧ σ = [some (.ref a), some (.ref b), some (.ref nA), some (.int (m : Nat)), some (.int (o : Nat)), none, none, none, none, none, none, none, none, none, none, none, none, none, none, none, none] ∧ BagAt H' b 65 ∧ H' nA = some (.lst (zs.map V.str)), ?_, ?_⟩
    · refine ⟨_, rfl, b, 5, 63, rfl, by decide, by decide, B2, by decide, fun r H3 r0 r1 B3 f3 => ?_⟩
      refine ⟨_, rfl, b, 5, 64, rfl, by decide, by decide, B3, by decide, fun r' H4 r0' r1' B4 f4 => ?_⟩
      obtain ⟨m, rfl⟩ := Int.eq_ofNat_of_zero_le r0
      obtain ⟨o, rfl⟩ := Int.eq_ofNat_of_zero_le r0'
      exact ⟨_, _, rfl, m, o, by omega, by omega, rfl, B4, keep_strs B3 f4 (keep_strs B2 f3 hnA)⟩
    clear B2 hnA nbA H1 H2
    rintro σ H1 ⟨m, o, hm, ho, rfl, B1, hnA⟩
    have wi := ni.win hm ho
    refine ⟨fun σ H' => ∃ iA lA fA, σ = [some (.ref a), some (.ref b), some (.ref nA), some (.int (m : Nat)), some (.int (o : Nat)), some (.ref iA), some (.ref lA), some (.ref fA), none, none, none, none, none, none, none, none, none, none, none, none, none] ∧ BagAt H' b 65 ∧ H' nA = some (.lst (zs.map V.str)) ∧ H' iA = some (.lst ((insOf zs m).map V.str)) ∧ H' lA = some (.lst ((lateOf zs o).map V.str)) ∧ H' fA = some (.dK []), ?_, ?_⟩
    · refine ⟨_, rfl, _, rfl, _, rfl, nA, _, rfl, .of hnA, fun iA nI => ?_⟩
      have s1 := same_upd (o := .lst (cutV (zs.map V.str) none (some (m : Int)))) nI
      have hI1 : upd H1 iA (.lst (cutV (zs.map V.str) none (some (m : Int)))) iA = some (.lst ((insOf zs m).map V.str)) := by rw [upd_same, cut_take]
      generalize upd H1 iA (.lst (cutV (zs.map V.str) none (some (m : Int)))) = H2 at s1 hI1
      refine ⟨_, rfl, _, rfl, _, rfl, _, _, rfl, rfl, _, rfl, nA, _, rfl, .of (s1 _ _ hnA), fun lA nL => ?_⟩
      have s2 := same_upd (o := .lst (cutV (zs.map V.str) (some 4) (some (4 + (o : Int))))) nL
      have hL2 : upd H2 lA (.lst (cutV (zs.map V.str) (some 4) (some (4 + (o : Int))))) lA = some (.lst ((lateOf zs o).map V.str)) := by rw [upd_same, cut_late ni.len ho]
      generalize upd H2 lA (.lst (cutV (zs.map V.str) (some 4) (some (4 + (o : Int))))) = H3 at s2 hL2
      intro fA nF
      have s3 := same_upd (o := .dK []) nF
      have hF3 : upd H3 fA (.dK []) fA = some (.dK []) := upd_same
      generalize upd H3 fA (.dK []) = H4 at s3 hF3
      refine ⟨(by show 3 ≤ sizeLine; decide), fun T nT => ?_⟩
      have s4 := same_upd (o := .tup [.ref iA, .ref lA, .ref fA]) nT
      refine ⟨T, _, rfl, SqT.of upd_same, rfl, .ref iA, _, rfl, .ref lA, _, rfl, .ref fA, _, rfl, rfl, iA, lA, fA, rfl, (((B1.same s1).same s2).same s3).same s4, s4 _ _ (s3 _ _ (s2 _ _ (s1 _ _ hnA))), s4 _ _ (s3 _ _ (s2 _ _ hI1)), s4 _ _ (s3 _ _ hL2), s4 _ _ hF3⟩
    clear B1 hnA H1
    rintro σ H1 ⟨iA, lA, fA, rfl, B1, hnA, hiA, hlA, hfA⟩
    refine ⟨fun σ H' => ∃ x8 pA fT, σ = [some (.ref a), some (.ref b), some (.ref nA), some (.int (m : Nat)), some (.int (o : Nat)), some (.ref iA), some (.ref lA), some (.ref fA), x8, none, none, none, none, none, none, none, none, none, none, none, none] ∧ HA H' b 85 nA iA lA fA zs m o fT pA, ?_, ?_⟩
    · refine ⟨_, rfl, lA, rfl, ⟨_, .of hlA⟩, for_list (xs := (lateOf zs o).map V.str) (fun i σ H' => ∃ x8 pA fT, σ = [some (.ref a), some (.ref b), some (.ref nA), some (.int (m : Nat)), some (.int (o : Nat)), some (.ref iA), some (.ref lA), some (.ref fA), x8, none, none, none, none, none, none, none, none, none, none, none, none] ∧ BagAt H' b (65 + 5 * i) ∧ H' nA = some (.lst (zs.map V.str)) ∧ H' iA = some (.lst ((insOf zs m).map V.str)) ∧ H' lA = some (.lst ((lateOf zs o).map V.str)) ∧ H' fA = some (.dK (dkN ((lateOf zs o).take i) pA)) ∧ ∀ n ∈ (lateOf zs o).take i, fT n ∈ facts ∧ FactAt H' (pA n) (fT n)) ⟨none, fun _ => 0, fun _ => f00, rfl, B1, hnA, hiA, hlA, hfA, (fun n h => nomatch h)⟩ (fun i σ H' _ z => by
          obtain ⟨_, _, _, _, _, _, _, z, _⟩ := z
          exact .of z) ?_ ?_⟩
      · clear B1 hnA hiA hlA hfA H1
        rintro i x σ H1 hx ⟨x8, pA, fT, rfl, B1, hnA, hiA, hlA, hfA, fc⟩
        obtain ⟨n, hn, rfl⟩ := at_map hx
        have li : i < (lateOf zs o).length := (List.getElem?_eq_some_iff.mp hn).1
        have l4 := wi.2.2.2
        have out := not_taken wi.nd hn
        refine ⟨_, rfl, b, _, rfl, B1, by omega, fun p f H2 mf fa B2 bt => ?_⟩
        have hfA2 := keep_dk B1 bt hfA
        refine ⟨_, rfl, _, rfl, fA, _, rfl, DPut.k (k := Sum.inr n) hfA2 (by rw [dkN_len, List.length_take]; exact small1000 (by omega)), ?_⟩
        have e1 : ((lateOf zs o).take i) ++ [n] = (lateOf zs o).take (i + 1) := by
          rw [List.take_add_one, hn]
          rfl
        have nfa : ∀ q fs, H2 q = some (.tup fs) → q ≠ fA := fun q fs e z => by
          rw [z, hfA2] at e
          cases e
        have ofA : ∀ q zs', H2 q = some (.lst zs') → q ≠ fA := fun q fs e z => by
          rw [z, hfA2] at e
          cases e
        have fo : ∀ q f, FactAt H2 q f → FactAt (upd H2 fA (.dK (putK (dkN ((lateOf zs o).take i) pA) (Sum.inr n) (.ref p)))) q f := fun q f h => by
          obtain ⟨q0, h1, h2⟩ := h
          exact ⟨q0, (upd_ne (nfa _ _ h1)).trans h1, (upd_ne (nfa _ _ h2)).trans h2⟩
        refine ⟨_, putU pA n p, putG fT n f, rfl, ?_, (upd_ne (ofA _ _ (keep_strs B1 bt hnA))).trans (keep_strs B1 bt hnA), (upd_ne (ofA _ _ (keep_strs B1 bt hiA))).trans (keep_strs B1 bt hiA), (upd_ne (ofA _ _ (keep_strs B1 bt hlA))).trans (keep_strs B1 bt hlA), ?_, fun k hk => ?_⟩
        · obtain ⟨l, ns', p', g, s', c, h1, h2, h3, h4, h5, h6, h7, h8⟩ := B2.ex
          refine ⟨l, ns', p', g, s', c, (upd_ne (ofA _ _ h1)).trans h1, (upd_ne (ofA _ _ h2)).trans h2, h3, h4, h5, h6, h7, ?_⟩
          omega
        · rw [upd_same, dkN_new p out, e1]
        · rw [← e1] at hk
          unfold putU putG
          rcases List.mem_append.mp hk with h | h
          · have nk : k ≠ n := fun z => out (by rw [← z]; exact h)
            rw [if_neg nk, if_neg nk]
            exact ⟨(fc k h).1, fo _ _ (keep_fact B1 bt (fc k h).2)⟩
          · rw [List.mem_singleton] at h
            rw [if_pos h, if_pos h]
            exact ⟨mf, fo _ _ fa⟩
      · clear B1 hnA hiA hlA hfA H1
        rintro σ H1 ⟨x8, pA, fT, rfl, B1, hnA, hiA, hlA, hfA, fc⟩
        rw [List.length_map] at B1 hfA fc
        rw [List.take_length] at hfA fc
        exact ⟨x8, pA, fT, rfl, B1.more (by have := wi.2.2.2; omega), hnA, hiA, hlA, hfA, fc⟩
    clear B1 hnA hiA hlA hfA H1
    rintro σ H1 ⟨x8, pA, fT, rfl, ha⟩
    refine ⟨fun σ H' => ∃ hA gA, σ = [some (.ref a), some (.ref b), some (.ref nA), some (.int (m : Nat)), some (.int (o : Nat)), some (.ref iA), some (.ref lA), some (.ref fA), x8, some (.ref hA), some (.ref gA), none, none, none, none, none, none, none, none, none, none] ∧ HA H' b 85 nA iA lA fA zs m o fT pA ∧ H' hA = some (.lst ((insOf zs m).map V.str)) ∧ H' gA = some (.dK []) ∧ Same H1 H' ∧ H1 gA = none ∧ H1 hA = none, ?_, ?_⟩
    · refine ⟨_, rfl, iA, _, rfl, .inl (.of ha.inp), fun hA nh => ?_⟩
      have s1 := same_upd (o := .lst ((insOf zs m).map V.str)) nh
      have hh : upd H1 hA (.lst ((insOf zs m).map V.str)) hA = some (.lst ((insOf zs m).map V.str)) := upd_same
      generalize upd H1 hA (.lst ((insOf zs m).map V.str)) = H2 at s1 hh
      intro gA ng
      have s2 := same_upd (o := .dK []) ng
      have hg : upd H2 gA (.dK []) gA = some (.dK []) := upd_same
      have ng1 : H1 gA = none := Classical.byContradiction fun z => by
        cases e : H1 gA with
        | none => exact z e
        | some o =>
          rw [s1 _ _ e] at ng
          cases ng
      generalize upd H2 gA (.dK []) = H3 at s2 hg
      refine ⟨(by show 2 ≤ sizeLine; decide), fun T nT => ?_⟩
      have s3 := same_upd (o := .tup [.ref hA, .ref gA]) nT
      exact ⟨T, _, rfl, SqT.of upd_same, rfl, .ref hA, _, rfl, .ref gA, _, rfl, rfl, hA, gA, rfl, ((ha.same s1).same s2).same s3, s3 _ _ (s2 _ _ hh), s3 _ _ hg, (s1.trans s2).trans s3, ng1, nh⟩
    rintro σ H2 ⟨hA, gA, rfl, ha2, hh2, hg2, s12, ng1, nh1⟩
    refine ⟨fun σ H' => ∃ x8 uU, σ = [some (.ref a), some (.ref b), some (.ref nA), some (.int (m : Nat)), some (.int (o : Nat)), some (.ref iA), some (.ref lA), some (.ref fA), x8, some (.ref hA), some (.ref gA), none, none, none, none, none, none, none, none, none, none] ∧ Same H1 H' ∧ H' hA = some (.lst ((insOf zs m).map V.str)) ∧ H' gA = some (.dK (dkN (lateOf zs o) uU)) ∧ Uns CR CU H' (lateOf zs o) uU fT, ?_, ?_⟩
    · refine ⟨_, rfl, lA, rfl, ⟨_, .of ha2.lat⟩, for_list (xs := (lateOf zs o).map V.str) (fun i σ H' => ∃ x8 uU, σ = [some (.ref a), some (.ref b), some (.ref nA), some (.int (m : Nat)), some (.int (o : Nat)), some (.ref iA), some (.ref lA), some (.ref fA), x8, some (.ref hA), some (.ref gA), none, none, none, none, none, none, none, none, none, none] ∧ Same H1 H' ∧ H' hA = some (.lst ((insOf zs m).map V.str)) ∧ H' gA = some (.dK (dkN ((lateOf zs o).take i) uU)) ∧ Uns CR CU H' ((lateOf zs o).take i) uU fT) ⟨x8, fun _ => 0, rfl, s12, hh2, hg2, (fun n h => nomatch h)⟩ (fun i σ H' _ z => by
          obtain ⟨_, _, _, z, _⟩ := z
          exact .of (z _ _ ha.lat)) ?_ ?_⟩
      · rintro i x σ H3 hx ⟨x8', uU, rfl, s13, hh3, hg3, un⟩
        obtain ⟨n, hn, rfl⟩ := at_map hx
        have li : i < (lateOf zs o).length := (List.getElem?_eq_some_iff.mp hn).1
        have l4 := wi.2.2.2
        have out := not_taken wi.nd hn
        have mn := List.mem_of_getElem? hn
        obtain ⟨mf, fa⟩ := ha.fct n mn
        refine ⟨_, rfl, _, rfl, fA, .ref (pA n), rfl, .inl ⟨_, Sum.inr n, .inl (s13 _ _ ha.fac), rfl, (dkN_in mn).symm⟩, pA n, fT n, rfl, fa.same s13, mf, fun u H4 ua s34 => ?_⟩
        have hg4 := s34 _ _ hg3
        refine ⟨_, rfl, _, rfl, gA, _, rfl, DPut.k (k := Sum.inr n) hg4 (by rw [dkN_len, List.length_take]; exact small1000 (by omega)), ?_⟩
        have e1 : ((lateOf zs o).take i) ++ [n] = (lateOf zs o).take (i + 1) := by
          rw [List.take_add_one, hn]
          rfl
        have nhg : hA ≠ gA := fun z => by
          rw [z, hg3] at hh3
          cases hh3
        refine ⟨_, putU uU n u, rfl, fun c o e => ?_, (upd_ne nhg).trans (s34 _ _ hh3), ?_, fun k hk => ?_⟩
        · have nc : c ≠ gA := fun z => by
            rw [z, ng1] at e
            cases e
          exact (upd_ne nc).trans (s34 _ _ (s13 _ _ e))
        · rw [upd_same, dkN_new u out, e1]
        · rw [← e1] at hk
          unfold putU
          rcases List.mem_append.mp hk with h | h
          · have nk : k ≠ n := fun z => out (by rw [← z]; exact h)
            rw [if_neg nk]
            exact ⟨(un k h).1, ((un k h).2.same s34).off (.dk hg4)⟩
          · rw [List.mem_singleton] at h
            rw [if_pos h, h]
            exact ⟨(facts_ok _ mf).1, ua.off (.dk hg4)⟩
      · rintro σ H3 ⟨x8', uU, rfl, s13, hh3, hg3, un⟩
        rw [List.length_map, List.take_length] at hg3 un
        exact ⟨x8', uU, rfl, s13, hh3, hg3, un⟩
    clear ha2 hh2 hg2 s12 H2
    rintro σ H2 ⟨x8', uU, rfl, s12, hh2, hg2, un2⟩
    -- the world
    refine ⟨fun σ H' => ∃ wA ys, σ = [some (.ref a), some (.ref b), some (.ref nA), some (.int (m : Nat)), some (.int (o : Nat)), some (.ref iA), some (.ref lA), some (.ref fA), x8', some (.ref hA), some (.ref gA), some (.ref wA), none, none, none, none, none, none, none, none, none] ∧ Same H2 H' ∧ ys.Perm (lateOf zs o) ∧ sortedS ys = true ∧ WorldNew CR CU CW H2 H' wA (insOf zs m) ys fT (insOf zs m ++ lateOf zs o), ?_, ?_⟩
    · refine ⟨_, rfl, _, rfl, fun x dx nx ndx ne => ?_⟩
      have s3 : Same H2 (upd (upd H2 dx (.own x)) x (.ins CW dx [])) := fun c o e => by
        have n1 := ne_of_none e nx
        rw [upd_ne n1, upd_ne (ne_of_none e ndx)]
        exact e
      refine ⟨x, dx, hA, gA, insOf zs m, lateOf zs o, uU, fT, rfl, upd_same, s3 _ _ hh2, s3 _ _ hg2, wi, un2.same s3, fun H' ys pm so wa bt => ⟨rfl, x, ys, rfl, made_same nx ndx bt, pm, so, wa.base s3⟩⟩
    rintro σ H3 ⟨wA, ys, rfl, s23, pm, so, wa⟩
    have nhg : hA ≠ gA := fun z => by
      rw [z, hg2] at hh2
      cases hh2
    have hh3 := s23 _ _ hh2
    have hg3 := s23 _ _ hg2
    refine ⟨_, rfl, .inl ⟨rfl, _, SqL.of hh3⟩, hA, _, _, rfl, rfl, hh3, by rw [List.length_map]; exact small1000 (by have := wi.2.2.1; omega), ?_⟩
    have wa4 := wa.off (o := .lst ((insOf zs m).map V.str ++ [.str "zzzzzzzz"])) hh2 (.ls hh3)
    have un4 := (un2.same s23).off (o := .lst ((insOf zs m).map V.str ++ [.str "zzzzzzzz"])) (.ls hh3)
    have hg4 : upd H3 hA (.lst ((insOf zs m).map V.str ++ [.str "zzzzzzzz"])) gA = some (.dK (dkN (lateOf zs o) uU)) := (upd_ne nhg.symm).trans hg3
    have s14 : Same H1 (upd H3 hA (.lst ((insOf zs m).map V.str ++ [.str "zzzzzzzz"]))) := fun c o e => by
      have nc : c ≠ hA := fun z => by
        rw [z, nh1] at e
        cases e
      exact (upd_ne nc).trans (s23 _ _ (s12 _ _ e))
    generalize upd H3 hA (.lst ((insOf zs m).map V.str ++ [.str "zzzzzzzz"])) = H4 at wa4 un4 hg4 s14
    clear wa hh3 hg3 s23 hh2 un2
    refine ⟨fun σ H' => ∃ (uU : Str → Addr), σ = [some (.ref a), some (.ref b), some (.ref nA), some (.int (m : Nat)), some (.int (o : Nat)), some (.ref iA), some (.ref lA), some (.ref fA), x8', some (.ref hA), some (.ref gA), some (.ref wA), none, none, none, none, none, none, none, none, none] ∧ HS CR CU CW H' b 85 nA iA lA fA gA wA zs m o fT pA uU ys, ?_, ?_⟩
    · refine fun x dx nx nd ne => ⟨x, dx, f00, .int 0, rfl, upd_same, f00_ok, .inr ⟨rfl, rfl⟩, fun H5 un5 bu5 => ⟨rfl, ?_⟩⟩
      have s45 := made_same nx nd bu5
      have hg5 := s45 _ _ hg4
      have l4 := wi.2.2.2
      have out : zz ∉ lateOf zs o := fun z => zz_no (wi.2.1 _ (List.mem_append_right _ z)) rfl
      refine ⟨_, rfl, gA, _, rfl, DPut.k (k := Sum.inr zz) hg5 (by rw [dkN_len]; exact small1000 (by omega)), putU uU zz x, rfl, ?_, ?_, fun n hn => ?_, ?_⟩
      · refine ha.same fun c o e => ?_
        have nc : c ≠ gA := fun z => by
          rw [z, ng1] at e
          cases e
        exact (upd_ne nc).trans (s45 _ _ (s14 _ _ e))
      · rw [upd_same, dkN_new x out]
      · have nz : n ≠ zz := fun z => out (by rw [← z]; exact hn)
        unfold putU
        rw [if_neg nz]
        exact ⟨(un4 n hn).1, ((un4 n hn).2.same s45).off (.dk hg5)⟩
      · exact ((wa4.same s45).off hg2 (.dk hg5)).at
    clear wa4 un4 hg4 s14 hg2 ng1 nh1 nhg s12 ha H1 H2 H3 H4
    rintro σ H1 ⟨uU, rfl, hs⟩
    have wy := wi.perm pm
    have uny : ∀ n ∈ ys, FOk (fT n) ∧ UnsAt CR CU H1 (uU n) (fT n) := fun n hn => hs.un n (pm.mem_iff.mp hn)
    have tl := wtext_len wi.ni wy.nn (fun n hn => (uny n hn).1)
    refine ⟨fun σ H' => σ = [some (.ref a), some (.ref b), some (.ref nA), some (.int (m : Nat)), some (.int (o : Nat)), some (.ref iA), some (.ref lA), some (.ref fA), x8', some (.ref hA), some (.ref gA), some (.ref wA), some (.str (wtext (insOf zs m) ys fT)), none, none, none, none, none, none, none, none] ∧ Same H1 H', ?_, ?_⟩
    · have e2 : ("; " : Str).length = 2 := by decide
      have e3 : (": " : Str).length = 2 := by decide
      have li := ins_len wi.ni
      have okY : ∀ n ∈ ys, FOk (fT n) := fun n hn => (uny n hn).1
      have lf := fns_len wy.nn okY
      have el := ents_len wy.nn okY
      have eln : (ents ys fT).length = ys.length := List.length_map _
      refine ⟨⟨_, rfl⟩, _, rfl, ", ", iA, insOf zs m, rfl, rfl, .inl (.of hs.ha.inp), ?_, _, _, rfl, rfl, ?_, ⟨_, rfl⟩, _, rfl, lA, lateOf zs o, rfl, .of hs.ha.lat, by have := wi.2.2.2; omega, fun ys' p pm' so' np => ?_⟩
      · have h1 := sum_len _ wi.ni.len
        have h2 := wi.ni.1
        rw [sep_len]
        omega
      · rw [e2]
        exact fit (m := 500) (by omega) (by decide)
      · have ey : ys' = ys := sorted_one (pm'.trans pm.symm) so' so
        subst ey
        refine ⟨p, rfl, ⟨_, .of upd_same⟩, fun D nD => ?_⟩
        refine lc_list (xs := ys'.map V.str) (fun i H' => Same (upd H1 p (.lst (ys'.map V.str))) H' ∧ H' D = some (.lst (((ents ys' fT).take i).map V.str))) ⟨same_upd nD, upd_same⟩ (fun i H' _ z => .of (z.1 _ _ upd_same)) ?_ ?_
        · rintro i x H2 hx ⟨s2, d2⟩
          obtain ⟨n, hn, rfl⟩ := at_map hx
          have mn := List.mem_of_getElem? hn
          have ml : n ∈ lateOf zs o := pm.mem_iff.mp mn
          have t2 : Same H1 H2 := (same_upd np).trans s2
          obtain ⟨ok, ua⟩ := uny n mn
          obtain ⟨dx, r, hu, _⟩ := ua.same t2
          have l6 := nameB_len (wy.2.1 n (List.mem_append_right _ mn))
          have l4 := ftext_len ok
          refine ⟨rfl, _, rfl, _, _, rfl, rfl, ?_, _, rfl, _, rfl, gA, .ref (uU n), rfl, .inl ⟨_, Sum.inr n, .inl (t2 _ _ hs.fn), rfl, (dkN_in (List.mem_append_left _ ml)).symm⟩, uU n, CU, dx, _, _, rfl, hu, U.cl, U.n6, gTx _ _, _, _, rfl, rfl, ?_, _, d2, ?_, fun c o e => ?_, ?_⟩
          · rw [e3]
            exact fit (m := 10) (by omega) (by decide)
          · rw [PySem.Str.length_append, e3]
            exact fit (m := 500) (by omega) (by decide)
          · rw [List.length_map, List.length_take]
            have := wy.2.2.2
            exact small1000 (by omega)
          · rw [upd_ne (ne_of_none e nD)]
            exact s2 _ _ e
          · have ei : (ents ys' fT)[i]? = some ((n ++ ": ") ++ ftext (fT n)) := by
              unfold ents
              rw [List.getElem?_map, hn]
              rfl
            rw [upd_same, List.take_add_one, ei, List.map_append]
            rfl
        · rintro H2 ⟨s2, d2⟩
          rw [List.length_map, ← eln, List.take_length] at d2
          refine ⟨", ", D, ents ys' fT, rfl, rfl, .inl (.of d2), ?_, _, _, rfl, rfl, ?_, rfl, (same_upd np).trans s2⟩
          · have h1 := sum_len _ el
            have h2 := wy.2.2.2
            rw [sep_len]
            omega
          · rw [PySem.Str.length_append, e2]
            exact fit (m := 5000) (by omega) (by decide)
    rintro σ H2 ⟨rfl, s12⟩
    replace hs := hs.same s12
    clear s12 uny H1
    refine ⟨fun σ H' => ∃ x13 x14, σ = [some (.ref a), some (.ref b), some (.ref nA), some (.int (m : Nat)), some (.int (o : Nat)), some (.ref iA), some (.ref lA), some (.ref fA), x8', some (.ref hA), some (.ref gA), some (.ref wA), some (.str (wtext (insOf zs m) ys fT)), x13, x14, none, none, none, none, none, none] ∧ Same H2 H', ?_, ?_⟩
    · refine ⟨2, rfl, by decide, by decide, for_range (n := 2) (fun i σ H' => ∃ x13 x14, σ = [some (.ref a), some (.ref b), some (.ref nA), some (.int (m : Nat)), some (.int (o : Nat)), some (.ref iA), some (.ref lA), some (.ref fA), x8', some (.ref hA), some (.ref gA), some (.ref wA), some (.str (wtext (insOf zs m) ys fT)), x13, x14, none, none, none, none, none, none] ∧ Same H2 H') ⟨none, none, rfl, Same.refl _⟩ ?_ (fun σ H' z => z)⟩
      rintro i σ H3 hi ⟨x13, x14, rfl, s23⟩
      replace hs := hs.same s23
      obtain ⟨dw, li, df, ln, hw⟩ := hs.wd.obj
      refine ⟨fun σ H' => ∃ L l1 l2, σ = [some (.ref a), some (.ref b), some (.ref nA), some (.int (m : Nat)), some (.int (o : Nat)), some (.ref iA), some (.ref lA), some (.ref fA), x8', some (.ref hA), some (.ref gA), some (.ref wA), some (.str (wtext (insOf zs m) ys fT)), some (.int (0 + (i : Int))), some (.ref L), none, none, none, none, none, none] ∧ Same H3 H' ∧ H3 l1 = none ∧ H3 l2 = none ∧ l1 ≠ l2 ∧ H' L = some (.lst [.ref l1, .ref l2, .int ((insOf zs m ++ lateOf zs o).length : Nat), .str (wtext (insOf zs m) ys fT), .str (wtext (insOf zs m) ys fT), .str ("World(" ++ wtext (insOf zs m) ys fT ++ ")")]) ∧ H' l1 = some (.lst ((insOf zs m).map V.str)) ∧ H' l2 = some (.lst (ys.map V.str)), ?_, ?_⟩
      · refine ⟨_, rfl, wA, dw, _, rfl, hw, wNo1 _ _ _ _, wA, _, ys, fT, _, rfl, hs.wd, fun l1 n1 => ?_⟩
        have s1 := same_upd (o := .lst ((insOf zs m).map V.str)) n1
        have h1 : upd H3 l1 (.lst ((insOf zs m).map V.str)) l1 = some (.lst ((insOf zs m).map V.str)) := upd_same
        generalize upd H3 l1 (.lst ((insOf zs m).map V.str)) = H4 at s1 h1
        have hw4 := s1 _ _ hw
        have wd4 := hs.wd.same s1
        refine ⟨_, rfl, wA, dw, _, rfl, hw4, wNo2 _ _ _ _, wA, _, ys, fT, _, rfl, wd4, fun l2 n2 => ?_⟩
        have s2 := same_upd (o := .lst (ys.map V.str)) n2
        have h2 : upd H4 l2 (.lst (ys.map V.str)) l2 = some (.lst (ys.map V.str)) := upd_same
        have n2' := none_of s1 n2
        have n12 : l1 ≠ l2 := fun z => by
          rw [← z, h1] at n2
          cases n2
        generalize upd H4 l2 (.lst (ys.map V.str)) = H5 at s2 h2
        have hw5 := s2 _ _ hw4
        have wd5 := wd4.same s2
        have ln8 : (insOf zs m ++ lateOf zs o).length ≤ 8 := by
          rw [List.length_append]
          have := wi.2.2
          omega
        refine ⟨_, rfl, wA, dw, _, rfl, hw5, wA, _, ys, fT, _, rfl, wd5, _, rfl, by omega, by omega, ?_⟩
        refine ⟨_, rfl, wA, CW, dw, _, _, rfl, hw5, W.cl, W.n4, wTx _ _ _ _, ?_⟩
        refine ⟨_, rfl, wA, dw, _, rfl, hw5, wA, _, ys, fT, _, rfl, wd5, _, rfl, ?_⟩
        refine ⟨_, rfl, wA, dw, _, rfl, hw5, wA, _, ys, fT, _, rfl, wd5, _, rfl, ?_⟩
        refine ⟨(by show 6 ≤ sizeLine; decide), fun L nL => ?_⟩
        have s3 := same_upd (o := .lst [.ref l1, .ref l2, .int ((insOf zs m ++ lateOf zs o).length : Nat), .str (wtext (insOf zs m) ys fT), .str (wtext (insOf zs m) ys fT), .str ("World(" ++ wtext (insOf zs m) ys fT ++ ")")]) nL
        exact ⟨L, l1, l2, rfl, (s1.trans s2).trans s3, n1, n2', n12, upd_same, s3 _ _ (s2 _ _ h1), s3 _ _ h2⟩
      rintro σ H4 ⟨L, l1, l2, rfl, s34, n1, n2, n12, hL, h1, h2⟩
      refine ⟨fun σ H' => σ = [some (.ref a), some (.ref b), some (.ref nA), some (.int (m : Nat)), some (.int (o : Nat)), some (.ref iA), some (.ref lA), some (.ref fA), x8', some (.ref hA), some (.ref gA), some (.ref wA), some (.str (wtext (insOf zs m) ys fT)), some (.int (0 + (i : Int))), some (.ref L), none, none, none, none, none, none] ∧ Same H4 H', ?_, ?_⟩
      · have hs4 := hs.same s34
        refine ⟨_, rfl, _, rfl, _, rfl, lA, lateOf zs o, rfl, .of hs4.ha.lat, by have := wi.2.2.2; omega, fun ys' p pm' so' np => ?_⟩
        have ey : ys' = ys := sorted_one (pm'.trans pm.symm) so' so
        have s5 := same_upd (o := .lst (ys'.map V.str)) np
        have hp : upd H4 p (.lst (ys'.map V.str)) p = some (.lst (ys.map V.str)) := by rw [upd_same, ey]
        generalize upd H4 p (.lst (ys'.map V.str)) = H5 at s5 hp
        have e6 : ("World(" : Str).length = 6 := by decide
        have e1 : (")" : Str).length = 1 := by decide
        refine ⟨_, rfl, _, rfl, _, _, rfl, rfl, _, rfl, _, rfl, _, rfl, _, _, rfl, rfl, ?_, _, _, rfl, rfl, ?_, (by show 6 ≤ sizeLine; decide), fun L2 nL2 => ?_⟩
        · rw [e6]
          exact fit (m := 4000) (by omega) (by decide)
        · rw [PySem.Str.length_append, e6, e1]
          exact fit (m := 4000) (by omega) (by decide)
        have s6 := same_upd (o := .lst [.ref iA, .ref p, .int ((m : Nat) + (o : Nat) : Int), .str (wtext (insOf zs m) ys fT), .str (wtext (insOf zs m) ys fT), .str ("World(" ++ wtext (insOf zs m) ys fT ++ ")")]) nL2
        have st := s5.trans s6
        refine ⟨.ref L, .ref L2, rfl, .inr ⟨L, L2, _, _, rfl, rfl, .inr ⟨st _ _ hL, upd_same⟩, rfl, (by show 6 ≤ 1000; decide), fun k x y hx hy => ?_⟩, fun H7 s7 => ⟨_, rfl, iteF ⟨rfl, st.trans s7⟩⟩⟩
        match k, hx, hy with
        | 0, hx, hy =>
          obtain rfl := Option.some.inj hx
          obtain rfl := Option.some.inj hy
          exact like_strs _ (st _ _ h1) (st _ _ hs4.ha.inp) (by have := wi.2.2.1; omega)
        | 1, hx, hy =>
          obtain rfl := Option.some.inj hx
          obtain rfl := Option.some.inj hy
          exact like_strs _ (st _ _ h2) (s6 _ _ hp) (by have := wy.2.2.2; omega)
        | 2, hx, hy =>
          obtain rfl := Option.some.inj hx
          obtain rfl := Option.some.inj hy
          have e : ((insOf zs m ++ lateOf zs o).length : Int) = (m : Int) + (o : Int) := by
            rw [List.length_append, ni.il hm, ni.ll ho]
            omega
          rw [e]
          exact like_int _
        | 3, hx, hy =>
          obtain rfl := Option.some.inj hx
          obtain rfl := Option.some.inj hy
          exact like_str _
        | 4, hx, hy =>
          obtain rfl := Option.some.inj hx
          obtain rfl := Option.some.inj hy
          exact like_str _
        | 5, hx, hy =>
          obtain rfl := Option.some.inj hx
          obtain rfl := Option.some.inj hy
          exact like_str _
      rintro σ H5 ⟨rfl, s45⟩
      have hL5 := s45 _ _ hL
      have h15 := s45 _ _ h1
      have h25 := s45 _ _ h2
      have s35 := s34.trans s45
      refine ⟨_, rfl, L, _, 0, _, rfl, rfl, .of hL5, rfl, .inl ⟨rfl, _, SqL.of h15⟩, l1, _, _, rfl, rfl, h15, by rw [List.length_map]; exact small1000 (by have := wi.2.2.1; omega), ?_⟩
      have lL : L ≠ l1 := ref_ne hL5 h15
      have lL2 : L ≠ l2 := ref_ne hL5 h25
      have hL6 := (upd_ne (H := H5) (o := .lst ((insOf zs m).map V.str ++ [.non])) lL).trans hL5
      have h26 := (upd_ne (H := H5) (o := .lst ((insOf zs m).map V.str ++ [.non])) n12.symm).trans h25
      refine ⟨_, rfl, L, _, 1, _, rfl, rfl, .of hL6, rfl, .inl ⟨rfl, _, SqL.of h26⟩, l2, _, _, rfl, rfl, h26, by rw [List.length_map]; exact small1000 (by have := wy.2.2.2; omega), ?_⟩
      refine ⟨_, _, rfl, s23.trans fun c o e => ?_⟩
      have nc1 : c ≠ l1 := fun z => by
        rw [z, n1] at e
        cases e
      have nc2 : c ≠ l2 := fun z => by
        rw [z, n2] at e
        cases e
      exact (upd_ne nc2).trans ((upd_ne nc1).trans (s35 _ _ e))
    rintro σ H3 ⟨x13, x14, rfl, s23⟩
    replace hs := hs.same s23
    clear s23 H2
    have l0z := ni.len
    refine ⟨fun σ H' => ∃ dA, σ = [some (.ref a), some (.ref b), some (.ref nA), some (.int (m : Nat)), some (.int (o : Nat)), some (.ref iA), some (.ref lA), some (.ref fA), x8', some (.ref hA), some (.ref gA), some (.ref wA), some (.str (wtext (insOf zs m) ys fT)), x13, x14, some (.ref dA), none, none, none, none, none] ∧ H' dA = some (.lst ((zs.map (fun z => decide (z ∈ insOf zs m ++ lateOf zs o)) ++ [false, false, false]).map V.bl)) ∧ Same H3 H', ?_, ?_⟩
    · refine ⟨_, rfl, nA, rfl, ⟨_, .of hs.ha.nam⟩, fun D nD => ?_⟩
      refine lc_list (xs := zs.map V.str) (fun i H' => Same H3 H' ∧ H' D = some (.lst (((zs.take i).map (fun z => decide (z ∈ insOf zs m ++ lateOf zs o))).map V.bl))) ⟨same_upd nD, upd_same⟩ (fun i H' _ z => .of (z.1 _ _ hs.ha.nam)) ?_ ?_
      · rintro i x H4 hx ⟨s4, d4⟩
        obtain ⟨z, hz, rfl⟩ := at_map hx
        have li : i < zs.length := (List.getElem?_eq_some_iff.mp hz).1
        refine ⟨rfl, _, rfl, _, rfl, _, rfl, iA, lA, _, _, rfl, rfl, s4 _ _ hs.ha.inp, s4 _ _ hs.ha.lat, ?_, fun p np => ?_⟩
        · rw [List.length_map, List.length_map]
          have := wi.2.2
          exact fit (m := 8) (by omega) (by decide)
        · have e0 : (insOf zs m).map V.str ++ (lateOf zs o).map V.str = (insOf zs m ++ lateOf zs o).map V.str := List.map_append.symm
          have s5 := same_upd (o := .lst ((insOf zs m).map V.str ++ (lateOf zs o).map V.str)) np
          have hp : upd H4 p (.lst ((insOf zs m).map V.str ++ (lateOf zs o).map V.str)) p = some (.lst ((insOf zs m ++ lateOf zs o).map V.str)) := by rw [upd_same, e0]
          generalize upd H4 p (.lst ((insOf zs m).map V.str ++ (lateOf zs o).map V.str)) = H5 at s5 hp
          refine ⟨p, _, rfl, .inl (.of hp), rfl, flat_strs _, _, s5 _ _ d4, ?_, fun c o e => ?_, ?_⟩
          · rw [List.length_map, List.length_map, List.length_take]
            exact small1000 (by omega)
          · rw [upd_ne (ne_of_none e nD)]
            exact s5 _ _ (s4 _ _ e)
          · rw [if_neg (by decide), inV_str, upd_same, List.take_add_one, hz, List.map_append, List.map_append]
            rfl
      · rintro H4 ⟨s4, d4⟩
        rw [List.length_map, List.take_length] at d4
        refine ⟨(by show 1 ≤ sizeLine; decide), fun p np => ?_⟩
        have s5 := same_upd (o := .lst [.bl false]) np
        have hp : upd H4 p (.lst [.bl false]) p = some (.lst [.bl false]) := upd_same
        generalize upd H4 p (.lst [.bl false]) = H5 at s5 hp
        refine ⟨p, 3, [.bl false], rfl, rfl, hp, by decide, by decide, (by show 3 ≤ sizeLine; decide), fun r nr => ?_⟩
        have s6 := same_upd (o := .lst [.bl false, .bl false, .bl false]) nr
        have hr' : upd H5 r (.lst [.bl false, .bl false, .bl false]) r = some (.lst [.bl false, .bl false, .bl false]) := upd_same
        refine ⟨D, r, _, [.bl false, .bl false, .bl false], rfl, rfl, s6 _ _ (s5 _ _ d4), hr', ?_, fun dA ndA => ⟨dA, rfl, ?_, ((s4.trans s5).trans s6).trans (same_upd ndA)⟩⟩
        · rw [List.length_map, List.length_map, l0z]
          show 9 + 3 ≤ sizeLine
          decide
        · rw [upd_same, List.map_append]
          rfl
    rintro σ H4 ⟨dA, rfl, hdA, s34⟩
    replace hs := hs.same s34
    clear s34 H3
    obtain ⟨dw, li, df, ln, hw⟩ := hs.wd.obj
    refine ⟨fun σ H' => σ = [some (.ref a), some (.ref b), some (.ref nA), some (.int (m : Nat)), some (.int (o : Nat)), some (.ref iA), some (.ref lA), some (.ref fA), x8', some (.ref hA), some (.ref gA), some (.ref wA), some (.str (wtext (insOf zs m) ys fT)), x13, x14, some (.ref dA), none, none, none, none, none] ∧ Same H4 H', ?_, ?_⟩
    · refine ⟨_, rfl, nA, rfl, ⟨_, .of hs.ha.nam⟩, fun D nD => ?_⟩
      refine lc_list (xs := zs.map V.str) (fun i H' => Same H4 H' ∧ H' D = some (.lst (((zs.take i).map (fun z => decide (z ∈ insOf zs m ++ lateOf zs o))).map V.bl))) ⟨same_upd nD, upd_same⟩ (fun i H' _ z => .of (z.1 _ _ hs.ha.nam)) ?_ ?_
      · rintro i x H5 hx ⟨s5, d5⟩
        obtain ⟨z, hz, rfl⟩ := at_map hx
        have li : i < zs.length := (List.getElem?_eq_some_iff.mp hz).1
        refine ⟨rfl, _, rfl, _, rfl, wA, dw, _, rfl, s5 _ _ hw, wA, _, ys, fT, _, _, rfl, hs.wd.same s5, .inl ⟨z, rfl, _, rfl, _, d5, ?_, fun c o e => ?_, ?_⟩⟩
        · rw [List.length_map, List.length_map, List.length_take]
          exact small1000 (by omega)
        · rw [upd_ne (ne_of_none e nD)]
          exact s5 _ _ e
        · rw [upd_same, List.take_add_one, hz, List.map_append, List.map_append]
          have e : (decide (z ∈ insOf zs m ++ lateOf zs o) != false) = decide (z ∈ insOf zs m ++ lateOf zs o) := by cases decide (z ∈ insOf zs m ++ lateOf zs o) <;> rfl
          rw [e]
          rfl
      · rintro H5 ⟨s5, d5⟩
        rw [List.length_map, List.take_length] at d5
        obtain ⟨z0, hz0⟩ : ∃ z0, zs[0]? = some z0 := ⟨zs[0]'(by omega), List.getElem?_eq_getElem _⟩
        have at0 : (zs.map V.str)[0]? = some (V.str z0) := by
          rw [List.getElem?_map, hz0]
          rfl
        refine ⟨_, rfl, nA, _, 0, _, rfl, rfl, .of (s5 _ _ hs.ha.nam), atI_nat at0, (by show 1 ≤ sizeLine; decide), fun q nq => ?_⟩
        have s6 := same_upd (o := .lst [.str z0]) nq
        have hq : upd H5 q (.lst [.str z0]) q = some (.lst [.str z0]) := upd_same
        generalize upd H5 q (.lst [.str z0]) = H6 at s6 hq
        refine ⟨(by show 3 ≤ sizeLine; decide), fun p np => ⟨p, rfl, ⟨_, .of upd_same⟩, fun D2 nD2 => ?_⟩⟩
        have s7 := same_upd (o := .lst [.non, .int 3, .ref q]) np
        have hp : upd H6 p (.lst [.non, .int 3, .ref q]) p = some (.lst [.non, .int 3, .ref q]) := upd_same
        have s47 := (s5.trans s6).trans s7
        have hq7 := s7 _ _ hq
        have d7 := s7 _ _ (s6 _ _ d5)
        generalize upd H6 p (.lst [.non, .int 3, .ref q]) = H7 at s7 hp s47 hq7 d7 nD2
        refine lc_list (xs := [.non, .int 3, .ref q]) (fun i H' => Same H7 H' ∧ H' D2 = some (.lst ((List.replicate i false).map V.bl))) ⟨same_upd nD2, upd_same⟩ (fun i H' _ z => .of (z.1 _ _ hp)) ?_ ?_
        · rintro i x H8 hx ⟨s8, d8⟩
          have i3 : i < 3 := (List.getElem?_eq_some_iff.mp hx).1
          have ty : ∃ t, TyX K H8 x t ∧ PySem.W.kitOne K t (.type "str") = some false := by
            match i, hx with
            | 0, hx =>
              obtain rfl := Option.some.inj hx
              exact ⟨_, .base .non, kit_ty (by decide +kernel)⟩
            | 1, hx =>
              obtain rfl := Option.some.inj hx
              exact ⟨_, .base (.int _), kit_ty (by decide +kernel)⟩
            | 2, hx =>
              obtain rfl := Option.some.inj hx
              exact ⟨_, .base (.lst (s8 _ _ hq7)), kit_ty (by decide +kernel)⟩
          obtain ⟨t, ty, kt⟩ := ty
          refine ⟨rfl, _, rfl, _, rfl, wA, dw, _, rfl, s8 _ _ (s47 _ _ hw), wA, _, ys, fT, _, _, rfl, (hs.wd.same s47).same s8, .inr ⟨t, ty, kt, _, rfl, _, d8, ?_, fun c o e => ?_, ?_⟩⟩
          · rw [List.length_map, List.length_replicate]
            exact small1000 (by omega)
          · rw [upd_ne (ne_of_none e nD2)]
            exact s8 _ _ e
          · rw [upd_same, List.replicate_succ', List.map_append]
            rfl
        · rintro H8 ⟨s8, d8⟩
          refine ⟨D, D2, _, _, rfl, rfl, s8 _ _ d7, d8, ?_, fun r nr => ?_⟩
          · rw [List.length_map, List.length_map, l0z]
            show 9 + 3 ≤ sizeLine
            decide
          · have s9 := same_upd (o := .lst ((zs.map (fun z => decide (z ∈ insOf zs m ++ lateOf zs o))).map V.bl ++ (List.replicate 3 false).map V.bl)) nr
            have st := (s47.trans s8).trans s9
            refine ⟨_, rfl, .ref r, .ref dA, rfl, like_bls (zs.map (fun z => decide (z ∈ insOf zs m ++ lateOf zs o)) ++ [false, false, false]) upd_same (st _ _ hdA) ?_ rfl ?_, fun H9 s10 => ⟨_, rfl, iteF ⟨rfl, st.trans s10⟩⟩⟩
            · rw [List.map_append]
              rfl
            · rw [List.length_append, List.length_map, l0z]
              decide
    rintro σ H5 ⟨rfl, s45⟩
    replace hs := hs.same s45
    clear s45 hdA hw H4
    refine ⟨fun σ H' => σ = [some (.ref a), some (.ref b), some (.ref nA), some (.int (m : Nat)), some (.int (o : Nat)), some (.ref iA), some (.ref lA), some (.ref fA), x8', some (.ref hA), some (.ref gA), some (.ref wA), some (.str (wtext (insOf zs m) ys fT)), x13, x14, some (.ref dA), none, none, none, none, none] ∧ Same H5 H', ?_, ?_⟩
    · obtain ⟨dw, li, df, ln, hw⟩ := hs.wd.obj
      refine ⟨_, rfl, lA, rfl, ⟨_, .of hs.ha.lat⟩, fun D nD => ?_⟩
      refine lc_list (xs := (lateOf zs o).map V.str) (fun i H' => Same H5 H' ∧ H' D = some (.lst ((List.replicate i true).map V.bl))) ⟨same_upd nD, upd_same⟩ (fun i H' _ z => .of (z.1 _ _ hs.ha.lat)) ?_ ?_
      · rintro i x H6 hx ⟨s6, d6⟩
        obtain ⟨n, hn, rfl⟩ := at_map hx
        have li' : i < (lateOf zs o).length := (List.getElem?_eq_some_iff.mp hn).1
        have ml := List.mem_of_getElem? hn
        have my : n ∈ ys := pm.mem_iff.mpr ml
        refine ⟨rfl, _, rfl, wA, dw, _, rfl, s6 _ _ hw, wNo3 _ _ _ _, _, rfl, wA, _, ys, fT, _, n, rfl, hs.wd.same s6, my, fun x ux okx => ?_⟩
        refine ⟨_, rfl, _, rfl, gA, .ref (uU n), rfl, .inl ⟨_, Sum.inr n, .inl (s6 _ _ hs.fn), rfl, (dkN_in (List.mem_append_left _ ml)).symm⟩, ?_⟩
        obtain ⟨dx, r, hx', _⟩ := id ux
        have un := (hs.un n ml).2.same s6
        refine ⟨x, dx, _, .ref CU, rfl, hx', un.ty U, U.f1, .inl ⟨x, uU n, fT n, fT n, rfl, ux, un, _, rfl, _, d6, ?_, fun c o e => ?_, ?_⟩⟩
        · rw [List.length_map, List.length_replicate]
          have := wi.2.2.2
          exact small1000 (by omega)
        · rw [upd_ne (ne_of_none e nD)]
          exact s6 _ _ e
        · rw [upd_same, decide_eq_true rfl, List.replicate_succ', List.map_append]
          rfl
      · rintro H6 ⟨s6, d6⟩
        refine ⟨D, _, rfl, .of d6, _, rfl, ?_⟩
        rw [all_true]
        exact iteF ⟨rfl, s6⟩
    rintro σ H6 ⟨rfl, s56⟩
    replace hs := hs.same s56
    clear s56 H5
    have rp : (lateOf zs o).reverse.Perm (lateOf zs o) := List.reverse_perm _
    have wr := wi.perm rp
    intro tA nT
    have sT := same_upd (o := .dK []) nT
    have hT : upd H6 tA (.dK []) tA = some (.dK []) := upd_same
    generalize upd H6 tA (.dK []) = H7 at sT hT
    refine ⟨fun σ H' => ∃ x8n, σ = [some (.ref a), some (.ref b), some (.ref nA), some (.int (m : Nat)), some (.int (o : Nat)), some (.ref iA), some (.ref lA), some (.ref fA), x8n, some (.ref hA), some (.ref gA), some (.ref wA), some (.str (wtext (insOf zs m) ys fT)), x13, x14, some (.ref dA), some (.ref tA), none, none, none, none] ∧ Same H6 H' ∧ H' tA = some (.dK (dkN (lateOf zs o).reverse uU)), ?_, ?_⟩
    · refine ⟨_, rfl, lA, _, rfl, .of (sT _ _ hs.ha.lat), fun rA nr => ?_⟩
      have sR := same_upd (o := .lst ((lateOf zs o).map V.str).reverse) nr
      have hR : upd H7 rA (.lst ((lateOf zs o).map V.str).reverse) rA = some (.lst ((lateOf zs o).reverse.map V.str)) := by rw [upd_same, List.map_reverse]
      have hT8 := sR _ _ hT
      have s68 := sT.trans sR
      generalize upd H7 rA (.lst ((lateOf zs o).map V.str).reverse) = H8 at sR hR hT8 s68
      have rt : rA ≠ tA := fun z => by
        rw [z, hT8] at hR
        cases hR
      refine ⟨rA, rfl, ⟨_, .of hR⟩, for_list (xs := (lateOf zs o).reverse.map V.str) (fun i σ H' => ∃ x8n, σ = [some (.ref a), some (.ref b), some (.ref nA), some (.int (m : Nat)), some (.int (o : Nat)), some (.ref iA), some (.ref lA), some (.ref fA), x8n, some (.ref hA), some (.ref gA), some (.ref wA), some (.str (wtext (insOf zs m) ys fT)), x13, x14, some (.ref dA), some (.ref tA), none, none, none, none] ∧ Same H6 H' ∧ H' rA = some (.lst ((lateOf zs o).reverse.map V.str)) ∧ H' tA = some (.dK (dkN ((lateOf zs o).reverse.take i) uU))) ⟨x8', rfl, s68, hR, hT8⟩ (fun i σ H' _ z => by
          obtain ⟨_, _, _, z, _⟩ := z
          exact .of z) ?_ ?_⟩
      · rintro i x σ H9 hx ⟨x8n, rfl, s69, hR9, hT9⟩
        obtain ⟨n, hn, rfl⟩ := at_map hx
        have li' : i < (lateOf zs o).reverse.length := (List.getElem?_eq_some_iff.mp hn).1
        have l4 := wr.2.2.2
        have out := not_taken wr.nd hn
        have ml := rp.mem_iff.mp (List.mem_of_getElem? hn)
        refine ⟨_, rfl, _, rfl, gA, .ref (uU n), rfl, .inl ⟨_, Sum.inr n, .inl (s69 _ _ hs.fn), rfl, (dkN_in (List.mem_append_left _ ml)).symm⟩, _, rfl, _, rfl, tA, _, rfl, DPut.k (k := Sum.inr n) hT9 (by rw [dkN_len, List.length_take]; exact small1000 (by omega)), ?_⟩
        refine ⟨_, rfl, fun c o e => ?_, (upd_ne rt).trans hR9, ?_⟩
        · have nc : c ≠ tA := fun z => by
            rw [z, nT] at e
            cases e
          exact (upd_ne nc).trans (s69 _ _ e)
        · rw [upd_same, dkN_new _ out, List.take_add_one, hn]
          have e1 : putU uU n (uU n) = uU := funext fun m => by
            unfold putU
            split
            · rename_i z
              rw [z]
            · rfl
          rw [e1]
          rfl
      · rintro σ H9 ⟨x8n, rfl, s69, hR9, hT9⟩
        rw [List.length_map, List.take_length] at hT9
        exact ⟨x8n, rfl, s69, hT9⟩
    clear sT hT nT H7
    rintro σ H7 ⟨x8n, rfl, s67, hT⟩
    replace hs := hs.same s67
    clear s67 H6
    have unr : Uns CR CU H7 (lateOf zs o).reverse uU fT := fun n hn => hs.un n (rp.mem_iff.mp hn)
    refine ⟨fun σ H' => σ = [some (.ref a), some (.ref b), some (.ref nA), some (.int (m : Nat)), some (.int (o : Nat)), some (.ref iA), some (.ref lA), some (.ref fA), x8n, some (.ref hA), some (.ref gA), some (.ref wA), some (.str (wtext (insOf zs m) ys fT)), x13, x14, some (.ref dA), some (.ref tA), none, none, none, none] ∧ Same H7 H', ?_, ?_⟩
    · refine ⟨_, rfl, _, rfl, fun x dx nx ndx ne => ?_⟩
      have s8 : Same H7 (upd (upd H7 dx (.own x)) x (.ins CW dx [])) := fun c o e => by
        have n1 := ne_of_none e nx
        rw [upd_ne n1, upd_ne (ne_of_none e ndx)]
        exact e
      refine ⟨x, dx, iA, tA, insOf zs m, (lateOf zs o).reverse, uU, fT, rfl, upd_same, s8 _ _ hs.ha.inp, s8 _ _ hT, wr, unr.same s8, fun H8 ys2 pm2 so2 w2 bt => ⟨rfl, ?_⟩⟩
      have s78 := made_same nx ndx bt
      have ey : ys2 = ys := sorted_one ((pm2.trans rp).trans pm.symm) so2 so
      subst ey
      have w1 := hs.wd.same s78
      obtain ⟨dx2, li2, df2, ln2, hx2⟩ := w2.at.obj
      refine ⟨_, rfl, x, dx2, _, .ref CW, rfl, hx2, w1.ty W, W.f1, x, _, ys2, fT, _, w2.at, .inl ⟨wA, _, ys2, fT, _, rfl, w1, _, rfl, _, rfl, ?_⟩⟩
      rw [decide_eq_true rfl]
      clear hx2 s8 nx ndx ne bt w2
      have third : ∀ H9, Same H7 H9 → ∃ dw li df ln, H9 wA = some (.ins CW dw (w4 li df ln (wtext (insOf zs m) ys2 fT))) ∧ WorldAt CR CU CW H9 wA (insOf zs m) ys2 fT (insOf zs m ++ lateOf zs o) := fun H9 s9 => by
        have w9 := hs.wd.same s9
        obtain ⟨dw, li, df, ln, hw⟩ := w9.obj
        exact ⟨dw, li, df, ln, hw, w9⟩
      refine iteF ⟨_, rfl, _, _, rfl, rfl, _, rfl, ?_⟩
      by_cases h1 : (m : Int) > 1
      · rw [decide_eq_true h1]
        refine iteT ⟨_, rfl, iA, _, rfl, .of (s78 _ _ hs.ha.inp), fun rA nr => ?_⟩
        have sR := same_upd (o := .lst ((insOf zs m).map V.str).reverse) nr
        have hR : upd H8 rA (.lst ((insOf zs m).map V.str).reverse) rA = some (.lst ((insOf zs m).reverse.map V.str)) := by rw [upd_same, List.map_reverse]
        generalize upd H8 rA (.lst ((insOf zs m).map V.str).reverse) = H9 at sR hR
        have s79 := s78.trans sR
        refine ⟨_, rfl, fun y dy ny ndy ney => ?_⟩
        have s10 : Same H9 (upd (upd H9 dy (.own y)) y (.ins CW dy [])) := fun c o e => by
          have n1 := ne_of_none e ny
          rw [upd_ne n1, upd_ne (ne_of_none e ndy)]
          exact e
        have ip : (insOf zs m).reverse.Perm (insOf zs m) := List.reverse_perm _
        have wrr : WIn (insOf zs m).reverse (lateOf zs o).reverse := by
          obtain ⟨k1, k2, k3, k4⟩ := wr
          have pp : ((insOf zs m).reverse ++ (lateOf zs o).reverse).Perm (insOf zs m ++ (lateOf zs o).reverse) := List.Perm.append_right _ ip
          exact ⟨pp.nodup_iff.mpr k1, fun z hz => k2 z (pp.mem_iff.mp hz), by rw [ip.length_eq]; exact k3, k4⟩
        refine ⟨y, dy, rA, tA, (insOf zs m).reverse, (lateOf zs o).reverse, uU, fT, rfl, upd_same, s10 _ _ hR, s10 _ _ (s79 _ _ hT), wrr, (unr.same s79).same s10, fun H10 ys3 pm3 so3 w3 bt3 => ⟨rfl, ?_⟩⟩
        have s710 := s79.trans (made_same ny ndy bt3)
        have ey : ys3 = ys2 := sorted_one ((pm3.trans rp).trans pm.symm) so3 so
        subst ey
        obtain ⟨dw, li, df, ln, hw, w10⟩ := third H10 s710
        obtain ⟨dx3, li3, df3, ln3, hx3⟩ := w3.at.obj
        refine ⟨_, rfl, y, dx3, _, .ref CW, rfl, hx3, w10.ty W, W.f1, y, _, ys3, fT, _, w3.at, .inl ⟨wA, _, ys3, fT, _, rfl, w10, _, rfl, _, rfl, ?_⟩⟩
        have neq' : ¬ wtext (insOf zs m).reverse ys3 fT = wtext (insOf zs m) ys3 fT := fun e => by
          have e2 := wtext_ins (ms := []) wrr.ni wi.ni (by rw [List.length_reverse]) e
          exact rev_ne ((List.nodup_append.mp wi.1).1) (by rw [ni.il hm]; omega) e2
        rw [decide_eq_false neq']
        refine iteF ⟨_, rfl, _, rfl, wA, dw, _, .type "str", rfl, hw, .base (.str _), W.f2, wA, _, ys3, fT, _, w10, .inr ⟨_, rfl, _, rfl, _, rfl, ?_⟩⟩
        exact iteF ⟨rfl, s710⟩
      · rw [decide_eq_false h1]
        obtain ⟨dw, li, df, ln, hw, w8⟩ := third H8 s78
        refine iteF (iteF ⟨_, rfl, _, rfl, wA, dw, _, .type "str", rfl, hw, .base (.str _), W.f2, wA, _, ys2, fT, _, w8, .inr ⟨_, rfl, _, rfl, _, rfl, ?_⟩⟩)
        exact iteF ⟨rfl, s78⟩
    rintro σ H8 ⟨rfl, s78⟩
    replace hs := hs.same s78
    clear s78 unr hT H7
    refine ⟨fun _ _ => True, ?_, ?_⟩
    · refine ⟨_, rfl, _, _, rfl, rfl, _, rfl, ?_⟩
      refine ite2 (fun big => ?_) (fun _ => trivial)
      have big' : 0 < o := by
        have := of_decide_eq_true big
        omega
      refine ⟨fun σ H' => ∃ n, n ∈ lateOf zs o ∧ σ = [some (.ref a), some (.ref b), some (.ref nA), some (.int (m : Nat)), some (.int (o : Nat)), some (.ref iA), some (.ref lA), some (.ref fA), some (.str n), some (.ref hA), some (.ref gA), some (.ref wA), some (.str (wtext (insOf zs m) ys fT)), x13, x14, some (.ref dA), some (.ref tA), none, none, none, none] ∧ HS CR CU CW H' b 86 nA iA lA fA gA wA zs m o fT pA uU ys, ?_, ?_⟩
      · refine ⟨_, rfl, _, rfl, b, lA, 85, _, rfl, hs.ha.bag, by decide, strs_ne hs.ha.bag hs.ha.lat, hs.ha.lat, ?_, ?_, fun k v H9 hv B9 bt => ?_⟩
        · rw [List.length_map, ni.ll ho]
          exact big'
        · rw [List.length_map]
          have := wi.2.2.2
          omega
        · obtain ⟨n, hn, rfl⟩ := at_map hv
          exact ⟨n, List.mem_of_getElem? hn, rfl, hs.but bt B9⟩
      clear hs H8
      rintro σ H9 ⟨n, ml, rfl, hs⟩
      have my : n ∈ ys := pm.mem_iff.mpr ml
      obtain ⟨mf, q0, hp, hq⟩ := hs.ha.fct n ml
      refine ⟨fun σ H' => ∃ uF φ, σ = [some (.ref a), some (.ref b), some (.ref nA), some (.int (m : Nat)), some (.int (o : Nat)), some (.ref iA), some (.ref lA), some (.ref fA), some (.str n), some (.ref hA), some (.ref gA), some (.ref wA), some (.str (wtext (insOf zs m) ys fT)), x13, x14, some (.ref dA), some (.ref tA), some (.ref uF), none, none, none] ∧ Same H9 H' ∧ UnsAt CR CU H' uF φ ∧ FOk φ ∧ φ.ar = (fT n).ar, ?_, ?_⟩
      · refine ⟨_, rfl, _, rfl, fA, .ref (pA n), rfl, .inl ⟨_, Sum.inr n, .inl hs.ha.fac, rfl, (dkN_in ml).symm⟩, pA n, _, 0, _, rfl, rfl, .of hp, rfl, rfl, _, rfl, ?_⟩
        by_cases h2 : (fT n).ar = 2
        · rw [decide_eq_true (show V.int (fT n).ar = V.int 2 by rw [h2])]
          refine iteT ⟨rfl, rfl, fun x dx nx nd ne => ?_⟩
          exact ⟨x, dx, K08.fS, .int 0, rfl, upd_same, fS_ok, .inr ⟨rfl, rfl⟩, fun H10 un bu => ⟨rfl, x, K08.fS, rfl, made_same nx nd bu, un, fS_ok, h2.symm⟩⟩
        · rw [decide_eq_false (fun e => h2 (V.int.inj e) : ¬ V.int (fT n).ar = V.int 2)]
          have h1 : (fT n).ar = 1 := by
            obtain ⟨_, _, _, _, ⟨h, _⟩ | ⟨h, _⟩, _⟩ := (facts_ok _ mf).1
            · first
                | exact h
                | exact absurd h h2
            · first
                | exact h
                | exact absurd h h2
          refine iteF ⟨rfl, rfl, fun x dx nx nd ne => ?_⟩
          exact ⟨x, dx, fO9, .int 9, rfl, upd_same, fO9_ok, .inr ⟨rfl, rfl⟩, fun H10 un bu => ⟨rfl, x, fO9, rfl, made_same nx nd bu, un, fO9_ok, h1.symm⟩⟩
      rintro σ H10 ⟨uF, φ, rfl, s910, ux, okx, ar⟩
      replace hs := hs.same s910
      clear s910 hp hq H9
      refine ⟨fun σ H' => ∃ mA, σ = [some (.ref a), some (.ref b), some (.ref nA), some (.int (m : Nat)), some (.int (o : Nat)), some (.ref iA), some (.ref lA), some (.ref fA), some (.str n), some (.ref hA), some (.ref gA), some (.ref wA), some (.str (wtext (insOf zs m) ys fT)), x13, x14, some (.ref dA), some (.ref tA), some (.ref uF), some (.ref mA), none, none] ∧ Same H10 H' ∧ WorldAt CR CU CW H' mA (insOf zs m) ys (putG fT n φ) (insOf zs m ++ ys), ?_, ?_⟩
      · obtain ⟨dw, li, df, ln, hw⟩ := hs.wd.obj
        exact ⟨_, rfl, wA, dw, _, rfl, hw, wNo4 _ _ _ _, _, rfl, _, rfl, wA, _, ys, fT, _, n, uF, φ, rfl, hs.wd, my, ux, okx, ar, fun p H' wd' s' => ⟨p, rfl, s', wd'⟩⟩
      rintro σ H11 ⟨mA, rfl, s1011, wm⟩
      replace hs := hs.same s1011
      replace ux := ux.same s1011
      clear s1011 H10
      have gn : putG fT n φ n = φ := by
        unfold putG
        rw [if_pos rfl]
      obtain ⟨dw, li, df, ln, hw⟩ := hs.wd.obj
      obtain ⟨dm, li2, df2, ln2, hm'⟩ := wm.obj
      obtain ⟨dF, rF, huF, _⟩ := id ux
      refine ⟨fun σ H' => σ = [some (.ref a), some (.ref b), some (.ref nA), some (.int (m : Nat)), some (.int (o : Nat)), some (.ref iA), some (.ref lA), some (.ref fA), some (.str n), some (.ref hA), some (.ref gA), some (.ref wA), some (.str (wtext (insOf zs m) ys fT)), x13, x14, some (.ref dA), some (.ref tA), some (.ref uF), some (.ref mA), none, none] ∧ H' = H11, ?_, ?_⟩
      · refine ⟨_, rfl, mA, dm, _, rfl, hm', wNo3 _ _ _ _, _, rfl, mA, _, ys, _, _, n, rfl, wm, my, fun x uy oky => ?_⟩
        obtain ⟨dy, ry, hy, _⟩ := id uy
        rw [gn] at uy
        refine ⟨_, rfl, x, dy, _, .ref CU, rfl, hy, ux.ty U, U.f1, .inl ⟨x, uF, φ, φ, rfl, uy, ux, _, rfl, _, rfl, ?_⟩⟩
        rw [decide_eq_true rfl]
        refine iteF ⟨_, rfl, wA, dw, _, rfl, hw, wNo3 _ _ _ _, _, rfl, wA, _, ys, _, _, n, rfl, hs.wd, my, fun z uz okz => ?_⟩
        obtain ⟨dz, rz, hz, _⟩ := id uz
        have un := (hs.un n ml).2
        refine ⟨_, rfl, _, rfl, gA, .ref (uU n), rfl, .inl ⟨_, Sum.inr n, .inl hs.fn, rfl, (dkN_in (List.mem_append_left _ ml)).symm⟩, z, dz, _, .ref CU, rfl, hz, un.ty U, U.f1, .inl ⟨z, uU n, fT n, fT n, rfl, uz, un, _, rfl, _, rfl, ?_⟩⟩
        rw [decide_eq_true rfl]
        refine iteF ⟨_, rfl, _, rfl, mA, dm, _, .ref CW, rfl, hm', hs.wd.ty W, W.f1, mA, _, ys, _, _, wm, .inl ⟨wA, _, ys, fT, _, rfl, hs.wd, _, rfl, _, rfl, _, rfl, _, rfl, gA, .ref (uU n), rfl, .inl ⟨_, Sum.inr n, .inl hs.fn, rfl, (dkN_in (List.mem_append_left _ ml)).symm⟩, uF, dF, _, .ref CU, rfl, huF, un.ty U, U.f1, .inl ⟨uF, uU n, φ, fT n, rfl, ux, un, _, rfl, ?_⟩⟩⟩
        rw [wtext_put wy.nd my]
        refine ⟨rfl, _, rfl, ?_⟩
        rw [decide_eq_true rfl]
        exact iteF ⟨rfl, rfl⟩
      rintro σ H12 ⟨rfl, rfl⟩
      refine ⟨_, rfl, lA, rfl, ⟨_, .of hs.ha.lat⟩, fun D nD => ?_⟩
      refine lc_list (xs := (lateOf zs o).map V.str) (fun i H' => Same H12 H' ∧ ∃ j, j ≤ i ∧ H' D = some (.lst ((List.replicate j true).map V.bl))) ⟨same_upd nD, 0, Nat.le_refl _, upd_same⟩ (fun i H' _ z => .of (z.1 _ _ hs.ha.lat)) ?_ ?_
      · rintro i x H13 hx ⟨s13, j, hj, d13⟩
        obtain ⟨k, hk, rfl⟩ := at_map hx
        have li' : i < (lateOf zs o).length := (List.getElem?_eq_some_iff.mp hk).1
        have mk := List.mem_of_getElem? hk
        have myk : k ∈ ys := pm.mem_iff.mpr mk
        refine ⟨rfl, _, rfl, _, rfl, rfl, _, rfl, ?_⟩
        by_cases e : k = n
        · rw [decide_eq_true (show V.str k = V.str n by rw [e])]
          exact iteF ⟨s13, j, by omega, d13⟩
        · rw [decide_eq_false (fun z => e (V.str.inj z) : ¬ V.str k = V.str n)]
          have gk : putG fT n φ k = fT k := by
            unfold putG
            rw [if_neg e]
          refine iteT ⟨_, rfl, mA, dm, _, rfl, s13 _ _ hm', wNo3 _ _ _ _, _, rfl, mA, _, ys, _, _, k, rfl, wm.same s13, myk, fun x uy oky => ?_⟩
          obtain ⟨dy, ry, hy, _⟩ := id uy
          rw [gk] at uy
          refine ⟨_, rfl, wA, dw, _, rfl, s13 _ _ hw, wNo3 _ _ _ _, _, rfl, wA, _, ys, _, _, k, rfl, hs.wd.same s13, myk, fun z uz okz => ?_⟩
          refine ⟨x, dy, _, .ref CU, rfl, hy, uz.ty U, U.f1, .inl ⟨x, z, fT k, fT k, rfl, uy, uz, _, rfl, _, d13, ?_, fun c o e => ?_, j + 1, by omega, ?_⟩⟩
          · rw [List.length_map, List.length_replicate]
            have := wi.2.2.2
            exact small1000 (by omega)
          · rw [upd_ne (ne_of_none e nD)]
            exact s13 _ _ e
          · rw [upd_same, decide_eq_true rfl, List.replicate_succ', List.map_append]
            rfl
      · rintro H13 ⟨s13, j, hj, d13⟩
        refine ⟨D, _, rfl, .of d13, _, rfl, ?_⟩
        rw [all_true]
        refine iteF ⟨_, rfl, mA, dm, _, rfl, s13 _ _ hm', wNo1 _ _ _ _, mA, _, ys, _, _, rfl, wm.same s13, fun l nl => ?_⟩
        have sl := same_upd (o := .lst ((insOf zs m).map V.str)) nl
        have hl : upd H13 l (.lst ((insOf zs m).map V.str)) l = some (.lst ((insOf zs m).map V.str)) := upd_same
        refine ⟨_, rfl, .list ((insOf zs m).map PyData.str), .list ((insOf zs m).map PyData.str), .lst (.of hl) (dp_strs _), .lst (.of (sl _ _ (s13 _ _ hs.ha.inp))) (dp_strs _), shaped_names wi.ni.2, shaped_names wi.ni.2, _, rfl, ?_⟩
        rw [eqv_names wi.ni.2]
        exact iteF trivial
    rintro σ H9 _
    refine ⟨Nat.zero_le _, fun lI nI lF nF x dx nx ndx ne => ?_⟩
    have s1 := same_upd (o := .lst []) nI
    have s2 := same_upd (o := .dK []) nF
    have hI : upd (upd H9 lI (.lst [])) lF (.dK []) lI = some (.lst []) := s2 _ _ upd_same
    have hF : upd (upd H9 lI (.lst [])) lF (.dK []) lF = some (.dK []) := upd_same
    have s3 : Same (upd (upd H9 lI (.lst [])) lF (.dK [])) (upd (upd (upd (upd H9 lI (.lst [])) lF (.dK [])) dx (.own x)) x (.ins CW dx [])) := fun c o e => by
      have n1 := ne_of_none e nx
      rw [upd_ne n1, upd_ne (ne_of_none e ndx)]
      exact e
    refine ⟨x, dx, lI, lF, [], [], fun _ => 0, fun _ => f00, rfl, upd_same, s3 _ _ hI, s3 _ _ hF, win_nil, (fun n h => nomatch h), fun H' ys2 pm2 so2 w2 bt => ⟨rfl, ?_⟩⟩
    have ey : ys2 = [] := List.Perm.eq_nil pm2
    subst ey
    obtain ⟨dx2, li2, df2, ln2, hx2⟩ := w2.at.obj
    obtain ⟨t4, hm4⟩ := W.most
    refine ⟨x, CW, dx2, _, _, rfl, hx2, W.cl, W.n4, wTx _ _ _ _, rfl, ?_⟩
    rw [wtext_nil, decide_eq_true rfl]
    refine ⟨true, rfl, iteT ⟨CW, mc, .int 4, _, rfl, W.rd, hm4, rfl, ?_⟩⟩
    rw [decide_eq_true rfl]
    exact q _
end
end K08

set_option Elab.async false
set_option linter.all false
set_option maxRecDepth 100000
set_option maxHeartbeats 8000000
namespace K08
open PySem PySem.Spec PyProof.Rows L2 Ux ClX
def isB (a : Option (Option Value)) (v : Value) : Bool := decide (a = some (some v))
def isN (a : Option (Option Value)) : Bool := decide (a = some none)
theorem isB_of {a : Option (Option Value)} {v : Value} (h : isB a v = true) : a = some (some v) := of_decide_eq_true h
theorem isN_of {a : Option (Option Value)} (h : isN a = true) : a = some none := of_decide_eq_true h
/-- what every class of the text has -/
def chC (K : PySem.W.Frag) (C f : Addr) : Bool := PySem.W.plainGet K C Str.empty && (PySem.W.hasDictIn K C && (PySem.W.plainOver K C && (isB (PySem.W.findIn K (.ref C) "__setattr__") (.builtin "object.__setattr__") &&
  (isB (PySem.W.findIn K (.ref C) "__class__") (.builtin "object.__class__") && (decide (PySem.W.mroIn K C (.type "object") = some true) && (decide (PySem.W.kitOne K (.ref C) (.ref C) = some true) &&
  (PySem.W.makesIn K C && (isB (PySem.W.findIn K (.ref C) "__init__") (.ref f) && (PySem.W.isFn K (.ref f) && PySem.W.keepIn K (.ref C))))))))))
def chM (K : PySem.W.Frag) (C : Addr) (m : Str) (f : Addr) : Bool := isB (PySem.W.findIn K (.ref C) m) (.ref f) && PySem.W.isFn K (.ref f)
def chR (K : PySem.W.Frag) (C fi fe fs : Addr) : Bool := chC K C fi && (isN (PySem.W.findIn K (.ref C) "top") && (isN (PySem.W.findIn K (.ref C) "bottom") && (decide (PySem.W.kitOne K (.type "int") (.ref C) = some false) && (decide (PySem.W.kitOne K (.type "NoneType") (.ref C) = some false) &&
  (chM K C "__eq__" fe && (chM K C "__str__" fs && PySem.W.notFirst K C (.type "int")))))))
def chU (K : PySem.W.Frag) (C fi fe fs : Addr) : Bool := chC K C fi && ((isN (PySem.W.findIn K (.ref C) "arity") && (isN (PySem.W.findIn K (.ref C) "mirror") && (isN (PySem.W.findIn K (.ref C) "centre") && (isN (PySem.W.findIn K (.ref C) "degree") && (isN (PySem.W.findIn K (.ref C) "swap") && isN (PySem.W.findIn K (.ref C) "text")))))) &&
  (decide (PySem.W.kitOne K (.type "str") (.ref C) = some false) && (PySem.W.notFirst K C (.ref C) && (PySem.W.notFirst K C (.type "str") && (chM K C "__eq__" fe && (chM K C "__str__" fs && (isB (PySem.W.findIn K (.ref C) "__ne__") (.builtin "object.__ne__") &&
  isB (PySem.W.findIn K (.ref C) "__format__") (.builtin "object.__format__"))))))))
def chMe (K : PySem.W.Frag) (C : Addr) (m : Str) (f : Addr) : Bool := chM K C m f && PySem.W.keepIn K (.ref f)
def chMost (K : PySem.W.Frag) (C : Addr) : Bool := match PySem.W.findCls K (.ref C) (.type "type") "MOST" with
  | some (.val (.int i _)) => i == 4
  | _ => false
def chW (K : PySem.W.Frag) (C fi fin ffu ffa fwi fco fle feq fst fre : Addr) : Bool := chC K C fi && ((isN (PySem.W.findIn K (.ref C) "_inputs") && (isN (PySem.W.findIn K (.ref C) "_facts") && (isN (PySem.W.findIn K (.ref C) "_names") && isN (PySem.W.findIn K (.ref C) "text")))) &&
  (decide (PySem.W.kitOne K (.type "str") (.ref C) = some false) && (PySem.W.notFirst K C (.ref C) && (PySem.W.notFirst K C (.type "str") && (PySem.W.readsIn K C (.type "type") && (isB (PySem.W.specialIn K (.ref C) "__getattribute__") (.builtin "type.__getattribute__") && (chMost K C &&
  (chMe K C "inputs" fin && (chMe K C "functions" ffu && (chMe K C "fact" ffa && (chMe K C "with_fact" fwi && (chM K C "__contains__" fco && (chM K C "__len__" fle && (chM K C "__eq__" feq && (chM K C "__str__" fst && (chM K C "__repr__" fre && isB (PySem.W.findIn K (.ref C) "__ne__") (.builtin "object.__ne__")))))))))))))))))
def chG (K : PySem.W.Frag) : Bool := isB (PySem.W.specialIn K (.builtin "object.__class__") "__get__") (.builtin "getset_descriptor.__get__") && decide (PySem.W.takesIn K (.builtin "object.__class__") = some true)
theorem cls_of {K : PySem.W.Frag} {C f : Addr} (h : chC K C f = true) : Cls K C ∧ PySem.W.findIn K (.ref C) "__class__" = some (some (.builtin "object.__class__")) ∧ PySem.W.mroIn K C (.type "object") = some true ∧ PySem.W.kitOne K (.ref C) (.ref C) = some true ∧ Mk K C f := by
  simp only [chC, Bool.and_eq_true] at h
  obtain ⟨h1, h2, h3, h4, h5, h6, h7, h8, h9, h10, h11⟩ := h
  exact ⟨⟨h1, h2, h3, isB_of h4⟩, isB_of h5, of_decide_eq_true h6, of_decide_eq_true h7, ⟨h8, isB_of h9, h10, h11⟩⟩
theorem own_of {K : PySem.W.Frag} {C : Addr} {m : Str} {f : Addr} (h : chM K C m f = true) : OwnM K C m f := ⟨isB_of (Bool.and_eq_true_iff.mp h).1, (Bool.and_eq_true_iff.mp h).2⟩
theorem rt_of {K : PySem.W.Frag} {mg : Str → Option Value} {C fi fe fs : Addr} (h : chR K C fi fe fs = true) (g : chG K = true) (gl : mg "Ratio" = some (.ref C)) : RT K mg C ∧ Mk K C fi ∧ OwnM K C "__eq__" fe ∧ OwnM K C "__str__" fs ∧ PySem.W.notFirst K C (.type "int") = true := by
  simp only [chR, Bool.and_eq_true] at h
  obtain ⟨h0, h1, h2, h3, h4, h5, h6, h7⟩ := h
  obtain ⟨c1, c2, c3, c4, c5⟩ := cls_of h0
  obtain ⟨g1, g2⟩ := Bool.and_eq_true_iff.mp g
  exact ⟨⟨c1, isN_of h1, isN_of h2, gl, c2, isB_of g1, of_decide_eq_true g2, c3, c4, of_decide_eq_true h3, of_decide_eq_true h4⟩, c5, own_of h5, own_of h6, h7⟩
theorem ut_of {K : PySem.W.Frag} {mg : Str → Option Value} {C fi fe fs : Addr} (h : chU K C fi fe fs = true) (g : chG K = true) (gl : mg "Unseen" = some (.ref C)) : UT K mg C ∧ Mk K C fi ∧ OwnM K C "__eq__" fe ∧ OwnM K C "__str__" fs ∧ NeO K C ∧ FmO K C := by
  simp only [chU, Bool.and_eq_true] at h
  obtain ⟨h0, ⟨n1, n2, n3, n4, n5, n6⟩, h1, h2, h3, h4, h5, h7, h8⟩ := h
  obtain ⟨c1, c2, c3, c4, c5⟩ := cls_of h0
  obtain ⟨g1, g2⟩ := Bool.and_eq_true_iff.mp g
  exact ⟨⟨c1, isN_of n1, isN_of n2, isN_of n3, isN_of n4, isN_of n5, isN_of n6, gl, c2, isB_of g1, of_decide_eq_true g2, c3, c4, of_decide_eq_true h1, h2, h3⟩, c5, own_of h4, own_of h5, ⟨isB_of h7, c3⟩, ⟨isB_of h8, c3⟩⟩
theorem me_of {K : PySem.W.Frag} {C : Addr} {m : Str} {f : Addr} (h : chMe K C m f = true) : Meth K C m f := by
  obtain ⟨h1, h2⟩ := Bool.and_eq_true_iff.mp h
  exact ⟨(own_of h1).at_, (own_of h1).fn, h2⟩
theorem most_of {K : PySem.W.Frag} {C : Addr} (h : chMost K C = true) : ∃ t, CVal K C (.type "type") "MOST" (.int 4) (.int 4 t) := by
  unfold chMost at h
  split at h
  · rename_i i t e
    obtain rfl : i = 4 := eq_of_beq h
    exact ⟨t, e, ⟨t, rfl⟩⟩
  · cases h
theorem wt_of {K : PySem.W.Frag} {mg : Str → Option Value} {C fi fin ffu ffa fwi fco fle feq fst fre : Addr} (h : chW K C fi fin ffu ffa fwi fco fle feq fst fre = true) (g : chG K = true) (gl : mg "World" = some (.ref C)) : WT K mg C (.type "type") ∧ Mk K C fi ∧ Meth K C "inputs" fin ∧ Meth K C "functions" ffu ∧ Meth K C "fact" ffa ∧ Meth K C "with_fact" fwi ∧
    OwnM K C "__contains__" fco ∧ OwnM K C "__len__" fle ∧ OwnM K C "__eq__" feq ∧ OwnM K C "__str__" fst ∧ OwnM K C "__repr__" fre ∧ NeO K C := by
  simp only [chW, Bool.and_eq_true] at h
  obtain ⟨h0, ⟨n1, n2, n3, n4⟩, h1, h2, h3, h4, h5, h6, m1, m2, m3, m4, o1, o2, o3, o4, o5, o6⟩ := h
  obtain ⟨c1, c2, c3, c4, c5⟩ := cls_of h0
  obtain ⟨g1, g2⟩ := Bool.and_eq_true_iff.mp g
  exact ⟨⟨c1, isN_of n1, isN_of n2, isN_of n3, isN_of n4, gl, c2, isB_of g1, of_decide_eq_true g2, c3, c4, of_decide_eq_true h1, h2, h3, ⟨h4, isB_of h5⟩, most_of h6⟩, c5, me_of m1, me_of m2, me_of m3, me_of m4, own_of o1, own_of o2, own_of o3, own_of o4, own_of o5, ⟨isB_of o6, c3⟩⟩
theorem same_zero {P : Program} {w : World} {K : PySem.W.Frag} {mg : Str → Option Value} {base : Heap} {f : Addr} {fd : FuncData} : FnOk P w K mg base CX0 0 f fd ["_law_found", "_law_due"] (spSame 0) :=
  ⟨fun _ _ _ _ h => by obtain ⟨_, _, rfl, z, _⟩ := h; exact z.elim, fun _ _ _ _ _ _ _ _ _ _ _ _ _ h => by obtain ⟨_, _, _, z, _⟩ := h; exact z.elim⟩
abbrev kwU : List (Str × V) := [("mirror", .non), ("centre", .int 0), ("degree", .non), ("swap", .non)]
theorem r_binds2 {K : PySem.W.Frag} {f : Addr} {fd : FuncData} (F : FunD K "__init__" "Ratio.__init__" (defArgs sRInit) (defBody sRInit) (defScope sRInit) [.int 1] [] f fd) : ∃ ds, Vals [V.int 1] ds ∧ Binds K fd ["self", "top", "bottom"] ds :=
  F.binds1 2 0 (by simp) rfl fun T kV doc pm an cdv ct us its h1 h2 => match us, its, h1, h2 with | [_, _], [_], _, _ => ⟨_, rfl, rfl⟩
theorem r_binds3 {K : PySem.W.Frag} {f : Addr} {fd : FuncData} (F : FunD K "__init__" "Ratio.__init__" (defArgs sRInit) (defBody sRInit) (defScope sRInit) [.int 1] [] f fd) : Binds K fd ["self", "top", "bottom"] [] := by
  obtain ⟨ds, v, b⟩ := F.binds1 (ps := ["self", "top", "bottom"]) 3 1 (by simp) rfl fun T kV doc pm an cdv ct us its h1 h2 => match us, its, h1, h2 with | [_, _, _], [_], _, _ => ⟨_, rfl, rfl⟩
  cases v
  exact b
section
variable {K : PySem.W.Frag} {f : Addr} {fd : FuncData} (F : FunD K "__init__" "Unseen.__init__" (defArgs sUInit) (defBody sUInit) (defScope sUInit) [.int 1] kwU f fd)
include F
theorem u_binds0 : ∃ ds, Vals [V.int 1, .non, .int 0, .non, .non] ds ∧ Binds K fd pU ds :=
  F.binds 1 0 (by simp) rfl (fun T D doc pm an cdv ct us its ks h1 h2 h3 => match us, its, ks, h1, h2, h3 with | [_], [_], [_, _, _, _], _, _, _ => ⟨_, rfl, _, _, _, _, _, _, rfl, rfl, _, _, _, _, _, _, rfl, rfl, _, _, _, _, _, _, rfl, rfl, _, _, _, _, _, _, rfl, rfl, rfl⟩) (by simp)
theorem u_binds1 : ∃ ds, Vals [V.non, .int 0, .non, .non] ds ∧ Binds K fd pU ds :=
  F.binds 2 1 (by simp) rfl (fun T D doc pm an cdv ct us its ks h1 h2 h3 => match us, its, ks, h1, h2, h3 with | [_, _], [_], [_, _, _, _], _, _, _ => ⟨_, rfl, _, _, _, _, _, _, rfl, rfl, _, _, _, _, _, _, rfl, rfl, _, _, _, _, _, _, rfl, rfl, _, _, _, _, _, _, rfl, rfl, rfl⟩) (by simp)
theorem u_kb4 : ∃ its : List Value, KBn K fd pU 2 ["mirror", "centre", "degree", "swap"] (fun us ws => (fun {α : Type} (a b c : List α) => a ++ c) us its ws) (fun vs zs => vs ++ zs) :=
  F.kbindsD 2 ["mirror", "centre", "degree", "swap"] (fun {α : Type} (a b c : List α) => a ++ c) (by simp) (fun a b c => a.append c) fun T kV doc pm an cdv ct us its ws h1 h2 h3 => match us, its, ws, h1, h2, h3 with | [_, _], [_], [_, _, _, _], _, _, _ => ⟨_, rfl, rfl⟩
theorem u_kb2 : ∃ its mv : List Value, KBn K fd pU 2 ["swap"] (fun us ws => (fun {α : Type} (a b m c : List α) => a ++ (m ++ c)) us its mv ws) (fun vs zs => vs ++ (.non :: .int 0 :: .non :: zs)) :=
  F.kbinds 2 ["swap"] [("mirror", .non), ("centre", .int 0), ("degree", .non)] (fun {α : Type} (a b m c : List α) => a ++ (m ++ c)) (by simp) (by simp) (fun q hq => by
      simp only [List.mem_cons, List.mem_nil_iff, or_false] at hq
      rcases hq with rfl | rfl | rfl <;> simp) (fun a b m c => a.append (m.append c))
    fun T D doc pm an cdv ct us its mv ws h1 h2 h3 h4 => match us, its, mv, ws, h1, h2, h3, h4 with | [_, _], [_], [_, _, _], [_], _, _, _, _ => ⟨_, rfl, _, _, _, _, _, _, rfl, rfl, _, _, _, _, _, _, rfl, rfl, _, _, _, _, _, _, rfl, rfl, rfl⟩
theorem u_kb0 : ∃ its mv : List Value, KBn K fd pU 1 ["mirror", "centre"] (fun us ws => (fun {α : Type} (a b m c : List α) => a ++ (b ++ (c ++ m))) us its mv ws) (fun vs zs => vs ++ (.int 1 :: (zs ++ [.non, .non]))) :=
  F.kbinds 1 ["mirror", "centre"] [("degree", .non), ("swap", .non)] (fun {α : Type} (a b m c : List α) => a ++ (b ++ (c ++ m))) (by simp) (by simp) (fun q hq => by
      simp only [List.mem_cons, List.mem_nil_iff, or_false] at hq
      rcases hq with rfl | rfl <;> simp) (fun a b m c => a.append (b.append (c.append m)))
    fun T D doc pm an cdv ct us its mv ws h1 h2 h3 h4 => match us, its, mv, ws, h1, h2, h3, h4 with | [_], [_], [_, _], [_, _], _, _, _, _ => ⟨_, rfl, _, _, _, _, _, _, rfl, rfl, _, _, _, _, _, _, rfl, rfl, rfl⟩
end

theorem all_mk {l : PySem.W.OpenLaw} {w : World} {K : PySem.W.Frag} {h : Heap} {mg : Str → Option Value} {fa CR CU CW pK pM pS g_isi g_isn g_rof g_itx g_rtx g_nam g_chn g_wtx g_cho g_who g_mir g_cen g_deg g_swp g_chk g_ftx g_bag g_pul g_lof g_sam g_lna g_low g_lnm g_lra g_lfa g_lun g_law g_req g_rst g_ueq g_ust g_win g_wns g_wfu g_wfa g_wwi g_wco g_wle g_weq g_wst g_wre T_rin g_rin T_uin g_uin DU : Addr} (X : K.In h) (G : h.Ns mainGlobals mg) (hfa : mg "law" = some (.ref fa))
    {od_isi an_isi : Option Addr} {sl_isi : Array (Option Value)} {oc_isi kV_isi dc_isi pm_isi cd_isi ct_isi : Value}
    {od_isn an_isn : Option Addr} {sl_isn : Array (Option Value)} {oc_isn kV_isn dc_isn pm_isn cd_isn ct_isn : Value}
    {od_rof an_rof : Option Addr} {sl_rof : Array (Option Value)} {oc_rof kV_rof dc_rof pm_rof cd_rof ct_rof : Value}
    {od_itx an_itx : Option Addr} {sl_itx : Array (Option Value)} {oc_itx kV_itx dc_itx pm_itx cd_itx ct_itx : Value}
    {od_rtx an_rtx : Option Addr} {sl_rtx : Array (Option Value)} {oc_rtx kV_rtx dc_rtx pm_rtx cd_rtx ct_rtx : Value}
    {od_nam an_nam : Option Addr} {sl_nam : Array (Option Value)} {oc_nam kV_nam dc_nam pm_nam cd_nam ct_nam : Value}
    {od_chn an_chn : Option Addr} {sl_chn : Array (Option Value)} {oc_chn kV_chn dc_chn pm_chn cd_chn ct_chn : Value}
    {od_wtx an_wtx : Option Addr} {sl_wtx : Array (Option Value)} {oc_wtx kV_wtx dc_wtx pm_wtx cd_wtx ct_wtx : Value}
    {od_cho an_cho : Option Addr} {sl_cho : Array (Option Value)} {oc_cho kV_cho dc_cho pm_cho cd_cho ct_cho : Value}
    {od_who an_who : Option Addr} {sl_who : Array (Option Value)} {oc_who kV_who dc_who pm_who cd_who ct_who : Value}
    {od_mir an_mir : Option Addr} {sl_mir : Array (Option Value)} {oc_mir kV_mir dc_mir pm_mir cd_mir ct_mir : Value}
    {od_cen an_cen : Option Addr} {sl_cen : Array (Option Value)} {oc_cen kV_cen dc_cen pm_cen cd_cen ct_cen : Value}
    {od_deg an_deg : Option Addr} {sl_deg : Array (Option Value)} {oc_deg kV_deg dc_deg pm_deg cd_deg ct_deg : Value}
    {od_swp an_swp : Option Addr} {sl_swp : Array (Option Value)} {oc_swp kV_swp dc_swp pm_swp cd_swp ct_swp : Value}
    {od_chk an_chk : Option Addr} {sl_chk : Array (Option Value)} {oc_chk kV_chk dc_chk pm_chk cd_chk ct_chk : Value}
    {od_ftx an_ftx : Option Addr} {sl_ftx : Array (Option Value)} {oc_ftx kV_ftx dc_ftx pm_ftx cd_ftx ct_ftx : Value}
    {od_bag an_bag : Option Addr} {sl_bag : Array (Option Value)} {oc_bag kV_bag dc_bag pm_bag cd_bag ct_bag : Value}
    {od_pul an_pul : Option Addr} {sl_pul : Array (Option Value)} {oc_pul kV_pul dc_pul pm_pul cd_pul ct_pul : Value}
    {od_lof an_lof : Option Addr} {sl_lof : Array (Option Value)} {oc_lof kV_lof dc_lof pm_lof cd_lof ct_lof : Value}
    {od_sam an_sam : Option Addr} {sl_sam : Array (Option Value)} {oc_sam kV_sam dc_sam pm_sam cd_sam ct_sam : Value}
    {od_lna an_lna : Option Addr} {sl_lna : Array (Option Value)} {oc_lna kV_lna dc_lna pm_lna cd_lna ct_lna : Value}
    {od_low an_low : Option Addr} {sl_low : Array (Option Value)} {oc_low kV_low dc_low pm_low cd_low ct_low : Value}
    {od_lnm an_lnm : Option Addr} {sl_lnm : Array (Option Value)} {oc_lnm kV_lnm dc_lnm pm_lnm cd_lnm ct_lnm : Value}
    {od_lra an_lra : Option Addr} {sl_lra : Array (Option Value)} {oc_lra kV_lra dc_lra pm_lra cd_lra ct_lra : Value}
    {od_lfa an_lfa : Option Addr} {sl_lfa : Array (Option Value)} {oc_lfa kV_lfa dc_lfa pm_lfa cd_lfa ct_lfa : Value}
    {od_lun an_lun : Option Addr} {sl_lun : Array (Option Value)} {oc_lun kV_lun dc_lun pm_lun cd_lun ct_lun : Value}
    {od_law an_law : Option Addr} {sl_law : Array (Option Value)} {oc_law kV_law dc_law pm_law cd_law ct_law : Value}
    {od_req an_req : Option Addr} {sl_req : Array (Option Value)} {oc_req kV_req dc_req pm_req cd_req ct_req : Value}
    {od_rst an_rst : Option Addr} {sl_rst : Array (Option Value)} {oc_rst kV_rst dc_rst pm_rst cd_rst ct_rst : Value}
    {od_ueq an_ueq : Option Addr} {sl_ueq : Array (Option Value)} {oc_ueq kV_ueq dc_ueq pm_ueq cd_ueq ct_ueq : Value}
    {od_ust an_ust : Option Addr} {sl_ust : Array (Option Value)} {oc_ust kV_ust dc_ust pm_ust cd_ust ct_ust : Value}
    {od_win an_win : Option Addr} {sl_win : Array (Option Value)} {oc_win kV_win dc_win pm_win cd_win ct_win : Value}
    {od_wns an_wns : Option Addr} {sl_wns : Array (Option Value)} {oc_wns kV_wns dc_wns pm_wns cd_wns ct_wns : Value}
    {od_wfu an_wfu : Option Addr} {sl_wfu : Array (Option Value)} {oc_wfu kV_wfu dc_wfu pm_wfu cd_wfu ct_wfu : Value}
    {od_wfa an_wfa : Option Addr} {sl_wfa : Array (Option Value)} {oc_wfa kV_wfa dc_wfa pm_wfa cd_wfa ct_wfa : Value}
    {od_wwi an_wwi : Option Addr} {sl_wwi : Array (Option Value)} {oc_wwi kV_wwi dc_wwi pm_wwi cd_wwi ct_wwi : Value}
    {od_wco an_wco : Option Addr} {sl_wco : Array (Option Value)} {oc_wco kV_wco dc_wco pm_wco cd_wco ct_wco : Value}
    {od_wle an_wle : Option Addr} {sl_wle : Array (Option Value)} {oc_wle kV_wle dc_wle pm_wle cd_wle ct_wle : Value}
    {od_weq an_weq : Option Addr} {sl_weq : Array (Option Value)} {oc_weq kV_weq dc_weq pm_weq cd_weq ct_weq : Value}
    {od_wst an_wst : Option Addr} {sl_wst : Array (Option Value)} {oc_wst kV_wst dc_wst pm_wst cd_wst ct_wst : Value}
    {od_wre an_wre : Option Addr} {sl_wre : Array (Option Value)} {oc_wre kV_wre dc_wre pm_wre cd_wre ct_wre : Value}
    {od_rin an_rin : Option Addr} {sl_rin : Array (Option Value)} {oc_rin kV_rin dc_rin pm_rin cd_rin ct_rin : Value}
    {oT_rin : Value} {oD_rin : Option Addr} {nT_rin : Nat} {tk_rin : Tok} {sT_rin : Array (Option Value)}
    {od_uin an_uin : Option Addr} {sl_uin : Array (Option Value)} {oc_uin dc_uin pm_uin cd_uin ct_uin : Value}
    {oT_uin : Value} {oD_uin : Option Addr} {nT_uin : Nat} {tk_uin : Tok} {sT_uin : Array (Option Value)}
    {tk0 : Tok}
    {tL tM tD tC : Tok}
    {ocK : Option Addr} {nnK : Nat} {tK0 tK1 tK2 : Tok} {ssK : Array (Option Value)}
    {ocM : Option Addr} {nnM : Nat} {tM0 tM1 : Tok} {ssM : Array (Option Value)}
    {ocS : Option Addr} {nnS : Nat} {tS0 tS1 : Tok} {ssS : Array (Option Value)}
    (aR : PySem.W.nsIn K mainGlobals "Ratio" = some (some (.ref CR))) (aU : PySem.W.nsIn K mainGlobals "Unseen" = some (some (.ref CU))) (aW : PySem.W.nsIn K mainGlobals "World" = some (some (.ref CW)))
    (a_isi : PySem.W.nsIn K mainGlobals "is_integer" = some (some (.ref g_isi)))
    (l_isi : K.lookup g_isi = some ⟨oc_isi, od_isi, .func (PySem.W.fnOf "is_integer" "is_integer" (defArgs sIsInt) (defBody sIsInt) (defScope sIsInt) .none kV_isi dc_isi pm_isi an_isi cd_isi ct_isi), sl_isi⟩) (c_isi : PySem.W.codeIn K cd_isi "is_integer" = true) (k_isi : PySem.W.keepIn K (.ref g_isi) = true)
    (a_isn : PySem.W.nsIn K mainGlobals "is_number" = some (some (.ref g_isn)))
    (l_isn : K.lookup g_isn = some ⟨oc_isn, od_isn, .func (PySem.W.fnOf "is_number" "is_number" (defArgs sIsNum) (defBody sIsNum) (defScope sIsNum) .none kV_isn dc_isn pm_isn an_isn cd_isn ct_isn), sl_isn⟩) (c_isn : PySem.W.codeIn K cd_isn "is_number" = true) (k_isn : PySem.W.keepIn K (.ref g_isn) = true)
    (a_rof : PySem.W.nsIn K mainGlobals "ratio_of" = some (some (.ref g_rof)))
    (l_rof : K.lookup g_rof = some ⟨oc_rof, od_rof, .func (PySem.W.fnOf "ratio_of" "ratio_of" (defArgs sRatioOf) (defBody sRatioOf) (defScope sRatioOf) .none kV_rof dc_rof pm_rof an_rof cd_rof ct_rof), sl_rof⟩) (c_rof : PySem.W.codeIn K cd_rof "ratio_of" = true) (k_rof : PySem.W.keepIn K (.ref g_rof) = true)
    (a_itx : PySem.W.nsIn K mainGlobals "integer_text" = some (some (.ref g_itx)))
    (l_itx : K.lookup g_itx = some ⟨oc_itx, od_itx, .func (PySem.W.fnOf "integer_text" "integer_text" (defArgs sIntText) (defBody sIntText) (defScope sIntText) .none kV_itx dc_itx pm_itx an_itx cd_itx ct_itx), sl_itx⟩) (c_itx : PySem.W.codeIn K cd_itx "integer_text" = true) (k_itx : PySem.W.keepIn K (.ref g_itx) = true)
    (a_rtx : PySem.W.nsIn K mainGlobals "ratio_text" = some (some (.ref g_rtx)))
    (l_rtx : K.lookup g_rtx = some ⟨oc_rtx, od_rtx, .func (PySem.W.fnOf "ratio_text" "ratio_text" (defArgs sRatText) (defBody sRatText) (defScope sRatText) .none kV_rtx dc_rtx pm_rtx an_rtx cd_rtx ct_rtx), sl_rtx⟩) (c_rtx : PySem.W.codeIn K cd_rtx "ratio_text" = true) (k_rtx : PySem.W.keepIn K (.ref g_rtx) = true)
    (a_nam : PySem.W.nsIn K mainGlobals "is_name" = some (some (.ref g_nam)))
    (l_nam : K.lookup g_nam = some ⟨oc_nam, od_nam, .func (PySem.W.fnOf "is_name" "is_name" (defArgs sIsName) (defBody sIsName) (defScope sIsName) .none kV_nam dc_nam pm_nam an_nam cd_nam ct_nam), sl_nam⟩) (c_nam : PySem.W.codeIn K cd_nam "is_name" = true) (k_nam : PySem.W.keepIn K (.ref g_nam) = true)
    (a_chn : PySem.W.nsIn K mainGlobals "check_names" = some (some (.ref g_chn)))
    (l_chn : K.lookup g_chn = some ⟨oc_chn, od_chn, .func (PySem.W.fnOf "check_names" "check_names" (defArgs sChkN) (defBody sChkN) (defScope sChkN) .none kV_chn dc_chn pm_chn an_chn cd_chn ct_chn), sl_chn⟩) (c_chn : PySem.W.codeIn K cd_chn "check_names" = true) (k_chn : PySem.W.keepIn K (.ref g_chn) = true)
    (a_wtx : PySem.W.nsIn K mainGlobals "world_text" = some (some (.ref g_wtx)))
    (l_wtx : K.lookup g_wtx = some ⟨oc_wtx, od_wtx, .func (PySem.W.fnOf "world_text" "world_text" (defArgs sWText) (defBody sWText) (defScope sWText) .none kV_wtx dc_wtx pm_wtx an_wtx cd_wtx ct_wtx), sl_wtx⟩) (c_wtx : PySem.W.codeIn K cd_wtx "world_text" = true) (k_wtx : PySem.W.keepIn K (.ref g_wtx) = true)
    (a_cho : PySem.W.nsIn K mainGlobals "is_choice" = some (some (.ref g_cho)))
    (l_cho : K.lookup g_cho = some ⟨oc_cho, od_cho, .func (PySem.W.fnOf "is_choice" "is_choice" (defArgs sChoice) (defBody sChoice) (defScope sChoice) .none kV_cho dc_cho pm_cho an_cho cd_cho ct_cho), sl_cho⟩) (c_cho : PySem.W.codeIn K cd_cho "is_choice" = true) (k_cho : PySem.W.keepIn K (.ref g_cho) = true)
    (a_who : PySem.W.nsIn K mainGlobals "is_whole_within" = some (some (.ref g_who)))
    (l_who : K.lookup g_who = some ⟨oc_who, od_who, .func (PySem.W.fnOf "is_whole_within" "is_whole_within" (defArgs sWhole) (defBody sWhole) (defScope sWhole) .none kV_who dc_who pm_who an_who cd_who ct_who), sl_who⟩) (c_who : PySem.W.codeIn K cd_who "is_whole_within" = true) (k_who : PySem.W.keepIn K (.ref g_who) = true)
    (a_mir : PySem.W.nsIn K mainGlobals "is_mirror" = some (some (.ref g_mir)))
    (l_mir : K.lookup g_mir = some ⟨oc_mir, od_mir, .func (PySem.W.fnOf "is_mirror" "is_mirror" (defArgs sMirror) (defBody sMirror) (defScope sMirror) .none kV_mir dc_mir pm_mir an_mir cd_mir ct_mir), sl_mir⟩) (c_mir : PySem.W.codeIn K cd_mir "is_mirror" = true) (k_mir : PySem.W.keepIn K (.ref g_mir) = true)
    (a_cen : PySem.W.nsIn K mainGlobals "is_centre" = some (some (.ref g_cen)))
    (l_cen : K.lookup g_cen = some ⟨oc_cen, od_cen, .func (PySem.W.fnOf "is_centre" "is_centre" (defArgs sCentre) (defBody sCentre) (defScope sCentre) .none kV_cen dc_cen pm_cen an_cen cd_cen ct_cen), sl_cen⟩) (c_cen : PySem.W.codeIn K cd_cen "is_centre" = true) (k_cen : PySem.W.keepIn K (.ref g_cen) = true)
    (a_deg : PySem.W.nsIn K mainGlobals "is_degree" = some (some (.ref g_deg)))
    (l_deg : K.lookup g_deg = some ⟨oc_deg, od_deg, .func (PySem.W.fnOf "is_degree" "is_degree" (defArgs sDegree) (defBody sDegree) (defScope sDegree) .none kV_deg dc_deg pm_deg an_deg cd_deg ct_deg), sl_deg⟩) (c_deg : PySem.W.codeIn K cd_deg "is_degree" = true) (k_deg : PySem.W.keepIn K (.ref g_deg) = true)
    (a_swp : PySem.W.nsIn K mainGlobals "is_swap" = some (some (.ref g_swp)))
    (l_swp : K.lookup g_swp = some ⟨oc_swp, od_swp, .func (PySem.W.fnOf "is_swap" "is_swap" (defArgs sSwap) (defBody sSwap) (defScope sSwap) .none kV_swp dc_swp pm_swp an_swp cd_swp ct_swp), sl_swp⟩) (c_swp : PySem.W.codeIn K cd_swp "is_swap" = true) (k_swp : PySem.W.keepIn K (.ref g_swp) = true)
    (a_chk : PySem.W.nsIn K mainGlobals "check_facts" = some (some (.ref g_chk)))
    (l_chk : K.lookup g_chk = some ⟨oc_chk, od_chk, .func (PySem.W.fnOf "check_facts" "check_facts" (defArgs sCheck) (defBody sCheck) (defScope sCheck) .none kV_chk dc_chk pm_chk an_chk cd_chk ct_chk), sl_chk⟩) (c_chk : PySem.W.codeIn K cd_chk "check_facts" = true) (k_chk : PySem.W.keepIn K (.ref g_chk) = true)
    (a_ftx : PySem.W.nsIn K mainGlobals "facts_text" = some (some (.ref g_ftx)))
    (l_ftx : K.lookup g_ftx = some ⟨oc_ftx, od_ftx, .func (PySem.W.fnOf "facts_text" "facts_text" (defArgs sFText) (defBody sFText) (defScope sFText) .none kV_ftx dc_ftx pm_ftx an_ftx cd_ftx ct_ftx), sl_ftx⟩) (c_ftx : PySem.W.codeIn K cd_ftx "facts_text" = true) (k_ftx : PySem.W.keepIn K (.ref g_ftx) = true)
    (a_bag : PySem.W.nsIn K mainGlobals "_law_bag" = some (some (.ref g_bag)))
    (l_bag : K.lookup g_bag = some ⟨oc_bag, od_bag, .func (PySem.W.fnOf "_law_bag" "_law_bag" (defArgs sBag) (defBody sBag) (defScope sBag) .none kV_bag dc_bag pm_bag an_bag cd_bag ct_bag), sl_bag⟩) (c_bag : PySem.W.codeIn K cd_bag "_law_bag" = true) (k_bag : PySem.W.keepIn K (.ref g_bag) = true)
    (a_pul : PySem.W.nsIn K mainGlobals "_law_pull" = some (some (.ref g_pul)))
    (l_pul : K.lookup g_pul = some ⟨oc_pul, od_pul, .func (PySem.W.fnOf "_law_pull" "_law_pull" (defArgs sPull) (defBody sPull) (defScope sPull) .none kV_pul dc_pul pm_pul an_pul cd_pul ct_pul), sl_pul⟩) (c_pul : PySem.W.codeIn K cd_pul "_law_pull" = true) (k_pul : PySem.W.keepIn K (.ref g_pul) = true)
    (a_lof : PySem.W.nsIn K mainGlobals "_law_of" = some (some (.ref g_lof)))
    (l_lof : K.lookup g_lof = some ⟨oc_lof, od_lof, .func (PySem.W.fnOf "_law_of" "_law_of" (defArgs sOf) (defBody sOf) (defScope sOf) .none kV_lof dc_lof pm_lof an_lof cd_lof ct_lof), sl_lof⟩) (c_lof : PySem.W.codeIn K cd_lof "_law_of" = true) (k_lof : PySem.W.keepIn K (.ref g_lof) = true)
    (a_sam : PySem.W.nsIn K mainGlobals "_law_same" = some (some (.ref g_sam)))
    (l_sam : K.lookup g_sam = some ⟨oc_sam, od_sam, .func (PySem.W.fnOf "_law_same" "_law_same" (defArgs sSame) (defBody sSame) (defScope sSame) .none kV_sam dc_sam pm_sam an_sam cd_sam ct_sam), sl_sam⟩) (c_sam : PySem.W.codeIn K cd_sam "_law_same" = true) (k_sam : PySem.W.keepIn K (.ref g_sam) = true)
    (a_lna : PySem.W.nsIn K mainGlobals "_law_name" = some (some (.ref g_lna)))
    (l_lna : K.lookup g_lna = some ⟨oc_lna, od_lna, .func (PySem.W.fnOf "_law_name" "_law_name" (defArgs sName) (defBody sName) (defScope sName) .none kV_lna dc_lna pm_lna an_lna cd_lna ct_lna), sl_lna⟩) (c_lna : PySem.W.codeIn K cd_lna "_law_name" = true) (k_lna : PySem.W.keepIn K (.ref g_lna) = true)
    (a_low : PySem.W.nsIn K mainGlobals "_law_low" = some (some (.ref g_low)))
    (l_low : K.lookup g_low = some ⟨oc_low, od_low, .func (PySem.W.fnOf "_law_low" "_law_low" (defArgs sLow) (defBody sLow) (defScope sLow) .none kV_low dc_low pm_low an_low cd_low ct_low), sl_low⟩) (c_low : PySem.W.codeIn K cd_low "_law_low" = true) (k_low : PySem.W.keepIn K (.ref g_low) = true)
    (a_lnm : PySem.W.nsIn K mainGlobals "_law_names" = some (some (.ref g_lnm)))
    (l_lnm : K.lookup g_lnm = some ⟨oc_lnm, od_lnm, .func (PySem.W.fnOf "_law_names" "_law_names" (defArgs sNames) (defBody sNames) (defScope sNames) .none kV_lnm dc_lnm pm_lnm an_lnm cd_lnm ct_lnm), sl_lnm⟩) (c_lnm : PySem.W.codeIn K cd_lnm "_law_names" = true) (k_lnm : PySem.W.keepIn K (.ref g_lnm) = true)
    (a_lra : PySem.W.nsIn K mainGlobals "_law_ratio" = some (some (.ref g_lra)))
    (l_lra : K.lookup g_lra = some ⟨oc_lra, od_lra, .func (PySem.W.fnOf "_law_ratio" "_law_ratio" (defArgs sRatio) (defBody sRatio) (defScope sRatio) .none kV_lra dc_lra pm_lra an_lra cd_lra ct_lra), sl_lra⟩) (c_lra : PySem.W.codeIn K cd_lra "_law_ratio" = true) (k_lra : PySem.W.keepIn K (.ref g_lra) = true)
    (a_lfa : PySem.W.nsIn K mainGlobals "_law_facts" = some (some (.ref g_lfa)))
    (l_lfa : K.lookup g_lfa = some ⟨oc_lfa, od_lfa, .func (PySem.W.fnOf "_law_facts" "_law_facts" (defArgs sFacts) (defBody sFacts) (defScope sFacts) .none kV_lfa dc_lfa pm_lfa an_lfa cd_lfa ct_lfa), sl_lfa⟩) (c_lfa : PySem.W.codeIn K cd_lfa "_law_facts" = true) (k_lfa : PySem.W.keepIn K (.ref g_lfa) = true)
    (a_lun : PySem.W.nsIn K mainGlobals "_law_unseen" = some (some (.ref g_lun)))
    (l_lun : K.lookup g_lun = some ⟨oc_lun, od_lun, .func (PySem.W.fnOf "_law_unseen" "_law_unseen" (defArgs sUnseen) (defBody sUnseen) (defScope sUnseen) .none kV_lun dc_lun pm_lun an_lun cd_lun ct_lun), sl_lun⟩) (c_lun : PySem.W.codeIn K cd_lun "_law_unseen" = true) (k_lun : PySem.W.keepIn K (.ref g_lun) = true)
    (a_law : PySem.W.nsIn K mainGlobals "law" = some (some (.ref g_law)))
    (l_law : K.lookup g_law = some ⟨oc_law, od_law, .func (PySem.W.fnOf "law" "law" (defArgs sLaw) (defBody sLaw) (defScope sLaw) .none kV_law dc_law pm_law an_law cd_law ct_law), sl_law⟩) (c_law : PySem.W.codeIn K cd_law "law" = true) (k_law : PySem.W.keepIn K (.ref g_law) = true)
    (i_req : PySem.W.findIn K (.ref CR) "__eq__" = some (some (.ref g_req)))
    (l_req : K.lookup g_req = some ⟨oc_req, od_req, .func (PySem.W.fnOf "__eq__" "Ratio.__eq__" (defArgs sREq) (defBody sREq) (defScope sREq) .none kV_req dc_req pm_req an_req cd_req ct_req), sl_req⟩) (c_req : PySem.W.codeIn K cd_req "Ratio.__eq__" = true) (k_req : PySem.W.keepIn K (.ref g_req) = true)
    (i_rst : PySem.W.findIn K (.ref CR) "__str__" = some (some (.ref g_rst)))
    (l_rst : K.lookup g_rst = some ⟨oc_rst, od_rst, .func (PySem.W.fnOf "__str__" "Ratio.__str__" (defArgs sRStr) (defBody sRStr) (defScope sRStr) .none kV_rst dc_rst pm_rst an_rst cd_rst ct_rst), sl_rst⟩) (c_rst : PySem.W.codeIn K cd_rst "Ratio.__str__" = true) (k_rst : PySem.W.keepIn K (.ref g_rst) = true)
    (i_ueq : PySem.W.findIn K (.ref CU) "__eq__" = some (some (.ref g_ueq)))
    (l_ueq : K.lookup g_ueq = some ⟨oc_ueq, od_ueq, .func (PySem.W.fnOf "__eq__" "Unseen.__eq__" (defArgs sUEq) (defBody sUEq) (defScope sUEq) .none kV_ueq dc_ueq pm_ueq an_ueq cd_ueq ct_ueq), sl_ueq⟩) (c_ueq : PySem.W.codeIn K cd_ueq "Unseen.__eq__" = true) (k_ueq : PySem.W.keepIn K (.ref g_ueq) = true)
    (i_ust : PySem.W.findIn K (.ref CU) "__str__" = some (some (.ref g_ust)))
    (l_ust : K.lookup g_ust = some ⟨oc_ust, od_ust, .func (PySem.W.fnOf "__str__" "Unseen.__str__" (defArgs sUStr) (defBody sUStr) (defScope sUStr) .none kV_ust dc_ust pm_ust an_ust cd_ust ct_ust), sl_ust⟩) (c_ust : PySem.W.codeIn K cd_ust "Unseen.__str__" = true) (k_ust : PySem.W.keepIn K (.ref g_ust) = true)
    (i_win : PySem.W.findIn K (.ref CW) "__init__" = some (some (.ref g_win)))
    (l_win : K.lookup g_win = some ⟨oc_win, od_win, .func (PySem.W.fnOf "__init__" "World.__init__" (defArgs sWInit) (defBody sWInit) (defScope sWInit) .none kV_win dc_win pm_win an_win cd_win ct_win), sl_win⟩) (c_win : PySem.W.codeIn K cd_win "World.__init__" = true) (k_win : PySem.W.keepIn K (.ref g_win) = true)
    (i_wns : PySem.W.findIn K (.ref CW) "inputs" = some (some (.ref g_wns)))
    (l_wns : K.lookup g_wns = some ⟨oc_wns, od_wns, .func (PySem.W.fnOf "inputs" "World.inputs" (defArgs sWIns) (defBody sWIns) (defScope sWIns) .none kV_wns dc_wns pm_wns an_wns cd_wns ct_wns), sl_wns⟩) (c_wns : PySem.W.codeIn K cd_wns "World.inputs" = true) (k_wns : PySem.W.keepIn K (.ref g_wns) = true)
    (i_wfu : PySem.W.findIn K (.ref CW) "functions" = some (some (.ref g_wfu)))
    (l_wfu : K.lookup g_wfu = some ⟨oc_wfu, od_wfu, .func (PySem.W.fnOf "functions" "World.functions" (defArgs sWFuns) (defBody sWFuns) (defScope sWFuns) .none kV_wfu dc_wfu pm_wfu an_wfu cd_wfu ct_wfu), sl_wfu⟩) (c_wfu : PySem.W.codeIn K cd_wfu "World.functions" = true) (k_wfu : PySem.W.keepIn K (.ref g_wfu) = true)
    (i_wfa : PySem.W.findIn K (.ref CW) "fact" = some (some (.ref g_wfa)))
    (l_wfa : K.lookup g_wfa = some ⟨oc_wfa, od_wfa, .func (PySem.W.fnOf "fact" "World.fact" (defArgs sWFact) (defBody sWFact) (defScope sWFact) .none kV_wfa dc_wfa pm_wfa an_wfa cd_wfa ct_wfa), sl_wfa⟩) (c_wfa : PySem.W.codeIn K cd_wfa "World.fact" = true) (k_wfa : PySem.W.keepIn K (.ref g_wfa) = true)
    (i_wwi : PySem.W.findIn K (.ref CW) "with_fact" = some (some (.ref g_wwi)))
    (l_wwi : K.lookup g_wwi = some ⟨oc_wwi, od_wwi, .func (PySem.W.fnOf "with_fact" "World.with_fact" (defArgs sWWith) (defBody sWWith) (defScope sWWith) .none kV_wwi dc_wwi pm_wwi an_wwi cd_wwi ct_wwi), sl_wwi⟩) (c_wwi : PySem.W.codeIn K cd_wwi "World.with_fact" = true) (k_wwi : PySem.W.keepIn K (.ref g_wwi) = true)
    (i_wco : PySem.W.findIn K (.ref CW) "__contains__" = some (some (.ref g_wco)))
    (l_wco : K.lookup g_wco = some ⟨oc_wco, od_wco, .func (PySem.W.fnOf "__contains__" "World.__contains__" (defArgs sWCont) (defBody sWCont) (defScope sWCont) .none kV_wco dc_wco pm_wco an_wco cd_wco ct_wco), sl_wco⟩) (c_wco : PySem.W.codeIn K cd_wco "World.__contains__" = true) (k_wco : PySem.W.keepIn K (.ref g_wco) = true)
    (i_wle : PySem.W.findIn K (.ref CW) "__len__" = some (some (.ref g_wle)))
    (l_wle : K.lookup g_wle = some ⟨oc_wle, od_wle, .func (PySem.W.fnOf "__len__" "World.__len__" (defArgs sWLen) (defBody sWLen) (defScope sWLen) .none kV_wle dc_wle pm_wle an_wle cd_wle ct_wle), sl_wle⟩) (c_wle : PySem.W.codeIn K cd_wle "World.__len__" = true) (k_wle : PySem.W.keepIn K (.ref g_wle) = true)
    (i_weq : PySem.W.findIn K (.ref CW) "__eq__" = some (some (.ref g_weq)))
    (l_weq : K.lookup g_weq = some ⟨oc_weq, od_weq, .func (PySem.W.fnOf "__eq__" "World.__eq__" (defArgs sWEq) (defBody sWEq) (defScope sWEq) .none kV_weq dc_weq pm_weq an_weq cd_weq ct_weq), sl_weq⟩) (c_weq : PySem.W.codeIn K cd_weq "World.__eq__" = true) (k_weq : PySem.W.keepIn K (.ref g_weq) = true)
    (i_wst : PySem.W.findIn K (.ref CW) "__str__" = some (some (.ref g_wst)))
    (l_wst : K.lookup g_wst = some ⟨oc_wst, od_wst, .func (PySem.W.fnOf "__str__" "World.__str__" (defArgs sWStr) (defBody sWStr) (defScope sWStr) .none kV_wst dc_wst pm_wst an_wst cd_wst ct_wst), sl_wst⟩) (c_wst : PySem.W.codeIn K cd_wst "World.__str__" = true) (k_wst : PySem.W.keepIn K (.ref g_wst) = true)
    (i_wre : PySem.W.findIn K (.ref CW) "__repr__" = some (some (.ref g_wre)))
    (l_wre : K.lookup g_wre = some ⟨oc_wre, od_wre, .func (PySem.W.fnOf "__repr__" "World.__repr__" (defArgs sWRepr) (defBody sWRepr) (defScope sWRepr) .none kV_wre dc_wre pm_wre an_wre cd_wre ct_wre), sl_wre⟩) (c_wre : PySem.W.codeIn K cd_wre "World.__repr__" = true) (k_wre : PySem.W.keepIn K (.ref g_wre) = true)
    (i_rin : PySem.W.findIn K (.ref CR) "__init__" = some (some (.ref g_rin)))
    (l_rin : K.lookup g_rin = some ⟨oc_rin, od_rin, .func (PySem.W.fnOf "__init__" "Ratio.__init__" (defArgs sRInit) (defBody sRInit) (defScope sRInit) (.ref T_rin) kV_rin dc_rin pm_rin an_rin cd_rin ct_rin), sl_rin⟩) (c_rin : PySem.W.codeIn K cd_rin "Ratio.__init__" = true) (k_rin : PySem.W.keepIn K (.ref g_rin) = true)
    (t_rin : K.lookup T_rin = some ⟨oT_rin, oD_rin, .seq [Value.int 1 tk_rin].toArray nT_rin, sT_rin⟩)
    (i_uin : PySem.W.findIn K (.ref CU) "__init__" = some (some (.ref g_uin)))
    (l_uin : K.lookup g_uin = some ⟨oc_uin, od_uin, .func (PySem.W.fnOf "__init__" "Unseen.__init__" (defArgs sUInit) (defBody sUInit) (defScope sUInit) (.ref T_uin) (.ref DU) dc_uin pm_uin an_uin cd_uin ct_uin), sl_uin⟩) (c_uin : PySem.W.codeIn K cd_uin "Unseen.__init__" = true) (k_uin : PySem.W.keepIn K (.ref g_uin) = true)
    (t_uin : K.lookup T_uin = some ⟨oT_uin, oD_uin, .seq [Value.int 1 tk_uin].toArray nT_uin, sT_uin⟩)
    (d1 : PySem.W.nsIn K DU "mirror" = some (some .none)) (d2 : PySem.W.nsIn K DU "centre" = some (some (.int 0 tk0))) (d3 : PySem.W.nsIn K DU "degree" = some (some .none)) (d4 : PySem.W.nsIn K DU "swap" = some (some .none))
    (aLt : PySem.W.nsIn K mainGlobals "LETTERS" = some (some (.str "abcdefghijklmnopqrstuvwxyz" tL))) (aMl : PySem.W.nsIn K mainGlobals "MOST_LETTERS" = some (some (.int 6 tM))) (aMd : PySem.W.nsIn K mainGlobals "MOST_DEGREE" = some (some (.int 3 tD))) (aCb : PySem.W.nsIn K mainGlobals "CHUNK_BASE" = some (some (.int 1000000000000000000000000000000000000000000000000000000000000 tC))) (aGc : PySem.W.nsIn K mainGlobals "gcd" = some (some (.builtin "math.gcd")))
    (aK : PySem.W.nsIn K mainGlobals "KEPT_WORDS" = some (some (.ref pK))) (lK : K.lookup pK = some ⟨.type "tuple", ocK, .seq [Value.str "fn" tK0, Value.str "let" tK1, Value.str "slope" tK2].toArray nnK, ssK⟩)
    (aM : PySem.W.nsIn K mainGlobals "MIRRORS" = some (some (.ref pM))) (lM : K.lookup pM = some ⟨.type "tuple", ocM, .seq [Value.str "even" tM0, Value.str "odd" tM1].toArray nnM, ssM⟩)
    (aS : PySem.W.nsIn K mainGlobals "SWAPS" = some (some (.ref pS))) (lS : K.lookup pS = some ⟨.type "tuple", ocS, .seq [Value.str "same" tS0, Value.str "minus" tS1].toArray nnS, ssS⟩)
    (z_isin : PySem.W.nsIn K mainGlobals "isinstance" = some none)
    (z_tstr : PySem.W.nsIn K mainGlobals "str" = some none)
    (z_tint : PySem.W.nsIn K mainGlobals "int" = some none)
    (z_tlist : PySem.W.nsIn K mainGlobals "list" = some none)
    (z_ttuple : PySem.W.nsIn K mainGlobals "tuple" = some none)
    (z_tbool : PySem.W.nsIn K mainGlobals "bool" = some none)
    (z_fabs : PySem.W.nsIn K mainGlobals "abs" = some none)
    (z_frepr : PySem.W.nsIn K mainGlobals "repr" = some none)
    (z_flen : PySem.W.nsIn K mainGlobals "len" = some none)
    (z_frange : PySem.W.nsIn K mainGlobals "range" = some none)
    (z_fzip : PySem.W.nsIn K mainGlobals "zip" = some none)
    (z_fall : PySem.W.nsIn K mainGlobals "all" = some none)
    (z_tve : PySem.W.nsIn K mainGlobals "ValueError" = some none)
    (z_tle : PySem.W.nsIn K mainGlobals "LookupError" = some none)
    (z_tset : PySem.W.nsIn K mainGlobals "set" = some none)
    (z_fsort : PySem.W.nsIn K mainGlobals "sorted" = some none)
    (hR : chR K CR g_rin g_req g_rst = true) (hU : chU K CU g_uin g_ueq g_ust = true) (hW : chW K CW g_win g_wns g_wfu g_wfa g_wwi g_wco g_wle g_weq g_wst g_wre = true) (hG : chG K = true) :
    ∃ fd : FuncData, (∀ (s : Shared) (v : Value), BindsTo s fd ⟨[v], []⟩ [("_law_script", v)]) ∧ ∀ base : Heap, K.In base → base.Ns mainGlobals mg → FnOk l.prog w K mg base CX0 10 fa fd ["_law_script"] (spLaw K) := by
  have e := hfa.symm.trans (PySem.W.mg_of X G a_law)
  cases e
  have gl : ∀ x v, PySem.W.nsIn K mainGlobals x = some (some v) → mg x = some v := fun x v z => PySem.W.mg_of X G z
  have B : Bn mg := ⟨PySem.W.mg_none_of X G z_isin, PySem.W.mg_none_of X G z_tstr, PySem.W.mg_none_of X G z_tint, PySem.W.mg_none_of X G z_tlist, PySem.W.mg_none_of X G z_ttuple, PySem.W.mg_none_of X G z_tbool, PySem.W.mg_none_of X G z_fabs, PySem.W.mg_none_of X G z_frepr, PySem.W.mg_none_of X G z_flen, PySem.W.mg_none_of X G z_frange, PySem.W.mg_none_of X G z_fzip, PySem.W.mg_none_of X G z_fall, PySem.W.mg_none_of X G z_tve, PySem.W.mg_none_of X G z_tle⟩
  have B2 : Bm mg := ⟨B, PySem.W.mg_none_of X G z_tset, PySem.W.mg_none_of X G z_fsort⟩
  obtain ⟨RTT, MkR, MEq, MSt, nfi⟩ := rt_of hR hG (gl _ _ aR)
  obtain ⟨UTT, MkU, UEq, USt, UNe, UFm⟩ := ut_of hU hG (gl _ _ aU)
  obtain ⟨WTT, MkW, MIn, MFu, MFa, MWi, MCo, MLe, MEw, MSw, MRw, NEw⟩ := wt_of hW hG (gl _ _ aW)
  have GCC : GC K mg pK pM pS := ⟨⟨_, gl _ _ aLt⟩, ⟨_, gl _ _ aMl⟩, ⟨_, gl _ _ aMd⟩, gl _ _ aK, fun H => .inr ⟨_, _, _, lK, rfl, rfl, (by show 3 ≤ sizeLine; decide), (.cons ⟨_, rfl⟩ (.cons ⟨_, rfl⟩ (.cons ⟨_, rfl⟩ .nil)))⟩, gl _ _ aM, fun H => .inr ⟨_, _, _, lM, rfl, rfl, (by show 2 ≤ sizeLine; decide), (.cons ⟨_, rfl⟩ (.cons ⟨_, rfl⟩ .nil))⟩, gl _ _ aS, fun H => .inr ⟨_, _, _, lS, rfl, rfl, (by show 2 ≤ sizeLine; decide), (.cons ⟨_, rfl⟩ (.cons ⟨_, rfl⟩ .nil))⟩⟩
  have F_isi := fun_mk (st := sIsInt) l_isi c_isi k_isi
  have D_isi : Dn K mg "is_integer" g_isi := ⟨gl _ _ a_isi, k_isi⟩
  have F_isn := fun_mk (st := sIsNum) l_isn c_isn k_isn
  have D_isn : Dn K mg "is_number" g_isn := ⟨gl _ _ a_isn, k_isn⟩
  have F_rof := fun_mk (st := sRatioOf) l_rof c_rof k_rof
  have D_rof : Dn K mg "ratio_of" g_rof := ⟨gl _ _ a_rof, k_rof⟩
  have F_itx := fun_mk (st := sIntText) l_itx c_itx k_itx
  have D_itx : Dn K mg "integer_text" g_itx := ⟨gl _ _ a_itx, k_itx⟩
  have F_rtx := fun_mk (st := sRatText) l_rtx c_rtx k_rtx
  have D_rtx : Dn K mg "ratio_text" g_rtx := ⟨gl _ _ a_rtx, k_rtx⟩
  have F_nam := fun_mk (st := sIsName) l_nam c_nam k_nam
  have D_nam : Dn K mg "is_name" g_nam := ⟨gl _ _ a_nam, k_nam⟩
  have F_chn := fun_mk (st := sChkN) l_chn c_chn k_chn
  have D_chn : Dn K mg "check_names" g_chn := ⟨gl _ _ a_chn, k_chn⟩
  have F_wtx := fun_mk (st := sWText) l_wtx c_wtx k_wtx
  have D_wtx : Dn K mg "world_text" g_wtx := ⟨gl _ _ a_wtx, k_wtx⟩
  have F_cho := fun_mk (st := sChoice) l_cho c_cho k_cho
  have D_cho : Dn K mg "is_choice" g_cho := ⟨gl _ _ a_cho, k_cho⟩
  have F_who := fun_mk (st := sWhole) l_who c_who k_who
  have D_who : Dn K mg "is_whole_within" g_who := ⟨gl _ _ a_who, k_who⟩
  have F_mir := fun_mk (st := sMirror) l_mir c_mir k_mir
  have D_mir : Dn K mg "is_mirror" g_mir := ⟨gl _ _ a_mir, k_mir⟩
  have F_cen := fun_mk (st := sCentre) l_cen c_cen k_cen
  have D_cen : Dn K mg "is_centre" g_cen := ⟨gl _ _ a_cen, k_cen⟩
  have F_deg := fun_mk (st := sDegree) l_deg c_deg k_deg
  have D_deg : Dn K mg "is_degree" g_deg := ⟨gl _ _ a_deg, k_deg⟩
  have F_swp := fun_mk (st := sSwap) l_swp c_swp k_swp
  have D_swp : Dn K mg "is_swap" g_swp := ⟨gl _ _ a_swp, k_swp⟩
  have F_chk := fun_mk (st := sCheck) l_chk c_chk k_chk
  have D_chk : Dn K mg "check_facts" g_chk := ⟨gl _ _ a_chk, k_chk⟩
  have F_ftx := fun_mk (st := sFText) l_ftx c_ftx k_ftx
  have D_ftx : Dn K mg "facts_text" g_ftx := ⟨gl _ _ a_ftx, k_ftx⟩
  have F_bag := fun_mk (st := sBag) l_bag c_bag k_bag
  have D_bag : Dn K mg "_law_bag" g_bag := ⟨gl _ _ a_bag, k_bag⟩
  have F_pul := fun_mk (st := sPull) l_pul c_pul k_pul
  have D_pul : Dn K mg "_law_pull" g_pul := ⟨gl _ _ a_pul, k_pul⟩
  have F_lof := fun_mk (st := sOf) l_lof c_lof k_lof
  have D_lof : Dn K mg "_law_of" g_lof := ⟨gl _ _ a_lof, k_lof⟩
  have F_sam := fun_mk (st := sSame) l_sam c_sam k_sam
  have D_sam : Dn K mg "_law_same" g_sam := ⟨gl _ _ a_sam, k_sam⟩
  have F_lna := fun_mk (st := sName) l_lna c_lna k_lna
  have D_lna : Dn K mg "_law_name" g_lna := ⟨gl _ _ a_lna, k_lna⟩
  have F_low := fun_mk (st := sLow) l_low c_low k_low
  have D_low : Dn K mg "_law_low" g_low := ⟨gl _ _ a_low, k_low⟩
  have F_lnm := fun_mk (st := sNames) l_lnm c_lnm k_lnm
  have D_lnm : Dn K mg "_law_names" g_lnm := ⟨gl _ _ a_lnm, k_lnm⟩
  have F_lra := fun_mk (st := sRatio) l_lra c_lra k_lra
  have D_lra : Dn K mg "_law_ratio" g_lra := ⟨gl _ _ a_lra, k_lra⟩
  have F_lfa := fun_mk (st := sFacts) l_lfa c_lfa k_lfa
  have D_lfa : Dn K mg "_law_facts" g_lfa := ⟨gl _ _ a_lfa, k_lfa⟩
  have F_lun := fun_mk (st := sUnseen) l_lun c_lun k_lun
  have D_lun : Dn K mg "_law_unseen" g_lun := ⟨gl _ _ a_lun, k_lun⟩
  have F_law := fun_mk (st := sLaw) l_law c_law k_law
  have F_req := fun_mk (st := sREq) l_req c_req k_req
  have F_rst := fun_mk (st := sRStr) l_rst c_rst k_rst
  have F_ueq := fun_mk (st := sUEq) l_ueq c_ueq k_ueq
  have F_ust := fun_mk (st := sUStr) l_ust c_ust k_ust
  have F_win := fun_mk (st := sWInit) l_win c_win k_win
  have F_wns := fun_mk (st := sWIns) l_wns c_wns k_wns
  have F_wfu := fun_mk (st := sWFuns) l_wfu c_wfu k_wfu
  have F_wfa := fun_mk (st := sWFact) l_wfa c_wfa k_wfa
  have F_wwi := fun_mk (st := sWWith) l_wwi c_wwi k_wwi
  have F_wco := fun_mk (st := sWCont) l_wco c_wco k_wco
  have F_wle := fun_mk (st := sWLen) l_wle c_wle k_wle
  have F_weq := fun_mk (st := sWEq) l_weq c_weq k_weq
  have F_wst := fun_mk (st := sWStr) l_wst c_wst k_wst
  have F_wre := fun_mk (st := sWRepr) l_wre c_wre k_wre
  have b_isi := F_isi.binds (ps := ["value"]) fun _ _ _ _ _ _ us hl => match us, hl with | [_], _ => rfl
  have b_isn := F_isn.binds (ps := ["value"]) fun _ _ _ _ _ _ us hl => match us, hl with | [_], _ => rfl
  have b_rof := F_rof.binds (ps := ["number"]) fun _ _ _ _ _ _ us hl => match us, hl with | [_], _ => rfl
  have b_itx := F_itx.binds (ps := ["number"]) fun _ _ _ _ _ _ us hl => match us, hl with | [_], _ => rfl
  have b_rtx := F_rtx.binds (ps := ["ratio"]) fun _ _ _ _ _ _ us hl => match us, hl with | [_], _ => rfl
  have b_nam := F_nam.binds (ps := ["value"]) fun _ _ _ _ _ _ us hl => match us, hl with | [_], _ => rfl
  have b_chn := F_chn.binds (ps := ["names"]) fun _ _ _ _ _ _ us hl => match us, hl with | [_], _ => rfl
  have b_wtx := F_wtx.binds (ps := ["names", "facts"]) fun _ _ _ _ _ _ us hl => match us, hl with | [_, _], _ => rfl
  have b_cho := F_cho.binds (ps := ["value", "words"]) fun _ _ _ _ _ _ us hl => match us, hl with | [_, _], _ => rfl
  have b_who := F_who.binds (ps := ["value", "low", "high"]) fun _ _ _ _ _ _ us hl => match us, hl with | [_, _, _], _ => rfl
  have b_mir := F_mir.binds (ps := ["arity", "mirror"]) fun _ _ _ _ _ _ us hl => match us, hl with | [_, _], _ => rfl
  have b_cen := F_cen.binds (ps := ["mirror", "centre"]) fun _ _ _ _ _ _ us hl => match us, hl with | [_, _], _ => rfl
  have b_deg := F_deg.binds (ps := ["arity", "degree"]) fun _ _ _ _ _ _ us hl => match us, hl with | [_, _], _ => rfl
  have b_swp := F_swp.binds (ps := ["arity", "swap"]) fun _ _ _ _ _ _ us hl => match us, hl with | [_, _], _ => rfl
  have b_chk := F_chk.binds (ps := ["arity", "mirror", "centre", "degree", "swap"]) fun _ _ _ _ _ _ us hl => match us, hl with | [_, _, _, _, _], _ => rfl
  have b_ftx := F_ftx.binds (ps := ["arity", "mirror", "centre", "degree", "swap"]) fun _ _ _ _ _ _ us hl => match us, hl with | [_, _, _, _, _], _ => rfl
  have b_bag := F_bag.binds (ps := ["_law_script"]) fun _ _ _ _ _ _ us hl => match us, hl with | [_], _ => rfl
  have b_pul := F_pul.binds (ps := ["_law_bag_here", "_law_many"]) fun _ _ _ _ _ _ us hl => match us, hl with | [_, _], _ => rfl
  have b_lof := F_lof.binds (ps := ["_law_bag_here", "_law_things"]) fun _ _ _ _ _ _ us hl => match us, hl with | [_, _], _ => rfl
  have b_sam := F_sam.binds (ps := ["_law_found", "_law_due"]) fun _ _ _ _ _ _ us hl => match us, hl with | [_, _], _ => rfl
  have b_lna := F_lna.binds (ps := ["_law_bag_here"]) fun _ _ _ _ _ _ us hl => match us, hl with | [_], _ => rfl
  have b_low := F_low.binds (ps := ["_law_top", "_law_bottom"]) fun _ _ _ _ _ _ us hl => match us, hl with | [_, _], _ => rfl
  have b_lnm := F_lnm.binds (ps := ["_law_bag_here", "_law_many"]) fun _ _ _ _ _ _ us hl => match us, hl with | [_, _], _ => rfl
  have b_lra := F_lra.binds (ps := ["_law_pair"]) fun _ _ _ _ _ _ us hl => match us, hl with | [_], _ => rfl
  have b_lfa := F_lfa.binds (ps := ["_law_bag_here", "_law_degrees"]) fun _ _ _ _ _ _ us hl => match us, hl with | [_, _], _ => rfl
  have b_lun := F_lun.binds (ps := ["_law_fact"]) fun _ _ _ _ _ _ us hl => match us, hl with | [_], _ => rfl
  have b_req := F_req.binds (ps := ["self", "other"]) fun _ _ _ _ _ _ us hl => match us, hl with | [_, _], _ => rfl
  have b_rst := F_rst.binds (ps := ["self"]) fun _ _ _ _ _ _ us hl => match us, hl with | [_], _ => rfl
  have b_ueq := F_ueq.binds (ps := ["self", "other"]) fun _ _ _ _ _ _ us hl => match us, hl with | [_, _], _ => rfl
  have b_ust := F_ust.binds (ps := ["self"]) fun _ _ _ _ _ _ us hl => match us, hl with | [_], _ => rfl
  have b_win := F_win.binds (ps := ["self", "inputs", "functions"]) fun _ _ _ _ _ _ us hl => match us, hl with | [_, _, _], _ => rfl
  have b_wns := F_wns.binds (ps := ["self"]) fun _ _ _ _ _ _ us hl => match us, hl with | [_], _ => rfl
  have b_wfu := F_wfu.binds (ps := ["self"]) fun _ _ _ _ _ _ us hl => match us, hl with | [_], _ => rfl
  have b_wfa := F_wfa.binds (ps := ["self", "name"]) fun _ _ _ _ _ _ us hl => match us, hl with | [_, _], _ => rfl
  have b_wwi := F_wwi.binds (ps := ["self", "name", "fact"]) fun _ _ _ _ _ _ us hl => match us, hl with | [_, _, _], _ => rfl
  have b_wco := F_wco.binds (ps := ["self", "name"]) fun _ _ _ _ _ _ us hl => match us, hl with | [_, _], _ => rfl
  have b_wle := F_wle.binds (ps := ["self"]) fun _ _ _ _ _ _ us hl => match us, hl with | [_], _ => rfl
  have b_weq := F_weq.binds (ps := ["self", "other"]) fun _ _ _ _ _ _ us hl => match us, hl with | [_, _], _ => rfl
  have b_wst := F_wst.binds (ps := ["self"]) fun _ _ _ _ _ _ us hl => match us, hl with | [_], _ => rfl
  have b_wre := F_wre.binds (ps := ["self"]) fun _ _ _ _ _ _ us hl => match us, hl with | [_], _ => rfl
  have I_r : FunD K "__init__" "Ratio.__init__" (defArgs sRInit) (defBody sRInit) (defScope sRInit) [.int 1] [] g_rin (PySem.W.fnOf "__init__" "Ratio.__init__" (defArgs sRInit) (defBody sRInit) (defScope sRInit) (.ref T_rin) kV_rin dc_rin pm_rin an_rin cd_rin ct_rin) :=
    ⟨⟨_, _, _, _, _, _, _, _, _, _, rfl, l_rin, c_rin, .inr ⟨by simp, T_rin, _, [Value.int 1 tk_rin], _, rfl, t_rin, rfl, .cons ⟨_, rfl⟩ .nil⟩, .inl rfl⟩, k_rin⟩
  have I_u : FunD K "__init__" "Unseen.__init__" (defArgs sUInit) (defBody sUInit) (defScope sUInit) [.int 1] kwU g_uin (PySem.W.fnOf "__init__" "Unseen.__init__" (defArgs sUInit) (defBody sUInit) (defScope sUInit) (.ref T_uin) (.ref DU) dc_uin pm_uin an_uin cd_uin ct_uin) :=
    ⟨⟨_, _, _, _, _, _, _, _, _, _, rfl, l_uin, c_uin, .inr ⟨by simp, T_uin, _, [Value.int 1 tk_uin], _, rfl, t_uin, rfl, .cons ⟨_, rfl⟩ .nil⟩, .inr ⟨DU, rfl, fun q hq => by
      simp only [kwU, List.mem_cons, List.mem_nil_iff, or_false] at hq
      rcases hq with rfl | rfl | rfl | rfl
      · exact ⟨_, d1, rfl⟩
      · exact ⟨_, d2, ⟨_, rfl⟩⟩
      · exact ⟨_, d3, rfl⟩
      · exact ⟨_, d4, rfl⟩⟩⟩, k_uin⟩
  obtain ⟨dR, vR, bR⟩ := r_binds2 I_r
  have bR3 := r_binds3 I_r
  obtain ⟨dU0, vU0, bU0⟩ := u_binds0 I_u
  obtain ⟨it4, kb4⟩ := u_kb4 I_u
  obtain ⟨it2, mv2, kb2⟩ := u_kb2 I_u
  obtain ⟨it0, mv0, kb0⟩ := u_kb0 I_u
  have kWi : KBinds K (PySem.W.fnOf "with_fact" "World.with_fact" (defArgs sWWith) (defBody sWWith) (defScope sWWith) .none kV_wwi dc_wwi pm_wwi an_wwi cd_wwi ct_wwi) ["self", "name", "fact"] ["fact", "name"] g12 g12 := kb12 fun s a b c => .of_eq rfl
  refine ⟨PySem.W.fnOf "law" "law" (defArgs sLaw) (defBody sLaw) (defScope sLaw) .none kV_law dc_law pm_law an_law cd_law ct_law, fun s v => .of_eq rfl, fun base _ _ => ?_⟩
  have G_isi : FnOk l.prog w K mg base CX0 1 g_isi _ ["value"] (spIsInt K) := ok_isInt F_isi B
  have G_isn : FnOk l.prog w K mg base CX0 2 g_isn _ ["value"] (spIsNum K CR) := ok_isNum F_isn B RTT D_isi G_isi b_isi
  have G_rin : FnOk l.prog w K mg base CX0 2 g_rin _ ["self", "top", "bottom"] (spRInit CR) := ok_rinit I_r RTT (gl _ _ aGc) D_isi G_isi b_isi
  have G_rof : FnOk l.prog w K mg base CX0 4 g_rof _ ["number"] (spRatioOf CR) := ok_ratioOf F_rof B RTT MkR G_rin vR bR
  have G_itx : FnOk l.prog w K mg base CX0 1 g_itx _ ["number"] spIntText := ok_intText F_itx B ⟨_, gl _ _ aCb⟩
  have G_rtx : FnOk l.prog w K mg base CX0 2 g_rtx _ ["ratio"] (spRatText CR) := ok_ratText F_rtx RTT D_itx G_itx b_itx
  have G_rst : FnOk l.prog w K mg base CX0 3 g_rst _ ["self"] (spRatText CR) := ok_rstr F_rst D_rtx G_rtx b_rtx
  have G_req : FnOk l.prog w K mg base CX0 2 g_req _ ["self", "other"] (spREq CR) := ok_req F_req B RTT D_isi G_isi b_isi
  have G_nam : FnOk l.prog w K mg base CX0 1 g_nam _ ["value"] (spIsName K) := ok_isName F_nam B GCC
  have G_cho : FnOk l.prog w K mg base CX0 1 g_cho _ ["value", "words"] (spChoice K) := ok_choice F_cho B
  have G_who : FnOk l.prog w K mg base CX0 2 g_who _ ["value", "low", "high"] spWhole := ok_whole F_who D_isi G_isi b_isi
  have G_mir : FnOk l.prog w K mg base CX0 2 g_mir _ ["arity", "mirror"] spMirror := ok_mirror F_mir GCC D_cho G_cho b_cho
  have G_swp : FnOk l.prog w K mg base CX0 2 g_swp _ ["arity", "swap"] spSwap := ok_swap F_swp GCC D_cho G_cho b_cho
  have G_deg : FnOk l.prog w K mg base CX0 3 g_deg _ ["arity", "degree"] spDegree := ok_degree F_deg GCC D_who G_who b_who
  have G_cen : FnOk l.prog w K mg base CX0 3 g_cen _ ["mirror", "centre"] (spCentre CR) := ok_centre F_cen RTT nfi MEq G_req b_req D_isn G_isn b_isn
  have G_chk : FnOk l.prog w K mg base CX0 4 g_chk _ ["arity", "mirror", "centre", "degree", "swap"] (spCheck CR) := ok_check F_chk D_who G_who b_who D_mir G_mir b_mir D_cen G_cen b_cen D_deg G_deg b_deg D_swp G_swp b_swp
  have G_ftx : FnOk l.prog w K mg base CX0 6 g_ftx _ ["arity", "mirror", "centre", "degree", "swap"] (spFText CR) := ok_fText F_ftx B MSt G_rst b_rst
  have G_uin : FnOk l.prog w K mg base CX0 7 g_uin _ pU (spUInit CR CU) := ok_uinit I_u RTT UTT D_chk G_chk b_chk D_rof G_rof b_rof D_ftx G_ftx b_ftx
  have G_ueq : FnOk l.prog w K mg base CX0 1 g_ueq _ ["self", "other"] (spUEq CR CU) := ok_ueq F_ueq B UTT
  have G_ust : FnOk l.prog w K mg base CX0 1 g_ust _ ["self"] (spUStr CR CU) := ok_ustr F_ust UTT
  have G_bag : FnOk l.prog w K mg base CX0 1 g_bag _ ["_law_script"] (spBag K) := ok_bag F_bag B
  have G_pul : FnOk l.prog w K mg base CX0 1 g_pul _ ["_law_bag_here", "_law_many"] spPull := ok_pull F_pul B
  have G_lof : FnOk l.prog w K mg base CX0 2 g_lof _ ["_law_bag_here", "_law_things"] spOf := ok_of F_lof B D_pul G_pul b_pul
  have S0 : FnOk l.prog w K mg base CX0 0 g_sam (PySem.W.fnOf "_law_same" "_law_same" (defArgs sSame) (defBody sSame) (defScope sSame) .none kV_sam dc_sam pm_sam an_sam cd_sam ct_sam) ["_law_found", "_law_due"] (spSame 0) := same_zero
  have S1 := ok_same_step F_sam B D_sam S0 b_sam
  have S2 := ok_same_step F_sam B D_sam S1 b_sam
  have S3 := ok_same_step F_sam B D_sam S2 b_sam
  have S4 := ok_same_step F_sam B D_sam S3 b_sam
  have G_lna : FnOk l.prog w K mg base CX0 2 g_lna _ ["_law_bag_here"] spName := ok_name F_lna B D_pul G_pul b_pul
  have G_low : FnOk l.prog w K mg base CX0 1 g_low _ ["_law_top", "_law_bottom"] spLow := ok_low F_low B
  have G_lra : FnOk l.prog w K mg base CX0 4 g_lra _ ["_law_pair"] (spMkRatio CR) := ok_ratio (ds := []) F_lra RTT MkR G_rin bR3
  have G_lfa : FnOk l.prog w K mg base CX0 3 g_lfa _ ["_law_bag_here", "_law_degrees"] spFacts := ok_facts F_lfa B D_pul G_pul b_pul D_lof G_lof b_lof D_low G_low b_low
  have G_lun : FnOk l.prog w K mg base CX0 9 g_lun _ ["_law_fact"] (spMkUnseen CR CU) := ok_unseen F_lun UTT D_lra G_lra b_lra MkU G_uin kb4
  have G_chn : FnOk l.prog w K mg base CX0 2 g_chn _ ["names"] spChkN := ok_chkN F_chn B2 D_nam G_nam b_nam
  have G_wtx : FnOk l.prog w K mg base CX0 3 g_wtx _ ["names", "facts"] (spWText CR CU) := ok_wText F_wtx USt UFm G_ust b_ust
  have G_win : FnOk l.prog w K mg base CX0 4 g_win _ ["self", "inputs", "functions"] (spWInit CR CU CW) := ok_winit F_win B2 WTT D_chn G_chn b_chn D_wtx G_wtx b_wtx
  have G_wns : FnOk l.prog w K mg base CX0 1 g_wns _ ["self"] (spWIns CR CU CW) := ok_wins F_wns B WTT
  have G_wfu : FnOk l.prog w K mg base CX0 1 g_wfu _ ["self"] (spWFuns CR CU CW) := ok_wfuns F_wfu B WTT
  have G_wfa : FnOk l.prog w K mg base CX0 1 g_wfa _ ["self", "name"] (spWFact CR CU CW) := ok_wfact F_wfa B WTT
  have G_wwi : FnOk l.prog w K mg base CX0 6 g_wwi _ ["self", "name", "fact"] (spWWith CR CU CW) := ok_wwith F_wwi UTT WTT MFa G_wfa b_wfa MkW G_win b_win
  have G_wco : FnOk l.prog w K mg base CX0 1 g_wco _ ["self", "name"] (spWCont K CR CU CW) := ok_wcont F_wco B WTT
  have G_wle : FnOk l.prog w K mg base CX0 1 g_wle _ ["self"] (spWLen CR CU CW) := ok_wlen F_wle B WTT
  have G_weq : FnOk l.prog w K mg base CX0 1 g_weq _ ["self", "other"] (spWEq CR CU CW) := ok_weq F_weq B WTT
  have G_wst : FnOk l.prog w K mg base CX0 1 g_wst _ ["self"] (spWStr CR CU CW) := ok_wstr F_wst WTT
  have G_wre : FnOk l.prog w K mg base CX0 1 g_wre _ ["self"] (spWRepr CR CU CW) := ok_wrepr F_wre WTT
  have G_lnm : FnOk l.prog w K mg base CX0 3 g_lnm _ ["_law_bag_here", "_law_many"] spNames := ok_names F_lnm B D_lna G_lna b_lna
  exact ok_law F_law B2 UTT WTT D_bag G_bag b_bag D_pul G_pul b_pul D_lof G_lof b_lof D_sam S4 b_sam D_lnm G_lnm b_lnm D_lfa G_lfa b_lfa D_lun G_lun b_lun MkU G_uin bU0 vU0 kb2 kb0 UEq UNe G_ueq b_ueq MkW G_win b_win MIn G_wns b_wns MFu G_wfu b_wfu MFa G_wfa b_wfa MWi G_wwi kWi MCo G_wco b_wco MLe G_wle b_wle MEw NEw G_weq b_weq MSw G_wst b_wst MRw G_wre b_wre
end K08

set_option Elab.async false
open PySem PySem.W PyProof.Rows
set_option maxRecDepth 100000 in
set_option maxHeartbeats 0 in
theorem PySem.Challenge.cw_unseenslopes_k08_worlds_told_holds : PySem.Challenge.rw_unseenslopes_k08_worlds_told.Holds := by
  w_on; o_law; k_head; (case hw => w_witness2)
  k_fill
  refine L2.walk_of (l := PySem.Challenge.rw_unseenslopes_k08_worlds_told) (n := 63) (k := 10) (x := "_law_script") (CX := fun _ => L2.CX0) (sp := fun w => K08.spLaw _) rfl (by decide) rfl ⟨rfl, by decide, by decide⟩ (fun w h Y => PySem.W.kIn_of Y) ?F (fun _ _ a ns hl _ hS => ⟨a, ns, rfl, hS, hl, fun _ => rfl⟩) fun _ _ _ _ _ z => z
  case F =>
    intro w mg fa h KX G hmg
    refine' K08.all_mk KX G hmg ?aR ?aU ?aW ?a_isi ?l_isi ?c_isi ?k_isi ?a_isn ?l_isn ?c_isn ?k_isn ?a_rof ?l_rof ?c_rof ?k_rof ?a_itx ?l_itx ?c_itx ?k_itx ?a_rtx ?l_rtx ?c_rtx ?k_rtx ?a_nam ?l_nam ?c_nam ?k_nam ?a_chn ?l_chn ?c_chn ?k_chn ?a_wtx ?l_wtx ?c_wtx ?k_wtx ?a_cho ?l_cho ?c_cho ?k_cho ?a_who ?l_who ?c_who ?k_who ?a_mir ?l_mir ?c_mir ?k_mir ?a_cen ?l_cen ?c_cen ?k_cen ?a_deg ?l_deg ?c_deg ?k_deg ?a_swp ?l_swp ?c_swp ?k_swp ?a_chk ?l_chk ?c_chk ?k_chk ?a_ftx ?l_ftx ?c_ftx ?k_ftx ?a_bag ?l_bag ?c_bag ?k_bag ?a_pul ?l_pul ?c_pul ?k_pul ?a_lof ?l_lof ?c_lof ?k_lof ?a_sam ?l_sam ?c_sam ?k_sam ?a_lna ?l_lna ?c_lna ?k_lna ?a_low ?l_low ?c_low ?k_low ?a_lnm ?l_lnm ?c_lnm ?k_lnm ?a_lra ?l_lra ?c_lra ?k_lra ?a_lfa ?l_lfa ?c_lfa ?k_lfa ?a_lun ?l_lun ?c_lun ?k_lun ?a_law ?l_law ?c_law ?k_law ?i_req ?l_req ?c_req ?k_req ?i_rst ?l_rst ?c_rst ?k_rst ?i_ueq ?l_ueq ?c_ueq ?k_ueq ?i_ust ?l_ust ?c_ust ?k_ust ?i_win ?l_win ?c_win ?k_win ?i_wns ?l_wns ?c_wns ?k_wns ?i_wfu ?l_wfu ?c_wfu ?k_wfu ?i_wfa ?l_wfa ?c_wfa ?k_wfa ?i_wwi ?l_wwi ?c_wwi ?k_wwi ?i_wco ?l_wco ?c_wco ?k_wco ?i_wle ?l_wle ?c_wle ?k_wle ?i_weq ?l_weq ?c_weq ?k_weq ?i_wst ?l_wst ?c_wst ?k_wst ?i_wre ?l_wre ?c_wre ?k_wre ?i_rin ?l_rin ?c_rin ?k_rin ?t_rin ?i_uin ?l_uin ?c_uin ?k_uin ?t_uin ?d1 ?d2 ?d3 ?d4 ?aLt ?aMl ?aMd ?aCb ?aGc ?aK ?lK ?aM ?lM ?aS ?lS ?z_isin ?z_tstr ?z_tint ?z_tlist ?z_ttuple ?z_tbool ?z_fabs ?z_frepr ?z_flen ?z_frange ?z_fzip ?z_fall ?z_tve ?z_tle ?z_tset ?z_fsort ?hR ?hU ?hW ?hG
    (case aR => k_is); (case aU => k_is); (case aW => k_is); (case a_isi => k_is); (case l_isi => k_is); (case c_isi => k_is); (case k_isi => k_is); (case a_isn => k_is); (case l_isn => k_is); (case c_isn => k_is); (case k_isn => k_is); (case a_rof => k_is); (case l_rof => k_is); (case c_rof => k_is); (case k_rof => k_is); (case a_itx => k_is); (case l_itx => k_is); (case c_itx => k_is); (case k_itx => k_is); (case a_rtx => k_is); (case l_rtx => k_is); (case c_rtx => k_is); (case k_rtx => k_is); (case a_nam => k_is); (case l_nam => k_is); (case c_nam => k_is); (case k_nam => k_is); (case a_chn => k_is); (case l_chn => k_is); (case c_chn => k_is); (case k_chn => k_is); (case a_wtx => k_is); (case l_wtx => k_is); (case c_wtx => k_is); (case k_wtx => k_is); (case a_cho => k_is); (case l_cho => k_is); (case c_cho => k_is); (case k_cho => k_is); (case a_who => k_is); (case l_who => k_is); (case c_who => k_is); (case k_who => k_is); (case a_mir => k_is); (case l_mir => k_is); (case c_mir => k_is); (case k_mir => k_is); (case a_cen => k_is); (case l_cen => k_is); (case c_cen => k_is); (case k_cen => k_is); (case a_deg => k_is); (case l_deg => k_is); (case c_deg => k_is); (case k_deg => k_is); (case a_swp => k_is); (case l_swp => k_is); (case c_swp => k_is); (case k_swp => k_is); (case a_chk => k_is); (case l_chk => k_is); (case c_chk => k_is); (case k_chk => k_is); (case a_ftx => k_is); (case l_ftx => k_is); (case c_ftx => k_is); (case k_ftx => k_is); (case a_bag => k_is); (case l_bag => k_is); (case c_bag => k_is); (case k_bag => k_is); (case a_pul => k_is); (case l_pul => k_is); (case c_pul => k_is); (case k_pul => k_is); (case a_lof => k_is); (case l_lof => k_is); (case c_lof => k_is); (case k_lof => k_is); (case a_sam => k_is); (case l_sam => k_is); (case c_sam => k_is); (case k_sam => k_is); (case a_lna => k_is); (case l_lna => k_is); (case c_lna => k_is); (case k_lna => k_is); (case a_low => k_is); (case l_low => k_is); (case c_low => k_is); (case k_low => k_is); (case a_lnm => k_is); (case l_lnm => k_is); (case c_lnm => k_is); (case k_lnm => k_is); (case a_lra => k_is); (case l_lra => k_is); (case c_lra => k_is); (case k_lra => k_is); (case a_lfa => k_is); (case l_lfa => k_is); (case c_lfa => k_is); (case k_lfa => k_is); (case a_lun => k_is); (case l_lun => k_is); (case c_lun => k_is); (case k_lun => k_is); (case a_law => k_is); (case l_law => k_is); (case c_law => k_is); (case k_law => k_is); (case i_req => k_is); (case l_req => k_is); (case c_req => k_is); (case k_req => k_is); (case i_rst => k_is); (case l_rst => k_is); (case c_rst => k_is); (case k_rst => k_is); (case i_ueq => k_is); (case l_ueq => k_is); (case c_ueq => k_is); (case k_ueq => k_is); (case i_ust => k_is); (case l_ust => k_is); (case c_ust => k_is); (case k_ust => k_is); (case i_win => k_is); (case l_win => k_is); (case c_win => k_is); (case k_win => k_is); (case i_wns => k_is); (case l_wns => k_is); (case c_wns => k_is); (case k_wns => k_is); (case i_wfu => k_is); (case l_wfu => k_is); (case c_wfu => k_is); (case k_wfu => k_is); (case i_wfa => k_is); (case l_wfa => k_is); (case c_wfa => k_is); (case k_wfa => k_is); (case i_wwi => k_is); (case l_wwi => k_is); (case c_wwi => k_is); (case k_wwi => k_is); (case i_wco => k_is); (case l_wco => k_is); (case c_wco => k_is); (case k_wco => k_is); (case i_wle => k_is); (case l_wle => k_is); (case c_wle => k_is); (case k_wle => k_is); (case i_weq => k_is); (case l_weq => k_is); (case c_weq => k_is); (case k_weq => k_is); (case i_wst => k_is); (case l_wst => k_is); (case c_wst => k_is); (case k_wst => k_is); (case i_wre => k_is); (case l_wre => k_is); (case c_wre => k_is); (case k_wre => k_is); (case i_rin => k_is); (case l_rin => k_is); (case c_rin => k_is); (case k_rin => k_is); (case t_rin => k_is); (case i_uin => k_is); (case l_uin => k_is); (case c_uin => k_is); (case k_uin => k_is); (case t_uin => k_is); (case d1 => k_is); (case d2 => k_is); (case d3 => k_is); (case d4 => k_is); (case aLt => k_is); (case aMl => k_is); (case aMd => k_is); (case aCb => k_is); (case aGc => k_is); (case aK => k_is); (case lK => k_is); (case aM => k_is); (case lM => k_is); (case aS => k_is); (case lS => k_is); (case z_isin => k_is); (case z_tstr => k_is); (case z_tint => k_is); (case z_tlist => k_is); (case z_ttuple => k_is); (case z_tbool => k_is); (case z_fabs => k_is); (case z_frepr => k_is); (case z_flen => k_is); (case z_frange => k_is); (case z_fzip => k_is); (case z_fall => k_is); (case z_tve => k_is); (case z_tle => k_is); (case z_tset => k_is); (case z_fsort => k_is)
    (case hR => kernel_rfl); (case hU => kernel_rfl); (case hW => kernel_rfl); (case hG => kernel_rfl)
