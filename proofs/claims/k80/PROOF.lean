import PyProof.Rows.All
import Wide.All
import OpenK.AllK
import Wide.FinOn
import KE.KExcInit
import HandS.ForMost
import HandS.Exc
import HandS.ExcInit
import HandS.IsInst
import HandS.Defaults
import HandS.MakeKw
import HandS.FStr
import HandS.RaiseMore
import HandS.ExcIs
import KE.KExcIs
import PyProof.FactsAll.bool_1
import HandS.Codes
import HandS.Walk
import HandS.Zip
import PySem.Challenge.RW_unseenslopes_k80_errors_made_by_name
set_option Elab.async false
set_option linter.all false
set_option maxRecDepth 100000
set_option maxHeartbeats 4000000
/-! Own error classes over any built-in base: called with keywords too, held as values, their fields. -/
namespace Ux
open PySem PySem.Calls PySem.W
open Builtin Builtin.ObjectAttr
section
variable {M : Model} {prog : Program} {w : World} {A : Around} {E : Value → Shared → Prop} {h : Heap} {g : Array GenState} {d : Drawn} {t : Nat} {os : OsState}
variable {nm q : Str} {C N : Addr} {bs bm bmB : List Value} {hdct : Bool} {sn : List Str} {sub : List Value} {ab : Bool} {col : Option Bool} {dd : Option Addr} {k0 k1 k2 k3 k5 : Option Value} {B newId initId : String}
/-- the class object as the built-in rules read it -/
abbrev ClsO (nm q : Str) (C N : Addr) (bs bm : List Value) (hdct : Bool) (sn : List Str) (sub : List Value) (ab : Bool) (col : Option Bool) (dd : Option Addr) (k0 k1 k2 k3 k5 : Option Value) (newId : String) : Obj := excClassObj nm q C N bs bm hdct sn sub ab col dd k0 k1 k2 k3 k5 newId
theorem kw_check (F : ExcBaseFacts B newId initId bmB) (hT : ∀ Y : String, bm.contains (.type Y) = bmB.contains (.type Y)) {rest : List Value} {kw : List (Str × Value)} {Q : Unit → Shared → Prop}
    (oc : h.get? C = some (ClsO nm q C N bs bm hdct sn sub ab col dd k0 k1 k2 k3 k5 newId)) (z : Q () ⟨h, g, d, t, os⟩) : wpAny M A (checkBuiltinCall newId ⟨.ref C :: rest, kw⟩) Q E ⟨h, g, d, t, os⟩ := by
  have inB : (Value.ref C :: bm).contains (.type B) = true := by rw [List.contains_cons, hT B, F.hasB, Bool.or_true]
  have star := F.noStar
  simp only [checkBuiltinCall, F.newKind, F.newSplit, F.newRow]
  repeat (first
    | refine wpAny_loadPart_at oc ?_
    | (refine wpAny_isSubtype_exc oc ?_; rw [inB])
    | refine wpAny_staticBase_exc oc ?_
    | refine wpAny_madeBy_exc oc ?_
    | simp only [bne_self_eq_false, Bool.false_eq_true, if_false]
    | wp_step)
  exact z
theorem kw_new {R : Result → Shared → Prop} (F : ExcBaseFacts B newId initId bmB) (hT : ∀ Y : String, bm.contains (.type Y) = bmB.contains (.type Y)) {rest : List Value} {kw : List (Str × Value)}
    (oc : h.get? C = some (ClsO nm q C N bs bm hdct sn sub ab col dd k0 k1 k2 k3 k5 newId)) (z : R (.ok (.ret (.ref (h.objs.size + 1)))) ⟨(h.push (kdv_tup rest)).push (excObj C h.objs.size none .none), g, d, t, os⟩) (hz : rest.length ≤ sizeLine) :
    codeAny (model prog w) A (.builtin newId ⟨.ref C :: rest, kw⟩) R ⟨h, g, d, t, os⟩ := by
  have ends := F.ends
  have inB : (Value.ref C :: bm).contains (.type B) = true := by rw [List.contains_cons, hT B, F.hasB, Bool.or_true]
  have inA : (Value.ref C :: bm).contains (.type "AttributeError") = false := by rw [List.contains_cons, hT _, F.noAttr]; rfl
  have inN : (Value.ref C :: bm).contains (.type "NameError") = false := by rw [List.contains_cons, hT _, F.noName]; rfl
  refine codeAny_builtinAt F.entry ?_
  unfold Builtin.«BaseException.__new__»
  refine wpAt_bind ?_
  show wpAt _ _ _ (stack >>= _) _ _ _
  refine wpAt_bind (wpAt_stack fun p below => wpAt_of_wpAny ?_)
  wp_walk
  refine wpAt_of_wpAny ?_
  rw [F.owner]
  repeat (first
    | with_reducible refine wpAny_madeHere_exc F.canon oc ?_
    | with_reducible refine wpAny_loadPart_at oc ?_
    | (with_reducible refine wpAny_isSubtype_exc oc ?_; first | rw [inB] | rw [inA] | rw [inN])
    | wp_step)
  show R _ _
  rw [Heap.size_push]
  exact z
theorem kw_typecall (F : ExcBaseFacts B newId initId bmB) (hT : ∀ Y : String, bm.contains (.type Y) = bmB.contains (.type Y)) {rest : List Value} {kw : List (Str × Value)} {fI : Addr} {Q : Fin → Shared → Prop}
    (oc : h.get? C = some (ClsO nm q C N bs bm hdct sn sub ab col dd k0 k1 k2 k3 k5 newId)) (li : Looks (model prog w) h (typeLookup (.ref C) "__init__") (some (.ref fI)))
    (lb : ∀ self, Looks (model prog w) h (bindSpecial (.ref fI) self) (.ref fI, [self])) (hz : rest.length ≤ sizeLine)
    (z : codeAny (model prog w) A (.call (.ref fI) ⟨.ref (h.objs.size + 1) :: rest, kw⟩) (fun r s' => match r with | .ok (.ret v) => v = .none ∧ Q (.done (.ret (.ref (h.objs.size + 1)))) s' | .ok _ => False | .error e => E e s')
      ⟨(h.push (kdv_tup rest)).push (excObj C h.objs.size none .none), g, d, t, os⟩) :
    wpAny (model prog w) A (Builtin.«type.__call__» ⟨.ref C :: rest, kw⟩) Q E ⟨h, g, d, t, os⟩ := by
  repeat (first
    | with_reducible refine wpAny_loadPart_at oc ?_
    | with_reducible refine wpAny_madeBy_exc oc ?_
    | wp_step)
  refine codeAny_call_builtin_code (Code.quiet_builtin _ F.quiet) (kw_check F hT oc ?_)
  refine kw_new F hT oc ?_ hz
  show wpAny _ _ _ _ _ _
  have stays : ∀ b o, h.get? b = some o → ((h.push (kdv_tup rest)).push (excObj C h.objs.size none .none)).get? b = some o := fun b o y => Heap.get?_push_of_some _ (Heap.get?_push_of_some _ y)
  have oc' := stays _ _ oc
  have made : ((h.push (kdv_tup rest)).push (excObj C h.objs.size none .none)).get? (h.objs.size + 1) = some (excObj C h.objs.size none .none) := by heap_get
  have inC : (Value.ref C :: bm).contains (.ref C) = true := by simp
  have i1 := li.keeps stays
  have b1 := (lb (.ref (h.objs.size + 1))).keeps stays
  unfold isInstance
  repeat (first
    | with_reducible refine wpAny_loadPart_at made ?_
    | (with_reducible refine wpAny_isSubtype_exc oc' ?_; rw [inC])
    | wp_step)
  show wpAny _ _ (typeLookup (.ref C) _) _ _ _
  refine i1.at ?_
  refine wpAny_holding (wpAny_bind (b1.at ?_))
  refine wpAny_bind (wpAny_call (codeAny_mono z fun r s' y => ?_))
  rcases r with e | (v | _ | _ | _) <;> first | exact y | exact y.elim | skip
  obtain ⟨rfl, y⟩ := y
  first
    | exact wpAny_pure (wpAny_pure y)
    | (wp_walk; exact y)
theorem kw_call {R : Result → Shared → Prop} (F : ExcBaseFacts B newId initId bmB) (hT : ∀ Y : String, bm.contains (.type Y) = bmB.contains (.type Y)) {rest : List Value} {kw : List (Str × Value)} {fI : Addr}
    (oc : h.get? C = some (ClsO nm q C N bs bm hdct sn sub ab col dd k0 k1 k2 k3 k5 newId)) (li : Looks (model prog w) h (typeLookup (.ref C) "__init__") (some (.ref fI)))
    (lb : ∀ self, Looks (model prog w) h (bindSpecial (.ref fI) self) (.ref fI, [self])) (hz : rest.length ≤ sizeLine)
    (z : codeAny (model prog w) (A.under (.builtin "type.__call__" ⟨.ref C :: rest, kw⟩)) (.call (.ref fI) ⟨.ref (h.objs.size + 1) :: rest, kw⟩) (InitBack (h.objs.size + 1) R)
      ⟨(h.push (kdv_tup rest)).push (excObj C h.objs.size none .none), g, d, t, os⟩) :
    codeAny (model prog w) A (.call (.ref C) ⟨rest, kw⟩) R ⟨h, g, d, t, os⟩ := by
  have f1 := tc_lookup
  have f2 := tc_bind (.ref C)
  have ty : (⟨h, g, d, t, os⟩ : Shared).TypeIs (.ref C) "type" := ⟨_, oc, rfl⟩
  refine codeAny_of_tree ?_
  show wpAny _ _ (callAny (.ref C) _) _ _ _
  repeat (any_goals (first
    | assumption
    | with_reducible refine wpAny_loadPart_at oc ?_
    | wp_step))
  refine ⟨rfl, ?_⟩
  refine codeAny_call_builtin_at (Code.quiet_builtin _ (by decide +kernel)) entry_typeCall (wpAny_check_type_call_sub oc (kw_typecall F hT oc li lb hz ?_))
  refine codeAny_mono z fun r s' y => ?_
  rcases r with e | (v | _ | _ | _) <;> exact y
end
end Ux

set_option Elab.async false
set_option linter.all false
set_option maxRecDepth 100000
set_option maxHeartbeats 4000000
namespace Ux
open PySem PySem.Calls PySem.W
section
variable {prog : Program} {w : World} {A : Around} {E : Value → Shared → Prop} {R : Result → Shared → Prop} {hp : Heap} {g : Array GenState} {d : Drawn} {t : Nat} {os : OsState}
variable {K : Frag} {B : String} {bmB : List Value} {name : Str} {tk : Tok} {v : Value} {x C : Addr}
theorem taker_of (n : findIn K (.ref C) name = some none) : takerIn K C name = some none := by
  unfold takerIn
  rw [n]
  rfl
/-- the first field of an exception -/
theorem put_first {t0 : Addr} (SF : StoreFacts B bmB "object.__setattr__" "object") (IN : K.In hp) (ex : hp.get? x = some (excObj C t0 none .none)) (ov : excOver K C bmB = true) (nf : findIn K (.ref C) name = some none) (hd : hasDictIn K C = true)
    (z : ∀ h' tk' dx, (∀ b o, b ≠ x → hp.get? b = some o → h'.get? b = some o) → hp.objs.size ≤ dx → dx ≠ x → h'.get? x = some (excObj C t0 (some dx) .none) → h'.Ns1 dx (fun y => if y = name then some v else none) → R (.ok (.ret .none)) ⟨h', g, d, tk', os⟩) :
    codeAny (model prog w) A (.call (.builtin "object.__setattr__") ⟨[.ref x, .str name tk, v], []⟩) R ⟨hp, g, d, t, os⟩ := by
  refine osa_openX (s := ⟨hp, g, d, t, os⟩) (od := none) SF IN ⟨ex, rfl, rfl, trivial⟩ ov (taker_of nf) fun b => ?_
  obtain ⟨cd, hc, hdc⟩ := any_some hd
  have lx := Heap.lt_size ex
  have nx : hp.objs.size ≠ x := Nat.ne_of_gt lx
  have ex1 : (hp.push (dictOf [] 0)).get? x = some (excObj C t0 none .none) := Heap.get?_push_of_some _ ex
  refine wpAny_bind (wpAny_pure (wpAny_bind (instanceDict_exc (s := ⟨hp, g, d, t, os⟩) ex (looks_clsIn IN hc) hdc ?_)))
  show wpAny _ _ (Builtin.ObjectAttr.storeInDict hp.objs.size (.str name tk) name v) _ _ _
  refine HandSPX.store_in_new ⟨_, #[], _, (Heap.get?_update_ne _ _ _ _ nx).trans (Heap.get?_push_at rfl rfl), rfl, fun e he => absurd he (by simp), fun _ => rfl⟩ fun h' tk' hn same => ?_
  refine z h' tk' hp.objs.size (fun b o nb ho => ?_) (Nat.le_refl _) nx ?_ hn
  · exact (same.2 b (Nat.ne_of_lt (Heap.lt_size ho))).trans ((Heap.get?_update_ne _ _ _ _ nb).trans (Heap.get?_push_of_some _ ho))
  · exact (same.2 x nx.symm).trans (Heap.get?_update_self _ ex1 rfl)
/-- a further one -/
theorem put_more {t0 dx : Addr} {m0 : Str → Option Value} {ns : List Str} (SF : StoreFacts B bmB "object.__setattr__" "object") (IN : K.In hp) (ex : hp.get? x = some (excObj C t0 (some dx) .none)) (hn : hp.Ns1 dx m0) (hw : Within m0 ns) (hz : ns.length ≤ 1000)
    (ov : excOver K C bmB = true) (nf : findIn K (.ref C) name = some none) (hd : hasDictIn K C = true)
    (z : ∀ h' tk', (∀ b o, b ≠ dx → hp.get? b = some o → h'.get? b = some o) → h'.Ns1 dx (fun y => if y = name then some v else m0 y) → R (.ok (.ret .none)) ⟨h', g, d, tk', os⟩) :
    codeAny (model prog w) A (.call (.builtin "object.__setattr__") ⟨[.ref x, .str name tk, v], []⟩) R ⟨hp, g, d, t, os⟩ := by
  obtain ⟨oD, _, _, hoD, _, _⟩ := hn.count hw
  refine osa_openX (s := ⟨hp, g, d, t, os⟩) (od := some oD) SF IN ⟨ex, rfl, rfl, hoD⟩ ov (taker_of nf) fun b => ?_
  obtain ⟨cd, hc, hdc⟩ := any_some hd
  refine wpAny_bind (wpAny_pure (wpAny_bind (wpAny_bind (wpAny_loadPart ex (wpAny_bind ((looks_clsIn IN hc).here ?_))))))
  rw [hdc]
  refine wpAny_pure (a := some dx) ?_
  exact OEX.store_in_old hn hw hz fun h' tk' hn' same => z h' tk' (fun b o nb ho => (same.2 b nb).trans ho) hn'
end
end Ux

namespace Ux
open PySem PySem.Spec PyProof.Rows L2
/-- what the written part says of an error class over the built-in B -/
structure Ec (K : PySem.W.Frag) (B newId initId : String) (bmB : List Value) (C : Addr) : Prop where
  FB : ExcBaseFacts B newId initId bmB
  SF : StoreFacts B bmB "object.__setattr__" "object"
  ini : PySem.W.excInitIn K C bmB newId = true
  ovr : PySem.W.excOver K C bmB = true
  hdc : PySem.W.hasDictIn K C = true
  sa : PySem.W.findIn K (.ref C) "__setattr__" = some (some (.builtin "object.__setattr__"))
  kc : PySem.W.keepIn K (.ref C) = true
  ga : PySem.W.findIn K (.ref C) "__getattribute__" = some (some (.builtin "BaseException.__getattribute__"))
  gg : PySem.W.findIn K (.ref C) "__getattr__" = some none
  exC : PySem.W.subIn K (.ref C) (.type "BaseException") = some true
section
variable {X : Cx} {pins : List (Addr × Obj)} {σ : L2.St} {H : Hp} {s : Shared} {a C dx : Addr} {f : Str} {y : V} {u : Value} {fs : List (Str × V)} {Q : Unit → Shared → Prop} {E : Value → Shared → Prop} {A : Around} {B newId initId : String} {bmB : List Value}
theorem not_own {c x : Addr} {o : HO} (e : H c = some o) (n : ∀ y, o ≠ .own y) (z : H x = some (.own a)) : x ≠ c := fun q => by
  rw [q, e] at z
  exact n _ (Option.some.inj z)
theorem est_first (T : Ec X.K B newId initId bmB C) (I : Inv X pins σ H s) (ea : H a = some (exo a C none)) (nf : PySem.W.findIn X.K (.ref C) f = some none) (r : RelV y u)
    (z : ∀ dx s', H dx = none → dx ≠ a → Inv X pins σ (upd (upd H dx (exd dx [(f, y)])) a (exo a C (some dx))) s' → Q () s') : wpAny (model X.prog X.w) A (setAttr (.ref a) f u) Q E s := by
  obtain ⟨t1, ho⟩ := exo_at I.hok ea
  obtain ⟨hp, g, d, t, os⟩ := s
  refine PySem.W.set_plain I.kIn (ox := PySem.W.excObj C t1 none .none) (od := none) ⟨ho, rfl, rfl, trivial⟩ T.sa ?_
  refine put_first T.SF I.kIn ho T.ovr nf T.hdc fun h' tk' dx keep lo ne hx hn => ?_
  have fr : H dx = none := I.hok.fresh lo
  have nd : ∀ {b : Addr} {o : Obj}, hp.get? b = some o → b ≠ dx := fun q => Nat.ne_of_lt (Nat.lt_of_lt_of_le (Heap.lt_size q) lo)
  have na : ∀ {b : Addr}, H b = none → b ≠ a := fun n q => by
    rw [q, ea] at n
    cases n
  have U : Un X.fs [] H (upd (upd H dx (exd dx [(f, y)])) a (exo a C (some dx))) hp h' := by
    refine ⟨fun b o q n _ _ => keep b o (na n) q, fun b o q n _ _ => ⟨o.slots, keep b o (na n) q⟩, fun b o q n _ => ?_, fun b o q _ => ?_, fun b xs q => ?_, fun b o v q => ?_, fun b ps q => ⟨#[], ?_⟩⟩
    · rw [upd_ne (na n), upd_ne (nd q)]
      exact n
    · by_cases hb : b = a
      · subst hb
        exact ⟨_, hx⟩
      · exact ⟨o, keep b o hb q⟩
    · rw [upd_ne (at_ne ea q exo_tup), upd_ne (ne_of_none q fr)]
      exact q
    · rw [upd_ne (at_ne ea q exo_frz), upd_ne (ne_of_none q fr)]
      exact q
    · rw [upd_ne (at_ne ea q exo_tbl), upd_ne (ne_of_none q fr), q]
      simp
  refine z dx _ fr ne (I.un (t' := tk') U fun b o q => ?_)
  by_cases hb : b = a
  · subst hb
    rw [upd_same] at q
    cases q
    exact exo_ok hx
  · rw [upd_ne hb] at q
    by_cases hd : b = dx
    · subst hd
      rw [upd_same] at q
      cases q
      exact exd_ok hn (relO_put (fs := []) r fun _ => True.intro)
    · rw [upd_ne hd] at q
      refine (I.hok b o q).stay (fun c v hc w => keep c v ?_ w) (fun c hc => ?_) (fun c xs hc => ?_)
      · rcases hc with hc | hc
        · rw [hc]
          exact hb
        · exact at_ne ea hc exo_own
      · rw [upd_ne (at_ne ea hc exo_own), upd_ne (ne_of_none hc fr)]
        exact hc
      · rw [upd_ne (at_ne ea hc exo_tup), upd_ne (ne_of_none hc fr)]
        exact hc
theorem est_more (T : Ec X.K B newId initId bmB C) (I : Inv X pins σ H s) (ea : H a = some (exo a C (some dx))) (ed : H dx = some (exd dx fs)) (hl : fs.length ≤ 900) (nf : PySem.W.findIn X.K (.ref C) f = some none) (r : RelV y u)
    (z : ∀ s', Inv X pins σ (upd H dx (exd dx ((f, y) :: fs))) s' → Q () s') : wpAny (model X.prog X.w) A (setAttr (.ref a) f u) Q E s := by
  obtain ⟨t1, ho⟩ := exo_at I.hok ea
  obtain ⟨mA, hns, rel⟩ := exd_at I.hok ed
  have hw := within_of rel
  obtain ⟨hp, g, d, t, os⟩ := s
  obtain ⟨oD, _, _, hoD, _, _⟩ := hns.count hw
  refine PySem.W.set_plain I.kIn (ox := PySem.W.excObj C t1 (some dx) .none) (od := some oD) ⟨ho, rfl, rfl, hoD⟩ T.sa ?_
  refine put_more T.SF I.kIn ho hns hw (by rw [List.length_map]; omega) T.ovr nf T.hdc fun h' tk' keep hn => ?_
  have there : ∃ o, h'.get? dx = some o := by
    obtain ⟨o, _, _, q, _⟩ := hn
    exact ⟨o, q⟩
  exact z _ (I.write (t' := tk') (x := dx) (e := dx) (o := exd dx ((f, y) :: fs)) (by rw [ed]; exact True.intro) (.inl rfl) keep there (exd_ok hn (relO_put r rel)))
/-- the base's __init__ on it: nothing of it is told -/
theorem base_init {us : List Value} {Q : Value → Shared → Prop} (T : Ec X.K B newId initId bmB C) (I : Inv X pins σ H s) (ea : H a = some (exo a C none)) (hl : us.length ≤ sizeLine) (z : ∀ s', Inv X pins σ H s' → Q .none s') :
    wpAny (model X.prog X.w) A (call (.builtin initId) (.ref a :: us)) Q E s := by
  obtain ⟨t1, ho⟩ := exo_at I.hok ea
  obtain ⟨nm, N, qn, bs, bm, hdct, sn, sub, ab, col, dd, k0, k1, k2, k3, k5, oc, hT⟩ := PySem.W.excInit_of I.kIn T.ini
  obtain ⟨hp, g, d, t, os⟩ := s
  refine wpAny_call (PySem.HandSPX.init_base T.FB hT oc ho hl fun h' t2 keep hx => ?_)
  have J := I.write (t' := t) (x := a) (e := a) (o := exo a C none) (by rw [ea]; exact True.intro) (.inl rfl) keep ⟨_, hx⟩ (exo_ok hx)
  have same : upd H a (exo a C none) = H := by
    funext b
    by_cases hb : b = a
    · rw [hb, upd_same, ea]
    · rw [upd_ne hb]
  rw [same] at J
  exact z _ J
end
/-- .. whatever the base's other facts -/
def EcI (K : PySem.W.Frag) (initId : String) (C : Addr) : Prop := ∃ (B newId : String) (bmB : List Value), Ec K B newId initId bmB C
def EcA (K : PySem.W.Frag) (C : Addr) : Prop := ∃ initId : String, EcI K initId C
/-! ### readings and rules -/
/-- Base.__init__(self, ..) -/
def tBI (K : PySem.W.Frag) (initId : String) (ta : TA) : TE := fun σ H Q => ta σ H fun vs H1 => ∃ (a C : Addr) (ws : List V), vs = .ref a :: ws ∧ ws.length ≤ 1000 ∧ EcI K initId C ∧ H1 a = some (exo a C none) ∧ Q .non H1
/-- self.f = e -/
def tEst (K : PySem.W.Frag) (f : Str) (to te : TE) : TS := fun D σ H => te σ H fun y H1 => to σ H1 fun x H2 => ∃ a C : Addr, x = .ref a ∧ EcA K C ∧ PySem.W.findIn K (.ref C) f = some none ∧
  ((H2 a = some (exo a C none) ∧ ∀ dx, H2 dx = none → dx ≠ a → D.nx σ (upd (upd H2 dx (exd dx [(f, y)])) a (exo a C (some dx)))) ∨
    ∃ (dx : Addr) (fs : List (Str × V)), H2 a = some (exo a C (some dx)) ∧ H2 dx = some (exd dx fs) ∧ fs.length ≤ 900 ∧ D.nx σ (upd H2 dx (exd dx ((f, y) :: fs))))
/-- e.f -/
def tEf (K : PySem.W.Frag) (f : Str) (to : TE) : TE := fun σ H Q => to σ H fun x H1 => ∃ (a C dx : Addr) (fs : List (Str × V)) (v : V), x = .ref a ∧ EcA K C ∧ PySem.W.findIn K (.ref C) f = some none ∧
  H1 a = some (exo a C (some dx)) ∧ H1 dx = some (exd dx fs) ∧ fs.lookup f = some v ∧ Q v H1
section
variable {X : Cx} {o e : Expr} {es : List Expr} {to te : TE} {ta : TA} {f x : Str} {p p' p1 p2 pos : Pos} {B newId initId : String} {bmB : List Value} {CB : Addr} {mc : Value}
theorem pe_bi {pl : Sem Bool} (hg : Gl X x) (hm : X.mg x = some (.ref CB)) (sg : PySem.W.specialIn X.K (.ref CB) "__getattribute__" = some (some (.builtin "type.__getattribute__"))) (rd : PySem.W.readsIn X.K CB mc = true)
    (vV : PySem.W.findCls X.K (.ref CB) mc "__init__" = some (.val (.builtin initId))) (vh : PySem.W.handedIn (.builtin initId) = true) (ha : PA X (e :: es) ta) (hdb : (x == ("__debug__" : Str)) = false := by decide)
    (hc : eval (.Call (.Attribute (.Name x p1) "__init__" p2) (e :: es) [] pos) X.env = (do
      let ov ← eval (.Name x p1) X.env
      standAt p2.atName
      let (f, first) ← holding [ov] (getMethod ov "__init__" pl)
      callWith pos f first (backTo pos (starEach (e :: es) X.env)) (backToKw pos (keywordEach [] X.env))) := by rfl)
    (he : starEach (e :: es) X.env = (false, eval e X.env) :: starEach es X.env := by rfl) (hpl : (backTo pos (starEach es X.env)).any (·.1) = false := by rfl) :
    PE X (.Call (.Attribute (.Name x p1) "__init__" p2) (e :: es) [] pos) (tBI X.K initId ta) := by
  refine ⟨fun pins s σ H Q I h => ?_⟩
  refine PySem.W.methodCall_KW (ld_glob I hg hm ?_ hdb) hc
  refine PySem.W.method_cls I.kIn sg (PySem.W.cls_value I.kIn rd vV vh ?_)
  show wpAny _ _ (callWith pos (Value.builtin initId) [] (backTo pos (starEach (e :: es) X.env)) []) _ _ _
  refine PyProof.Rows.callWith_method1 (thn (ha.run pos pins _ σ H _ (I.tok _) h) fun us s1 ⟨vs, H1, I1, r1, a, C, ws, ev, hl, T, ea, q⟩ => ?_) he hpl
  subst ev
  obtain ⟨_, _, _, T⟩ := T
  cases r1 with
  | @cons _ u0 _ ur ra rw' =>
    obtain rfl : u0 = Value.ref a := ra
    have hz : ur.length ≤ sizeLine := by
      rw [← Paired.length rw', sizeLine_eq]
      omega
    exact base_init T I1 ea hz fun s' J => ⟨.non, H1, J, rfl, q⟩
theorem ps_est (ho : PE X o to) (he : PE X e te) (hs : swapsWith e (some (.Attribute o f p')) pos.line X.env = pure false := by rfl) : PS X (.Assign [.Attribute o f p'] e pos) (tEst X.K f to te) := by
  refine ⟨fun pins s σ H D I h => ?_⟩
  refine plainObj_wpAny_Assign_Attribute (thn (he.run pins s σ H _ I h) fun v s1 ⟨y, H1, I1, r1, q1⟩ => thn (ho.run pins s1 σ H1 _ I1 q1) fun u s2 ⟨x, H2, I2, r2, a, C, ex, T, nf, q⟩ => ?_) hs
  subst ex
  obtain rfl : u = Value.ref a := r2
  obtain ⟨_, _, _, _, T⟩ := T
  rcases q with ⟨ea, q⟩ | ⟨dx, fs, ea, ed, hl, q⟩
  · exact est_first T I2 ea nf r1 fun dx s' n ne J => ⟨σ, _, J, q dx n ne⟩
  · exact est_more T I2 ea ed hl nf r1 fun s' J => ⟨σ, _, J, q⟩
theorem pe_ef (ho : PE X o to) (hb : attributeBase o f X.env (eval o X.env) = eval o X.env := by rfl) : PE X (.Attribute o f pos) (tEf X.K f to) := by
  refine ⟨fun pins s σ H Q I h => ?_⟩
  refine attr_of hb (thn (ho.run pins s σ H _ I h) fun u s1 hh => ?_)
  obtain ⟨x, H1, I1, rx, a, C, dx, fs, v, ex, T, nf, ea, ed, l, q⟩ := hh
  subst ex
  obtain rfl : u = Value.ref a := rx
  obtain ⟨_, _, _, _, T⟩ := T
  obtain ⟨t1, hoa⟩ := exo_at I1.hok ea
  obtain ⟨mA, hns, hr⟩ := exd_at I1.hok ed
  obtain ⟨od, hod, hl⟩ := lookIn_ns hns
  obtain ⟨u, hu, ru⟩ := RelO.some_of (v := v) (o := mA f) (by rw [← l]; exact hr f)
  have J : PySem.W.InstAt s1.heap a (PySem.W.excObj C t1 (some dx) .none) C (some od) := ⟨hoa, rfl, rfl, hod⟩
  exact HandSPX.exc_get I1.kIn J T.ga T.gg T.exC (PySem.W.findObj_own T.hdc nf rfl (by rw [hl, hu])) (handed_of ru) ⟨v, H1, I1.tok _, ru, q⟩
end
/-! ### an error made -/
/-- C(..) by values vs and keywords zs: a new error a, then __init__ by its promise -/
def tMkE (C : Addr) (n m : Nat) (sp : Sp) (gV : List V → List V → List V) (ta tk : TA) : TE := fun σ H Q => ta σ H fun vs H1 => tk σ H1 fun zs H2 => vs.length = n ∧ zs.length = m ∧ ∀ a, H2 a = none → sp (gV (.ref a :: vs) zs) (upd H2 a (exo a C none)) (fun v H3 => v = .non ∧ Q (.ref a) H3) (fun _ _ _ => False)
section
variable {X : Cx} {CX : CXT} {k n : Nat} {fI C : Addr} {fd : FuncData} {ps ks : List Str} {sp : Sp} {B newId initId : String} {bmB : List Value} {g : List Value → List Value → List Value} {gV : List V → List V → List V}
theorem run_mkE {pins : List (Addr × Obj)} {σ : L2.St} {H : Hp} {s : Shared} {Q : VK} {us ws : List Value} {vs zs : List V} (T : Ec X.K B newId initId bmB C) (iC : PySem.W.findIn X.K (.ref C) "__init__" = some (some (.ref fI))) (tI : PySem.W.typeIn X.K (.ref fI) = some (.type "function"))
    (F : FnOk X.prog X.w X.K X.mg X.base CX k fI fd ps sp) (hr : Room (k + 1) X.A) (hb : KBn X.K fd ps (n + 1) ks g gV) (hx : Passes CX X (fun _ _ _ => False)) (I : Inv X pins σ H s) (r : Vals vs us) (rz : Vals zs ws) (l1 : vs.length = n) (l2 : zs.length = ks.length) (hn : n ≤ 1000)
    (z : ∀ a, H a = none → sp (gV (.ref a :: vs) zs) (upd H a (exo a C none)) (fun v H3 => v = .non ∧ Q (.ref a) H3) (fun _ _ _ => False)) :
    wpAny (model X.prog X.w) X.A (call (.ref C) us (ks.zip ws)) (EP X pins σ Q) X.xe s := by
  obtain ⟨nm, N, qn, bs, bm, hdct, sn, sub, ab, col, dd, k0, k1, k2, k3, k5, oc, hT⟩ := PySem.W.excInit_of I.kIn T.ini
  obtain ⟨hp, gn, dr, tk, os⟩ := s
  have lo : hp.objs.size ≤ hp.objs.size + 1 := Nat.le_succ _
  have fr : H (hp.objs.size + 1) = none := I.hok.fresh lo
  have hq := z _ fr
  have kk : ∀ b o, hp.get? b = some o → ((hp.push (PySem.W.kdv_tup us)).push (PySem.W.excObj C hp.objs.size none .none)).get? b = some o := fun b o e => Heap.get?_push_of_some _ (Heap.get?_push_of_some _ e)
  have made : ((hp.push (PySem.W.kdv_tup us)).push (PySem.W.excObj C hp.objs.size none .none)).get? (hp.objs.size + 1) = some (PySem.W.excObj C hp.objs.size none .none) := by heap_get
  have I2 : Inv X pins σ (upd H (hp.objs.size + 1) (exo (hp.objs.size + 1) C none)) ⟨(hp.push (PySem.W.kdv_tup us)).push (PySem.W.excObj C hp.objs.size none .none), gn, dr, tk, os⟩ :=
    I.laid (t' := tk) (a := hp.objs.size + 1) (o := exo (hp.objs.size + 1) C none) kk lo (exo_ok made)
  have r1 : Vals (V.ref (hp.objs.size + 1) :: vs) (Value.ref (hp.objs.size + 1) :: us) := .cons rfl r
  have r2 := hb.rel r1 rz
  have e1 : (Value.ref (hp.objs.size + 1) :: us).length = n + 1 := r1.length.symm.trans (congrArg Nat.succ l1)
  have e2 : ws.length = ks.length := rz.length.symm.trans l2
  have hus : us.length ≤ sizeLine := by
    rw [← Paired.length r, l1, sizeLine_eq]
    omega
  refine wpAny_call (kw_call T.FB hT oc (PySem.W.looks_findIn I.kIn iC) (fun self => PySem.W.bind_fn I.kIn self tI) hus
    (codeAny_mono (F.run _ X.stack _ _ ⟨Value.ref (hp.objs.size + 1) :: us, ks.zip ws⟩ (g (Value.ref (hp.objs.size + 1) :: us) ws) _ _ (fun _ _ _ => False) (hr.make C us (ks.zip ws)) (I2.env0.make C us (ks.zip ws)) (hb.to _ (Value.ref (hp.objs.size + 1) :: us) ws I2.kIn e1 e2) r2 hq) fun r s' hq' => ?_))
  cases r with
  | error er => exact hx pins σ _ _ er s' I2 hq'
  | ok fl =>
    cases fl with
    | ret u =>
      obtain ⟨v, H', I3, rv, ev, q3⟩ := I2.after hq'
      subst ev
      exact ⟨rv, ⟨V.ref (hp.objs.size + 1), H', I3, rfl, q3⟩⟩
    | next => exact False.elim hq'
    | brk => exact False.elim hq'
    | cont => exact False.elim hq'
end
end Ux

set_option Elab.async false
set_option linter.all false
set_option maxRecDepth 100000
set_option maxHeartbeats 4000000
namespace Ux
open PySem PySem.Spec PyProof.Rows L2
section
variable {X : Cx} {CX : CXT} {k n : Nat} {fI C : Addr} {fd : FuncData} {ps ks : List Str} {sp : Sp} {B newId initId : String} {bmB : List Value} {g : List Value → List Value → List Value} {gV : List V → List V → List V}
variable {x : Str} {p pos : Pos} {e : Expr} {es : List Expr} {kws : List Keyword} {ta tk : TA}
theorem kbn_pos {K : PySem.W.Frag} {fd : FuncData} {ps : List Str} (hb : Binds K fd ps []) (n : Nat) (hn : ps.length = n) : KBn K fd ps n [] (fun us _ => us) (fun vs _ => vs) := by
  refine ⟨fun s us ws IN l1 l2 => ?_, fun r _ => r⟩
  have hz : ws = [] := List.length_eq_zero_iff.mp l2
  subst hz
  have z := hb s us IN (by rw [List.append_nil, l1, hn])
  rw [List.append_nil] at z
  exact z
theorem kbn_mk {K : PySem.W.Frag} {y qual : Str} {st : Stmt} {f : Addr} {fd : FuncData} (F : Fun K y qual st f fd) (n : Nat) (ks : List Str) (g : {α : Type} → List α → List α → List α)
    (hrel : ∀ {vs zs : List V} {us ws : List Value}, Vals vs us → Vals zs ws → Vals (g vs zs) (g us ws))
    (h : ∀ (kV doc pm : Value) (an : Option Addr) (cdv ct : Value) (us ws : List Value), us.length = n → ws.length = ks.length → bindArgs (PySem.W.fnOf y qual (defArgs st) (defBody st) (defScope st) .none kV doc pm an cdv ct) ⟨us, ks.zip ws⟩ = pure (ps.zip (g us ws))) : KBn K fd ps n ks (fun us ws => g us ws) (fun vs zs => g vs zs) := by
  obtain ⟨oc, od, kV, doc, pm, an, cdv, ct, osl, rfl, lk, hcd⟩ := F.ex
  exact ⟨fun s us ws _ l1 l2 => .of_eq (h kV doc pm an cdv ct us ws l1 l2), fun r z => hrel r z⟩
/-- C(e, ..) -/
theorem pe_mkE (T : Ec X.K B newId initId bmB C) (iC : PySem.W.findIn X.K (.ref C) "__init__" = some (some (.ref fI))) (tI : PySem.W.typeIn X.K (.ref fI) = some (.type "function")) (F : FnOk X.prog X.w X.K X.mg X.base CX k fI fd ps sp) (hr : Room (k + 1) X.A)
    (hb : KBn X.K fd ps (n + 1) [] g gV) (hx : Passes CX X (fun _ _ _ => False)) (hn : n ≤ 1000) (hg : Gl X x) (hm : X.mg x = some (.ref C)) (ha : PA X (e :: es) ta)
    (hdb : (x == ("__debug__" : Str)) = false := by decide) (he : starEach (e :: es) X.env = (false, eval e X.env) :: starEach es X.env := by rfl) (hpl : (backTo pos (starEach es X.env)).any (·.1) = false := by rfl) :
    PE X (.Call (.Name x p) (e :: es) [] pos) (tMkE C n 0 sp gV ta tNil) := by
  refine ⟨fun pins s σ H Q I h => ?_⟩
  refine wpAny_Call_Name_kw (ld_glob I hg hm ?_ hdb)
  refine PySem.W.callWith_K (h₀ := X.base) I.ok.mod.kin T.kc (thn (ha.run pos pins s σ H _ I h) fun us s1 hh => ?_) he hpl
  obtain ⟨vs, H1, I1, r1, l1, _, z⟩ := hh
  refine ⟨I1.kIn, ?_⟩
  exact run_mkE (ks := []) (ws := []) (zs := []) T iC tI F hr hb hx I1 r1 .nil l1 rfl hn z
/-- C() -/
theorem pe_mkE0 (T : Ec X.K B newId initId bmB C) (iC : PySem.W.findIn X.K (.ref C) "__init__" = some (some (.ref fI))) (tI : PySem.W.typeIn X.K (.ref fI) = some (.type "function")) (F : FnOk X.prog X.w X.K X.mg X.base CX k fI fd ps sp) (hr : Room (k + 1) X.A)
    (hb : KBn X.K fd ps 1 [] g gV) (hx : Passes CX X (fun _ _ _ => False)) (hg : Gl X x) (hm : X.mg x = some (.ref C)) (hdb : (x == ("__debug__" : Str)) = false := by decide) : PE X (.Call (.Name x p) [] [] pos) (tMkE C 0 0 sp gV tNil tNil) := by
  refine ⟨fun pins s σ H Q I h => ?_⟩
  refine wpAny_Call_Name_kw (ld_glob I hg hm ?_ hdb)
  obtain ⟨l1, l2, z⟩ := h
  exact PySem.W.callWith_K0 I.kIn T.kc (run_mkE (ks := []) (ws := []) (zs := []) (us := []) (vs := []) T iC tI F hr hb hx I .nil .nil rfl rfl (Nat.zero_le _) z)
/-- C(k = e, ..) -/
theorem pe_mkEK (T : Ec X.K B newId initId bmB C) (iC : PySem.W.findIn X.K (.ref C) "__init__" = some (some (.ref fI))) (tI : PySem.W.typeIn X.K (.ref fI) = some (.type "function")) (F : FnOk X.prog X.w X.K X.mg X.base CX k fI fd ps sp) (hr : Room (k + 1) X.A)
    (hb : KBn X.K fd ps 1 ks g gV) (hx : Passes CX X (fun _ _ _ => False)) (hg : Gl X x) (hm : X.mg x = some (.ref C)) (hkw : PK X kws tk)
    (hall : (backToKw pos (keywordEach kws X.env)).all (·.1.isSome) = true := by rfl) (hks : (backToKw pos (keywordEach kws X.env)).filterMap (·.1) = ks := by rfl) (hdb : (x == ("__debug__" : Str)) = false := by decide)
    (hpl : ((backTo pos (starEach [] X.env)).any (·.1) || (backToKw pos (keywordEach kws X.env)).any (·.1.isNone)) = false := by rfl) :
    PE X (.Call (.Name x p) [] kws pos) (tMkE C 0 ks.length sp gV tNil tk) := by
  refine ⟨fun pins s σ H Q I h => ?_⟩
  refine wpAny_Call_Name_kw (ld_glob I hg hm ?_ hdb)
  refine PySem.W.callWith_KW0 (h₀ := X.base) I.ok.mod.kin T.kc hall ?_ hpl
  refine thn (hkw.run pos pins s σ H _ I h) fun ws s2 hh => ?_
  obtain ⟨zs, H2, I2, rz, l1, l2, z⟩ := hh
  refine ⟨I2.kIn, ?_⟩
  rw [hks]
  exact run_mkE (us := []) (vs := []) T iC tI F hr hb hx I2 .nil rz rfl l2 (Nat.zero_le _) z
end
/-! ### isinstance of an error -/
structure Ei (K : PySem.W.Frag) (C : Addr) : Prop where
  cl : (PySem.W.clsIn K C).isSome = true
  hg : PySem.W.findIn K (.ref C) "__getattribute__" = some (some (.builtin "BaseException.__getattribute__"))
  hk : PySem.W.findIn K (.ref C) "__getattr__" = some none
  hs : PySem.W.subIn K (.ref C) (.type "BaseException") = some true
  ha : PySem.W.findIn K (.ref C) "__class__" = some (some (.builtin "object.__class__"))
  hn : PySem.W.specialIn K (.builtin "object.__class__") "__get__" = some (some (.builtin "getset_descriptor.__get__"))
  ht : PySem.W.takesIn K (.builtin "object.__class__") = some true
  hm : PySem.W.mroIn K C (.type "object") = some true
/-- isinstance(e, c), e an error with its dict -/
def rIsEr (K : PySem.W.Frag) : List V → Hp → VK → Prop := fun xs H Q => ∃ (a C dx : Addr) (fs : List (Str × V)) (c : V) (u : Value) (b : Bool), xs = [.ref a, c] ∧ ClsV c u ∧ Ei K C ∧ H a = some (exo a C (some dx)) ∧ H dx = some (exd dx fs) ∧ PySem.W.kitOne K (.ref C) u = some b ∧ Q (.bl b) H
theorem call_isEr {X : Cx} : CallR X (.builtin "isinstance") (rIsEr X.K) := by
  intro pins s σ H xs us Q I r h
  obtain ⟨a, C, dx, fs, c, u, b, rfl, kc, E, ea, ed, e, q⟩ := h
  obtain ⟨u1, u2, rfl, r1, r2⟩ := vals2 r
  cases (show u1 = Value.ref a from r1)
  have ec := kc.eq r2
  subst ec
  obtain ⟨t1, hoa⟩ := exo_at I.hok ea
  obtain ⟨mA, hns, hr⟩ := exd_at I.hok ed
  obtain ⟨od, hod, hl⟩ := lookIn_ns hns
  have J : PySem.W.InstAt s.heap a (PySem.W.excObj C t1 (some dx) .none) C (some od) := ⟨hoa, rfl, rfl, hod⟩
  exact PySem.W.kia_one (PySem.W.kitx_exc E.cl E.hg E.hk E.hs E.ha E.hn E.ht E.hm) I.kIn J e (fun z => nomatch z) fun tk => ⟨.bl b, H, I.tok tk, rfl, q⟩
/-! ### abs and str of a truth value -/
theorem abs_true {prog : Program} {w : World} {A : Around} {E : Value → Shared → Prop} {s : Shared} {Q : Value → Shared → Prop} (h : ∀ u tk, Q (.int 1 u) { s with toks := tk }) : wpAny (model prog w) A (call (.builtin "abs") [.bool true]) Q E s := by
  refine PySem.Calls.call_function_entry kind_abs plain_abs entry_abs (args_abs _) ?_
  unfold Builtin.«abs»
  refine wpAny_bind (m := oneArg "abs" _) (wpAny_pure ?_)
  refine wpAny_bind (m := callSpecial? (.bool true) (Str.ofString "__abs__")) (wpAny_callSpecial?_slot (name := Str.ofString "__abs__") (PySem.typeIs_bool s true) F.slot_bool_abs
    (wpAny_call_entry F.slot_bool_abs (PySem.typeIs_bool s true) entry_int_abs ?_ (args_int_abs _)))
  have h' := h s.toks (s.toks + 1)
  exact wpAny_ret_mkInt (wpAny_pure ⟨_, rfl, h'⟩)
theorem call_absT {X : Cx} : CallR X (.builtin "abs") (fun xs H Q => (∃ i, xs = [.int i] ∧ Q (.int (if i < 0 then -i else i)) H) ∨ (xs = [.bl true] ∧ Q (.int 1) H)) := by
  intro pins s σ H xs us Q I r h
  rcases h with ⟨i, rfl, q⟩ | ⟨rfl, q⟩
  · obtain ⟨u, rfl, t, rfl⟩ := vals1 r
    exact call_abs_int fun u tk => ⟨.int (if i < 0 then -i else i), H, I.tok _, ⟨_, rfl⟩, q⟩
  · obtain ⟨u, rfl, r1⟩ := vals1 r
    cases (show u = Value.bool true from r1)
    exact abs_true fun u tk => ⟨.int 1, H, I.tok _, ⟨_, rfl⟩, q⟩
theorem str_true {prog : Program} {w : World} {A : Around} {E : Value → Shared → Prop} {s : Shared} {Q : Value → Shared → Prop} (h : Q (.str "True" s.toks) { s with toks := s.toks + 1 }) : wpAny (model prog w) A (call (.type "str") [.bool true]) Q E s :=
  callType_new F.called_str (by decide) (F.typeCall_str_1 _) (F.newCall_str_1 _) (fun obj => F.args_object_init_2 obj _) F.entry_str_new
    (meets_str_new (S := fun _ R s => R (.ok (.ret (.str "True" s.toks))) { s with toks := s.toks + 1 }) fun _ _ _ _ s hq =>
      wpAny_strOf_gives rfl (PySem.typeIs_bool s true) F.slot_bool_str F.slot_bool_repr F.entry_bool_repr (F.args_bool_repr_1 _) (gives_bool_repr true) hq (hsz := by decide)) ⟨typeIs_str _ _ _, h⟩
theorem call_strT {X : Cx} : CallR X (.type "str") (fun xs H Q => (∃ i, xs = [.int i] ∧ i.natAbs.log2 < 1920 ∧ Q (.str (toString i)) H) ∨ (xs = [.bl true] ∧ Q (.str "True") H)) := by
  intro pins s σ H xs us Q I r h
  rcases h with ⟨i, rfl, hz, q⟩ | ⟨rfl, q⟩
  · obtain ⟨u, rfl, t, rfl⟩ := vals1 r
    exact PySem.P.str_of_int hz ⟨.str _, H, I.tok _, ⟨_, rfl⟩, q⟩
  · obtain ⟨u, rfl, r1⟩ := vals1 r
    cases (show u = Value.bool true from r1)
    exact str_true ⟨.str _, H, I.tok _, ⟨_, rfl⟩, q⟩
theorem call_reprS {X : Cx} : CallR X (.builtin "repr") (fun xs H Q => ∃ x, xs = [.str x] ∧ (reprText x).length ≤ sizeLine ∧ Q (.str (reprText x)) H) := by
  intro pins s σ H xs us Q I r h
  obtain ⟨x, rfl, hz, q⟩ := h
  obtain ⟨u, rfl, t, rfl⟩ := vals1 r
  exact PySem.P.repr_of_str (hsz := hz) ⟨.str _, H, I.tok _, ⟨_, rfl⟩, q⟩
end Ux

set_option Elab.async false
set_option linter.all false
set_option maxRecDepth 100000
set_option maxHeartbeats 4000000
namespace K80
open PySem PySem.Spec PyProof.Rows L2 Ux
def top (i : Nat) : Stmt := PySem.Challenge.pw_unseenslopes_k80_errors_made_by_name.main.body.getD i (.Pass ⟨0, 0, 0, 0⟩)
abbrev sShown : Stmt := top 1
abbrev sBag : Stmt := top 20
abbrev sPull : Stmt := top 21
abbrev sOf : Stmt := top 22
/-- the built-ins that the text calls still stand -/
structure Bn (mg : Str → Option Value) : Prop where
  isin : mg "isinstance" = none
  tstr : mg "str" = none
  tint : mg "int" = none
  tlist : mg "list" = none
  ttuple : mg "tuple" = none
  tbool : mg "bool" = none
  fabs : mg "abs" = none
  frepr : mg "repr" = none
  flen : mg "len" = none
  frange : mg "range" = none
  fzip : mg "zip" = none
  fall : mg "all" = none
  tve : mg "ValueError" = none
  tle : mg "LookupError" = none
/-- the values that the law hands in -/
inductive Adm (H : Hp) : V → Prop where
  | non : Adm H .non
  | yes : Adm H (.bl true)
  | int {i : Int} (h : i.natAbs < 10 ^ 10) : Adm H (.int i)
  | str {x : Str} (h : (reprText x).length ≤ 1000) : Adm H (.str x)
  | tup {a : Addr} {xs : List V} (h : H a = some (.tup xs)) : Adm H (.ref a)
  | lst {a : Addr} {xs : List V} (h : H a = some (.lst xs)) : Adm H (.ref a)
def spShown : Sp := fun vs H Q _ => ∃ v, vs = [v] ∧ Adm H v ∧ ∀ z : Str, z.length ≤ 1000 → Q (.str z) H
theorem log2_small {i : Int} (h : i.natAbs < 10 ^ 10) : i.natAbs.log2 < 1920 := by
  by_cases z : i.natAbs = 0
  · rw [z]
    decide
  · have q := Nat.log2_self_le z
    have : i.natAbs.log2 < 40 := by
      refine Nat.lt_of_not_le fun c => ?_
      have q2 : 2 ^ 40 ≤ 2 ^ i.natAbs.log2 := Nat.pow_le_pow_right (by decide) c
      have q3 : (10 : Nat) ^ 10 < 2 ^ 40 := by decide
      omega
    omega
theorem text_small {i : Int} (h : i.natAbs < 10 ^ 10) : (toString i : Str).length ≤ 1000 := by
  show (Str.ofString (toString i)).length ≤ 1000
  have q := int_text_length_le10 (k := 10) (by decide) h
  rw [PySem.ofString_length]
  omega
section
variable {P : Program} {w : World} {K : PySem.W.Frag} {mg : Str → Option Value} {base : Heap}
theorem scShown : FnScope ["value"] ["value"] (defScope sShown) := ⟨rfl, rfl, rfl, by decide +kernel, rfl, by decide +kernel, by decide +kernel⟩
theorem ok_shown {f : Addr} {fd : FuncData} (F : Fun K "shown" "shown" sShown f fd) (T : Bn mg) : FnOk P w K mg base CX0 1 f fd ["value"] spShown := by
  refine F.ok scShown (fun vs H Q E h => ?_) (fun cdv A outer s H vs Q E hr h => ?_)
  · obtain ⟨v, rfl, _⟩ := h
    rfl
  · obtain ⟨v, rfl, adm, k⟩ := h
    refine ⟨_, pss_cons (ps_if (pt_val (pe_callB call_isi (by rfl) T.isin (by decide +kernel) (pa_cons (pv 0) (pa_cons (pe_bltn (v := .ty "str") (by rfl) T.tstr (by decide +kernel) rfl) pa_nil))))
        (pss_one (ps_ret (pe_callB call_reprS (by rfl) T.frepr (by decide +kernel) (pa_cons (pv 0) pa_nil)))) pss_nil)
      (pss_cons (ps_if (PW.pt (pw_and (pt_val (pe_callB call_isi (by rfl) T.isin (by decide +kernel) (pa_cons (pv 0) (pa_cons (pe_bltn (v := .ty "int") (by rfl) T.tint (by decide +kernel) rfl) pa_nil))))
          (pw_and1 (pt_cmpR op_lt (pe_callB call_absT (by rfl) T.fabs (by decide +kernel) (pa_cons (pv 0) pa_nil)) (pe_op op_pow pe_int pe_int) (nomark _)))))
        (pss_one (ps_ret (pe_callTy call_strT (by rfl) T.tstr (by decide +kernel) (pa_cons (pv 0) pa_nil)))) pss_nil)
      (pss_one (ps_ret pe_str))), ?_⟩
    cases adm with
    | non =>
      refine ⟨_, rfl, _, _, _, _, false, rfl, .ty "str", .base .non, kit_ty (by decide +kernel), _, rfl, ?_⟩
      refine iteF ?_
      refine ⟨_, rfl, _, _, _, _, false, rfl, .ty "int", .base .non, kit_ty (by decide +kernel), _, rfl, ?_⟩
      refine iteF (iteF ?_)
      exact k _ (by decide)
    | yes =>
      refine ⟨_, rfl, _, _, _, _, false, rfl, .ty "str", .base (.bl _), kit_ty (by decide +kernel), _, rfl, ?_⟩
      refine iteF ?_
      refine ⟨_, rfl, _, _, _, _, true, rfl, .ty "int", .base (.bl _), kit_ty (by decide +kernel), _, rfl, ?_⟩
      refine iteT ⟨_, rfl, .inr ⟨rfl, _, _, rfl, rfl, ⟨by decide, by decide, by decide⟩, _, _, rfl, rfl, _, rfl, ?_⟩⟩
      refine iteT ⟨_, rfl, .inr ⟨rfl, ?_⟩⟩
      exact k _ (by decide)
    | @int i hi =>
      refine ⟨_, rfl, _, _, _, _, false, rfl, .ty "str", .base (.int _), kit_ty (by decide +kernel), _, rfl, ?_⟩
      refine iteF ?_
      refine ⟨_, rfl, _, _, _, _, true, rfl, .ty "int", .base (.int _), kit_ty (by decide +kernel), _, rfl, ?_⟩
      refine iteT ⟨_, rfl, .inl ⟨_, rfl, _, _, rfl, rfl, ⟨by decide, by decide, by decide⟩, _, _, rfl, rfl, _, rfl, ?_⟩⟩
      have lt : (if i < 0 then -i else i) < 10 ^ Int.toNat 30 := by
        have e : ((10 : Int) ^ Int.toNat 30) = 1000000000000000000000000000000 := by decide +kernel
        have h10 : (10 : Nat) ^ 10 = 10000000000 := by decide
        rw [e]
        rw [h10] at hi
        split <;> omega
      rw [decide_eq_true lt]
      refine iteT ⟨_, rfl, .inl ⟨_, rfl, log2_small hi, ?_⟩⟩
      exact k _ (text_small hi)
    | @str x hx =>
      refine ⟨_, rfl, _, _, _, _, true, rfl, .ty "str", .base (.str _), kit_ty (by decide +kernel), _, rfl, ?_⟩
      refine iteT ⟨_, rfl, _, rfl, ?_, ?_⟩
      · rw [sizeLine_eq]
        omega
      · exact k _ hx
    | tup ha =>
      refine ⟨_, rfl, _, _, _, _, false, rfl, .ty "str", .base (.tup ha), kit_ty (by decide +kernel), _, rfl, ?_⟩
      refine iteF ?_
      refine ⟨_, rfl, _, _, _, _, false, rfl, .ty "int", .base (.tup ha), kit_ty (by decide +kernel), _, rfl, ?_⟩
      refine iteF (iteF ?_)
      exact k _ (by decide)
    | lst ha =>
      refine ⟨_, rfl, _, _, _, _, false, rfl, .ty "str", .base (.lst ha), kit_ty (by decide +kernel), _, rfl, ?_⟩
      refine iteF ?_
      refine ⟨_, rfl, _, _, _, _, false, rfl, .ty "int", .base (.lst ha), kit_ty (by decide +kernel), _, rfl, ?_⟩
      refine iteF (iteF ?_)
      exact k _ (by decide)
end
end K80

set_option Elab.async false
set_option linter.all false
set_option maxRecDepth 100000
set_option maxHeartbeats 4000000
namespace K80
open PySem PySem.Spec PyProof.Rows L2 Ux
def BagL (l : Addr) (p : Nat) (g s c : Int) : List V := [.ref l, .int p, .int g, .int s, .int c]
/-- the bag of numbers at b, asked at most n times -/
structure BagAt (H : Hp) (b : Addr) (n : Nat) : Prop where
  ex : ∃ (l : Addr) (ns : List Int) (p : Nat) (g s c : Int), H b = some (.lst (BagL l p g s c)) ∧ H l = some (.lst (ns.map V.int)) ∧ b ≠ l ∧ 0 ≤ g ∧ 0 ≤ s ∧ s < 2147483549 ∧ 0 ≤ c ∧ c ≤ n
/-- all that was told stands, but what is at b -/
def But (b : Addr) (H H' : Hp) : Prop := ∀ x o, H x = some o → x ≠ b → H' x = some o
theorem But.refl {b : Addr} {H : Hp} : But b H H := fun _ _ h _ => h
theorem But.upd {b : Addr} {H H' : Hp} {o : HO} (h : But b H H') : But b H (upd H' b o) := fun x u e n => by
  rw [upd_ne n]
  exact h x u e n
theorem But.trans {b : Addr} {H H1 H2 : Hp} (h : But b H H1) (k : But b H1 H2) : But b H H2 := fun x o e n => k x o (h x o e n) n
def spPull : Sp := fun vs H Q _ => ∃ (b : Addr) (m : Int) (n : Nat), vs = [.ref b, .int m] ∧ 0 < m ∧ m < 1073741824 ∧ BagAt H b n ∧ n ≤ 1000000000 ∧ ∀ (r : Int) (H' : Hp), 0 ≤ r → r < m → BagAt H' b (n + 1) → But b H H' → Q (.int r) H'
section
variable {P : Program} {w : World} {K : PySem.W.Frag} {mg : Str → Option Value} {base : Heap}
theorem scPull : FnScope ["_law_bag_here", "_law_many", "_law_cell", "_law_small", "_law_digit", "_law_seed", "_law_step"] ["_law_bag_here", "_law_many"] (defScope sPull) := ⟨rfl, rfl, rfl, by decide +kernel, rfl, by decide +kernel, by decide +kernel⟩
theorem ok_pull {f : Addr} {fd : FuncData} (F : Fun K "_law_pull" "_law_pull" sPull f fd) (T : Bn mg) : FnOk P w K mg base CX0 1 f fd ["_law_bag_here", "_law_many"] spPull := by
  refine F.ok scPull (fun vs H Q E h => ?_) (fun cdv A outer s H vs Q E hr h => ?_)
  · obtain ⟨b, m, n, rfl, _⟩ := h
    rfl
  · obtain ⟨b, m, n, rfl, m0, m1, ⟨l, ns, p, g, s', c, hb, hl, nbl, g0, s0, s1, c0, c1⟩, hn, k⟩ := h
    refine ⟨_, pss_cons (ps_asg (pe_op op_add (pe_ix ix_list (pv 0) pe_int (fun _ _ => rfl)) pe_int) (pg_sub (pv 0) pe_int set_list))
      (C8.pss_cut (ps_if (PW.pt (pw_and (pt_cmpR op_eq (pe_ix ix_list (pv 0) pe_int (fun _ _ => rfl)) pe_int (nomark _))
            (pw_and1 (pt_cmpR op_lt (pe_ix ix_list (pv 0) pe_int (fun _ _ => rfl)) (pe_callB call_len (by rfl) T.flen (by decide +kernel) (pa_cons (pe_ix ix_list (pv 0) pe_int (fun _ _ => rfl)) pa_nil)) (nomark _)))))
          (pss_cons (ps_set (i := 2) scPull.nd rfl (Or.inl rfl) (pe_ix ix_list (pe_ix ix_list (pv 0) pe_int (fun _ _ => rfl)) (pe_ix ix_list (pv 0) pe_int (fun _ _ => rfl)) (fun _ _ => rfl)))
          (pss_cons (ps_asg (pe_op op_add (pe_ix ix_list (pv 0) pe_int (fun _ _ => rfl)) pe_int) (pg_sub (pv 0) pe_int set_list))
          (pss_one (ps_if (pt_cmpR op_ge (pe_callB call_abs (by rfl) T.fabs (by decide +kernel) (pa_cons (pv 2) pa_nil)) (pe_op op_pow pe_int pe_int) (nomark _))
            (pss_one (ps_asg (pe_callB call_abs (by rfl) T.fabs (by decide +kernel) (pa_cons (pv 2) pa_nil)) (pg_sub (pv 0) pe_int set_list)))
            (pss_cons (ps_set (i := 3) scPull.nd rfl (Or.inl rfl) (pe_op op_add (pe_op op_mul (pe_op op_mod (pe_callTy call_int1 (by rfl) T.tint (by decide +kernel) (pa_cons (pv 2) pa_nil)) pe_int) pe_int) pe_int))
            (pss_one (ps_asg (pe_op op_mod (pe_callTy call_int1 (by rfl) T.tint (by decide +kernel) (pa_cons (pe_op op_add (pe_op op_mul (pe_ix ix_list (pv 0) pe_int (fun _ _ => rfl)) pe_int) (pv 3)) pa_nil)) pe_int) (pg_sub (pv 0) pe_int set_list))))))))
          pss_nil)
      (pss_cons (ps_if (pt_cmpR op_gt (pe_ix ix_list (pv 0) pe_int (fun _ _ => rfl)) pe_int (nomark _))
          (pss_cons (ps_set (i := 4) scPull.nd rfl (Or.inl rfl) (pe_op op_mod (pe_callTy call_int1 (by rfl) T.tint (by decide +kernel) (pa_cons (pe_ix ix_list (pv 0) pe_int (fun _ _ => rfl)) pa_nil)) (pv 1)))
          (pss_cons (ps_asg (pe_op op_fdiv (pe_ix ix_list (pv 0) pe_int (fun _ _ => rfl)) (pv 1)) (pg_sub (pv 0) pe_int set_list))
          (pss_one (ps_ret (pv 4))))) pss_nil)
      (pss_cons (ps_set (i := 5) scPull.nd rfl (Or.inl rfl) (pe_ix ix_list (pv 0) pe_int (fun _ _ => rfl)))
      (pss_cons (ps_set (i := 6) scPull.nd rfl (Or.inl rfl) (pe_op op_add (pe_op op_add (pe_op op_mul (pv 5) pe_int) (pe_op op_mul (pe_ix ix_list (pv 0) pe_int (fun _ _ => rfl)) pe_int)) pe_int))
      (pss_cons (ps_asg (pe_op op_mod (pe_callTy call_int1 (by rfl) T.tint (by decide +kernel) (pa_cons (pe_op op_add (pe_op op_mul (pe_op op_mul (pv 5) (pv 5)) pe_int) (pv 6)) pa_nil)) pe_int) (pg_sub (pv 0) pe_int set_list))
      (pss_one (ps_ret (pe_op op_mod (pe_callTy call_int1 (by rfl) T.tint (by decide +kernel) (pa_cons (pe_op op_add (pe_op op_fdiv (pe_ix ix_list (pv 0) pe_int (fun _ _ => rfl)) pe_int) (pe_op op_mul (pe_op op_mod (pe_callTy call_int1 (by rfl) T.tint (by decide +kernel) (pa_cons (pe_ix ix_list (pv 0) pe_int (fun _ _ => rfl)) pa_nil)) pe_int) pe_int)) pa_nil)) (pv 1))))))))), ?_⟩
    -- bag[4] = bag[4] + 1
    refine ⟨_, rfl, b, _, 4, _, rfl, rfl, .of hb, rfl, _, _, rfl, rfl, _, rfl, b, _, 4, 4, rfl, rfl, hb, rfl, ?_⟩
    have hb1 : upd H b (.lst (BagL l p g s' (c + 1))) b = some (.lst (BagL l p g s' (c + 1))) := upd_same
    have hl1 : upd H b (.lst (BagL l p g s' (c + 1))) l = some (.lst (ns.map V.int)) := (upd_ne (Ne.symm nbl)).trans hl
    have f1 : But b H (upd H b (.lst (BagL l p g s' (c + 1)))) := But.refl.upd
    -- the first if: the bag again
    refine ⟨fun σ H2 => ∃ (v2 v3 : Option V) (p : Nat) (g s : Int), σ = [some (.ref b), some (.int m), v2, v3, none, none, none] ∧ H2 b = some (.lst (BagL l p g s (c + 1))) ∧ H2 l = some (.lst (ns.map V.int)) ∧ 0 ≤ g ∧ 0 ≤ s ∧ s < 2147483549 ∧ But b H H2, ?_, ?_⟩
    · refine ⟨_, rfl, b, _, 2, _, rfl, rfl, .of hb1, rfl, rfl, _, rfl, ?_⟩
      by_cases hg : (V.int g) = V.int 0
      · rw [decide_eq_true hg]
        refine iteT ⟨_, rfl, b, _, 1, _, rfl, rfl, .of hb1, rfl, _, rfl, b, _, 0, _, rfl, rfl, .of hb1, rfl, _, _, rfl, .inl ⟨_, .of hl1, rfl⟩, _, _, rfl, rfl, _, rfl, ?_⟩
        by_cases hp : (p : Int) < ((ns.map V.int).length : Nat)
        · rw [decide_eq_true hp]
          have hp' : p < ns.length := by
            rw [List.length_map] at hp
            omega
          have hat : (ns.map V.int)[p]? = some (V.int ns[p]) := by
            rw [List.getElem?_map, List.getElem?_eq_getElem hp']
            rfl
          refine iteT ⟨_, rfl, b, _, 0, _, rfl, rfl, .of hb1, rfl, _, rfl, b, _, 1, _, rfl, rfl, .of hb1, rfl, l, _, _, _, rfl, rfl, .of hl1, atI_nat hat, ?_⟩
          refine ⟨_, rfl, b, _, 1, _, rfl, rfl, .of hb1, rfl, _, _, rfl, rfl, _, rfl, b, _, 1, 1, rfl, rfl, hb1, rfl, ?_⟩
          generalize ns[p] = z
          have hb2 : ∀ H2 : Hp, upd H2 b (.lst (BagL l (p + 1) g s' (c + 1))) b = some (.lst (BagL l (p + 1) g s' (c + 1))) := fun _ => upd_same
          refine ⟨_, rfl, _, rfl, _, _, rfl, rfl, ⟨by decide, by decide, by decide⟩, _, _, rfl, rfl, _, rfl, ?_⟩
          refine ite2 (fun big => ?_) (fun _ => ?_)
          · refine ⟨_, rfl, _, rfl, _, rfl, b, _, 2, 2, rfl, rfl, hb2 _, rfl, ?_⟩
            refine ⟨_, _, p + 1, _, s', rfl, upd_same, ?_, ?_, s0, s1, ((f1.upd).upd)⟩
            · rw [upd_ne (Ne.symm nbl), upd_ne (Ne.symm nbl)]
              exact hl1
            · show (0 : Int) ≤ if z < 0 then -z else z
              split <;> omega
          · refine ⟨_, rfl, .inl ⟨_, rfl, _, _, rfl, rfl, (by show (0 : Int) < 1000000007; decide), _, _, rfl, rfl, ?_, _, _, rfl, rfl, ?_⟩⟩
            · have q1 := Int.emod_nonneg z (show (1000000007 : Int) ≠ 0 by decide)
              have q2 := Int.emod_lt_of_pos z (show (0 : Int) < 1000000007 by decide)
              exact .inl ⟨by omega, by omega⟩
            · refine ⟨_, rfl, b, _, 3, _, rfl, rfl, .of (hb2 _), rfl, _, _, rfl, rfl, .inl ⟨by omega, by omega⟩, _, rfl, _, _, rfl, rfl, .inl ⟨_, rfl, _, _, rfl, rfl, (by show (0 : Int) < 2147483549; decide), ?_⟩⟩
              refine ⟨_, rfl, b, _, 3, 3, rfl, rfl, hb2 _, rfl, ?_⟩
              refine ⟨_, _, p + 1, g, _, rfl, upd_same, ?_, g0, Int.emod_nonneg _ (by decide), Int.emod_lt_of_pos _ (by decide), ((f1.upd).upd)⟩
              rw [upd_ne (Ne.symm nbl), upd_ne (Ne.symm nbl)]
              exact hl1
        · rw [decide_eq_false hp]
          refine iteF ?_
          exact ⟨_, _, p, g, s', rfl, hb1, hl1, g0, s0, s1, f1⟩
      · rw [decide_eq_false hg]
        refine iteF (iteF ?_)
        exact ⟨_, _, p, g, s', rfl, hb1, hl1, g0, s0, s1, f1⟩
    · clear hb1 hl1 f1 g0 s0 s1
      rintro σ H2 ⟨v2, v3, p, g, s, rfl, hb2, hl2, g0, s0, s1, f2⟩
      refine ⟨_, rfl, b, _, 2, _, rfl, rfl, .of hb2, rfl, _, _, rfl, rfl, _, rfl, ?_⟩
      refine ite2 (fun big => ?_) (fun _ => ?_)
      · refine ⟨_, rfl, b, _, 2, _, rfl, rfl, .of hb2, rfl, .inl ⟨_, rfl, _, rfl, _, _, rfl, rfl, m0, ?_⟩⟩
        refine ⟨_, rfl, b, _, 2, _, rfl, rfl, .of hb2, rfl, _, rfl, _, _, rfl, rfl, ⟨m0, m1⟩, _, rfl, b, _, 2, 2, rfl, rfl, hb2, rfl, ?_⟩
        refine ⟨_, rfl, ?_⟩
        refine k _ _ (Int.emod_nonneg _ (by omega)) (Int.emod_lt_of_pos _ m0) ⟨l, ns, p, g / m, s, c + 1, upd_same, ?_, nbl, Int.ediv_nonneg g0 (by omega), s0, s1, by omega, by omega⟩ f2.upd
        rw [upd_ne (Ne.symm nbl)]
        exact hl2
      · refine ⟨_, rfl, b, _, 3, _, rfl, rfl, .of hb2, rfl, ?_⟩
        refine ⟨_, rfl, _, _, rfl, rfl, .inl ⟨by omega, by omega⟩, _, rfl, b, _, 4, _, rfl, rfl, .of hb2, rfl, _, _, rfl, rfl, .inl ⟨by omega, by omega⟩, _, _, rfl, rfl, _, _, rfl, rfl, ?_⟩
        have sq : s * s ≤ 2147483549 * 2147483549 := Int.mul_le_mul (by omega) (by omega) s0 (by decide)
        have sq0 : 0 ≤ s * s := Int.mul_nonneg s0 s0
        refine ⟨_, rfl, _, rfl, _, _, rfl, rfl, .inl ⟨by omega, by omega⟩, _, _, rfl, rfl, .inl ⟨by omega, by omega⟩, _, rfl, _, _, rfl, rfl, .inl ⟨_, rfl, _, _, rfl, rfl, (by show (0 : Int) < 2147483549; decide), ?_⟩⟩
        refine ⟨_, rfl, b, _, 3, 3, rfl, rfl, hb2, rfl, ?_⟩
        have hb3 : ∀ y, upd H2 b (.lst (BagL l p g y (c + 1))) b = some (.lst (BagL l p g y (c + 1))) := fun _ => upd_same
        refine ⟨_, rfl, b, _, 3, _, rfl, rfl, .of (hb3 _), rfl, _, _, rfl, rfl, ⟨by decide, by decide⟩, _, rfl, b, _, 3, _, rfl, rfl, .of (hb3 _), rfl, .inl ⟨_, rfl, _, _, rfl, rfl, (by show (0 : Int) < 7901; decide), _, _, rfl, rfl, ?_, _, _, rfl, rfl, .inl ⟨_, rfl, _, rfl, _, _, rfl, rfl, m0, ?_⟩⟩⟩
        · refine .inr ⟨by decide, by decide⟩
        · refine k _ _ (Int.emod_nonneg _ (by omega)) (Int.emod_lt_of_pos _ m0) ⟨l, ns, p, g, _, c + 1, upd_same, ?_, nbl, g0, Int.emod_nonneg _ (by decide), Int.emod_lt_of_pos _ (by decide), by omega, by omega⟩ f2.upd
          rw [upd_ne (Ne.symm nbl)]
          exact hl2
end
end K80

set_option Elab.async false
set_option linter.all false
set_option maxRecDepth 100000
set_option maxHeartbeats 4000000
namespace K80
open PySem PySem.Spec PyProof.Rows L2 Ux
abbrev sSame : Stmt := top 23
/-- a def of the text under its name -/
structure Dn (K : PySem.W.Frag) (mg : Str → Option Value) (x : Str) (f : Addr) : Prop where
  gl : mg x = some (.ref f)
  kp : PySem.W.keepIn K (.ref f) = true
def spBag (K : PySem.W.Frag) : Sp := fun vs H Q _ => ∃ (a : Addr) (ns : List Int), vs = [.ref a] ∧ SqL K H a (ns.map V.int) ∧ ∀ (b : Addr) (H' : Hp), BagAt H' b 0 → H b = none → Same H H' → Q (.ref b) H'
def spOf : Sp := fun vs H Q _ => ∃ (b t : Addr) (n : Nat) (xs : List V), vs = [.ref b, .ref t] ∧ BagAt H b n ∧ n ≤ 1000000000 ∧ t ≠ b ∧ H t = some (.lst xs) ∧ 0 < xs.length ∧ xs.length ≤ 1000 ∧ ∀ (i : Nat) (v : V) (H' : Hp), xs[i]? = some v → BagAt H' b (n + 1) → But b H H' → Q v H'
theorem cut_ints (ns : List Int) (lo hi : Option Int) : ∃ ms : List Int, cutV (ns.map V.int) lo hi = ms.map V.int := by
  unfold cutV
  rw [← List.map_drop, ← List.map_take]
  exact ⟨_, rfl⟩
section
variable {P : Program} {w : World} {K : PySem.W.Frag} {mg : Str → Option Value} {base : Heap}
theorem scBag : FnScope ["_law_script"] ["_law_script"] (defScope sBag) := ⟨rfl, rfl, rfl, by decide +kernel, rfl, by decide +kernel, by decide +kernel⟩
theorem ok_bag {f : Addr} {fd : FuncData} (F : Fun K "_law_bag" "_law_bag" sBag f fd) (T : Bn mg) : FnOk P w K mg base CX0 1 f fd ["_law_script"] (spBag K) := by
  refine F.ok scBag (fun vs H Q E h => ?_) (fun cdv A outer s H vs Q E hr h => ?_)
  · obtain ⟨a, ns, rfl, _⟩ := h
    rfl
  · obtain ⟨a, ns, rfl, hS, k⟩ := h
    refine ⟨_, pss_one (ps_ret (pe_lst (pa_cons (pe_callTy call_list_of (by rfl) T.tlist (by decide +kernel) (pa_cons (pe_slice sl_list (pv 0) po_none (po_some pe_int)) pa_nil)) (pa_cons pe_int (pa_cons pe_int (pa_cons pe_int (pa_cons pe_int pa_nil))))))), ?_⟩
    obtain ⟨ms, hm⟩ := cut_ints ns none (some 63)
    refine ⟨_, rfl, _, rfl, a, _, rfl, hS, fun p hp => ?_⟩
    rw [hm]
    refine ⟨p, _, rfl, .inl (SqL.of upd_same), fun l hl => ?_⟩
    refine ⟨(by show 5 ≤ sizeLine; decide), fun b hb => ?_⟩
    have nbl : b ≠ l := (ne_of_none upd_same hb).symm
    refine k b _ ⟨l, ms, 0, 0, 12004, 0, upd_same, ?_, nbl, by decide, by decide, by decide, by decide, by decide⟩ ?_ ?_
    · rw [upd_ne nbl.symm]
      exact upd_same
    · have e1 : H b ≠ none → False := fun z => by
        cases e : H b with
        | none => exact z e
        | some o =>
          have q : (upd (upd H p (.lst (ms.map V.int))) l (.lst (ms.map V.int))) b = some o := by
            rw [upd_ne nbl, upd_ne (ne_of_none e hp)]
            exact e
          rw [q] at hb
          cases hb
      exact Classical.byContradiction e1
    · intro c o e
      have h1 := ne_of_none e hp
      have s1 : upd H p (.lst (ms.map V.int)) c = some o := by
        rw [upd_ne h1]
        exact e
      have h2 := ne_of_none s1 hl
      have s2 : upd (upd H p (.lst (ms.map V.int))) l (.lst (ms.map V.int)) c = some o := by
        rw [upd_ne h2]
        exact s1
      rw [upd_ne (ne_of_none s2 hb)]
      exact s2
theorem scOf : FnScope ["_law_bag_here", "_law_things"] ["_law_bag_here", "_law_things"] (defScope sOf) := ⟨rfl, rfl, rfl, by decide +kernel, rfl, by decide +kernel, by decide +kernel⟩
theorem ok_of {f fP : Addr} {fd fdP : FuncData} (F : Fun K "_law_of" "_law_of" sOf f fd) (T : Bn mg) (D : Dn K mg "_law_pull" fP) (G : FnOk P w K mg base CX0 1 fP fdP ["_law_bag_here", "_law_many"] spPull) (bP : Binds K fdP ["_law_bag_here", "_law_many"] []) :
    FnOk P w K mg base CX0 2 f fd ["_law_bag_here", "_law_things"] spOf := by
  refine F.ok scOf (fun vs H Q E h => ?_) (fun cdv A outer s H vs Q E hr h => ?_)
  · obtain ⟨b, t, n, xs, rfl, _⟩ := h
    rfl
  · obtain ⟨b, t, n, xs, rfl, B, hn, nt, ht, l0, l1, k⟩ := h
    refine ⟨_, pss_one (ps_ret (pe_ix ix_list (pv 1) (pe_call G hr (by rfl) D.gl D.kp bP .nil pass0 (pa_cons (pv 0) (pa_cons (pe_callB call_len (by rfl) T.flen (by decide +kernel) (pa_cons (pv 1) pa_nil)) pa_nil))) (fun _ _ => rfl))), ?_⟩
    refine ⟨_, rfl, _, rfl, _, rfl, _, _, rfl, .inl ⟨_, .of ht, rfl⟩, b, _, n, rfl, by omega, by omega, B, hn, fun r H' r0 r1 B' f' => ?_⟩
    have hi : r.toNat < xs.length := by omega
    have q := List.getElem?_eq_getElem hi
    generalize xs[r.toNat] = y at q
    refine ⟨t, xs, r, y, rfl, rfl, .of (f' _ _ ht nt), ?_, k r.toNat y H' q B' f'⟩
    have z := atI_nat q
    rw [Int.toNat_of_nonneg r0] at z
    exact z
/-! ### same -/
/-- u and v are like data, less than n deep -/
def Like (H : Hp) : Nat → V → V → Prop
  | 0, _, _ => False
  | n + 1, u, v => (u = v ∧ (v = .non ∨ (∃ b, v = .bl b) ∨ (∃ i, v = .int i) ∨ ∃ x, v = .str x)) ∨
    ∃ (a b : Addr) (xs ys : List V), u = .ref a ∧ v = .ref b ∧ ((H a = some (.tup xs) ∧ H b = some (.tup ys)) ∨ (H a = some (.lst xs) ∧ H b = some (.lst ys))) ∧ xs.length = ys.length ∧ xs.length ≤ 1000 ∧ ∀ (i : Nat) (x y : V), xs[i]? = some x → ys[i]? = some y → Like H n x y
theorem Like.mono {H H' : Hp} (s : Same H H') : ∀ {n : Nat} {u v : V}, Like H n u v → Like H' n u v
  | 0, _, _, h => h.elim
  | n + 1, u, v, h => by
    rcases h with h | ⟨a, b, xs, ys, e1, e2, hh, l1, l2, k⟩
    · exact .inl h
    · refine .inr ⟨a, b, xs, ys, e1, e2, ?_, l1, l2, fun i x y hx hy => Like.mono s (k i x y hx hy)⟩
      rcases hh with ⟨h1, h2⟩ | ⟨h1, h2⟩
      · exact .inl ⟨s _ _ h1, s _ _ h2⟩
      · exact .inr ⟨s _ _ h1, s _ _ h2⟩
def spSame (n : Nat) : Sp := fun vs H Q _ => ∃ u v, vs = [u, v] ∧ Like H n u v ∧ ∀ H', Same H H' → Q (.bl true) H'
theorem Same.new {H H' : Hp} {p : Addr} {o : HO} (s : Same H H') (hp : H' p = none) : Same H (upd H' p o) := fun c u e => by
  rw [upd_ne (ne_of_none (s c u e) hp)]
  exact s c u e
theorem scSame : FnScope ["_law_found", "_law_due", "_law_a", "_law_b"] ["_law_found", "_law_due"] (defScope sSame) := ⟨rfl, rfl, rfl, by decide +kernel, rfl, by decide +kernel, by decide +kernel⟩
theorem walk_zipT {a b : Addr} {xs ys : List V} {n : Nat} (hn : n = min xs.length ys.length) : Walk (RZ.ItzT K a b) n (fun H => SqT K H a xs ∧ SqT K H b ys) (YPair (fun i => xs[i]?) (fun i => ys[i]?)) := by
  subst hn
  refine ⟨fun i _ hi q => ?_, fun _ q => ⟨xs, ys, q.1, q.2, ?_⟩, fun i H v H' _ q y => ?_⟩
  · have h1 : i < xs.length := by omega
    have h2 : i < ys.length := by omega
    refine ⟨xs, ys, xs[i], ys[i], q.1, q.2, List.getElem?_eq_getElem h1, List.getElem?_eq_getElem h2⟩
  · omega
  · obtain ⟨T, x, z, h1, h2, h3, h4, h5⟩ := y
    exact ⟨T, x, z, h1, h2, h3, h4 xs q.1, h5 ys q.2⟩
theorem all_true (n : Nat) : (List.replicate n true).all id = true := by
  induction n with
  | zero => rfl
  | succ n ih =>
    rw [List.replicate_succ, List.all_cons, ih]
    rfl
theorem any_no {T : String} (h1 : kitB T "list" = some false) (h2 : kitB T "tuple" = some false) : PySem.W.kitAny K (.type T) [.type "list", .type "tuple"] = some false :=
  kitAny_cons (kit_ty h1) (fun _ => kitAny_cons (kit_ty h2) (fun _ => kitAny_nil) (fun z => nomatch z)) (fun z => nomatch z)
theorem any_lst : PySem.W.kitAny K (.type "list") [.type "list", .type "tuple"] = some true :=
  kitAny_cons (b := true) (kit_ty (by decide +kernel)) (fun z => nomatch z) (fun _ => rfl)
theorem any_tup : PySem.W.kitAny K (.type "tuple") [.type "list", .type "tuple"] = some true :=
  kitAny_cons (b := false) (kit_ty (by decide +kernel)) (fun _ => kitAny_cons (b := true) (kit_ty (by decide +kernel)) (fun z => nomatch z) (fun _ => rfl)) (fun z => nomatch z)
theorem lt_tup : Paired ClsV [V.ty "list", V.ty "tuple"] [Value.type "list", Value.type "tuple"] := .cons (.ty _) (.cons (.ty _) .nil)
theorem ok_same_step {f : Addr} {fd : FuncData} {n k : Nat} (F : Fun K "_law_same" "_law_same" sSame f fd) (T : Bn mg) (D : Dn K mg "_law_same" f) (G : FnOk P w K mg base CX0 k f fd ["_law_found", "_law_due"] (spSame n)) (bS : Binds K fd ["_law_found", "_law_due"] []) :
    FnOk P w K mg base CX0 (k + 1) f fd ["_law_found", "_law_due"] (spSame (n + 1)) := by
  refine F.ok scSame (fun vs H Q E h => ?_) (fun cdv A outer s H vs Q E hr h => ?_)
  · obtain ⟨u, v, rfl, _⟩ := h
    rfl
  · obtain ⟨u, v, rfl, lk, kk⟩ := h
    refine ⟨_, pss_cons (ps_if (PW.pt (pw_or (pt_cmpR op_isN (pv 1) pe_non (nomark _)) (pw_or1 (pt_cmpR op_isN (pv 0) pe_non (nomark _)))))
        (pss_one (ps_ret (pe_and (pe_cmpR op_isN (pv 1) pe_non (nomark _)) (pe_one (pe_cmpR op_isN (pv 0) pe_non (nomark _)))))) pss_nil)
      (pss_cons (ps_if (PW.pt (pw_or (pt_val (pe_callB call_isi (by rfl) T.isin (by decide +kernel) (pa_cons (pv 1) (pa_cons (pe_bltn (v := .ty "bool") (by rfl) T.tbool (by decide +kernel) rfl) pa_nil)))) (pw_or1 (pt_val (pe_callB call_isi (by rfl) T.isin (by decide +kernel) (pa_cons (pv 0) (pa_cons (pe_bltn (v := .ty "bool") (by rfl) T.tbool (by decide +kernel) rfl) pa_nil)))))))
        (pss_one (ps_ret (pe_and (pe_callB call_isi (by rfl) T.isin (by decide +kernel) (pa_cons (pv 1) (pa_cons (pe_bltn (v := .ty "bool") (by rfl) T.tbool (by decide +kernel) rfl) pa_nil))) (pe_and (pe_callB call_isi (by rfl) T.isin (by decide +kernel) (pa_cons (pv 0) (pa_cons (pe_bltn (v := .ty "bool") (by rfl) T.tbool (by decide +kernel) rfl) pa_nil))) (pe_one (pe_cmpR op_eq (pv 0) (pv 1) (nomark _))))))) pss_nil)
      (pss_cons (ps_if (PW.pt (pw_or (pt_val (pe_callB call_isiT (by rfl) T.isin (by decide +kernel) (pa_cons (pv 1) (pa_cons (pe_tup (pa_cons (pe_bltn (v := .ty "list") (by rfl) T.tlist (by decide +kernel) rfl) (pa_cons (pe_bltn (v := .ty "tuple") (by rfl) T.ttuple (by decide +kernel) rfl) pa_nil))) pa_nil)))) (pw_or1 (pt_val (pe_callB call_isiT (by rfl) T.isin (by decide +kernel) (pa_cons (pv 0) (pa_cons (pe_tup (pa_cons (pe_bltn (v := .ty "list") (by rfl) T.tlist (by decide +kernel) rfl) (pa_cons (pe_bltn (v := .ty "tuple") (by rfl) T.ttuple (by decide +kernel) rfl) pa_nil))) pa_nil)))))))
        (pss_cons (ps_if (pt_cmpR op_ne (pe_callB call_isi (by rfl) T.isin (by decide +kernel) (pa_cons (pv 1) (pa_cons (pe_bltn (v := .ty "list") (by rfl) T.tlist (by decide +kernel) rfl) pa_nil))) (pe_callB call_isi (by rfl) T.isin (by decide +kernel) (pa_cons (pv 0) (pa_cons (pe_bltn (v := .ty "list") (by rfl) T.tlist (by decide +kernel) rfl) pa_nil))) (nomark _)) (pss_one (ps_ret pe_bl)) pss_nil)
        (pss_cons (ps_if (PW.pt (pw_or (pt_cmpR op_ne (pe_callB call_isi (by rfl) T.isin (by decide +kernel) (pa_cons (pv 1) (pa_cons (pe_bltn (v := .ty "tuple") (by rfl) T.ttuple (by decide +kernel) rfl) pa_nil))) (pe_callB call_isi (by rfl) T.isin (by decide +kernel) (pa_cons (pv 0) (pa_cons (pe_bltn (v := .ty "tuple") (by rfl) T.ttuple (by decide +kernel) rfl) pa_nil))) (nomark _)) (pw_or1 (pt_cmpR op_ne (pe_callB call_len (by rfl) T.flen (by decide +kernel) (pa_cons (pv 0) pa_nil)) (pe_callB call_len (by rfl) T.flen (by decide +kernel) (pa_cons (pv 1) pa_nil)) (nomark _))))) (pss_one (ps_ret pe_bl)) pss_nil)
        (pss_one (ps_ret (pe_callB (cr_all rfl) (by rfl) T.fall (by decide +kernel) (pa_cons (pe_lc (own := [("_law_a", 2), ("_law_b", 3)]) (g := gTup K 2 (gCons (gName 2) (gCons (gName 3) gNil))) rfl scSame.nd (RZ.pi_zipA (by rfl) T.fzip (pa_cons (pv 0) (pa_cons (pv 1) pa_nil))) (blkOk_by (own := [("_law_a", 2), ("_law_b", 3)]) (N := ["_law_found", "_law_due", "_law_a", "_law_b"]) (sc := defScope sSame) (by decide +kernel))
            (fun _ _ _ _ _ => pg_tup (n := 2) rfl (pgs_cons (pg_name (i := 2) scSame.nd rfl (Or.inl rfl) (hf := Or.inr rfl)) (pgs_cons (pg_name (i := 3) scSame.nd rfl (Or.inl rfl) (hf := Or.inr rfl)) pgs_nil))) (fun _ _ _ _ _ => pts_nil)
            (fun _ _ _ _ _ => pe_call G hr (by rfl) D.gl D.kp bS .nil pass0 (pa_cons (pv 2) (pa_cons (pv 3) pa_nil)))) pa_nil)))))) pss_nil)
      (pss_cons (ps_if (pt_cmpR op_ne (pe_callB call_isi (by rfl) T.isin (by decide +kernel) (pa_cons (pv 1) (pa_cons (pe_bltn (v := .ty "int") (by rfl) T.tint (by decide +kernel) rfl) pa_nil))) (pe_callB call_isi (by rfl) T.isin (by decide +kernel) (pa_cons (pv 0) (pa_cons (pe_bltn (v := .ty "int") (by rfl) T.tint (by decide +kernel) rfl) pa_nil))) (nomark _)) (pss_one (ps_ret pe_bl)) pss_nil)
      (pss_one (ps_ret (pe_and (pe_cmpR op_eq (pe_callB call_isi (by rfl) T.isin (by decide +kernel) (pa_cons (pv 1) (pa_cons (pe_bltn (v := .ty "str") (by rfl) T.tstr (by decide +kernel) rfl) pa_nil))) (pe_callB call_isi (by rfl) T.isin (by decide +kernel) (pa_cons (pv 0) (pa_cons (pe_bltn (v := .ty "str") (by rfl) T.tstr (by decide +kernel) rfl) pa_nil))) (nomark _)) (pe_one (pe_cmpR op_eq (pv 0) (pv 1) (nomark _))))))))), ?_⟩
    rcases lk with ⟨rfl, (rfl | ⟨b, rfl⟩ | ⟨i, rfl⟩ | ⟨x, rfl⟩)⟩ | ⟨a, b, xs, ys, rfl, rfl, hh, l1, l2, like⟩
    · refine ⟨_, rfl, rfl, _, rfl, iteT ?_⟩
      exact ⟨_, rfl, rfl, _, rfl, iteT ⟨_, rfl, rfl, kk _ (Same.refl _)⟩⟩
    · refine ⟨_, rfl, rfl, _, rfl, iteF ⟨_, rfl, rfl, _, rfl, iteF ?_⟩⟩
      refine ⟨_, rfl, _, _, _, _, true, rfl, .ty "bool", .base (.bl _), kit_ty (by decide +kernel), _, rfl, iteT ?_⟩
      refine ⟨_, rfl, _, _, _, _, true, rfl, .ty "bool", .base (.bl _), kit_ty (by decide +kernel), _, rfl, iteT ⟨_, rfl, _, _, _, _, true, rfl, .ty "bool", .base (.bl _), kit_ty (by decide +kernel), _, rfl, iteT ⟨_, rfl, _, rfl, rfl, ?_⟩⟩⟩
      rw [decide_eq_true rfl]
      exact kk _ (Same.refl _)
    · refine ⟨_, rfl, rfl, _, rfl, iteF ⟨_, rfl, rfl, _, rfl, iteF ?_⟩⟩
      refine ⟨_, rfl, _, _, _, _, false, rfl, .ty "bool", .base (.int _), kit_ty (by decide +kernel), _, rfl, iteF ⟨_, rfl, _, _, _, _, false, rfl, .ty "bool", .base (.int _), kit_ty (by decide +kernel), _, rfl, iteF ?_⟩⟩
      refine ⟨_, rfl, (by show 2 ≤ sizeLine; decide), fun p hp => ⟨_, p, _, _, _, false, rfl, upd_same, lt_tup, .base (.int _), any_no (by decide +kernel) (by decide +kernel), _, rfl, iteF ⟨_, rfl, (by show 2 ≤ sizeLine; decide), fun p2 hp2 => ⟨_, p2, _, _, _, false, rfl, upd_same, lt_tup, .base (.int _), any_no (by decide +kernel) (by decide +kernel), _, rfl, iteF ?_⟩⟩⟩⟩
      have s2 := (Same.new (Same.new (Same.refl H) hp (o := .tup [V.ty "list", V.ty "tuple"])) hp2 (o := .tup [V.ty "list", V.ty "tuple"]))
      refine ⟨_, rfl, _, _, _, _, true, rfl, .ty "int", .base (.int _), kit_ty (by decide +kernel), _, rfl, _, _, _, _, true, rfl, .ty "int", .base (.int _), kit_ty (by decide +kernel), rfl, _, rfl, iteF ?_⟩
      refine ⟨_, rfl, _, _, _, _, false, rfl, .ty "str", .base (.int _), kit_ty (by decide +kernel), _, rfl, _, _, _, _, false, rfl, .ty "str", .base (.int _), kit_ty (by decide +kernel), rfl, _, rfl, iteT ⟨_, rfl, _, rfl, rfl, ?_⟩⟩
      rw [decide_eq_true rfl]
      exact kk _ s2
    · refine ⟨_, rfl, rfl, _, rfl, iteF ⟨_, rfl, rfl, _, rfl, iteF ?_⟩⟩
      refine ⟨_, rfl, _, _, _, _, false, rfl, .ty "bool", .base (.str _), kit_ty (by decide +kernel), _, rfl, iteF ⟨_, rfl, _, _, _, _, false, rfl, .ty "bool", .base (.str _), kit_ty (by decide +kernel), _, rfl, iteF ?_⟩⟩
      refine ⟨_, rfl, (by show 2 ≤ sizeLine; decide), fun p hp => ⟨_, p, _, _, _, false, rfl, upd_same, lt_tup, .base (.str _), any_no (by decide +kernel) (by decide +kernel), _, rfl, iteF ⟨_, rfl, (by show 2 ≤ sizeLine; decide), fun p2 hp2 => ⟨_, p2, _, _, _, false, rfl, upd_same, lt_tup, .base (.str _), any_no (by decide +kernel) (by decide +kernel), _, rfl, iteF ?_⟩⟩⟩⟩
      have s2 := (Same.new (Same.new (Same.refl H) hp (o := .tup [V.ty "list", V.ty "tuple"])) hp2 (o := .tup [V.ty "list", V.ty "tuple"]))
      refine ⟨_, rfl, _, _, _, _, false, rfl, .ty "int", .base (.str _), kit_ty (by decide +kernel), _, rfl, _, _, _, _, false, rfl, .ty "int", .base (.str _), kit_ty (by decide +kernel), rfl, _, rfl, iteF ?_⟩
      refine ⟨_, rfl, _, _, _, _, true, rfl, .ty "str", .base (.str _), kit_ty (by decide +kernel), _, rfl, _, _, _, _, true, rfl, .ty "str", .base (.str _), kit_ty (by decide +kernel), rfl, _, rfl, iteT ⟨_, rfl, _, rfl, rfl, ?_⟩⟩
      rw [decide_eq_true rfl]
      exact kk _ s2
    · refine ⟨_, rfl, rfl, _, rfl, iteF ⟨_, rfl, rfl, _, rfl, iteF ?_⟩⟩
      rcases hh with ⟨ha, hb⟩ | ⟨ha, hb⟩
      · refine ⟨_, rfl, _, _, _, _, false, rfl, .ty "bool", .base (.tup hb), kit_ty (by decide +kernel), _, rfl, iteF ⟨_, rfl, _, _, _, _, false, rfl, .ty "bool", .base (.tup ha), kit_ty (by decide +kernel), _, rfl, iteF ?_⟩⟩
        refine ⟨_, rfl, (by show 2 ≤ sizeLine; decide), fun p hp => ?_⟩
        have s1 := Same.new (Same.refl H) hp (o := .tup [V.ty "list", V.ty "tuple"])
        have ha1 := s1 _ _ ha
        have hb1 := s1 _ _ hb
        refine ⟨_, p, _, _, _, true, rfl, upd_same, lt_tup, .base (.tup hb1), any_tup, _, rfl, iteT ?_⟩
        refine ⟨_, rfl, _, _, _, _, false, rfl, .ty "list", .base (.tup hb1), kit_ty (by decide +kernel), _, rfl, _, _, _, _, false, rfl, .ty "list", .base (.tup ha1), kit_ty (by decide +kernel), rfl, _, rfl, iteF ?_⟩
        refine ⟨_, rfl, _, _, _, _, true, rfl, .ty "tuple", .base (.tup hb1), kit_ty (by decide +kernel), _, rfl, _, _, _, _, true, rfl, .ty "tuple", .base (.tup ha1), kit_ty (by decide +kernel), rfl, _, rfl, iteF ⟨_, rfl, _, _, rfl, .inr ⟨_, .of ha1, rfl⟩, _, rfl, _, _, rfl, .inr ⟨_, .of hb1, rfl⟩, ?_⟩⟩
        refine ⟨rfl, _, rfl, ?_⟩
        rw [l1, decide_eq_true rfl]
        refine iteF ?_
        refine ⟨_, rfl, _, rfl, a, b, xs, ys, rfl, .inr ⟨SqT.of ha1, SqT.of hb1, fun D hD => ?_⟩⟩
        refine lc_it (walk_zipT (n := ys.length) (by rw [l1, Nat.min_self])) (fun i H' => Same (upd H p (.tup [V.ty "list", V.ty "tuple"])) H' ∧ H' D = some (.lst ((List.replicate i true).map V.bl))) ⟨Same.new (Same.refl _) hD, upd_same⟩ (fun i H' _ z => ⟨SqT.of (z.1 _ _ ha1), SqT.of (z.1 _ _ hb1)⟩) ?_ ?_
        · rintro i x H2 H3 hi ⟨t2, d2⟩ ⟨T1, y, z, rfl, nT, rfl, hy, hz⟩
          have t3 := Same.new t2 nT (o := .tup [y, z])
          refine ⟨T1, _, rfl, SqT.of upd_same, rfl, y, _, rfl, z, _, rfl, rfl, rfl, ?_⟩
          refine ⟨_, rfl, _, rfl, y, z, rfl, Like.mono (s1.trans t3) (like i y z hy hz), fun H4 s4 => ?_⟩
          have d4 : H4 D = some (.lst ((List.replicate i true).map V.bl)) := s4 _ _ (by rw [upd_ne (ne_of_none d2 nT)]; exact d2)
          refine ⟨_, d4, ?_, fun c o e => ?_, ?_⟩
          · rw [List.length_map, List.length_replicate]
            exact small1000 (by omega)
          · have q := s4 _ _ (t3 c o e)
            rw [upd_ne (ne_of_none e hD)]
            exact q
          · rw [upd_same, List.replicate_succ', List.map_append]
            rfl
        · rintro H2 ⟨t2, d2⟩
          refine ⟨D, _, rfl, .of d2, ?_⟩
          rw [all_true]
          exact kk _ (s1.trans t2)

      · refine ⟨_, rfl, _, _, _, _, false, rfl, .ty "bool", .base (.lst hb), kit_ty (by decide +kernel), _, rfl, iteF ⟨_, rfl, _, _, _, _, false, rfl, .ty "bool", .base (.lst ha), kit_ty (by decide +kernel), _, rfl, iteF ?_⟩⟩
        refine ⟨_, rfl, (by show 2 ≤ sizeLine; decide), fun p hp => ?_⟩
        have s1 := Same.new (Same.refl H) hp (o := .tup [V.ty "list", V.ty "tuple"])
        have ha1 := s1 _ _ ha
        have hb1 := s1 _ _ hb
        refine ⟨_, p, _, _, _, true, rfl, upd_same, lt_tup, .base (.lst hb1), any_lst, _, rfl, iteT ?_⟩
        refine ⟨_, rfl, _, _, _, _, true, rfl, .ty "list", .base (.lst hb1), kit_ty (by decide +kernel), _, rfl, _, _, _, _, true, rfl, .ty "list", .base (.lst ha1), kit_ty (by decide +kernel), rfl, _, rfl, iteF ?_⟩
        refine ⟨_, rfl, _, _, _, _, false, rfl, .ty "tuple", .base (.lst hb1), kit_ty (by decide +kernel), _, rfl, _, _, _, _, false, rfl, .ty "tuple", .base (.lst ha1), kit_ty (by decide +kernel), rfl, _, rfl, iteF ⟨_, rfl, _, _, rfl, .inl ⟨_, .of ha1, rfl⟩, _, rfl, _, _, rfl, .inl ⟨_, .of hb1, rfl⟩, ?_⟩⟩
        refine ⟨rfl, _, rfl, ?_⟩
        rw [l1, decide_eq_true rfl]
        refine iteF ?_
        refine ⟨_, rfl, _, rfl, a, b, xs, ys, rfl, .inl ⟨SqL.of ha1, SqL.of hb1, fun D hD => ?_⟩⟩
        refine lc_it (walk_zip (n := ys.length) (by rw [l1, Nat.min_self])) (fun i H' => Same (upd H p (.tup [V.ty "list", V.ty "tuple"])) H' ∧ H' D = some (.lst ((List.replicate i true).map V.bl))) ⟨Same.new (Same.refl _) hD, upd_same⟩ (fun i H' _ z => ⟨SqL.of (z.1 _ _ ha1), SqL.of (z.1 _ _ hb1)⟩) ?_ ?_
        · rintro i x H2 H3 hi ⟨t2, d2⟩ ⟨T1, y, z, rfl, nT, rfl, hy, hz⟩
          have t3 := Same.new t2 nT (o := .tup [y, z])
          refine ⟨T1, _, rfl, SqT.of upd_same, rfl, y, _, rfl, z, _, rfl, rfl, rfl, ?_⟩
          refine ⟨_, rfl, _, rfl, y, z, rfl, Like.mono (s1.trans t3) (like i y z hy hz), fun H4 s4 => ?_⟩
          have d4 : H4 D = some (.lst ((List.replicate i true).map V.bl)) := s4 _ _ (by rw [upd_ne (ne_of_none d2 nT)]; exact d2)
          refine ⟨_, d4, ?_, fun c o e => ?_, ?_⟩
          · rw [List.length_map, List.length_replicate]
            exact small1000 (by omega)
          · have q := s4 _ _ (t3 c o e)
            rw [upd_ne (ne_of_none e hD)]
            exact q
          · rw [upd_same, List.replicate_succ', List.map_append]
            rfl
        · rintro H2 ⟨t2, d2⟩
          refine ⟨D, _, rfl, .of d2, ?_⟩
          rw [all_true]
          exact kk _ (s1.trans t2)

end
end K80

set_option Elab.async false
set_option linter.all false
set_option maxRecDepth 100000
set_option maxHeartbeats 4000000
namespace K80
open PySem PySem.Spec PyProof.Rows L2 Ux
theorem e00 : Str.empty.length ≤ 0 := Nat.le_refl _
theorem app_le {x y : Str} {m n : Nat} (h : x.length ≤ m) (k : y.length ≤ n) : (x ++ y).length ≤ m + n := by
  rw [PySem.Str.length_append]
  omega
theorem fit {n m : Nat} (h : n ≤ m) (k : m ≤ 100000) : n ≤ sizeLine := by
  rw [sizeLine_eq]
  omega
/-- a base of error classes, its __init__ read off it -/
structure Bs (K : PySem.W.Frag) (mg : Str → Option Value) (x : Str) (initId : String) (CB : Addr) : Prop where
  gl : mg x = some (.ref CB)
  sg : PySem.W.specialIn K (.ref CB) "__getattribute__" = some (some (.builtin "type.__getattribute__"))
  rd : PySem.W.readsIn K CB (.type "type") = true
  vV : PySem.W.findCls K (.ref CB) (.type "type") "__init__" = some (.val (.builtin initId))
  vh : PySem.W.handedIn (.builtin initId) = true
abbrev sI_InvalidName : Stmt := inClass (top 4) 0
/-- InvalidName.__init__ -/
def spI_InvalidName (K : PySem.W.Frag) : Sp := fun vs H Q _ => ∃ (a C : Addr) (v1 : V), vs = [.ref a, v1] ∧ EcI K "ValueError.__init__" C ∧ (PySem.W.findIn K (.ref C) "code" = some none ∧ PySem.W.findIn K (.ref C) "given" = some none) ∧ H a = some (exo a C none) ∧ Adm H v1 ∧
  ∀ (d : Addr) (H' : Hp), H d = none → d ≠ a → H' a = some (exo a C (some d)) → H' d = some (exd d [("given", v1), ("code", .str "InvalidName")]) → But a H H' → Q .non H'
section
variable {P : Program} {w : World} {K : PySem.W.Frag} {mg : Str → Option Value} {base : Heap}
theorem scI_InvalidName : FnScope ["self", "given"] ["self", "given"] (defScope sI_InvalidName) := ⟨rfl, rfl, rfl, by decide +kernel, rfl, by decide +kernel, by decide +kernel⟩
theorem okI_InvalidName {f CB fS : Addr} {fd fdS : FuncData} (F : Fun K "__init__" "InvalidName.__init__" sI_InvalidName f fd) (W : Bs K mg "SlopeError" "ValueError.__init__" CB) (D : Dn K mg "shown" fS) (G : FnOk P w K mg base CX0 1 fS fdS ["value"] spShown) (bS : Binds K fdS ["value"] []) :
    FnOk P w K mg base CX0 2 f fd ["self", "given"] (spI_InvalidName K) := by
  refine F.ok scI_InvalidName (fun vs H Q E h => ?_) (fun cdv A outer s H vs Q E hr h => ?_)
  · obtain ⟨a, C, v1, rfl, _⟩ := h
    rfl
  · obtain ⟨a, C, v1, rfl, ec, ⟨n0, n1⟩, ea, ad1, k⟩ := h
    refine ⟨_, pss_cons (ps_expr (pe_bi (initId := "ValueError.__init__") (by rfl) W.gl W.sg W.rd W.vV W.vh (pa_cons (pv 0) (pa_cons (pe_joined (PJ.cons (pe_fmt (pe_call G hr (by rfl) D.gl D.kp bS .nil pass0 (pa_cons (pv 1) pa_nil))) (PJ.cons pe_str PJ.nil))) pa_nil)))) (pss_cons (ps_est (pv 0) pe_str) (pss_one (ps_est (pv 0) (pv 1)))), ?_⟩
    have ea2 : EcA K C := ⟨_, ec⟩
    refine ⟨_, rfl, _, rfl, v1, rfl, ad1, fun z1 hz1 => .inl ⟨z1, rfl, fit hz1 (by decide), z1, rfl, fit (app_le e00 hz1) (by decide), _, rfl, fit (app_le (app_le e00 hz1) (show (Str.ofString " is no valid name").length ≤ 200 by decide)) (by decide), a, C, _, rfl, (by show 1 ≤ 1000; decide), ec, ea, ?_⟩⟩
    refine ⟨_, rfl, a, C, rfl, ea2, n0, .inl ⟨ea, fun d hd nd => ?_⟩⟩
    have xa : (upd (upd H d (exd d [("code", V.str "InvalidName")])) a (exo a C (some d))) a = some (exo a C (some d)) := upd_same
    have xd0 : (upd (upd H d (exd d [("code", V.str "InvalidName")])) a (exo a C (some d))) d = some (exd d [("code", V.str "InvalidName")]) := (upd_ne nd).trans upd_same
    have b0 : But a H (upd (upd H d (exd d [("code", V.str "InvalidName")])) a (exo a C (some d))) := fun x o e n => by
      rw [upd_ne n, upd_ne (ne_of_none e hd)]
      exact e
    refine ⟨_, rfl, _, rfl, a, C, rfl, ea2, n1, .inr ⟨d, _, xa, xd0, (by show 1 ≤ 900; decide), ?_⟩⟩
    replace xa : (upd (upd (upd H d (exd d [("code", V.str "InvalidName")])) a (exo a C (some d))) d (exd d (("given", v1) :: [("code", V.str "InvalidName")]))) a = some (exo a C (some d)) := (upd_ne nd.symm).trans xa
    have xd1 : (upd (upd (upd H d (exd d [("code", V.str "InvalidName")])) a (exo a C (some d))) d (exd d (("given", v1) :: [("code", V.str "InvalidName")]))) d = some (exd d (("given", v1) :: [("code", V.str "InvalidName")])) := upd_same
    have b1 : But a H (upd (upd (upd H d (exd d [("code", V.str "InvalidName")])) a (exo a C (some d))) d (exd d (("given", v1) :: [("code", V.str "InvalidName")]))) := fun x o e n => by
      rw [upd_ne (ne_of_none e hd)]
      exact b0 x o e n
    exact k d _ hd nd xa xd1 b1
end
abbrev sI_InvalidNumber : Stmt := inClass (top 5) 0
/-- InvalidNumber.__init__ -/
def spI_InvalidNumber (K : PySem.W.Frag) : Sp := fun vs H Q _ => ∃ (a C : Addr) (v1 : V), vs = [.ref a, v1] ∧ EcI K "ValueError.__init__" C ∧ (PySem.W.findIn K (.ref C) "code" = some none ∧ PySem.W.findIn K (.ref C) "given" = some none) ∧ H a = some (exo a C none) ∧ Adm H v1 ∧
  ∀ (d : Addr) (H' : Hp), H d = none → d ≠ a → H' a = some (exo a C (some d)) → H' d = some (exd d [("given", v1), ("code", .str "InvalidNumber")]) → But a H H' → Q .non H'
section
variable {P : Program} {w : World} {K : PySem.W.Frag} {mg : Str → Option Value} {base : Heap}
theorem scI_InvalidNumber : FnScope ["self", "given"] ["self", "given"] (defScope sI_InvalidNumber) := ⟨rfl, rfl, rfl, by decide +kernel, rfl, by decide +kernel, by decide +kernel⟩
theorem okI_InvalidNumber {f CB fS : Addr} {fd fdS : FuncData} (F : Fun K "__init__" "InvalidNumber.__init__" sI_InvalidNumber f fd) (W : Bs K mg "SlopeError" "ValueError.__init__" CB) (D : Dn K mg "shown" fS) (G : FnOk P w K mg base CX0 1 fS fdS ["value"] spShown) (bS : Binds K fdS ["value"] []) :
    FnOk P w K mg base CX0 2 f fd ["self", "given"] (spI_InvalidNumber K) := by
  refine F.ok scI_InvalidNumber (fun vs H Q E h => ?_) (fun cdv A outer s H vs Q E hr h => ?_)
  · obtain ⟨a, C, v1, rfl, _⟩ := h
    rfl
  · obtain ⟨a, C, v1, rfl, ec, ⟨n0, n1⟩, ea, ad1, k⟩ := h
    refine ⟨_, pss_cons (ps_expr (pe_bi (initId := "ValueError.__init__") (by rfl) W.gl W.sg W.rd W.vV W.vh (pa_cons (pv 0) (pa_cons (pe_joined (PJ.cons (pe_fmt (pe_call G hr (by rfl) D.gl D.kp bS .nil pass0 (pa_cons (pv 1) pa_nil))) (PJ.cons pe_str PJ.nil))) pa_nil)))) (pss_cons (ps_est (pv 0) pe_str) (pss_one (ps_est (pv 0) (pv 1)))), ?_⟩
    have ea2 : EcA K C := ⟨_, ec⟩
    refine ⟨_, rfl, _, rfl, v1, rfl, ad1, fun z1 hz1 => .inl ⟨z1, rfl, fit hz1 (by decide), z1, rfl, fit (app_le e00 hz1) (by decide), _, rfl, fit (app_le (app_le e00 hz1) (show (Str.ofString " is no valid number").length ≤ 200 by decide)) (by decide), a, C, _, rfl, (by show 1 ≤ 1000; decide), ec, ea, ?_⟩⟩
    refine ⟨_, rfl, a, C, rfl, ea2, n0, .inl ⟨ea, fun d hd nd => ?_⟩⟩
    have xa : (upd (upd H d (exd d [("code", V.str "InvalidNumber")])) a (exo a C (some d))) a = some (exo a C (some d)) := upd_same
    have xd0 : (upd (upd H d (exd d [("code", V.str "InvalidNumber")])) a (exo a C (some d))) d = some (exd d [("code", V.str "InvalidNumber")]) := (upd_ne nd).trans upd_same
    have b0 : But a H (upd (upd H d (exd d [("code", V.str "InvalidNumber")])) a (exo a C (some d))) := fun x o e n => by
      rw [upd_ne n, upd_ne (ne_of_none e hd)]
      exact e
    refine ⟨_, rfl, _, rfl, a, C, rfl, ea2, n1, .inr ⟨d, _, xa, xd0, (by show 1 ≤ 900; decide), ?_⟩⟩
    replace xa : (upd (upd (upd H d (exd d [("code", V.str "InvalidNumber")])) a (exo a C (some d))) d (exd d (("given", v1) :: [("code", V.str "InvalidNumber")]))) a = some (exo a C (some d)) := (upd_ne nd.symm).trans xa
    have xd1 : (upd (upd (upd H d (exd d [("code", V.str "InvalidNumber")])) a (exo a C (some d))) d (exd d (("given", v1) :: [("code", V.str "InvalidNumber")]))) d = some (exd d (("given", v1) :: [("code", V.str "InvalidNumber")])) := upd_same
    have b1 : But a H (upd (upd (upd H d (exd d [("code", V.str "InvalidNumber")])) a (exo a C (some d))) d (exd d (("given", v1) :: [("code", V.str "InvalidNumber")]))) := fun x o e n => by
      rw [upd_ne (ne_of_none e hd)]
      exact b0 x o e n
    exact k d _ hd nd xa xd1 b1
end
abbrev sI_InvalidFact : Stmt := inClass (top 6) 0
/-- InvalidFact.__init__ -/
def spI_InvalidFact (K : PySem.W.Frag) : Sp := fun vs H Q _ => ∃ (a C : Addr) (v1 : V), vs = [.ref a, v1] ∧ EcI K "ValueError.__init__" C ∧ (PySem.W.findIn K (.ref C) "code" = some none ∧ PySem.W.findIn K (.ref C) "what" = some none) ∧ H a = some (exo a C none) ∧ Adm H v1 ∧
  ∀ (d : Addr) (H' : Hp), H d = none → d ≠ a → H' a = some (exo a C (some d)) → H' d = some (exd d [("what", v1), ("code", .str "InvalidFact")]) → But a H H' → Q .non H'
section
variable {P : Program} {w : World} {K : PySem.W.Frag} {mg : Str → Option Value} {base : Heap}
theorem scI_InvalidFact : FnScope ["self", "what"] ["self", "what"] (defScope sI_InvalidFact) := ⟨rfl, rfl, rfl, by decide +kernel, rfl, by decide +kernel, by decide +kernel⟩
theorem okI_InvalidFact {f CB fS : Addr} {fd fdS : FuncData} (F : Fun K "__init__" "InvalidFact.__init__" sI_InvalidFact f fd) (W : Bs K mg "SlopeError" "ValueError.__init__" CB) (D : Dn K mg "shown" fS) (G : FnOk P w K mg base CX0 1 fS fdS ["value"] spShown) (bS : Binds K fdS ["value"] []) :
    FnOk P w K mg base CX0 2 f fd ["self", "what"] (spI_InvalidFact K) := by
  refine F.ok scI_InvalidFact (fun vs H Q E h => ?_) (fun cdv A outer s H vs Q E hr h => ?_)
  · obtain ⟨a, C, v1, rfl, _⟩ := h
    rfl
  · obtain ⟨a, C, v1, rfl, ec, ⟨n0, n1⟩, ea, ad1, k⟩ := h
    refine ⟨_, pss_cons (ps_expr (pe_bi (initId := "ValueError.__init__") (by rfl) W.gl W.sg W.rd W.vV W.vh (pa_cons (pv 0) (pa_cons (pe_joined (PJ.cons pe_str (PJ.cons (pe_fmt (pe_call G hr (by rfl) D.gl D.kp bS .nil pass0 (pa_cons (pv 1) pa_nil))) PJ.nil))) pa_nil)))) (pss_cons (ps_est (pv 0) pe_str) (pss_one (ps_est (pv 0) (pv 1)))), ?_⟩
    have ea2 : EcA K C := ⟨_, ec⟩
    refine ⟨_, rfl, _, rfl, fit (app_le e00 (show (Str.ofString "no valid fact: ").length ≤ 200 by decide)) (by decide), _, rfl, v1, rfl, ad1, fun z1 hz1 => .inl ⟨z1, rfl, fit hz1 (by decide), z1, rfl, fit (app_le (app_le e00 (show (Str.ofString "no valid fact: ").length ≤ 200 by decide)) hz1) (by decide), a, C, _, rfl, (by show 1 ≤ 1000; decide), ec, ea, ?_⟩⟩
    refine ⟨_, rfl, a, C, rfl, ea2, n0, .inl ⟨ea, fun d hd nd => ?_⟩⟩
    have xa : (upd (upd H d (exd d [("code", V.str "InvalidFact")])) a (exo a C (some d))) a = some (exo a C (some d)) := upd_same
    have xd0 : (upd (upd H d (exd d [("code", V.str "InvalidFact")])) a (exo a C (some d))) d = some (exd d [("code", V.str "InvalidFact")]) := (upd_ne nd).trans upd_same
    have b0 : But a H (upd (upd H d (exd d [("code", V.str "InvalidFact")])) a (exo a C (some d))) := fun x o e n => by
      rw [upd_ne n, upd_ne (ne_of_none e hd)]
      exact e
    refine ⟨_, rfl, _, rfl, a, C, rfl, ea2, n1, .inr ⟨d, _, xa, xd0, (by show 1 ≤ 900; decide), ?_⟩⟩
    replace xa : (upd (upd (upd H d (exd d [("code", V.str "InvalidFact")])) a (exo a C (some d))) d (exd d (("what", v1) :: [("code", V.str "InvalidFact")]))) a = some (exo a C (some d)) := (upd_ne nd.symm).trans xa
    have xd1 : (upd (upd (upd H d (exd d [("code", V.str "InvalidFact")])) a (exo a C (some d))) d (exd d (("what", v1) :: [("code", V.str "InvalidFact")]))) d = some (exd d (("what", v1) :: [("code", V.str "InvalidFact")])) := upd_same
    have b1 : But a H (upd (upd (upd H d (exd d [("code", V.str "InvalidFact")])) a (exo a C (some d))) d (exd d (("what", v1) :: [("code", V.str "InvalidFact")]))) := fun x o e n => by
      rw [upd_ne (ne_of_none e hd)]
      exact b0 x o e n
    exact k d _ hd nd xa xd1 b1
end
abbrev sI_InvalidText : Stmt := inClass (top 7) 0
/-- InvalidText.__init__ -/
def spI_InvalidText (K : PySem.W.Frag) : Sp := fun vs H Q _ => ∃ (a C : Addr) (v1 : V), vs = [.ref a, v1] ∧ EcI K "ValueError.__init__" C ∧ (PySem.W.findIn K (.ref C) "code" = some none ∧ PySem.W.findIn K (.ref C) "at" = some none) ∧ H a = some (exo a C none) ∧ Adm H v1 ∧
  ∀ (d : Addr) (H' : Hp), H d = none → d ≠ a → H' a = some (exo a C (some d)) → H' d = some (exd d [("at", v1), ("code", .str "InvalidText")]) → But a H H' → Q .non H'
section
variable {P : Program} {w : World} {K : PySem.W.Frag} {mg : Str → Option Value} {base : Heap}
theorem scI_InvalidText : FnScope ["self", "at"] ["self", "at"] (defScope sI_InvalidText) := ⟨rfl, rfl, rfl, by decide +kernel, rfl, by decide +kernel, by decide +kernel⟩
theorem okI_InvalidText {f CB fS : Addr} {fd fdS : FuncData} (F : Fun K "__init__" "InvalidText.__init__" sI_InvalidText f fd) (W : Bs K mg "SlopeError" "ValueError.__init__" CB) (D : Dn K mg "shown" fS) (G : FnOk P w K mg base CX0 1 fS fdS ["value"] spShown) (bS : Binds K fdS ["value"] []) :
    FnOk P w K mg base CX0 2 f fd ["self", "at"] (spI_InvalidText K) := by
  refine F.ok scI_InvalidText (fun vs H Q E h => ?_) (fun cdv A outer s H vs Q E hr h => ?_)
  · obtain ⟨a, C, v1, rfl, _⟩ := h
    rfl
  · obtain ⟨a, C, v1, rfl, ec, ⟨n0, n1⟩, ea, ad1, k⟩ := h
    refine ⟨_, pss_cons (ps_expr (pe_bi (initId := "ValueError.__init__") (by rfl) W.gl W.sg W.rd W.vV W.vh (pa_cons (pv 0) (pa_cons (pe_joined (PJ.cons pe_str (PJ.cons (pe_fmt (pe_call G hr (by rfl) D.gl D.kp bS .nil pass0 (pa_cons (pv 1) pa_nil))) PJ.nil))) pa_nil)))) (pss_cons (ps_est (pv 0) pe_str) (pss_one (ps_est (pv 0) (pv 1)))), ?_⟩
    have ea2 : EcA K C := ⟨_, ec⟩
    refine ⟨_, rfl, _, rfl, fit (app_le e00 (show (Str.ofString "cannot be read at place ").length ≤ 200 by decide)) (by decide), _, rfl, v1, rfl, ad1, fun z1 hz1 => .inl ⟨z1, rfl, fit hz1 (by decide), z1, rfl, fit (app_le (app_le e00 (show (Str.ofString "cannot be read at place ").length ≤ 200 by decide)) hz1) (by decide), a, C, _, rfl, (by show 1 ≤ 1000; decide), ec, ea, ?_⟩⟩
    refine ⟨_, rfl, a, C, rfl, ea2, n0, .inl ⟨ea, fun d hd nd => ?_⟩⟩
    have xa : (upd (upd H d (exd d [("code", V.str "InvalidText")])) a (exo a C (some d))) a = some (exo a C (some d)) := upd_same
    have xd0 : (upd (upd H d (exd d [("code", V.str "InvalidText")])) a (exo a C (some d))) d = some (exd d [("code", V.str "InvalidText")]) := (upd_ne nd).trans upd_same
    have b0 : But a H (upd (upd H d (exd d [("code", V.str "InvalidText")])) a (exo a C (some d))) := fun x o e n => by
      rw [upd_ne n, upd_ne (ne_of_none e hd)]
      exact e
    refine ⟨_, rfl, _, rfl, a, C, rfl, ea2, n1, .inr ⟨d, _, xa, xd0, (by show 1 ≤ 900; decide), ?_⟩⟩
    replace xa : (upd (upd (upd H d (exd d [("code", V.str "InvalidText")])) a (exo a C (some d))) d (exd d (("at", v1) :: [("code", V.str "InvalidText")]))) a = some (exo a C (some d)) := (upd_ne nd.symm).trans xa
    have xd1 : (upd (upd (upd H d (exd d [("code", V.str "InvalidText")])) a (exo a C (some d))) d (exd d (("at", v1) :: [("code", V.str "InvalidText")]))) d = some (exd d (("at", v1) :: [("code", V.str "InvalidText")])) := upd_same
    have b1 : But a H (upd (upd (upd H d (exd d [("code", V.str "InvalidText")])) a (exo a C (some d))) d (exd d (("at", v1) :: [("code", V.str "InvalidText")]))) := fun x o e n => by
      rw [upd_ne (ne_of_none e hd)]
      exact b0 x o e n
    exact k d _ hd nd xa xd1 b1
end
abbrev sI_WrongKind : Stmt := inClass (top 8) 0
/-- WrongKind.__init__ -/
def spI_WrongKind (K : PySem.W.Frag) : Sp := fun vs H Q _ => ∃ (a C : Addr) (v1 : V), vs = [.ref a, v1] ∧ EcI K "ValueError.__init__" C ∧ (PySem.W.findIn K (.ref C) "code" = some none ∧ PySem.W.findIn K (.ref C) "at" = some none) ∧ H a = some (exo a C none) ∧ Adm H v1 ∧
  ∀ (d : Addr) (H' : Hp), H d = none → d ≠ a → H' a = some (exo a C (some d)) → H' d = some (exd d [("at", v1), ("code", .str "WrongKind")]) → But a H H' → Q .non H'
section
variable {P : Program} {w : World} {K : PySem.W.Frag} {mg : Str → Option Value} {base : Heap}
theorem scI_WrongKind : FnScope ["self", "at"] ["self", "at"] (defScope sI_WrongKind) := ⟨rfl, rfl, rfl, by decide +kernel, rfl, by decide +kernel, by decide +kernel⟩
theorem okI_WrongKind {f CB fS : Addr} {fd fdS : FuncData} (F : Fun K "__init__" "WrongKind.__init__" sI_WrongKind f fd) (W : Bs K mg "SlopeError" "ValueError.__init__" CB) (D : Dn K mg "shown" fS) (G : FnOk P w K mg base CX0 1 fS fdS ["value"] spShown) (bS : Binds K fdS ["value"] []) :
    FnOk P w K mg base CX0 2 f fd ["self", "at"] (spI_WrongKind K) := by
  refine F.ok scI_WrongKind (fun vs H Q E h => ?_) (fun cdv A outer s H vs Q E hr h => ?_)
  · obtain ⟨a, C, v1, rfl, _⟩ := h
    rfl
  · obtain ⟨a, C, v1, rfl, ec, ⟨n0, n1⟩, ea, ad1, k⟩ := h
    refine ⟨_, pss_cons (ps_expr (pe_bi (initId := "ValueError.__init__") (by rfl) W.gl W.sg W.rd W.vV W.vh (pa_cons (pv 0) (pa_cons (pe_joined (PJ.cons pe_str (PJ.cons (pe_fmt (pe_call G hr (by rfl) D.gl D.kp bS .nil pass0 (pa_cons (pv 1) pa_nil))) PJ.nil))) pa_nil)))) (pss_cons (ps_est (pv 0) pe_str) (pss_one (ps_est (pv 0) (pv 1)))), ?_⟩
    have ea2 : EcA K C := ⟨_, ec⟩
    refine ⟨_, rfl, _, rfl, fit (app_le e00 (show (Str.ofString "wrong kind at place ").length ≤ 200 by decide)) (by decide), _, rfl, v1, rfl, ad1, fun z1 hz1 => .inl ⟨z1, rfl, fit hz1 (by decide), z1, rfl, fit (app_le (app_le e00 (show (Str.ofString "wrong kind at place ").length ≤ 200 by decide)) hz1) (by decide), a, C, _, rfl, (by show 1 ≤ 1000; decide), ec, ea, ?_⟩⟩
    refine ⟨_, rfl, a, C, rfl, ea2, n0, .inl ⟨ea, fun d hd nd => ?_⟩⟩
    have xa : (upd (upd H d (exd d [("code", V.str "WrongKind")])) a (exo a C (some d))) a = some (exo a C (some d)) := upd_same
    have xd0 : (upd (upd H d (exd d [("code", V.str "WrongKind")])) a (exo a C (some d))) d = some (exd d [("code", V.str "WrongKind")]) := (upd_ne nd).trans upd_same
    have b0 : But a H (upd (upd H d (exd d [("code", V.str "WrongKind")])) a (exo a C (some d))) := fun x o e n => by
      rw [upd_ne n, upd_ne (ne_of_none e hd)]
      exact e
    refine ⟨_, rfl, _, rfl, a, C, rfl, ea2, n1, .inr ⟨d, _, xa, xd0, (by show 1 ≤ 900; decide), ?_⟩⟩
    replace xa : (upd (upd (upd H d (exd d [("code", V.str "WrongKind")])) a (exo a C (some d))) d (exd d (("at", v1) :: [("code", V.str "WrongKind")]))) a = some (exo a C (some d)) := (upd_ne nd.symm).trans xa
    have xd1 : (upd (upd (upd H d (exd d [("code", V.str "WrongKind")])) a (exo a C (some d))) d (exd d (("at", v1) :: [("code", V.str "WrongKind")]))) d = some (exd d (("at", v1) :: [("code", V.str "WrongKind")])) := upd_same
    have b1 : But a H (upd (upd (upd H d (exd d [("code", V.str "WrongKind")])) a (exo a C (some d))) d (exd d (("at", v1) :: [("code", V.str "WrongKind")]))) := fun x o e n => by
      rw [upd_ne (ne_of_none e hd)]
      exact b0 x o e n
    exact k d _ hd nd xa xd1 b1
end
abbrev sI_InvalidBlank : Stmt := inClass (top 9) 0
/-- InvalidBlank.__init__ -/
def spI_InvalidBlank (K : PySem.W.Frag) : Sp := fun vs H Q _ => ∃ (a C : Addr) (v1 : V), vs = [.ref a, v1] ∧ EcI K "ValueError.__init__" C ∧ (PySem.W.findIn K (.ref C) "code" = some none ∧ PySem.W.findIn K (.ref C) "at" = some none) ∧ H a = some (exo a C none) ∧ Adm H v1 ∧
  ∀ (d : Addr) (H' : Hp), H d = none → d ≠ a → H' a = some (exo a C (some d)) → H' d = some (exd d [("at", v1), ("code", .str "InvalidBlank")]) → But a H H' → Q .non H'
section
variable {P : Program} {w : World} {K : PySem.W.Frag} {mg : Str → Option Value} {base : Heap}
theorem scI_InvalidBlank : FnScope ["self", "at"] ["self", "at"] (defScope sI_InvalidBlank) := ⟨rfl, rfl, rfl, by decide +kernel, rfl, by decide +kernel, by decide +kernel⟩
theorem okI_InvalidBlank {f CB fS : Addr} {fd fdS : FuncData} (F : Fun K "__init__" "InvalidBlank.__init__" sI_InvalidBlank f fd) (W : Bs K mg "SlopeError" "ValueError.__init__" CB) (D : Dn K mg "shown" fS) (G : FnOk P w K mg base CX0 1 fS fdS ["value"] spShown) (bS : Binds K fdS ["value"] []) :
    FnOk P w K mg base CX0 2 f fd ["self", "at"] (spI_InvalidBlank K) := by
  refine F.ok scI_InvalidBlank (fun vs H Q E h => ?_) (fun cdv A outer s H vs Q E hr h => ?_)
  · obtain ⟨a, C, v1, rfl, _⟩ := h
    rfl
  · obtain ⟨a, C, v1, rfl, ec, ⟨n0, n1⟩, ea, ad1, k⟩ := h
    refine ⟨_, pss_cons (ps_expr (pe_bi (initId := "ValueError.__init__") (by rfl) W.gl W.sg W.rd W.vV W.vh (pa_cons (pv 0) (pa_cons (pe_joined (PJ.cons pe_str (PJ.cons (pe_fmt (pe_call G hr (by rfl) D.gl D.kp bS .nil pass0 (pa_cons (pv 1) pa_nil))) PJ.nil))) pa_nil)))) (pss_cons (ps_est (pv 0) pe_str) (pss_one (ps_est (pv 0) (pv 1)))), ?_⟩
    have ea2 : EcA K C := ⟨_, ec⟩
    refine ⟨_, rfl, _, rfl, fit (app_le e00 (show (Str.ofString "no blank may stand at place ").length ≤ 200 by decide)) (by decide), _, rfl, v1, rfl, ad1, fun z1 hz1 => .inl ⟨z1, rfl, fit hz1 (by decide), z1, rfl, fit (app_le (app_le e00 (show (Str.ofString "no blank may stand at place ").length ≤ 200 by decide)) hz1) (by decide), a, C, _, rfl, (by show 1 ≤ 1000; decide), ec, ea, ?_⟩⟩
    refine ⟨_, rfl, a, C, rfl, ea2, n0, .inl ⟨ea, fun d hd nd => ?_⟩⟩
    have xa : (upd (upd H d (exd d [("code", V.str "InvalidBlank")])) a (exo a C (some d))) a = some (exo a C (some d)) := upd_same
    have xd0 : (upd (upd H d (exd d [("code", V.str "InvalidBlank")])) a (exo a C (some d))) d = some (exd d [("code", V.str "InvalidBlank")]) := (upd_ne nd).trans upd_same
    have b0 : But a H (upd (upd H d (exd d [("code", V.str "InvalidBlank")])) a (exo a C (some d))) := fun x o e n => by
      rw [upd_ne n, upd_ne (ne_of_none e hd)]
      exact e
    refine ⟨_, rfl, _, rfl, a, C, rfl, ea2, n1, .inr ⟨d, _, xa, xd0, (by show 1 ≤ 900; decide), ?_⟩⟩
    replace xa : (upd (upd (upd H d (exd d [("code", V.str "InvalidBlank")])) a (exo a C (some d))) d (exd d (("at", v1) :: [("code", V.str "InvalidBlank")]))) a = some (exo a C (some d)) := (upd_ne nd.symm).trans xa
    have xd1 : (upd (upd (upd H d (exd d [("code", V.str "InvalidBlank")])) a (exo a C (some d))) d (exd d (("at", v1) :: [("code", V.str "InvalidBlank")]))) d = some (exd d (("at", v1) :: [("code", V.str "InvalidBlank")])) := upd_same
    have b1 : But a H (upd (upd (upd H d (exd d [("code", V.str "InvalidBlank")])) a (exo a C (some d))) d (exd d (("at", v1) :: [("code", V.str "InvalidBlank")]))) := fun x o e n => by
      rw [upd_ne (ne_of_none e hd)]
      exact b0 x o e n
    exact k d _ hd nd xa xd1 b1
end
abbrev sI_NameTaken : Stmt := inClass (top 10) 0
/-- NameTaken.__init__ -/
def spI_NameTaken (K : PySem.W.Frag) : Sp := fun vs H Q _ => ∃ (a C : Addr) (v1 : V), vs = [.ref a, v1] ∧ EcI K "ValueError.__init__" C ∧ (PySem.W.findIn K (.ref C) "code" = some none ∧ PySem.W.findIn K (.ref C) "name" = some none) ∧ H a = some (exo a C none) ∧ Adm H v1 ∧
  ∀ (d : Addr) (H' : Hp), H d = none → d ≠ a → H' a = some (exo a C (some d)) → H' d = some (exd d [("name", v1), ("code", .str "NameTaken")]) → But a H H' → Q .non H'
section
variable {P : Program} {w : World} {K : PySem.W.Frag} {mg : Str → Option Value} {base : Heap}
theorem scI_NameTaken : FnScope ["self", "name"] ["self", "name"] (defScope sI_NameTaken) := ⟨rfl, rfl, rfl, by decide +kernel, rfl, by decide +kernel, by decide +kernel⟩
theorem okI_NameTaken {f CB fS : Addr} {fd fdS : FuncData} (F : Fun K "__init__" "NameTaken.__init__" sI_NameTaken f fd) (W : Bs K mg "SlopeError" "ValueError.__init__" CB) (D : Dn K mg "shown" fS) (G : FnOk P w K mg base CX0 1 fS fdS ["value"] spShown) (bS : Binds K fdS ["value"] []) :
    FnOk P w K mg base CX0 2 f fd ["self", "name"] (spI_NameTaken K) := by
  refine F.ok scI_NameTaken (fun vs H Q E h => ?_) (fun cdv A outer s H vs Q E hr h => ?_)
  · obtain ⟨a, C, v1, rfl, _⟩ := h
    rfl
  · obtain ⟨a, C, v1, rfl, ec, ⟨n0, n1⟩, ea, ad1, k⟩ := h
    refine ⟨_, pss_cons (ps_expr (pe_bi (initId := "ValueError.__init__") (by rfl) W.gl W.sg W.rd W.vV W.vh (pa_cons (pv 0) (pa_cons (pe_joined (PJ.cons pe_str (PJ.cons (pe_fmt (pe_call G hr (by rfl) D.gl D.kp bS .nil pass0 (pa_cons (pv 1) pa_nil))) (PJ.cons pe_str PJ.nil)))) pa_nil)))) (pss_cons (ps_est (pv 0) pe_str) (pss_one (ps_est (pv 0) (pv 1)))), ?_⟩
    have ea2 : EcA K C := ⟨_, ec⟩
    refine ⟨_, rfl, _, rfl, fit (app_le e00 (show (Str.ofString "the name ").length ≤ 200 by decide)) (by decide), _, rfl, v1, rfl, ad1, fun z1 hz1 => .inl ⟨z1, rfl, fit hz1 (by decide), z1, rfl, fit (app_le (app_le e00 (show (Str.ofString "the name ").length ≤ 200 by decide)) hz1) (by decide), _, rfl, fit (app_le (app_le (app_le e00 (show (Str.ofString "the name ").length ≤ 200 by decide)) hz1) (show (Str.ofString " is taken").length ≤ 200 by decide)) (by decide), a, C, _, rfl, (by show 1 ≤ 1000; decide), ec, ea, ?_⟩⟩
    refine ⟨_, rfl, a, C, rfl, ea2, n0, .inl ⟨ea, fun d hd nd => ?_⟩⟩
    have xa : (upd (upd H d (exd d [("code", V.str "NameTaken")])) a (exo a C (some d))) a = some (exo a C (some d)) := upd_same
    have xd0 : (upd (upd H d (exd d [("code", V.str "NameTaken")])) a (exo a C (some d))) d = some (exd d [("code", V.str "NameTaken")]) := (upd_ne nd).trans upd_same
    have b0 : But a H (upd (upd H d (exd d [("code", V.str "NameTaken")])) a (exo a C (some d))) := fun x o e n => by
      rw [upd_ne n, upd_ne (ne_of_none e hd)]
      exact e
    refine ⟨_, rfl, _, rfl, a, C, rfl, ea2, n1, .inr ⟨d, _, xa, xd0, (by show 1 ≤ 900; decide), ?_⟩⟩
    replace xa : (upd (upd (upd H d (exd d [("code", V.str "NameTaken")])) a (exo a C (some d))) d (exd d (("name", v1) :: [("code", V.str "NameTaken")]))) a = some (exo a C (some d)) := (upd_ne nd.symm).trans xa
    have xd1 : (upd (upd (upd H d (exd d [("code", V.str "NameTaken")])) a (exo a C (some d))) d (exd d (("name", v1) :: [("code", V.str "NameTaken")]))) d = some (exd d (("name", v1) :: [("code", V.str "NameTaken")])) := upd_same
    have b1 : But a H (upd (upd (upd H d (exd d [("code", V.str "NameTaken")])) a (exo a C (some d))) d (exd d (("name", v1) :: [("code", V.str "NameTaken")]))) := fun x o e n => by
      rw [upd_ne (ne_of_none e hd)]
      exact b0 x o e n
    exact k d _ hd nd xa xd1 b1
end
abbrev sI_TooLarge : Stmt := inClass (top 11) 0
/-- TooLarge.__init__ -/
def spI_TooLarge (K : PySem.W.Frag) : Sp := fun vs H Q _ => ∃ (a C : Addr) (v1 v2 : V), vs = [.ref a, v1, v2] ∧ EcI K "ValueError.__init__" C ∧ (PySem.W.findIn K (.ref C) "code" = some none ∧ PySem.W.findIn K (.ref C) "what" = some none ∧ PySem.W.findIn K (.ref C) "limit" = some none) ∧ H a = some (exo a C none) ∧ Adm H v1 ∧ Adm H v2 ∧
  ∀ (d : Addr) (H' : Hp), H d = none → d ≠ a → H' a = some (exo a C (some d)) → H' d = some (exd d [("limit", v2), ("what", v1), ("code", .str "TooLarge")]) → But a H H' → Q .non H'
section
variable {P : Program} {w : World} {K : PySem.W.Frag} {mg : Str → Option Value} {base : Heap}
theorem scI_TooLarge : FnScope ["self", "what", "limit"] ["self", "what", "limit"] (defScope sI_TooLarge) := ⟨rfl, rfl, rfl, by decide +kernel, rfl, by decide +kernel, by decide +kernel⟩
theorem okI_TooLarge {f CB fS : Addr} {fd fdS : FuncData} (F : Fun K "__init__" "TooLarge.__init__" sI_TooLarge f fd) (W : Bs K mg "SlopeError" "ValueError.__init__" CB) (D : Dn K mg "shown" fS) (G : FnOk P w K mg base CX0 1 fS fdS ["value"] spShown) (bS : Binds K fdS ["value"] []) :
    FnOk P w K mg base CX0 2 f fd ["self", "what", "limit"] (spI_TooLarge K) := by
  refine F.ok scI_TooLarge (fun vs H Q E h => ?_) (fun cdv A outer s H vs Q E hr h => ?_)
  · obtain ⟨a, C, v1, v2, rfl, _⟩ := h
    rfl
  · obtain ⟨a, C, v1, v2, rfl, ec, ⟨n0, n1, n2⟩, ea, ad1, ad2, k⟩ := h
    refine ⟨_, pss_cons (ps_expr (pe_bi (initId := "ValueError.__init__") (by rfl) W.gl W.sg W.rd W.vV W.vh (pa_cons (pv 0) (pa_cons (pe_joined (PJ.cons (pe_fmt (pe_call G hr (by rfl) D.gl D.kp bS .nil pass0 (pa_cons (pv 1) pa_nil))) (PJ.cons pe_str (PJ.cons (pe_fmt (pe_call G hr (by rfl) D.gl D.kp bS .nil pass0 (pa_cons (pv 2) pa_nil))) PJ.nil)))) pa_nil)))) (pss_cons (ps_est (pv 0) pe_str) (pss_cons (ps_est (pv 0) (pv 1)) (pss_one (ps_est (pv 0) (pv 2))))), ?_⟩
    have ea2 : EcA K C := ⟨_, ec⟩
    refine ⟨_, rfl, _, rfl, v1, rfl, ad1, fun z1 hz1 => .inl ⟨z1, rfl, fit hz1 (by decide), z1, rfl, fit (app_le e00 hz1) (by decide), _, rfl, fit (app_le (app_le e00 hz1) (show (Str.ofString " beyond the limit ").length ≤ 200 by decide)) (by decide), _, rfl, v2, rfl, ad2, fun z2 hz2 => .inl ⟨z2, rfl, fit hz2 (by decide), z2, rfl, fit (app_le (app_le (app_le e00 hz1) (show (Str.ofString " beyond the limit ").length ≤ 200 by decide)) hz2) (by decide), a, C, _, rfl, (by show 1 ≤ 1000; decide), ec, ea, ?_⟩⟩⟩
    refine ⟨_, rfl, a, C, rfl, ea2, n0, .inl ⟨ea, fun d hd nd => ?_⟩⟩
    have xa : (upd (upd H d (exd d [("code", V.str "TooLarge")])) a (exo a C (some d))) a = some (exo a C (some d)) := upd_same
    have xd0 : (upd (upd H d (exd d [("code", V.str "TooLarge")])) a (exo a C (some d))) d = some (exd d [("code", V.str "TooLarge")]) := (upd_ne nd).trans upd_same
    have b0 : But a H (upd (upd H d (exd d [("code", V.str "TooLarge")])) a (exo a C (some d))) := fun x o e n => by
      rw [upd_ne n, upd_ne (ne_of_none e hd)]
      exact e
    refine ⟨_, rfl, _, rfl, a, C, rfl, ea2, n1, .inr ⟨d, _, xa, xd0, (by show 1 ≤ 900; decide), ?_⟩⟩
    replace xa : (upd (upd (upd H d (exd d [("code", V.str "TooLarge")])) a (exo a C (some d))) d (exd d (("what", v1) :: [("code", V.str "TooLarge")]))) a = some (exo a C (some d)) := (upd_ne nd.symm).trans xa
    have xd1 : (upd (upd (upd H d (exd d [("code", V.str "TooLarge")])) a (exo a C (some d))) d (exd d (("what", v1) :: [("code", V.str "TooLarge")]))) d = some (exd d (("what", v1) :: [("code", V.str "TooLarge")])) := upd_same
    have b1 : But a H (upd (upd (upd H d (exd d [("code", V.str "TooLarge")])) a (exo a C (some d))) d (exd d (("what", v1) :: [("code", V.str "TooLarge")]))) := fun x o e n => by
      rw [upd_ne (ne_of_none e hd)]
      exact b0 x o e n
    refine ⟨_, rfl, _, rfl, a, C, rfl, ea2, n2, .inr ⟨d, _, xa, xd1, (by show 2 ≤ 900; decide), ?_⟩⟩
    replace xa : (upd (upd (upd (upd H d (exd d [("code", V.str "TooLarge")])) a (exo a C (some d))) d (exd d (("what", v1) :: [("code", V.str "TooLarge")]))) d (exd d (("limit", v2) :: (("what", v1) :: [("code", V.str "TooLarge")])))) a = some (exo a C (some d)) := (upd_ne nd.symm).trans xa
    have xd2 : (upd (upd (upd (upd H d (exd d [("code", V.str "TooLarge")])) a (exo a C (some d))) d (exd d (("what", v1) :: [("code", V.str "TooLarge")]))) d (exd d (("limit", v2) :: (("what", v1) :: [("code", V.str "TooLarge")])))) d = some (exd d (("limit", v2) :: (("what", v1) :: [("code", V.str "TooLarge")]))) := upd_same
    have b2 : But a H (upd (upd (upd (upd H d (exd d [("code", V.str "TooLarge")])) a (exo a C (some d))) d (exd d (("what", v1) :: [("code", V.str "TooLarge")]))) d (exd d (("limit", v2) :: (("what", v1) :: [("code", V.str "TooLarge")])))) := fun x o e n => by
      rw [upd_ne (ne_of_none e hd)]
      exact b1 x o e n
    exact k d _ hd nd xa xd2 b2
end
abbrev sI_UnlikeWorlds : Stmt := inClass (top 12) 0
/-- UnlikeWorlds.__init__ -/
def spI_UnlikeWorlds (K : PySem.W.Frag) : Sp := fun vs H Q _ => ∃ (a C : Addr), vs = [.ref a] ∧ EcI K "ValueError.__init__" C ∧ (PySem.W.findIn K (.ref C) "code" = some none) ∧ H a = some (exo a C none) ∧
  ∀ (d : Addr) (H' : Hp), H d = none → d ≠ a → H' a = some (exo a C (some d)) → H' d = some (exd d [("code", .str "UnlikeWorlds")]) → But a H H' → Q .non H'
section
variable {P : Program} {w : World} {K : PySem.W.Frag} {mg : Str → Option Value} {base : Heap}
theorem scI_UnlikeWorlds : FnScope ["self"] ["self"] (defScope sI_UnlikeWorlds) := ⟨rfl, rfl, rfl, by decide +kernel, rfl, by decide +kernel, by decide +kernel⟩
theorem okI_UnlikeWorlds {f CB fS : Addr} {fd fdS : FuncData} (F : Fun K "__init__" "UnlikeWorlds.__init__" sI_UnlikeWorlds f fd) (W : Bs K mg "SlopeError" "ValueError.__init__" CB) (D : Dn K mg "shown" fS) (G : FnOk P w K mg base CX0 1 fS fdS ["value"] spShown) (bS : Binds K fdS ["value"] []) :
    FnOk P w K mg base CX0 2 f fd ["self"] (spI_UnlikeWorlds K) := by
  refine F.ok scI_UnlikeWorlds (fun vs H Q E h => ?_) (fun cdv A outer s H vs Q E hr h => ?_)
  · obtain ⟨a, C, rfl, _⟩ := h
    rfl
  · obtain ⟨a, C, rfl, ec, n0, ea, k⟩ := h
    refine ⟨_, pss_cons (ps_expr (pe_bi (initId := "ValueError.__init__") (by rfl) W.gl W.sg W.rd W.vV W.vh (pa_cons (pv 0) (pa_cons pe_str pa_nil)))) (pss_one (ps_est (pv 0) pe_str)), ?_⟩
    have ea2 : EcA K C := ⟨_, ec⟩
    refine ⟨_, rfl, a, C, _, rfl, (by show 1 ≤ 1000; decide), ec, ea, ?_⟩
    refine ⟨_, rfl, a, C, rfl, ea2, n0, .inl ⟨ea, fun d hd nd => ?_⟩⟩
    have xa : (upd (upd H d (exd d [("code", V.str "UnlikeWorlds")])) a (exo a C (some d))) a = some (exo a C (some d)) := upd_same
    have xd0 : (upd (upd H d (exd d [("code", V.str "UnlikeWorlds")])) a (exo a C (some d))) d = some (exd d [("code", V.str "UnlikeWorlds")]) := (upd_ne nd).trans upd_same
    have b0 : But a H (upd (upd H d (exd d [("code", V.str "UnlikeWorlds")])) a (exo a C (some d))) := fun x o e n => by
      rw [upd_ne n, upd_ne (ne_of_none e hd)]
      exact e
    exact k d _ hd nd xa xd0 b0
end
abbrev sI_InvalidWitness : Stmt := inClass (top 13) 0
/-- InvalidWitness.__init__ -/
def spI_InvalidWitness (K : PySem.W.Frag) : Sp := fun vs H Q _ => ∃ (a C : Addr) (v1 : V), vs = [.ref a, v1] ∧ EcI K "ValueError.__init__" C ∧ (PySem.W.findIn K (.ref C) "code" = some none ∧ PySem.W.findIn K (.ref C) "name" = some none) ∧ H a = some (exo a C none) ∧ Adm H v1 ∧
  ∀ (d : Addr) (H' : Hp), H d = none → d ≠ a → H' a = some (exo a C (some d)) → H' d = some (exd d [("name", v1), ("code", .str "InvalidWitness")]) → But a H H' → Q .non H'
section
variable {P : Program} {w : World} {K : PySem.W.Frag} {mg : Str → Option Value} {base : Heap}
theorem scI_InvalidWitness : FnScope ["self", "name"] ["self", "name"] (defScope sI_InvalidWitness) := ⟨rfl, rfl, rfl, by decide +kernel, rfl, by decide +kernel, by decide +kernel⟩
theorem okI_InvalidWitness {f CB fS : Addr} {fd fdS : FuncData} (F : Fun K "__init__" "InvalidWitness.__init__" sI_InvalidWitness f fd) (W : Bs K mg "SlopeError" "ValueError.__init__" CB) (D : Dn K mg "shown" fS) (G : FnOk P w K mg base CX0 1 fS fdS ["value"] spShown) (bS : Binds K fdS ["value"] []) :
    FnOk P w K mg base CX0 2 f fd ["self", "name"] (spI_InvalidWitness K) := by
  refine F.ok scI_InvalidWitness (fun vs H Q E h => ?_) (fun cdv A outer s H vs Q E hr h => ?_)
  · obtain ⟨a, C, v1, rfl, _⟩ := h
    rfl
  · obtain ⟨a, C, v1, rfl, ec, ⟨n0, n1⟩, ea, ad1, k⟩ := h
    refine ⟨_, pss_cons (ps_expr (pe_bi (initId := "ValueError.__init__") (by rfl) W.gl W.sg W.rd W.vV W.vh (pa_cons (pv 0) (pa_cons (pe_joined (PJ.cons pe_str (PJ.cons (pe_fmt (pe_call G hr (by rfl) D.gl D.kp bS .nil pass0 (pa_cons (pv 1) pa_nil))) PJ.nil))) pa_nil)))) (pss_cons (ps_est (pv 0) pe_str) (pss_one (ps_est (pv 0) (pv 1)))), ?_⟩
    have ea2 : EcA K C := ⟨_, ec⟩
    refine ⟨_, rfl, _, rfl, fit (app_le e00 (show (Str.ofString "nothing fitting is given for ").length ≤ 200 by decide)) (by decide), _, rfl, v1, rfl, ad1, fun z1 hz1 => .inl ⟨z1, rfl, fit hz1 (by decide), z1, rfl, fit (app_le (app_le e00 (show (Str.ofString "nothing fitting is given for ").length ≤ 200 by decide)) hz1) (by decide), a, C, _, rfl, (by show 1 ≤ 1000; decide), ec, ea, ?_⟩⟩
    refine ⟨_, rfl, a, C, rfl, ea2, n0, .inl ⟨ea, fun d hd nd => ?_⟩⟩
    have xa : (upd (upd H d (exd d [("code", V.str "InvalidWitness")])) a (exo a C (some d))) a = some (exo a C (some d)) := upd_same
    have xd0 : (upd (upd H d (exd d [("code", V.str "InvalidWitness")])) a (exo a C (some d))) d = some (exd d [("code", V.str "InvalidWitness")]) := (upd_ne nd).trans upd_same
    have b0 : But a H (upd (upd H d (exd d [("code", V.str "InvalidWitness")])) a (exo a C (some d))) := fun x o e n => by
      rw [upd_ne n, upd_ne (ne_of_none e hd)]
      exact e
    refine ⟨_, rfl, _, rfl, a, C, rfl, ea2, n1, .inr ⟨d, _, xa, xd0, (by show 1 ≤ 900; decide), ?_⟩⟩
    replace xa : (upd (upd (upd H d (exd d [("code", V.str "InvalidWitness")])) a (exo a C (some d))) d (exd d (("name", v1) :: [("code", V.str "InvalidWitness")]))) a = some (exo a C (some d)) := (upd_ne nd.symm).trans xa
    have xd1 : (upd (upd (upd H d (exd d [("code", V.str "InvalidWitness")])) a (exo a C (some d))) d (exd d (("name", v1) :: [("code", V.str "InvalidWitness")]))) d = some (exd d (("name", v1) :: [("code", V.str "InvalidWitness")])) := upd_same
    have b1 : But a H (upd (upd (upd H d (exd d [("code", V.str "InvalidWitness")])) a (exo a C (some d))) d (exd d (("name", v1) :: [("code", V.str "InvalidWitness")]))) := fun x o e n => by
      rw [upd_ne (ne_of_none e hd)]
      exact b0 x o e n
    exact k d _ hd nd xa xd1 b1
end
abbrev sI_InvalidRow : Stmt := inClass (top 14) 0
/-- InvalidRow.__init__ -/
def spI_InvalidRow (K : PySem.W.Frag) : Sp := fun vs H Q _ => ∃ (a C : Addr) (v1 : V), vs = [.ref a, v1] ∧ EcI K "ValueError.__init__" C ∧ (PySem.W.findIn K (.ref C) "code" = some none ∧ PySem.W.findIn K (.ref C) "index" = some none) ∧ H a = some (exo a C none) ∧ Adm H v1 ∧
  ∀ (d : Addr) (H' : Hp), H d = none → d ≠ a → H' a = some (exo a C (some d)) → H' d = some (exd d [("index", v1), ("code", .str "InvalidRow")]) → But a H H' → Q .non H'
section
variable {P : Program} {w : World} {K : PySem.W.Frag} {mg : Str → Option Value} {base : Heap}
theorem scI_InvalidRow : FnScope ["self", "index"] ["self", "index"] (defScope sI_InvalidRow) := ⟨rfl, rfl, rfl, by decide +kernel, rfl, by decide +kernel, by decide +kernel⟩
theorem okI_InvalidRow {f CB fS : Addr} {fd fdS : FuncData} (F : Fun K "__init__" "InvalidRow.__init__" sI_InvalidRow f fd) (W : Bs K mg "SlopeError" "ValueError.__init__" CB) (D : Dn K mg "shown" fS) (G : FnOk P w K mg base CX0 1 fS fdS ["value"] spShown) (bS : Binds K fdS ["value"] []) :
    FnOk P w K mg base CX0 2 f fd ["self", "index"] (spI_InvalidRow K) := by
  refine F.ok scI_InvalidRow (fun vs H Q E h => ?_) (fun cdv A outer s H vs Q E hr h => ?_)
  · obtain ⟨a, C, v1, rfl, _⟩ := h
    rfl
  · obtain ⟨a, C, v1, rfl, ec, ⟨n0, n1⟩, ea, ad1, k⟩ := h
    refine ⟨_, pss_cons (ps_expr (pe_bi (initId := "ValueError.__init__") (by rfl) W.gl W.sg W.rd W.vV W.vh (pa_cons (pv 0) (pa_cons (pe_joined (PJ.cons pe_str (PJ.cons (pe_fmt (pe_call G hr (by rfl) D.gl D.kp bS .nil pass0 (pa_cons (pv 1) pa_nil))) PJ.nil))) pa_nil)))) (pss_cons (ps_est (pv 0) pe_str) (pss_one (ps_est (pv 0) (pv 1)))), ?_⟩
    have ea2 : EcA K C := ⟨_, ec⟩
    refine ⟨_, rfl, _, rfl, fit (app_le e00 (show (Str.ofString "no valid row at index ").length ≤ 200 by decide)) (by decide), _, rfl, v1, rfl, ad1, fun z1 hz1 => .inl ⟨z1, rfl, fit hz1 (by decide), z1, rfl, fit (app_le (app_le e00 (show (Str.ofString "no valid row at index ").length ≤ 200 by decide)) hz1) (by decide), a, C, _, rfl, (by show 1 ≤ 1000; decide), ec, ea, ?_⟩⟩
    refine ⟨_, rfl, a, C, rfl, ea2, n0, .inl ⟨ea, fun d hd nd => ?_⟩⟩
    have xa : (upd (upd H d (exd d [("code", V.str "InvalidRow")])) a (exo a C (some d))) a = some (exo a C (some d)) := upd_same
    have xd0 : (upd (upd H d (exd d [("code", V.str "InvalidRow")])) a (exo a C (some d))) d = some (exd d [("code", V.str "InvalidRow")]) := (upd_ne nd).trans upd_same
    have b0 : But a H (upd (upd H d (exd d [("code", V.str "InvalidRow")])) a (exo a C (some d))) := fun x o e n => by
      rw [upd_ne n, upd_ne (ne_of_none e hd)]
      exact e
    refine ⟨_, rfl, _, rfl, a, C, rfl, ea2, n1, .inr ⟨d, _, xa, xd0, (by show 1 ≤ 900; decide), ?_⟩⟩
    replace xa : (upd (upd (upd H d (exd d [("code", V.str "InvalidRow")])) a (exo a C (some d))) d (exd d (("index", v1) :: [("code", V.str "InvalidRow")]))) a = some (exo a C (some d)) := (upd_ne nd.symm).trans xa
    have xd1 : (upd (upd (upd H d (exd d [("code", V.str "InvalidRow")])) a (exo a C (some d))) d (exd d (("index", v1) :: [("code", V.str "InvalidRow")]))) d = some (exd d (("index", v1) :: [("code", V.str "InvalidRow")])) := upd_same
    have b1 : But a H (upd (upd (upd H d (exd d [("code", V.str "InvalidRow")])) a (exo a C (some d))) d (exd d (("index", v1) :: [("code", V.str "InvalidRow")]))) := fun x o e n => by
      rw [upd_ne (ne_of_none e hd)]
      exact b0 x o e n
    exact k d _ hd nd xa xd1 b1
end
abbrev sI_NotNow : Stmt := inClass (top 15) 0
/-- NotNow.__init__ -/
def spI_NotNow (K : PySem.W.Frag) : Sp := fun vs H Q _ => ∃ (a C : Addr) (v1 : V), vs = [.ref a, v1] ∧ EcI K "ValueError.__init__" C ∧ (PySem.W.findIn K (.ref C) "code" = some none ∧ PySem.W.findIn K (.ref C) "deed" = some none) ∧ H a = some (exo a C none) ∧ Adm H v1 ∧
  ∀ (d : Addr) (H' : Hp), H d = none → d ≠ a → H' a = some (exo a C (some d)) → H' d = some (exd d [("deed", v1), ("code", .str "NotNow")]) → But a H H' → Q .non H'
section
variable {P : Program} {w : World} {K : PySem.W.Frag} {mg : Str → Option Value} {base : Heap}
theorem scI_NotNow : FnScope ["self", "deed"] ["self", "deed"] (defScope sI_NotNow) := ⟨rfl, rfl, rfl, by decide +kernel, rfl, by decide +kernel, by decide +kernel⟩
theorem okI_NotNow {f CB fS : Addr} {fd fdS : FuncData} (F : Fun K "__init__" "NotNow.__init__" sI_NotNow f fd) (W : Bs K mg "SlopeError" "ValueError.__init__" CB) (D : Dn K mg "shown" fS) (G : FnOk P w K mg base CX0 1 fS fdS ["value"] spShown) (bS : Binds K fdS ["value"] []) :
    FnOk P w K mg base CX0 2 f fd ["self", "deed"] (spI_NotNow K) := by
  refine F.ok scI_NotNow (fun vs H Q E h => ?_) (fun cdv A outer s H vs Q E hr h => ?_)
  · obtain ⟨a, C, v1, rfl, _⟩ := h
    rfl
  · obtain ⟨a, C, v1, rfl, ec, ⟨n0, n1⟩, ea, ad1, k⟩ := h
    refine ⟨_, pss_cons (ps_expr (pe_bi (initId := "ValueError.__init__") (by rfl) W.gl W.sg W.rd W.vV W.vh (pa_cons (pv 0) (pa_cons (pe_joined (PJ.cons (pe_fmt (pe_call G hr (by rfl) D.gl D.kp bS .nil pass0 (pa_cons (pv 1) pa_nil))) (PJ.cons pe_str PJ.nil))) pa_nil)))) (pss_cons (ps_est (pv 0) pe_str) (pss_one (ps_est (pv 0) (pv 1)))), ?_⟩
    have ea2 : EcA K C := ⟨_, ec⟩
    refine ⟨_, rfl, _, rfl, v1, rfl, ad1, fun z1 hz1 => .inl ⟨z1, rfl, fit hz1 (by decide), z1, rfl, fit (app_le e00 hz1) (by decide), _, rfl, fit (app_le (app_le e00 hz1) (show (Str.ofString " is not possible now").length ≤ 200 by decide)) (by decide), a, C, _, rfl, (by show 1 ≤ 1000; decide), ec, ea, ?_⟩⟩
    refine ⟨_, rfl, a, C, rfl, ea2, n0, .inl ⟨ea, fun d hd nd => ?_⟩⟩
    have xa : (upd (upd H d (exd d [("code", V.str "NotNow")])) a (exo a C (some d))) a = some (exo a C (some d)) := upd_same
    have xd0 : (upd (upd H d (exd d [("code", V.str "NotNow")])) a (exo a C (some d))) d = some (exd d [("code", V.str "NotNow")]) := (upd_ne nd).trans upd_same
    have b0 : But a H (upd (upd H d (exd d [("code", V.str "NotNow")])) a (exo a C (some d))) := fun x o e n => by
      rw [upd_ne n, upd_ne (ne_of_none e hd)]
      exact e
    refine ⟨_, rfl, _, rfl, a, C, rfl, ea2, n1, .inr ⟨d, _, xa, xd0, (by show 1 ≤ 900; decide), ?_⟩⟩
    replace xa : (upd (upd (upd H d (exd d [("code", V.str "NotNow")])) a (exo a C (some d))) d (exd d (("deed", v1) :: [("code", V.str "NotNow")]))) a = some (exo a C (some d)) := (upd_ne nd.symm).trans xa
    have xd1 : (upd (upd (upd H d (exd d [("code", V.str "NotNow")])) a (exo a C (some d))) d (exd d (("deed", v1) :: [("code", V.str "NotNow")]))) d = some (exd d (("deed", v1) :: [("code", V.str "NotNow")])) := upd_same
    have b1 : But a H (upd (upd (upd H d (exd d [("code", V.str "NotNow")])) a (exo a C (some d))) d (exd d (("deed", v1) :: [("code", V.str "NotNow")]))) := fun x o e n => by
      rw [upd_ne (ne_of_none e hd)]
      exact b0 x o e n
    exact k d _ hd nd xa xd1 b1
end
abbrev sI_InvalidPage : Stmt := inClass (top 16) 0
/-- InvalidPage.__init__ -/
def spI_InvalidPage (K : PySem.W.Frag) : Sp := fun vs H Q _ => ∃ (a C : Addr) (v1 : V), vs = [.ref a, v1] ∧ EcI K "ValueError.__init__" C ∧ (PySem.W.findIn K (.ref C) "code" = some none ∧ PySem.W.findIn K (.ref C) "line" = some none) ∧ H a = some (exo a C none) ∧ Adm H v1 ∧
  ∀ (d : Addr) (H' : Hp), H d = none → d ≠ a → H' a = some (exo a C (some d)) → H' d = some (exd d [("line", v1), ("code", .str "InvalidPage")]) → But a H H' → Q .non H'
section
variable {P : Program} {w : World} {K : PySem.W.Frag} {mg : Str → Option Value} {base : Heap}
theorem scI_InvalidPage : FnScope ["self", "line"] ["self", "line"] (defScope sI_InvalidPage) := ⟨rfl, rfl, rfl, by decide +kernel, rfl, by decide +kernel, by decide +kernel⟩
theorem okI_InvalidPage {f CB fS : Addr} {fd fdS : FuncData} (F : Fun K "__init__" "InvalidPage.__init__" sI_InvalidPage f fd) (W : Bs K mg "SlopeError" "ValueError.__init__" CB) (D : Dn K mg "shown" fS) (G : FnOk P w K mg base CX0 1 fS fdS ["value"] spShown) (bS : Binds K fdS ["value"] []) :
    FnOk P w K mg base CX0 2 f fd ["self", "line"] (spI_InvalidPage K) := by
  refine F.ok scI_InvalidPage (fun vs H Q E h => ?_) (fun cdv A outer s H vs Q E hr h => ?_)
  · obtain ⟨a, C, v1, rfl, _⟩ := h
    rfl
  · obtain ⟨a, C, v1, rfl, ec, ⟨n0, n1⟩, ea, ad1, k⟩ := h
    refine ⟨_, pss_cons (ps_expr (pe_bi (initId := "ValueError.__init__") (by rfl) W.gl W.sg W.rd W.vV W.vh (pa_cons (pv 0) (pa_cons (pe_joined (PJ.cons pe_str (PJ.cons (pe_fmt (pe_call G hr (by rfl) D.gl D.kp bS .nil pass0 (pa_cons (pv 1) pa_nil))) PJ.nil))) pa_nil)))) (pss_cons (ps_est (pv 0) pe_str) (pss_one (ps_est (pv 0) (pv 1)))), ?_⟩
    have ea2 : EcA K C := ⟨_, ec⟩
    refine ⟨_, rfl, _, rfl, fit (app_le e00 (show (Str.ofString "no valid page at line ").length ≤ 200 by decide)) (by decide), _, rfl, v1, rfl, ad1, fun z1 hz1 => .inl ⟨z1, rfl, fit hz1 (by decide), z1, rfl, fit (app_le (app_le e00 (show (Str.ofString "no valid page at line ").length ≤ 200 by decide)) hz1) (by decide), a, C, _, rfl, (by show 1 ≤ 1000; decide), ec, ea, ?_⟩⟩
    refine ⟨_, rfl, a, C, rfl, ea2, n0, .inl ⟨ea, fun d hd nd => ?_⟩⟩
    have xa : (upd (upd H d (exd d [("code", V.str "InvalidPage")])) a (exo a C (some d))) a = some (exo a C (some d)) := upd_same
    have xd0 : (upd (upd H d (exd d [("code", V.str "InvalidPage")])) a (exo a C (some d))) d = some (exd d [("code", V.str "InvalidPage")]) := (upd_ne nd).trans upd_same
    have b0 : But a H (upd (upd H d (exd d [("code", V.str "InvalidPage")])) a (exo a C (some d))) := fun x o e n => by
      rw [upd_ne n, upd_ne (ne_of_none e hd)]
      exact e
    refine ⟨_, rfl, _, rfl, a, C, rfl, ea2, n1, .inr ⟨d, _, xa, xd0, (by show 1 ≤ 900; decide), ?_⟩⟩
    replace xa : (upd (upd (upd H d (exd d [("code", V.str "InvalidPage")])) a (exo a C (some d))) d (exd d (("line", v1) :: [("code", V.str "InvalidPage")]))) a = some (exo a C (some d)) := (upd_ne nd.symm).trans xa
    have xd1 : (upd (upd (upd H d (exd d [("code", V.str "InvalidPage")])) a (exo a C (some d))) d (exd d (("line", v1) :: [("code", V.str "InvalidPage")]))) d = some (exd d (("line", v1) :: [("code", V.str "InvalidPage")])) := upd_same
    have b1 : But a H (upd (upd (upd H d (exd d [("code", V.str "InvalidPage")])) a (exo a C (some d))) d (exd d (("line", v1) :: [("code", V.str "InvalidPage")]))) := fun x o e n => by
      rw [upd_ne (ne_of_none e hd)]
      exact b0 x o e n
    exact k d _ hd nd xa xd1 b1
end
abbrev sI_UnknownName : Stmt := inClass (top 17) 0
/-- UnknownName.__init__ -/
def spI_UnknownName (K : PySem.W.Frag) : Sp := fun vs H Q _ => ∃ (a C : Addr) (v1 : V), vs = [.ref a, v1] ∧ EcI K "LookupError.__init__" C ∧ (PySem.W.findIn K (.ref C) "code" = some none ∧ PySem.W.findIn K (.ref C) "name" = some none) ∧ H a = some (exo a C none) ∧ Adm H v1 ∧
  ∀ (d : Addr) (H' : Hp), H d = none → d ≠ a → H' a = some (exo a C (some d)) → H' d = some (exd d [("name", v1), ("code", .str "UnknownName")]) → But a H H' → Q .non H'
section
variable {P : Program} {w : World} {K : PySem.W.Frag} {mg : Str → Option Value} {base : Heap}
theorem scI_UnknownName : FnScope ["self", "name"] ["self", "name"] (defScope sI_UnknownName) := ⟨rfl, rfl, rfl, by decide +kernel, rfl, by decide +kernel, by decide +kernel⟩
theorem okI_UnknownName {f CB fS : Addr} {fd fdS : FuncData} (F : Fun K "__init__" "UnknownName.__init__" sI_UnknownName f fd) (W : Bs K mg "Missing" "LookupError.__init__" CB) (D : Dn K mg "shown" fS) (G : FnOk P w K mg base CX0 1 fS fdS ["value"] spShown) (bS : Binds K fdS ["value"] []) :
    FnOk P w K mg base CX0 2 f fd ["self", "name"] (spI_UnknownName K) := by
  refine F.ok scI_UnknownName (fun vs H Q E h => ?_) (fun cdv A outer s H vs Q E hr h => ?_)
  · obtain ⟨a, C, v1, rfl, _⟩ := h
    rfl
  · obtain ⟨a, C, v1, rfl, ec, ⟨n0, n1⟩, ea, ad1, k⟩ := h
    refine ⟨_, pss_cons (ps_expr (pe_bi (initId := "LookupError.__init__") (by rfl) W.gl W.sg W.rd W.vV W.vh (pa_cons (pv 0) (pa_cons (pe_joined (PJ.cons (pe_fmt (pe_call G hr (by rfl) D.gl D.kp bS .nil pass0 (pa_cons (pv 1) pa_nil))) (PJ.cons pe_str PJ.nil))) pa_nil)))) (pss_cons (ps_est (pv 0) pe_str) (pss_one (ps_est (pv 0) (pv 1)))), ?_⟩
    have ea2 : EcA K C := ⟨_, ec⟩
    refine ⟨_, rfl, _, rfl, v1, rfl, ad1, fun z1 hz1 => .inl ⟨z1, rfl, fit hz1 (by decide), z1, rfl, fit (app_le e00 hz1) (by decide), _, rfl, fit (app_le (app_le e00 hz1) (show (Str.ofString " is not known here").length ≤ 200 by decide)) (by decide), a, C, _, rfl, (by show 1 ≤ 1000; decide), ec, ea, ?_⟩⟩
    refine ⟨_, rfl, a, C, rfl, ea2, n0, .inl ⟨ea, fun d hd nd => ?_⟩⟩
    have xa : (upd (upd H d (exd d [("code", V.str "UnknownName")])) a (exo a C (some d))) a = some (exo a C (some d)) := upd_same
    have xd0 : (upd (upd H d (exd d [("code", V.str "UnknownName")])) a (exo a C (some d))) d = some (exd d [("code", V.str "UnknownName")]) := (upd_ne nd).trans upd_same
    have b0 : But a H (upd (upd H d (exd d [("code", V.str "UnknownName")])) a (exo a C (some d))) := fun x o e n => by
      rw [upd_ne n, upd_ne (ne_of_none e hd)]
      exact e
    refine ⟨_, rfl, _, rfl, a, C, rfl, ea2, n1, .inr ⟨d, _, xa, xd0, (by show 1 ≤ 900; decide), ?_⟩⟩
    replace xa : (upd (upd (upd H d (exd d [("code", V.str "UnknownName")])) a (exo a C (some d))) d (exd d (("name", v1) :: [("code", V.str "UnknownName")]))) a = some (exo a C (some d)) := (upd_ne nd.symm).trans xa
    have xd1 : (upd (upd (upd H d (exd d [("code", V.str "UnknownName")])) a (exo a C (some d))) d (exd d (("name", v1) :: [("code", V.str "UnknownName")]))) d = some (exd d (("name", v1) :: [("code", V.str "UnknownName")])) := upd_same
    have b1 : But a H (upd (upd (upd H d (exd d [("code", V.str "UnknownName")])) a (exo a C (some d))) d (exd d (("name", v1) :: [("code", V.str "UnknownName")]))) := fun x o e n => by
      rw [upd_ne (ne_of_none e hd)]
      exact b0 x o e n
    exact k d _ hd nd xa xd1 b1
end
abbrev sI_NothingLeft : Stmt := inClass (top 18) 0
/-- NothingLeft.__init__ -/
def spI_NothingLeft (K : PySem.W.Frag) : Sp := fun vs H Q _ => ∃ (a C : Addr) (v1 : V), vs = [.ref a, v1] ∧ EcI K "LookupError.__init__" C ∧ (PySem.W.findIn K (.ref C) "code" = some none ∧ PySem.W.findIn K (.ref C) "deed" = some none) ∧ H a = some (exo a C none) ∧ Adm H v1 ∧
  ∀ (d : Addr) (H' : Hp), H d = none → d ≠ a → H' a = some (exo a C (some d)) → H' d = some (exd d [("deed", v1), ("code", .str "NothingLeft")]) → But a H H' → Q .non H'
section
variable {P : Program} {w : World} {K : PySem.W.Frag} {mg : Str → Option Value} {base : Heap}
theorem scI_NothingLeft : FnScope ["self", "deed"] ["self", "deed"] (defScope sI_NothingLeft) := ⟨rfl, rfl, rfl, by decide +kernel, rfl, by decide +kernel, by decide +kernel⟩
theorem okI_NothingLeft {f CB fS : Addr} {fd fdS : FuncData} (F : Fun K "__init__" "NothingLeft.__init__" sI_NothingLeft f fd) (W : Bs K mg "Missing" "LookupError.__init__" CB) (D : Dn K mg "shown" fS) (G : FnOk P w K mg base CX0 1 fS fdS ["value"] spShown) (bS : Binds K fdS ["value"] []) :
    FnOk P w K mg base CX0 2 f fd ["self", "deed"] (spI_NothingLeft K) := by
  refine F.ok scI_NothingLeft (fun vs H Q E h => ?_) (fun cdv A outer s H vs Q E hr h => ?_)
  · obtain ⟨a, C, v1, rfl, _⟩ := h
    rfl
  · obtain ⟨a, C, v1, rfl, ec, ⟨n0, n1⟩, ea, ad1, k⟩ := h
    refine ⟨_, pss_cons (ps_expr (pe_bi (initId := "LookupError.__init__") (by rfl) W.gl W.sg W.rd W.vV W.vh (pa_cons (pv 0) (pa_cons (pe_joined (PJ.cons pe_str (PJ.cons (pe_fmt (pe_call G hr (by rfl) D.gl D.kp bS .nil pass0 (pa_cons (pv 1) pa_nil))) PJ.nil))) pa_nil)))) (pss_cons (ps_est (pv 0) pe_str) (pss_one (ps_est (pv 0) (pv 1)))), ?_⟩
    have ea2 : EcA K C := ⟨_, ec⟩
    refine ⟨_, rfl, _, rfl, fit (app_le e00 (show (Str.ofString "nothing is left for ").length ≤ 200 by decide)) (by decide), _, rfl, v1, rfl, ad1, fun z1 hz1 => .inl ⟨z1, rfl, fit hz1 (by decide), z1, rfl, fit (app_le (app_le e00 (show (Str.ofString "nothing is left for ").length ≤ 200 by decide)) hz1) (by decide), a, C, _, rfl, (by show 1 ≤ 1000; decide), ec, ea, ?_⟩⟩
    refine ⟨_, rfl, a, C, rfl, ea2, n0, .inl ⟨ea, fun d hd nd => ?_⟩⟩
    have xa : (upd (upd H d (exd d [("code", V.str "NothingLeft")])) a (exo a C (some d))) a = some (exo a C (some d)) := upd_same
    have xd0 : (upd (upd H d (exd d [("code", V.str "NothingLeft")])) a (exo a C (some d))) d = some (exd d [("code", V.str "NothingLeft")]) := (upd_ne nd).trans upd_same
    have b0 : But a H (upd (upd H d (exd d [("code", V.str "NothingLeft")])) a (exo a C (some d))) := fun x o e n => by
      rw [upd_ne n, upd_ne (ne_of_none e hd)]
      exact e
    refine ⟨_, rfl, _, rfl, a, C, rfl, ea2, n1, .inr ⟨d, _, xa, xd0, (by show 1 ≤ 900; decide), ?_⟩⟩
    replace xa : (upd (upd (upd H d (exd d [("code", V.str "NothingLeft")])) a (exo a C (some d))) d (exd d (("deed", v1) :: [("code", V.str "NothingLeft")]))) a = some (exo a C (some d)) := (upd_ne nd.symm).trans xa
    have xd1 : (upd (upd (upd H d (exd d [("code", V.str "NothingLeft")])) a (exo a C (some d))) d (exd d (("deed", v1) :: [("code", V.str "NothingLeft")]))) d = some (exd d (("deed", v1) :: [("code", V.str "NothingLeft")])) := upd_same
    have b1 : But a H (upd (upd (upd H d (exd d [("code", V.str "NothingLeft")])) a (exo a C (some d))) d (exd d (("deed", v1) :: [("code", V.str "NothingLeft")]))) := fun x o e n => by
      rw [upd_ne (ne_of_none e hd)]
      exact b0 x o e n
    exact k d _ hd nd xa xd1 b1
end
end K80

set_option Elab.async false
set_option linter.all false
set_option maxRecDepth 100000
set_option maxHeartbeats 4000000
namespace K80
open PySem PySem.Spec PyProof.Rows L2 Ux
abbrev sField : Stmt := top 24
abbrev sOther : Stmt := top 25
abbrev sMade : Stmt := top 26
abbrev sPlain : Stmt := top 27
abbrev sSorts : Stmt := top 28
abbrev sLaw : Stmt := top 29
abbrev veB : List Value := [.type "ValueError", .type "Exception", .type "BaseException", .type "object"]
abbrev leB : List Value := [.type "LookupError", .type "Exception", .type "BaseException", .type "object"]
def codes : List Str := ["InvalidName", "InvalidNumber", "InvalidFact", "InvalidText", "WrongKind", "InvalidBlank", "NameTaken", "TooLarge", "UnlikeWorlds", "InvalidWitness", "InvalidRow", "NotNow", "InvalidPage", "UnknownName", "NothingLeft"]
abbrev code (k : Nat) : Str := codes.getD k ""
/-- the fields of the k-th error, the last one stored first -/
def efs (v m : V) : Nat → List (Str × V)
  | 0 => [("given", v), ("code", .str "InvalidName")]
  | 1 => [("given", v), ("code", .str "InvalidNumber")]
  | 2 => [("what", v), ("code", .str "InvalidFact")]
  | 3 => [("at", v), ("code", .str "InvalidText")]
  | 4 => [("at", v), ("code", .str "WrongKind")]
  | 5 => [("at", v), ("code", .str "InvalidBlank")]
  | 6 => [("name", v), ("code", .str "NameTaken")]
  | 7 => [("limit", m), ("what", v), ("code", .str "TooLarge")]
  | 8 => [("code", .str "UnlikeWorlds")]
  | 9 => [("name", v), ("code", .str "InvalidWitness")]
  | 10 => [("index", v), ("code", .str "InvalidRow")]
  | 11 => [("deed", v), ("code", .str "NotNow")]
  | 12 => [("line", v), ("code", .str "InvalidPage")]
  | 13 => [("name", v), ("code", .str "UnknownName")]
  | 14 => [("deed", v), ("code", .str "NothingLeft")]
  | _ => []
def fnames : List Str := ["code", "given", "what", "at", "name", "limit", "index", "deed", "line"]
/-- the k-th error, made of v and m, stands at e -/
def ErAt (Cs : Nat → Addr) (H : Hp) (k : Nat) (v m : V) (e : Addr) : Prop := ∃ d : Addr, H e = some (exo e (Cs k) (some d)) ∧ H d = some (exd d (efs v m k))
theorem ErAt.same {Cs : Nat → Addr} {H H' : Hp} {k : Nat} {v m : V} {e : Addr} (h : ErAt Cs H k v m e) (s : Same H H') : ErAt Cs H' k v m e := by
  obtain ⟨d, h1, h2⟩ := h
  exact ⟨d, s _ _ h1, s _ _ h2⟩
theorem code_in (v m : V) (k : Nat) (hk : k < 15) : (efs v m k).lookup ("code" : Str) = some (V.str (code k)) := by
  match k, hk with
  | 0, _ =>
    show List.lookup ("code" : Str) [(("given" : Str), v), (("code" : Str), V.str "InvalidName")] = some _
    rw [lookup_put, if_neg (by decide +kernel), lookup_put, if_pos rfl] <;> rfl
  | 1, _ =>
    show List.lookup ("code" : Str) [(("given" : Str), v), (("code" : Str), V.str "InvalidNumber")] = some _
    rw [lookup_put, if_neg (by decide +kernel), lookup_put, if_pos rfl] <;> rfl
  | 2, _ =>
    show List.lookup ("code" : Str) [(("what" : Str), v), (("code" : Str), V.str "InvalidFact")] = some _
    rw [lookup_put, if_neg (by decide +kernel), lookup_put, if_pos rfl] <;> rfl
  | 3, _ =>
    show List.lookup ("code" : Str) [(("at" : Str), v), (("code" : Str), V.str "InvalidText")] = some _
    rw [lookup_put, if_neg (by decide +kernel), lookup_put, if_pos rfl] <;> rfl
  | 4, _ =>
    show List.lookup ("code" : Str) [(("at" : Str), v), (("code" : Str), V.str "WrongKind")] = some _
    rw [lookup_put, if_neg (by decide +kernel), lookup_put, if_pos rfl] <;> rfl
  | 5, _ =>
    show List.lookup ("code" : Str) [(("at" : Str), v), (("code" : Str), V.str "InvalidBlank")] = some _
    rw [lookup_put, if_neg (by decide +kernel), lookup_put, if_pos rfl] <;> rfl
  | 6, _ =>
    show List.lookup ("code" : Str) [(("name" : Str), v), (("code" : Str), V.str "NameTaken")] = some _
    rw [lookup_put, if_neg (by decide +kernel), lookup_put, if_pos rfl] <;> rfl
  | 7, _ =>
    show List.lookup ("code" : Str) [(("limit" : Str), m), (("what" : Str), v), (("code" : Str), V.str "TooLarge")] = some _
    rw [lookup_put, if_neg (by decide +kernel), lookup_put, if_neg (by decide +kernel), lookup_put, if_pos rfl] <;> rfl
  | 8, _ =>
    show List.lookup ("code" : Str) [(("code" : Str), V.str "UnlikeWorlds")] = some _
    rw [lookup_put, if_pos rfl] <;> rfl
  | 9, _ =>
    show List.lookup ("code" : Str) [(("name" : Str), v), (("code" : Str), V.str "InvalidWitness")] = some _
    rw [lookup_put, if_neg (by decide +kernel), lookup_put, if_pos rfl] <;> rfl
  | 10, _ =>
    show List.lookup ("code" : Str) [(("index" : Str), v), (("code" : Str), V.str "InvalidRow")] = some _
    rw [lookup_put, if_neg (by decide +kernel), lookup_put, if_pos rfl] <;> rfl
  | 11, _ =>
    show List.lookup ("code" : Str) [(("deed" : Str), v), (("code" : Str), V.str "NotNow")] = some _
    rw [lookup_put, if_neg (by decide +kernel), lookup_put, if_pos rfl] <;> rfl
  | 12, _ =>
    show List.lookup ("code" : Str) [(("line" : Str), v), (("code" : Str), V.str "InvalidPage")] = some _
    rw [lookup_put, if_neg (by decide +kernel), lookup_put, if_pos rfl] <;> rfl
  | 13, _ =>
    show List.lookup ("code" : Str) [(("name" : Str), v), (("code" : Str), V.str "UnknownName")] = some _
    rw [lookup_put, if_neg (by decide +kernel), lookup_put, if_pos rfl] <;> rfl
  | 14, _ =>
    show List.lookup ("code" : Str) [(("deed" : Str), v), (("code" : Str), V.str "NothingLeft")] = some _
    rw [lookup_put, if_neg (by decide +kernel), lookup_put, if_pos rfl] <;> rfl
/-- what the text says of the error classes -/
structure ET (K : PySem.W.Frag) (mg : Str → Option Value) (Cs : Nat → Addr) (CS CM : Addr) : Prop where
  ec : ∀ k, k < 15 → EcA K (Cs k)
  ei : ∀ k, k < 15 → Ei K (Cs k)
  nf : ∀ k, k < 15 → ∀ f ∈ fnames, PySem.W.findIn K (.ref (Cs k)) f = some none
  gl : ∀ k, k < 15 → mg (code k) = some (.ref (Cs k))
  gS : mg "SlopeError" = some (.ref CS)
  gM : mg "Missing" = some (.ref CM)
  kit : ∀ k j, k < 15 → j < 15 → PySem.W.kitOne K (.ref (Cs k)) (.ref (Cs j)) = some (decide (j = k))
  kS : ∀ k, k < 15 → PySem.W.kitOne K (.ref (Cs k)) (.ref CS) = some (decide (k < 13))
  kV : ∀ k, k < 15 → PySem.W.kitOne K (.ref (Cs k)) (.type "ValueError") = some (decide (k < 13))
  kM : ∀ k, k < 15 → PySem.W.kitOne K (.ref (Cs k)) (.ref CM) = some (decide (12 < k))
  kL : ∀ k, k < 15 → PySem.W.kitOne K (.ref (Cs k)) (.type "LookupError") = some (decide (12 < k))
/-- what field tells of the k-th -/
def FieldIs (H : Hp) (v m : V) (k : Nat) (u : V) : Prop := (k = 7 ∧ ∃ p, u = .ref p ∧ H p = some (.tup [v, m])) ∨ (k = 8 ∧ u = .non) ∨ (k ≠ 7 ∧ k ≠ 8 ∧ u = v)
def spField (Cs : Nat → Addr) : Sp := fun vs H Q _ => ∃ (e : Addr) (k : Nat) (v m : V), vs = [.ref e] ∧ k < 15 ∧ ErAt Cs H k v m e ∧ ∀ u H', Same H H' → FieldIs H' v m k u → Q u H'
def spOther (Cs : Nat → Addr) : Sp := fun vs H Q _ => ∃ (e : Addr) (k : Nat) (v m : V), vs = [.ref e] ∧ (k = 2 ∨ k = 8 ∨ k = 10 ∨ k = 11 ∨ k = 12 ∨ k = 14) ∧ ErAt Cs H k v m e ∧ ∀ u H', Same H H' → FieldIs H' v m k u → Q u H'
section
variable {P : Program} {w : World} {K : PySem.W.Frag} {mg : Str → Option Value} {base : Heap} {Cs : Nat → Addr} {CS CM : Addr}
theorem scOther : FnScope ["_law_e"] ["_law_e"] (defScope sOther) := ⟨rfl, rfl, rfl, by decide +kernel, rfl, by decide +kernel, by decide +kernel⟩
theorem ok_other {f : Addr} {fd : FuncData} (F : Fun K "_law_other_field" "_law_other_field" sOther f fd) (T : ET K mg Cs CS CM) : FnOk P w K mg base CX0 1 f fd ["_law_e"] (spOther Cs) := by
  refine F.ok scOther (fun vs H Q E h => ?_) (fun cdv A outer s H vs Q E hr h => ?_)
  · obtain ⟨e, k, v, m, rfl, _⟩ := h
    rfl
  · obtain ⟨e, k, v, m, rfl, hk, ⟨d, he, hd⟩, q⟩ := h
    refine ⟨_, pss_cons (ps_if (pt_cmpR op_eq (pe_ef (pv 0)) pe_str (nomark _)) (pss_one (ps_ret (pe_ef (pv 0)))) pss_nil)
      (pss_cons (ps_if (pt_cmpR op_eq (pe_ef (pv 0)) pe_str (nomark _)) (pss_one (ps_ret (pe_ef (pv 0)))) pss_nil)
      (pss_cons (ps_if (pt_cmpR op_eq (pe_ef (pv 0)) pe_str (nomark _)) (pss_one (ps_ret (pe_ef (pv 0)))) pss_nil)
      (pss_one (ps_ret (pe_ifExp (pt_cmpR op_eq (pe_ef (pv 0)) pe_str (nomark _)) pe_non (pe_ef (pv 0))))))), ?_⟩
    have k15 : k < 15 := by omega
    have ec := T.ec k k15
    have nf := T.nf k k15
    have cd := code_in v m k k15
    rcases hk with rfl | rfl | rfl | rfl | rfl | rfl
    · refine ⟨_, rfl, e, _, d, _, _, rfl, ec, nf _ (by decide +kernel), he, hd, cd, rfl, _, rfl, ?_⟩
      rw [show decide (V.str (code 2) = V.str "InvalidFact") = true from by decide +kernel]
      refine iteT ?_
      exact ⟨_, rfl, e, _, d, _, v, rfl, ec, nf _ (by decide +kernel), he, hd, (by show List.lookup ("what" : Str) [(("what" : Str), v), (("code" : Str), V.str "InvalidFact")] = some _; rw [lookup_put, if_pos rfl]), q v _ (Same.refl _) (.inr (.inr ⟨by decide, by decide, rfl⟩))⟩
    · refine ⟨_, rfl, e, _, d, _, _, rfl, ec, nf _ (by decide +kernel), he, hd, cd, rfl, _, rfl, ?_⟩
      rw [show decide (V.str (code 8) = V.str "InvalidFact") = false from by decide +kernel]
      refine iteF ?_
      refine ⟨_, rfl, e, _, d, _, _, rfl, ec, nf _ (by decide +kernel), he, hd, cd, rfl, _, rfl, ?_⟩
      rw [show decide (V.str (code 8) = V.str "InvalidRow") = false from by decide +kernel]
      refine iteF ?_
      refine ⟨_, rfl, e, _, d, _, _, rfl, ec, nf _ (by decide +kernel), he, hd, cd, rfl, _, rfl, ?_⟩
      rw [show decide (V.str (code 8) = V.str "InvalidPage") = false from by decide +kernel]
      refine iteF ?_
      refine ⟨_, rfl, e, _, d, _, _, rfl, ec, nf _ (by decide +kernel), he, hd, cd, rfl, _, rfl, ?_⟩
      rw [show decide (V.str (code 8) = V.str "UnlikeWorlds") = true from by decide +kernel]
      refine iteT ?_
      exact q _ _ (Same.refl _) (.inr (.inl ⟨rfl, rfl⟩))
    · refine ⟨_, rfl, e, _, d, _, _, rfl, ec, nf _ (by decide +kernel), he, hd, cd, rfl, _, rfl, ?_⟩
      rw [show decide (V.str (code 10) = V.str "InvalidFact") = false from by decide +kernel]
      refine iteF ?_
      refine ⟨_, rfl, e, _, d, _, _, rfl, ec, nf _ (by decide +kernel), he, hd, cd, rfl, _, rfl, ?_⟩
      rw [show decide (V.str (code 10) = V.str "InvalidRow") = true from by decide +kernel]
      refine iteT ?_
      exact ⟨_, rfl, e, _, d, _, v, rfl, ec, nf _ (by decide +kernel), he, hd, (by show List.lookup ("index" : Str) [(("index" : Str), v), (("code" : Str), V.str "InvalidRow")] = some _; rw [lookup_put, if_pos rfl]), q v _ (Same.refl _) (.inr (.inr ⟨by decide, by decide, rfl⟩))⟩
    · refine ⟨_, rfl, e, _, d, _, _, rfl, ec, nf _ (by decide +kernel), he, hd, cd, rfl, _, rfl, ?_⟩
      rw [show decide (V.str (code 11) = V.str "InvalidFact") = false from by decide +kernel]
      refine iteF ?_
      refine ⟨_, rfl, e, _, d, _, _, rfl, ec, nf _ (by decide +kernel), he, hd, cd, rfl, _, rfl, ?_⟩
      rw [show decide (V.str (code 11) = V.str "InvalidRow") = false from by decide +kernel]
      refine iteF ?_
      refine ⟨_, rfl, e, _, d, _, _, rfl, ec, nf _ (by decide +kernel), he, hd, cd, rfl, _, rfl, ?_⟩
      rw [show decide (V.str (code 11) = V.str "InvalidPage") = false from by decide +kernel]
      refine iteF ?_
      refine ⟨_, rfl, e, _, d, _, _, rfl, ec, nf _ (by decide +kernel), he, hd, cd, rfl, _, rfl, ?_⟩
      rw [show decide (V.str (code 11) = V.str "UnlikeWorlds") = false from by decide +kernel]
      refine iteF ?_
      exact ⟨_, rfl, e, _, d, _, v, rfl, ec, nf _ (by decide +kernel), he, hd, (by show List.lookup ("deed" : Str) [(("deed" : Str), v), (("code" : Str), V.str "NotNow")] = some _; rw [lookup_put, if_pos rfl]), q v _ (Same.refl _) (.inr (.inr ⟨by decide, by decide, rfl⟩))⟩
    · refine ⟨_, rfl, e, _, d, _, _, rfl, ec, nf _ (by decide +kernel), he, hd, cd, rfl, _, rfl, ?_⟩
      rw [show decide (V.str (code 12) = V.str "InvalidFact") = false from by decide +kernel]
      refine iteF ?_
      refine ⟨_, rfl, e, _, d, _, _, rfl, ec, nf _ (by decide +kernel), he, hd, cd, rfl, _, rfl, ?_⟩
      rw [show decide (V.str (code 12) = V.str "InvalidRow") = false from by decide +kernel]
      refine iteF ?_
      refine ⟨_, rfl, e, _, d, _, _, rfl, ec, nf _ (by decide +kernel), he, hd, cd, rfl, _, rfl, ?_⟩
      rw [show decide (V.str (code 12) = V.str "InvalidPage") = true from by decide +kernel]
      refine iteT ?_
      exact ⟨_, rfl, e, _, d, _, v, rfl, ec, nf _ (by decide +kernel), he, hd, (by show List.lookup ("line" : Str) [(("line" : Str), v), (("code" : Str), V.str "InvalidPage")] = some _; rw [lookup_put, if_pos rfl]), q v _ (Same.refl _) (.inr (.inr ⟨by decide, by decide, rfl⟩))⟩
    · refine ⟨_, rfl, e, _, d, _, _, rfl, ec, nf _ (by decide +kernel), he, hd, cd, rfl, _, rfl, ?_⟩
      rw [show decide (V.str (code 14) = V.str "InvalidFact") = false from by decide +kernel]
      refine iteF ?_
      refine ⟨_, rfl, e, _, d, _, _, rfl, ec, nf _ (by decide +kernel), he, hd, cd, rfl, _, rfl, ?_⟩
      rw [show decide (V.str (code 14) = V.str "InvalidRow") = false from by decide +kernel]
      refine iteF ?_
      refine ⟨_, rfl, e, _, d, _, _, rfl, ec, nf _ (by decide +kernel), he, hd, cd, rfl, _, rfl, ?_⟩
      rw [show decide (V.str (code 14) = V.str "InvalidPage") = false from by decide +kernel]
      refine iteF ?_
      refine ⟨_, rfl, e, _, d, _, _, rfl, ec, nf _ (by decide +kernel), he, hd, cd, rfl, _, rfl, ?_⟩
      rw [show decide (V.str (code 14) = V.str "UnlikeWorlds") = false from by decide +kernel]
      refine iteF ?_
      exact ⟨_, rfl, e, _, d, _, v, rfl, ec, nf _ (by decide +kernel), he, hd, (by show List.lookup ("deed" : Str) [(("deed" : Str), v), (("code" : Str), V.str "NothingLeft")] = some _; rw [lookup_put, if_pos rfl]), q v _ (Same.refl _) (.inr (.inr ⟨by decide, by decide, rfl⟩))⟩
theorem scField : FnScope ["_law_e"] ["_law_e"] (defScope sField) := ⟨rfl, rfl, rfl, by decide +kernel, rfl, by decide +kernel, by decide +kernel⟩
theorem ok_field {f fO : Addr} {fd fdO : FuncData} (F : Fun K "_law_field" "_law_field" sField f fd) (T : ET K mg Cs CS CM) (D : Dn K mg "_law_other_field" fO) (G : FnOk P w K mg base CX0 1 fO fdO ["_law_e"] (spOther Cs)) (bO : Binds K fdO ["_law_e"] []) :
    FnOk P w K mg base CX0 2 f fd ["_law_e"] (spField Cs) := by
  refine F.ok scField (fun vs H Q E h => ?_) (fun cdv A outer s H vs Q E hr h => ?_)
  · obtain ⟨e, k, v, m, rfl, _⟩ := h
    rfl
  · obtain ⟨e, k, v, m, rfl, hk, ⟨d, he, hd⟩, q⟩ := h
    refine ⟨_, pss_cons (ps_if (pt_cmpR op_in_seq (pe_ef (pv 0)) (pe_tup (pa_cons pe_str (pa_cons pe_str pa_nil))) (by rfl)) (pss_one (ps_ret (pe_ef (pv 0)))) pss_nil)
      (pss_cons (ps_if (pt_cmpR op_in_seq (pe_ef (pv 0)) (pe_tup (pa_cons pe_str (pa_cons pe_str (pa_cons pe_str pa_nil)))) (by rfl)) (pss_one (ps_ret (pe_ef (pv 0)))) pss_nil)
      (pss_cons (ps_if (pt_cmpR op_in_seq (pe_ef (pv 0)) (pe_tup (pa_cons pe_str (pa_cons pe_str (pa_cons pe_str pa_nil)))) (by rfl)) (pss_one (ps_ret (pe_ef (pv 0)))) pss_nil)
      (pss_cons (ps_if (pt_cmpR op_eq (pe_ef (pv 0)) pe_str (nomark _)) (pss_one (ps_ret (pe_tup (pa_cons (pe_ef (pv 0)) (pa_cons (pe_ef (pv 0)) pa_nil))))) pss_nil)
      (pss_one (ps_ret (pe_call G hr (by rfl) D.gl D.kp bO .nil pass0 (pa_cons (pv 0) pa_nil))))))), ?_⟩
    have ec := T.ec k hk
    have nf := T.nf k hk
    have cd := code_in v m k hk
    have s0 := Same.refl H
    match k, hk with
    | 0, hk =>
      refine ⟨_, rfl, e, _, d, _, _, rfl, ec, nf _ (by decide +kernel), s0 _ _ he, s0 _ _ hd, cd, (by show 2 ≤ sizeLine; decide), fun p0 hp0 => ⟨p0, _, rfl, .inr (.of upd_same), rfl, rfl, _, rfl, ?_⟩⟩
      have s1 := Same.new s0 hp0 (o := .tup [V.str "InvalidName", V.str "InvalidNumber"])
      simp only [Bool.false_eq_true, if_false]
      rw [show inV (V.str (code 0)) [V.str "InvalidName", V.str "InvalidNumber"] = true from by decide +kernel]
      refine iteT ?_
      exact ⟨_, rfl, e, _, d, _, v, rfl, ec, nf _ (by decide +kernel), s1 _ _ he, s1 _ _ hd, (by show List.lookup ("given" : Str) [(("given" : Str), v), (("code" : Str), V.str "InvalidName")] = some _; rw [lookup_put, if_pos rfl]), q v _ s1 (.inr (.inr ⟨by decide, by decide, rfl⟩))⟩
    | 1, hk =>
      refine ⟨_, rfl, e, _, d, _, _, rfl, ec, nf _ (by decide +kernel), s0 _ _ he, s0 _ _ hd, cd, (by show 2 ≤ sizeLine; decide), fun p0 hp0 => ⟨p0, _, rfl, .inr (.of upd_same), rfl, rfl, _, rfl, ?_⟩⟩
      have s1 := Same.new s0 hp0 (o := .tup [V.str "InvalidName", V.str "InvalidNumber"])
      simp only [Bool.false_eq_true, if_false]
      rw [show inV (V.str (code 1)) [V.str "InvalidName", V.str "InvalidNumber"] = true from by decide +kernel]
      refine iteT ?_
      exact ⟨_, rfl, e, _, d, _, v, rfl, ec, nf _ (by decide +kernel), s1 _ _ he, s1 _ _ hd, (by show List.lookup ("given" : Str) [(("given" : Str), v), (("code" : Str), V.str "InvalidNumber")] = some _; rw [lookup_put, if_pos rfl]), q v _ s1 (.inr (.inr ⟨by decide, by decide, rfl⟩))⟩
    | 2, hk =>
      refine ⟨_, rfl, e, _, d, _, _, rfl, ec, nf _ (by decide +kernel), s0 _ _ he, s0 _ _ hd, cd, (by show 2 ≤ sizeLine; decide), fun p0 hp0 => ⟨p0, _, rfl, .inr (.of upd_same), rfl, rfl, _, rfl, ?_⟩⟩
      have s1 := Same.new s0 hp0 (o := .tup [V.str "InvalidName", V.str "InvalidNumber"])
      simp only [Bool.false_eq_true, if_false]
      rw [show inV (V.str (code 2)) [V.str "InvalidName", V.str "InvalidNumber"] = false from by decide +kernel]
      refine iteF ?_
      refine ⟨_, rfl, e, _, d, _, _, rfl, ec, nf _ (by decide +kernel), s1 _ _ he, s1 _ _ hd, cd, (by show 3 ≤ sizeLine; decide), fun p1 hp1 => ⟨p1, _, rfl, .inr (.of upd_same), rfl, rfl, _, rfl, ?_⟩⟩
      have s2 := Same.new s1 hp1 (o := .tup [V.str "InvalidText", V.str "WrongKind", V.str "InvalidBlank"])
      simp only [Bool.false_eq_true, if_false]
      rw [show inV (V.str (code 2)) [V.str "InvalidText", V.str "WrongKind", V.str "InvalidBlank"] = false from by decide +kernel]
      refine iteF ?_
      refine ⟨_, rfl, e, _, d, _, _, rfl, ec, nf _ (by decide +kernel), s2 _ _ he, s2 _ _ hd, cd, (by show 3 ≤ sizeLine; decide), fun p2 hp2 => ⟨p2, _, rfl, .inr (.of upd_same), rfl, rfl, _, rfl, ?_⟩⟩
      have s3 := Same.new s2 hp2 (o := .tup [V.str "NameTaken", V.str "InvalidWitness", V.str "UnknownName"])
      simp only [Bool.false_eq_true, if_false]
      rw [show inV (V.str (code 2)) [V.str "NameTaken", V.str "InvalidWitness", V.str "UnknownName"] = false from by decide +kernel]
      refine iteF ?_
      refine ⟨_, rfl, e, _, d, _, _, rfl, ec, nf _ (by decide +kernel), s3 _ _ he, s3 _ _ hd, cd, rfl, _, rfl, ?_⟩
      rw [show decide (V.str (code 2) = V.str "TooLarge") = false from by decide +kernel]
      refine iteF ?_
      exact ⟨_, rfl, e, 2, v, m, rfl, by decide, ⟨d, s3 _ _ he, s3 _ _ hd⟩, fun u H' s' fi => q u H' (s3.trans s') fi⟩
    | 3, hk =>
      refine ⟨_, rfl, e, _, d, _, _, rfl, ec, nf _ (by decide +kernel), s0 _ _ he, s0 _ _ hd, cd, (by show 2 ≤ sizeLine; decide), fun p0 hp0 => ⟨p0, _, rfl, .inr (.of upd_same), rfl, rfl, _, rfl, ?_⟩⟩
      have s1 := Same.new s0 hp0 (o := .tup [V.str "InvalidName", V.str "InvalidNumber"])
      simp only [Bool.false_eq_true, if_false]
      rw [show inV (V.str (code 3)) [V.str "InvalidName", V.str "InvalidNumber"] = false from by decide +kernel]
      refine iteF ?_
      refine ⟨_, rfl, e, _, d, _, _, rfl, ec, nf _ (by decide +kernel), s1 _ _ he, s1 _ _ hd, cd, (by show 3 ≤ sizeLine; decide), fun p1 hp1 => ⟨p1, _, rfl, .inr (.of upd_same), rfl, rfl, _, rfl, ?_⟩⟩
      have s2 := Same.new s1 hp1 (o := .tup [V.str "InvalidText", V.str "WrongKind", V.str "InvalidBlank"])
      simp only [Bool.false_eq_true, if_false]
      rw [show inV (V.str (code 3)) [V.str "InvalidText", V.str "WrongKind", V.str "InvalidBlank"] = true from by decide +kernel]
      refine iteT ?_
      exact ⟨_, rfl, e, _, d, _, v, rfl, ec, nf _ (by decide +kernel), s2 _ _ he, s2 _ _ hd, (by show List.lookup ("at" : Str) [(("at" : Str), v), (("code" : Str), V.str "InvalidText")] = some _; rw [lookup_put, if_pos rfl]), q v _ s2 (.inr (.inr ⟨by decide, by decide, rfl⟩))⟩
    | 4, hk =>
      refine ⟨_, rfl, e, _, d, _, _, rfl, ec, nf _ (by decide +kernel), s0 _ _ he, s0 _ _ hd, cd, (by show 2 ≤ sizeLine; decide), fun p0 hp0 => ⟨p0, _, rfl, .inr (.of upd_same), rfl, rfl, _, rfl, ?_⟩⟩
      have s1 := Same.new s0 hp0 (o := .tup [V.str "InvalidName", V.str "InvalidNumber"])
      simp only [Bool.false_eq_true, if_false]
      rw [show inV (V.str (code 4)) [V.str "InvalidName", V.str "InvalidNumber"] = false from by decide +kernel]
      refine iteF ?_
      refine ⟨_, rfl, e, _, d, _, _, rfl, ec, nf _ (by decide +kernel), s1 _ _ he, s1 _ _ hd, cd, (by show 3 ≤ sizeLine; decide), fun p1 hp1 => ⟨p1, _, rfl, .inr (.of upd_same), rfl, rfl, _, rfl, ?_⟩⟩
      have s2 := Same.new s1 hp1 (o := .tup [V.str "InvalidText", V.str "WrongKind", V.str "InvalidBlank"])
      simp only [Bool.false_eq_true, if_false]
      rw [show inV (V.str (code 4)) [V.str "InvalidText", V.str "WrongKind", V.str "InvalidBlank"] = true from by decide +kernel]
      refine iteT ?_
      exact ⟨_, rfl, e, _, d, _, v, rfl, ec, nf _ (by decide +kernel), s2 _ _ he, s2 _ _ hd, (by show List.lookup ("at" : Str) [(("at" : Str), v), (("code" : Str), V.str "WrongKind")] = some _; rw [lookup_put, if_pos rfl]), q v _ s2 (.inr (.inr ⟨by decide, by decide, rfl⟩))⟩
    | 5, hk =>
      refine ⟨_, rfl, e, _, d, _, _, rfl, ec, nf _ (by decide +kernel), s0 _ _ he, s0 _ _ hd, cd, (by show 2 ≤ sizeLine; decide), fun p0 hp0 => ⟨p0, _, rfl, .inr (.of upd_same), rfl, rfl, _, rfl, ?_⟩⟩
      have s1 := Same.new s0 hp0 (o := .tup [V.str "InvalidName", V.str "InvalidNumber"])
      simp only [Bool.false_eq_true, if_false]
      rw [show inV (V.str (code 5)) [V.str "InvalidName", V.str "InvalidNumber"] = false from by decide +kernel]
      refine iteF ?_
      refine ⟨_, rfl, e, _, d, _, _, rfl, ec, nf _ (by decide +kernel), s1 _ _ he, s1 _ _ hd, cd, (by show 3 ≤ sizeLine; decide), fun p1 hp1 => ⟨p1, _, rfl, .inr (.of upd_same), rfl, rfl, _, rfl, ?_⟩⟩
      have s2 := Same.new s1 hp1 (o := .tup [V.str "InvalidText", V.str "WrongKind", V.str "InvalidBlank"])
      simp only [Bool.false_eq_true, if_false]
      rw [show inV (V.str (code 5)) [V.str "InvalidText", V.str "WrongKind", V.str "InvalidBlank"] = true from by decide +kernel]
      refine iteT ?_
      exact ⟨_, rfl, e, _, d, _, v, rfl, ec, nf _ (by decide +kernel), s2 _ _ he, s2 _ _ hd, (by show List.lookup ("at" : Str) [(("at" : Str), v), (("code" : Str), V.str "InvalidBlank")] = some _; rw [lookup_put, if_pos rfl]), q v _ s2 (.inr (.inr ⟨by decide, by decide, rfl⟩))⟩
    | 6, hk =>
      refine ⟨_, rfl, e, _, d, _, _, rfl, ec, nf _ (by decide +kernel), s0 _ _ he, s0 _ _ hd, cd, (by show 2 ≤ sizeLine; decide), fun p0 hp0 => ⟨p0, _, rfl, .inr (.of upd_same), rfl, rfl, _, rfl, ?_⟩⟩
      have s1 := Same.new s0 hp0 (o := .tup [V.str "InvalidName", V.str "InvalidNumber"])
      simp only [Bool.false_eq_true, if_false]
      rw [show inV (V.str (code 6)) [V.str "InvalidName", V.str "InvalidNumber"] = false from by decide +kernel]
      refine iteF ?_
      refine ⟨_, rfl, e, _, d, _, _, rfl, ec, nf _ (by decide +kernel), s1 _ _ he, s1 _ _ hd, cd, (by show 3 ≤ sizeLine; decide), fun p1 hp1 => ⟨p1, _, rfl, .inr (.of upd_same), rfl, rfl, _, rfl, ?_⟩⟩
      have s2 := Same.new s1 hp1 (o := .tup [V.str "InvalidText", V.str "WrongKind", V.str "InvalidBlank"])
      simp only [Bool.false_eq_true, if_false]
      rw [show inV (V.str (code 6)) [V.str "InvalidText", V.str "WrongKind", V.str "InvalidBlank"] = false from by decide +kernel]
      refine iteF ?_
      refine ⟨_, rfl, e, _, d, _, _, rfl, ec, nf _ (by decide +kernel), s2 _ _ he, s2 _ _ hd, cd, (by show 3 ≤ sizeLine; decide), fun p2 hp2 => ⟨p2, _, rfl, .inr (.of upd_same), rfl, rfl, _, rfl, ?_⟩⟩
      have s3 := Same.new s2 hp2 (o := .tup [V.str "NameTaken", V.str "InvalidWitness", V.str "UnknownName"])
      simp only [Bool.false_eq_true, if_false]
      rw [show inV (V.str (code 6)) [V.str "NameTaken", V.str "InvalidWitness", V.str "UnknownName"] = true from by decide +kernel]
      refine iteT ?_
      exact ⟨_, rfl, e, _, d, _, v, rfl, ec, nf _ (by decide +kernel), s3 _ _ he, s3 _ _ hd, (by show List.lookup ("name" : Str) [(("name" : Str), v), (("code" : Str), V.str "NameTaken")] = some _; rw [lookup_put, if_pos rfl]), q v _ s3 (.inr (.inr ⟨by decide, by decide, rfl⟩))⟩
    | 7, hk =>
      refine ⟨_, rfl, e, _, d, _, _, rfl, ec, nf _ (by decide +kernel), s0 _ _ he, s0 _ _ hd, cd, (by show 2 ≤ sizeLine; decide), fun p0 hp0 => ⟨p0, _, rfl, .inr (.of upd_same), rfl, rfl, _, rfl, ?_⟩⟩
      have s1 := Same.new s0 hp0 (o := .tup [V.str "InvalidName", V.str "InvalidNumber"])
      simp only [Bool.false_eq_true, if_false]
      rw [show inV (V.str (code 7)) [V.str "InvalidName", V.str "InvalidNumber"] = false from by decide +kernel]
      refine iteF ?_
      refine ⟨_, rfl, e, _, d, _, _, rfl, ec, nf _ (by decide +kernel), s1 _ _ he, s1 _ _ hd, cd, (by show 3 ≤ sizeLine; decide), fun p1 hp1 => ⟨p1, _, rfl, .inr (.of upd_same), rfl, rfl, _, rfl, ?_⟩⟩
      have s2 := Same.new s1 hp1 (o := .tup [V.str "InvalidText", V.str "WrongKind", V.str "InvalidBlank"])
      simp only [Bool.false_eq_true, if_false]
      rw [show inV (V.str (code 7)) [V.str "InvalidText", V.str "WrongKind", V.str "InvalidBlank"] = false from by decide +kernel]
      refine iteF ?_
      refine ⟨_, rfl, e, _, d, _, _, rfl, ec, nf _ (by decide +kernel), s2 _ _ he, s2 _ _ hd, cd, (by show 3 ≤ sizeLine; decide), fun p2 hp2 => ⟨p2, _, rfl, .inr (.of upd_same), rfl, rfl, _, rfl, ?_⟩⟩
      have s3 := Same.new s2 hp2 (o := .tup [V.str "NameTaken", V.str "InvalidWitness", V.str "UnknownName"])
      simp only [Bool.false_eq_true, if_false]
      rw [show inV (V.str (code 7)) [V.str "NameTaken", V.str "InvalidWitness", V.str "UnknownName"] = false from by decide +kernel]
      refine iteF ?_
      refine ⟨_, rfl, e, _, d, _, _, rfl, ec, nf _ (by decide +kernel), s3 _ _ he, s3 _ _ hd, cd, rfl, _, rfl, ?_⟩
      rw [show decide (V.str (code 7) = V.str "TooLarge") = true from by decide +kernel]
      refine iteT ?_
      refine ⟨_, rfl, e, _, d, _, v, rfl, ec, nf _ (by decide +kernel), s3 _ _ he, s3 _ _ hd, (by show List.lookup ("what" : Str) [(("limit" : Str), m), (("what" : Str), v), (("code" : Str), V.str "TooLarge")] = some _; rw [lookup_put, if_neg (by decide +kernel), lookup_put, if_pos rfl]), _, rfl, e, _, d, _, m, rfl, ec, nf _ (by decide +kernel), s3 _ _ he, s3 _ _ hd, (by show List.lookup ("limit" : Str) [(("limit" : Str), m), (("what" : Str), v), (("code" : Str), V.str "TooLarge")] = some _; rw [lookup_put, if_pos rfl]), (by show 2 ≤ sizeLine; decide), fun p hp => ?_⟩
      exact q _ _ (Same.new s3 hp) (.inl ⟨rfl, p, rfl, upd_same⟩)
    | 8, hk =>
      refine ⟨_, rfl, e, _, d, _, _, rfl, ec, nf _ (by decide +kernel), s0 _ _ he, s0 _ _ hd, cd, (by show 2 ≤ sizeLine; decide), fun p0 hp0 => ⟨p0, _, rfl, .inr (.of upd_same), rfl, rfl, _, rfl, ?_⟩⟩
      have s1 := Same.new s0 hp0 (o := .tup [V.str "InvalidName", V.str "InvalidNumber"])
      simp only [Bool.false_eq_true, if_false]
      rw [show inV (V.str (code 8)) [V.str "InvalidName", V.str "InvalidNumber"] = false from by decide +kernel]
      refine iteF ?_
      refine ⟨_, rfl, e, _, d, _, _, rfl, ec, nf _ (by decide +kernel), s1 _ _ he, s1 _ _ hd, cd, (by show 3 ≤ sizeLine; decide), fun p1 hp1 => ⟨p1, _, rfl, .inr (.of upd_same), rfl, rfl, _, rfl, ?_⟩⟩
      have s2 := Same.new s1 hp1 (o := .tup [V.str "InvalidText", V.str "WrongKind", V.str "InvalidBlank"])
      simp only [Bool.false_eq_true, if_false]
      rw [show inV (V.str (code 8)) [V.str "InvalidText", V.str "WrongKind", V.str "InvalidBlank"] = false from by decide +kernel]
      refine iteF ?_
      refine ⟨_, rfl, e, _, d, _, _, rfl, ec, nf _ (by decide +kernel), s2 _ _ he, s2 _ _ hd, cd, (by show 3 ≤ sizeLine; decide), fun p2 hp2 => ⟨p2, _, rfl, .inr (.of upd_same), rfl, rfl, _, rfl, ?_⟩⟩
      have s3 := Same.new s2 hp2 (o := .tup [V.str "NameTaken", V.str "InvalidWitness", V.str "UnknownName"])
      simp only [Bool.false_eq_true, if_false]
      rw [show inV (V.str (code 8)) [V.str "NameTaken", V.str "InvalidWitness", V.str "UnknownName"] = false from by decide +kernel]
      refine iteF ?_
      refine ⟨_, rfl, e, _, d, _, _, rfl, ec, nf _ (by decide +kernel), s3 _ _ he, s3 _ _ hd, cd, rfl, _, rfl, ?_⟩
      rw [show decide (V.str (code 8) = V.str "TooLarge") = false from by decide +kernel]
      refine iteF ?_
      exact ⟨_, rfl, e, 8, v, m, rfl, by decide, ⟨d, s3 _ _ he, s3 _ _ hd⟩, fun u H' s' fi => q u H' (s3.trans s') fi⟩
    | 9, hk =>
      refine ⟨_, rfl, e, _, d, _, _, rfl, ec, nf _ (by decide +kernel), s0 _ _ he, s0 _ _ hd, cd, (by show 2 ≤ sizeLine; decide), fun p0 hp0 => ⟨p0, _, rfl, .inr (.of upd_same), rfl, rfl, _, rfl, ?_⟩⟩
      have s1 := Same.new s0 hp0 (o := .tup [V.str "InvalidName", V.str "InvalidNumber"])
      simp only [Bool.false_eq_true, if_false]
      rw [show inV (V.str (code 9)) [V.str "InvalidName", V.str "InvalidNumber"] = false from by decide +kernel]
      refine iteF ?_
      refine ⟨_, rfl, e, _, d, _, _, rfl, ec, nf _ (by decide +kernel), s1 _ _ he, s1 _ _ hd, cd, (by show 3 ≤ sizeLine; decide), fun p1 hp1 => ⟨p1, _, rfl, .inr (.of upd_same), rfl, rfl, _, rfl, ?_⟩⟩
      have s2 := Same.new s1 hp1 (o := .tup [V.str "InvalidText", V.str "WrongKind", V.str "InvalidBlank"])
      simp only [Bool.false_eq_true, if_false]
      rw [show inV (V.str (code 9)) [V.str "InvalidText", V.str "WrongKind", V.str "InvalidBlank"] = false from by decide +kernel]
      refine iteF ?_
      refine ⟨_, rfl, e, _, d, _, _, rfl, ec, nf _ (by decide +kernel), s2 _ _ he, s2 _ _ hd, cd, (by show 3 ≤ sizeLine; decide), fun p2 hp2 => ⟨p2, _, rfl, .inr (.of upd_same), rfl, rfl, _, rfl, ?_⟩⟩
      have s3 := Same.new s2 hp2 (o := .tup [V.str "NameTaken", V.str "InvalidWitness", V.str "UnknownName"])
      simp only [Bool.false_eq_true, if_false]
      rw [show inV (V.str (code 9)) [V.str "NameTaken", V.str "InvalidWitness", V.str "UnknownName"] = true from by decide +kernel]
      refine iteT ?_
      exact ⟨_, rfl, e, _, d, _, v, rfl, ec, nf _ (by decide +kernel), s3 _ _ he, s3 _ _ hd, (by show List.lookup ("name" : Str) [(("name" : Str), v), (("code" : Str), V.str "InvalidWitness")] = some _; rw [lookup_put, if_pos rfl]), q v _ s3 (.inr (.inr ⟨by decide, by decide, rfl⟩))⟩
    | 10, hk =>
      refine ⟨_, rfl, e, _, d, _, _, rfl, ec, nf _ (by decide +kernel), s0 _ _ he, s0 _ _ hd, cd, (by show 2 ≤ sizeLine; decide), fun p0 hp0 => ⟨p0, _, rfl, .inr (.of upd_same), rfl, rfl, _, rfl, ?_⟩⟩
      have s1 := Same.new s0 hp0 (o := .tup [V.str "InvalidName", V.str "InvalidNumber"])
      simp only [Bool.false_eq_true, if_false]
      rw [show inV (V.str (code 10)) [V.str "InvalidName", V.str "InvalidNumber"] = false from by decide +kernel]
      refine iteF ?_
      refine ⟨_, rfl, e, _, d, _, _, rfl, ec, nf _ (by decide +kernel), s1 _ _ he, s1 _ _ hd, cd, (by show 3 ≤ sizeLine; decide), fun p1 hp1 => ⟨p1, _, rfl, .inr (.of upd_same), rfl, rfl, _, rfl, ?_⟩⟩
      have s2 := Same.new s1 hp1 (o := .tup [V.str "InvalidText", V.str "WrongKind", V.str "InvalidBlank"])
      simp only [Bool.false_eq_true, if_false]
      rw [show inV (V.str (code 10)) [V.str "InvalidText", V.str "WrongKind", V.str "InvalidBlank"] = false from by decide +kernel]
      refine iteF ?_
      refine ⟨_, rfl, e, _, d, _, _, rfl, ec, nf _ (by decide +kernel), s2 _ _ he, s2 _ _ hd, cd, (by show 3 ≤ sizeLine; decide), fun p2 hp2 => ⟨p2, _, rfl, .inr (.of upd_same), rfl, rfl, _, rfl, ?_⟩⟩
      have s3 := Same.new s2 hp2 (o := .tup [V.str "NameTaken", V.str "InvalidWitness", V.str "UnknownName"])
      simp only [Bool.false_eq_true, if_false]
      rw [show inV (V.str (code 10)) [V.str "NameTaken", V.str "InvalidWitness", V.str "UnknownName"] = false from by decide +kernel]
      refine iteF ?_
      refine ⟨_, rfl, e, _, d, _, _, rfl, ec, nf _ (by decide +kernel), s3 _ _ he, s3 _ _ hd, cd, rfl, _, rfl, ?_⟩
      rw [show decide (V.str (code 10) = V.str "TooLarge") = false from by decide +kernel]
      refine iteF ?_
      exact ⟨_, rfl, e, 10, v, m, rfl, by decide, ⟨d, s3 _ _ he, s3 _ _ hd⟩, fun u H' s' fi => q u H' (s3.trans s') fi⟩
    | 11, hk =>
      refine ⟨_, rfl, e, _, d, _, _, rfl, ec, nf _ (by decide +kernel), s0 _ _ he, s0 _ _ hd, cd, (by show 2 ≤ sizeLine; decide), fun p0 hp0 => ⟨p0, _, rfl, .inr (.of upd_same), rfl, rfl, _, rfl, ?_⟩⟩
      have s1 := Same.new s0 hp0 (o := .tup [V.str "InvalidName", V.str "InvalidNumber"])
      simp only [Bool.false_eq_true, if_false]
      rw [show inV (V.str (code 11)) [V.str "InvalidName", V.str "InvalidNumber"] = false from by decide +kernel]
      refine iteF ?_
      refine ⟨_, rfl, e, _, d, _, _, rfl, ec, nf _ (by decide +kernel), s1 _ _ he, s1 _ _ hd, cd, (by show 3 ≤ sizeLine; decide), fun p1 hp1 => ⟨p1, _, rfl, .inr (.of upd_same), rfl, rfl, _, rfl, ?_⟩⟩
      have s2 := Same.new s1 hp1 (o := .tup [V.str "InvalidText", V.str "WrongKind", V.str "InvalidBlank"])
      simp only [Bool.false_eq_true, if_false]
      rw [show inV (V.str (code 11)) [V.str "InvalidText", V.str "WrongKind", V.str "InvalidBlank"] = false from by decide +kernel]
      refine iteF ?_
      refine ⟨_, rfl, e, _, d, _, _, rfl, ec, nf _ (by decide +kernel), s2 _ _ he, s2 _ _ hd, cd, (by show 3 ≤ sizeLine; decide), fun p2 hp2 => ⟨p2, _, rfl, .inr (.of upd_same), rfl, rfl, _, rfl, ?_⟩⟩
      have s3 := Same.new s2 hp2 (o := .tup [V.str "NameTaken", V.str "InvalidWitness", V.str "UnknownName"])
      simp only [Bool.false_eq_true, if_false]
      rw [show inV (V.str (code 11)) [V.str "NameTaken", V.str "InvalidWitness", V.str "UnknownName"] = false from by decide +kernel]
      refine iteF ?_
      refine ⟨_, rfl, e, _, d, _, _, rfl, ec, nf _ (by decide +kernel), s3 _ _ he, s3 _ _ hd, cd, rfl, _, rfl, ?_⟩
      rw [show decide (V.str (code 11) = V.str "TooLarge") = false from by decide +kernel]
      refine iteF ?_
      exact ⟨_, rfl, e, 11, v, m, rfl, by decide, ⟨d, s3 _ _ he, s3 _ _ hd⟩, fun u H' s' fi => q u H' (s3.trans s') fi⟩
    | 12, hk =>
      refine ⟨_, rfl, e, _, d, _, _, rfl, ec, nf _ (by decide +kernel), s0 _ _ he, s0 _ _ hd, cd, (by show 2 ≤ sizeLine; decide), fun p0 hp0 => ⟨p0, _, rfl, .inr (.of upd_same), rfl, rfl, _, rfl, ?_⟩⟩
      have s1 := Same.new s0 hp0 (o := .tup [V.str "InvalidName", V.str "InvalidNumber"])
      simp only [Bool.false_eq_true, if_false]
      rw [show inV (V.str (code 12)) [V.str "InvalidName", V.str "InvalidNumber"] = false from by decide +kernel]
      refine iteF ?_
      refine ⟨_, rfl, e, _, d, _, _, rfl, ec, nf _ (by decide +kernel), s1 _ _ he, s1 _ _ hd, cd, (by show 3 ≤ sizeLine; decide), fun p1 hp1 => ⟨p1, _, rfl, .inr (.of upd_same), rfl, rfl, _, rfl, ?_⟩⟩
      have s2 := Same.new s1 hp1 (o := .tup [V.str "InvalidText", V.str "WrongKind", V.str "InvalidBlank"])
      simp only [Bool.false_eq_true, if_false]
      rw [show inV (V.str (code 12)) [V.str "InvalidText", V.str "WrongKind", V.str "InvalidBlank"] = false from by decide +kernel]
      refine iteF ?_
      refine ⟨_, rfl, e, _, d, _, _, rfl, ec, nf _ (by decide +kernel), s2 _ _ he, s2 _ _ hd, cd, (by show 3 ≤ sizeLine; decide), fun p2 hp2 => ⟨p2, _, rfl, .inr (.of upd_same), rfl, rfl, _, rfl, ?_⟩⟩
      have s3 := Same.new s2 hp2 (o := .tup [V.str "NameTaken", V.str "InvalidWitness", V.str "UnknownName"])
      simp only [Bool.false_eq_true, if_false]
      rw [show inV (V.str (code 12)) [V.str "NameTaken", V.str "InvalidWitness", V.str "UnknownName"] = false from by decide +kernel]
      refine iteF ?_
      refine ⟨_, rfl, e, _, d, _, _, rfl, ec, nf _ (by decide +kernel), s3 _ _ he, s3 _ _ hd, cd, rfl, _, rfl, ?_⟩
      rw [show decide (V.str (code 12) = V.str "TooLarge") = false from by decide +kernel]
      refine iteF ?_
      exact ⟨_, rfl, e, 12, v, m, rfl, by decide, ⟨d, s3 _ _ he, s3 _ _ hd⟩, fun u H' s' fi => q u H' (s3.trans s') fi⟩
    | 13, hk =>
      refine ⟨_, rfl, e, _, d, _, _, rfl, ec, nf _ (by decide +kernel), s0 _ _ he, s0 _ _ hd, cd, (by show 2 ≤ sizeLine; decide), fun p0 hp0 => ⟨p0, _, rfl, .inr (.of upd_same), rfl, rfl, _, rfl, ?_⟩⟩
      have s1 := Same.new s0 hp0 (o := .tup [V.str "InvalidName", V.str "InvalidNumber"])
      simp only [Bool.false_eq_true, if_false]
      rw [show inV (V.str (code 13)) [V.str "InvalidName", V.str "InvalidNumber"] = false from by decide +kernel]
      refine iteF ?_
      refine ⟨_, rfl, e, _, d, _, _, rfl, ec, nf _ (by decide +kernel), s1 _ _ he, s1 _ _ hd, cd, (by show 3 ≤ sizeLine; decide), fun p1 hp1 => ⟨p1, _, rfl, .inr (.of upd_same), rfl, rfl, _, rfl, ?_⟩⟩
      have s2 := Same.new s1 hp1 (o := .tup [V.str "InvalidText", V.str "WrongKind", V.str "InvalidBlank"])
      simp only [Bool.false_eq_true, if_false]
      rw [show inV (V.str (code 13)) [V.str "InvalidText", V.str "WrongKind", V.str "InvalidBlank"] = false from by decide +kernel]
      refine iteF ?_
      refine ⟨_, rfl, e, _, d, _, _, rfl, ec, nf _ (by decide +kernel), s2 _ _ he, s2 _ _ hd, cd, (by show 3 ≤ sizeLine; decide), fun p2 hp2 => ⟨p2, _, rfl, .inr (.of upd_same), rfl, rfl, _, rfl, ?_⟩⟩
      have s3 := Same.new s2 hp2 (o := .tup [V.str "NameTaken", V.str "InvalidWitness", V.str "UnknownName"])
      simp only [Bool.false_eq_true, if_false]
      rw [show inV (V.str (code 13)) [V.str "NameTaken", V.str "InvalidWitness", V.str "UnknownName"] = true from by decide +kernel]
      refine iteT ?_
      exact ⟨_, rfl, e, _, d, _, v, rfl, ec, nf _ (by decide +kernel), s3 _ _ he, s3 _ _ hd, (by show List.lookup ("name" : Str) [(("name" : Str), v), (("code" : Str), V.str "UnknownName")] = some _; rw [lookup_put, if_pos rfl]), q v _ s3 (.inr (.inr ⟨by decide, by decide, rfl⟩))⟩
    | 14, hk =>
      refine ⟨_, rfl, e, _, d, _, _, rfl, ec, nf _ (by decide +kernel), s0 _ _ he, s0 _ _ hd, cd, (by show 2 ≤ sizeLine; decide), fun p0 hp0 => ⟨p0, _, rfl, .inr (.of upd_same), rfl, rfl, _, rfl, ?_⟩⟩
      have s1 := Same.new s0 hp0 (o := .tup [V.str "InvalidName", V.str "InvalidNumber"])
      simp only [Bool.false_eq_true, if_false]
      rw [show inV (V.str (code 14)) [V.str "InvalidName", V.str "InvalidNumber"] = false from by decide +kernel]
      refine iteF ?_
      refine ⟨_, rfl, e, _, d, _, _, rfl, ec, nf _ (by decide +kernel), s1 _ _ he, s1 _ _ hd, cd, (by show 3 ≤ sizeLine; decide), fun p1 hp1 => ⟨p1, _, rfl, .inr (.of upd_same), rfl, rfl, _, rfl, ?_⟩⟩
      have s2 := Same.new s1 hp1 (o := .tup [V.str "InvalidText", V.str "WrongKind", V.str "InvalidBlank"])
      simp only [Bool.false_eq_true, if_false]
      rw [show inV (V.str (code 14)) [V.str "InvalidText", V.str "WrongKind", V.str "InvalidBlank"] = false from by decide +kernel]
      refine iteF ?_
      refine ⟨_, rfl, e, _, d, _, _, rfl, ec, nf _ (by decide +kernel), s2 _ _ he, s2 _ _ hd, cd, (by show 3 ≤ sizeLine; decide), fun p2 hp2 => ⟨p2, _, rfl, .inr (.of upd_same), rfl, rfl, _, rfl, ?_⟩⟩
      have s3 := Same.new s2 hp2 (o := .tup [V.str "NameTaken", V.str "InvalidWitness", V.str "UnknownName"])
      simp only [Bool.false_eq_true, if_false]
      rw [show inV (V.str (code 14)) [V.str "NameTaken", V.str "InvalidWitness", V.str "UnknownName"] = false from by decide +kernel]
      refine iteF ?_
      refine ⟨_, rfl, e, _, d, _, _, rfl, ec, nf _ (by decide +kernel), s3 _ _ he, s3 _ _ hd, cd, rfl, _, rfl, ?_⟩
      rw [show decide (V.str (code 14) = V.str "TooLarge") = false from by decide +kernel]
      refine iteF ?_
      exact ⟨_, rfl, e, 14, v, m, rfl, by decide, ⟨d, s3 _ _ he, s3 _ _ hd⟩, fun u H' s' fi => q u H' (s3.trans s') fi⟩
end
end K80

set_option Elab.async false
set_option linter.all false
set_option maxRecDepth 100000
set_option maxHeartbeats 4000000
namespace K80
open PySem PySem.Spec PyProof.Rows L2 Ux
/-- the fifteen __init__ of the text -/
structure AllI (K : PySem.W.Frag) (Fs : Nat → Addr) (fds : Nat → FuncData) : Prop where
  i0 : Fun K "__init__" "InvalidName.__init__" sI_InvalidName (Fs 0) (fds 0)
  i1 : Fun K "__init__" "InvalidNumber.__init__" sI_InvalidNumber (Fs 1) (fds 1)
  i2 : Fun K "__init__" "InvalidFact.__init__" sI_InvalidFact (Fs 2) (fds 2)
  i3 : Fun K "__init__" "InvalidText.__init__" sI_InvalidText (Fs 3) (fds 3)
  i4 : Fun K "__init__" "WrongKind.__init__" sI_WrongKind (Fs 4) (fds 4)
  i5 : Fun K "__init__" "InvalidBlank.__init__" sI_InvalidBlank (Fs 5) (fds 5)
  i6 : Fun K "__init__" "NameTaken.__init__" sI_NameTaken (Fs 6) (fds 6)
  i7 : Fun K "__init__" "TooLarge.__init__" sI_TooLarge (Fs 7) (fds 7)
  i8 : Fun K "__init__" "UnlikeWorlds.__init__" sI_UnlikeWorlds (Fs 8) (fds 8)
  i9 : Fun K "__init__" "InvalidWitness.__init__" sI_InvalidWitness (Fs 9) (fds 9)
  i10 : Fun K "__init__" "InvalidRow.__init__" sI_InvalidRow (Fs 10) (fds 10)
  i11 : Fun K "__init__" "NotNow.__init__" sI_NotNow (Fs 11) (fds 11)
  i12 : Fun K "__init__" "InvalidPage.__init__" sI_InvalidPage (Fs 12) (fds 12)
  i13 : Fun K "__init__" "UnknownName.__init__" sI_UnknownName (Fs 13) (fds 13)
  i14 : Fun K "__init__" "NothingLeft.__init__" sI_NothingLeft (Fs 14) (fds 14)
/-- how the classes are made -/
structure EM (K : PySem.W.Frag) (Cs Fs : Nat → Addr) : Prop where
  eV : ∀ k, k < 13 → EcI K "ValueError.__init__" (Cs k)
  eL : ∀ k, 12 < k → k < 15 → EcI K "LookupError.__init__" (Cs k)
  iC : ∀ k, k < 15 → PySem.W.findIn K (.ref (Cs k)) "__init__" = some (some (.ref (Fs k)))
  tI : ∀ k, k < 15 → PySem.W.typeIn K (.ref (Fs k)) = some (.type "function")
theorem Adm.same {H H' : Hp} {v : V} (h : Adm H v) (s : Same H H') : Adm H' v := by
  cases h with
  | non => exact .non
  | yes => exact .yes
  | int h => exact .int h
  | str h => exact .str h
  | tup h => exact .tup (s _ _ h)
  | lst h => exact .lst (s _ _ h)
theorem same_but {H H' : Hp} {a : Addr} {o : HO} (ha : H a = none) (b : But a (upd H a o) H') : Same H H' := fun x u e => by
  have n := ne_of_none e ha
  exact b x u (by rw [upd_ne n]; exact e) n
theorem same_new {H : Hp} {a : Addr} {o : HO} (ha : H a = none) : Same H (upd H a o) := fun x u e => by
  rw [upd_ne (ne_of_none e ha)]
  exact e
def spSorts (Cs : Nat → Addr) : Sp := fun vs H Q _ => ∃ (e : Addr) (k : Nat) (v m : V), vs = [.ref e] ∧ k < 15 ∧ ErAt Cs H k v m e ∧ ∀ p, H p = none → Q (.ref p) (upd H p (.lst ((List.range 15).map fun j => V.bl (decide (j = k)))))
def spMade (Cs : Nat → Addr) : Sp := fun vs H Q _ => ∃ (v m : V), vs = [v, m] ∧ Adm H v ∧ Adm H m ∧ ∀ (p : Addr) (es : List Addr) (H' : Hp), es.length = 15 → (∀ (k : Nat) (e : Addr), es[k]? = some e → ErAt Cs H' k v m e) → H' p = some (.lst (es.map V.ref)) → Same H H' → Q (.ref p) H'
section
variable {P : Program} {w : World} {K : PySem.W.Frag} {mg : Str → Option Value} {base : Heap} {Cs Fs : Nat → Addr} {fds : Nat → FuncData} {CS CM : Addr}
theorem EM.ec (M : EM K Cs Fs) (k : Nat) (hk : k < 15) : EcA K (Cs k) := by
  by_cases h : k < 13
  · exact ⟨_, M.eV k h⟩
  · exact ⟨_, M.eL k (by omega) hk⟩
theorem scSorts : FnScope ["_law_e"] ["_law_e"] (defScope sSorts) := ⟨rfl, rfl, rfl, by decide +kernel, rfl, by decide +kernel, by decide +kernel⟩
theorem ok_sorts {f : Addr} {fd : FuncData} (F : Fun K "_law_sorts" "_law_sorts" sSorts f fd) (B : Bn mg) (T : ET K mg Cs CS CM) : FnOk P w K mg base CX0 1 f fd ["_law_e"] (spSorts Cs) := by
  refine F.ok scSorts (fun vs H Q E h => ?_) (fun cdv A outer s H vs Q E hr h => ?_)
  · obtain ⟨e, k, v, m, rfl, _⟩ := h
    rfl
  · obtain ⟨e, k, v, m, rfl, hk, ⟨d, he, hd⟩, q⟩ := h
    refine ⟨_, pss_one (ps_ret (pe_lst (pa_cons (pe_callB call_isEr (by rfl) B.isin (by decide +kernel) (pa_cons (pv 0) (pa_cons (pe_glob (v := .ref (Cs 0)) (by rfl) (T.gl 0 (by decide)) rfl) pa_nil))) (pa_cons (pe_callB call_isEr (by rfl) B.isin (by decide +kernel) (pa_cons (pv 0) (pa_cons (pe_glob (v := .ref (Cs 1)) (by rfl) (T.gl 1 (by decide)) rfl) pa_nil))) (pa_cons (pe_callB call_isEr (by rfl) B.isin (by decide +kernel) (pa_cons (pv 0) (pa_cons (pe_glob (v := .ref (Cs 2)) (by rfl) (T.gl 2 (by decide)) rfl) pa_nil))) (pa_cons (pe_callB call_isEr (by rfl) B.isin (by decide +kernel) (pa_cons (pv 0) (pa_cons (pe_glob (v := .ref (Cs 3)) (by rfl) (T.gl 3 (by decide)) rfl) pa_nil))) (pa_cons (pe_callB call_isEr (by rfl) B.isin (by decide +kernel) (pa_cons (pv 0) (pa_cons (pe_glob (v := .ref (Cs 4)) (by rfl) (T.gl 4 (by decide)) rfl) pa_nil))) (pa_cons (pe_callB call_isEr (by rfl) B.isin (by decide +kernel) (pa_cons (pv 0) (pa_cons (pe_glob (v := .ref (Cs 5)) (by rfl) (T.gl 5 (by decide)) rfl) pa_nil))) (pa_cons (pe_callB call_isEr (by rfl) B.isin (by decide +kernel) (pa_cons (pv 0) (pa_cons (pe_glob (v := .ref (Cs 6)) (by rfl) (T.gl 6 (by decide)) rfl) pa_nil))) (pa_cons (pe_callB call_isEr (by rfl) B.isin (by decide +kernel) (pa_cons (pv 0) (pa_cons (pe_glob (v := .ref (Cs 7)) (by rfl) (T.gl 7 (by decide)) rfl) pa_nil))) (pa_cons (pe_callB call_isEr (by rfl) B.isin (by decide +kernel) (pa_cons (pv 0) (pa_cons (pe_glob (v := .ref (Cs 8)) (by rfl) (T.gl 8 (by decide)) rfl) pa_nil))) (pa_cons (pe_callB call_isEr (by rfl) B.isin (by decide +kernel) (pa_cons (pv 0) (pa_cons (pe_glob (v := .ref (Cs 9)) (by rfl) (T.gl 9 (by decide)) rfl) pa_nil))) (pa_cons (pe_callB call_isEr (by rfl) B.isin (by decide +kernel) (pa_cons (pv 0) (pa_cons (pe_glob (v := .ref (Cs 10)) (by rfl) (T.gl 10 (by decide)) rfl) pa_nil))) (pa_cons (pe_callB call_isEr (by rfl) B.isin (by decide +kernel) (pa_cons (pv 0) (pa_cons (pe_glob (v := .ref (Cs 11)) (by rfl) (T.gl 11 (by decide)) rfl) pa_nil))) (pa_cons (pe_callB call_isEr (by rfl) B.isin (by decide +kernel) (pa_cons (pv 0) (pa_cons (pe_glob (v := .ref (Cs 12)) (by rfl) (T.gl 12 (by decide)) rfl) pa_nil))) (pa_cons (pe_callB call_isEr (by rfl) B.isin (by decide +kernel) (pa_cons (pv 0) (pa_cons (pe_glob (v := .ref (Cs 13)) (by rfl) (T.gl 13 (by decide)) rfl) pa_nil))) (pa_cons (pe_callB call_isEr (by rfl) B.isin (by decide +kernel) (pa_cons (pv 0) (pa_cons (pe_glob (v := .ref (Cs 14)) (by rfl) (T.gl 14 (by decide)) rfl) pa_nil))) pa_nil))))))))))))))))), ?_⟩
    refine ⟨_, rfl, e, _, d, _, _, _, _, rfl, .own _, T.ei k hk, he, hd, T.kit k 0 hk (by decide), ?_⟩
    refine ⟨_, rfl, e, _, d, _, _, _, _, rfl, .own _, T.ei k hk, he, hd, T.kit k 1 hk (by decide), ?_⟩
    refine ⟨_, rfl, e, _, d, _, _, _, _, rfl, .own _, T.ei k hk, he, hd, T.kit k 2 hk (by decide), ?_⟩
    refine ⟨_, rfl, e, _, d, _, _, _, _, rfl, .own _, T.ei k hk, he, hd, T.kit k 3 hk (by decide), ?_⟩
    refine ⟨_, rfl, e, _, d, _, _, _, _, rfl, .own _, T.ei k hk, he, hd, T.kit k 4 hk (by decide), ?_⟩
    refine ⟨_, rfl, e, _, d, _, _, _, _, rfl, .own _, T.ei k hk, he, hd, T.kit k 5 hk (by decide), ?_⟩
    refine ⟨_, rfl, e, _, d, _, _, _, _, rfl, .own _, T.ei k hk, he, hd, T.kit k 6 hk (by decide), ?_⟩
    refine ⟨_, rfl, e, _, d, _, _, _, _, rfl, .own _, T.ei k hk, he, hd, T.kit k 7 hk (by decide), ?_⟩
    refine ⟨_, rfl, e, _, d, _, _, _, _, rfl, .own _, T.ei k hk, he, hd, T.kit k 8 hk (by decide), ?_⟩
    refine ⟨_, rfl, e, _, d, _, _, _, _, rfl, .own _, T.ei k hk, he, hd, T.kit k 9 hk (by decide), ?_⟩
    refine ⟨_, rfl, e, _, d, _, _, _, _, rfl, .own _, T.ei k hk, he, hd, T.kit k 10 hk (by decide), ?_⟩
    refine ⟨_, rfl, e, _, d, _, _, _, _, rfl, .own _, T.ei k hk, he, hd, T.kit k 11 hk (by decide), ?_⟩
    refine ⟨_, rfl, e, _, d, _, _, _, _, rfl, .own _, T.ei k hk, he, hd, T.kit k 12 hk (by decide), ?_⟩
    refine ⟨_, rfl, e, _, d, _, _, _, _, rfl, .own _, T.ei k hk, he, hd, T.kit k 13 hk (by decide), ?_⟩
    refine ⟨_, rfl, e, _, d, _, _, _, _, rfl, .own _, T.ei k hk, he, hd, T.kit k 14 hk (by decide), ?_⟩
    exact ⟨(by show 15 ≤ sizeLine; decide), fun p hp => q p hp⟩
theorem sc_made : FnScope ["_law_odd", "_law_more"] ["_law_odd", "_law_more"] (defScope sMade) := ⟨rfl, rfl, rfl, by decide +kernel, rfl, by decide +kernel, by decide +kernel⟩
theorem ok_made {f CB CB2 fS : Addr} {fd fdS : FuncData} (F : Fun K "_law_made_errors" "_law_made_errors" sMade f fd) (T : ET K mg Cs CS CM) (M : EM K Cs Fs) (AI : AllI K Fs fds) (W1 : Bs K mg "SlopeError" "ValueError.__init__" CB) (W2 : Bs K mg "Missing" "LookupError.__init__" CB2) (D : Dn K mg "shown" fS) (G : FnOk P w K mg base CX0 1 fS fdS ["value"] spShown) (bS : Binds K fdS ["value"] []) :
    FnOk P w K mg base CX0 4 f fd ["_law_odd", "_law_more"] (spMade Cs) := by
  have G0 : FnOk P w K mg base CX0 2 (Fs 0) (fds 0) ["self", "given"] (spI_InvalidName K) := okI_InvalidName AI.i0 W1 D G bS
  have b0 := kbn_mk (ps := ["self", "given"]) AI.i0 1 ["given"] (fun us ws => us ++ ws) (fun r z => r.append z) (fun _ _ _ _ _ _ us ws l1 l2 => match us, ws, l1, l2 with | [_], [_], _, _ => rfl)
  have G1 : FnOk P w K mg base CX0 2 (Fs 1) (fds 1) ["self", "given"] (spI_InvalidNumber K) := okI_InvalidNumber AI.i1 W1 D G bS
  have b1 := kbn_mk (ps := ["self", "given"]) AI.i1 1 ["given"] (fun us ws => us ++ ws) (fun r z => r.append z) (fun _ _ _ _ _ _ us ws l1 l2 => match us, ws, l1, l2 with | [_], [_], _, _ => rfl)
  have G2 : FnOk P w K mg base CX0 2 (Fs 2) (fds 2) ["self", "what"] (spI_InvalidFact K) := okI_InvalidFact AI.i2 W1 D G bS
  have b2 := kbn_mk (ps := ["self", "what"]) AI.i2 1 ["what"] (fun us ws => us ++ ws) (fun r z => r.append z) (fun _ _ _ _ _ _ us ws l1 l2 => match us, ws, l1, l2 with | [_], [_], _, _ => rfl)
  have G3 : FnOk P w K mg base CX0 2 (Fs 3) (fds 3) ["self", "at"] (spI_InvalidText K) := okI_InvalidText AI.i3 W1 D G bS
  have b3 := kbn_mk (ps := ["self", "at"]) AI.i3 1 ["at"] (fun us ws => us ++ ws) (fun r z => r.append z) (fun _ _ _ _ _ _ us ws l1 l2 => match us, ws, l1, l2 with | [_], [_], _, _ => rfl)
  have G4 : FnOk P w K mg base CX0 2 (Fs 4) (fds 4) ["self", "at"] (spI_WrongKind K) := okI_WrongKind AI.i4 W1 D G bS
  have b4 := kbn_mk (ps := ["self", "at"]) AI.i4 1 ["at"] (fun us ws => us ++ ws) (fun r z => r.append z) (fun _ _ _ _ _ _ us ws l1 l2 => match us, ws, l1, l2 with | [_], [_], _, _ => rfl)
  have G5 : FnOk P w K mg base CX0 2 (Fs 5) (fds 5) ["self", "at"] (spI_InvalidBlank K) := okI_InvalidBlank AI.i5 W1 D G bS
  have b5 := kbn_mk (ps := ["self", "at"]) AI.i5 1 ["at"] (fun us ws => us ++ ws) (fun r z => r.append z) (fun _ _ _ _ _ _ us ws l1 l2 => match us, ws, l1, l2 with | [_], [_], _, _ => rfl)
  have G6 : FnOk P w K mg base CX0 2 (Fs 6) (fds 6) ["self", "name"] (spI_NameTaken K) := okI_NameTaken AI.i6 W1 D G bS
  have b6 := kbn_mk (ps := ["self", "name"]) AI.i6 1 ["name"] (fun us ws => us ++ ws) (fun r z => r.append z) (fun _ _ _ _ _ _ us ws l1 l2 => match us, ws, l1, l2 with | [_], [_], _, _ => rfl)
  have G7 : FnOk P w K mg base CX0 2 (Fs 7) (fds 7) ["self", "what", "limit"] (spI_TooLarge K) := okI_TooLarge AI.i7 W1 D G bS
  have b7 := kbn_mk (ps := ["self", "what", "limit"]) AI.i7 1 ["limit", "what"] (fun us ws => us ++ ws.reverse) (fun r z => r.append z.reverse) (fun _ _ _ _ _ _ us ws l1 l2 => match us, ws, l1, l2 with | [_], [_, _], _, _ => rfl)
  have G8 : FnOk P w K mg base CX0 2 (Fs 8) (fds 8) ["self"] (spI_UnlikeWorlds K) := okI_UnlikeWorlds AI.i8 W1 D G bS
  have b8 := kbn_pos (AI.i8.binds (ps := ["self"]) fun _ _ _ _ _ _ us hl => match us, hl with | [_], _ => rfl) 1 rfl
  have G9 : FnOk P w K mg base CX0 2 (Fs 9) (fds 9) ["self", "name"] (spI_InvalidWitness K) := okI_InvalidWitness AI.i9 W1 D G bS
  have b9 := kbn_mk (ps := ["self", "name"]) AI.i9 1 ["name"] (fun us ws => us ++ ws) (fun r z => r.append z) (fun _ _ _ _ _ _ us ws l1 l2 => match us, ws, l1, l2 with | [_], [_], _, _ => rfl)
  have G10 : FnOk P w K mg base CX0 2 (Fs 10) (fds 10) ["self", "index"] (spI_InvalidRow K) := okI_InvalidRow AI.i10 W1 D G bS
  have b10 := kbn_mk (ps := ["self", "index"]) AI.i10 1 ["index"] (fun us ws => us ++ ws) (fun r z => r.append z) (fun _ _ _ _ _ _ us ws l1 l2 => match us, ws, l1, l2 with | [_], [_], _, _ => rfl)
  have G11 : FnOk P w K mg base CX0 2 (Fs 11) (fds 11) ["self", "deed"] (spI_NotNow K) := okI_NotNow AI.i11 W1 D G bS
  have b11 := kbn_mk (ps := ["self", "deed"]) AI.i11 1 ["deed"] (fun us ws => us ++ ws) (fun r z => r.append z) (fun _ _ _ _ _ _ us ws l1 l2 => match us, ws, l1, l2 with | [_], [_], _, _ => rfl)
  have G12 : FnOk P w K mg base CX0 2 (Fs 12) (fds 12) ["self", "line"] (spI_InvalidPage K) := okI_InvalidPage AI.i12 W1 D G bS
  have b12 := kbn_mk (ps := ["self", "line"]) AI.i12 1 ["line"] (fun us ws => us ++ ws) (fun r z => r.append z) (fun _ _ _ _ _ _ us ws l1 l2 => match us, ws, l1, l2 with | [_], [_], _, _ => rfl)
  have G13 : FnOk P w K mg base CX0 2 (Fs 13) (fds 13) ["self", "name"] (spI_UnknownName K) := okI_UnknownName AI.i13 W2 D G bS
  have b13 := kbn_mk (ps := ["self", "name"]) AI.i13 1 ["name"] (fun us ws => us ++ ws) (fun r z => r.append z) (fun _ _ _ _ _ _ us ws l1 l2 => match us, ws, l1, l2 with | [_], [_], _, _ => rfl)
  have G14 : FnOk P w K mg base CX0 2 (Fs 14) (fds 14) ["self", "deed"] (spI_NothingLeft K) := okI_NothingLeft AI.i14 W2 D G bS
  have b14 := kbn_mk (ps := ["self", "deed"]) AI.i14 1 ["deed"] (fun us ws => us ++ ws) (fun r z => r.append z) (fun _ _ _ _ _ _ us ws l1 l2 => match us, ws, l1, l2 with | [_], [_], _, _ => rfl)
  refine F.ok sc_made (fun vs H Q E h => ?_) (fun cdv A outer s H vs Q E hr h => ?_)
  · obtain ⟨v, m, rfl, _⟩ := h
    rfl
  · obtain ⟨v, m, rfl, av, am, q⟩ := h
    obtain ⟨B0, N0, m0, e0⟩ := M.eV 0 (by decide)
    obtain ⟨B1, N1, m1, e1⟩ := M.eV 1 (by decide)
    obtain ⟨B2, N2, m2, e2⟩ := M.eV 2 (by decide)
    obtain ⟨B3, N3, m3, e3⟩ := M.eV 3 (by decide)
    obtain ⟨B4, N4, m4, e4⟩ := M.eV 4 (by decide)
    obtain ⟨B5, N5, m5, e5⟩ := M.eV 5 (by decide)
    obtain ⟨B6, N6, m6, e6⟩ := M.eV 6 (by decide)
    obtain ⟨B7, N7, m7, e7⟩ := M.eV 7 (by decide)
    obtain ⟨B8, N8, m8, e8⟩ := M.eV 8 (by decide)
    obtain ⟨B9, N9, m9, e9⟩ := M.eV 9 (by decide)
    obtain ⟨B10, N10, m10, e10⟩ := M.eV 10 (by decide)
    obtain ⟨B11, N11, m11, e11⟩ := M.eV 11 (by decide)
    obtain ⟨B12, N12, m12, e12⟩ := M.eV 12 (by decide)
    obtain ⟨B13, N13, m13, e13⟩ := M.eL 13 (by decide) (by decide)
    obtain ⟨B14, N14, m14, e14⟩ := M.eL 14 (by decide) (by decide)
    refine ⟨_, pss_one (ps_ret (pe_lst (pa_cons (pe_mkEK e0 (M.iC 0 (by decide)) (M.tI 0 (by decide)) G0 hr b0 pass0 (by rfl) (T.gl 0 (by decide)) (pk_cons (pv 0) pk_nil)) (pa_cons (pe_mkEK e1 (M.iC 1 (by decide)) (M.tI 1 (by decide)) G1 hr b1 pass0 (by rfl) (T.gl 1 (by decide)) (pk_cons (pv 0) pk_nil)) (pa_cons (pe_mkEK e2 (M.iC 2 (by decide)) (M.tI 2 (by decide)) G2 hr b2 pass0 (by rfl) (T.gl 2 (by decide)) (pk_cons (pv 0) pk_nil)) (pa_cons (pe_mkEK e3 (M.iC 3 (by decide)) (M.tI 3 (by decide)) G3 hr b3 pass0 (by rfl) (T.gl 3 (by decide)) (pk_cons (pv 0) pk_nil)) (pa_cons (pe_mkEK e4 (M.iC 4 (by decide)) (M.tI 4 (by decide)) G4 hr b4 pass0 (by rfl) (T.gl 4 (by decide)) (pk_cons (pv 0) pk_nil)) (pa_cons (pe_mkEK e5 (M.iC 5 (by decide)) (M.tI 5 (by decide)) G5 hr b5 pass0 (by rfl) (T.gl 5 (by decide)) (pk_cons (pv 0) pk_nil)) (pa_cons (pe_mkEK e6 (M.iC 6 (by decide)) (M.tI 6 (by decide)) G6 hr b6 pass0 (by rfl) (T.gl 6 (by decide)) (pk_cons (pv 0) pk_nil)) (pa_cons (pe_mkEK e7 (M.iC 7 (by decide)) (M.tI 7 (by decide)) G7 hr b7 pass0 (by rfl) (T.gl 7 (by decide)) (pk_cons (pv 1) (pk_cons (pv 0) pk_nil))) (pa_cons (pe_mkE0 e8 (M.iC 8 (by decide)) (M.tI 8 (by decide)) G8 hr b8 pass0 (by rfl) (T.gl 8 (by decide))) (pa_cons (pe_mkEK e9 (M.iC 9 (by decide)) (M.tI 9 (by decide)) G9 hr b9 pass0 (by rfl) (T.gl 9 (by decide)) (pk_cons (pv 0) pk_nil)) (pa_cons (pe_mkEK e10 (M.iC 10 (by decide)) (M.tI 10 (by decide)) G10 hr b10 pass0 (by rfl) (T.gl 10 (by decide)) (pk_cons (pv 0) pk_nil)) (pa_cons (pe_mkEK e11 (M.iC 11 (by decide)) (M.tI 11 (by decide)) G11 hr b11 pass0 (by rfl) (T.gl 11 (by decide)) (pk_cons (pv 0) pk_nil)) (pa_cons (pe_mkEK e12 (M.iC 12 (by decide)) (M.tI 12 (by decide)) G12 hr b12 pass0 (by rfl) (T.gl 12 (by decide)) (pk_cons (pv 0) pk_nil)) (pa_cons (pe_mkEK e13 (M.iC 13 (by decide)) (M.tI 13 (by decide)) G13 hr b13 pass0 (by rfl) (T.gl 13 (by decide)) (pk_cons (pv 0) pk_nil)) (pa_cons (pe_mkEK e14 (M.iC 14 (by decide)) (M.tI 14 (by decide)) G14 hr b14 pass0 (by rfl) (T.gl 14 (by decide)) (pk_cons (pv 0) pk_nil)) pa_nil))))))))))))))))), ?_⟩
    have s0 := Same.refl H
    refine ⟨_, rfl, rfl, rfl, fun a0 ha0 => ⟨a0, _, v, rfl, ⟨_, _, _, e0⟩, ⟨T.nf 0 (by decide) _ (by decide +kernel), T.nf 0 (by decide) _ (by decide +kernel)⟩, upd_same, (av.same s0).same (same_new ha0), fun d0 H1 hd0 nd0 x0 y0 u0 => ⟨rfl, ?_⟩⟩⟩
    have t0 : Same H H1 := same_but ha0 u0
    have s1 := s0.trans t0
    have E0 : ErAt Cs H1 0 v m a0 := ⟨d0, x0, y0⟩
    refine ⟨_, rfl, rfl, rfl, fun a1 ha1 => ⟨a1, _, v, rfl, ⟨_, _, _, e1⟩, ⟨T.nf 1 (by decide) _ (by decide +kernel), T.nf 1 (by decide) _ (by decide +kernel)⟩, upd_same, (av.same s1).same (same_new ha1), fun d1 H2 hd1 nd1 x1 y1 u1 => ⟨rfl, ?_⟩⟩⟩
    have t1 : Same H1 H2 := same_but ha1 u1
    have s2 := s1.trans t1
    replace E0 := E0.same t1
    have E1 : ErAt Cs H2 1 v m a1 := ⟨d1, x1, y1⟩
    refine ⟨_, rfl, rfl, rfl, fun a2 ha2 => ⟨a2, _, v, rfl, ⟨_, _, _, e2⟩, ⟨T.nf 2 (by decide) _ (by decide +kernel), T.nf 2 (by decide) _ (by decide +kernel)⟩, upd_same, (av.same s2).same (same_new ha2), fun d2 H3 hd2 nd2 x2 y2 u2 => ⟨rfl, ?_⟩⟩⟩
    have t2 : Same H2 H3 := same_but ha2 u2
    have s3 := s2.trans t2
    replace E0 := E0.same t2
    replace E1 := E1.same t2
    have E2 : ErAt Cs H3 2 v m a2 := ⟨d2, x2, y2⟩
    refine ⟨_, rfl, rfl, rfl, fun a3 ha3 => ⟨a3, _, v, rfl, ⟨_, _, _, e3⟩, ⟨T.nf 3 (by decide) _ (by decide +kernel), T.nf 3 (by decide) _ (by decide +kernel)⟩, upd_same, (av.same s3).same (same_new ha3), fun d3 H4 hd3 nd3 x3 y3 u3 => ⟨rfl, ?_⟩⟩⟩
    have t3 : Same H3 H4 := same_but ha3 u3
    have s4 := s3.trans t3
    replace E0 := E0.same t3
    replace E1 := E1.same t3
    replace E2 := E2.same t3
    have E3 : ErAt Cs H4 3 v m a3 := ⟨d3, x3, y3⟩
    refine ⟨_, rfl, rfl, rfl, fun a4 ha4 => ⟨a4, _, v, rfl, ⟨_, _, _, e4⟩, ⟨T.nf 4 (by decide) _ (by decide +kernel), T.nf 4 (by decide) _ (by decide +kernel)⟩, upd_same, (av.same s4).same (same_new ha4), fun d4 H5 hd4 nd4 x4 y4 u4 => ⟨rfl, ?_⟩⟩⟩
    have t4 : Same H4 H5 := same_but ha4 u4
    have s5 := s4.trans t4
    replace E0 := E0.same t4
    replace E1 := E1.same t4
    replace E2 := E2.same t4
    replace E3 := E3.same t4
    have E4 : ErAt Cs H5 4 v m a4 := ⟨d4, x4, y4⟩
    refine ⟨_, rfl, rfl, rfl, fun a5 ha5 => ⟨a5, _, v, rfl, ⟨_, _, _, e5⟩, ⟨T.nf 5 (by decide) _ (by decide +kernel), T.nf 5 (by decide) _ (by decide +kernel)⟩, upd_same, (av.same s5).same (same_new ha5), fun d5 H6 hd5 nd5 x5 y5 u5 => ⟨rfl, ?_⟩⟩⟩
    have t5 : Same H5 H6 := same_but ha5 u5
    have s6 := s5.trans t5
    replace E0 := E0.same t5
    replace E1 := E1.same t5
    replace E2 := E2.same t5
    replace E3 := E3.same t5
    replace E4 := E4.same t5
    have E5 : ErAt Cs H6 5 v m a5 := ⟨d5, x5, y5⟩
    refine ⟨_, rfl, rfl, rfl, fun a6 ha6 => ⟨a6, _, v, rfl, ⟨_, _, _, e6⟩, ⟨T.nf 6 (by decide) _ (by decide +kernel), T.nf 6 (by decide) _ (by decide +kernel)⟩, upd_same, (av.same s6).same (same_new ha6), fun d6 H7 hd6 nd6 x6 y6 u6 => ⟨rfl, ?_⟩⟩⟩
    have t6 : Same H6 H7 := same_but ha6 u6
    have s7 := s6.trans t6
    replace E0 := E0.same t6
    replace E1 := E1.same t6
    replace E2 := E2.same t6
    replace E3 := E3.same t6
    replace E4 := E4.same t6
    replace E5 := E5.same t6
    have E6 : ErAt Cs H7 6 v m a6 := ⟨d6, x6, y6⟩
    refine ⟨_, rfl, _, rfl, rfl, rfl, fun a7 ha7 => ⟨a7, _, v, m, rfl, ⟨_, _, _, e7⟩, ⟨T.nf 7 (by decide) _ (by decide +kernel), T.nf 7 (by decide) _ (by decide +kernel), T.nf 7 (by decide) _ (by decide +kernel)⟩, upd_same, (av.same s7).same (same_new ha7), (am.same s7).same (same_new ha7), fun d7 H8 hd7 nd7 x7 y7 u7 => ⟨rfl, ?_⟩⟩⟩
    have t7 : Same H7 H8 := same_but ha7 u7
    have s8 := s7.trans t7
    replace E0 := E0.same t7
    replace E1 := E1.same t7
    replace E2 := E2.same t7
    replace E3 := E3.same t7
    replace E4 := E4.same t7
    replace E5 := E5.same t7
    replace E6 := E6.same t7
    have E7 : ErAt Cs H8 7 v m a7 := ⟨d7, x7, y7⟩
    refine ⟨rfl, rfl, fun a8 ha8 => ⟨a8, _, rfl, ⟨_, _, _, e8⟩, T.nf 8 (by decide) _ (by decide +kernel), upd_same, fun d8 H9 hd8 nd8 x8 y8 u8 => ⟨rfl, ?_⟩⟩⟩
    have t8 : Same H8 H9 := same_but ha8 u8
    have s9 := s8.trans t8
    replace E0 := E0.same t8
    replace E1 := E1.same t8
    replace E2 := E2.same t8
    replace E3 := E3.same t8
    replace E4 := E4.same t8
    replace E5 := E5.same t8
    replace E6 := E6.same t8
    replace E7 := E7.same t8
    have E8 : ErAt Cs H9 8 v m a8 := ⟨d8, x8, y8⟩
    refine ⟨_, rfl, rfl, rfl, fun a9 ha9 => ⟨a9, _, v, rfl, ⟨_, _, _, e9⟩, ⟨T.nf 9 (by decide) _ (by decide +kernel), T.nf 9 (by decide) _ (by decide +kernel)⟩, upd_same, (av.same s9).same (same_new ha9), fun d9 H10 hd9 nd9 x9 y9 u9 => ⟨rfl, ?_⟩⟩⟩
    have t9 : Same H9 H10 := same_but ha9 u9
    have s10 := s9.trans t9
    replace E0 := E0.same t9
    replace E1 := E1.same t9
    replace E2 := E2.same t9
    replace E3 := E3.same t9
    replace E4 := E4.same t9
    replace E5 := E5.same t9
    replace E6 := E6.same t9
    replace E7 := E7.same t9
    replace E8 := E8.same t9
    have E9 : ErAt Cs H10 9 v m a9 := ⟨d9, x9, y9⟩
    refine ⟨_, rfl, rfl, rfl, fun a10 ha10 => ⟨a10, _, v, rfl, ⟨_, _, _, e10⟩, ⟨T.nf 10 (by decide) _ (by decide +kernel), T.nf 10 (by decide) _ (by decide +kernel)⟩, upd_same, (av.same s10).same (same_new ha10), fun d10 H11 hd10 nd10 x10 y10 u10 => ⟨rfl, ?_⟩⟩⟩
    have t10 : Same H10 H11 := same_but ha10 u10
    have s11 := s10.trans t10
    replace E0 := E0.same t10
    replace E1 := E1.same t10
    replace E2 := E2.same t10
    replace E3 := E3.same t10
    replace E4 := E4.same t10
    replace E5 := E5.same t10
    replace E6 := E6.same t10
    replace E7 := E7.same t10
    replace E8 := E8.same t10
    replace E9 := E9.same t10
    have E10 : ErAt Cs H11 10 v m a10 := ⟨d10, x10, y10⟩
    refine ⟨_, rfl, rfl, rfl, fun a11 ha11 => ⟨a11, _, v, rfl, ⟨_, _, _, e11⟩, ⟨T.nf 11 (by decide) _ (by decide +kernel), T.nf 11 (by decide) _ (by decide +kernel)⟩, upd_same, (av.same s11).same (same_new ha11), fun d11 H12 hd11 nd11 x11 y11 u11 => ⟨rfl, ?_⟩⟩⟩
    have t11 : Same H11 H12 := same_but ha11 u11
    have s12 := s11.trans t11
    replace E0 := E0.same t11
    replace E1 := E1.same t11
    replace E2 := E2.same t11
    replace E3 := E3.same t11
    replace E4 := E4.same t11
    replace E5 := E5.same t11
    replace E6 := E6.same t11
    replace E7 := E7.same t11
    replace E8 := E8.same t11
    replace E9 := E9.same t11
    replace E10 := E10.same t11
    have E11 : ErAt Cs H12 11 v m a11 := ⟨d11, x11, y11⟩
    refine ⟨_, rfl, rfl, rfl, fun a12 ha12 => ⟨a12, _, v, rfl, ⟨_, _, _, e12⟩, ⟨T.nf 12 (by decide) _ (by decide +kernel), T.nf 12 (by decide) _ (by decide +kernel)⟩, upd_same, (av.same s12).same (same_new ha12), fun d12 H13 hd12 nd12 x12 y12 u12 => ⟨rfl, ?_⟩⟩⟩
    have t12 : Same H12 H13 := same_but ha12 u12
    have s13 := s12.trans t12
    replace E0 := E0.same t12
    replace E1 := E1.same t12
    replace E2 := E2.same t12
    replace E3 := E3.same t12
    replace E4 := E4.same t12
    replace E5 := E5.same t12
    replace E6 := E6.same t12
    replace E7 := E7.same t12
    replace E8 := E8.same t12
    replace E9 := E9.same t12
    replace E10 := E10.same t12
    replace E11 := E11.same t12
    have E12 : ErAt Cs H13 12 v m a12 := ⟨d12, x12, y12⟩
    refine ⟨_, rfl, rfl, rfl, fun a13 ha13 => ⟨a13, _, v, rfl, ⟨_, _, _, e13⟩, ⟨T.nf 13 (by decide) _ (by decide +kernel), T.nf 13 (by decide) _ (by decide +kernel)⟩, upd_same, (av.same s13).same (same_new ha13), fun d13 H14 hd13 nd13 x13 y13 u13 => ⟨rfl, ?_⟩⟩⟩
    have t13 : Same H13 H14 := same_but ha13 u13
    have s14 := s13.trans t13
    replace E0 := E0.same t13
    replace E1 := E1.same t13
    replace E2 := E2.same t13
    replace E3 := E3.same t13
    replace E4 := E4.same t13
    replace E5 := E5.same t13
    replace E6 := E6.same t13
    replace E7 := E7.same t13
    replace E8 := E8.same t13
    replace E9 := E9.same t13
    replace E10 := E10.same t13
    replace E11 := E11.same t13
    replace E12 := E12.same t13
    have E13 : ErAt Cs H14 13 v m a13 := ⟨d13, x13, y13⟩
    refine ⟨_, rfl, rfl, rfl, fun a14 ha14 => ⟨a14, _, v, rfl, ⟨_, _, _, e14⟩, ⟨T.nf 14 (by decide) _ (by decide +kernel), T.nf 14 (by decide) _ (by decide +kernel)⟩, upd_same, (av.same s14).same (same_new ha14), fun d14 H15 hd14 nd14 x14 y14 u14 => ⟨rfl, ?_⟩⟩⟩
    have t14 : Same H14 H15 := same_but ha14 u14
    have s15 := s14.trans t14
    replace E0 := E0.same t14
    replace E1 := E1.same t14
    replace E2 := E2.same t14
    replace E3 := E3.same t14
    replace E4 := E4.same t14
    replace E5 := E5.same t14
    replace E6 := E6.same t14
    replace E7 := E7.same t14
    replace E8 := E8.same t14
    replace E9 := E9.same t14
    replace E10 := E10.same t14
    replace E11 := E11.same t14
    replace E12 := E12.same t14
    replace E13 := E13.same t14
    have E14 : ErAt Cs H15 14 v m a14 := ⟨d14, x14, y14⟩
    refine ⟨(by show 15 ≤ sizeLine; decide), fun p hp => ?_⟩
    refine q p [a0, a1, a2, a3, a4, a5, a6, a7, a8, a9, a10, a11, a12, a13, a14] _ rfl (fun k e h => ErAt.same ?_ (same_new hp)) upd_same (s15.trans (same_new hp))
    match k, h with
    | 0, h =>
      obtain rfl : a0 = e := Option.some.inj h
      exact E0
    | 1, h =>
      obtain rfl : a1 = e := Option.some.inj h
      exact E1
    | 2, h =>
      obtain rfl : a2 = e := Option.some.inj h
      exact E2
    | 3, h =>
      obtain rfl : a3 = e := Option.some.inj h
      exact E3
    | 4, h =>
      obtain rfl : a4 = e := Option.some.inj h
      exact E4
    | 5, h =>
      obtain rfl : a5 = e := Option.some.inj h
      exact E5
    | 6, h =>
      obtain rfl : a6 = e := Option.some.inj h
      exact E6
    | 7, h =>
      obtain rfl : a7 = e := Option.some.inj h
      exact E7
    | 8, h =>
      obtain rfl : a8 = e := Option.some.inj h
      exact E8
    | 9, h =>
      obtain rfl : a9 = e := Option.some.inj h
      exact E9
    | 10, h =>
      obtain rfl : a10 = e := Option.some.inj h
      exact E10
    | 11, h =>
      obtain rfl : a11 = e := Option.some.inj h
      exact E11
    | 12, h =>
      obtain rfl : a12 = e := Option.some.inj h
      exact E12
    | 13, h =>
      obtain rfl : a13 = e := Option.some.inj h
      exact E13
    | 14, h =>
      obtain rfl : a14 = e := Option.some.inj h
      exact E14
theorem sc_plain : FnScope ["_law_odd", "_law_more"] ["_law_odd", "_law_more"] (defScope sPlain) := ⟨rfl, rfl, rfl, by decide +kernel, rfl, by decide +kernel, by decide +kernel⟩
theorem ok_plain {f CB CB2 fS : Addr} {fd fdS : FuncData} (F : Fun K "_law_plain_errors" "_law_plain_errors" sPlain f fd) (T : ET K mg Cs CS CM) (M : EM K Cs Fs) (AI : AllI K Fs fds) (W1 : Bs K mg "SlopeError" "ValueError.__init__" CB) (W2 : Bs K mg "Missing" "LookupError.__init__" CB2) (D : Dn K mg "shown" fS) (G : FnOk P w K mg base CX0 1 fS fdS ["value"] spShown) (bS : Binds K fdS ["value"] []) :
    FnOk P w K mg base CX0 4 f fd ["_law_odd", "_law_more"] (spMade Cs) := by
  have G0 : FnOk P w K mg base CX0 2 (Fs 0) (fds 0) ["self", "given"] (spI_InvalidName K) := okI_InvalidName AI.i0 W1 D G bS
  have b0 := kbn_pos (AI.i0.binds (ps := ["self", "given"]) fun _ _ _ _ _ _ us hl => match us, hl with | [_, _], _ => rfl) 2 rfl
  have G1 : FnOk P w K mg base CX0 2 (Fs 1) (fds 1) ["self", "given"] (spI_InvalidNumber K) := okI_InvalidNumber AI.i1 W1 D G bS
  have b1 := kbn_pos (AI.i1.binds (ps := ["self", "given"]) fun _ _ _ _ _ _ us hl => match us, hl with | [_, _], _ => rfl) 2 rfl
  have G2 : FnOk P w K mg base CX0 2 (Fs 2) (fds 2) ["self", "what"] (spI_InvalidFact K) := okI_InvalidFact AI.i2 W1 D G bS
  have b2 := kbn_pos (AI.i2.binds (ps := ["self", "what"]) fun _ _ _ _ _ _ us hl => match us, hl with | [_, _], _ => rfl) 2 rfl
  have G3 : FnOk P w K mg base CX0 2 (Fs 3) (fds 3) ["self", "at"] (spI_InvalidText K) := okI_InvalidText AI.i3 W1 D G bS
  have b3 := kbn_pos (AI.i3.binds (ps := ["self", "at"]) fun _ _ _ _ _ _ us hl => match us, hl with | [_, _], _ => rfl) 2 rfl
  have G4 : FnOk P w K mg base CX0 2 (Fs 4) (fds 4) ["self", "at"] (spI_WrongKind K) := okI_WrongKind AI.i4 W1 D G bS
  have b4 := kbn_pos (AI.i4.binds (ps := ["self", "at"]) fun _ _ _ _ _ _ us hl => match us, hl with | [_, _], _ => rfl) 2 rfl
  have G5 : FnOk P w K mg base CX0 2 (Fs 5) (fds 5) ["self", "at"] (spI_InvalidBlank K) := okI_InvalidBlank AI.i5 W1 D G bS
  have b5 := kbn_pos (AI.i5.binds (ps := ["self", "at"]) fun _ _ _ _ _ _ us hl => match us, hl with | [_, _], _ => rfl) 2 rfl
  have G6 : FnOk P w K mg base CX0 2 (Fs 6) (fds 6) ["self", "name"] (spI_NameTaken K) := okI_NameTaken AI.i6 W1 D G bS
  have b6 := kbn_pos (AI.i6.binds (ps := ["self", "name"]) fun _ _ _ _ _ _ us hl => match us, hl with | [_, _], _ => rfl) 2 rfl
  have G7 : FnOk P w K mg base CX0 2 (Fs 7) (fds 7) ["self", "what", "limit"] (spI_TooLarge K) := okI_TooLarge AI.i7 W1 D G bS
  have b7 := kbn_pos (AI.i7.binds (ps := ["self", "what", "limit"]) fun _ _ _ _ _ _ us hl => match us, hl with | [_, _, _], _ => rfl) 3 rfl
  have G8 : FnOk P w K mg base CX0 2 (Fs 8) (fds 8) ["self"] (spI_UnlikeWorlds K) := okI_UnlikeWorlds AI.i8 W1 D G bS
  have b8 := kbn_pos (AI.i8.binds (ps := ["self"]) fun _ _ _ _ _ _ us hl => match us, hl with | [_], _ => rfl) 1 rfl
  have G9 : FnOk P w K mg base CX0 2 (Fs 9) (fds 9) ["self", "name"] (spI_InvalidWitness K) := okI_InvalidWitness AI.i9 W1 D G bS
  have b9 := kbn_pos (AI.i9.binds (ps := ["self", "name"]) fun _ _ _ _ _ _ us hl => match us, hl with | [_, _], _ => rfl) 2 rfl
  have G10 : FnOk P w K mg base CX0 2 (Fs 10) (fds 10) ["self", "index"] (spI_InvalidRow K) := okI_InvalidRow AI.i10 W1 D G bS
  have b10 := kbn_pos (AI.i10.binds (ps := ["self", "index"]) fun _ _ _ _ _ _ us hl => match us, hl with | [_, _], _ => rfl) 2 rfl
  have G11 : FnOk P w K mg base CX0 2 (Fs 11) (fds 11) ["self", "deed"] (spI_NotNow K) := okI_NotNow AI.i11 W1 D G bS
  have b11 := kbn_pos (AI.i11.binds (ps := ["self", "deed"]) fun _ _ _ _ _ _ us hl => match us, hl with | [_, _], _ => rfl) 2 rfl
  have G12 : FnOk P w K mg base CX0 2 (Fs 12) (fds 12) ["self", "line"] (spI_InvalidPage K) := okI_InvalidPage AI.i12 W1 D G bS
  have b12 := kbn_pos (AI.i12.binds (ps := ["self", "line"]) fun _ _ _ _ _ _ us hl => match us, hl with | [_, _], _ => rfl) 2 rfl
  have G13 : FnOk P w K mg base CX0 2 (Fs 13) (fds 13) ["self", "name"] (spI_UnknownName K) := okI_UnknownName AI.i13 W2 D G bS
  have b13 := kbn_pos (AI.i13.binds (ps := ["self", "name"]) fun _ _ _ _ _ _ us hl => match us, hl with | [_, _], _ => rfl) 2 rfl
  have G14 : FnOk P w K mg base CX0 2 (Fs 14) (fds 14) ["self", "deed"] (spI_NothingLeft K) := okI_NothingLeft AI.i14 W2 D G bS
  have b14 := kbn_pos (AI.i14.binds (ps := ["self", "deed"]) fun _ _ _ _ _ _ us hl => match us, hl with | [_, _], _ => rfl) 2 rfl
  refine F.ok sc_plain (fun vs H Q E h => ?_) (fun cdv A outer s H vs Q E hr h => ?_)
  · obtain ⟨v, m, rfl, _⟩ := h
    rfl
  · obtain ⟨v, m, rfl, av, am, q⟩ := h
    obtain ⟨B0, N0, m0, e0⟩ := M.eV 0 (by decide)
    obtain ⟨B1, N1, m1, e1⟩ := M.eV 1 (by decide)
    obtain ⟨B2, N2, m2, e2⟩ := M.eV 2 (by decide)
    obtain ⟨B3, N3, m3, e3⟩ := M.eV 3 (by decide)
    obtain ⟨B4, N4, m4, e4⟩ := M.eV 4 (by decide)
    obtain ⟨B5, N5, m5, e5⟩ := M.eV 5 (by decide)
    obtain ⟨B6, N6, m6, e6⟩ := M.eV 6 (by decide)
    obtain ⟨B7, N7, m7, e7⟩ := M.eV 7 (by decide)
    obtain ⟨B8, N8, m8, e8⟩ := M.eV 8 (by decide)
    obtain ⟨B9, N9, m9, e9⟩ := M.eV 9 (by decide)
    obtain ⟨B10, N10, m10, e10⟩ := M.eV 10 (by decide)
    obtain ⟨B11, N11, m11, e11⟩ := M.eV 11 (by decide)
    obtain ⟨B12, N12, m12, e12⟩ := M.eV 12 (by decide)
    obtain ⟨B13, N13, m13, e13⟩ := M.eL 13 (by decide) (by decide)
    obtain ⟨B14, N14, m14, e14⟩ := M.eL 14 (by decide) (by decide)
    refine ⟨_, pss_one (ps_ret (pe_lst (pa_cons (pe_mkE (n := 1) e0 (M.iC 0 (by decide)) (M.tI 0 (by decide)) G0 hr b0 pass0 (by decide) (by rfl) (T.gl 0 (by decide)) (pa_cons (pv 0) pa_nil)) (pa_cons (pe_mkE (n := 1) e1 (M.iC 1 (by decide)) (M.tI 1 (by decide)) G1 hr b1 pass0 (by decide) (by rfl) (T.gl 1 (by decide)) (pa_cons (pv 0) pa_nil)) (pa_cons (pe_mkE (n := 1) e2 (M.iC 2 (by decide)) (M.tI 2 (by decide)) G2 hr b2 pass0 (by decide) (by rfl) (T.gl 2 (by decide)) (pa_cons (pv 0) pa_nil)) (pa_cons (pe_mkE (n := 1) e3 (M.iC 3 (by decide)) (M.tI 3 (by decide)) G3 hr b3 pass0 (by decide) (by rfl) (T.gl 3 (by decide)) (pa_cons (pv 0) pa_nil)) (pa_cons (pe_mkE (n := 1) e4 (M.iC 4 (by decide)) (M.tI 4 (by decide)) G4 hr b4 pass0 (by decide) (by rfl) (T.gl 4 (by decide)) (pa_cons (pv 0) pa_nil)) (pa_cons (pe_mkE (n := 1) e5 (M.iC 5 (by decide)) (M.tI 5 (by decide)) G5 hr b5 pass0 (by decide) (by rfl) (T.gl 5 (by decide)) (pa_cons (pv 0) pa_nil)) (pa_cons (pe_mkE (n := 1) e6 (M.iC 6 (by decide)) (M.tI 6 (by decide)) G6 hr b6 pass0 (by decide) (by rfl) (T.gl 6 (by decide)) (pa_cons (pv 0) pa_nil)) (pa_cons (pe_mkE (n := 2) e7 (M.iC 7 (by decide)) (M.tI 7 (by decide)) G7 hr b7 pass0 (by decide) (by rfl) (T.gl 7 (by decide)) (pa_cons (pv 0) (pa_cons (pv 1) pa_nil))) (pa_cons (pe_mkE0 e8 (M.iC 8 (by decide)) (M.tI 8 (by decide)) G8 hr b8 pass0 (by rfl) (T.gl 8 (by decide))) (pa_cons (pe_mkE (n := 1) e9 (M.iC 9 (by decide)) (M.tI 9 (by decide)) G9 hr b9 pass0 (by decide) (by rfl) (T.gl 9 (by decide)) (pa_cons (pv 0) pa_nil)) (pa_cons (pe_mkE (n := 1) e10 (M.iC 10 (by decide)) (M.tI 10 (by decide)) G10 hr b10 pass0 (by decide) (by rfl) (T.gl 10 (by decide)) (pa_cons (pv 0) pa_nil)) (pa_cons (pe_mkE (n := 1) e11 (M.iC 11 (by decide)) (M.tI 11 (by decide)) G11 hr b11 pass0 (by decide) (by rfl) (T.gl 11 (by decide)) (pa_cons (pv 0) pa_nil)) (pa_cons (pe_mkE (n := 1) e12 (M.iC 12 (by decide)) (M.tI 12 (by decide)) G12 hr b12 pass0 (by decide) (by rfl) (T.gl 12 (by decide)) (pa_cons (pv 0) pa_nil)) (pa_cons (pe_mkE (n := 1) e13 (M.iC 13 (by decide)) (M.tI 13 (by decide)) G13 hr b13 pass0 (by decide) (by rfl) (T.gl 13 (by decide)) (pa_cons (pv 0) pa_nil)) (pa_cons (pe_mkE (n := 1) e14 (M.iC 14 (by decide)) (M.tI 14 (by decide)) G14 hr b14 pass0 (by decide) (by rfl) (T.gl 14 (by decide)) (pa_cons (pv 0) pa_nil)) pa_nil))))))))))))))))), ?_⟩
    have s0 := Same.refl H
    refine ⟨_, rfl, rfl, rfl, fun a0 ha0 => ⟨a0, _, v, rfl, ⟨_, _, _, e0⟩, ⟨T.nf 0 (by decide) _ (by decide +kernel), T.nf 0 (by decide) _ (by decide +kernel)⟩, upd_same, (av.same s0).same (same_new ha0), fun d0 H1 hd0 nd0 x0 y0 u0 => ⟨rfl, ?_⟩⟩⟩
    have t0 : Same H H1 := same_but ha0 u0
    have s1 := s0.trans t0
    have E0 : ErAt Cs H1 0 v m a0 := ⟨d0, x0, y0⟩
    refine ⟨_, rfl, rfl, rfl, fun a1 ha1 => ⟨a1, _, v, rfl, ⟨_, _, _, e1⟩, ⟨T.nf 1 (by decide) _ (by decide +kernel), T.nf 1 (by decide) _ (by decide +kernel)⟩, upd_same, (av.same s1).same (same_new ha1), fun d1 H2 hd1 nd1 x1 y1 u1 => ⟨rfl, ?_⟩⟩⟩
    have t1 : Same H1 H2 := same_but ha1 u1
    have s2 := s1.trans t1
    replace E0 := E0.same t1
    have E1 : ErAt Cs H2 1 v m a1 := ⟨d1, x1, y1⟩
    refine ⟨_, rfl, rfl, rfl, fun a2 ha2 => ⟨a2, _, v, rfl, ⟨_, _, _, e2⟩, ⟨T.nf 2 (by decide) _ (by decide +kernel), T.nf 2 (by decide) _ (by decide +kernel)⟩, upd_same, (av.same s2).same (same_new ha2), fun d2 H3 hd2 nd2 x2 y2 u2 => ⟨rfl, ?_⟩⟩⟩
    have t2 : Same H2 H3 := same_but ha2 u2
    have s3 := s2.trans t2
    replace E0 := E0.same t2
    replace E1 := E1.same t2
    have E2 : ErAt Cs H3 2 v m a2 := ⟨d2, x2, y2⟩
    refine ⟨_, rfl, rfl, rfl, fun a3 ha3 => ⟨a3, _, v, rfl, ⟨_, _, _, e3⟩, ⟨T.nf 3 (by decide) _ (by decide +kernel), T.nf 3 (by decide) _ (by decide +kernel)⟩, upd_same, (av.same s3).same (same_new ha3), fun d3 H4 hd3 nd3 x3 y3 u3 => ⟨rfl, ?_⟩⟩⟩
    have t3 : Same H3 H4 := same_but ha3 u3
    have s4 := s3.trans t3
    replace E0 := E0.same t3
    replace E1 := E1.same t3
    replace E2 := E2.same t3
    have E3 : ErAt Cs H4 3 v m a3 := ⟨d3, x3, y3⟩
    refine ⟨_, rfl, rfl, rfl, fun a4 ha4 => ⟨a4, _, v, rfl, ⟨_, _, _, e4⟩, ⟨T.nf 4 (by decide) _ (by decide +kernel), T.nf 4 (by decide) _ (by decide +kernel)⟩, upd_same, (av.same s4).same (same_new ha4), fun d4 H5 hd4 nd4 x4 y4 u4 => ⟨rfl, ?_⟩⟩⟩
    have t4 : Same H4 H5 := same_but ha4 u4
    have s5 := s4.trans t4
    replace E0 := E0.same t4
    replace E1 := E1.same t4
    replace E2 := E2.same t4
    replace E3 := E3.same t4
    have E4 : ErAt Cs H5 4 v m a4 := ⟨d4, x4, y4⟩
    refine ⟨_, rfl, rfl, rfl, fun a5 ha5 => ⟨a5, _, v, rfl, ⟨_, _, _, e5⟩, ⟨T.nf 5 (by decide) _ (by decide +kernel), T.nf 5 (by decide) _ (by decide +kernel)⟩, upd_same, (av.same s5).same (same_new ha5), fun d5 H6 hd5 nd5 x5 y5 u5 => ⟨rfl, ?_⟩⟩⟩
    have t5 : Same H5 H6 := same_but ha5 u5
    have s6 := s5.trans t5
    replace E0 := E0.same t5
    replace E1 := E1.same t5
    replace E2 := E2.same t5
    replace E3 := E3.same t5
    replace E4 := E4.same t5
    have E5 : ErAt Cs H6 5 v m a5 := ⟨d5, x5, y5⟩
    refine ⟨_, rfl, rfl, rfl, fun a6 ha6 => ⟨a6, _, v, rfl, ⟨_, _, _, e6⟩, ⟨T.nf 6 (by decide) _ (by decide +kernel), T.nf 6 (by decide) _ (by decide +kernel)⟩, upd_same, (av.same s6).same (same_new ha6), fun d6 H7 hd6 nd6 x6 y6 u6 => ⟨rfl, ?_⟩⟩⟩
    have t6 : Same H6 H7 := same_but ha6 u6
    have s7 := s6.trans t6
    replace E0 := E0.same t6
    replace E1 := E1.same t6
    replace E2 := E2.same t6
    replace E3 := E3.same t6
    replace E4 := E4.same t6
    replace E5 := E5.same t6
    have E6 : ErAt Cs H7 6 v m a6 := ⟨d6, x6, y6⟩
    refine ⟨_, rfl, _, rfl, rfl, rfl, fun a7 ha7 => ⟨a7, _, v, m, rfl, ⟨_, _, _, e7⟩, ⟨T.nf 7 (by decide) _ (by decide +kernel), T.nf 7 (by decide) _ (by decide +kernel), T.nf 7 (by decide) _ (by decide +kernel)⟩, upd_same, (av.same s7).same (same_new ha7), (am.same s7).same (same_new ha7), fun d7 H8 hd7 nd7 x7 y7 u7 => ⟨rfl, ?_⟩⟩⟩
    have t7 : Same H7 H8 := same_but ha7 u7
    have s8 := s7.trans t7
    replace E0 := E0.same t7
    replace E1 := E1.same t7
    replace E2 := E2.same t7
    replace E3 := E3.same t7
    replace E4 := E4.same t7
    replace E5 := E5.same t7
    replace E6 := E6.same t7
    have E7 : ErAt Cs H8 7 v m a7 := ⟨d7, x7, y7⟩
    refine ⟨rfl, rfl, fun a8 ha8 => ⟨a8, _, rfl, ⟨_, _, _, e8⟩, T.nf 8 (by decide) _ (by decide +kernel), upd_same, fun d8 H9 hd8 nd8 x8 y8 u8 => ⟨rfl, ?_⟩⟩⟩
    have t8 : Same H8 H9 := same_but ha8 u8
    have s9 := s8.trans t8
    replace E0 := E0.same t8
    replace E1 := E1.same t8
    replace E2 := E2.same t8
    replace E3 := E3.same t8
    replace E4 := E4.same t8
    replace E5 := E5.same t8
    replace E6 := E6.same t8
    replace E7 := E7.same t8
    have E8 : ErAt Cs H9 8 v m a8 := ⟨d8, x8, y8⟩
    refine ⟨_, rfl, rfl, rfl, fun a9 ha9 => ⟨a9, _, v, rfl, ⟨_, _, _, e9⟩, ⟨T.nf 9 (by decide) _ (by decide +kernel), T.nf 9 (by decide) _ (by decide +kernel)⟩, upd_same, (av.same s9).same (same_new ha9), fun d9 H10 hd9 nd9 x9 y9 u9 => ⟨rfl, ?_⟩⟩⟩
    have t9 : Same H9 H10 := same_but ha9 u9
    have s10 := s9.trans t9
    replace E0 := E0.same t9
    replace E1 := E1.same t9
    replace E2 := E2.same t9
    replace E3 := E3.same t9
    replace E4 := E4.same t9
    replace E5 := E5.same t9
    replace E6 := E6.same t9
    replace E7 := E7.same t9
    replace E8 := E8.same t9
    have E9 : ErAt Cs H10 9 v m a9 := ⟨d9, x9, y9⟩
    refine ⟨_, rfl, rfl, rfl, fun a10 ha10 => ⟨a10, _, v, rfl, ⟨_, _, _, e10⟩, ⟨T.nf 10 (by decide) _ (by decide +kernel), T.nf 10 (by decide) _ (by decide +kernel)⟩, upd_same, (av.same s10).same (same_new ha10), fun d10 H11 hd10 nd10 x10 y10 u10 => ⟨rfl, ?_⟩⟩⟩
    have t10 : Same H10 H11 := same_but ha10 u10
    have s11 := s10.trans t10
    replace E0 := E0.same t10
    replace E1 := E1.same t10
    replace E2 := E2.same t10
    replace E3 := E3.same t10
    replace E4 := E4.same t10
    replace E5 := E5.same t10
    replace E6 := E6.same t10
    replace E7 := E7.same t10
    replace E8 := E8.same t10
    replace E9 := E9.same t10
    have E10 : ErAt Cs H11 10 v m a10 := ⟨d10, x10, y10⟩
    refine ⟨_, rfl, rfl, rfl, fun a11 ha11 => ⟨a11, _, v, rfl, ⟨_, _, _, e11⟩, ⟨T.nf 11 (by decide) _ (by decide +kernel), T.nf 11 (by decide) _ (by decide +kernel)⟩, upd_same, (av.same s11).same (same_new ha11), fun d11 H12 hd11 nd11 x11 y11 u11 => ⟨rfl, ?_⟩⟩⟩
    have t11 : Same H11 H12 := same_but ha11 u11
    have s12 := s11.trans t11
    replace E0 := E0.same t11
    replace E1 := E1.same t11
    replace E2 := E2.same t11
    replace E3 := E3.same t11
    replace E4 := E4.same t11
    replace E5 := E5.same t11
    replace E6 := E6.same t11
    replace E7 := E7.same t11
    replace E8 := E8.same t11
    replace E9 := E9.same t11
    replace E10 := E10.same t11
    have E11 : ErAt Cs H12 11 v m a11 := ⟨d11, x11, y11⟩
    refine ⟨_, rfl, rfl, rfl, fun a12 ha12 => ⟨a12, _, v, rfl, ⟨_, _, _, e12⟩, ⟨T.nf 12 (by decide) _ (by decide +kernel), T.nf 12 (by decide) _ (by decide +kernel)⟩, upd_same, (av.same s12).same (same_new ha12), fun d12 H13 hd12 nd12 x12 y12 u12 => ⟨rfl, ?_⟩⟩⟩
    have t12 : Same H12 H13 := same_but ha12 u12
    have s13 := s12.trans t12
    replace E0 := E0.same t12
    replace E1 := E1.same t12
    replace E2 := E2.same t12
    replace E3 := E3.same t12
    replace E4 := E4.same t12
    replace E5 := E5.same t12
    replace E6 := E6.same t12
    replace E7 := E7.same t12
    replace E8 := E8.same t12
    replace E9 := E9.same t12
    replace E10 := E10.same t12
    replace E11 := E11.same t12
    have E12 : ErAt Cs H13 12 v m a12 := ⟨d12, x12, y12⟩
    refine ⟨_, rfl, rfl, rfl, fun a13 ha13 => ⟨a13, _, v, rfl, ⟨_, _, _, e13⟩, ⟨T.nf 13 (by decide) _ (by decide +kernel), T.nf 13 (by decide) _ (by decide +kernel)⟩, upd_same, (av.same s13).same (same_new ha13), fun d13 H14 hd13 nd13 x13 y13 u13 => ⟨rfl, ?_⟩⟩⟩
    have t13 : Same H13 H14 := same_but ha13 u13
    have s14 := s13.trans t13
    replace E0 := E0.same t13
    replace E1 := E1.same t13
    replace E2 := E2.same t13
    replace E3 := E3.same t13
    replace E4 := E4.same t13
    replace E5 := E5.same t13
    replace E6 := E6.same t13
    replace E7 := E7.same t13
    replace E8 := E8.same t13
    replace E9 := E9.same t13
    replace E10 := E10.same t13
    replace E11 := E11.same t13
    replace E12 := E12.same t13
    have E13 : ErAt Cs H14 13 v m a13 := ⟨d13, x13, y13⟩
    refine ⟨_, rfl, rfl, rfl, fun a14 ha14 => ⟨a14, _, v, rfl, ⟨_, _, _, e14⟩, ⟨T.nf 14 (by decide) _ (by decide +kernel), T.nf 14 (by decide) _ (by decide +kernel)⟩, upd_same, (av.same s14).same (same_new ha14), fun d14 H15 hd14 nd14 x14 y14 u14 => ⟨rfl, ?_⟩⟩⟩
    have t14 : Same H14 H15 := same_but ha14 u14
    have s15 := s14.trans t14
    replace E0 := E0.same t14
    replace E1 := E1.same t14
    replace E2 := E2.same t14
    replace E3 := E3.same t14
    replace E4 := E4.same t14
    replace E5 := E5.same t14
    replace E6 := E6.same t14
    replace E7 := E7.same t14
    replace E8 := E8.same t14
    replace E9 := E9.same t14
    replace E10 := E10.same t14
    replace E11 := E11.same t14
    replace E12 := E12.same t14
    replace E13 := E13.same t14
    have E14 : ErAt Cs H15 14 v m a14 := ⟨d14, x14, y14⟩
    refine ⟨(by show 15 ≤ sizeLine; decide), fun p hp => ?_⟩
    refine q p [a0, a1, a2, a3, a4, a5, a6, a7, a8, a9, a10, a11, a12, a13, a14] _ rfl (fun k e h => ErAt.same ?_ (same_new hp)) upd_same (s15.trans (same_new hp))
    match k, h with
    | 0, h =>
      obtain rfl : a0 = e := Option.some.inj h
      exact E0
    | 1, h =>
      obtain rfl : a1 = e := Option.some.inj h
      exact E1
    | 2, h =>
      obtain rfl : a2 = e := Option.some.inj h
      exact E2
    | 3, h =>
      obtain rfl : a3 = e := Option.some.inj h
      exact E3
    | 4, h =>
      obtain rfl : a4 = e := Option.some.inj h
      exact E4
    | 5, h =>
      obtain rfl : a5 = e := Option.some.inj h
      exact E5
    | 6, h =>
      obtain rfl : a6 = e := Option.some.inj h
      exact E6
    | 7, h =>
      obtain rfl : a7 = e := Option.some.inj h
      exact E7
    | 8, h =>
      obtain rfl : a8 = e := Option.some.inj h
      exact E8
    | 9, h =>
      obtain rfl : a9 = e := Option.some.inj h
      exact E9
    | 10, h =>
      obtain rfl : a10 = e := Option.some.inj h
      exact E10
    | 11, h =>
      obtain rfl : a11 = e := Option.some.inj h
      exact E11
    | 12, h =>
      obtain rfl : a12 = e := Option.some.inj h
      exact E12
    | 13, h =>
      obtain rfl : a13 = e := Option.some.inj h
      exact E13
    | 14, h =>
      obtain rfl : a14 = e := Option.some.inj h
      exact E14
end
end K80

set_option Elab.async false
set_option linter.all false
set_option maxRecDepth 100000
set_option maxHeartbeats 4000000
namespace K80
open PySem PySem.Spec PyProof.Rows L2 Ux
/-- a list of at most 63 ints is handed in, True comes out -/
def spLaw (K : PySem.W.Frag) : Sp := fun vs H Q _ => ∃ (a : Addr) (ns : List Int), vs = [.ref a] ∧ SqL K H a (ns.map V.int) ∧ ns.length ≤ 63 ∧ ∀ H', Q (.bl true) H'
/-- what the law may hand in as the odd value -/
def OddOk (H : Hp) (v : V) : Prop := Adm H v ∧ Like H 2 v v
theorem OddOk.same {H H' : Hp} {v : V} (h : OddOk H v) (s : Same H H') : OddOk H' v := ⟨h.1.same s, h.2.mono s⟩
theorem Like.succ {H : Hp} : ∀ {n : Nat} {u v : V}, Like H n u v → Like H (n + 1) u v
  | 0, _, _, h => h.elim
  | n + 1, u, v, h => by
    rcases h with h | ⟨a, b, xs, ys, e1, e2, hh, l1, l2, k⟩
    · exact .inl h
    · exact .inr ⟨a, b, xs, ys, e1, e2, hh, l1, l2, fun i x y hx hy => Like.succ (k i x y hx hy)⟩
theorem like_seq2 {H : Hp} {n : Nat} {a b : Addr} {x1 x2 y1 y2 : V} (h : (H a = some (.tup [x1, x2]) ∧ H b = some (.tup [y1, y2])) ∨ (H a = some (.lst [x1, x2]) ∧ H b = some (.lst [y1, y2]))) (k1 : Like H n x1 y1) (k2 : Like H n x2 y2) : Like H (n + 1) (.ref a) (.ref b) :=
  .inr ⟨a, b, _, _, rfl, rfl, h, rfl, (by show 2 ≤ 1000; decide), fun i x y hx hy => by
    match i, hx, hy with
    | 0, hx, hy =>
      obtain rfl : x1 = x := Option.some.inj hx
      obtain rfl : y1 = y := Option.some.inj hy
      exact k1
    | 1, hx, hy =>
      obtain rfl : x2 = x := Option.some.inj hx
      obtain rfl : y2 = y := Option.some.inj hy
      exact k2⟩
theorem like_lst1 {H : Hp} {n : Nat} {a b : Addr} {x1 y1 : V} (h : H a = some (.lst [x1]) ∧ H b = some (.lst [y1])) (k1 : Like H n x1 y1) : Like H (n + 1) (.ref a) (.ref b) :=
  .inr ⟨a, b, _, _, rfl, rfl, .inr h, rfl, (by show 1 ≤ 1000; decide), fun i x y hx hy => by
    match i, hx, hy with
    | 0, hx, hy =>
      obtain rfl : x1 = x := Option.some.inj hx
      obtain rfl : y1 = y := Option.some.inj hy
      exact k1⟩
theorem like_int {H : Hp} {n : Nat} (i : Int) : Like H (n + 1) (.int i) (.int i) := .inl ⟨rfl, .inr (.inr (.inl ⟨i, rfl⟩))⟩
theorem like_str {H : Hp} {n : Nat} (x : Str) : Like H (n + 1) (.str x) (.str x) := .inl ⟨rfl, .inr (.inr (.inr ⟨x, rfl⟩))⟩
theorem like_non {H : Hp} {n : Nat} : Like H (n + 1) .non .non := .inl ⟨rfl, .inl rfl⟩
theorem like_bl {H : Hp} {n : Nat} (b : Bool) : Like H (n + 1) (.bl b) (.bl b) := .inl ⟨rfl, .inr (.inl ⟨b, rfl⟩)⟩
theorem same_ofbut {H0 H H' : Hp} {b : Addr} (s : Same H0 H) (n : H0 b = none) (f : But b H H') : Same H0 H' := fun x o e => f x o (s x o e) (ne_of_none e n)
theorem dp_bls {K : PySem.W.Frag} {H : Hp} : ∀ bs : List Bool, DpAll K H (bs.map V.bl) (bs.map PyData.bool)
  | [] => .nil
  | b :: bs => .cons (.bl b) (dp_bls bs)
theorem BagAt.same {H H' : Hp} {b : Addr} {n : Nat} (h : BagAt H b n) (s : Same H H') : BagAt H' b n := by
  obtain ⟨l, ns, p, g, s', c, hb, hl, z⟩ := h
  exact ⟨l, ns, p, g, s', c, s _ _ hb, s _ _ hl, z⟩
theorem code_at (k : Nat) (hk : k < 15) : (codes.map V.str)[k]? = some (V.str (code k)) := by
  have hl : k < codes.length := hk
  rw [List.getElem?_map, List.getElem?_eq_getElem hl]
  show some (V.str codes[k]) = some (V.str (codes.getD k ""))
  rw [List.getD_eq_getElem?_getD, List.getElem?_eq_getElem hl]
  rfl
/-- the row of truth values of the k-th -/
abbrev row (k : Nat) : List Bool := (List.range 15).map fun j => decide (j = k)
theorem row_map (k : Nat) : (row k).map V.bl = (List.range 15).map fun j => V.bl (decide (j = k)) := by
  rw [List.map_map]
  rfl
abbrev four (k : Nat) : List Bool := [decide (k < 13), decide (k < 13), decide (12 < k), decide (12 < k)]
theorem shaped_row (k : Nat) : SeqAt.shaped (.list ((row k).map PyData.bool)) = true := rfl
theorem shaped_four (k : Nat) : SeqAt.shaped (.list ((four k).map PyData.bool)) = true := rfl
section
variable {P : Program} {w : World} {K : PySem.W.Frag} {mg : Str → Option Value} {base : Heap} {Cs Fs : Nat → Addr} {fds : Nat → FuncData} {CS CM : Addr}
abbrev nLaw : List Str := ["_law_script", "_law_bag_here", "_law_odd", "_law_more", "_law_words", "_law_some", "_law_k", "_law_e", "_law_due", "_law_bases", "_law_late"]
theorem scLaw : FnScope nLaw ["_law_script"] (defScope sLaw) := ⟨rfl, rfl, rfl, by decide +kernel, rfl, by decide +kernel, by decide +kernel⟩
theorem ok_law {f fB fP fO fS fF fR fM fN : Addr} {fd fdB fdP fdO fdS fdF fdR fdM fdN : FuncData} (F : Fun K "law" "law" sLaw f fd) (B : Bn mg) (T : ET K mg Cs CS CM)
    (DB : Dn K mg "_law_bag" fB) (GB : FnOk P w K mg base CX0 1 fB fdB ["_law_script"] (spBag K)) (bB : Binds K fdB ["_law_script"] [])
    (DP : Dn K mg "_law_pull" fP) (GP : FnOk P w K mg base CX0 1 fP fdP ["_law_bag_here", "_law_many"] spPull) (bP : Binds K fdP ["_law_bag_here", "_law_many"] [])
    (DO : Dn K mg "_law_of" fO) (GO : FnOk P w K mg base CX0 2 fO fdO ["_law_bag_here", "_law_things"] spOf) (bO : Binds K fdO ["_law_bag_here", "_law_things"] [])
    (DS : Dn K mg "_law_same" fS) (GS : FnOk P w K mg base CX0 4 fS fdS ["_law_found", "_law_due"] (spSame 4)) (bS : Binds K fdS ["_law_found", "_law_due"] [])
    (DF : Dn K mg "_law_field" fF) (GF : FnOk P w K mg base CX0 2 fF fdF ["_law_e"] (spField Cs)) (bF : Binds K fdF ["_law_e"] [])
    (DR : Dn K mg "_law_sorts" fR) (GR : FnOk P w K mg base CX0 1 fR fdR ["_law_e"] (spSorts Cs)) (bR : Binds K fdR ["_law_e"] [])
    (DM : Dn K mg "_law_made_errors" fM) (GM : FnOk P w K mg base CX0 4 fM fdM ["_law_odd", "_law_more"] (spMade Cs)) (bM : Binds K fdM ["_law_odd", "_law_more"] [])
    (DN : Dn K mg "_law_plain_errors" fN) (GN : FnOk P w K mg base CX0 4 fN fdN ["_law_odd", "_law_more"] (spMade Cs)) (bN : Binds K fdN ["_law_odd", "_law_more"] []) :
    FnOk P w K mg base CX0 5 f fd ["_law_script"] (spLaw K) := by
  refine F.ok scLaw (fun vs H Q E h => ?_) (fun cdv A outer s H vs Q E hr h => ?_)
  · obtain ⟨a, ns, rfl, _⟩ := h
    rfl
  · obtain ⟨a, ns, rfl, hS, hlen, q⟩ := h
    have r1 : Room 1 _ := hr.mono (by decide)
    have r2 : Room 2 _ := hr.mono (by decide)
    refine ⟨_, pss_cons (ps_set (i := 1) scLaw.nd rfl (Or.inl rfl) (pe_call GB r1 (by rfl) DB.gl DB.kp bB .nil pass0 (pa_cons (pv 0) pa_nil)))
      (pss_cons (ps_par (i := 2) (j := 3) rfl scLaw.nd rfl rfl (by decide) rfl rfl (pa_cons (pe_call GO r2 (by rfl) DO.gl DO.kp bO .nil pass0 (pa_cons (pv 1) (pa_cons (pe_lst (pa_cons pe_non (pa_cons (pe_call GP r1 (by rfl) DP.gl DP.kp bP .nil pass0 (pa_cons (pv 1) (pa_cons (pe_op op_pow pe_int pe_int) pa_nil))) (pa_cons pe_str (pa_cons (pe_tup (pa_cons pe_int (pa_cons pe_str pa_nil))) (pa_cons (pe_lst (pa_cons pe_str pa_nil)) (pa_cons pe_bl (pa_cons (pe_un un_neg pe_int) pa_nil)))))))) pa_nil))) (pa_cons (pe_call GP r1 (by rfl) DP.gl DP.kp bP .nil pass0 (pa_cons (pv 1) (pa_cons (pe_op op_pow pe_int pe_int) pa_nil))) pa_nil)) (by rfl))
      (pss_cons (ps_set (i := 4) scLaw.nd rfl (Or.inl rfl) (pe_lst (pa_cons pe_str (pa_cons pe_str (pa_cons pe_str (pa_cons pe_str (pa_cons pe_str (pa_cons pe_str (pa_cons pe_str (pa_cons pe_str (pa_cons pe_str (pa_cons pe_str (pa_cons pe_str (pa_cons pe_str (pa_cons pe_str (pa_cons pe_str (pa_cons pe_str pa_nil)))))))))))))))))
      (pss_cons (ps_for PassesOwn.never rfl (pi_list (pe_lst (pa_cons (pe_call GM hr (by rfl) DM.gl DM.kp bM .nil pass0 (pa_cons (pv 2) (pa_cons (pv 3) pa_nil))) (pa_cons (pe_call GN hr (by rfl) DN.gl DN.kp bN .nil pass0 (pa_cons (pv 2) (pa_cons (pv 3) pa_nil))) pa_nil)))) (pg_name (i := 5) scLaw.nd rfl (Or.inl rfl)) (pss_one (ps_for PassesOwn.never rfl (pi_range1 rfl B.frange (pa_cons pe_int pa_nil)) (pg_name (i := 6) scLaw.nd rfl (Or.inr rfl)) (pss_cons (ps_set (i := 7) scLaw.nd rfl (Or.inl rfl) (pe_ix ix_list (pv 5) (pv 6) (fun _ _ => rfl))) (C8.pss_cut (ps_set (i := 8) scLaw.nd rfl (Or.inl rfl) (pe_ifExp (pt_cmpR op_eq (pv 6) pe_int (nomark _)) pe_non (pe_ifExp (pt_cmpR op_eq (pv 6) pe_int (nomark _)) (pe_tup (pa_cons (pv 2) (pa_cons (pv 3) pa_nil))) (pv 2)))) (pss_cons (ps_if (PW.pt (pw_or (pt_not (pt_val (pe_call GS hr (by rfl) DS.gl DS.kp bS .nil pass0 (pa_cons (pe_lst (pa_cons (pe_ef (pv 7)) (pa_cons (pe_call GF r2 (by rfl) DF.gl DF.kp bF .nil pass0 (pa_cons (pv 7) pa_nil)) pa_nil))) (pa_cons (pe_lst (pa_cons (pe_ix ix_list (pv 4) (pv 6) (fun _ _ => rfl)) (pa_cons (pv 8) pa_nil))) pa_nil))))) (pw_or1 (pt_cmpR (op_neD hr.units) (pe_call GR r1 (by rfl) DR.gl DR.kp bR .nil pass0 (pa_cons (pv 7) pa_nil)) (pe_lc (own := [("_law_late", 10)]) (g := gName 10) rfl scLaw.nd (pi_range1 rfl B.frange (pa_cons pe_int pa_nil)) (blkOk_by (own := [("_law_late", 10)]) (N := nLaw) (sc := defScope sLaw) (by decide +kernel)) (fun _ _ _ _ _ => pg_name (i := 10) scLaw.nd rfl (Or.inl rfl) (hf := Or.inr rfl)) (fun _ _ _ _ _ => pts_nil) (fun _ _ _ _ _ => pe_cmpR op_eq (pv 10) (pv 6) (nomark _))) (nomark _))))) (pss_one (ps_ret pe_bl)) pss_nil) (pss_cons (ps_set (i := 9) scLaw.nd rfl (Or.inl rfl) (pe_lst (pa_cons (pe_callB call_isEr (by rfl) B.isin (by decide +kernel) (pa_cons (pv 7) (pa_cons (pe_glob (v := .ref CS) (by rfl) T.gS rfl) pa_nil))) (pa_cons (pe_callB call_isEr (by rfl) B.isin (by decide +kernel) (pa_cons (pv 7) (pa_cons (pe_bltn (v := .ty "ValueError") (by rfl) B.tve (by decide +kernel) rfl) pa_nil))) (pa_cons (pe_callB call_isEr (by rfl) B.isin (by decide +kernel) (pa_cons (pv 7) (pa_cons (pe_glob (v := .ref CM) (by rfl) T.gM rfl) pa_nil))) (pa_cons (pe_callB call_isEr (by rfl) B.isin (by decide +kernel) (pa_cons (pv 7) (pa_cons (pe_bltn (v := .ty "LookupError") (by rfl) B.tle (by decide +kernel) rfl) pa_nil))) pa_nil)))))) (pss_one (ps_if (pt_cmpR (op_neD hr.units) (pv 9) (pe_lst (pa_cons (pe_cmpR op_lt (pv 6) pe_int (nomark _)) (pa_cons (pe_cmpR op_lt (pv 6) pe_int (nomark _)) (pa_cons (pe_cmpR op_gt (pv 6) pe_int (nomark _)) (pa_cons (pe_cmpR op_gt (pv 6) pe_int (nomark _)) pa_nil))))) (nomark _)) (pss_one (ps_ret pe_bl)) pss_nil)))))))))
      (pss_one (ps_ret pe_bl))))), ?_⟩
    -- the bag, the odd value, one more
    refine ⟨_, rfl, a, ns, rfl, hS, fun b H1 B1 nb s1 => ?_⟩
    refine ⟨_, rfl, _, rfl, _, _, rfl, rfl, ⟨by decide, by decide, by decide⟩, b, _, 0, rfl, (by decide +kernel), (by decide +kernel), B1, by decide, fun r H2 r0 r9 B2 f2 => ?_⟩
    refine ⟨(by show 2 ≤ sizeLine; decide), fun t ht => ⟨(by show 1 ≤ sizeLine; decide), fun l hl => ⟨_, rfl, (by show 7 ≤ sizeLine; decide), fun L hL => ?_⟩⟩⟩
    have u1 := Same.new (Same.new (Same.new (Same.refl H2) ht (o := .tup [V.int 1, V.str "b"])) hl (o := .lst [V.str "c"])) hL (o := .lst [V.non, V.int r, V.str "a", V.ref t, V.ref l, V.bl true, V.int (-3)])
    have ut : ∀ o, upd (upd (upd H2 t (.tup [V.int 1, V.str "b"])) l (.lst [V.str "c"])) L o t = some (.tup [V.int 1, V.str "b"]) := fun o => by
      have x1 : upd H2 t (.tup [V.int 1, V.str "b"]) t = some (.tup [V.int 1, V.str "b"]) := upd_same
      have x2 : upd (upd H2 t (.tup [V.int 1, V.str "b"])) l (.lst [V.str "c"]) t = some (.tup [V.int 1, V.str "b"]) := (upd_ne (ne_of_none x1 hl)).trans x1
      exact (upd_ne (ne_of_none x2 hL)).trans x2
    have ul : ∀ o, upd (upd (upd H2 t (.tup [V.int 1, V.str "b"])) l (.lst [V.str "c"])) L o l = some (.lst [V.str "c"]) := fun o => by
      have x2 : upd (upd H2 t (.tup [V.int 1, V.str "b"])) l (.lst [V.str "c"]) l = some (.lst [V.str "c"]) := upd_same
      exact (upd_ne (ne_of_none x2 hL)).trans x2
    have B2' := B2.same u1
    have nL : L ≠ b := fun z => by
      obtain ⟨_, _, _, _, _, _, hb, _⟩ := B2
      have x := Same.new (Same.new (Same.refl H2) ht (o := .tup [V.int 1, V.str "b"])) hl (o := .lst [V.str "c"]) _ _ hb
      rw [z] at hL
      rw [hL] at x
      cases x
    refine ⟨b, L, 1, _, rfl, B2', by decide, nL, upd_same, (by show 0 < 7; decide), (by show 7 ≤ 1000; decide), fun i v H3 hi B3 f3 => ?_⟩
    have nt : t ≠ b := fun z => by
      obtain ⟨_, _, _, _, _, _, hb, _⟩ := B2
      rw [z, hb] at ht
      cases ht
    have nl : l ≠ b := fun z => by
      obtain ⟨_, _, _, _, _, _, hb, _⟩ := B2
      have x := Same.new (Same.refl H2) ht (o := .tup [V.int 1, V.str "b"]) _ _ hb
      rw [z, x] at hl
      cases hl
    refine ⟨_, rfl, _, _, rfl, rfl, ⟨by decide, by decide, by decide⟩, b, _, 2, rfl, (by decide +kernel), (by decide +kernel), B3, by decide, fun m H4 m0 m9 B4 f4 => ?_⟩
    have t4 : H4 t = some (.tup [V.int 1, V.str "b"]) := f4 _ _ (f3 _ _ (ut _) nt) nt
    have l4 : H4 l = some (.lst [V.str "c"]) := f4 _ _ (f3 _ _ (ul _) nl) nl
    have e9 : ((10 : Int) ^ Int.toNat 9) = 1000000000 := by decide +kernel
    have e6 : ((10 : Int) ^ Int.toNat 6) = 1000000 := by decide +kernel
    have p10 : (10 : Nat) ^ 10 = 10000000000 := by decide
    rw [e9] at r9
    rw [e6] at m9
    have odd : OddOk H4 v := by
      match i, hi with
      | 0, hi =>
        obtain rfl : V.non = v := Option.some.inj hi
        exact ⟨.non, like_non⟩
      | 1, hi =>
        obtain rfl : V.int r = v := Option.some.inj hi
        exact ⟨.int (by rw [p10]; omega), like_int _⟩
      | 2, hi =>
        obtain rfl : V.str "a" = v := Option.some.inj hi
        exact ⟨.str (by decide +kernel), like_str _⟩
      | 3, hi =>
        obtain rfl : V.ref t = v := Option.some.inj hi
        exact ⟨.tup t4, like_seq2 (.inl ⟨t4, t4⟩) (like_int _) (like_str _)⟩
      | 4, hi =>
        obtain rfl : V.ref l = v := Option.some.inj hi
        exact ⟨.lst l4, like_lst1 ⟨l4, l4⟩ (like_str _)⟩
      | 5, hi =>
        obtain rfl : V.bl true = v := Option.some.inj hi
        exact ⟨.yes, like_bl _⟩
      | 6, hi =>
        obtain rfl : V.int (-3) = v := Option.some.inj hi
        exact ⟨.int (by decide +kernel), like_int _⟩
    have am4 : Adm H4 (V.int m) := .int (by rw [p10]; omega)
    clear B1 B2 B2' B3 B4 f2 f3 f4 ut ul u1 hi nL nt nl t4 l4
    refine ⟨_, _, rfl, ?_⟩
    -- the words, the two lots of errors
    refine ⟨(by show 15 ≤ sizeLine; decide), fun W hW => ?_⟩
    have sW : Same H4 (upd H4 W (.lst (codes.map V.str))) := same_new hW
    have w5 : upd H4 W (.lst (codes.map V.str)) W = some (.lst (codes.map V.str)) := upd_same
    refine ⟨_, rfl, _, rfl, v, V.int m, rfl, odd.1.same sW, am4.same sW, fun p1 es1 H6 n1 E1 h1 s6 => ?_⟩
    refine ⟨_, rfl, _, rfl, v, V.int m, rfl, (odd.1.same sW).same s6, (am4.same sW).same s6, fun p2 es2 H7 n2 E2 h2 s7 => ?_⟩
    refine ⟨(by show 2 ≤ sizeLine; decide), fun L2 hL2 => ?_⟩
    have s8 : Same H7 (upd H7 L2 (.lst [V.ref p1, V.ref p2])) := same_new hL2
    have w8 := s8 _ _ (s7 _ _ (s6 _ _ w5))
    have odd8 : OddOk (upd H7 L2 (.lst [V.ref p1, V.ref p2])) v := ((odd.same sW).same s6).same (s7.trans s8)
    have hL8 : upd H7 L2 (.lst [V.ref p1, V.ref p2]) L2 = some (.lst [V.ref p1, V.ref p2]) := upd_same
    have both : ∀ (i : Nat) (x : V), [V.ref p1, V.ref p2][i]? = some x → ∃ (p : Addr) (es : List Addr), x = .ref p ∧ es.length = 15 ∧ upd H7 L2 (.lst [V.ref p1, V.ref p2]) p = some (.lst (es.map V.ref)) ∧
        ∀ (k : Nat) (e : Addr), es[k]? = some e → ErAt Cs (upd H7 L2 (.lst [V.ref p1, V.ref p2])) k v (V.int m) e := by
      intro i x hx
      match i, hx with
      | 0, hx =>
        obtain rfl : V.ref p1 = x := Option.some.inj hx
        exact ⟨p1, es1, rfl, n1, s8 _ _ (s7 _ _ h1), fun k e he => (E1 k e he).same (s7.trans s8)⟩
      | 1, hx =>
        obtain rfl : V.ref p2 = x := Option.some.inj hx
        exact ⟨p2, es2, rfl, n2, s8 _ _ h2, fun k e he => (E2 k e he).same s8⟩
    clear E1 E2 h1 h2 n1 n2
    generalize upd H7 L2 (.lst [V.ref p1, V.ref p2]) = H8 at s8 w8 odd8 hL8 both ⊢
    clear s8 s7 s6 sW w5 odd am4 hW hL2 hL
    refine ⟨L2, rfl, ⟨_, .of hL8⟩, for_list (K := K) (a := L2) (xs := [V.ref p1, V.ref p2]) (fun i σ H' => ∃ x5 x6 x7 x8 x9 : Option V, σ = [some (.ref a), some (.ref b), some v, some (.int m), some (.ref W), x5, x6, x7, x8, x9, none] ∧ Same H8 H')
      ⟨none, none, none, none, none, rfl, Same.refl _⟩ (fun i σ H' _ z => by obtain ⟨_, _, _, _, _, _, z⟩ := z; exact .of (z _ _ hL8)) ?_ ?_⟩
    · rintro i x σ H' hx ⟨x5, x6, x7, x8, x9, rfl, sO⟩
      obtain ⟨p, es, rfl, nes, hp, hE⟩ := both i x hx
      refine ⟨15, rfl, by decide, by decide, for_range (n := 15) (fun j σ H' => ∃ x6 x7 x8 x9 : Option V, σ = [some (.ref a), some (.ref b), some v, some (.int m), some (.ref W), some (.ref p), x6, x7, x8, x9, none] ∧ Same H8 H') ⟨x6, x7, x8, x9, rfl, sO⟩ ?_ ?_⟩
      · clear sO H'
        rintro k σ H' hk ⟨x6, x7, x8, x9, rfl, sI⟩
        rw [Int.zero_add]
        have hk' : k < es.length := by omega
        have he0 := List.getElem?_eq_getElem hk'
        generalize es[k] = e at he0
        have Ek := hE k e he0
        have hem : (es.map V.ref)[k]? = some (V.ref e) := by
          rw [List.getElem?_map, he0]
          rfl
        refine ⟨_, rfl, _, rfl, p, _, _, _, rfl, rfl, .of (sI _ _ hp), atI_nat hem, ?_⟩
        -- what is due
        refine ⟨fun σ H2 => ∃ due : V, σ = [some (.ref a), some (.ref b), some v, some (.int m), some (.ref W), some (.ref p), some (.int (k : Nat)), some (.ref e), some due, x9, none] ∧ Same H8 H2 ∧ FieldIs H2 v (V.int m) k due, ?_, ?_⟩
        · refine ⟨_, rfl, rfl, _, rfl, ?_⟩
          by_cases k8 : k = 8
          · subst k8
            rw [decide_eq_true (show V.int ((8 : Nat) : Int) = V.int 8 from rfl)]
            exact iteT ⟨_, rfl, sI, .inr (.inl ⟨rfl, rfl⟩)⟩
          · have n8 : ¬ (V.int (k : Nat)) = V.int 8 := fun z => k8 (by have := V.int.inj z; omega)
            rw [decide_eq_false n8]
            refine iteF ⟨_, rfl, rfl, _, rfl, ?_⟩
            by_cases k7 : k = 7
            · subst k7
              rw [decide_eq_true (show V.int ((7 : Nat) : Int) = V.int 7 from rfl)]
              refine iteT ⟨_, rfl, _, rfl, (by show 2 ≤ sizeLine; decide), fun pt hpt => ?_⟩
              exact ⟨_, rfl, Same.new sI hpt, .inl ⟨rfl, pt, rfl, upd_same⟩⟩
            · have n7 : ¬ (V.int (k : Nat)) = V.int 7 := fun z => k7 (by have := V.int.inj z; omega)
              rw [decide_eq_false n7]
              exact iteF ⟨_, rfl, _, rfl, sI, .inr (.inr ⟨k7, k8, rfl⟩)⟩
        · clear sI H'
          rintro σ H2 ⟨due, rfl, sD, fD⟩
          obtain ⟨d, he, hd⟩ := id Ek
          refine ⟨_, rfl, e, _, d, _, _, rfl, T.ec k hk, T.nf k hk _ (by decide +kernel), sD _ _ he, sD _ _ hd, code_in v (V.int m) k hk, ?_⟩
          refine ⟨_, rfl, e, k, v, V.int m, rfl, hk, Ek.same sD, fun u H9 s9 fi => ⟨(by show 2 ≤ sizeLine; decide), fun q1 hq1 => ?_⟩⟩
          have c1 := Same.new (sD.trans s9) hq1 (o := .lst [V.str (code k), u])
          refine ⟨_, rfl, _, rfl, W, _, _, _, rfl, rfl, .of (c1 _ _ w8), atI_nat (code_at k hk), _, rfl, (by show 2 ≤ sizeLine; decide), fun q2 hq2 => ?_⟩
          have c2 := Same.new c1 hq2 (o := .lst [V.str (code k), due])
          have g1 : upd (upd H9 q1 (.lst [V.str (code k), u])) q2 (.lst [V.str (code k), due]) q1 = some (.lst [V.str (code k), u]) := (upd_ne (ne_of_none upd_same hq2)).trans upd_same
          have s99 : Same H9 (upd (upd H9 q1 (.lst [V.str (code k), u])) q2 (.lst [V.str (code k), due])) := Same.new (Same.new (Same.refl _) hq1) hq2
          have like : Like (upd (upd H9 q1 (.lst [V.str (code k), u])) q2 (.lst [V.str (code k), due])) 3 u due := by
            have ov := (odd8.same c2).2
            rcases fi with ⟨rfl, pu, rfl, hu⟩ | ⟨rfl, rfl⟩ | ⟨k7, k8, rfl⟩
            · rcases fD with ⟨_, pd, rfl, hd'⟩ | ⟨z, _⟩ | ⟨z, _⟩
              · exact like_seq2 (.inl ⟨s99 _ _ hu, s99 _ _ (s9 _ _ hd')⟩) ov (like_int _)
              · cases z
              · exact absurd rfl z
            · rcases fD with ⟨z, _⟩ | ⟨_, rfl⟩ | ⟨_, z, _⟩
              · cases z
              · exact like_non
              · exact absurd rfl z
            · rcases fD with ⟨z, _⟩ | ⟨z, _⟩ | ⟨_, _, rfl⟩
              · exact absurd z k7
              · exact absurd z k8
              · exact ov.succ
          refine ⟨V.ref q1, V.ref q2, rfl, like_seq2 (.inr ⟨g1, upd_same⟩) (like_str _) like, fun H10 s10 => ⟨_, rfl, iteF ?_⟩⟩
          have c3 := c2.trans s10
          refine ⟨_, rfl, e, k, v, V.int m, rfl, hk, Ek.same c3, fun q3 hq3 => ?_⟩
          have c4 := Same.new c3 hq3 (o := .lst ((List.range 15).map fun j => V.bl (decide (j = k))))
          have g3 : upd H10 q3 (.lst ((List.range 15).map fun j => V.bl (decide (j = k)))) q3 = some (.lst ((row k).map V.bl)) := by
            rw [row_map]
            exact upd_same
          generalize upd H10 q3 (.lst ((List.range 15).map fun j => V.bl (decide (j = k)))) = H11 at c4 g3
          refine ⟨15, rfl, by decide, by decide, fun D hD => ?_⟩
          refine lc_range (lo := 0) (n := 15) (fun i H' => Same H11 H' ∧ H' D = some (.lst ((List.range i).map fun j => V.bl (decide (j = k))))) ⟨same_new hD, upd_same⟩ ?_ ?_
          · rintro j H12 hj ⟨s12, d12⟩
            rw [Int.zero_add]
            refine ⟨rfl, ?_⟩
            refine ⟨_, rfl, _, rfl, rfl, _, d12, ?_, fun c o z => ?_, ?_⟩
            · rw [List.length_map, List.length_range]
              exact small1000 (by omega)
            · rw [upd_ne (ne_of_none z hD)]
              exact s12 c o z
            · rw [upd_same, List.range_succ, List.map_append]
              have ej : decide (V.int (j : Nat) = V.int (k : Nat)) = decide (j = k) := by
                by_cases z : j = k
                · rw [z, decide_eq_true rfl, decide_eq_true rfl]
                · rw [decide_eq_false z, decide_eq_false (fun y => z (by have := V.int.inj y; omega))]
              rw [ej]
              rfl
          · rintro H12 ⟨s12, d12⟩
            rw [← row_map] at d12
            refine ⟨_, _, .lst (.of (s12 _ _ g3)) (dp_bls (row k)), .lst (.of d12) (dp_bls (row k)), shaped_row k, shaped_row k, _, rfl, ?_⟩
            rw [SeqAt.eqv_refl _ (SeqAt.canLay_of_shaped (shaped_row k))]
            refine iteF ?_
            have c5 := c4.trans s12
            -- the bases
            refine ⟨_, rfl, e, _, d, _, _, _, _, rfl, .own _, T.ei k hk, c5 _ _ he, c5 _ _ hd, T.kS k hk, ?_⟩
            refine ⟨_, rfl, e, _, d, _, _, _, _, rfl, .ty _, T.ei k hk, c5 _ _ he, c5 _ _ hd, T.kV k hk, ?_⟩
            refine ⟨_, rfl, e, _, d, _, _, _, _, rfl, .own _, T.ei k hk, c5 _ _ he, c5 _ _ hd, T.kM k hk, ?_⟩
            refine ⟨_, rfl, e, _, d, _, _, _, _, rfl, .ty _, T.ei k hk, c5 _ _ he, c5 _ _ hd, T.kL k hk, ?_⟩
            refine ⟨(by show 4 ≤ sizeLine; decide), fun q4 hq4 => ?_⟩
            have c6 := Same.new c5 hq4 (o := .lst ((four k).map V.bl))
            have g4 : upd H12 q4 (.lst ((four k).map V.bl)) q4 = some (.lst ((four k).map V.bl)) := upd_same
            refine ⟨_, rfl, _, rfl, _, _, rfl, rfl, _, rfl, _, _, rfl, rfl, _, rfl, _, _, rfl, rfl, _, rfl, _, _, rfl, rfl, (by show 4 ≤ sizeLine; decide), fun q5 hq5 => ?_⟩
            have e13 : decide (((k : Nat) : Int) < 13) = decide (k < 13) := by
              by_cases z : k < 13
              · rw [decide_eq_true z, decide_eq_true (by omega)]
              · rw [decide_eq_false z, decide_eq_false (by omega)]
            have e12 : decide ((12 : Int) < ((k : Nat) : Int)) = decide (12 < k) := by
              by_cases z : 12 < k
              · rw [decide_eq_true z, decide_eq_true (by omega)]
              · rw [decide_eq_false z, decide_eq_false (by omega)]
            have el : [V.bl (decide (((k : Nat) : Int) < 13)), V.bl (decide (((k : Nat) : Int) < 13)), V.bl (decide ((12 : Int) < ((k : Nat) : Int))), V.bl (decide ((12 : Int) < ((k : Nat) : Int)))] = (four k).map V.bl := by
              rw [e13, e12]
              rfl
            have g5 : ∀ o, upd (upd H12 q4 (.lst ((four k).map V.bl))) q5 o q4 = some (.lst ((four k).map V.bl)) := fun o => (upd_ne (ne_of_none g4 hq5)).trans g4
            refine ⟨_, _, .lst (.of (g5 _)) (dp_bls (four k)), .lst (xs := (four k).map V.bl) (.of (upd_same.trans (congrArg (fun l => some (HO.lst l)) el))) (dp_bls (four k)), shaped_four k, shaped_four k, _, rfl, ?_⟩
            rw [SeqAt.eqv_refl _ (SeqAt.canLay_of_shaped (shaped_four k))]
            refine iteF ?_
            exact ⟨_, _, _, _, rfl, Same.new c6 hq5⟩
      · rintro σ H2 ⟨y6, y7, y8, y9, rfl, s2⟩
        exact ⟨_, y6, y7, y8, y9, rfl, s2⟩
    · rintro σ H2 ⟨_, _, _, _, _, rfl, _⟩
      exact q H2
end
end K80

set_option Elab.async false
set_option linter.all false
set_option maxRecDepth 100000
set_option maxHeartbeats 4000000
namespace K80
open PySem PySem.Spec PyProof.Rows L2 Ux
/-! what the top has left, reckoned at once -/
def isB (a : Option (Option Value)) (v : Value) : Bool := decide (a = some (some v))
def isN (a : Option (Option Value)) : Bool := decide (a = some none)
def chC (K : PySem.W.Frag) (ve : Bool) (C f : Addr) : Bool :=
  PySem.W.excInitIn K C (if ve = true then veB else leB) (if ve = true then "ValueError.__new__" else "LookupError.__new__") && (PySem.W.excOver K C (if ve = true then veB else leB) && (PySem.W.hasDictIn K C &&
  (isB (PySem.W.findIn K (.ref C) "__setattr__") (.builtin "object.__setattr__") && (PySem.W.keepIn K (.ref C) && (isB (PySem.W.findIn K (.ref C) "__getattribute__") (.builtin "BaseException.__getattribute__") &&
  (isN (PySem.W.findIn K (.ref C) "__getattr__") && (decide (PySem.W.subIn K (.ref C) (.type "BaseException") = some true) && ((PySem.W.clsIn K C).isSome && (isB (PySem.W.findIn K (.ref C) "__class__") (.builtin "object.__class__") &&
  (decide (PySem.W.mroIn K C (.type "object") = some true) && (isB (PySem.W.findIn K (.ref C) "__init__") (.ref f) && (decide (PySem.W.typeIn K (.ref f) = some (.type "function")) && fnames.all fun x => isN (PySem.W.findIn K (.ref C) x)))))))))))))
def chK (K : PySem.W.Frag) (CS CM : Addr) (Cl : List Addr) (k : Nat) : Bool :=
  (List.range 15).all (fun j => decide (PySem.W.kitOne K (.ref (Cl.getD k 0)) (.ref (Cl.getD j 0)) = some (decide (j = k)))) &&
  (decide (PySem.W.kitOne K (.ref (Cl.getD k 0)) (.ref CS) = some (decide (k < 13))) && (decide (PySem.W.kitOne K (.ref (Cl.getD k 0)) (.type "ValueError") = some (decide (k < 13))) &&
  (decide (PySem.W.kitOne K (.ref (Cl.getD k 0)) (.ref CM) = some (decide (12 < k))) && (decide (PySem.W.kitOne K (.ref (Cl.getD k 0)) (.type "LookupError") = some (decide (12 < k))) && isB (PySem.W.nsIn K mainGlobals (code k)) (.ref (Cl.getD k 0))))))
def chB (K : PySem.W.Frag) (C : Addr) (ini : String) : Bool :=
  isB (PySem.W.specialIn K (.ref C) "__getattribute__") (.builtin "type.__getattribute__") && (PySem.W.readsIn K C (.type "type") && PySem.W.handedIn (.builtin ini))
def chG (K : PySem.W.Frag) : Bool := isB (PySem.W.specialIn K (.builtin "object.__class__") "__get__") (.builtin "getset_descriptor.__get__") && decide (PySem.W.takesIn K (.builtin "object.__class__") = some true)
theorem isB_of {a : Option (Option Value)} {v : Value} (h : isB a v = true) : a = some (some v) := of_decide_eq_true h
theorem isN_of {a : Option (Option Value)} (h : isN a = true) : a = some none := of_decide_eq_true h
def chAll (K : PySem.W.Frag) (CS CM : Addr) (Cl Fl : List Addr) : Bool := (List.range 15).all (fun k => chC K (decide (k < 13)) (Cl.getD k 0) (Fl.getD k 0) && chK K CS CM Cl k)
section
variable {K : PySem.W.Frag} {CS CM : Addr} {Cl Fl : List Addr}
theorem at15 {p : Nat → Bool} (h : (List.range 15).all p = true) (k : Nat) (hk : k < 15) : p k = true := List.all_eq_true.mp h k (List.mem_range.mpr hk)
theorem ec_of {ve : Bool} {C f : Addr} (h : chC K ve C f = true) : Ec K (if ve = true then "ValueError" else "LookupError") (if ve = true then "ValueError.__new__" else "LookupError.__new__") (if ve = true then "ValueError.__init__" else "LookupError.__init__") (if ve = true then veB else leB) C := by
  simp only [chC, Bool.and_eq_true] at h
  obtain ⟨h1, h2, h3, h4, h5, h6, h7, h8, _⟩ := h
  refine ⟨?_, ?_, h1, h2, h3, isB_of h4, h5, isB_of h6, isN_of h7, of_decide_eq_true h8⟩
  · cases ve with
    | true => exact F.excBase_ValueError
    | false => exact F.excBase_LookupError
  · cases ve with
    | true => exact F.store_ValueError
    | false => exact F.store_LookupError
theorem et_of {mg : Str → Option Value} (ha : chAll K CS CM Cl Fl = true) (hg : chG K = true) (gl : ∀ x v, PySem.W.nsIn K mainGlobals x = some (some v) → mg x = some v) (gS : mg "SlopeError" = some (.ref CS)) (gM : mg "Missing" = some (.ref CM)) :
    ET K mg (fun k => Cl.getD k 0) CS CM ∧ EM K (fun k => Cl.getD k 0) (fun k => Fl.getD k 0) := by
  have hk : ∀ k, k < 15 → chC K (decide (k < 13)) (Cl.getD k 0) (Fl.getD k 0) = true ∧ chK K CS CM Cl k = true := fun k h => Bool.and_eq_true_iff.mp (at15 ha k h)
  obtain ⟨g1, g2⟩ := Bool.and_eq_true_iff.mp hg
  have eV : ∀ k, k < 13 → EcI K "ValueError.__init__" (Cl.getD k 0) := fun k h => by
    have z := ec_of (hk k (by omega)).1
    rw [decide_eq_true h] at z
    exact ⟨_, _, _, z⟩
  have eL : ∀ k, 12 < k → k < 15 → EcI K "LookupError.__init__" (Cl.getD k 0) := fun k h h2 => by
    have z := ec_of (hk k h2).1
    rw [decide_eq_false (by omega)] at z
    exact ⟨_, _, _, z⟩
  have ec : ∀ k, k < 15 → EcA K (Cl.getD k 0) := fun k h => by
    by_cases c : k < 13
    · exact ⟨_, eV k c⟩
    · exact ⟨_, eL k (by omega) h⟩
  refine ⟨⟨ec, fun k h => ?_, fun k h f hf => ?_, fun k h => ?_, gS, gM, fun k j h hj => ?_, fun k h => ?_, fun k h => ?_, fun k h => ?_, fun k h => ?_⟩, ⟨eV, eL, fun k h => ?_, fun k h => ?_⟩⟩
  · have z := (hk k h).1
    simp only [chC, Bool.and_eq_true] at z
    obtain ⟨h1, h2, h3, h4, h5, h6, h7, h8, h9, h10, h11, h12, h13, h14⟩ := z
    exact ⟨h9, isB_of h6, isN_of h7, of_decide_eq_true h8, isB_of h10, isB_of g1, of_decide_eq_true g2, of_decide_eq_true h11⟩
  · have z := (hk k h).1
    simp only [chC, Bool.and_eq_true] at z
    obtain ⟨h1, h2, h3, h4, h5, h6, h7, h8, h9, h10, h11, h12, h13, h14⟩ := z
    exact isN_of (List.all_eq_true.mp h14 f hf)
  · have z := (hk k h).2
    simp only [chK, Bool.and_eq_true] at z
    exact gl _ _ (isB_of z.2.2.2.2.2)
  · have z := (hk k h).2
    simp only [chK, Bool.and_eq_true] at z
    exact of_decide_eq_true (at15 z.1 j hj)
  · have z := (hk k h).2
    simp only [chK, Bool.and_eq_true] at z
    exact of_decide_eq_true z.2.1
  · have z := (hk k h).2
    simp only [chK, Bool.and_eq_true] at z
    exact of_decide_eq_true z.2.2.1
  · have z := (hk k h).2
    simp only [chK, Bool.and_eq_true] at z
    exact of_decide_eq_true z.2.2.2.1
  · have z := (hk k h).2
    simp only [chK, Bool.and_eq_true] at z
    exact of_decide_eq_true z.2.2.2.2.1
  · have z := (hk k h).1
    simp only [chC, Bool.and_eq_true] at z
    obtain ⟨h1, h2, h3, h4, h5, h6, h7, h8, h9, h10, h11, h12, h13, h14⟩ := z
    exact isB_of h12
  · have z := (hk k h).1
    simp only [chC, Bool.and_eq_true] at z
    obtain ⟨h1, h2, h3, h4, h5, h6, h7, h8, h9, h10, h11, h12, h13, h14⟩ := z
    exact of_decide_eq_true h13
theorem bs_of {mg : Str → Option Value} {x : Str} {ini : String} {C : Addr} (g : mg x = some (.ref C)) (h : chB K C ini = true) (v : PySem.W.findCls K (.ref C) (.type "type") "__init__" = some (.val (.builtin ini))) : Bs K mg x ini C := by
  obtain ⟨h1, h2⟩ := Bool.and_eq_true_iff.mp h
  obtain ⟨h2, h3⟩ := Bool.and_eq_true_iff.mp h2
  exact ⟨g, isB_of h1, h2, v, h3⟩
end
theorem same_zero {P : Program} {w : World} {K : PySem.W.Frag} {mg : Str → Option Value} {base : Heap} {f : Addr} {fd : FuncData} : FnOk P w K mg base CX0 0 f fd ["_law_found", "_law_due"] (spSame 0) :=
  ⟨fun _ _ _ _ h => by obtain ⟨_, _, rfl, z, _⟩ := h; exact z.elim, fun _ _ _ _ _ _ _ _ _ _ _ _ _ h => by obtain ⟨_, _, _, z, _⟩ := h; exact z.elim⟩
theorem all_mk {l : PySem.W.OpenLaw} {w : World} {K : PySem.W.Frag} {h : Heap} {mg : Str → Option Value} {fa CS CM C0 f0 C1 f1 C2 f2 C3 f3 C4 f4 C5 f5 C6 f6 C7 f7 C8 f8 C9 f9 C10 f10 C11 f11 C12 f12 C13 f13 C14 f14 g0 g1 g2 g3 g4 g5 g6 g7 g8 g9 g10 : Addr} (X : K.In h) (G : h.Ns mainGlobals mg) (hfa : mg "law" = some (.ref fa))
    {od0 an0 : Option Addr} {sl0 : Array (Option Value)} {oc0 kV0 dc0 pm0 cd0 ct0 : Value}
    {od1 an1 : Option Addr} {sl1 : Array (Option Value)} {oc1 kV1 dc1 pm1 cd1 ct1 : Value}
    {od2 an2 : Option Addr} {sl2 : Array (Option Value)} {oc2 kV2 dc2 pm2 cd2 ct2 : Value}
    {od3 an3 : Option Addr} {sl3 : Array (Option Value)} {oc3 kV3 dc3 pm3 cd3 ct3 : Value}
    {od4 an4 : Option Addr} {sl4 : Array (Option Value)} {oc4 kV4 dc4 pm4 cd4 ct4 : Value}
    {od5 an5 : Option Addr} {sl5 : Array (Option Value)} {oc5 kV5 dc5 pm5 cd5 ct5 : Value}
    {od6 an6 : Option Addr} {sl6 : Array (Option Value)} {oc6 kV6 dc6 pm6 cd6 ct6 : Value}
    {od7 an7 : Option Addr} {sl7 : Array (Option Value)} {oc7 kV7 dc7 pm7 cd7 ct7 : Value}
    {od8 an8 : Option Addr} {sl8 : Array (Option Value)} {oc8 kV8 dc8 pm8 cd8 ct8 : Value}
    {od9 an9 : Option Addr} {sl9 : Array (Option Value)} {oc9 kV9 dc9 pm9 cd9 ct9 : Value}
    {od10 an10 : Option Addr} {sl10 : Array (Option Value)} {oc10 kV10 dc10 pm10 cd10 ct10 : Value}
    {od11 an11 : Option Addr} {sl11 : Array (Option Value)} {oc11 kV11 dc11 pm11 cd11 ct11 : Value}
    {od12 an12 : Option Addr} {sl12 : Array (Option Value)} {oc12 kV12 dc12 pm12 cd12 ct12 : Value}
    {od13 an13 : Option Addr} {sl13 : Array (Option Value)} {oc13 kV13 dc13 pm13 cd13 ct13 : Value}
    {od14 an14 : Option Addr} {sl14 : Array (Option Value)} {oc14 kV14 dc14 pm14 cd14 ct14 : Value}
    {odx0 anx0 : Option Addr} {slx0 : Array (Option Value)} {ocx0 kVx0 dcx0 pmx0 cdx0 ctx0 : Value}
    {odx1 anx1 : Option Addr} {slx1 : Array (Option Value)} {ocx1 kVx1 dcx1 pmx1 cdx1 ctx1 : Value}
    {odx2 anx2 : Option Addr} {slx2 : Array (Option Value)} {ocx2 kVx2 dcx2 pmx2 cdx2 ctx2 : Value}
    {odx3 anx3 : Option Addr} {slx3 : Array (Option Value)} {ocx3 kVx3 dcx3 pmx3 cdx3 ctx3 : Value}
    {odx4 anx4 : Option Addr} {slx4 : Array (Option Value)} {ocx4 kVx4 dcx4 pmx4 cdx4 ctx4 : Value}
    {odx5 anx5 : Option Addr} {slx5 : Array (Option Value)} {ocx5 kVx5 dcx5 pmx5 cdx5 ctx5 : Value}
    {odx6 anx6 : Option Addr} {slx6 : Array (Option Value)} {ocx6 kVx6 dcx6 pmx6 cdx6 ctx6 : Value}
    {odx7 anx7 : Option Addr} {slx7 : Array (Option Value)} {ocx7 kVx7 dcx7 pmx7 cdx7 ctx7 : Value}
    {odx8 anx8 : Option Addr} {slx8 : Array (Option Value)} {ocx8 kVx8 dcx8 pmx8 cdx8 ctx8 : Value}
    {odx9 anx9 : Option Addr} {slx9 : Array (Option Value)} {ocx9 kVx9 dcx9 pmx9 cdx9 ctx9 : Value}
    {odx10 anx10 : Option Addr} {slx10 : Array (Option Value)} {ocx10 kVx10 dcx10 pmx10 cdx10 ctx10 : Value}
    (aS : PySem.W.nsIn K mainGlobals "SlopeError" = some (some (.ref CS))) (aM : PySem.W.nsIn K mainGlobals "Missing" = some (some (.ref CM)))
    (aC0 : PySem.W.nsIn K mainGlobals "InvalidName" = some (some (.ref C0))) (iC0 : PySem.W.findIn K (.ref C0) "__init__" = some (some (.ref f0)))
    (l0 : K.lookup f0 = some ⟨oc0, od0, .func (PySem.W.fnOf "__init__" "InvalidName.__init__" (defArgs sI_InvalidName) (defBody sI_InvalidName) (defScope sI_InvalidName) .none kV0 dc0 pm0 an0 cd0 ct0), sl0⟩) (c0 : PySem.W.codeIn K cd0 "InvalidName.__init__" = true) (k0 : PySem.W.keepIn K (.ref f0) = true)
    (aC1 : PySem.W.nsIn K mainGlobals "InvalidNumber" = some (some (.ref C1))) (iC1 : PySem.W.findIn K (.ref C1) "__init__" = some (some (.ref f1)))
    (l1 : K.lookup f1 = some ⟨oc1, od1, .func (PySem.W.fnOf "__init__" "InvalidNumber.__init__" (defArgs sI_InvalidNumber) (defBody sI_InvalidNumber) (defScope sI_InvalidNumber) .none kV1 dc1 pm1 an1 cd1 ct1), sl1⟩) (c1 : PySem.W.codeIn K cd1 "InvalidNumber.__init__" = true) (k1 : PySem.W.keepIn K (.ref f1) = true)
    (aC2 : PySem.W.nsIn K mainGlobals "InvalidFact" = some (some (.ref C2))) (iC2 : PySem.W.findIn K (.ref C2) "__init__" = some (some (.ref f2)))
    (l2 : K.lookup f2 = some ⟨oc2, od2, .func (PySem.W.fnOf "__init__" "InvalidFact.__init__" (defArgs sI_InvalidFact) (defBody sI_InvalidFact) (defScope sI_InvalidFact) .none kV2 dc2 pm2 an2 cd2 ct2), sl2⟩) (c2 : PySem.W.codeIn K cd2 "InvalidFact.__init__" = true) (k2 : PySem.W.keepIn K (.ref f2) = true)
    (aC3 : PySem.W.nsIn K mainGlobals "InvalidText" = some (some (.ref C3))) (iC3 : PySem.W.findIn K (.ref C3) "__init__" = some (some (.ref f3)))
    (l3 : K.lookup f3 = some ⟨oc3, od3, .func (PySem.W.fnOf "__init__" "InvalidText.__init__" (defArgs sI_InvalidText) (defBody sI_InvalidText) (defScope sI_InvalidText) .none kV3 dc3 pm3 an3 cd3 ct3), sl3⟩) (c3 : PySem.W.codeIn K cd3 "InvalidText.__init__" = true) (k3 : PySem.W.keepIn K (.ref f3) = true)
    (aC4 : PySem.W.nsIn K mainGlobals "WrongKind" = some (some (.ref C4))) (iC4 : PySem.W.findIn K (.ref C4) "__init__" = some (some (.ref f4)))
    (l4 : K.lookup f4 = some ⟨oc4, od4, .func (PySem.W.fnOf "__init__" "WrongKind.__init__" (defArgs sI_WrongKind) (defBody sI_WrongKind) (defScope sI_WrongKind) .none kV4 dc4 pm4 an4 cd4 ct4), sl4⟩) (c4 : PySem.W.codeIn K cd4 "WrongKind.__init__" = true) (k4 : PySem.W.keepIn K (.ref f4) = true)
    (aC5 : PySem.W.nsIn K mainGlobals "InvalidBlank" = some (some (.ref C5))) (iC5 : PySem.W.findIn K (.ref C5) "__init__" = some (some (.ref f5)))
    (l5 : K.lookup f5 = some ⟨oc5, od5, .func (PySem.W.fnOf "__init__" "InvalidBlank.__init__" (defArgs sI_InvalidBlank) (defBody sI_InvalidBlank) (defScope sI_InvalidBlank) .none kV5 dc5 pm5 an5 cd5 ct5), sl5⟩) (c5 : PySem.W.codeIn K cd5 "InvalidBlank.__init__" = true) (k5 : PySem.W.keepIn K (.ref f5) = true)
    (aC6 : PySem.W.nsIn K mainGlobals "NameTaken" = some (some (.ref C6))) (iC6 : PySem.W.findIn K (.ref C6) "__init__" = some (some (.ref f6)))
    (l6 : K.lookup f6 = some ⟨oc6, od6, .func (PySem.W.fnOf "__init__" "NameTaken.__init__" (defArgs sI_NameTaken) (defBody sI_NameTaken) (defScope sI_NameTaken) .none kV6 dc6 pm6 an6 cd6 ct6), sl6⟩) (c6 : PySem.W.codeIn K cd6 "NameTaken.__init__" = true) (k6 : PySem.W.keepIn K (.ref f6) = true)
    (aC7 : PySem.W.nsIn K mainGlobals "TooLarge" = some (some (.ref C7))) (iC7 : PySem.W.findIn K (.ref C7) "__init__" = some (some (.ref f7)))
    (l7 : K.lookup f7 = some ⟨oc7, od7, .func (PySem.W.fnOf "__init__" "TooLarge.__init__" (defArgs sI_TooLarge) (defBody sI_TooLarge) (defScope sI_TooLarge) .none kV7 dc7 pm7 an7 cd7 ct7), sl7⟩) (c7 : PySem.W.codeIn K cd7 "TooLarge.__init__" = true) (k7 : PySem.W.keepIn K (.ref f7) = true)
    (aC8 : PySem.W.nsIn K mainGlobals "UnlikeWorlds" = some (some (.ref C8))) (iC8 : PySem.W.findIn K (.ref C8) "__init__" = some (some (.ref f8)))
    (l8 : K.lookup f8 = some ⟨oc8, od8, .func (PySem.W.fnOf "__init__" "UnlikeWorlds.__init__" (defArgs sI_UnlikeWorlds) (defBody sI_UnlikeWorlds) (defScope sI_UnlikeWorlds) .none kV8 dc8 pm8 an8 cd8 ct8), sl8⟩) (c8 : PySem.W.codeIn K cd8 "UnlikeWorlds.__init__" = true) (k8 : PySem.W.keepIn K (.ref f8) = true)
    (aC9 : PySem.W.nsIn K mainGlobals "InvalidWitness" = some (some (.ref C9))) (iC9 : PySem.W.findIn K (.ref C9) "__init__" = some (some (.ref f9)))
    (l9 : K.lookup f9 = some ⟨oc9, od9, .func (PySem.W.fnOf "__init__" "InvalidWitness.__init__" (defArgs sI_InvalidWitness) (defBody sI_InvalidWitness) (defScope sI_InvalidWitness) .none kV9 dc9 pm9 an9 cd9 ct9), sl9⟩) (c9 : PySem.W.codeIn K cd9 "InvalidWitness.__init__" = true) (k9 : PySem.W.keepIn K (.ref f9) = true)
    (aC10 : PySem.W.nsIn K mainGlobals "InvalidRow" = some (some (.ref C10))) (iC10 : PySem.W.findIn K (.ref C10) "__init__" = some (some (.ref f10)))
    (l10 : K.lookup f10 = some ⟨oc10, od10, .func (PySem.W.fnOf "__init__" "InvalidRow.__init__" (defArgs sI_InvalidRow) (defBody sI_InvalidRow) (defScope sI_InvalidRow) .none kV10 dc10 pm10 an10 cd10 ct10), sl10⟩) (c10 : PySem.W.codeIn K cd10 "InvalidRow.__init__" = true) (k10 : PySem.W.keepIn K (.ref f10) = true)
    (aC11 : PySem.W.nsIn K mainGlobals "NotNow" = some (some (.ref C11))) (iC11 : PySem.W.findIn K (.ref C11) "__init__" = some (some (.ref f11)))
    (l11 : K.lookup f11 = some ⟨oc11, od11, .func (PySem.W.fnOf "__init__" "NotNow.__init__" (defArgs sI_NotNow) (defBody sI_NotNow) (defScope sI_NotNow) .none kV11 dc11 pm11 an11 cd11 ct11), sl11⟩) (c11 : PySem.W.codeIn K cd11 "NotNow.__init__" = true) (k11 : PySem.W.keepIn K (.ref f11) = true)
    (aC12 : PySem.W.nsIn K mainGlobals "InvalidPage" = some (some (.ref C12))) (iC12 : PySem.W.findIn K (.ref C12) "__init__" = some (some (.ref f12)))
    (l12 : K.lookup f12 = some ⟨oc12, od12, .func (PySem.W.fnOf "__init__" "InvalidPage.__init__" (defArgs sI_InvalidPage) (defBody sI_InvalidPage) (defScope sI_InvalidPage) .none kV12 dc12 pm12 an12 cd12 ct12), sl12⟩) (c12 : PySem.W.codeIn K cd12 "InvalidPage.__init__" = true) (k12 : PySem.W.keepIn K (.ref f12) = true)
    (aC13 : PySem.W.nsIn K mainGlobals "UnknownName" = some (some (.ref C13))) (iC13 : PySem.W.findIn K (.ref C13) "__init__" = some (some (.ref f13)))
    (l13 : K.lookup f13 = some ⟨oc13, od13, .func (PySem.W.fnOf "__init__" "UnknownName.__init__" (defArgs sI_UnknownName) (defBody sI_UnknownName) (defScope sI_UnknownName) .none kV13 dc13 pm13 an13 cd13 ct13), sl13⟩) (c13 : PySem.W.codeIn K cd13 "UnknownName.__init__" = true) (k13 : PySem.W.keepIn K (.ref f13) = true)
    (aC14 : PySem.W.nsIn K mainGlobals "NothingLeft" = some (some (.ref C14))) (iC14 : PySem.W.findIn K (.ref C14) "__init__" = some (some (.ref f14)))
    (l14 : K.lookup f14 = some ⟨oc14, od14, .func (PySem.W.fnOf "__init__" "NothingLeft.__init__" (defArgs sI_NothingLeft) (defBody sI_NothingLeft) (defScope sI_NothingLeft) .none kV14 dc14 pm14 an14 cd14 ct14), sl14⟩) (c14 : PySem.W.codeIn K cd14 "NothingLeft.__init__" = true) (k14 : PySem.W.keepIn K (.ref f14) = true)
    (ax0 : PySem.W.nsIn K mainGlobals "shown" = some (some (.ref g0)))
    (lx0 : K.lookup g0 = some ⟨ocx0, odx0, .func (PySem.W.fnOf "shown" "shown" (defArgs sShown) (defBody sShown) (defScope sShown) .none kVx0 dcx0 pmx0 anx0 cdx0 ctx0), slx0⟩) (cx0 : PySem.W.codeIn K cdx0 "shown" = true) (kx0 : PySem.W.keepIn K (.ref g0) = true)
    (ax1 : PySem.W.nsIn K mainGlobals "_law_bag" = some (some (.ref g1)))
    (lx1 : K.lookup g1 = some ⟨ocx1, odx1, .func (PySem.W.fnOf "_law_bag" "_law_bag" (defArgs sBag) (defBody sBag) (defScope sBag) .none kVx1 dcx1 pmx1 anx1 cdx1 ctx1), slx1⟩) (cx1 : PySem.W.codeIn K cdx1 "_law_bag" = true) (kx1 : PySem.W.keepIn K (.ref g1) = true)
    (ax2 : PySem.W.nsIn K mainGlobals "_law_pull" = some (some (.ref g2)))
    (lx2 : K.lookup g2 = some ⟨ocx2, odx2, .func (PySem.W.fnOf "_law_pull" "_law_pull" (defArgs sPull) (defBody sPull) (defScope sPull) .none kVx2 dcx2 pmx2 anx2 cdx2 ctx2), slx2⟩) (cx2 : PySem.W.codeIn K cdx2 "_law_pull" = true) (kx2 : PySem.W.keepIn K (.ref g2) = true)
    (ax3 : PySem.W.nsIn K mainGlobals "_law_of" = some (some (.ref g3)))
    (lx3 : K.lookup g3 = some ⟨ocx3, odx3, .func (PySem.W.fnOf "_law_of" "_law_of" (defArgs sOf) (defBody sOf) (defScope sOf) .none kVx3 dcx3 pmx3 anx3 cdx3 ctx3), slx3⟩) (cx3 : PySem.W.codeIn K cdx3 "_law_of" = true) (kx3 : PySem.W.keepIn K (.ref g3) = true)
    (ax4 : PySem.W.nsIn K mainGlobals "_law_same" = some (some (.ref g4)))
    (lx4 : K.lookup g4 = some ⟨ocx4, odx4, .func (PySem.W.fnOf "_law_same" "_law_same" (defArgs sSame) (defBody sSame) (defScope sSame) .none kVx4 dcx4 pmx4 anx4 cdx4 ctx4), slx4⟩) (cx4 : PySem.W.codeIn K cdx4 "_law_same" = true) (kx4 : PySem.W.keepIn K (.ref g4) = true)
    (ax5 : PySem.W.nsIn K mainGlobals "_law_other_field" = some (some (.ref g5)))
    (lx5 : K.lookup g5 = some ⟨ocx5, odx5, .func (PySem.W.fnOf "_law_other_field" "_law_other_field" (defArgs sOther) (defBody sOther) (defScope sOther) .none kVx5 dcx5 pmx5 anx5 cdx5 ctx5), slx5⟩) (cx5 : PySem.W.codeIn K cdx5 "_law_other_field" = true) (kx5 : PySem.W.keepIn K (.ref g5) = true)
    (ax6 : PySem.W.nsIn K mainGlobals "_law_field" = some (some (.ref g6)))
    (lx6 : K.lookup g6 = some ⟨ocx6, odx6, .func (PySem.W.fnOf "_law_field" "_law_field" (defArgs sField) (defBody sField) (defScope sField) .none kVx6 dcx6 pmx6 anx6 cdx6 ctx6), slx6⟩) (cx6 : PySem.W.codeIn K cdx6 "_law_field" = true) (kx6 : PySem.W.keepIn K (.ref g6) = true)
    (ax7 : PySem.W.nsIn K mainGlobals "_law_made_errors" = some (some (.ref g7)))
    (lx7 : K.lookup g7 = some ⟨ocx7, odx7, .func (PySem.W.fnOf "_law_made_errors" "_law_made_errors" (defArgs sMade) (defBody sMade) (defScope sMade) .none kVx7 dcx7 pmx7 anx7 cdx7 ctx7), slx7⟩) (cx7 : PySem.W.codeIn K cdx7 "_law_made_errors" = true) (kx7 : PySem.W.keepIn K (.ref g7) = true)
    (ax8 : PySem.W.nsIn K mainGlobals "_law_plain_errors" = some (some (.ref g8)))
    (lx8 : K.lookup g8 = some ⟨ocx8, odx8, .func (PySem.W.fnOf "_law_plain_errors" "_law_plain_errors" (defArgs sPlain) (defBody sPlain) (defScope sPlain) .none kVx8 dcx8 pmx8 anx8 cdx8 ctx8), slx8⟩) (cx8 : PySem.W.codeIn K cdx8 "_law_plain_errors" = true) (kx8 : PySem.W.keepIn K (.ref g8) = true)
    (ax9 : PySem.W.nsIn K mainGlobals "_law_sorts" = some (some (.ref g9)))
    (lx9 : K.lookup g9 = some ⟨ocx9, odx9, .func (PySem.W.fnOf "_law_sorts" "_law_sorts" (defArgs sSorts) (defBody sSorts) (defScope sSorts) .none kVx9 dcx9 pmx9 anx9 cdx9 ctx9), slx9⟩) (cx9 : PySem.W.codeIn K cdx9 "_law_sorts" = true) (kx9 : PySem.W.keepIn K (.ref g9) = true)
    (ax10 : PySem.W.nsIn K mainGlobals "law" = some (some (.ref g10)))
    (lx10 : K.lookup g10 = some ⟨ocx10, odx10, .func (PySem.W.fnOf "law" "law" (defArgs sLaw) (defBody sLaw) (defScope sLaw) .none kVx10 dcx10 pmx10 anx10 cdx10 ctx10), slx10⟩) (cx10 : PySem.W.codeIn K cdx10 "law" = true) (kx10 : PySem.W.keepIn K (.ref g10) = true)
    (z_isin : PySem.W.nsIn K mainGlobals "isinstance" = some none)
    (z_tstr : PySem.W.nsIn K mainGlobals "str" = some none)
    (z_tint : PySem.W.nsIn K mainGlobals "int" = some none)
    (z_tlist : PySem.W.nsIn K mainGlobals "list" = some none)
    (z_ttuple : PySem.W.nsIn K mainGlobals "tuple" = some none)
    (z_tbool : PySem.W.nsIn K mainGlobals "bool" = some none)
    (z_fabs : PySem.W.nsIn K mainGlobals "abs" = some none)
    (z_frepr : PySem.W.nsIn K mainGlobals "repr" = some none)
    (z_flen : PySem.W.nsIn K mainGlobals "len" = some none)
    (z_frange : PySem.W.nsIn K mainGlobals "range" = some none)
    (z_fzip : PySem.W.nsIn K mainGlobals "zip" = some none)
    (z_fall : PySem.W.nsIn K mainGlobals "all" = some none)
    (z_tve : PySem.W.nsIn K mainGlobals "ValueError" = some none)
    (z_tle : PySem.W.nsIn K mainGlobals "LookupError" = some none)
    (vS : PySem.W.findCls K (.ref CS) (.type "type") "__init__" = some (.val (.builtin "ValueError.__init__"))) (vM : PySem.W.findCls K (.ref CM) (.type "type") "__init__" = some (.val (.builtin "LookupError.__init__")))
    (hA : chAll K CS CM [C0, C1, C2, C3, C4, C5, C6, C7, C8, C9, C10, C11, C12, C13, C14] [f0, f1, f2, f3, f4, f5, f6, f7, f8, f9, f10, f11, f12, f13, f14] = true) (hG : chG K = true) (hS : chB K CS "ValueError.__init__" = true) (hM : chB K CM "LookupError.__init__" = true) :
    ∃ fd : FuncData, (∀ (s : Shared) (v : Value), BindsTo s fd ⟨[v], []⟩ [("_law_script", v)]) ∧ ∀ base : Heap, K.In base → base.Ns mainGlobals mg → FnOk l.prog w K mg base CX0 5 fa fd ["_law_script"] (spLaw K) := by
  have e := hfa.symm.trans (PySem.W.mg_of X G ax10)
  cases e
  have gl : ∀ x v, PySem.W.nsIn K mainGlobals x = some (some v) → mg x = some v := fun x v z => PySem.W.mg_of X G z
  have B : Bn mg := ⟨PySem.W.mg_none_of X G z_isin, PySem.W.mg_none_of X G z_tstr, PySem.W.mg_none_of X G z_tint, PySem.W.mg_none_of X G z_tlist, PySem.W.mg_none_of X G z_ttuple, PySem.W.mg_none_of X G z_tbool, PySem.W.mg_none_of X G z_fabs, PySem.W.mg_none_of X G z_frepr, PySem.W.mg_none_of X G z_flen, PySem.W.mg_none_of X G z_frange, PySem.W.mg_none_of X G z_fzip, PySem.W.mg_none_of X G z_fall, PySem.W.mg_none_of X G z_tve, PySem.W.mg_none_of X G z_tle⟩
  obtain ⟨ET, EM⟩ := et_of (Cl := [C0, C1, C2, C3, C4, C5, C6, C7, C8, C9, C10, C11, C12, C13, C14]) (Fl := [f0, f1, f2, f3, f4, f5, f6, f7, f8, f9, f10, f11, f12, f13, f14]) hA hG gl (gl _ _ aS) (gl _ _ aM)
  have WS := bs_of (gl _ _ aS) hS vS
  have WM := bs_of (gl _ _ aM) hM vM
  have F0 := fun_mk (st := sI_InvalidName) l0 c0 k0
  have F1 := fun_mk (st := sI_InvalidNumber) l1 c1 k1
  have F2 := fun_mk (st := sI_InvalidFact) l2 c2 k2
  have F3 := fun_mk (st := sI_InvalidText) l3 c3 k3
  have F4 := fun_mk (st := sI_WrongKind) l4 c4 k4
  have F5 := fun_mk (st := sI_InvalidBlank) l5 c5 k5
  have F6 := fun_mk (st := sI_NameTaken) l6 c6 k6
  have F7 := fun_mk (st := sI_TooLarge) l7 c7 k7
  have F8 := fun_mk (st := sI_UnlikeWorlds) l8 c8 k8
  have F9 := fun_mk (st := sI_InvalidWitness) l9 c9 k9
  have F10 := fun_mk (st := sI_InvalidRow) l10 c10 k10
  have F11 := fun_mk (st := sI_NotNow) l11 c11 k11
  have F12 := fun_mk (st := sI_InvalidPage) l12 c12 k12
  have F13 := fun_mk (st := sI_UnknownName) l13 c13 k13
  have F14 := fun_mk (st := sI_NothingLeft) l14 c14 k14
  have Fx0 := fun_mk (st := sShown) lx0 cx0 kx0
  have Fx1 := fun_mk (st := sBag) lx1 cx1 kx1
  have Fx2 := fun_mk (st := sPull) lx2 cx2 kx2
  have Fx3 := fun_mk (st := sOf) lx3 cx3 kx3
  have Fx4 := fun_mk (st := sSame) lx4 cx4 kx4
  have Fx5 := fun_mk (st := sOther) lx5 cx5 kx5
  have Fx6 := fun_mk (st := sField) lx6 cx6 kx6
  have Fx7 := fun_mk (st := sMade) lx7 cx7 kx7
  have Fx8 := fun_mk (st := sPlain) lx8 cx8 kx8
  have Fx9 := fun_mk (st := sSorts) lx9 cx9 kx9
  have Fx10 := fun_mk (st := sLaw) lx10 cx10 kx10
  have AI : AllI K (fun k => [f0, f1, f2, f3, f4, f5, f6, f7, f8, f9, f10, f11, f12, f13, f14].getD k 0) (fun k => [PySem.W.fnOf "__init__" "InvalidName.__init__" (defArgs sI_InvalidName) (defBody sI_InvalidName) (defScope sI_InvalidName) .none kV0 dc0 pm0 an0 cd0 ct0, PySem.W.fnOf "__init__" "InvalidNumber.__init__" (defArgs sI_InvalidNumber) (defBody sI_InvalidNumber) (defScope sI_InvalidNumber) .none kV1 dc1 pm1 an1 cd1 ct1, PySem.W.fnOf "__init__" "InvalidFact.__init__" (defArgs sI_InvalidFact) (defBody sI_InvalidFact) (defScope sI_InvalidFact) .none kV2 dc2 pm2 an2 cd2 ct2, PySem.W.fnOf "__init__" "InvalidText.__init__" (defArgs sI_InvalidText) (defBody sI_InvalidText) (defScope sI_InvalidText) .none kV3 dc3 pm3 an3 cd3 ct3, PySem.W.fnOf "__init__" "WrongKind.__init__" (defArgs sI_WrongKind) (defBody sI_WrongKind) (defScope sI_WrongKind) .none kV4 dc4 pm4 an4 cd4 ct4, PySem.W.fnOf "__init__" "InvalidBlank.__init__" (defArgs sI_InvalidBlank) (defBody sI_InvalidBlank) (defScope sI_InvalidBlank) .none kV5 dc5 pm5 an5 cd5 ct5, PySem.W.fnOf "__init__" "NameTaken.__init__" (defArgs sI_NameTaken) (defBody sI_NameTaken) (defScope sI_NameTaken) .none kV6 dc6 pm6 an6 cd6 ct6, PySem.W.fnOf "__init__" "TooLarge.__init__" (defArgs sI_TooLarge) (defBody sI_TooLarge) (defScope sI_TooLarge) .none kV7 dc7 pm7 an7 cd7 ct7, PySem.W.fnOf "__init__" "UnlikeWorlds.__init__" (defArgs sI_UnlikeWorlds) (defBody sI_UnlikeWorlds) (defScope sI_UnlikeWorlds) .none kV8 dc8 pm8 an8 cd8 ct8, PySem.W.fnOf "__init__" "InvalidWitness.__init__" (defArgs sI_InvalidWitness) (defBody sI_InvalidWitness) (defScope sI_InvalidWitness) .none kV9 dc9 pm9 an9 cd9 ct9, PySem.W.fnOf "__init__" "InvalidRow.__init__" (defArgs sI_InvalidRow) (defBody sI_InvalidRow) (defScope sI_InvalidRow) .none kV10 dc10 pm10 an10 cd10 ct10, PySem.W.fnOf "__init__" "NotNow.__init__" (defArgs sI_NotNow) (defBody sI_NotNow) (defScope sI_NotNow) .none kV11 dc11 pm11 an11 cd11 ct11, PySem.W.fnOf "__init__" "InvalidPage.__init__" (defArgs sI_InvalidPage) (defBody sI_InvalidPage) (defScope sI_InvalidPage) .none kV12 dc12 pm12 an12 cd12 ct12, PySem.W.fnOf "__init__" "UnknownName.__init__" (defArgs sI_UnknownName) (defBody sI_UnknownName) (defScope sI_UnknownName) .none kV13 dc13 pm13 an13 cd13 ct13, PySem.W.fnOf "__init__" "NothingLeft.__init__" (defArgs sI_NothingLeft) (defBody sI_NothingLeft) (defScope sI_NothingLeft) .none kV14 dc14 pm14 an14 cd14 ct14].getD k (PySem.W.fnOf "__init__" "InvalidName.__init__" (defArgs sI_InvalidName) (defBody sI_InvalidName) (defScope sI_InvalidName) .none kV0 dc0 pm0 an0 cd0 ct0)) := ⟨F0, F1, F2, F3, F4, F5, F6, F7, F8, F9, F10, F11, F12, F13, F14⟩
  have D0 : Dn K mg "shown" g0 := ⟨gl _ _ ax0, kx0⟩
  have D1 : Dn K mg "_law_bag" g1 := ⟨gl _ _ ax1, kx1⟩
  have D2 : Dn K mg "_law_pull" g2 := ⟨gl _ _ ax2, kx2⟩
  have D3 : Dn K mg "_law_of" g3 := ⟨gl _ _ ax3, kx3⟩
  have D4 : Dn K mg "_law_same" g4 := ⟨gl _ _ ax4, kx4⟩
  have D5 : Dn K mg "_law_other_field" g5 := ⟨gl _ _ ax5, kx5⟩
  have D6 : Dn K mg "_law_field" g6 := ⟨gl _ _ ax6, kx6⟩
  have D7 : Dn K mg "_law_made_errors" g7 := ⟨gl _ _ ax7, kx7⟩
  have D8 : Dn K mg "_law_plain_errors" g8 := ⟨gl _ _ ax8, kx8⟩
  have D9 : Dn K mg "_law_sorts" g9 := ⟨gl _ _ ax9, kx9⟩
  have b0 := Fx0.binds (ps := ["value"]) fun _ _ _ _ _ _ us hl => match us, hl with | [_], _ => rfl
  have b1 := Fx1.binds (ps := ["_law_script"]) fun _ _ _ _ _ _ us hl => match us, hl with | [_], _ => rfl
  have b2 := Fx2.binds (ps := ["_law_bag_here", "_law_many"]) fun _ _ _ _ _ _ us hl => match us, hl with | [_, _], _ => rfl
  have b3 := Fx3.binds (ps := ["_law_bag_here", "_law_things"]) fun _ _ _ _ _ _ us hl => match us, hl with | [_, _], _ => rfl
  have b4 := Fx4.binds (ps := ["_law_found", "_law_due"]) fun _ _ _ _ _ _ us hl => match us, hl with | [_, _], _ => rfl
  have b5 := Fx5.binds (ps := ["_law_e"]) fun _ _ _ _ _ _ us hl => match us, hl with | [_], _ => rfl
  have b6 := Fx6.binds (ps := ["_law_e"]) fun _ _ _ _ _ _ us hl => match us, hl with | [_], _ => rfl
  have b7 := Fx7.binds (ps := ["_law_odd", "_law_more"]) fun _ _ _ _ _ _ us hl => match us, hl with | [_, _], _ => rfl
  have b8 := Fx8.binds (ps := ["_law_odd", "_law_more"]) fun _ _ _ _ _ _ us hl => match us, hl with | [_, _], _ => rfl
  have b9 := Fx9.binds (ps := ["_law_e"]) fun _ _ _ _ _ _ us hl => match us, hl with | [_], _ => rfl
  refine ⟨PySem.W.fnOf "law" "law" (defArgs sLaw) (defBody sLaw) (defScope sLaw) .none kVx10 dcx10 pmx10 anx10 cdx10 ctx10, fun s v => .of_eq rfl, fun base _ _ => ?_⟩
  have G0 : FnOk l.prog w K mg base CX0 1 g0 _ ["value"] spShown := ok_shown Fx0 B
  have G1 : FnOk l.prog w K mg base CX0 1 g1 _ ["_law_script"] (spBag K) := ok_bag Fx1 B
  have G2 : FnOk l.prog w K mg base CX0 1 g2 _ ["_law_bag_here", "_law_many"] spPull := ok_pull Fx2 B
  have G3 : FnOk l.prog w K mg base CX0 2 g3 _ ["_law_bag_here", "_law_things"] spOf := ok_of Fx3 B D2 G2 b2
  have S0 : FnOk l.prog w K mg base CX0 0 g4 (PySem.W.fnOf "_law_same" "_law_same" (defArgs sSame) (defBody sSame) (defScope sSame) .none kVx4 dcx4 pmx4 anx4 cdx4 ctx4) ["_law_found", "_law_due"] (spSame 0) := same_zero
  have S1 := ok_same_step Fx4 B D4 S0 b4
  have S2 := ok_same_step Fx4 B D4 S1 b4
  have S3 := ok_same_step Fx4 B D4 S2 b4
  have S4 := ok_same_step Fx4 B D4 S3 b4
  have G5 : FnOk l.prog w K mg base CX0 1 g5 _ ["_law_e"] (spOther _) := ok_other Fx5 ET
  have G6 : FnOk l.prog w K mg base CX0 2 g6 _ ["_law_e"] (spField _) := ok_field Fx6 ET D5 G5 b5
  have G7 : FnOk l.prog w K mg base CX0 4 g7 _ ["_law_odd", "_law_more"] (spMade _) := ok_made Fx7 ET EM AI WS WM D0 G0 b0
  have G8 : FnOk l.prog w K mg base CX0 4 g8 _ ["_law_odd", "_law_more"] (spMade _) := ok_plain Fx8 ET EM AI WS WM D0 G0 b0
  have G9 : FnOk l.prog w K mg base CX0 1 g9 _ ["_law_e"] (spSorts _) := ok_sorts Fx9 B ET
  exact ok_law Fx10 B ET D1 G1 b1 D2 G2 b2 D3 G3 b3 D4 S4 b4 D6 G6 b6 D9 G9 b9 D7 G7 b7 D8 G8 b8
end K80

set_option Elab.async false
open PySem PySem.W PyProof.Rows
set_option maxRecDepth 100000 in
set_option maxHeartbeats 0 in
theorem PySem.Challenge.cw_unseenslopes_k80_errors_made_by_name_holds : PySem.Challenge.rw_unseenslopes_k80_errors_made_by_name.Holds := by
  w_on; o_law; k_head; (case hw => w_witness2)
  k_fill
  refine L2.walk_of (l := PySem.Challenge.rw_unseenslopes_k80_errors_made_by_name) (n := 63) (k := 5) (x := "_law_script") (CX := fun _ => L2.CX0) (sp := fun w => K80.spLaw _) rfl (by decide) rfl ⟨rfl, by decide, by decide⟩ (fun w h Y => PySem.W.kIn_of Y) ?F (fun _ _ a ns hl _ hS => ⟨a, ns, rfl, hS, hl, fun _ => rfl⟩) fun _ _ _ _ _ z => z
  case F =>
    intro w mg fa h KX G hmg
    refine' K80.all_mk KX G hmg ?aS ?aM ?aC0 ?iC0 ?l0 ?c0 ?k0 ?aC1 ?iC1 ?l1 ?c1 ?k1 ?aC2 ?iC2 ?l2 ?c2 ?k2 ?aC3 ?iC3 ?l3 ?c3 ?k3 ?aC4 ?iC4 ?l4 ?c4 ?k4 ?aC5 ?iC5 ?l5 ?c5 ?k5 ?aC6 ?iC6 ?l6 ?c6 ?k6 ?aC7 ?iC7 ?l7 ?c7 ?k7 ?aC8 ?iC8 ?l8 ?c8 ?k8 ?aC9 ?iC9 ?l9 ?c9 ?k9 ?aC10 ?iC10 ?l10 ?c10 ?k10 ?aC11 ?iC11 ?l11 ?c11 ?k11 ?aC12 ?iC12 ?l12 ?c12 ?k12 ?aC13 ?iC13 ?l13 ?c13 ?k13 ?aC14 ?iC14 ?l14 ?c14 ?k14 ?ax0 ?lx0 ?cx0 ?kx0 ?ax1 ?lx1 ?cx1 ?kx1 ?ax2 ?lx2 ?cx2 ?kx2 ?ax3 ?lx3 ?cx3 ?kx3 ?ax4 ?lx4 ?cx4 ?kx4 ?ax5 ?lx5 ?cx5 ?kx5 ?ax6 ?lx6 ?cx6 ?kx6 ?ax7 ?lx7 ?cx7 ?kx7 ?ax8 ?lx8 ?cx8 ?kx8 ?ax9 ?lx9 ?cx9 ?kx9 ?ax10 ?lx10 ?cx10 ?kx10 ?z_isin ?z_tstr ?z_tint ?z_tlist ?z_ttuple ?z_tbool ?z_fabs ?z_frepr ?z_flen ?z_frange ?z_fzip ?z_fall ?z_tve ?z_tle ?vS ?vM ?hA ?hG ?hS ?hM
    (case aS => k_is); (case aM => k_is); (case aC0 => k_is); (case iC0 => k_is); (case l0 => k_is); (case c0 => k_is); (case k0 => k_is); (case aC1 => k_is); (case iC1 => k_is); (case l1 => k_is); (case c1 => k_is); (case k1 => k_is); (case aC2 => k_is); (case iC2 => k_is); (case l2 => k_is); (case c2 => k_is); (case k2 => k_is); (case aC3 => k_is); (case iC3 => k_is); (case l3 => k_is); (case c3 => k_is); (case k3 => k_is); (case aC4 => k_is); (case iC4 => k_is); (case l4 => k_is); (case c4 => k_is); (case k4 => k_is); (case aC5 => k_is); (case iC5 => k_is); (case l5 => k_is); (case c5 => k_is); (case k5 => k_is); (case aC6 => k_is); (case iC6 => k_is); (case l6 => k_is); (case c6 => k_is); (case k6 => k_is); (case aC7 => k_is); (case iC7 => k_is); (case l7 => k_is); (case c7 => k_is); (case k7 => k_is); (case aC8 => k_is); (case iC8 => k_is); (case l8 => k_is); (case c8 => k_is); (case k8 => k_is); (case aC9 => k_is); (case iC9 => k_is); (case l9 => k_is); (case c9 => k_is); (case k9 => k_is); (case aC10 => k_is); (case iC10 => k_is); (case l10 => k_is); (case c10 => k_is); (case k10 => k_is); (case aC11 => k_is); (case iC11 => k_is); (case l11 => k_is); (case c11 => k_is); (case k11 => k_is); (case aC12 => k_is); (case iC12 => k_is); (case l12 => k_is); (case c12 => k_is); (case k12 => k_is); (case aC13 => k_is); (case iC13 => k_is); (case l13 => k_is); (case c13 => k_is); (case k13 => k_is); (case aC14 => k_is); (case iC14 => k_is); (case l14 => k_is); (case c14 => k_is); (case k14 => k_is); (case ax0 => k_is); (case lx0 => k_is); (case cx0 => k_is); (case kx0 => k_is); (case ax1 => k_is); (case lx1 => k_is); (case cx1 => k_is); (case kx1 => k_is); (case ax2 => k_is); (case lx2 => k_is); (case cx2 => k_is); (case kx2 => k_is); (case ax3 => k_is); (case lx3 => k_is); (case cx3 => k_is); (case kx3 => k_is); (case ax4 => k_is); (case lx4 => k_is); (case cx4 => k_is); (case kx4 => k_is); (case ax5 => k_is); (case lx5 => k_is); (case cx5 => k_is); (case kx5 => k_is); (case ax6 => k_is); (case lx6 => k_is); (case cx6 => k_is); (case kx6 => k_is); (case ax7 => k_is); (case lx7 => k_is); (case cx7 => k_is); (case kx7 => k_is); (case ax8 => k_is); (case lx8 => k_is); (case cx8 => k_is); (case kx8 => k_is); (case ax9 => k_is); (case lx9 => k_is); (case cx9 => k_is); (case kx9 => k_is); (case ax10 => k_is); (case lx10 => k_is); (case cx10 => k_is); (case kx10 => k_is); (case z_isin => k_is); (case z_tstr => k_is); (case z_tint => k_is); (case z_tlist => k_is); (case z_ttuple => k_is); (case z_tbool => k_is); (case z_fabs => k_is); (case z_frepr => k_is); (case z_flen => k_is); (case z_frange => k_is); (case z_fzip => k_is); (case z_fall => k_is); (case z_tve => k_is); (case z_tle => k_is); (case vS => k_is); (case vM => k_is)
    (case hA => kernel_rfl); (case hG => kernel_rfl); (case hS => kernel_rfl); (case hM => kernel_rfl)
