import PyProof.Rows.All
import Wide.All
import OpenK.AllK
import Wide.FinOn
import KE.KExcInit
import HandS.ForMost
import HandS.Exc
import HandS.ExcInit
import HandS.IsInst
import HandS.Defaults
import HandS.MakeKw
import HandS.FStr
import HandS.RaiseMore
import HandS.ExcIs
import KE.KExcIs
import PyProof.FactsAll.bool_1
import KE.KCallOwn
import PyProof.InstEq
import HandS.Property
import HandS.Gcd
import HandS.MakeKwOnly
import KE.KTryMore
import HandS.HotCalls
import HandS.ExcField
import HandS.Codes
import HandS.Walk
import HandS.Zip
import HandS.Style
import HandS.Lambda
import KE.KFmtOwn
import KE.KOpsOwn
import HandS.Wide
import HandS.WordsExc
import HandS.StrMore
import PyProof.StrLawsAffix
import PyProof.StrBlockL
import HandS.OwnEq
import HandS.DictTup
import HandS.ListItems
import HandS.More
import KE.KDictDisplayH
import KE.KDictCopyH
import KE.KDictOf
import HandS.Iter
import HandS.Conv
import HandS.TupAny
import PyProof.DictUpdate
import PyProof.DictDisplay
import HandS.Star
import HandS.SetBool
import HandS.NoneIn
import HandS.Nested
import HandS.DictComp
import HandS.TupSets
import HandS.SortKw
import KE.DataMinMax
import KE.KEqDict
import HandS.EndTab
import HandS.HeadWalk
import KE.KNestM
import PySem.Challenge.RW_unseenslopes_k37_sheets_made
set_option Elab.async false
set_option linter.all false
set_option maxRecDepth 100000
set_option maxHeartbeats 4000000
/-! Own error classes over any built-in base: called with keywords too, held as values, their fields. -/
namespace Ux
open PySem PySem.Calls PySem.W
open Builtin Builtin.ObjectAttr
section
variable {M : Model} {prog : Program} {w : World} {A : Around} {E : Value → Shared → Prop} {h : Heap} {g : Array GenState} {d : Drawn} {t : Nat} {os : OsState}
variable {nm q : Str} {C N : Addr} {bs bm bmB : List Value} {hdct : Bool} {sn : List Str} {sub : List Value} {ab : Bool} {col : Option Bool} {dd : Option Addr} {k0 k1 k2 k3 k5 : Option Value} {B newId initId : String}
/-- the class object as the built-in rules read it -/
abbrev ClsO (nm q : Str) (C N : Addr) (bs bm : List Value) (hdct : Bool) (sn : List Str) (sub : List Value) (ab : Bool) (col : Option Bool) (dd : Option Addr) (k0 k1 k2 k3 k5 : Option Value) (newId : String) : Obj := excClassObj nm q C N bs bm hdct sn sub ab col dd k0 k1 k2 k3 k5 newId
theorem kw_check (F : ExcBaseFacts B newId initId bmB) (hT : ∀ Y : String, bm.contains (.type Y) = bmB.contains (.type Y)) {rest : List Value} {kw : List (Str × Value)} {Q : Unit → Shared → Prop}
    (oc : h.get? C = some (ClsO nm q C N bs bm hdct sn sub ab col dd k0 k1 k2 k3 k5 newId)) (z : Q () ⟨h, g, d, t, os⟩) : wpAny M A (checkBuiltinCall newId ⟨.ref C :: rest, kw⟩) Q E ⟨h, g, d, t, os⟩ := by
  have inB : (Value.ref C :: bm).contains (.type B) = true := by rw [List.contains_cons, hT B, F.hasB, Bool.or_true]
  have star := F.noStar
  simp only [checkBuiltinCall, F.newKind, F.newSplit, F.newRow]
  repeat (first
    | refine wpAny_loadPart_at oc ?_
    | (refine wpAny_isSubtype_exc oc ?_; rw [inB])
    | refine wpAny_staticBase_exc oc ?_
    | refine wpAny_madeBy_exc oc ?_
    | simp only [bne_self_eq_false, Bool.false_eq_true, if_false]
    | wp_step)
  exact z
theorem kw_new {R : Result → Shared → Prop} (F : ExcBaseFacts B newId initId bmB) (hT : ∀ Y : String, bm.contains (.type Y) = bmB.contains (.type Y)) {rest : List Value} {kw : List (Str × Value)}
    (oc : h.get? C = some (ClsO nm q C N bs bm hdct sn sub ab col dd k0 k1 k2 k3 k5 newId)) (z : R (.ok (.ret (.ref (h.objs.size + 1)))) ⟨(h.push (kdv_tup rest)).push (excObj C h.objs.size none .none), g, d, t, os⟩) (hz : rest.length ≤ sizeLine) :
    codeAny (model prog w) A (.builtin newId ⟨.ref C :: rest, kw⟩) R ⟨h, g, d, t, os⟩ := by
  have ends := F.ends
  have inB : (Value.ref C :: bm).contains (.type B) = true := by rw [List.contains_cons, hT B, F.hasB, Bool.or_true]
  have inA : (Value.ref C :: bm).contains (.type "AttributeError") = false := by rw [List.contains_cons, hT _, F.noAttr]; rfl
  have inN : (Value.ref C :: bm).contains (.type "NameError") = false := by rw [List.contains_cons, hT _, F.noName]; rfl
  refine codeAny_builtinAt F.entry ?_
  unfold Builtin.«BaseException.__new__»
  refine wpAt_bind ?_
  show wpAt _ _ _ (stack >>= _) _ _ _
  refine wpAt_bind (wpAt_stack fun p below => wpAt_of_wpAny ?_)
  wp_walk
  refine wpAt_of_wpAny ?_
  rw [F.owner]
  repeat (first
    | with_reducible refine wpAny_madeHere_exc F.canon oc ?_
    | with_reducible refine wpAny_loadPart_at oc ?_
    | (with_reducible refine wpAny_isSubtype_exc oc ?_; first | rw [inB] | rw [inA] | rw [inN])
    | wp_step)
  show R _ _
  rw [Heap.size_push]
  exact z
theorem kw_typecall (F : ExcBaseFacts B newId initId bmB) (hT : ∀ Y : String, bm.contains (.type Y) = bmB.contains (.type Y)) {rest : List Value} {kw : List (Str × Value)} {fI : Addr} {Q : Fin → Shared → Prop}
    (oc : h.get? C = some (ClsO nm q C N bs bm hdct sn sub ab col dd k0 k1 k2 k3 k5 newId)) (li : Looks (model prog w) h (typeLookup (.ref C) "__init__") (some (.ref fI)))
    (lb : ∀ self, Looks (model prog w) h (bindSpecial (.ref fI) self) (.ref fI, [self])) (hz : rest.length ≤ sizeLine)
    (z : codeAny (model prog w) A (.call (.ref fI) ⟨.ref (h.objs.size + 1) :: rest, kw⟩) (fun r s' => match r with | .ok (.ret v) => v = .none ∧ Q (.done (.ret (.ref (h.objs.size + 1)))) s' | .ok _ => False | .error e => E e s')
      ⟨(h.push (kdv_tup rest)).push (excObj C h.objs.size none .none), g, d, t, os⟩) :
    wpAny (model prog w) A (Builtin.«type.__call__» ⟨.ref C :: rest, kw⟩) Q E ⟨h, g, d, t, os⟩ := by
  repeat (first
    | with_reducible refine wpAny_loadPart_at oc ?_
    | with_reducible refine wpAny_madeBy_exc oc ?_
    | wp_step)
  refine codeAny_call_builtin_code (Code.quiet_builtin _ F.quiet) (kw_check F hT oc ?_)
  refine kw_new F hT oc ?_ hz
  show wpAny _ _ _ _ _ _
  have stays : ∀ b o, h.get? b = some o → ((h.push (kdv_tup rest)).push (excObj C h.objs.size none .none)).get? b = some o := fun b o y => Heap.get?_push_of_some _ (Heap.get?_push_of_some _ y)
  have oc' := stays _ _ oc
  have made : ((h.push (kdv_tup rest)).push (excObj C h.objs.size none .none)).get? (h.objs.size + 1) = some (excObj C h.objs.size none .none) := by heap_get
  have inC : (Value.ref C :: bm).contains (.ref C) = true := by simp
  have i1 := li.keeps stays
  have b1 := (lb (.ref (h.objs.size + 1))).keeps stays
  unfold isInstance
  repeat (first
    | with_reducible refine wpAny_loadPart_at made ?_
    | (with_reducible refine wpAny_isSubtype_exc oc' ?_; rw [inC])
    | wp_step)
  show wpAny _ _ (typeLookup (.ref C) _) _ _ _
  refine i1.at ?_
  refine wpAny_holding (wpAny_bind (b1.at ?_))
  refine wpAny_bind (wpAny_call (codeAny_mono z fun r s' y => ?_))
  rcases r with e | (v | _ | _ | _) <;> first | exact y | exact y.elim | skip
  obtain ⟨rfl, y⟩ := y
  first
    | exact wpAny_pure (wpAny_pure y)
    | (wp_walk; exact y)
theorem kw_call {R : Result → Shared → Prop} (F : ExcBaseFacts B newId initId bmB) (hT : ∀ Y : String, bm.contains (.type Y) = bmB.contains (.type Y)) {rest : List Value} {kw : List (Str × Value)} {fI : Addr}
    (oc : h.get? C = some (ClsO nm q C N bs bm hdct sn sub ab col dd k0 k1 k2 k3 k5 newId)) (li : Looks (model prog w) h (typeLookup (.ref C) "__init__") (some (.ref fI)))
    (lb : ∀ self, Looks (model prog w) h (bindSpecial (.ref fI) self) (.ref fI, [self])) (hz : rest.length ≤ sizeLine)
    (z : codeAny (model prog w) (A.under (.builtin "type.__call__" ⟨.ref C :: rest, kw⟩)) (.call (.ref fI) ⟨.ref (h.objs.size + 1) :: rest, kw⟩) (InitBack (h.objs.size + 1) R)
      ⟨(h.push (kdv_tup rest)).push (excObj C h.objs.size none .none), g, d, t, os⟩) :
    codeAny (model prog w) A (.call (.ref C) ⟨rest, kw⟩) R ⟨h, g, d, t, os⟩ := by
  have f1 := tc_lookup
  have f2 := tc_bind (.ref C)
  have ty : (⟨h, g, d, t, os⟩ : Shared).TypeIs (.ref C) "type" := ⟨_, oc, rfl⟩
  refine codeAny_of_tree ?_
  show wpAny _ _ (callAny (.ref C) _) _ _ _
  repeat (any_goals (first
    | assumption
    | with_reducible refine wpAny_loadPart_at oc ?_
    | wp_step))
  refine ⟨rfl, ?_⟩
  refine codeAny_call_builtin_at (Code.quiet_builtin _ (by decide +kernel)) entry_typeCall (wpAny_check_type_call_sub oc (kw_typecall F hT oc li lb hz ?_))
  refine codeAny_mono z fun r s' y => ?_
  rcases r with e | (v | _ | _ | _) <;> exact y
end
end Ux

set_option Elab.async false
set_option linter.all false
set_option maxRecDepth 100000
set_option maxHeartbeats 4000000
namespace Ux
open PySem PySem.Calls PySem.W
section
variable {prog : Program} {w : World} {A : Around} {E : Value → Shared → Prop} {R : Result → Shared → Prop} {hp : Heap} {g : Array GenState} {d : Drawn} {t : Nat} {os : OsState}
variable {K : Frag} {B : String} {bmB : List Value} {name : Str} {tk : Tok} {v : Value} {x C : Addr}
theorem taker_of (n : findIn K (.ref C) name = some none) : takerIn K C name = some none := by
  unfold takerIn
  rw [n]
  rfl
/-- the first field of an exception -/
theorem put_first {t0 : Addr} (SF : StoreFacts B bmB "object.__setattr__" "object") (IN : K.In hp) (ex : hp.get? x = some (excObj C t0 none .none)) (ov : excOver K C bmB = true) (nf : findIn K (.ref C) name = some none) (hd : hasDictIn K C = true)
    (z : ∀ h' tk' dx, (∀ b o, b ≠ x → hp.get? b = some o → h'.get? b = some o) → hp.objs.size ≤ dx → dx ≠ x → h'.get? x = some (excObj C t0 (some dx) .none) → h'.Ns1 dx (fun y => if y = name then some v else none) → R (.ok (.ret .none)) ⟨h', g, d, tk', os⟩) :
    codeAny (model prog w) A (.call (.builtin "object.__setattr__") ⟨[.ref x, .str name tk, v], []⟩) R ⟨hp, g, d, t, os⟩ := by
  refine osa_openX (s := ⟨hp, g, d, t, os⟩) (od := none) SF IN ⟨ex, rfl, rfl, trivial⟩ ov (taker_of nf) fun b => ?_
  obtain ⟨cd, hc, hdc⟩ := any_some hd
  have lx := Heap.lt_size ex
  have nx : hp.objs.size ≠ x := Nat.ne_of_gt lx
  have ex1 : (hp.push (dictOf [] 0)).get? x = some (excObj C t0 none .none) := Heap.get?_push_of_some _ ex
  refine wpAny_bind (wpAny_pure (wpAny_bind (instanceDict_exc (s := ⟨hp, g, d, t, os⟩) ex (looks_clsIn IN hc) hdc ?_)))
  show wpAny _ _ (Builtin.ObjectAttr.storeInDict hp.objs.size (.str name tk) name v) _ _ _
  refine HandSPX.store_in_new ⟨_, #[], _, (Heap.get?_update_ne _ _ _ _ nx).trans (Heap.get?_push_at rfl rfl), rfl, fun e he => absurd he (by simp), fun _ => rfl⟩ fun h' tk' hn same => ?_
  refine z h' tk' hp.objs.size (fun b o nb ho => ?_) (Nat.le_refl _) nx ?_ hn
  · exact (same.2 b (Nat.ne_of_lt (Heap.lt_size ho))).trans ((Heap.get?_update_ne _ _ _ _ nb).trans (Heap.get?_push_of_some _ ho))
  · exact (same.2 x nx.symm).trans (Heap.get?_update_self _ ex1 rfl)
/-- a further one -/
theorem put_more {t0 dx : Addr} {m0 : Str → Option Value} {ns : List Str} (SF : StoreFacts B bmB "object.__setattr__" "object") (IN : K.In hp) (ex : hp.get? x = some (excObj C t0 (some dx) .none)) (hn : hp.Ns1 dx m0) (hw : Within m0 ns) (hz : ns.length ≤ 1000)
    (ov : excOver K C bmB = true) (nf : findIn K (.ref C) name = some none) (hd : hasDictIn K C = true)
    (z : ∀ h' tk', (∀ b o, b ≠ dx → hp.get? b = some o → h'.get? b = some o) → h'.Ns1 dx (fun y => if y = name then some v else m0 y) → R (.ok (.ret .none)) ⟨h', g, d, tk', os⟩) :
    codeAny (model prog w) A (.call (.builtin "object.__setattr__") ⟨[.ref x, .str name tk, v], []⟩) R ⟨hp, g, d, t, os⟩ := by
  obtain ⟨oD, _, _, hoD, _, _⟩ := hn.count hw
  refine osa_openX (s := ⟨hp, g, d, t, os⟩) (od := some oD) SF IN ⟨ex, rfl, rfl, hoD⟩ ov (taker_of nf) fun b => ?_
  obtain ⟨cd, hc, hdc⟩ := any_some hd
  refine wpAny_bind (wpAny_pure (wpAny_bind (wpAny_bind (wpAny_loadPart ex (wpAny_bind ((looks_clsIn IN hc).here ?_))))))
  rw [hdc]
  refine wpAny_pure (a := some dx) ?_
  exact OEX.store_in_old hn hw hz fun h' tk' hn' same => z h' tk' (fun b o nb ho => (same.2 b nb).trans ho) hn'
end
end Ux

namespace Ux
open PySem PySem.Spec PyProof.Rows L2
/-- what the written part says of an error class over the built-in B -/
structure Ec (K : PySem.W.Frag) (B newId initId : String) (bmB : List Value) (C : Addr) : Prop where
  FB : ExcBaseFacts B newId initId bmB
  SF : StoreFacts B bmB "object.__setattr__" "object"
  ini : PySem.W.excInitIn K C bmB newId = true
  ovr : PySem.W.excOver K C bmB = true
  hdc : PySem.W.hasDictIn K C = true
  sa : PySem.W.findIn K (.ref C) "__setattr__" = some (some (.builtin "object.__setattr__"))
  kc : PySem.W.keepIn K (.ref C) = true
  ga : PySem.W.findIn K (.ref C) "__getattribute__" = some (some (.builtin "BaseException.__getattribute__"))
  gg : PySem.W.findIn K (.ref C) "__getattr__" = some none
  exC : PySem.W.subIn K (.ref C) (.type "BaseException") = some true
section
variable {X : Cx} {pins : List (Addr × Obj)} {σ : L2.St} {H : Hp} {s : Shared} {a C dx : Addr} {f : Str} {y : V} {u : Value} {fs : List (Str × V)} {Q : Unit → Shared → Prop} {E : Value → Shared → Prop} {A : Around} {B newId initId : String} {bmB : List Value}
theorem not_own {c x : Addr} {o : HO} (e : H c = some o) (n : ∀ y, o ≠ .own y) (z : H x = some (.own a)) : x ≠ c := fun q => by
  rw [q, e] at z
  exact n _ (Option.some.inj z)
theorem est_first (T : Ec X.K B newId initId bmB C) (I : Inv X pins σ H s) (ea : H a = some (exo a C none)) (nf : PySem.W.findIn X.K (.ref C) f = some none) (r : RelV y u)
    (z : ∀ dx s', H dx = none → dx ≠ a → Inv X pins σ (upd (upd H dx (exd dx [(f, y)])) a (exo a C (some dx))) s' → Q () s') : wpAny (model X.prog X.w) A (setAttr (.ref a) f u) Q E s := by
  obtain ⟨t1, ho⟩ := exo_at I.hok ea
  obtain ⟨hp, g, d, t, os⟩ := s
  refine PySem.W.set_plain I.kIn (ox := PySem.W.excObj C t1 none .none) (od := none) ⟨ho, rfl, rfl, trivial⟩ T.sa ?_
  refine put_first T.SF I.kIn ho T.ovr nf T.hdc fun h' tk' dx keep lo ne hx hn => ?_
  have fr : H dx = none := I.hok.fresh lo
  have nd : ∀ {b : Addr} {o : Obj}, hp.get? b = some o → b ≠ dx := fun q => Nat.ne_of_lt (Nat.lt_of_lt_of_le (Heap.lt_size q) lo)
  have na : ∀ {b : Addr}, H b = none → b ≠ a := fun n q => by
    rw [q, ea] at n
    cases n
  have U : Un X.fs [] H (upd (upd H dx (exd dx [(f, y)])) a (exo a C (some dx))) hp h' := by
    refine ⟨fun b o q n _ _ => keep b o (na n) q, fun b o q n _ _ => ⟨o.slots, keep b o (na n) q⟩, fun b o q n _ => ?_, fun b o q _ => ?_, fun b xs q => ?_, fun b o v q => ?_, fun b ps q => ⟨#[], ?_⟩⟩
    · rw [upd_ne (na n), upd_ne (nd q)]
      exact n
    · by_cases hb : b = a
      · subst hb
        exact ⟨_, hx⟩
      · exact ⟨o, keep b o hb q⟩
    · rw [upd_ne (at_ne ea q exo_tup), upd_ne (ne_of_none q fr)]
      exact q
    · rw [upd_ne (at_ne ea q exo_frz), upd_ne (ne_of_none q fr)]
      exact q
    · rw [upd_ne (at_ne ea q exo_tbl), upd_ne (ne_of_none q fr), q]
      simp
  refine z dx _ fr ne (I.un (t' := tk') U fun b o q => ?_)
  by_cases hb : b = a
  · subst hb
    rw [upd_same] at q
    cases q
    exact exo_ok hx
  · rw [upd_ne hb] at q
    by_cases hd : b = dx
    · subst hd
      rw [upd_same] at q
      cases q
      exact exd_ok hn (relO_put (fs := []) r fun _ => True.intro)
    · rw [upd_ne hd] at q
      refine (I.hok b o q).stay (fun c v hc w => keep c v ?_ w) (fun c hc => ?_) (fun c xs hc => ?_)
      · rcases hc with hc | hc
        · rw [hc]
          exact hb
        · exact at_ne ea hc exo_own
      · rw [upd_ne (at_ne ea hc exo_own), upd_ne (ne_of_none hc fr)]
        exact hc
      · rw [upd_ne (at_ne ea hc exo_tup), upd_ne (ne_of_none hc fr)]
        exact hc
theorem est_more (T : Ec X.K B newId initId bmB C) (I : Inv X pins σ H s) (ea : H a = some (exo a C (some dx))) (ed : H dx = some (exd dx fs)) (hl : fs.length ≤ 900) (nf : PySem.W.findIn X.K (.ref C) f = some none) (r : RelV y u)
    (z : ∀ s', Inv X pins σ (upd H dx (exd dx ((f, y) :: fs))) s' → Q () s') : wpAny (model X.prog X.w) A (setAttr (.ref a) f u) Q E s := by
  obtain ⟨t1, ho⟩ := exo_at I.hok ea
  obtain ⟨mA, hns, rel⟩ := exd_at I.hok ed
  have hw := within_of rel
  obtain ⟨hp, g, d, t, os⟩ := s
  obtain ⟨oD, _, _, hoD, _, _⟩ := hns.count hw
  refine PySem.W.set_plain I.kIn (ox := PySem.W.excObj C t1 (some dx) .none) (od := some oD) ⟨ho, rfl, rfl, hoD⟩ T.sa ?_
  refine put_more T.SF I.kIn ho hns hw (by rw [List.length_map]; omega) T.ovr nf T.hdc fun h' tk' keep hn => ?_
  have there : ∃ o, h'.get? dx = some o := by
    obtain ⟨o, _, _, q, _⟩ := hn
    exact ⟨o, q⟩
  exact z _ (I.write (t' := tk') (x := dx) (e := dx) (o := exd dx ((f, y) :: fs)) (by rw [ed]; exact True.intro) (.inl rfl) keep there (exd_ok hn (relO_put r rel)))
/-- the base's __init__ on it: nothing of it is told -/
theorem base_init {us : List Value} {Q : Value → Shared → Prop} (T : Ec X.K B newId initId bmB C) (I : Inv X pins σ H s) (ea : H a = some (exo a C none)) (hl : us.length ≤ sizeLine) (z : ∀ s', Inv X pins σ H s' → Q .none s') :
    wpAny (model X.prog X.w) A (call (.builtin initId) (.ref a :: us)) Q E s := by
  obtain ⟨t1, ho⟩ := exo_at I.hok ea
  obtain ⟨nm, N, qn, bs, bm, hdct, sn, sub, ab, col, dd, k0, k1, k2, k3, k5, oc, hT⟩ := PySem.W.excInit_of I.kIn T.ini
  obtain ⟨hp, g, d, t, os⟩ := s
  refine wpAny_call (PySem.HandSPX.init_base T.FB hT oc ho hl fun h' t2 keep hx => ?_)
  have J := I.write (t' := t) (x := a) (e := a) (o := exo a C none) (by rw [ea]; exact True.intro) (.inl rfl) keep ⟨_, hx⟩ (exo_ok hx)
  have same : upd H a (exo a C none) = H := by
    funext b
    by_cases hb : b = a
    · rw [hb, upd_same, ea]
    · rw [upd_ne hb]
  rw [same] at J
  exact z _ J
end
/-- .. whatever the base's other facts -/
def EcI (K : PySem.W.Frag) (initId : String) (C : Addr) : Prop := ∃ (B newId : String) (bmB : List Value), Ec K B newId initId bmB C
def EcA (K : PySem.W.Frag) (C : Addr) : Prop := ∃ initId : String, EcI K initId C
/-! ### readings and rules -/
/-- Base.__init__(self, ..) -/
def tBI (K : PySem.W.Frag) (initId : String) (ta : TA) : TE := fun σ H Q => ta σ H fun vs H1 => ∃ (a C : Addr) (ws : List V), vs = .ref a :: ws ∧ ws.length ≤ 1000 ∧ EcI K initId C ∧ H1 a = some (exo a C none) ∧ Q .non H1
/-- self.f = e -/
def tEst (K : PySem.W.Frag) (f : Str) (to te : TE) : TS := fun D σ H => te σ H fun y H1 => to σ H1 fun x H2 => ∃ a C : Addr, x = .ref a ∧ EcA K C ∧ PySem.W.findIn K (.ref C) f = some none ∧
  ((H2 a = some (exo a C none) ∧ ∀ dx, H2 dx = none → dx ≠ a → D.nx σ (upd (upd H2 dx (exd dx [(f, y)])) a (exo a C (some dx)))) ∨
    ∃ (dx : Addr) (fs : List (Str × V)), H2 a = some (exo a C (some dx)) ∧ H2 dx = some (exd dx fs) ∧ fs.length ≤ 900 ∧ D.nx σ (upd H2 dx (exd dx ((f, y) :: fs))))
/-- e.f -/
def tEf (K : PySem.W.Frag) (f : Str) (to : TE) : TE := fun σ H Q => to σ H fun x H1 => ∃ (a C dx : Addr) (fs : List (Str × V)) (v : V), x = .ref a ∧ EcA K C ∧ PySem.W.findIn K (.ref C) f = some none ∧
  H1 a = some (exo a C (some dx)) ∧ H1 dx = some (exd dx fs) ∧ fs.lookup f = some v ∧ Q v H1
section
variable {X : Cx} {o e : Expr} {es : List Expr} {to te : TE} {ta : TA} {f x : Str} {p p' p1 p2 pos : Pos} {B newId initId : String} {bmB : List Value} {CB : Addr} {mc : Value}
theorem pe_bi {pl : Sem Bool} (hg : Gl X x) (hm : X.mg x = some (.ref CB)) (sg : PySem.W.specialIn X.K (.ref CB) "__getattribute__" = some (some (.builtin "type.__getattribute__"))) (rd : PySem.W.readsIn X.K CB mc = true)
    (vV : PySem.W.findCls X.K (.ref CB) mc "__init__" = some (.val (.builtin initId))) (vh : PySem.W.handedIn (.builtin initId) = true) (ha : PA X (e :: es) ta) (hdb : (x == ("__debug__" : Str)) = false := by decide)
    (hc : eval (.Call (.Attribute (.Name x p1) "__init__" p2) (e :: es) [] pos) X.env = (do
      let ov ← eval (.Name x p1) X.env
      standAt p2.atName
      let (f, first) ← holding [ov] (getMethod ov "__init__" pl)
      callWith pos f first (backTo pos (starEach (e :: es) X.env)) (backToKw pos (keywordEach [] X.env))) := by rfl)
    (he : starEach (e :: es) X.env = (false, eval e X.env) :: starEach es X.env := by rfl) (hpl : (backTo pos (starEach es X.env)).any (·.1) = false := by rfl) :
    PE X (.Call (.Attribute (.Name x p1) "__init__" p2) (e :: es) [] pos) (tBI X.K initId ta) := by
  refine ⟨fun pins s σ H Q I h => ?_⟩
  refine PySem.W.methodCall_KW (ld_glob I hg hm ?_ hdb) hc
  refine PySem.W.method_cls I.kIn sg (PySem.W.cls_value I.kIn rd vV vh ?_)
  show wpAny _ _ (callWith pos (Value.builtin initId) [] (backTo pos (starEach (e :: es) X.env)) []) _ _ _
  refine PyProof.Rows.callWith_method1 (thn (ha.run pos pins _ σ H _ (I.tok _) h) fun us s1 ⟨vs, H1, I1, r1, a, C, ws, ev, hl, T, ea, q⟩ => ?_) he hpl
  subst ev
  obtain ⟨_, _, _, T⟩ := T
  cases r1 with
  | @cons _ u0 _ ur ra rw' =>
    obtain rfl : u0 = Value.ref a := ra
    have hz : ur.length ≤ sizeLine := by
      rw [← Paired.length rw', sizeLine_eq]
      omega
    exact base_init T I1 ea hz fun s' J => ⟨.non, H1, J, rfl, q⟩
theorem ps_est (ho : PE X o to) (he : PE X e te) (hs : swapsWith e (some (.Attribute o f p')) pos.line X.env = pure false := by rfl) : PS X (.Assign [.Attribute o f p'] e pos) (tEst X.K f to te) := by
  refine ⟨fun pins s σ H D I h => ?_⟩
  refine plainObj_wpAny_Assign_Attribute (thn (he.run pins s σ H _ I h) fun v s1 ⟨y, H1, I1, r1, q1⟩ => thn (ho.run pins s1 σ H1 _ I1 q1) fun u s2 ⟨x, H2, I2, r2, a, C, ex, T, nf, q⟩ => ?_) hs
  subst ex
  obtain rfl : u = Value.ref a := r2
  obtain ⟨_, _, _, _, T⟩ := T
  rcases q with ⟨ea, q⟩ | ⟨dx, fs, ea, ed, hl, q⟩
  · exact est_first T I2 ea nf r1 fun dx s' n ne J => ⟨σ, _, J, q dx n ne⟩
  · exact est_more T I2 ea ed hl nf r1 fun s' J => ⟨σ, _, J, q⟩
theorem pe_ef (ho : PE X o to) (hb : attributeBase o f X.env (eval o X.env) = eval o X.env := by rfl) : PE X (.Attribute o f pos) (tEf X.K f to) := by
  refine ⟨fun pins s σ H Q I h => ?_⟩
  refine attr_of hb (thn (ho.run pins s σ H _ I h) fun u s1 hh => ?_)
  obtain ⟨x, H1, I1, rx, a, C, dx, fs, v, ex, T, nf, ea, ed, l, q⟩ := hh
  subst ex
  obtain rfl : u = Value.ref a := rx
  obtain ⟨_, _, _, _, T⟩ := T
  obtain ⟨t1, hoa⟩ := exo_at I1.hok ea
  obtain ⟨mA, hns, hr⟩ := exd_at I1.hok ed
  obtain ⟨od, hod, hl⟩ := lookIn_ns hns
  obtain ⟨u, hu, ru⟩ := RelO.some_of (v := v) (o := mA f) (by rw [← l]; exact hr f)
  have J : PySem.W.InstAt s1.heap a (PySem.W.excObj C t1 (some dx) .none) C (some od) := ⟨hoa, rfl, rfl, hod⟩
  exact HandSPX.exc_get I1.kIn J T.ga T.gg T.exC (PySem.W.findObj_own T.hdc nf rfl (by rw [hl, hu])) (handed_of ru) ⟨v, H1, I1.tok _, ru, q⟩
end
/-! ### an error made -/
/-- C(..) by values vs and keywords zs: a new error a, then __init__ by its promise -/
def tMkE (C : Addr) (n m : Nat) (sp : Sp) (gV : List V → List V → List V) (ta tk : TA) : TE := fun σ H Q => ta σ H fun vs H1 => tk σ H1 fun zs H2 => vs.length = n ∧ zs.length = m ∧ ∀ a, H2 a = none → sp (gV (.ref a :: vs) zs) (upd H2 a (exo a C none)) (fun v H3 => v = .non ∧ Q (.ref a) H3) (fun _ _ _ => False)
section
variable {X : Cx} {CX : CXT} {k n : Nat} {fI C : Addr} {fd : FuncData} {ps ks : List Str} {sp : Sp} {B newId initId : String} {bmB : List Value} {g : List Value → List Value → List Value} {gV : List V → List V → List V}
theorem run_mkE {pins : List (Addr × Obj)} {σ : L2.St} {H : Hp} {s : Shared} {Q : VK} {us ws : List Value} {vs zs : List V} (T : Ec X.K B newId initId bmB C) (iC : PySem.W.findIn X.K (.ref C) "__init__" = some (some (.ref fI))) (tI : PySem.W.typeIn X.K (.ref fI) = some (.type "function"))
    (F : FnOk X.prog X.w X.K X.mg X.base CX k fI fd ps sp) (hr : Room (k + 1) X.A) (hb : KBn X.K fd ps (n + 1) ks g gV) (hx : Passes CX X (fun _ _ _ => False)) (I : Inv X pins σ H s) (r : Vals vs us) (rz : Vals zs ws) (l1 : vs.length = n) (l2 : zs.length = ks.length) (hn : n ≤ 1000)
    (z : ∀ a, H a = none → sp (gV (.ref a :: vs) zs) (upd H a (exo a C none)) (fun v H3 => v = .non ∧ Q (.ref a) H3) (fun _ _ _ => False)) :
    wpAny (model X.prog X.w) X.A (call (.ref C) us (ks.zip ws)) (EP X pins σ Q) X.xe s := by
  obtain ⟨nm, N, qn, bs, bm, hdct, sn, sub, ab, col, dd, k0, k1, k2, k3, k5, oc, hT⟩ := PySem.W.excInit_of I.kIn T.ini
  obtain ⟨hp, gn, dr, tk, os⟩ := s
  have lo : hp.objs.size ≤ hp.objs.size + 1 := Nat.le_succ _
  have fr : H (hp.objs.size + 1) = none := I.hok.fresh lo
  have hq := z _ fr
  have kk : ∀ b o, hp.get? b = some o → ((hp.push (PySem.W.kdv_tup us)).push (PySem.W.excObj C hp.objs.size none .none)).get? b = some o := fun b o e => Heap.get?_push_of_some _ (Heap.get?_push_of_some _ e)
  have made : ((hp.push (PySem.W.kdv_tup us)).push (PySem.W.excObj C hp.objs.size none .none)).get? (hp.objs.size + 1) = some (PySem.W.excObj C hp.objs.size none .none) := by heap_get
  have I2 : Inv X pins σ (upd H (hp.objs.size + 1) (exo (hp.objs.size + 1) C none)) ⟨(hp.push (PySem.W.kdv_tup us)).push (PySem.W.excObj C hp.objs.size none .none), gn, dr, tk, os⟩ :=
    I.laid (t' := tk) (a := hp.objs.size + 1) (o := exo (hp.objs.size + 1) C none) kk lo (exo_ok made)
  have r1 : Vals (V.ref (hp.objs.size + 1) :: vs) (Value.ref (hp.objs.size + 1) :: us) := .cons rfl r
  have r2 := hb.rel r1 rz
  have e1 : (Value.ref (hp.objs.size + 1) :: us).length = n + 1 := r1.length.symm.trans (congrArg Nat.succ l1)
  have e2 : ws.length = ks.length := rz.length.symm.trans l2
  have hus : us.length ≤ sizeLine := by
    rw [← Paired.length r, l1, sizeLine_eq]
    omega
  refine wpAny_call (kw_call T.FB hT oc (PySem.W.looks_findIn I.kIn iC) (fun self => PySem.W.bind_fn I.kIn self tI) hus
    (codeAny_mono (F.run _ X.stack _ _ ⟨Value.ref (hp.objs.size + 1) :: us, ks.zip ws⟩ (g (Value.ref (hp.objs.size + 1) :: us) ws) _ _ (fun _ _ _ => False) (hr.make C us (ks.zip ws)) (I2.env0.make C us (ks.zip ws)) (hb.to _ (Value.ref (hp.objs.size + 1) :: us) ws I2.kIn e1 e2) r2 hq) fun r s' hq' => ?_))
  cases r with
  | error er => exact hx pins σ _ _ er s' I2 hq'
  | ok fl =>
    cases fl with
    | ret u =>
      obtain ⟨v, H', I3, rv, ev, q3⟩ := I2.after hq'
      subst ev
      exact ⟨rv, ⟨V.ref (hp.objs.size + 1), H', I3, rfl, q3⟩⟩
    | next => exact False.elim hq'
    | brk => exact False.elim hq'
    | cont => exact False.elim hq'
end
end Ux

set_option Elab.async false
set_option linter.all false
set_option maxRecDepth 100000
set_option maxHeartbeats 4000000
namespace Ux
open PySem PySem.Spec PyProof.Rows L2
section
variable {X : Cx} {CX : CXT} {k n : Nat} {fI C : Addr} {fd : FuncData} {ps ks : List Str} {sp : Sp} {B newId initId : String} {bmB : List Value} {g : List Value → List Value → List Value} {gV : List V → List V → List V}
variable {x : Str} {p pos : Pos} {e : Expr} {es : List Expr} {kws : List Keyword} {ta tk : TA}
theorem kbn_pos {K : PySem.W.Frag} {fd : FuncData} {ps : List Str} (hb : Binds K fd ps []) (n : Nat) (hn : ps.length = n) : KBn K fd ps n [] (fun us _ => us) (fun vs _ => vs) := by
  refine ⟨fun s us ws IN l1 l2 => ?_, fun r _ => r⟩
  have hz : ws = [] := List.length_eq_zero_iff.mp l2
  subst hz
  have z := hb s us IN (by rw [List.append_nil, l1, hn])
  rw [List.append_nil] at z
  exact z
theorem kbn_mk {K : PySem.W.Frag} {y qual : Str} {st : Stmt} {f : Addr} {fd : FuncData} (F : Fun K y qual st f fd) (n : Nat) (ks : List Str) (g : {α : Type} → List α → List α → List α)
    (hrel : ∀ {vs zs : List V} {us ws : List Value}, Vals vs us → Vals zs ws → Vals (g vs zs) (g us ws))
    (h : ∀ (kV doc pm : Value) (an : Option Addr) (cdv ct : Value) (us ws : List Value), us.length = n → ws.length = ks.length → bindArgs (PySem.W.fnOf y qual (defArgs st) (defBody st) (defScope st) .none kV doc pm an cdv ct) ⟨us, ks.zip ws⟩ = pure (ps.zip (g us ws))) : KBn K fd ps n ks (fun us ws => g us ws) (fun vs zs => g vs zs) := by
  obtain ⟨oc, od, kV, doc, pm, an, cdv, ct, osl, rfl, lk, hcd⟩ := F.ex
  exact ⟨fun s us ws _ l1 l2 => .of_eq (h kV doc pm an cdv ct us ws l1 l2), fun r z => hrel r z⟩
/-- C(e, ..) -/
theorem pe_mkE (T : Ec X.K B newId initId bmB C) (iC : PySem.W.findIn X.K (.ref C) "__init__" = some (some (.ref fI))) (tI : PySem.W.typeIn X.K (.ref fI) = some (.type "function")) (F : FnOk X.prog X.w X.K X.mg X.base CX k fI fd ps sp) (hr : Room (k + 1) X.A)
    (hb : KBn X.K fd ps (n + 1) [] g gV) (hx : Passes CX X (fun _ _ _ => False)) (hn : n ≤ 1000) (hg : Gl X x) (hm : X.mg x = some (.ref C)) (ha : PA X (e :: es) ta)
    (hdb : (x == ("__debug__" : Str)) = false := by decide) (he : starEach (e :: es) X.env = (false, eval e X.env) :: starEach es X.env := by rfl) (hpl : (backTo pos (starEach es X.env)).any (·.1) = false := by rfl) :
    PE X (.Call (.Name x p) (e :: es) [] pos) (tMkE C n 0 sp gV ta tNil) := by
  refine ⟨fun pins s σ H Q I h => ?_⟩
  refine wpAny_Call_Name_kw (ld_glob I hg hm ?_ hdb)
  refine PySem.W.callWith_K (h₀ := X.base) I.ok.mod.kin T.kc (thn (ha.run pos pins s σ H _ I h) fun us s1 hh => ?_) he hpl
  obtain ⟨vs, H1, I1, r1, l1, _, z⟩ := hh
  refine ⟨I1.kIn, ?_⟩
  exact run_mkE (ks := []) (ws := []) (zs := []) T iC tI F hr hb hx I1 r1 .nil l1 rfl hn z
/-- C() -/
theorem pe_mkE0 (T : Ec X.K B newId initId bmB C) (iC : PySem.W.findIn X.K (.ref C) "__init__" = some (some (.ref fI))) (tI : PySem.W.typeIn X.K (.ref fI) = some (.type "function")) (F : FnOk X.prog X.w X.K X.mg X.base CX k fI fd ps sp) (hr : Room (k + 1) X.A)
    (hb : KBn X.K fd ps 1 [] g gV) (hx : Passes CX X (fun _ _ _ => False)) (hg : Gl X x) (hm : X.mg x = some (.ref C)) (hdb : (x == ("__debug__" : Str)) = false := by decide) : PE X (.Call (.Name x p) [] [] pos) (tMkE C 0 0 sp gV tNil tNil) := by
  refine ⟨fun pins s σ H Q I h => ?_⟩
  refine wpAny_Call_Name_kw (ld_glob I hg hm ?_ hdb)
  obtain ⟨l1, l2, z⟩ := h
  exact PySem.W.callWith_K0 I.kIn T.kc (run_mkE (ks := []) (ws := []) (zs := []) (us := []) (vs := []) T iC tI F hr hb hx I .nil .nil rfl rfl (Nat.zero_le _) z)
/-- C(k = e, ..) -/
theorem pe_mkEK (T : Ec X.K B newId initId bmB C) (iC : PySem.W.findIn X.K (.ref C) "__init__" = some (some (.ref fI))) (tI : PySem.W.typeIn X.K (.ref fI) = some (.type "function")) (F : FnOk X.prog X.w X.K X.mg X.base CX k fI fd ps sp) (hr : Room (k + 1) X.A)
    (hb : KBn X.K fd ps 1 ks g gV) (hx : Passes CX X (fun _ _ _ => False)) (hg : Gl X x) (hm : X.mg x = some (.ref C)) (hkw : PK X kws tk)
    (hall : (backToKw pos (keywordEach kws X.env)).all (·.1.isSome) = true := by rfl) (hks : (backToKw pos (keywordEach kws X.env)).filterMap (·.1) = ks := by rfl) (hdb : (x == ("__debug__" : Str)) = false := by decide)
    (hpl : ((backTo pos (starEach [] X.env)).any (·.1) || (backToKw pos (keywordEach kws X.env)).any (·.1.isNone)) = false := by rfl) :
    PE X (.Call (.Name x p) [] kws pos) (tMkE C 0 ks.length sp gV tNil tk) := by
  refine ⟨fun pins s σ H Q I h => ?_⟩
  refine wpAny_Call_Name_kw (ld_glob I hg hm ?_ hdb)
  refine PySem.W.callWith_KW0 (h₀ := X.base) I.ok.mod.kin T.kc hall ?_ hpl
  refine thn (hkw.run pos pins s σ H _ I h) fun ws s2 hh => ?_
  obtain ⟨zs, H2, I2, rz, l1, l2, z⟩ := hh
  refine ⟨I2.kIn, ?_⟩
  rw [hks]
  exact run_mkE (us := []) (vs := []) T iC tI F hr hb hx I2 .nil rz rfl l2 (Nat.zero_le _) z
end
/-! ### isinstance of an error -/
structure Ei (K : PySem.W.Frag) (C : Addr) : Prop where
  cl : (PySem.W.clsIn K C).isSome = true
  hg : PySem.W.findIn K (.ref C) "__getattribute__" = some (some (.builtin "BaseException.__getattribute__"))
  hk : PySem.W.findIn K (.ref C) "__getattr__" = some none
  hs : PySem.W.subIn K (.ref C) (.type "BaseException") = some true
  ha : PySem.W.findIn K (.ref C) "__class__" = some (some (.builtin "object.__class__"))
  hn : PySem.W.specialIn K (.builtin "object.__class__") "__get__" = some (some (.builtin "getset_descriptor.__get__"))
  ht : PySem.W.takesIn K (.builtin "object.__class__") = some true
  hm : PySem.W.mroIn K C (.type "object") = some true
/-- isinstance(e, c), e an error with its dict -/
def rIsEr (K : PySem.W.Frag) : List V → Hp → VK → Prop := fun xs H Q => ∃ (a C dx : Addr) (fs : List (Str × V)) (c : V) (u : Value) (b : Bool), xs = [.ref a, c] ∧ ClsV c u ∧ Ei K C ∧ H a = some (exo a C (some dx)) ∧ H dx = some (exd dx fs) ∧ PySem.W.kitOne K (.ref C) u = some b ∧ Q (.bl b) H
theorem call_isEr {X : Cx} : CallR X (.builtin "isinstance") (rIsEr X.K) := by
  intro pins s σ H xs us Q I r h
  obtain ⟨a, C, dx, fs, c, u, b, rfl, kc, E, ea, ed, e, q⟩ := h
  obtain ⟨u1, u2, rfl, r1, r2⟩ := vals2 r
  cases (show u1 = Value.ref a from r1)
  have ec := kc.eq r2
  subst ec
  obtain ⟨t1, hoa⟩ := exo_at I.hok ea
  obtain ⟨mA, hns, hr⟩ := exd_at I.hok ed
  obtain ⟨od, hod, hl⟩ := lookIn_ns hns
  have J : PySem.W.InstAt s.heap a (PySem.W.excObj C t1 (some dx) .none) C (some od) := ⟨hoa, rfl, rfl, hod⟩
  exact PySem.W.kia_one (PySem.W.kitx_exc E.cl E.hg E.hk E.hs E.ha E.hn E.ht E.hm) I.kIn J e (fun z => nomatch z) fun tk => ⟨.bl b, H, I.tok tk, rfl, q⟩
/-! ### abs and str of a truth value -/
theorem abs_true {prog : Program} {w : World} {A : Around} {E : Value → Shared → Prop} {s : Shared} {Q : Value → Shared → Prop} (h : ∀ u tk, Q (.int 1 u) { s with toks := tk }) : wpAny (model prog w) A (call (.builtin "abs") [.bool true]) Q E s := by
  refine PySem.Calls.call_function_entry kind_abs plain_abs entry_abs (args_abs _) ?_
  unfold Builtin.«abs»
  refine wpAny_bind (m := oneArg "abs" _) (wpAny_pure ?_)
  refine wpAny_bind (m := callSpecial? (.bool true) (Str.ofString "__abs__")) (wpAny_callSpecial?_slot (name := Str.ofString "__abs__") (PySem.typeIs_bool s true) F.slot_bool_abs
    (wpAny_call_entry F.slot_bool_abs (PySem.typeIs_bool s true) entry_int_abs ?_ (args_int_abs _)))
  have h' := h s.toks (s.toks + 1)
  exact wpAny_ret_mkInt (wpAny_pure ⟨_, rfl, h'⟩)
theorem call_absT {X : Cx} : CallR X (.builtin "abs") (fun xs H Q => (∃ i, xs = [.int i] ∧ Q (.int (if i < 0 then -i else i)) H) ∨ (xs = [.bl true] ∧ Q (.int 1) H)) := by
  intro pins s σ H xs us Q I r h
  rcases h with ⟨i, rfl, q⟩ | ⟨rfl, q⟩
  · obtain ⟨u, rfl, t, rfl⟩ := vals1 r
    exact call_abs_int fun u tk => ⟨.int (if i < 0 then -i else i), H, I.tok _, ⟨_, rfl⟩, q⟩
  · obtain ⟨u, rfl, r1⟩ := vals1 r
    cases (show u = Value.bool true from r1)
    exact abs_true fun u tk => ⟨.int 1, H, I.tok _, ⟨_, rfl⟩, q⟩
theorem str_true {prog : Program} {w : World} {A : Around} {E : Value → Shared → Prop} {s : Shared} {Q : Value → Shared → Prop} (h : Q (.str "True" s.toks) { s with toks := s.toks + 1 }) : wpAny (model prog w) A (call (.type "str") [.bool true]) Q E s :=
  callType_new F.called_str (by decide) (F.typeCall_str_1 _) (F.newCall_str_1 _) (fun obj => F.args_object_init_2 obj _) F.entry_str_new
    (meets_str_new (S := fun _ R s => R (.ok (.ret (.str "True" s.toks))) { s with toks := s.toks + 1 }) fun _ _ _ _ s hq =>
      wpAny_strOf_gives rfl (PySem.typeIs_bool s true) F.slot_bool_str F.slot_bool_repr F.entry_bool_repr (F.args_bool_repr_1 _) (gives_bool_repr true) hq (hsz := by decide)) ⟨typeIs_str _ _ _, h⟩
theorem call_strT {X : Cx} : CallR X (.type "str") (fun xs H Q => (∃ i, xs = [.int i] ∧ i.natAbs.log2 < 1920 ∧ Q (.str (toString i)) H) ∨ (xs = [.bl true] ∧ Q (.str "True") H)) := by
  intro pins s σ H xs us Q I r h
  rcases h with ⟨i, rfl, hz, q⟩ | ⟨rfl, q⟩
  · obtain ⟨u, rfl, t, rfl⟩ := vals1 r
    exact PySem.P.str_of_int hz ⟨.str _, H, I.tok _, ⟨_, rfl⟩, q⟩
  · obtain ⟨u, rfl, r1⟩ := vals1 r
    cases (show u = Value.bool true from r1)
    exact str_true ⟨.str _, H, I.tok _, ⟨_, rfl⟩, q⟩
theorem call_reprS {X : Cx} : CallR X (.builtin "repr") (fun xs H Q => ∃ x, xs = [.str x] ∧ (reprText x).length ≤ sizeLine ∧ Q (.str (reprText x)) H) := by
  intro pins s σ H xs us Q I r h
  obtain ⟨x, rfl, hz, q⟩ := h
  obtain ⟨u, rfl, t, rfl⟩ := vals1 r
  exact PySem.P.repr_of_str (hsz := hz) ⟨.str _, H, I.tok _, ⟨_, rfl⟩, q⟩
end Ux

set_option Elab.async false
set_option linter.all false
set_option maxRecDepth 100000
set_option maxHeartbeats 4000000
/-! Own classes: str, repr, == and != by the text's own methods. -/
namespace Ux
open PySem PySem.Spec PyProof.Rows L2
section
variable {X : Cx} {pins : List (Addr × Obj)} {σ : L2.St} {H : Hp} {s : Shared} {k : Nat} {f C : Addr} {fd : FuncData} {ps : List Str} {sp : Sp}
theorem own_run {A' : Around} {us : List Value} {vs : List V} {Q : VK} {R : Value → Shared → Prop} {E' : Value → Shared → Prop} (F : FnOk X.prog X.w X.K X.mg X.base CX0 k f fd ps sp) (hr : Room k A') (e0 : Env0 X.prog X.w X.K X.mg X.base A' X.stack s H)
    (hb : Binds X.K fd ps []) (I : Inv X pins σ H s) (r : Vals vs us) (h : sp vs H Q (fun _ _ _ => False)) (z : ∀ u s', EP X pins σ Q u s' → R u s') : wpAny (model X.prog X.w) A' (call (.ref f) us) R E' s := by
  have hl : us.length = ps.length := r.length.symm.trans (F.len _ _ _ _ h)
  have b := hb s us I.kIn (by rw [List.append_nil]; exact hl)
  rw [List.append_nil] at b
  refine wpAny_call (codeAny_mono (F.run A' X.stack s H ⟨us, []⟩ us vs Q (fun _ _ _ => False) hr e0 b r h) fun r s' hq => ?_)
  cases r with
  | error e => exact False.elim hq
  | ok fl =>
    cases fl with
    | ret u => exact z u s' (I.after hq)
    | next => exact False.elim hq
    | brk => exact False.elim hq
    | cont => exact False.elim hq
/-- an own method by its name, on an instance -/
structure OwnM (K : PySem.W.Frag) (C : Addr) (m : Str) (f : Addr) : Prop where
  at_ : PySem.W.findIn K (.ref C) m = some (some (.ref f))
  fn : PySem.W.isFn K (.ref f) = true
/-- a text handed back -/
def rOwnS (C : Addr) (sp : Sp) : List V → Hp → VK → Prop := fun xs H Q => ∃ (a dx : Addr) (fs : List (Str × V)), xs = [.ref a] ∧ H a = some (.ins C dx fs) ∧ sp [.ref a] H (fun v H' => ∃ z, v = .str z ∧ Q (.str z) H') (fun _ _ _ => False)
theorem call_strO (M : OwnM X.K C "__str__" f) (F : FnOk X.prog X.w X.K X.mg X.base CX0 k f fd ["self"] sp) (hb : Binds X.K fd ["self"] []) (hr : Room (k + 2) X.A) : CallR X (.type "str") (rOwnS C sp) := by
  intro pins s σ H xs us Q I r h
  obtain ⟨a, dx, fs, rfl, ea, q⟩ := h
  obtain ⟨u, rfl, rx⟩ := vals1 r
  cases (show u = Value.ref a from rx)
  obtain ⟨mA, O, _⟩ := ins_get I.hok ea
  obtain ⟨od, J, _⟩ := O.look
  refine PySem.W.kso_call hr.in1.in1.units0 I.kIn J M.at_ M.fn (own_run F hr.in1.in1 I.env0.in1.in1 hb (vs := [.ref a]) I (.cons rfl .nil) q fun u s' hq => ?_)
  obtain ⟨v, H', I', rv, z, ev, q'⟩ := hq
  subst ev
  obtain ⟨t, rfl⟩ := rv
  exact ⟨.str z, H', I', ⟨t, rfl⟩, q'⟩
theorem call_reprO (M : OwnM X.K C "__repr__" f) (F : FnOk X.prog X.w X.K X.mg X.base CX0 k f fd ["self"] sp) (hb : Binds X.K fd ["self"] []) (hr : Room (k + 1) X.A) : CallR X (.builtin "repr") (rOwnS C sp) := by
  intro pins s σ H xs us Q I r h
  obtain ⟨a, dx, fs, rfl, ea, q⟩ := h
  obtain ⟨u, rfl, rx⟩ := vals1 r
  cases (show u = Value.ref a from rx)
  obtain ⟨mA, O, _⟩ := ins_get I.hok ea
  obtain ⟨od, J, _⟩ := O.look
  obtain ⟨m, hF⟩ := I.fr
  refine PySem.W.repr_K hr.in1.units0 hF I.ok.mod.kin J M.at_ M.fn (own_run F hr.in1 I.env0.in1 hb (vs := [.ref a]) I (.cons rfl .nil) q fun u s' hq => ?_)
  obtain ⟨v, H', I', rv, z, ev, q'⟩ := hq
  subst ev
  obtain ⟨t, rfl⟩ := rv
  exact ⟨.str z, H', I', ⟨t, rfl⟩, q'⟩
/-- o == y, o != y by o's own __eq__ -/
def rOwnEq (K : PySem.W.Frag) (C : Addr) (sp : Sp) (neg : Bool) : R2 := fun x y H Q => ∃ (a dx : Addr) (fs : List (Str × V)) (t : Value), x = .ref a ∧ H a = some (.ins C dx fs) ∧ TyX K H y t ∧ PySem.W.notFirst K C t = true ∧ sp [x, y] H (fun v H' => ∃ b, v = .bl b ∧ Q (.bl (b != neg)) H') (fun _ _ _ => False)
theorem op_eqO (M : OwnM X.K C "__eq__" f) (F : FnOk X.prog X.w X.K X.mg X.base CX0 k f fd ["self", "other"] sp) (hb : Binds X.K fd ["self", "other"] []) (hr : Room k X.A) : OpR X (compareOp .Eq) (rOwnEq X.K C sp false) := by
  intro pins s σ H x y v u Q I rx ry h
  obtain ⟨a, dx, fs, t, rfl, ea, ty, nf, q⟩ := h
  cases (show v = Value.ref a from rx)
  obtain ⟨mA, O, _⟩ := ins_get I.hok ea
  obtain ⟨od, J, _⟩ := O.look
  obtain ⟨m, hF⟩ := I.fr
  obtain ⟨P', Z, hp, _⟩ := kit_of I ry ty
  show wpAny (model X.prog X.w) X.A (richCompare .Eq (.ref a) u) (EP X pins σ Q) X.xe s
  refine PySem.W.cmp_K (op := .Eq) (tb := t) hr.units0 hF I.ok.mod.kin J (Z.ty _ _ I.kIn hp) nf M.at_ M.fn (own_run F hr I.env0 hb (vs := [.ref a, y]) I (.cons rfl (.cons ry .nil)) q fun w s' hq => ?_)
  obtain ⟨v, H', I', rv, b, ev, q'⟩ := hq
  subst ev
  cases (show w = Value.bool b from rv)
  have e : (b != false) = b := by cases b <;> rfl
  rw [e] at q'
  exact ⟨.bl b, H', I', rfl, q'⟩
/-- what != wants besides: the class keeps object's __ne__ -/
structure NeO (K : PySem.W.Frag) (C : Addr) : Prop where
  ne : PySem.W.findIn K (.ref C) "__ne__" = some (some (.builtin "object.__ne__"))
  ob : PySem.W.mroIn K C (.type "object") = some true
end
end Ux
namespace Ux
open PySem PySem.W
section
variable {prog : Program} {w : World} {M : Model} {A : Around} {E : Value → Shared → Prop} {s : Shared} {K : Frag} {x C L f : Addr} {h₀ : Heap} {m : Str → Option Value} {ox : Obj} {od : Option Obj} {tb b : Value}
theorem ifBound_bi {name : Str} {id : String} {args : List Value} {Q : Option Value → Shared → Prop} (IN : K.In s.heap) (I : InstAt s.heap x ox C od) (hs : findIn K (.ref C) name = some (some (.builtin id))) (hb : ∀ self, bindSpecial (.builtin id) self = pure (.builtin id, [self]))
    (hn : (Value.builtin id == Value.none) = false) (h : wpAny M A (call (.builtin id) (.ref x :: args)) (fun v => Q (some v)) E s) : wpAny M A (callSpecialIfBound? (.ref x) name args) Q E s := by
  simp only [callSpecialIfBound?, bindSpecialIfBound?]
  refine wpAny_holding (wpAny_bind (wpAny_bind (wpAny_bind (I.type.here ((looks_findIn IN hs).here ?_)))))
  simp only [hb]
  refine wpAny_bind (wpAny_askSetting (wpAny_ite ?_))
  have last : wpAny M A (call (.builtin id) ([.ref x] ++ args) >>= fun v => pure (some v)) Q E s := wpAny_bind (wpAny_mono h (fun v s' z => wpAny_pure z) fun _ _ z => z)
  split
  · exact wpAny_bind (wpAny_pure (wpAny_pure last))
  · exact wpAny_tryCatch (wpAny_bind (wpAny_pure (wpAny_pure last)))
/-- o != b where o has its own __eq__ and keeps object's __ne__ -/
theorem ne_own {Q : Value → Shared → Prop} (hu : A.units < cLine) (hu1 : A.in1.units < cLine) (IN : K.In s.heap) (I : InstAt s.heap x ox C od) (hb : Looks (model prog w) s.heap (typeOf b) tb) (hn : notFirst K C tb = true)
    (hne : findIn K (.ref C) "__ne__" = some (some (.builtin "object.__ne__"))) (hm : mroIn K C (.type "object") = some true) (hs : findIn K (.ref C) "__eq__" = some (some (.ref f))) (hf : isFn K (.ref f) = true)
    (h : wpAny (model prog w) A.in1 (call (.ref f) [.ref x, b]) (fun v s' => ∃ r, v = .bool r ∧ Q (.bool (!r)) s') E s) : wpAny (model prog w) A (richCompare .NotEq (.ref x) b) Q E s := by
  have SL := PySem.F.cmp_object.ne
  have one : wpAny (model prog w) A (tryCompare (.ref x) "__ne__" b) (fun r s' => ∃ v, r = some v ∧ Q v s') E s := by
    unfold tryCompare
    refine wpAny_bind (ifBound_bi IN I hne SL.bind rfl ?_)
    refine wpAny_call (codeAny_call_builtin SL.plain PySem.F.cmpEntry_ne (check_slot (i := "object.__ne__") (owner := "object") (n := "__ne__") PySem.F.cmpKind_ne PySem.F.cmpSplit_ne (I.type.andThen (looks_mroIn IN hm)) (PySem.F.cmpArgs_ne _ _) ?_))
    unfold Builtin.«object.__ne__»
    refine wpAny_bind (m := slotArgs "__ne__" 1 _) (wpAny_pure ?_)
    refine wpAny_bind (m := cRoomFor _ _) (wpAny_cRoomFor hu1 ?_)
    refine wpAny_bind (m := callSpecialIfBound? (.ref x) (Str.ofString "__eq__") _) (ifBound_K IN I hs hf (wpAny_mono h (fun v s' z => ?_) fun _ _ z => z))
    obtain ⟨r, rfl, q⟩ := z
    refine wpAny_bind (wpAny_truthy_bool ?_)
    exact wpAny_pure (wpAny_pure ⟨_, rfl, q⟩)
  have SN : (cmpInfo .NotEq).2.1 = ("__ne__" : Str) := rfl
  unfold richCompare
  simp only [oneThing_ref, cmpInfo_NotEq]
  refine wpAny_holding (wpAny_bind (wpAny_cRoomFor hu ?_))
  refine wpAny_bind (I.type.here (wpAny_bind (hb.here ?_)))
  split
  · rename_i q
    have e : subIn K tb (.ref C) = some false := by
      rcases Bool.or_eq_true_iff.mp hn with e | e
      · rw [beq_iff_eq.mp e] at q
        simp at q
      · exact beq_iff_eq.mp e
    refine wpAny_bind ((looks_subIn IN e).here ?_)
    simp only [Bool.false_eq_true, if_false]
    refine wpAny_bind (wpAny_mono one (fun r s' z => ?_) fun _ _ e => e)
    obtain ⟨v, rfl, hq⟩ := z
    exact wpAny_pure hq
  · refine wpAny_bind (wpAny_pure ?_)
    simp only [Bool.false_eq_true, if_false]
    refine wpAny_bind (wpAny_mono one (fun r s' z => ?_) fun _ _ e => e)
    obtain ⟨v, rfl, hq⟩ := z
    exact wpAny_pure hq
end
end Ux
namespace Ux
open PySem PySem.Spec PyProof.Rows L2
section
variable {X : Cx} {k : Nat} {f C : Addr} {fd : FuncData} {sp : Sp}
theorem op_neO (M : OwnM X.K C "__eq__" f) (N : NeO X.K C) (F : FnOk X.prog X.w X.K X.mg X.base CX0 k f fd ["self", "other"] sp) (hb : Binds X.K fd ["self", "other"] []) (hr : Room (k + 1) X.A) : OpR X (compareOp .NotEq) (rOwnEq X.K C sp true) := by
  intro pins s σ H x y v u Q I rx ry h
  obtain ⟨a, dx, fs, t, rfl, ea, ty, nf, q⟩ := h
  cases (show v = Value.ref a from rx)
  obtain ⟨mA, O, _⟩ := ins_get I.hok ea
  obtain ⟨od, J, _⟩ := O.look
  obtain ⟨P', Z, hp, _⟩ := kit_of I ry ty
  show wpAny (model X.prog X.w) X.A (richCompare .NotEq (.ref a) u) (EP X pins σ Q) X.xe s
  refine ne_own (tb := t) hr.units0 hr.in1.units0 I.kIn J (Z.ty _ _ I.kIn hp) nf N.ne N.ob M.at_ M.fn (own_run F hr.in1 I.env0.in1 hb (vs := [.ref a, y]) I (.cons rfl (.cons ry .nil)) q fun w s' hq => ?_)
  obtain ⟨v, H', I', rv, b, ev, q'⟩ := hq
  subst ev
  cases (show w = Value.bool b from rv)
  have e : (b != true) = !b := by cases b <;> rfl
  rw [e] at q'
  exact ⟨b, rfl, .bl (!b), H', I', rfl, q'⟩
end
end Ux

set_option Elab.async false
set_option linter.all false
set_option maxRecDepth 100000
set_option maxHeartbeats 4000000
namespace Ux
open PySem PySem.Spec PyProof.Rows L2
/-! ### try: .. except (A, B) as n: .., where every exception of the body is caught -/
/-- what such a clause wishes of an exception -/
def wAs2 (K : PySem.W.Frag) (C1 C2 : Addr) (len i : Nat) (ts : Addr → Value → Option Addr → TS) (D : Ends) : WX := fun cls d σ H =>
  PySem.W.exmAny K cls [.ref C1, .ref C2] = some true ∧ ∀ a, H a = none → σ.length = len →
    ts a cls d ⟨fun σ' H' => D.nx (σ'.set i none) H', D.rt, fun σ' H' => D.bk (σ'.set i none) H', fun σ' H' => D.ct (σ'.set i none) H'⟩ (σ.set i (some (.ref a))) H
theorem fly_push {B h : Heap} {l : List Env} {e : Addr} {Z : Obj → Prop} {o : Obj} (f : HandSPX.FlyingZ B l e Z h) : HandSPX.FlyingZ B l e Z (h.push o) := by
  obtain ⟨k1, k2, k3, oe, vs, T, oT, ts, a1, a2, a3, a4, a5, a6, a7, a8, a9⟩ := f
  have kp : ∀ {b u}, h.get? b = some u → (h.push o).get? b = some u := fun z => Heap.get?_push_of_some _ z
  exact ⟨fun b u z => kp (k1 b u z), k2, k3.of_keeps fun b u z _ => ⟨u, kp z, rfl⟩, oe, vs, T, oT, ts, kp a1, a2, a3, a4, a5, a6, kp a7, a8, a9⟩
section
variable {X : Cx} {x1 x2 n : Str} {C1 C2 : Addr} {i : Nat} {body suite : List Stmt} {b₀ : Stmt} {p1 p2 tpos pos pos' : Pos} {kk : Nat} {tb : WX → TS} {ts : Addr → Value → Option Addr → TS}
theorem ps_try_as2 (hs : X.stack = X.env :: X.outer) (hf : X.env.frame = some X.env.locals) (hN : X.N.Nodup) (hi : X.N[i]? = some n) (hln : X.env.kindOf n = some .local)
    (g1 : Gl X x1) (g2 : Gl X x2) (m1 : X.mg x1 = some (.ref C1)) (m2 : X.mg x2 = some (.ref C2)) (d1 : (x1 == ("__debug__" : Str)) = false) (d2 : (x2 == ("__debug__" : Str)) = false)
    (hb : ∀ (W : WX) (pn : List (Addr × Obj)) (xe : Value → Shared → Prop), Takes (X.tr pn xe) W → PassesOwn (model X.prog X.w) X.A X.env xe → PSs (X.tr pn xe) body (tb W))
    (hsu : ∀ (a : Addr) (oe : Obj) (cls : Value) (d : Option Addr) (pn : List (Addr × Obj)), Zc cls d oe → (∃ vs, oe.data = .fields vs) → PSs (X.suite a ((a, oe) :: pn)) (b₀ :: suite) (ts a cls d)) :
    PS X (.Try body [.ExceptHandler (some (.Tuple [.Name x1 p1, .Name x2 p2] kk tpos)) (some n) (b₀ :: suite) pos'] [] [] pos) (fun D σ H => tb (wAs2 X.K C1 C2 X.N.length i ts D) D σ H) := by
  constructor
  intro pins s σ H D I h
  have ok := I.ok
  have frm : X.A.frames = some (X.env :: X.outer) := ok.frames.trans (congrArg some hs)
  refine wpAny_Try_except (wpAny_mono ((hb (wAs2 X.K C1 C2 X.N.length i ts D) (X.pn ++ pins) (fun e s₁ => wpAny (model X.prog X.w) X.A (noteFrame e X.env) (fun _ s₂ => wpAny (model X.prog X.w) X.A (setFlight e none)
    (fun _ s₃ => wpAny (model X.prog X.w) X.A (handleBy e X.env [.ExceptHandler (some (.Tuple [.Name x1 p1, .Name x2 p2] kk tpos)) (some n) (b₀ :: suite) pos']) (SP X pins D) X.xe s₃) X.xe s₂) X.xe s₁)
    (fun u sx caught => ?_) PassesOwn.looking).run [] s σ H D (I.toTry _) h) (fun f sf done => ?_) (fun _ _ z => z))
  · obtain ⟨a, B, sI, pins', σc, Hc, cls, d, rfl, Jt, nb, up, sky, na, os, ag, hm, go⟩ := caught
    have J := Jt.ofTry ok
    rw [hs] at sky
    show wpAny (model X.prog X.w) X.A (noteFrame (.ref a) X.env) _ _ _
    refine Sky.land Zc.steady frm hf sky fun h1 fl1 up1 => ?_
    have J1 : Inv X pins σc Hc { sx with heap := h1 } := J.landed nb fl1.1 (up.trans up1) os ag
    obtain ⟨oe, vs, he, hz, hd⟩ := fl1.there
    have out : a ∉ frs (X.env :: X.outer) := fun m => by
      obtain ⟨_, o', e', hnf⟩ := fl1.2.2.1.mem m
      have q := Option.some.inj (he.symm.trans e')
      exact hnf vs (q ▸ hd)
    have nL : a ≠ X.env.locals := fun z => out (List.mem_filterMap.mpr ⟨X.env, List.mem_cons_self, hf.trans (congrArg some z.symm)⟩)
    have nF : a ∉ X.fs := fun m => by
      obtain ⟨e, h2, h3⟩ := List.mem_filterMap.mp m
      exact out (List.mem_filterMap.mpr ⟨e, List.mem_cons_of_mem _ h2, h3⟩)
    have S1 := J1.suite he hd na nL nF
    refine wpAny_handleBy_cons (codeAny_handlers_test ?_) (by intro q; cases q)
    have LT : PySem.W.Looks (model X.prog X.w) h1 (typeOf (.ref a)) cls := fun A Q E s k q => wpAny_typeOf_ref (k _ _ he) (hz.1.symm ▸ q)
    refine wpAny_Tuple (wpAny_items_cons (ld_glob (X := X.suite a ((a, oe) :: (X.pn ++ pins))) S1 g1 m1 ?_ d1))
    refine wpAny_items_cons (ld_glob (X := X.suite a ((a, oe) :: (X.pn ++ pins))) S1 g2 m2 ?_ d2)
    refine wpAny_items_nil ⟨(by show 2 ≤ sizeLine; decide), ?_⟩
    have kp : ∀ q o, h1.get? q = some o → (h1.push { cls := .type "tuple", data := .seq [Value.ref C1, Value.ref C2].toArray }).get? q = some o := fun _ _ z => Heap.get?_push_of_some _ z
    refine (PySem.W.exm_tup2 (J1.kIn.keeps kp) (LT.keeps kp) (Heap.get?_push_size h1 rfl) hm).here ?_
    refine codeAny_handlers_suite_as (HandSPX.lands_againZ (fly_push fl1) fun h2 fl2 up2 => ?_)
    have J2 : Inv X pins σc Hc { sx with heap := h2 } := J.landed nb fl2.1 (((up.trans up1).trans (Heap.UpToSlots.of_keeps kp)).trans up2) os ag
    obtain ⟨oe2, vs2, he2, hz2, hd2⟩ := fl2.there
    have S2 := J2.suite he2 hd2 na nL nF
    refine store_ok (X := X.suite a ((a, oe2) :: (X.pn ++ pins))) (v := .ref a) S2 hN hi (.inl hln) rfl (fun s3 S3 => ?_) (.inr hln)
    refine wpAny_mono ((hsu a oe2 cls d (X.pn ++ pins) hz2 ⟨_, hd2⟩).run [] s3 _ Hc _ S3 (go a na J.len)) (fun f s4 fin => ?_) (fun _ _ z => z.elim)
    have gone : ∀ {σ4 : L2.St} {H4 : Hp} {Q : Shared → Prop}, Inv (X.suite a ((a, oe2) :: (X.pn ++ pins))) [] σ4 H4 s4 → (∀ s5, Inv X pins (σ4.set i none) H4 s5 → Q s5) →
        wpAny (model X.prog X.w) X.A (do bindName X.env n .none; unbindBehindTheSuite X.env n pos') (fun _ s5 => Q s5) X.xe s4 := fun S4 q4 => gone_ok (S4.unsuite ok) hN hi hln q4
    cases f with
    | ret u =>
      obtain ⟨v4, σ4, H4, S4, r4, q4⟩ := fin
      exact gone S4 fun s5 J5 => ⟨_, _, _, J5, r4, q4⟩
    | next =>
      obtain ⟨σ4, H4, S4, q4⟩ := fin
      exact gone S4 fun s5 J5 => ⟨_, _, J5, q4⟩
    | brk =>
      obtain ⟨σ4, H4, S4, q4⟩ := fin
      exact gone S4 fun s5 J5 => ⟨_, _, J5, q4⟩
    | cont =>
      obtain ⟨σ4, H4, S4, q4⟩ := fin
      exact gone S4 fun s5 J5 => ⟨_, _, J5, q4⟩
  · cases f with
    | ret u =>
      obtain ⟨v, σ5, H5, J5, r, q⟩ := done
      exact ⟨v, σ5, H5, J5.ofTry ok, r, q⟩
    | next =>
      obtain ⟨σ5, H5, J5, q⟩ := done
      exact wpAny_execs_nil ⟨σ5, H5, J5.ofTry ok, q⟩
    | brk =>
      obtain ⟨σ5, H5, J5, q⟩ := done
      exact ⟨σ5, H5, J5.ofTry ok, q⟩
    | cont =>
      obtain ⟨σ5, H5, J5, q⟩ := done
      exact ⟨σ5, H5, J5.ofTry ok, q⟩
end
end Ux

set_option Elab.async false
set_option linter.all false
set_option maxRecDepth 100000
set_option maxHeartbeats 4000000
namespace Ux
open PySem PySem.Spec PyProof.Rows L2
/-! ### within an except suite: fields of the caught exception, defs that are handed it -/
/-- a caught exception: its class C, its dict dd -/
def Caught (p : Addr × Obj) (C dd : Addr) : Prop := Zc (.ref C) (some dd) p.2 ∧ ∃ vs, p.2.data = .fields vs
/-- e.f, e the exception of a pin -/
def tPf (a dd : Addr) (f : Str) (te : TE) : TE := fun σ H Q => te σ H fun x H1 => ∃ (fs : List (Str × V)) (v : V), x = .ref a ∧ H1 dd = some (.xd fs) ∧ fs.lookup f = some v ∧ Q v H1
section
variable {X : Cx} {C dd : Addr} {p : Addr × Obj} {e : Expr} {te : TE} {pos : Pos} {f : Str}
theorem pe_pf (T : XfC X.K C) (no : PySem.W.findIn X.K (.ref C) f = some none) (hp : p ∈ X.pn) (c : Caught p C dd) (he : PE X e te) (hb : attributeBase e f X.env (eval e X.env) = eval e X.env := by rfl) : PE X (.Attribute e f pos) (tPf p.1 dd f te) := by
  constructor
  intro pins s σ H Q I h
  refine attr_of hb (thn (he.run pins s σ H _ I h) fun u s1 got => ?_)
  obtain ⟨x, H1, I1, rx, fs, v, rfl, hx, l, q⟩ := got
  cases (show u = Value.ref p.1 from rx)
  obtain ⟨⟨z1, z2⟩, vs, hd⟩ := c
  have ok : ObjOk X.prog X.w H1 s1.heap dd (.xd fs) := I1.hok dd _ hx
  obtain ⟨mA, ns, rel⟩ := ok
  obtain ⟨od, ho, hl⟩ := lookIn_ns ns
  obtain ⟨w, hw, rw'⟩ := RelO.some_of (v := v) (o := mA f) (l ▸ rel f)
  have J : PySem.W.InstAt s1.heap p.1 p.2 C (some od) := ⟨(I1.pin p (List.mem_append_left _ hp)).1, z1, by unfold PySem.W.notCls; rw [hd] <;> rfl, by rw [z2]; exact ho⟩
  exact HandSPX.exc_get I1.kIn J T.ga T.gg T.exC (PySem.W.findObj_own T.hdC no rfl ((hl f).trans (congrArg some hw))) (handed_of rw') ⟨v, H1, I1.tok _, rw', q⟩
end
/-- what a def promises that is called while p's exception is handled -/
structure FnQ (P : Program) (w : World) (K : PySem.W.Frag) (mg : Str → Option Value) (base : Heap) (k : Nat) (f : Addr) (fd : FuncData) (ps : List Str) (sp : Addr × Obj → Sp) : Prop where
  len : ∀ p vs H Q E, sp p vs H Q E → vs.length = ps.length
  run : ∀ (A : Around) (outer : List Env) (s : Shared) (H : Hp) (args : Args) (us : List Value) (vs : List V) (Q : VK) (E : XK) (p : Addr × Obj), L2H.RoomH k A → L2H.PinOk outer H s p → Env0 P w K mg base A outer s H → BindsTo s fd args (ps.zip us) → Vals vs us → sp p vs H Q E →
    codeAny (model P w) A (.call (.ref f) args) (CR CX0 outer P w H s Q E) s
theorem Fun.okQ {P : Program} {w : World} {K : PySem.W.Frag} {mg : Str → Option Value} {base : Heap} {k : Nat} {f : Addr} {fd : FuncData} {x qual : Str} {st : Stmt} {N ps : List Str} {sp : Addr × Obj → Sp} (F : Fun K x qual st f fd) (S : FnScope N ps (defScope st))
    (len : ∀ p vs H Q E, sp p vs H Q E → vs.length = ps.length)
    (body : ∀ (cdv : Value) (A : Around) (outer : List Env) (s : Shared) (H : Hp) (vs : List V) (Q : VK) (E : XK) (p : Addr × Obj), L2H.RoomH k (A.deeper (envOfC qual (defScope st) s.heap.objs.size f cdv)) → sp p vs H Q E →
      ∃ t, PSs (L2H.cxH CX0 P w K mg base N qual (defScope st) f cdv A outer s H E p) (defBody st) t ∧ t { nx := fun _ H' => Q .non H', rt := Q } (L2.start N vs) H) :
    FnQ P w K mg base (k + 1) f fd ps sp := by
  obtain ⟨oc, od, kV, doc, pm, an, cdv, ct, osl, rfl, lk, hcd⟩ := F.ex
  refine ⟨len, fun A outer s H args us vs Q E p hr pin e0 hb r want => ?_⟩
  have kin : K.In s.heap := e0.mod.kin.keeps fun b o z => (e0.bs b o z).1
  have lim : s.heap.NoLimit := e0.mod.nolimit.keeps fun b o z => (e0.bs b o z).1
  have kinds : ∀ y ∈ ps.zip us, (defScope st).names.lookup y.1 = some .local ∨ ((defScope st).names.lookup y.1 = some .cell ∧ ((cellsFrom (s.heap.objs.size + 1) (defScope st).names []).lookup y.1).isSome = true) := by
    rintro ⟨n, v⟩ hy
    rcases S.par n (List.of_mem_zip hy).1 with z | z
    · exact .inl z
    · exact .inr ⟨z, PySem.W.cellsFrom_some _ _ _ (.inl z)⟩
  refine codeAny_call_function hr.depth (kin _ _ lk) rfl S.co S.gen rfl (PySem.W.codeRec_of kin hcd) (hb _ _ _ _ (wpAny_newFunctionEnv_cells S.kind kinds fun env he s1 inn => ?_))
  subst he
  obtain ⟨t, ht, hq⟩ := body cdv A outer s H vs Q E p (hr.deeper _) want
  have I := L2H.inv_startH (CX := CX0) (E := E) S pin e0 (len _ _ _ _ _ want) r inn
  refine ⟨lim.keeps inn.toInCall.keep, codeAny_func (wpAny_mono (ht.run [] s1 (L2.start N vs) H _ I hq) (fun fl s2 fin => ?_) fun _ _ z => z)⟩
  cases fl with
  | ret u =>
    obtain ⟨v, σ2, H2, J, rv, q⟩ := fin
    exact ⟨v, H2, J.os, J.bare, J.base, J.hok, rv, q⟩
  | next =>
    obtain ⟨σ2, H2, J, q⟩ := fin
    exact ⟨.non, H2, J.os, J.bare, J.base, J.hok, rfl, q⟩
  | brk =>
    obtain ⟨_, _, _, q⟩ := fin
    exact q.elim
  | cont =>
    obtain ⟨_, _, _, q⟩ := fin
    exact q.elim
/-- such a call, with one argument -/
def tCallQ (p : Addr × Obj) (sp : Addr × Obj → Sp) (t : TA) : TE := fun σ H Q => t σ H fun vs H1 => sp p vs H1 Q E0
section
variable {X : Cx} {k : Nat} {f : Addr} {fd : FuncData} {ps : List Str} {sp : Addr × Obj → Sp} {x : Str} {q pos : Pos} {e : Expr} {es : List Expr} {t : TA} {p : Addr × Obj}
theorem pe_callQ (F : FnQ X.prog X.w X.K X.mg X.base k f fd ps sp) (hr : L2H.RoomH k X.A) (hp : p ∈ X.pn) (hg : Gl X x) (hm : X.mg x = some (.ref f)) (hk : PySem.W.keepIn X.K (.ref f) = true) (hb : Binds X.K fd ps [])
    (ha : PA X (e :: es) t) (hdb : (x == ("__debug__" : Str)) = false := by decide) (he : starEach (e :: es) X.env = (false, eval e X.env) :: starEach es X.env := by rfl) (hpl : (backTo pos (starEach es X.env)).any (·.1) = false := by rfl) :
    PE X (.Call (.Name x q) (e :: es) [] pos) (tCallQ p sp t) := by
  constructor
  intro pins s σ H Q I h
  refine wpAny_Call_Name_kw (ld_glob I hg hm ?_ hdb)
  refine PySem.W.callWith_K (h₀ := X.base) I.ok.mod.kin hk (thn (ha.run pos pins s σ H _ I h) fun us s1 got => ?_) he hpl
  obtain ⟨vs, H1, I1, r, want⟩ := got
  refine ⟨I1.kIn, ?_⟩
  have b := hb s1 us I1.kIn (by rw [List.append_nil, ← r.length]; exact F.len _ _ _ _ _ want)
  rw [List.append_nil] at b
  obtain ⟨a1, a2, a3, a4, a5⟩ := I1.pin p (List.mem_append_left _ hp)
  refine wpAny_call (codeAny_mono (F.run X.A X.stack s1 H1 ⟨us, []⟩ us vs Q E0 p hr ⟨a1, a2, fun m => (List.mem_cons.mp (I1.stkSub p.1 m)).elim a3 a4, a5⟩ I1.env0 b r want) fun r2 s2 fin => ?_)
  cases r2 with
  | error e => exact pass0 (X := X) pins σ H1 s1 e s2 I1 fin
  | ok fl =>
    cases fl with
    | ret u => exact I1.after fin
    | next => exact fin.elim
    | brk => exact fin.elim
    | cont => exact fin.elim
end
end Ux

set_option Elab.async false
set_option linter.all false
set_option maxRecDepth 100000
set_option maxHeartbeats 4000000
namespace K37
open PySem PySem.Spec PyProof.Rows L2 Ux
def top (i : Nat) : Stmt := PySem.Challenge.pw_unseenslopes_k37_sheets_made.main.body.getD i (.Pass ⟨0, 0, 0, 0⟩)
abbrev sBag : Stmt := top 28
abbrev sPull : Stmt := top 29
abbrev sOf : Stmt := top 30
abbrev sSame : Stmt := top 31
/-- the built-ins that the text calls still stand -/
structure Bn (mg : Str → Option Value) : Prop where
  isin : mg "isinstance" = none
  tstr : mg "str" = none
  tint : mg "int" = none
  tlist : mg "list" = none
  ttuple : mg "tuple" = none
  tbool : mg "bool" = none
  fabs : mg "abs" = none
  frepr : mg "repr" = none
  flen : mg "len" = none
  frange : mg "range" = none
  fzip : mg "zip" = none
  fall : mg "all" = none
  tve : mg "ValueError" = none
  tle : mg "LookupError" = none
def BagL (l : Addr) (p : Nat) (g s c : Int) : List V := [.ref l, .int p, .int g, .int s, .int c]
/-- the bag of numbers at b, asked at most n times -/
structure BagAt (H : Hp) (b : Addr) (n : Nat) : Prop where
  ex : ∃ (l : Addr) (ns : List Int) (p : Nat) (g s c : Int), H b = some (.lst (BagL l p g s c)) ∧ H l = some (.lst (ns.map V.int)) ∧ b ≠ l ∧ 0 ≤ g ∧ 0 ≤ s ∧ s < 2147483549 ∧ 0 ≤ c ∧ c ≤ n
/-- all that was told stands, but what is at b -/
def But (b : Addr) (H H' : Hp) : Prop := ∀ x o, H x = some o → x ≠ b → H' x = some o
theorem But.refl {b : Addr} {H : Hp} : But b H H := fun _ _ h _ => h
theorem But.upd {b : Addr} {H H' : Hp} {o : HO} (h : But b H H') : But b H (upd H' b o) := fun x u e n => by
  rw [upd_ne n]
  exact h x u e n
theorem But.trans {b : Addr} {H H1 H2 : Hp} (h : But b H H1) (k : But b H1 H2) : But b H H2 := fun x o e n => k x o (h x o e n) n
/-- the list at b keeps its first item -/
def Hd (b : Addr) (H H' : Hp) : Prop := ∀ (l : Addr) (r : List V), H b = some (.lst (V.ref l :: r)) → ∃ r', H' b = some (.lst (V.ref l :: r'))
/-- all but b stands, and b keeps its first item -/
def Bt (b : Addr) (H H' : Hp) : Prop := But b H H' ∧ Hd b H H'
theorem Bt.trans {b : Addr} {H H1 H2 : Hp} (h : Bt b H H1) (k : Bt b H1 H2) : Bt b H H2 := ⟨h.1.trans k.1, fun l r e => by
  obtain ⟨r1, e1⟩ := h.2 l r e
  exact k.2 l r1 e1⟩
def spPull : Sp := fun vs H Q _ => ∃ (b : Addr) (m : Int) (n : Nat), vs = [.ref b, .int m] ∧ 0 < m ∧ m < 1073741824 ∧ BagAt H b n ∧ n ≤ 1000000000 ∧ ∀ (r : Int) (H' : Hp), 0 ≤ r → r < m → BagAt H' b (n + 1) → Bt b H H' → Q (.int r) H'
section
variable {P : Program} {w : World} {K : PySem.W.Frag} {mg : Str → Option Value} {base : Heap}
theorem scPull : FnScope ["_law_bag_here", "_law_many", "_law_cell", "_law_small", "_law_digit", "_law_seed", "_law_step"] ["_law_bag_here", "_law_many"] (defScope sPull) := ⟨rfl, rfl, rfl, by decide +kernel, rfl, by decide +kernel, by decide +kernel⟩
theorem ok_pull {f : Addr} {fd : FuncData} (F : Fun K "_law_pull" "_law_pull" sPull f fd) (T : Bn mg) : FnOk P w K mg base CX0 1 f fd ["_law_bag_here", "_law_many"] spPull := by
  refine F.ok scPull (fun vs H Q E h => ?_) (fun cdv A outer s H vs Q E hr h => ?_)
  · obtain ⟨b, m, n, rfl, _⟩ := h
    rfl
  · obtain ⟨b, m, n, rfl, m0, m1, ⟨l, ns, p, g, s', c, hb, hl, nbl, g0, s0, s1, c0, c1⟩, hn, k⟩ := h
    refine ⟨_, pss_cons (ps_asg (pe_op op_add (pe_ix ix_list (pv 0) pe_int (fun _ _ => rfl)) pe_int) (pg_sub (pv 0) pe_int set_list))
      (C8.pss_cut (ps_if (PW.pt (pw_and (pt_cmpR op_eq (pe_ix ix_list (pv 0) pe_int (fun _ _ => rfl)) pe_int (nomark _))
            (pw_and1 (pt_cmpR op_lt (pe_ix ix_list (pv 0) pe_int (fun _ _ => rfl)) (pe_callB call_len (by rfl) T.flen (by decide +kernel) (pa_cons (pe_ix ix_list (pv 0) pe_int (fun _ _ => rfl)) pa_nil)) (nomark _)))))
          (pss_cons (ps_set (i := 2) scPull.nd rfl (Or.inl rfl) (pe_ix ix_list (pe_ix ix_list (pv 0) pe_int (fun _ _ => rfl)) (pe_ix ix_list (pv 0) pe_int (fun _ _ => rfl)) (fun _ _ => rfl)))
          (pss_cons (ps_asg (pe_op op_add (pe_ix ix_list (pv 0) pe_int (fun _ _ => rfl)) pe_int) (pg_sub (pv 0) pe_int set_list))
          (pss_one (ps_if (pt_cmpR op_ge (pe_callB call_abs (by rfl) T.fabs (by decide +kernel) (pa_cons (pv 2) pa_nil)) (pe_op op_pow pe_int pe_int) (nomark _))
            (pss_one (ps_asg (pe_callB call_abs (by rfl) T.fabs (by decide +kernel) (pa_cons (pv 2) pa_nil)) (pg_sub (pv 0) pe_int set_list)))
            (pss_cons (ps_set (i := 3) scPull.nd rfl (Or.inl rfl) (pe_op op_add (pe_op op_mul (pe_op op_mod (pe_callTy call_int1 (by rfl) T.tint (by decide +kernel) (pa_cons (pv 2) pa_nil)) pe_int) pe_int) pe_int))
            (pss_one (ps_asg (pe_op op_mod (pe_callTy call_int1 (by rfl) T.tint (by decide +kernel) (pa_cons (pe_op op_add (pe_op op_mul (pe_ix ix_list (pv 0) pe_int (fun _ _ => rfl)) pe_int) (pv 3)) pa_nil)) pe_int) (pg_sub (pv 0) pe_int set_list))))))))
          pss_nil)
      (pss_cons (ps_if (pt_cmpR op_gt (pe_ix ix_list (pv 0) pe_int (fun _ _ => rfl)) pe_int (nomark _))
          (pss_cons (ps_set (i := 4) scPull.nd rfl (Or.inl rfl) (pe_op op_mod (pe_callTy call_int1 (by rfl) T.tint (by decide +kernel) (pa_cons (pe_ix ix_list (pv 0) pe_int (fun _ _ => rfl)) pa_nil)) (pv 1)))
          (pss_cons (ps_asg (pe_op op_fdiv (pe_ix ix_list (pv 0) pe_int (fun _ _ => rfl)) (pv 1)) (pg_sub (pv 0) pe_int set_list))
          (pss_one (ps_ret (pv 4))))) pss_nil)
      (pss_cons (ps_set (i := 5) scPull.nd rfl (Or.inl rfl) (pe_ix ix_list (pv 0) pe_int (fun _ _ => rfl)))
      (pss_cons (ps_set (i := 6) scPull.nd rfl (Or.inl rfl) (pe_op op_add (pe_op op_add (pe_op op_mul (pv 5) pe_int) (pe_op op_mul (pe_ix ix_list (pv 0) pe_int (fun _ _ => rfl)) pe_int)) pe_int))
      (pss_cons (ps_asg (pe_op op_mod (pe_callTy call_int1 (by rfl) T.tint (by decide +kernel) (pa_cons (pe_op op_add (pe_op op_mul (pe_op op_mul (pv 5) (pv 5)) pe_int) (pv 6)) pa_nil)) pe_int) (pg_sub (pv 0) pe_int set_list))
      (pss_one (ps_ret (pe_op op_mod (pe_callTy call_int1 (by rfl) T.tint (by decide +kernel) (pa_cons (pe_op op_add (pe_op op_fdiv (pe_ix ix_list (pv 0) pe_int (fun _ _ => rfl)) pe_int) (pe_op op_mul (pe_op op_mod (pe_callTy call_int1 (by rfl) T.tint (by decide +kernel) (pa_cons (pe_ix ix_list (pv 0) pe_int (fun _ _ => rfl)) pa_nil)) pe_int) pe_int)) pa_nil)) (pv 1))))))))), ?_⟩
    -- bag[4] = bag[4] + 1
    refine ⟨_, rfl, b, _, 4, _, rfl, rfl, .of hb, rfl, _, _, rfl, rfl, _, rfl, b, _, 4, 4, rfl, rfl, hb, rfl, ?_⟩
    have hb1 : upd H b (.lst (BagL l p g s' (c + 1))) b = some (.lst (BagL l p g s' (c + 1))) := upd_same
    have hl1 : upd H b (.lst (BagL l p g s' (c + 1))) l = some (.lst (ns.map V.int)) := (upd_ne (Ne.symm nbl)).trans hl
    have f1 : But b H (upd H b (.lst (BagL l p g s' (c + 1)))) := But.refl.upd
    -- the first if: the bag again
    refine ⟨fun σ H2 => ∃ (v2 v3 : Option V) (p : Nat) (g s : Int), σ = [some (.ref b), some (.int m), v2, v3, none, none, none] ∧ H2 b = some (.lst (BagL l p g s (c + 1))) ∧ H2 l = some (.lst (ns.map V.int)) ∧ 0 ≤ g ∧ 0 ≤ s ∧ s < 2147483549 ∧ But b H H2, ?_, ?_⟩
    · refine ⟨_, rfl, b, _, 2, _, rfl, rfl, .of hb1, rfl, rfl, _, rfl, ?_⟩
      by_cases hg : (V.int g) = V.int 0
      · rw [decide_eq_true hg]
        refine iteT ⟨_, rfl, b, _, 1, _, rfl, rfl, .of hb1, rfl, _, rfl, b, _, 0, _, rfl, rfl, .of hb1, rfl, _, _, rfl, .inl ⟨_, .of hl1, rfl⟩, _, _, rfl, rfl, _, rfl, ?_⟩
        by_cases hp : (p : Int) < ((ns.map V.int).length : Nat)
        · rw [decide_eq_true hp]
          have hp' : p < ns.length := by
            rw [List.length_map] at hp
            omega
          have hat : (ns.map V.int)[p]? = some (V.int ns[p]) := by
            rw [List.getElem?_map, List.getElem?_eq_getElem hp']
            rfl
          refine iteT ⟨_, rfl, b, _, 0, _, rfl, rfl, .of hb1, rfl, _, rfl, b, _, 1, _, rfl, rfl, .of hb1, rfl, l, _, _, _, rfl, rfl, .of hl1, atI_nat hat, ?_⟩
          refine ⟨_, rfl, b, _, 1, _, rfl, rfl, .of hb1, rfl, _, _, rfl, rfl, _, rfl, b, _, 1, 1, rfl, rfl, hb1, rfl, ?_⟩
          generalize ns[p] = z
          have hb2 : ∀ H2 : Hp, upd H2 b (.lst (BagL l (p + 1) g s' (c + 1))) b = some (.lst (BagL l (p + 1) g s' (c + 1))) := fun _ => upd_same
          refine ⟨_, rfl, _, rfl, _, _, rfl, rfl, ⟨by decide, by decide, by decide⟩, _, _, rfl, rfl, _, rfl, ?_⟩
          refine ite2 (fun big => ?_) (fun _ => ?_)
          · refine ⟨_, rfl, _, rfl, _, rfl, b, _, 2, 2, rfl, rfl, hb2 _, rfl, ?_⟩
            refine ⟨_, _, p + 1, _, s', rfl, upd_same, ?_, ?_, s0, s1, ((f1.upd).upd)⟩
            · rw [upd_ne (Ne.symm nbl), upd_ne (Ne.symm nbl)]
              exact hl1
            · show (0 : Int) ≤ if z < 0 then -z else z
              split <;> omega
          · refine ⟨_, rfl, .inl ⟨_, rfl, _, _, rfl, rfl, (by show (0 : Int) < 1000000007; decide), _, _, rfl, rfl, ?_, _, _, rfl, rfl, ?_⟩⟩
            · have q1 := Int.emod_nonneg z (show (1000000007 : Int) ≠ 0 by decide)
              have q2 := Int.emod_lt_of_pos z (show (0 : Int) < 1000000007 by decide)
              exact .inl ⟨by omega, by omega⟩
            · refine ⟨_, rfl, b, _, 3, _, rfl, rfl, .of (hb2 _), rfl, _, _, rfl, rfl, .inl ⟨by omega, by omega⟩, _, rfl, _, _, rfl, rfl, .inl ⟨_, rfl, _, _, rfl, rfl, (by show (0 : Int) < 2147483549; decide), ?_⟩⟩
              refine ⟨_, rfl, b, _, 3, 3, rfl, rfl, hb2 _, rfl, ?_⟩
              refine ⟨_, _, p + 1, g, _, rfl, upd_same, ?_, g0, Int.emod_nonneg _ (by decide), Int.emod_lt_of_pos _ (by decide), ((f1.upd).upd)⟩
              rw [upd_ne (Ne.symm nbl), upd_ne (Ne.symm nbl)]
              exact hl1
        · rw [decide_eq_false hp]
          refine iteF ?_
          exact ⟨_, _, p, g, s', rfl, hb1, hl1, g0, s0, s1, f1⟩
      · rw [decide_eq_false hg]
        refine iteF (iteF ?_)
        exact ⟨_, _, p, g, s', rfl, hb1, hl1, g0, s0, s1, f1⟩
    · clear hb1 hl1 f1 g0 s0 s1
      rintro σ H2 ⟨v2, v3, p, g, s, rfl, hb2, hl2, g0, s0, s1, f2⟩
      refine ⟨_, rfl, b, _, 2, _, rfl, rfl, .of hb2, rfl, _, _, rfl, rfl, _, rfl, ?_⟩
      refine ite2 (fun big => ?_) (fun _ => ?_)
      · refine ⟨_, rfl, b, _, 2, _, rfl, rfl, .of hb2, rfl, .inl ⟨_, rfl, _, rfl, _, _, rfl, rfl, m0, ?_⟩⟩
        refine ⟨_, rfl, b, _, 2, _, rfl, rfl, .of hb2, rfl, _, rfl, _, _, rfl, rfl, ⟨m0, m1⟩, _, rfl, b, _, 2, 2, rfl, rfl, hb2, rfl, ?_⟩
        refine ⟨_, rfl, ?_⟩
        refine k _ _ (Int.emod_nonneg _ (by omega)) (Int.emod_lt_of_pos _ m0) ⟨l, ns, p, g / m, s, c + 1, upd_same, ?_, nbl, Int.ediv_nonneg g0 (by omega), s0, s1, by omega, by omega⟩ ⟨f2.upd, fun l' r e => by rw [hb] at e; cases e; exact ⟨_, upd_same⟩⟩
        rw [upd_ne (Ne.symm nbl)]
        exact hl2
      · refine ⟨_, rfl, b, _, 3, _, rfl, rfl, .of hb2, rfl, ?_⟩
        refine ⟨_, rfl, _, _, rfl, rfl, .inl ⟨by omega, by omega⟩, _, rfl, b, _, 4, _, rfl, rfl, .of hb2, rfl, _, _, rfl, rfl, .inl ⟨by omega, by omega⟩, _, _, rfl, rfl, _, _, rfl, rfl, ?_⟩
        have sq : s * s ≤ 2147483549 * 2147483549 := Int.mul_le_mul (by omega) (by omega) s0 (by decide)
        have sq0 : 0 ≤ s * s := Int.mul_nonneg s0 s0
        refine ⟨_, rfl, _, rfl, _, _, rfl, rfl, .inl ⟨by omega, by omega⟩, _, _, rfl, rfl, .inl ⟨by omega, by omega⟩, _, rfl, _, _, rfl, rfl, .inl ⟨_, rfl, _, _, rfl, rfl, (by show (0 : Int) < 2147483549; decide), ?_⟩⟩
        refine ⟨_, rfl, b, _, 3, 3, rfl, rfl, hb2, rfl, ?_⟩
        have hb3 : ∀ y, upd H2 b (.lst (BagL l p g y (c + 1))) b = some (.lst (BagL l p g y (c + 1))) := fun _ => upd_same
        refine ⟨_, rfl, b, _, 3, _, rfl, rfl, .of (hb3 _), rfl, _, _, rfl, rfl, ⟨by decide, by decide⟩, _, rfl, b, _, 3, _, rfl, rfl, .of (hb3 _), rfl, .inl ⟨_, rfl, _, _, rfl, rfl, (by show (0 : Int) < 7901; decide), _, _, rfl, rfl, ?_, _, _, rfl, rfl, .inl ⟨_, rfl, _, rfl, _, _, rfl, rfl, m0, ?_⟩⟩⟩
        · refine .inr ⟨by decide, by decide⟩
        · refine k _ _ (Int.emod_nonneg _ (by omega)) (Int.emod_lt_of_pos _ m0) ⟨l, ns, p, g, _, c + 1, upd_same, ?_, nbl, g0, Int.emod_nonneg _ (by decide), Int.emod_lt_of_pos _ (by decide), by omega, by omega⟩ ⟨f2.upd, fun l' r e => by rw [hb] at e; cases e; exact ⟨_, upd_same⟩⟩
          rw [upd_ne (Ne.symm nbl)]
          exact hl2
end
/-- a def of the text under its name -/
structure Dn (K : PySem.W.Frag) (mg : Str → Option Value) (x : Str) (f : Addr) : Prop where
  gl : mg x = some (.ref f)
  kp : PySem.W.keepIn K (.ref f) = true
def spBag (K : PySem.W.Frag) : Sp := fun vs H Q _ => ∃ (a : Addr) (ns : List Int), vs = [.ref a] ∧ SqL K H a (ns.map V.int) ∧ ∀ (b : Addr) (H' : Hp), BagAt H' b 0 → H b = none → Same H H' → Q (.ref b) H'
def spOf : Sp := fun vs H Q _ => ∃ (b t : Addr) (n : Nat) (xs : List V), vs = [.ref b, .ref t] ∧ BagAt H b n ∧ n ≤ 1000000000 ∧ t ≠ b ∧ H t = some (.lst xs) ∧ 0 < xs.length ∧ xs.length ≤ 1000 ∧ ∀ (i : Nat) (v : V) (H' : Hp), xs[i]? = some v → BagAt H' b (n + 1) → Bt b H H' → Q v H'
theorem cut_ints (ns : List Int) (lo hi : Option Int) : ∃ ms : List Int, cutV (ns.map V.int) lo hi = ms.map V.int := by
  unfold cutV
  rw [← List.map_drop, ← List.map_take]
  exact ⟨_, rfl⟩
section
variable {P : Program} {w : World} {K : PySem.W.Frag} {mg : Str → Option Value} {base : Heap}
theorem scBag : FnScope ["_law_script"] ["_law_script"] (defScope sBag) := ⟨rfl, rfl, rfl, by decide +kernel, rfl, by decide +kernel, by decide +kernel⟩
theorem ok_bag {f : Addr} {fd : FuncData} (F : Fun K "_law_bag" "_law_bag" sBag f fd) (T : Bn mg) : FnOk P w K mg base CX0 1 f fd ["_law_script"] (spBag K) := by
  refine F.ok scBag (fun vs H Q E h => ?_) (fun cdv A outer s H vs Q E hr h => ?_)
  · obtain ⟨a, ns, rfl, _⟩ := h
    rfl
  · obtain ⟨a, ns, rfl, hS, k⟩ := h
    refine ⟨_, pss_one (ps_ret (pe_lst (pa_cons (pe_callTy call_list_of (by rfl) T.tlist (by decide +kernel) (pa_cons (pe_slice sl_list (pv 0) po_none (po_some pe_int)) pa_nil)) (pa_cons pe_int (pa_cons pe_int (pa_cons pe_int (pa_cons pe_int pa_nil))))))), ?_⟩
    obtain ⟨ms, hm⟩ := cut_ints ns none (some 63)
    refine ⟨_, rfl, _, rfl, a, _, rfl, hS, fun p hp => ?_⟩
    rw [hm]
    refine ⟨p, _, rfl, .inl (SqL.of upd_same), fun l hl => ?_⟩
    refine ⟨(by show 5 ≤ sizeLine; decide), fun b hb => ?_⟩
    have nbl : b ≠ l := (ne_of_none upd_same hb).symm
    refine k b _ ⟨l, ms, 0, 0, 12004, 0, upd_same, ?_, nbl, by decide, by decide, by decide, by decide, by decide⟩ ?_ ?_
    · rw [upd_ne nbl.symm]
      exact upd_same
    · have e1 : H b ≠ none → False := fun z => by
        cases e : H b with
        | none => exact z e
        | some o =>
          have q : (upd (upd H p (.lst (ms.map V.int))) l (.lst (ms.map V.int))) b = some o := by
            rw [upd_ne nbl, upd_ne (ne_of_none e hp)]
            exact e
          rw [q] at hb
          cases hb
      exact Classical.byContradiction e1
    · intro c o e
      have h1 := ne_of_none e hp
      have s1 : upd H p (.lst (ms.map V.int)) c = some o := by
        rw [upd_ne h1]
        exact e
      have h2 := ne_of_none s1 hl
      have s2 : upd (upd H p (.lst (ms.map V.int))) l (.lst (ms.map V.int)) c = some o := by
        rw [upd_ne h2]
        exact s1
      rw [upd_ne (ne_of_none s2 hb)]
      exact s2
theorem scOf : FnScope ["_law_bag_here", "_law_things"] ["_law_bag_here", "_law_things"] (defScope sOf) := ⟨rfl, rfl, rfl, by decide +kernel, rfl, by decide +kernel, by decide +kernel⟩
theorem ok_of {f fP : Addr} {fd fdP : FuncData} (F : Fun K "_law_of" "_law_of" sOf f fd) (T : Bn mg) (D : Dn K mg "_law_pull" fP) (G : FnOk P w K mg base CX0 1 fP fdP ["_law_bag_here", "_law_many"] spPull) (bP : Binds K fdP ["_law_bag_here", "_law_many"] []) :
    FnOk P w K mg base CX0 2 f fd ["_law_bag_here", "_law_things"] spOf := by
  refine F.ok scOf (fun vs H Q E h => ?_) (fun cdv A outer s H vs Q E hr h => ?_)
  · obtain ⟨b, t, n, xs, rfl, _⟩ := h
    rfl
  · obtain ⟨b, t, n, xs, rfl, B, hn, nt, ht, l0, l1, k⟩ := h
    refine ⟨_, pss_one (ps_ret (pe_ix ix_list (pv 1) (pe_call G hr (by rfl) D.gl D.kp bP .nil pass0 (pa_cons (pv 0) (pa_cons (pe_callB call_len (by rfl) T.flen (by decide +kernel) (pa_cons (pv 1) pa_nil)) pa_nil))) (fun _ _ => rfl))), ?_⟩
    refine ⟨_, rfl, _, rfl, _, rfl, _, _, rfl, .inl ⟨_, .of ht, rfl⟩, b, _, n, rfl, by omega, by omega, B, hn, fun r H' r0 r1 B' f' => ?_⟩
    have hi : r.toNat < xs.length := by omega
    have q := List.getElem?_eq_getElem hi
    generalize xs[r.toNat] = y at q
    refine ⟨t, xs, r, y, rfl, rfl, .of (f'.1 _ _ ht nt), ?_, k r.toNat y H' q B' f'⟩
    have z := atI_nat q
    rw [Int.toNat_of_nonneg r0] at z
    exact z
/-! ### same -/
/-- u and v are like data, less than n deep -/
def Like (H : Hp) : Nat → V → V → Prop
  | 0, _, _ => False
  | n + 1, u, v => (u = v ∧ (v = .non ∨ (∃ b, v = .bl b) ∨ (∃ i, v = .int i) ∨ ∃ x, v = .str x)) ∨
    ∃ (a b : Addr) (xs ys : List V), u = .ref a ∧ v = .ref b ∧ ((H a = some (.tup xs) ∧ H b = some (.tup ys)) ∨ (H a = some (.lst xs) ∧ H b = some (.lst ys))) ∧ xs.length = ys.length ∧ xs.length ≤ 1000 ∧ ∀ (i : Nat) (x y : V), xs[i]? = some x → ys[i]? = some y → Like H n x y
theorem Like.mono {H H' : Hp} (s : Same H H') : ∀ {n : Nat} {u v : V}, Like H n u v → Like H' n u v
  | 0, _, _, h => h.elim
  | n + 1, u, v, h => by
    rcases h with h | ⟨a, b, xs, ys, e1, e2, hh, l1, l2, k⟩
    · exact .inl h
    · refine .inr ⟨a, b, xs, ys, e1, e2, ?_, l1, l2, fun i x y hx hy => Like.mono s (k i x y hx hy)⟩
      rcases hh with ⟨h1, h2⟩ | ⟨h1, h2⟩
      · exact .inl ⟨s _ _ h1, s _ _ h2⟩
      · exact .inr ⟨s _ _ h1, s _ _ h2⟩
def spSame (n : Nat) : Sp := fun vs H Q _ => ∃ u v, vs = [u, v] ∧ Like H n u v ∧ ∀ H', Same H H' → Q (.bl true) H'
theorem Same.new {H H' : Hp} {p : Addr} {o : HO} (s : Same H H') (hp : H' p = none) : Same H (upd H' p o) := fun c u e => by
  rw [upd_ne (ne_of_none (s c u e) hp)]
  exact s c u e
theorem scSame : FnScope ["_law_found", "_law_due", "_law_a", "_law_b"] ["_law_found", "_law_due"] (defScope sSame) := ⟨rfl, rfl, rfl, by decide +kernel, rfl, by decide +kernel, by decide +kernel⟩
theorem walk_zipT {a b : Addr} {xs ys : List V} {n : Nat} (hn : n = min xs.length ys.length) : Walk (RZ.ItzT K a b) n (fun H => SqT K H a xs ∧ SqT K H b ys) (YPair (fun i => xs[i]?) (fun i => ys[i]?)) := by
  subst hn
  refine ⟨fun i _ hi q => ?_, fun _ q => ⟨xs, ys, q.1, q.2, ?_⟩, fun i H v H' _ q y => ?_⟩
  · have h1 : i < xs.length := by omega
    have h2 : i < ys.length := by omega
    refine ⟨xs, ys, xs[i], ys[i], q.1, q.2, List.getElem?_eq_getElem h1, List.getElem?_eq_getElem h2⟩
  · omega
  · obtain ⟨T, x, z, h1, h2, h3, h4, h5⟩ := y
    exact ⟨T, x, z, h1, h2, h3, h4 xs q.1, h5 ys q.2⟩
theorem all_true (n : Nat) : (List.replicate n true).all id = true := by
  induction n with
  | zero => rfl
  | succ n ih =>
    rw [List.replicate_succ, List.all_cons, ih]
    rfl
theorem any_no {T : String} (h1 : kitB T "list" = some false) (h2 : kitB T "tuple" = some false) : PySem.W.kitAny K (.type T) [.type "list", .type "tuple"] = some false :=
  kitAny_cons (kit_ty h1) (fun _ => kitAny_cons (kit_ty h2) (fun _ => kitAny_nil) (fun z => nomatch z)) (fun z => nomatch z)
theorem any_lst : PySem.W.kitAny K (.type "list") [.type "list", .type "tuple"] = some true :=
  kitAny_cons (b := true) (kit_ty (by decide +kernel)) (fun z => nomatch z) (fun _ => rfl)
theorem any_tup : PySem.W.kitAny K (.type "tuple") [.type "list", .type "tuple"] = some true :=
  kitAny_cons (b := false) (kit_ty (by decide +kernel)) (fun _ => kitAny_cons (b := true) (kit_ty (by decide +kernel)) (fun z => nomatch z) (fun _ => rfl)) (fun z => nomatch z)
theorem lt_tup : Paired ClsV [V.ty "list", V.ty "tuple"] [Value.type "list", Value.type "tuple"] := .cons (.ty _) (.cons (.ty _) .nil)
theorem ok_same_step {f : Addr} {fd : FuncData} {n k : Nat} (F : Fun K "_law_same" "_law_same" sSame f fd) (T : Bn mg) (D : Dn K mg "_law_same" f) (G : FnOk P w K mg base CX0 k f fd ["_law_found", "_law_due"] (spSame n)) (bS : Binds K fd ["_law_found", "_law_due"] []) :
    FnOk P w K mg base CX0 (k + 1) f fd ["_law_found", "_law_due"] (spSame (n + 1)) := by
  refine F.ok scSame (fun vs H Q E h => ?_) (fun cdv A outer s H vs Q E hr h => ?_)
  · obtain ⟨u, v, rfl, _⟩ := h
    rfl
  · obtain ⟨u, v, rfl, lk, kk⟩ := h
    refine ⟨_, pss_cons (ps_if (PW.pt (pw_or (pt_cmpR op_isN (pv 1) pe_non (nomark _)) (pw_or1 (pt_cmpR op_isN (pv 0) pe_non (nomark _)))))
        (pss_one (ps_ret (pe_and (pe_cmpR op_isN (pv 1) pe_non (nomark _)) (pe_one (pe_cmpR op_isN (pv 0) pe_non (nomark _)))))) pss_nil)
      (pss_cons (ps_if (PW.pt (pw_or (pt_val (pe_callB call_isi (by rfl) T.isin (by decide +kernel) (pa_cons (pv 1) (pa_cons (pe_bltn (v := .ty "bool") (by rfl) T.tbool (by decide +kernel) rfl) pa_nil)))) (pw_or1 (pt_val (pe_callB call_isi (by rfl) T.isin (by decide +kernel) (pa_cons (pv 0) (pa_cons (pe_bltn (v := .ty "bool") (by rfl) T.tbool (by decide +kernel) rfl) pa_nil)))))))
        (pss_one (ps_ret (pe_and (pe_callB call_isi (by rfl) T.isin (by decide +kernel) (pa_cons (pv 1) (pa_cons (pe_bltn (v := .ty "bool") (by rfl) T.tbool (by decide +kernel) rfl) pa_nil))) (pe_and (pe_callB call_isi (by rfl) T.isin (by decide +kernel) (pa_cons (pv 0) (pa_cons (pe_bltn (v := .ty "bool") (by rfl) T.tbool (by decide +kernel) rfl) pa_nil))) (pe_one (pe_cmpR op_eq (pv 0) (pv 1) (nomark _))))))) pss_nil)
      (pss_cons (ps_if (PW.pt (pw_or (pt_val (pe_callB call_isiT (by rfl) T.isin (by decide +kernel) (pa_cons (pv 1) (pa_cons (pe_tup (pa_cons (pe_bltn (v := .ty "list") (by rfl) T.tlist (by decide +kernel) rfl) (pa_cons (pe_bltn (v := .ty "tuple") (by rfl) T.ttuple (by decide +kernel) rfl) pa_nil))) pa_nil)))) (pw_or1 (pt_val (pe_callB call_isiT (by rfl) T.isin (by decide +kernel) (pa_cons (pv 0) (pa_cons (pe_tup (pa_cons (pe_bltn (v := .ty "list") (by rfl) T.tlist (by decide +kernel) rfl) (pa_cons (pe_bltn (v := .ty "tuple") (by rfl) T.ttuple (by decide +kernel) rfl) pa_nil))) pa_nil)))))))
        (pss_cons (ps_if (pt_cmpR op_ne (pe_callB call_isi (by rfl) T.isin (by decide +kernel) (pa_cons (pv 1) (pa_cons (pe_bltn (v := .ty "list") (by rfl) T.tlist (by decide +kernel) rfl) pa_nil))) (pe_callB call_isi (by rfl) T.isin (by decide +kernel) (pa_cons (pv 0) (pa_cons (pe_bltn (v := .ty "list") (by rfl) T.tlist (by decide +kernel) rfl) pa_nil))) (nomark _)) (pss_one (ps_ret pe_bl)) pss_nil)
        (pss_cons (ps_if (PW.pt (pw_or (pt_cmpR op_ne (pe_callB call_isi (by rfl) T.isin (by decide +kernel) (pa_cons (pv 1) (pa_cons (pe_bltn (v := .ty "tuple") (by rfl) T.ttuple (by decide +kernel) rfl) pa_nil))) (pe_callB call_isi (by rfl) T.isin (by decide +kernel) (pa_cons (pv 0) (pa_cons (pe_bltn (v := .ty "tuple") (by rfl) T.ttuple (by decide +kernel) rfl) pa_nil))) (nomark _)) (pw_or1 (pt_cmpR op_ne (pe_callB call_len (by rfl) T.flen (by decide +kernel) (pa_cons (pv 0) pa_nil)) (pe_callB call_len (by rfl) T.flen (by decide +kernel) (pa_cons (pv 1) pa_nil)) (nomark _))))) (pss_one (ps_ret pe_bl)) pss_nil)
        (pss_one (ps_ret (pe_callB (cr_all rfl) (by rfl) T.fall (by decide +kernel) (pa_cons (pe_lc (own := [("_law_a", 2), ("_law_b", 3)]) (g := gTup K 2 (gCons (gName 2) (gCons (gName 3) gNil))) rfl scSame.nd (RZ.pi_zipA (by rfl) T.fzip (pa_cons (pv 0) (pa_cons (pv 1) pa_nil))) (blkOk_by (own := [("_law_a", 2), ("_law_b", 3)]) (N := ["_law_found", "_law_due", "_law_a", "_law_b"]) (sc := defScope sSame) (by decide +kernel))
            (fun _ _ _ _ _ => pg_tup (n := 2) rfl (pgs_cons (pg_name (i := 2) scSame.nd rfl (Or.inl rfl) (hf := Or.inr rfl)) (pgs_cons (pg_name (i := 3) scSame.nd rfl (Or.inl rfl) (hf := Or.inr rfl)) pgs_nil))) (fun _ _ _ _ _ => pts_nil)
            (fun _ _ _ _ _ => pe_call G hr (by rfl) D.gl D.kp bS .nil pass0 (pa_cons (pv 2) (pa_cons (pv 3) pa_nil)))) pa_nil)))))) pss_nil)
      (pss_cons (ps_if (pt_cmpR op_ne (pe_callB call_isi (by rfl) T.isin (by decide +kernel) (pa_cons (pv 1) (pa_cons (pe_bltn (v := .ty "int") (by rfl) T.tint (by decide +kernel) rfl) pa_nil))) (pe_callB call_isi (by rfl) T.isin (by decide +kernel) (pa_cons (pv 0) (pa_cons (pe_bltn (v := .ty "int") (by rfl) T.tint (by decide +kernel) rfl) pa_nil))) (nomark _)) (pss_one (ps_ret pe_bl)) pss_nil)
      (pss_one (ps_ret (pe_and (pe_cmpR op_eq (pe_callB call_isi (by rfl) T.isin (by decide +kernel) (pa_cons (pv 1) (pa_cons (pe_bltn (v := .ty "str") (by rfl) T.tstr (by decide +kernel) rfl) pa_nil))) (pe_callB call_isi (by rfl) T.isin (by decide +kernel) (pa_cons (pv 0) (pa_cons (pe_bltn (v := .ty "str") (by rfl) T.tstr (by decide +kernel) rfl) pa_nil))) (nomark _)) (pe_one (pe_cmpR op_eq (pv 0) (pv 1) (nomark _))))))))), ?_⟩
    rcases lk with ⟨rfl, (rfl | ⟨b, rfl⟩ | ⟨i, rfl⟩ | ⟨x, rfl⟩)⟩ | ⟨a, b, xs, ys, rfl, rfl, hh, l1, l2, like⟩
    · refine ⟨_, rfl, rfl, _, rfl, iteT ?_⟩
      exact ⟨_, rfl, rfl, _, rfl, iteT ⟨_, rfl, rfl, kk _ (Same.refl _)⟩⟩
    · refine ⟨_, rfl, rfl, _, rfl, iteF ⟨_, rfl, rfl, _, rfl, iteF ?_⟩⟩
      refine ⟨_, rfl, _, _, _, _, true, rfl, .ty "bool", .base (.bl _), kit_ty (by decide +kernel), _, rfl, iteT ?_⟩
      refine ⟨_, rfl, _, _, _, _, true, rfl, .ty "bool", .base (.bl _), kit_ty (by decide +kernel), _, rfl, iteT ⟨_, rfl, _, _, _, _, true, rfl, .ty "bool", .base (.bl _), kit_ty (by decide +kernel), _, rfl, iteT ⟨_, rfl, _, rfl, rfl, ?_⟩⟩⟩
      rw [decide_eq_true rfl]
      exact kk _ (Same.refl _)
    · refine ⟨_, rfl, rfl, _, rfl, iteF ⟨_, rfl, rfl, _, rfl, iteF ?_⟩⟩
      refine ⟨_, rfl, _, _, _, _, false, rfl, .ty "bool", .base (.int _), kit_ty (by decide +kernel), _, rfl, iteF ⟨_, rfl, _, _, _, _, false, rfl, .ty "bool", .base (.int _), kit_ty (by decide +kernel), _, rfl, iteF ?_⟩⟩
      refine ⟨_, rfl, (by show 2 ≤ sizeLine; decide), fun p hp => ⟨_, p, _, _, _, false, rfl, upd_same, lt_tup, .base (.int _), any_no (by decide +kernel) (by decide +kernel), _, rfl, iteF ⟨_, rfl, (by show 2 ≤ sizeLine; decide), fun p2 hp2 => ⟨_, p2, _, _, _, false, rfl, upd_same, lt_tup, .base (.int _), any_no (by decide +kernel) (by decide +kernel), _, rfl, iteF ?_⟩⟩⟩⟩
      have s2 := (Same.new (Same.new (Same.refl H) hp (o := .tup [V.ty "list", V.ty "tuple"])) hp2 (o := .tup [V.ty "list", V.ty "tuple"]))
      refine ⟨_, rfl, _, _, _, _, true, rfl, .ty "int", .base (.int _), kit_ty (by decide +kernel), _, rfl, _, _, _, _, true, rfl, .ty "int", .base (.int _), kit_ty (by decide +kernel), rfl, _, rfl, iteF ?_⟩
      refine ⟨_, rfl, _, _, _, _, false, rfl, .ty "str", .base (.int _), kit_ty (by decide +kernel), _, rfl, _, _, _, _, false, rfl, .ty "str", .base (.int _), kit_ty (by decide +kernel), rfl, _, rfl, iteT ⟨_, rfl, _, rfl, rfl, ?_⟩⟩
      rw [decide_eq_true rfl]
      exact kk _ s2
    · refine ⟨_, rfl, rfl, _, rfl, iteF ⟨_, rfl, rfl, _, rfl, iteF ?_⟩⟩
      refine ⟨_, rfl, _, _, _, _, false, rfl, .ty "bool", .base (.str _), kit_ty (by decide +kernel), _, rfl, iteF ⟨_, rfl, _, _, _, _, false, rfl, .ty "bool", .base (.str _), kit_ty (by decide +kernel), _, rfl, iteF ?_⟩⟩
      refine ⟨_, rfl, (by show 2 ≤ sizeLine; decide), fun p hp => ⟨_, p, _, _, _, false, rfl, upd_same, lt_tup, .base (.str _), any_no (by decide +kernel) (by decide +kernel), _, rfl, iteF ⟨_, rfl, (by show 2 ≤ sizeLine; decide), fun p2 hp2 => ⟨_, p2, _, _, _, false, rfl, upd_same, lt_tup, .base (.str _), any_no (by decide +kernel) (by decide +kernel), _, rfl, iteF ?_⟩⟩⟩⟩
      have s2 := (Same.new (Same.new (Same.refl H) hp (o := .tup [V.ty "list", V.ty "tuple"])) hp2 (o := .tup [V.ty "list", V.ty "tuple"]))
      refine ⟨_, rfl, _, _, _, _, false, rfl, .ty "int", .base (.str _), kit_ty (by decide +kernel), _, rfl, _, _, _, _, false, rfl, .ty "int", .base (.str _), kit_ty (by decide +kernel), rfl, _, rfl, iteF ?_⟩
      refine ⟨_, rfl, _, _, _, _, true, rfl, .ty "str", .base (.str _), kit_ty (by decide +kernel), _, rfl, _, _, _, _, true, rfl, .ty "str", .base (.str _), kit_ty (by decide +kernel), rfl, _, rfl, iteT ⟨_, rfl, _, rfl, rfl, ?_⟩⟩
      rw [decide_eq_true rfl]
      exact kk _ s2
    · refine ⟨_, rfl, rfl, _, rfl, iteF ⟨_, rfl, rfl, _, rfl, iteF ?_⟩⟩
      rcases hh with ⟨ha, hb⟩ | ⟨ha, hb⟩
      · refine ⟨_, rfl, _, _, _, _, false, rfl, .ty "bool", .base (.tup hb), kit_ty (by decide +kernel), _, rfl, iteF ⟨_, rfl, _, _, _, _, false, rfl, .ty "bool", .base (.tup ha), kit_ty (by decide +kernel), _, rfl, iteF ?_⟩⟩
        refine ⟨_, rfl, (by show 2 ≤ sizeLine; decide), fun p hp => ?_⟩
        have s1 := Same.new (Same.refl H) hp (o := .tup [V.ty "list", V.ty "tuple"])
        have ha1 := s1 _ _ ha
        have hb1 := s1 _ _ hb
        refine ⟨_, p, _, _, _, true, rfl, upd_same, lt_tup, .base (.tup hb1), any_tup, _, rfl, iteT ?_⟩
        refine ⟨_, rfl, _, _, _, _, false, rfl, .ty "list", .base (.tup hb1), kit_ty (by decide +kernel), _, rfl, _, _, _, _, false, rfl, .ty "list", .base (.tup ha1), kit_ty (by decide +kernel), rfl, _, rfl, iteF ?_⟩
        refine ⟨_, rfl, _, _, _, _, true, rfl, .ty "tuple", .base (.tup hb1), kit_ty (by decide +kernel), _, rfl, _, _, _, _, true, rfl, .ty "tuple", .base (.tup ha1), kit_ty (by decide +kernel), rfl, _, rfl, iteF ⟨_, rfl, _, _, rfl, .inr ⟨_, .of ha1, rfl⟩, _, rfl, _, _, rfl, .inr ⟨_, .of hb1, rfl⟩, ?_⟩⟩
        refine ⟨rfl, _, rfl, ?_⟩
        rw [l1, decide_eq_true rfl]
        refine iteF ?_
        refine ⟨_, rfl, _, rfl, a, b, xs, ys, rfl, .inr ⟨SqT.of ha1, SqT.of hb1, fun D hD => ?_⟩⟩
        refine lc_it (walk_zipT (n := ys.length) (by rw [l1, Nat.min_self])) (fun i H' => Same (upd H p (.tup [V.ty "list", V.ty "tuple"])) H' ∧ H' D = some (.lst ((List.replicate i true).map V.bl))) ⟨Same.new (Same.refl _) hD, upd_same⟩ (fun i H' _ z => ⟨SqT.of (z.1 _ _ ha1), SqT.of (z.1 _ _ hb1)⟩) ?_ ?_
        · rintro i x H2 H3 hi ⟨t2, d2⟩ ⟨T1, y, z, rfl, nT, rfl, hy, hz⟩
          have t3 := Same.new t2 nT (o := .tup [y, z])
          refine ⟨T1, _, rfl, SqT.of upd_same, rfl, y, _, rfl, z, _, rfl, rfl, rfl, ?_⟩
          refine ⟨_, rfl, _, rfl, y, z, rfl, Like.mono (s1.trans t3) (like i y z hy hz), fun H4 s4 => ?_⟩
          have d4 : H4 D = some (.lst ((List.replicate i true).map V.bl)) := s4 _ _ (by rw [upd_ne (ne_of_none d2 nT)]; exact d2)
          refine ⟨_, d4, ?_, fun c o e => ?_, ?_⟩
          · rw [List.length_map, List.length_replicate]
            exact small1000 (by omega)
          · have q := s4 _ _ (t3 c o e)
            rw [upd_ne (ne_of_none e hD)]
            exact q
          · rw [upd_same, List.replicate_succ', List.map_append]
            rfl
        · rintro H2 ⟨t2, d2⟩
          refine ⟨D, _, rfl, .of d2, ?_⟩
          rw [all_true]
          exact kk _ (s1.trans t2)

      · refine ⟨_, rfl, _, _, _, _, false, rfl, .ty "bool", .base (.lst hb), kit_ty (by decide +kernel), _, rfl, iteF ⟨_, rfl, _, _, _, _, false, rfl, .ty "bool", .base (.lst ha), kit_ty (by decide +kernel), _, rfl, iteF ?_⟩⟩
        refine ⟨_, rfl, (by show 2 ≤ sizeLine; decide), fun p hp => ?_⟩
        have s1 := Same.new (Same.refl H) hp (o := .tup [V.ty "list", V.ty "tuple"])
        have ha1 := s1 _ _ ha
        have hb1 := s1 _ _ hb
        refine ⟨_, p, _, _, _, true, rfl, upd_same, lt_tup, .base (.lst hb1), any_lst, _, rfl, iteT ?_⟩
        refine ⟨_, rfl, _, _, _, _, true, rfl, .ty "list", .base (.lst hb1), kit_ty (by decide +kernel), _, rfl, _, _, _, _, true, rfl, .ty "list", .base (.lst ha1), kit_ty (by decide +kernel), rfl, _, rfl, iteF ?_⟩
        refine ⟨_, rfl, _, _, _, _, false, rfl, .ty "tuple", .base (.lst hb1), kit_ty (by decide +kernel), _, rfl, _, _, _, _, false, rfl, .ty "tuple", .base (.lst ha1), kit_ty (by decide +kernel), rfl, _, rfl, iteF ⟨_, rfl, _, _, rfl, .inl ⟨_, .of ha1, rfl⟩, _, rfl, _, _, rfl, .inl ⟨_, .of hb1, rfl⟩, ?_⟩⟩
        refine ⟨rfl, _, rfl, ?_⟩
        rw [l1, decide_eq_true rfl]
        refine iteF ?_
        refine ⟨_, rfl, _, rfl, a, b, xs, ys, rfl, .inl ⟨SqL.of ha1, SqL.of hb1, fun D hD => ?_⟩⟩
        refine lc_it (walk_zip (n := ys.length) (by rw [l1, Nat.min_self])) (fun i H' => Same (upd H p (.tup [V.ty "list", V.ty "tuple"])) H' ∧ H' D = some (.lst ((List.replicate i true).map V.bl))) ⟨Same.new (Same.refl _) hD, upd_same⟩ (fun i H' _ z => ⟨SqL.of (z.1 _ _ ha1), SqL.of (z.1 _ _ hb1)⟩) ?_ ?_
        · rintro i x H2 H3 hi ⟨t2, d2⟩ ⟨T1, y, z, rfl, nT, rfl, hy, hz⟩
          have t3 := Same.new t2 nT (o := .tup [y, z])
          refine ⟨T1, _, rfl, SqT.of upd_same, rfl, y, _, rfl, z, _, rfl, rfl, rfl, ?_⟩
          refine ⟨_, rfl, _, rfl, y, z, rfl, Like.mono (s1.trans t3) (like i y z hy hz), fun H4 s4 => ?_⟩
          have d4 : H4 D = some (.lst ((List.replicate i true).map V.bl)) := s4 _ _ (by rw [upd_ne (ne_of_none d2 nT)]; exact d2)
          refine ⟨_, d4, ?_, fun c o e => ?_, ?_⟩
          · rw [List.length_map, List.length_replicate]
            exact small1000 (by omega)
          · have q := s4 _ _ (t3 c o e)
            rw [upd_ne (ne_of_none e hD)]
            exact q
          · rw [upd_same, List.replicate_succ', List.map_append]
            rfl
        · rintro H2 ⟨t2, d2⟩
          refine ⟨D, _, rfl, .of d2, ?_⟩
          rw [all_true]
          exact kk _ (s1.trans t2)

end
end K37

set_option Elab.async false
set_option linter.all false
set_option maxRecDepth 100000
set_option maxHeartbeats 4000000
namespace K37
open PySem PySem.Spec PyProof.Rows L2 Ux
abbrev sField : Stmt := top 32
abbrev sOtherField : Stmt := top 33
abbrev sWhy : Stmt := top 34
/-- the names of the errors' fields -/
def fieldNames : List Str := ["code", "given", "at", "name", "what", "limit", "index", "line", "deed"]
/-- a caught error with the fields fs -/
structure Err (K : PySem.W.Frag) (H : Hp) (p : Addr × Obj) (C dd : Addr) (fs : List (Str × V)) : Prop where
  ca : Caught p C dd
  xf : XfC K C
  no : ∀ f ∈ fieldNames, PySem.W.findIn K (.ref C) f = some none
  at_ : H dd = some (.xd fs)
theorem Err.same {K : PySem.W.Frag} {H H' : Hp} {p : Addr × Obj} {C dd : Addr} {fs : List (Str × V)} (h : Err K H p C dd fs) (s : Same H H') : Err K H' p C dd fs := ⟨h.ca, h.xf, h.no, s _ _ h.at_⟩
/-- what such an error has beside its code -/
def Has (fs : List (Str × V)) (f : Str) (q : V → Prop) : Prop := ∃ v, fs.lookup f = some v ∧ q v
def otherF (code : Str) (fs : List (Str × V)) (q : V → Prop) : Prop :=
  if decide (V.str code = V.str "InvalidFact") = true then Has fs "what" q else if decide (V.str code = V.str "InvalidRow") = true then Has fs "index" q else if decide (V.str code = V.str "InvalidPage") = true then Has fs "line" q else
  if decide (V.str code = V.str "UnlikeWorlds") = true then q .non else Has fs "deed" q
def spOtherF (K : PySem.W.Frag) : Addr × Obj → Sp := fun p vs H Q _ => ∃ (C dd : Addr) (fs : List (Str × V)) (code : Str), vs = [.ref p.1] ∧ Err K H p C dd fs ∧ fs.lookup ("code" : Str) = some (V.str code) ∧ otherF code fs fun v => Q v H
def fieldF (code : Str) (fs : List (Str × V)) (q : V → Prop) (tup : V → V → Prop) : Prop :=
  if inV (.str code) [.str "InvalidName", .str "InvalidNumber"] = true then Has fs "given" q else if inV (.str code) [.str "InvalidText", .str "WrongKind", .str "InvalidBlank"] = true then Has fs "at" q else
  if inV (.str code) [.str "NameTaken", .str "InvalidWitness", .str "UnknownName"] = true then Has fs "name" q else
  if decide (V.str code = V.str "TooLarge") = true then Has fs "what" (fun v => Has fs "limit" fun u => tup v u) else otherF code fs q
def spFieldE (K : PySem.W.Frag) : Addr × Obj → Sp := fun p vs H Q _ => ∃ (C dd : Addr) (fs : List (Str × V)) (code : Str), vs = [.ref p.1] ∧ Err K H p C dd fs ∧ fs.lookup ("code" : Str) = some (V.str code) ∧
  fieldF code fs (fun v => ∀ H', Same H H' → Q v H') fun v u => ∀ (t : Addr) (H' : Hp), H' t = some (.tup [v, u]) → Same H H' → Q (.ref t) H'
theorem same_upd' {H : Hp} {a : Addr} {o : HO} (ha : H a = none) : Same H (upd H a o) := fun x u e => by
  rw [upd_ne (ne_of_none e ha)]
  exact e
theorem unT {A B : Prop} (h : if true = true then A else B) : A := by
  rw [if_pos rfl] at h
  exact h
theorem unF {A B : Prop} (h : if false = true then A else B) : B := by
  rw [if_neg Bool.false_ne_true] at h
  exact h
section
variable {P : Program} {w : World} {K : PySem.W.Frag} {mg : Str → Option Value} {base : Heap}
theorem scOtherField : FnScope ["_law_e"] ["_law_e"] (defScope sOtherField) := ⟨rfl, rfl, rfl, by decide +kernel, rfl, by decide +kernel, by decide +kernel⟩
theorem ok_otherField {f : Addr} {fd : FuncData} (F : Fun K "_law_other_field" "_law_other_field" sOtherField f fd) : FnQ P w K mg base 1 f fd ["_law_e"] (spOtherF K) := by
  refine Ux.Fun.okQ F scOtherField (fun p vs H Q E h => ?_) (fun cdv A outer s H vs Q E p hr h => ?_)
  · obtain ⟨_, _, _, _, rfl, _⟩ := h
    rfl
  · obtain ⟨C, dd, fs, code, rfl, er, lc, q⟩ := h
    have hp : p ∈ (L2H.cxH CX0 P w K mg base ["_law_e"] "_law_other_field" (defScope sOtherField) f cdv A outer s H E p).pn := List.mem_singleton.mpr rfl
    refine ⟨_, pss_cons (ps_if (pt_cmpR op_eq (pe_pf er.xf (er.no _ (by decide +kernel)) hp er.ca (pv 0)) pe_str (nomark _)) (pss_one (ps_ret (pe_pf er.xf (er.no _ (by decide +kernel)) hp er.ca (pv 0)))) pss_nil)
      (pss_cons (ps_if (pt_cmpR op_eq (pe_pf er.xf (er.no _ (by decide +kernel)) hp er.ca (pv 0)) pe_str (nomark _)) (pss_one (ps_ret (pe_pf er.xf (er.no _ (by decide +kernel)) hp er.ca (pv 0)))) pss_nil)
      (pss_cons (ps_if (pt_cmpR op_eq (pe_pf er.xf (er.no _ (by decide +kernel)) hp er.ca (pv 0)) pe_str (nomark _)) (pss_one (ps_ret (pe_pf er.xf (er.no _ (by decide +kernel)) hp er.ca (pv 0)))) pss_nil)
      (pss_one (ps_ret (pe_ifExp (pt_cmpR op_eq (pe_pf er.xf (er.no _ (by decide +kernel)) hp er.ca (pv 0)) pe_str (nomark _)) pe_non (pe_pf er.xf (er.no _ (by decide +kernel)) hp er.ca (pv 0))))))), ?_⟩
    have ha := er.at_
    unfold otherF at q
    refine ⟨_, rfl, fs, _, rfl, ha, lc, rfl, _, rfl, ?_⟩
    cases h1 : decide (V.str code = V.str "InvalidFact") with
    | true =>
      rw [h1] at q
      obtain ⟨v, lv, k⟩ := unT q
      exact iteT ⟨_, rfl, fs, v, rfl, ha, lv, k⟩
    | false =>
      rw [h1] at q
      have q := unF q
      refine iteF ⟨_, rfl, fs, _, rfl, ha, lc, rfl, _, rfl, ?_⟩
      cases h2 : decide (V.str code = V.str "InvalidRow") with
      | true =>
        rw [h2] at q
        obtain ⟨v, lv, k⟩ := unT q
        exact iteT ⟨_, rfl, fs, v, rfl, ha, lv, k⟩
      | false =>
        rw [h2] at q
        have q := unF q
        refine iteF ⟨_, rfl, fs, _, rfl, ha, lc, rfl, _, rfl, ?_⟩
        cases h3 : decide (V.str code = V.str "InvalidPage") with
        | true =>
          rw [h3] at q
          obtain ⟨v, lv, k⟩ := unT q
          exact iteT ⟨_, rfl, fs, v, rfl, ha, lv, k⟩
        | false =>
          rw [h3] at q
          have q := unF q
          refine iteF ⟨_, rfl, fs, _, rfl, ha, lc, rfl, _, rfl, ?_⟩
          cases h4 : decide (V.str code = V.str "UnlikeWorlds") with
          | true =>
            rw [h4] at q
            exact iteT (unT q)
          | false =>
            rw [h4] at q
            obtain ⟨v, lv, k⟩ := unF q
            exact iteF ⟨_, rfl, fs, v, rfl, ha, lv, k⟩
theorem scField : FnScope ["_law_e"] ["_law_e"] (defScope sField) := ⟨rfl, rfl, rfl, by decide +kernel, rfl, by decide +kernel, by decide +kernel⟩
theorem ok_field {f fO : Addr} {fd fdO : FuncData} (F : Fun K "_law_field" "_law_field" sField f fd) (D : Dn K mg "_law_other_field" fO) (G : FnQ P w K mg base 1 fO fdO ["_law_e"] (spOtherF K)) (bO : Binds K fdO ["_law_e"] []) : FnQ P w K mg base 2 f fd ["_law_e"] (spFieldE K) := by
  refine Ux.Fun.okQ F scField (fun p vs H Q E h => ?_) (fun cdv A outer s H vs Q E p hr h => ?_)
  · obtain ⟨_, _, _, _, rfl, _⟩ := h
    rfl
  · obtain ⟨C, dd, fs, code, rfl, er, lc, q⟩ := h
    have hp : p ∈ (L2H.cxH CX0 P w K mg base ["_law_e"] "_law_field" (defScope sField) f cdv A outer s H E p).pn := List.mem_singleton.mpr rfl
    refine ⟨_, pss_cons (ps_if (pt_cmpR op_in_seq (pe_pf er.xf (er.no _ (by decide +kernel)) hp er.ca (pv 0)) (pe_tup (pa_cons pe_str (pa_cons pe_str pa_nil))) (by rfl)) (pss_one (ps_ret (pe_pf er.xf (er.no _ (by decide +kernel)) hp er.ca (pv 0)))) pss_nil)
      (pss_cons (ps_if (pt_cmpR op_in_seq (pe_pf er.xf (er.no _ (by decide +kernel)) hp er.ca (pv 0)) (pe_tup (pa_cons pe_str (pa_cons pe_str (pa_cons pe_str pa_nil)))) (by rfl)) (pss_one (ps_ret (pe_pf er.xf (er.no _ (by decide +kernel)) hp er.ca (pv 0)))) pss_nil)
      (pss_cons (ps_if (pt_cmpR op_in_seq (pe_pf er.xf (er.no _ (by decide +kernel)) hp er.ca (pv 0)) (pe_tup (pa_cons pe_str (pa_cons pe_str (pa_cons pe_str pa_nil)))) (by rfl)) (pss_one (ps_ret (pe_pf er.xf (er.no _ (by decide +kernel)) hp er.ca (pv 0)))) pss_nil)
      (pss_cons (ps_if (pt_cmpR op_eq (pe_pf er.xf (er.no _ (by decide +kernel)) hp er.ca (pv 0)) pe_str (nomark _)) (pss_one (ps_ret (pe_tup (pa_cons (pe_pf er.xf (er.no _ (by decide +kernel)) hp er.ca (pv 0)) (pa_cons (pe_pf er.xf (er.no _ (by decide +kernel)) hp er.ca (pv 0)) pa_nil))))) pss_nil)
      (pss_one (ps_ret (pe_callQ G hr hp (by rfl) D.gl D.kp bO (pa_cons (pv 0) pa_nil))))))), ?_⟩
    have ha := er.at_
    unfold fieldF at q
    refine ⟨_, rfl, fs, _, rfl, ha, lc, (by show 2 ≤ sizeLine; decide), fun t1 n1 => ?_⟩
    have s1 := same_upd' (o := .tup [V.str "InvalidName", .str "InvalidNumber"]) n1
    refine ⟨t1, _, rfl, .inr (.of upd_same), rfl, rfl, _, rfl, ?_⟩
    show if inV (.str code) [.str "InvalidName", .str "InvalidNumber"] = true then _ else _
    cases h1 : inV (.str code) [.str "InvalidName", .str "InvalidNumber"] with
    | true =>
      rw [h1] at q
      obtain ⟨v, lv, k⟩ := unT q
      exact iteT ⟨_, rfl, fs, v, rfl, s1 _ _ ha, lv, k _ s1⟩
    | false =>
      rw [h1] at q
      have q := unF q
      refine iteF ⟨_, rfl, fs, _, rfl, s1 _ _ ha, lc, (by show 3 ≤ sizeLine; decide), fun t2 n2 => ?_⟩
      have s2 := s1.trans (same_upd' (o := .tup [V.str "InvalidText", .str "WrongKind", .str "InvalidBlank"]) n2)
      refine ⟨t2, _, rfl, .inr (.of upd_same), rfl, rfl, _, rfl, ?_⟩
      show if inV (.str code) [.str "InvalidText", .str "WrongKind", .str "InvalidBlank"] = true then _ else _
      cases h2 : inV (.str code) [.str "InvalidText", .str "WrongKind", .str "InvalidBlank"] with
      | true =>
        rw [h2] at q
        obtain ⟨v, lv, k⟩ := unT q
        exact iteT ⟨_, rfl, fs, v, rfl, s2 _ _ ha, lv, k _ s2⟩
      | false =>
        rw [h2] at q
        have q := unF q
        refine iteF ⟨_, rfl, fs, _, rfl, s2 _ _ ha, lc, (by show 3 ≤ sizeLine; decide), fun t3 n3 => ?_⟩
        have s3 := s2.trans (same_upd' (o := .tup [V.str "NameTaken", .str "InvalidWitness", .str "UnknownName"]) n3)
        refine ⟨t3, _, rfl, .inr (.of upd_same), rfl, rfl, _, rfl, ?_⟩
        show if inV (.str code) [.str "NameTaken", .str "InvalidWitness", .str "UnknownName"] = true then _ else _
        cases h3 : inV (.str code) [.str "NameTaken", .str "InvalidWitness", .str "UnknownName"] with
        | true =>
          rw [h3] at q
          obtain ⟨v, lv, k⟩ := unT q
          exact iteT ⟨_, rfl, fs, v, rfl, s3 _ _ ha, lv, k _ s3⟩
        | false =>
          rw [h3] at q
          have q := unF q
          refine iteF ⟨_, rfl, fs, _, rfl, s3 _ _ ha, lc, rfl, _, rfl, ?_⟩
          cases h4 : decide (V.str code = V.str "TooLarge") with
          | true =>
            rw [h4] at q
            obtain ⟨v, lv, u, lu, k⟩ := unT q
            refine iteT ⟨_, rfl, fs, v, rfl, s3 _ _ ha, lv, _, rfl, fs, u, rfl, s3 _ _ ha, lu, (by show 2 ≤ sizeLine; decide), fun t4 n4 => ?_⟩
            exact k t4 _ upd_same (s3.trans (same_upd' n4))
          | false =>
            rw [h4] at q
            have q := unF q
            refine iteF ⟨_, rfl, C, dd, fs, code, rfl, er.same s3, lc, ?_⟩
            unfold otherF at q ⊢
            have mono : ∀ {f : Str}, Has fs f (fun v => ∀ H', Same H H' → Q v H') → Has fs f fun v => Q v _ := fun ⟨v, l, k⟩ => ⟨v, l, k _ s3⟩
            split at q
            · rename_i c
              rw [if_pos c]
              exact mono q
            · rename_i c
              rw [if_neg c]
              split at q
              · rename_i c
                rw [if_pos c]
                exact mono q
              · rename_i c
                rw [if_neg c]
                split at q
                · rename_i c
                  rw [if_pos c]
                  exact mono q
                · rename_i c
                  rw [if_neg c]
                  split at q
                  · rename_i c
                    rw [if_pos c]
                    exact q _ s3
                  · rename_i c
                    rw [if_neg c]
                    exact mono q
end
end K37

set_option Elab.async false
set_option linter.all false
set_option maxRecDepth 100000
set_option maxHeartbeats 4000000
namespace K37
open PySem PySem.Spec PyProof.Rows L2 Ux
/-! ### _law_why, handed a lambda -/
/-- the wish of an error: told as its code and what it has -/
def Told (K : PySem.W.Frag) (C1 C2 : Addr) (Q : VK) : XK := fun cls d H => ∃ (C dd : Addr) (fs : List (Str × V)) (code : Str), cls = .ref C ∧ d = some dd ∧ H dd = some (.xd fs) ∧ PySem.W.exmAny K cls [.ref C1, .ref C2] = some true ∧ XfC K C ∧
  (∀ f ∈ fieldNames, PySem.W.findIn K (.ref C) f = some none) ∧ fs.lookup ("code" : Str) = some (V.str code) ∧
  fieldF code fs (fun v => ∀ (t : Addr) (H' : Hp), H' t = some (.tup [.str code, v]) → Same H H' → Q (.ref t) H')
    fun v u => ∀ (t t2 : Addr) (H' : Hp), H' t2 = some (.tup [v, u]) → H' t = some (.tup [.str code, .ref t2]) → Same H H' → Q (.ref t) H'
def TTwhy (K : PySem.W.Frag) (C1 C2 : Addr) : (XK → Hp → VK → Prop) → Hp → VK → Prop := fun tl H Q =>
  tl (Told K C1 C2 Q) H fun v H' => [V.str "value", v].length ≤ sizeLine ∧ ∀ t : Addr, H' t = none → Q (.ref t) (upd H' t (.tup [.str "value", v]))
theorem Has.imp {fs : List (Str × V)} {f : Str} {q q' : V → Prop} (h : Has fs f q) (k : ∀ v, q v → q' v) : Has fs f q' := by
  obtain ⟨v, l, z⟩ := h
  exact ⟨v, l, k v z⟩
theorem ite_imp {c : Prop} [Decidable c] {A B A' B' : Prop} (h : if c then A else B) (ha : A → A') (hb : B → B') : if c then A' else B' := by
  split
  · rename_i z
    rw [if_pos z] at h
    exact ha h
  · rename_i z
    rw [if_neg z] at h
    exact hb h
theorem fieldF_imp {code : Str} {fs : List (Str × V)} {q q' : V → Prop} {t t' : V → V → Prop} (h : fieldF code fs q t) (k : ∀ v, q v → q' v) (k2 : ∀ v u, t v u → t' v u) : fieldF code fs q' t' := by
  unfold fieldF at h ⊢
  refine ite_imp h (fun z => z.imp k) fun h => ite_imp h (fun z => z.imp k) fun h => ite_imp h (fun z => z.imp k) fun h => ite_imp h (fun z => z.imp fun v z => z.imp (k2 v)) fun h => ?_
  unfold otherF at h ⊢
  exact ite_imp h (fun z => z.imp k) fun h => ite_imp h (fun z => z.imp k) fun h => ite_imp h (fun z => z.imp k) fun h => ite_imp h (k _) fun z => z.imp k
/-- the suite's reading -/
def tsWhy (K : PySem.W.Frag) (a : Addr) (cls : Value) (d : Option Addr) : TS := fun D σ H => ∃ C dd : Addr, cls = .ref C ∧ d = some dd ∧ XfC K C ∧ (∀ f ∈ fieldNames, PySem.W.findIn K (.ref C) f = some none) ∧
  ∀ oe : Obj, Caught (a, oe) C dd → tRet (tTup (tCons (tPf a dd "code" (tVar 1)) (tCons (tCallQ (a, oe) (spFieldE K) (tCons (tVar 1) tNil)) tNil))) D σ H
theorem scWhy : FnScope ["_law_ask", "_law_e"] ["_law_ask"] (defScope sWhy) := ⟨rfl, rfl, rfl, by decide +kernel, rfl, by decide +kernel, by decide +kernel⟩
section
variable {X : Cx} {C1 C2 fF g : Addr} {fdF : FuncData} {q : Str} {cdg : Value}
theorem why_gives (hr : Room 3 X.A) (D : Dn X.K X.mg "_law_field" fF) (G : FnQ X.prog X.w X.K X.mg X.base 2 fF fdF ["_law_e"] (spFieldE X.K)) (bF : Binds X.K fdF ["_law_e"] []) (m1 : X.mg "SlopeError" = some (.ref C1)) (m2 : X.mg "Missing" = some (.ref C2)) :
    LamX.GivesTo X ["_law_ask", "_law_e"] "_law_why" (defScope sWhy) g cdg (defBody sWhy) "_law_ask" q (TTwhy X.K C1 C2) := by
  intro f c' s H Q tl act hc h
  have room : L2H.RoomH 2 (cxOf C8.CX0 X.prog X.w X.K X.mg X.base ["_law_ask", "_law_e"] "_law_why" (defScope sWhy) g cdg X.A X.stack s H C8.E0).A := (L2H.roomH_of hr).deeper _
  refine ⟨_, pss_one (ps_try_as2 (X := (cxOf C8.CX0 X.prog X.w X.K X.mg X.base ["_law_ask", "_law_e"] "_law_why" (defScope sWhy) g cdg X.A X.stack s H C8.E0).nox) (i := 1) (C1 := C1) (C2 := C2) (ts := tsWhy X.K)
      (tb := fun W D σ H => ∃ Ech : XK, (∀ cls d σ' H', Ech cls d H' → W cls d σ' H') ∧ σ[0]? = some (some (.ref f)) ∧ H c' = some (LamX.CodeO c' q) ∧ tl Ech H fun v H' => [V.str "value", v].length ≤ sizeLine ∧ ∀ t, H' t = none → D.rt (.ref t) (upd H' t (.tup [.str "value", v])))
      rfl rfl scWhy.nd rfl rfl rfl rfl m1 m2 (by decide +kernel) (by decide +kernel) (fun W pn xe tk _ => ?_) (fun a oe cls d pn hz hf => ?_)), ?_⟩
  · refine ⟨fun pins s' σ H' D I h' => ?_⟩
    obtain ⟨Ech, hW, h1, h2, h3⟩ := h'
    exact (pss_one (ps_ret (pe_tup (pa_cons pe_str (pa_cons (act W pn xe Ech _ _ tk hW) pa_nil))))).run pins s' σ H' D I ⟨h1, h2, h3⟩
  · refine ⟨fun pins s' σ H' D' I h' => ?_⟩
    obtain ⟨C, dd, rfl, rfl, xf, no, k⟩ := h'
    have hp : (a, oe) ∈ ((cxOf C8.CX0 X.prog X.w X.K X.mg X.base ["_law_ask", "_law_e"] "_law_why" (defScope sWhy) g cdg X.A X.stack s H C8.E0).nox.suite a ((a, oe) :: pn)).pn := List.mem_cons_self
    have room2 : L2H.RoomH 2 ((cxOf C8.CX0 X.prog X.w X.K X.mg X.base ["_law_ask", "_law_e"] "_law_why" (defScope sWhy) g cdg X.A X.stack s H C8.E0).nox.suite a ((a, oe) :: pn)).A := ⟨room.dp, room.un⟩
    refine PSs.run (X := (cxOf C8.CX0 X.prog X.w X.K X.mg X.base ["_law_ask", "_law_e"] "_law_why" (defScope sWhy) g cdg X.A X.stack s H C8.E0).nox.suite a ((a, oe) :: pn)) (t := tRet (tTup (tCons (tPf a dd "code" (tVar 1)) (tCons (tCallQ (a, oe) (spFieldE X.K) (tCons (tVar 1) tNil)) tNil)))) ?_ pins s' σ H' D' I (k oe ⟨hz, hf⟩)
    exact pss_one (ps_ret (pe_tup (pa_cons (pe_pf (p := (a, oe)) xf (no _ (by decide +kernel)) hp ⟨hz, hf⟩ (pv 1)) (pa_cons (pe_callQ (p := (a, oe)) G room2 hp (by rfl) D.gl D.kp bF (pa_cons (pv 1) pa_nil)) pa_nil))))
  · refine ⟨Told X.K C1 C2 Q, fun cls d σ' H' t => ?_, rfl, hc, h⟩
    obtain ⟨C, dd, fs, code, rfl, rfl, hdd, ex, xf, no, lc, ff⟩ := t
    refine ⟨ex, fun a na len => ⟨C, dd, rfl, rfl, xf, no, fun oe ca => ?_⟩⟩
    have got : (σ'.set 1 (some (V.ref a)))[1]? = some (some (V.ref a)) := List.getElem?_set_self (by rw [len]; show 1 < 2; decide)
    refine ⟨.ref a, got, fs, _, rfl, hdd, lc, .ref a, got, C, dd, fs, code, rfl, ⟨ca, xf, no, hdd⟩, lc, fieldF_imp ff (fun v hv H2 s2 => ?_) (fun v u hv t2 H2 h2 s2 => ?_)⟩
    · exact ⟨(by show 2 ≤ sizeLine; decide), fun t nt => hv t _ upd_same (s2.trans (same_upd' nt))⟩
    · exact ⟨(by show 2 ≤ sizeLine; decide), fun t nt => hv t t2 _ ((upd_ne (ne_of_none h2 nt)).trans h2) upd_same (s2.trans (same_upd' nt))⟩
end
end K37

set_option Elab.async false
set_option linter.all false
set_option maxRecDepth 100000
set_option maxHeartbeats 4000000
namespace Ux
open PySem PySem.Spec PyProof.Rows L2
/-! ### C.m(..), m a staticmethod of an own class -/
structure StM (K : PySem.W.Frag) (C : Addr) (m : Str) (mc : Value) (p g : Addr) : Prop where
  sg : PySem.W.specialIn K (.ref C) "__getattribute__" = some (some (.builtin "type.__getattribute__"))
  rd : PySem.W.readsIn K C mc = true
  fc : PySem.W.findCls K (.ref C) mc m = some (.get (.builtin "staticmethod.__get__") (.ref p) .none (.ref C))
  rc : ∃ rest, PySem.W.recIn K p "staticmethod" = some (.ref g :: rest)
  kp : PySem.W.keepIn K (.ref g) = true
section
variable {X : Cx} {CX : CXT} {k : Nat} {C p g : Addr} {x m : Str} {mc : Value} {fd : FuncData} {ps : List Str} {sp : Sp} {dvs : List V} {ds : List Value} {E : XK} {e : Expr} {es : List Expr} {t : TA} {p1 p2 pos : Pos} {pl : Sem Bool}
theorem pe_smeth (hg : Gl X x) (hm : X.mg x = some (.ref C)) (S : StM X.K C m mc p g) (F : FnOk X.prog X.w X.K X.mg X.base CX k g fd ps sp) (hr : Room k X.A) (hb : Binds X.K fd ps ds) (hd : Vals dvs ds) (hx : Passes CX X E) (ha : PA X (e :: es) t)
    (hdb : (x == ("__debug__" : Str)) = false := by decide)
    (hc : eval (.Call (.Attribute (.Name x p1) m p2) (e :: es) [] pos) X.env = (do
      let ov ← eval (.Name x p1) X.env
      standAt p2.atName
      let (f, first) ← holding [ov] (getMethod ov m pl)
      callWith pos f first (backTo pos (starEach (e :: es) X.env)) (backToKw pos (keywordEach [] X.env))) := by rfl)
    (he : starEach (e :: es) X.env = (false, eval e X.env) :: starEach es X.env := by rfl) (hpl : (backTo pos (starEach es X.env)).any (·.1) = false := by rfl) :
    PE X (.Call (.Attribute (.Name x p1) m p2) (e :: es) [] pos) (tCall sp dvs E t) := by
  constructor
  intro pins s σ H Q I h
  obtain ⟨rest, rc⟩ := S.rc
  refine PySem.W.methodCall_KW (ld_glob I hg hm ?_ hdb) hc
  refine PySem.W.method_cls I.kIn S.sg (PySem.W.cls_bind I.kIn S.rd S.fc (wpAny_call (PySem.W.sm_get (s := { s with toks := s.toks + 1 }) I.kIn rc (PySem.W.handed_on rfl ?_))))
  show wpAny _ _ (callWith pos (Value.ref g) [] (backTo pos (starEach (e :: es) X.env)) []) _ _ _
  refine PySem.W.callWith_K (h₀ := X.base) I.ok.mod.kin S.kp (thn (ha.run pos pins _ σ H _ (I.tok _) h) fun us s1 got => ?_) he hpl
  obtain ⟨vs, H1, I1, r, q⟩ := got
  exact ⟨I1.kIn, run_fn F hr hb hd hx I1 r q⟩
end
end Ux

set_option Elab.async false
set_option linter.all false
set_option maxRecDepth 100000
set_option maxHeartbeats 4000000
namespace Ux
open PySem PySem.Spec PyProof.Rows L2
section
variable {X : Cx} {CX : CXT} {k : Nat} {C p g : Addr} {x m : Str} {mc : Value} {fd : FuncData} {ps ks : List Str} {sp : Sp} {E : XK} {kws : List Keyword} {tk : TA} {p1 p2 pos : Pos} {pl : Sem Bool} {gg : List Value → List Value → List Value} {gV : List V → List V → List V}
/-- C.m(k = v, ..), m a staticmethod of an own class -/
theorem pe_smethK (hg : Gl X x) (hm : X.mg x = some (.ref C)) (S : StM X.K C m mc p g) (F : FnOk X.prog X.w X.K X.mg X.base CX k g fd ps sp) (hr : Room k X.A) (hb : KBinds X.K fd ps ks gg gV) (hx : Passes CX X E) (hkw : PK X kws tk)
    (hall : (backToKw pos (keywordEach kws X.env)).all (·.1.isSome) = true := by rfl) (hks : (backToKw pos (keywordEach kws X.env)).filterMap (·.1) = ks := by rfl)
    (hdb : (x == ("__debug__" : Str)) = false := by decide)
    (hc : eval (.Call (.Attribute (.Name x p1) m p2) [] kws pos) X.env = (do
      let ov ← eval (.Name x p1) X.env
      standAt p2.atName
      let (f, first) ← holding [ov] (getMethod ov m pl)
      callWith pos f first (backTo pos (starEach [] X.env)) (backToKw pos (keywordEach kws X.env))) := by rfl)
    (hpl : ((backTo pos (starEach [] X.env)).any (·.1) || (backToKw pos (keywordEach kws X.env)).any (·.1.isNone)) = false := by rfl) :
    PE X (.Call (.Attribute (.Name x p1) m p2) [] kws pos) (fun σ H Q => tk σ H fun zs H2 => sp (gV [] zs) H2 Q E) := by
  constructor
  intro pins s σ H Q I h
  obtain ⟨rest, rc⟩ := S.rc
  refine PySem.W.methodCall_KW (ld_glob I hg hm ?_ hdb) hc
  refine PySem.W.method_cls I.kIn S.sg (PySem.W.cls_bind I.kIn S.rd S.fc (wpAny_call (PySem.W.sm_get (s := { s with toks := s.toks + 1 }) I.kIn rc (PySem.W.handed_on rfl ?_))))
  refine PySem.W.callWith_KW0 (h₀ := X.base) I.ok.mod.kin S.kp hall ?_ hpl
  refine thn (hkw.run pos pins _ σ H _ (I.tok _) h) fun ws s2 got => ?_
  obtain ⟨zs, H2, I2, rz, q2⟩ := got
  refine ⟨I2.kIn, ?_⟩
  rw [hks]
  exact run_fnk (us := []) (vs := []) F hr hb hx I2 .nil rz q2
end
end Ux

set_option Elab.async false
set_option linter.all false
set_option maxRecDepth 100000
set_option maxHeartbeats 4000000
namespace Ux
open PySem PySem.Spec PyProof.Rows L2
/-! ### {o} in an f-string by o's own __str__; the inner walk of a comprehension with two for -/
structure FmO (K : PySem.W.Frag) (C : Addr) : Prop where
  fm : PySem.W.findIn K (.ref C) "__format__" = some (some (.builtin "object.__format__"))
  ob : PySem.W.mroIn K C (.type "object") = some true
def tFmtO (C : Addr) (sp : Sp) (te : TE) : TE := fun σ H Q => te σ H fun x H1 => ∃ (a dx : Addr) (fs : List (Str × V)), x = .ref a ∧ H1 a = some (.ins C dx fs) ∧ sp [.ref a] H1 (fun v H' => ∃ z, v = .str z ∧ Q (.str z) H') (fun _ _ _ => False)
section
variable {X : Cx} {k : Nat} {f C : Addr} {fd : FuncData} {sp : Sp} {e : Expr} {te : TE} {pos : Pos}
theorem pe_fmtO (M : OwnM X.K C "__str__" f) (N : FmO X.K C) (F : FnOk X.prog X.w X.K X.mg X.base CX0 k f fd ["self"] sp) (hb : Binds X.K fd ["self"] []) (hr : Room (k + 1) X.A) (he : PE X e te) : PE X (.FormattedValue e (-1) none pos) (tFmtO C sp te) := by
  refine ⟨fun pins s σ H Q I h => ?_⟩
  refine wpAny_FormattedValue_plain (thn (he.run pins s σ H _ I h) fun v s1 hv => ?_)
  obtain ⟨x, H1, I1, r1, a, dx, fs, rfl, ea, q⟩ := hv
  cases (show v = Value.ref a from r1)
  obtain ⟨mA, O, _⟩ := ins_get I1.hok ea
  obtain ⟨od, J, _⟩ := O.look
  refine PySem.W.kfo_fieldS hr.in1.units0 I1.kIn J N.fm N.ob M.at_ M.fn (own_run F hr.in1 (I1.tok _).env0.in1 hb (vs := [.ref a]) (I1.tok _) (.cons rfl .nil) q fun u s' hq => ?_)
  obtain ⟨v, H', I', rv, z, ev, q'⟩ := hq
  subst ev
  obtain ⟨t, rfl⟩ := rv
  exact ⟨.str z, H', I', ⟨t, rfl⟩, q'⟩
end
theorem lc_in {K : PySem.W.Frag} {a : Addr} {xs : List V} {H4 : Hp} {Nx : Hp → Prop} {T : V → Hp → (Hp → Prop) → Prop} (Pv : Nat → Hp → Prop) (h0 : Pv 0 H4) (hl : ∀ i H, i ≤ xs.length → Pv i H → SqT K H a xs)
    (hs : ∀ i x H, xs[i]? = some x → Pv i H → T x H (Pv (i + 1))) (hd : ∀ H, Pv xs.length H → Nx H) :
    ∃ W : Nat → Nat → Hp → Prop, (∃ m, W 0 m H4) ∧ ∀ i m H, W i m H →
      ((Itt K a).stop i H ∧ Nx H) ∨ ((Itt K a).go i H ∧ ∃ N1 : Hp → Prop, (∀ H', N1 H' → ∃ m', m' < m ∧ W (i + 1) m' H') ∧ ∀ x H', (Itt K a).yld i H x H' → T x H' N1) := by
  refine ⟨fun i m H => m = xs.length - i ∧ i ≤ xs.length ∧ Pv i H, ⟨xs.length, by simp, Nat.zero_le _, h0⟩, ?_⟩
  rintro i m H ⟨rfl, hi, p⟩
  have q := hl i H hi p
  by_cases hlt : i < xs.length
  · refine .inr ⟨⟨xs, xs[i], q, by simp [hlt]⟩, Pv (i + 1), fun H' p' => ⟨xs.length - (i + 1), by omega, rfl, hlt, p'⟩, fun x H' y => ?_⟩
    obtain ⟨e, y⟩ := y
    subst e
    exact hs i x _ (y xs q) p
  · have e : i = xs.length := by omega
    subst e
    exact .inl ⟨⟨xs, q, Nat.le_refl _⟩, hd H p⟩
end Ux

set_option Elab.async false
set_option linter.all false
set_option maxRecDepth 100000
set_option maxHeartbeats 4000000
namespace Ux
open PySem PySem.Spec PyProof.Rows L2
section
variable {X : Cx} {CX : CXT} {k : Nat} {C p g : Addr} {x m : Str} {mc : Value} {fd : FuncData} {ps : List Str} {sp : Sp} {dvs : List V} {ds : List Value} {E : XK} {p1 p2 pos : Pos} {pl : Sem Bool}
/-- C.m(), m a staticmethod of an own class -/
theorem pe_smeth0 (hg : Gl X x) (hm : X.mg x = some (.ref C)) (S : StM X.K C m mc p g) (F : FnOk X.prog X.w X.K X.mg X.base CX k g fd ps sp) (hr : Room k X.A) (hb : Binds X.K fd ps ds) (hd : Vals dvs ds) (hx : Passes CX X E)
    (hdb : (x == ("__debug__" : Str)) = false := by decide)
    (hc : eval (.Call (.Attribute (.Name x p1) m p2) [] [] pos) X.env = (do
      let ov ← eval (.Name x p1) X.env
      standAt p2.atName
      let (f, first) ← holding [ov] (getMethod ov m pl)
      callWith pos f first (backTo pos (starEach [] X.env)) (backToKw pos (keywordEach [] X.env))) := by rfl) :
    PE X (.Call (.Attribute (.Name x p1) m p2) [] [] pos) (tCall sp dvs E tNil) := by
  constructor
  intro pins s σ H Q I h
  obtain ⟨rest, rc⟩ := S.rc
  refine PySem.W.methodCall_KW (ld_glob I hg hm ?_ hdb) hc
  refine PySem.W.method_cls I.kIn S.sg (PySem.W.cls_bind I.kIn S.rd S.fc (wpAny_call (PySem.W.sm_get (s := { s with toks := s.toks + 1 }) I.kIn rc (PySem.W.handed_on rfl ?_))))
  exact PySem.W.callWith_K0 (I.tok _).kIn S.kp (run_fn (us := []) F hr hb hd hx (I.tok _) .nil h)
end
end Ux

set_option Elab.async false
set_option linter.all false
set_option maxRecDepth 100000
set_option maxHeartbeats 4000000
namespace Ux
open PySem PySem.W
/-! ### own binary operators: the right side of the same class, an int, or the int on the left; own unary minus and abs; // by any divisor -/
section
variable {prog : Program} {w : World} {M : Model} {A : Around} {E : Value → Shared → Prop} {s : Shared} {K : Frag} {x C L f : Addr} {h₀ : Heap} {m : Str → Option Value} {ox : Obj} {od : Option Obj}
theorem intBin_ref {name : String} {g : Int → Int → Sem Fin} {refl : Bool} {i : Int} {t : Tok} {Q : Fin → Shared → Prop} (ho : s.heap.get? x = some ox) (np : ∀ j u, ox.data ≠ .prim (.int j u)) (h : Q (.done (.ret .notImplemented)) s) :
    wpAny M A (Builtin.Int.intBinary name g refl ⟨[.int i t, .ref x], []⟩) Q E s := by
  unfold Builtin.Int.intBinary
  refine wpAny_bind (m := slotArgs name 1 _) (wpAny_pure ?_)
  unfold Builtin.Int.intOfSelf
  refine wpAny_bind (wpAny_bind (m := asInt? (.int i t)) (wpAny_pure (wpAny_pure ?_)))
  refine wpAny_bind (m := asInt? (.ref x)) ?_
  unfold asInt?
  refine wpAny_bind (wpAny_load ho ?_)
  split
  · rename_i j u e
    exact absurd e (np j u)
  · refine wpAny_pure ?_
    exact wpAny_bind (wpAny_rule (wpAny_pure h))
theorem intSlot_ref {name : Str} {id nm : String} {g : Int → Int → Sem Fin} {i : Int} {t : Tok} {Q : Option Value → Shared → Prop} (h : Slot "int" name id) (hb : entryFor table id = some (Builtin.Int.intBinary nm g)) (ha : argsOk id ⟨[.int i t, .ref x], []⟩) (ho : s.heap.get? x = some ox) (np : ∀ j u, ox.data ≠ .prim (.int j u)) (hq : Q none s) :
    wpAny (model prog w) A (tryMethod (.int i t) name (.ref x)) Q E s :=
  wpAny_tryMethod_declines (typeIs_int s i t) h (wpAny_call_entry h (typeIs_int s i t) hb (intBin_ref ho np ⟨_, rfl, rfl, hq⟩) ha)
/-- i + x, x of a class with its own reflected method -/
theorem bin_refl {op : Operator} {nm sym idl : String} {g : Int → Int → Sem Fin} {n0 : String} {f' : Addr} {i : Int} {t : Tok} {Q : Value → Shared → Prop} (hi : op.info = (sym, nm)) (X : K.In s.heap) (I : InstAt s.heap x ox C od) (np : ∀ j u, ox.data ≠ .prim (.int j u)) (hc : selfFirst K C = true)
    (hs : findIn K (.ref C) (PySem.dunder nm) = some (some (.ref f'))) (hr : findIn K (.ref C) (dunderR nm) = some (some (.ref f))) (hf : isFn K (.ref f) = true) (hsub : subIn K (.ref C) (.type "int") = some false)
    (fills : fillsNumberSlot (.type "int") nm = pure true) (slot : Slot "int" (PySem.dunder nm) idl) (hb : entryFor table idl = some (Builtin.Int.intBinary n0 g)) (ha : argsOk idl ⟨[.int i t, .ref x], []⟩)
    (h : wpAny (model prog w) A (call (.ref f) [.ref x, .int i t]) (CmpBack Q) E s) : wpAny (model prog w) A (binaryOp op (.int i t) (.ref x)) Q E s := by
  obtain ⟨cd, rest, hcd, hm⟩ := ksp_first hc
  have one := ksp_try X I hr hf h
  have L3 : Looks (model prog w) s.heap (fillsNumberSlot (.ref C) nm) true := fills_K X hcd hm hs
  simp only [binaryOp, hi]
  refine wpAny_holding (wpAny_bind ?_)
  unfold binaryOp1
  refine wpAny_bind (wpAny_typeOf (typeIs_int s i t) (wpAny_bind (I.type.here (wpAny_bind (wpAny_of_eq fills ?_)))))
  have hne : (Value.type "int" == Value.ref C) = false := Bool.eq_false_iff.mpr fun q => by cases beq_iff_eq.mp q
  simp only [hne, Bool.false_eq_true, if_false]
  refine wpAny_bind (L3.here ?_)
  simp only [Bool.and_self, if_true]
  refine wpAny_bind ((looks_subIn X hsub).here ?_)
  have hpy : numberSlotInPython (.type "int") nm = pure false := rfl
  simp only [Bool.false_eq_true, if_false, pure_bind, Bool.not_false, Bool.and_self, if_true, hpy]
  refine wpAny_bind (intSlot_ref slot hb ha I.1 np ?_)
  dsimp only
  refine wpAny_bind (wpAny_mono one (fun r s' hr' => ?_) fun _ _ e => e)
  obtain ⟨v, rfl, hq⟩ := hr'
  exact wpAny_bind (wpAny_rule (wpAny_pure (wpAny_pure hq)))
end
end Ux
namespace Ux
open PySem PySem.Spec PyProof.Rows L2
/-- o op y by o's own method -/
structure BinM (K : PySem.W.Frag) (C : Addr) (nm : String) (f : Addr) : Prop where
  sf : PySem.W.selfFirst K C = true
  at_ : PySem.W.findIn K (.ref C) (PySem.dunder nm) = some (some (.ref f))
  fn : PySem.W.isFn K (.ref f) = true
/-- .. with an int on the right -/
structure BinI (K : PySem.W.Frag) (C : Addr) (nm : String) : Prop where
  rc : ∃ g : Addr, PySem.W.findIn K (.ref C) (dunderR nm) = some (some (.ref g))
  t1 : ∃ fo, PySem.W.findIn K (.type "int") (PySem.dunder nm) = some fo
  t2 : ∃ ro, PySem.W.findIn K (.type "int") (dunderR nm) = some ro
  sb : PySem.W.subIn K (.type "int") (.ref C) = some false
/-- .. with an int on the left -/
structure BinL (K : PySem.W.Frag) (C : Addr) (nm : String) (f : Addr) : Prop where
  sf : PySem.W.selfFirst K C = true
  lt : ∃ g : Addr, PySem.W.findIn K (.ref C) (PySem.dunder nm) = some (some (.ref g))
  at_ : PySem.W.findIn K (.ref C) (dunderR nm) = some (some (.ref f))
  fn : PySem.W.isFn K (.ref f) = true
  sb : PySem.W.subIn K (.ref C) (.type "int") = some false
/-- an object handed back -/
def Ob (Q : VK) : VK := fun v H => ∃ p, v = .ref p ∧ Q (.ref p) H
def rBinO (K : PySem.W.Frag) (C : Addr) (sp : Sp) : R2 := fun x y H Q => ∃ (a dx : Addr) (fs : List (Str × V)), x = .ref a ∧ H a = some (.ins C dx fs) ∧ TyX K H y (.ref C) ∧ sp [x, y] H (Ob Q) (fun _ _ _ => False)
def rBinI (C : Addr) (sp : Sp) : R2 := fun x y H Q => ∃ (a dx : Addr) (fs : List (Str × V)) (i : Int), x = .ref a ∧ y = .int i ∧ H a = some (.ins C dx fs) ∧ sp [x, y] H (Ob Q) (fun _ _ _ => False)
def rBinL (C : Addr) (sp : Sp) : R2 := fun x y H Q => ∃ (a dx : Addr) (fs : List (Str × V)) (i : Int), x = .int i ∧ y = .ref a ∧ H a = some (.ins C dx fs) ∧ sp [y, x] H (Ob Q) (fun _ _ _ => False)
section
variable {X : Cx} {k : Nat} {f C : Addr} {fd : FuncData} {sp : Sp} {op : Operator} {ps : List Str}
theorem ob_back {pins : List (Addr × Obj)} {σ : L2.St} {Q : VK} {u : Value} {s' : Shared} (hq : EP X pins σ (Ob Q) u s') : PySem.W.CmpBack (EP X pins σ Q) u s' := by
  obtain ⟨v, H', I', rv, p, ev, q'⟩ := hq
  subst ev
  cases (show u = Value.ref p from rv)
  exact ⟨.ref p, H', I', rfl, q'⟩
theorem op_binO (M : BinM X.K C op.info.2 f) (F : FnOk X.prog X.w X.K X.mg X.base CX0 k f fd ps sp) (hb : Binds X.K fd ps []) (hr : Room k X.A) : OpR X (binaryOp op) (rBinO X.K C sp) := by
  intro pins s σ H x y v u Q I rx ry h
  obtain ⟨a, dx, fs, rfl, ea, ty, q⟩ := h
  cases (show v = Value.ref a from rx)
  obtain ⟨mA, O, _⟩ := ins_get I.hok ea
  obtain ⟨od, J, _⟩ := O.look
  obtain ⟨m, hF⟩ := I.fr
  obtain ⟨P', Z, hp, _⟩ := kit_of I ry ty
  exact PySem.W.binop_K hF I.ok.mod.kin J (Z.ty _ _ I.kIn hp) M.sf M.at_ M.fn (own_run F hr I.env0 hb (vs := [.ref a, y]) I (.cons rfl (.cons ry .nil)) q fun u s' hq => ob_back hq)
theorem op_binI (M : BinM X.K C op.info.2 f) (N : BinI X.K C op.info.2) (F : FnOk X.prog X.w X.K X.mg X.base CX0 k f fd ps sp) (hb : Binds X.K fd ps []) (hr : Room k X.A) : OpR X (binaryOp op) (rBinI C sp) := by
  intro pins s σ H x y v u Q I rx ry h
  obtain ⟨a, dx, fs, i, rfl, rfl, ea, q⟩ := h
  cases (show v = Value.ref a from rx)
  obtain ⟨mA, O, _⟩ := ins_get I.hok ea
  obtain ⟨od, J, _⟩ := O.look
  obtain ⟨m, hF⟩ := I.fr
  obtain ⟨t, rfl⟩ := ry
  obtain ⟨g, rc⟩ := N.rc
  obtain ⟨fo, t1⟩ := N.t1
  obtain ⟨ro, t2⟩ := N.t2
  exact PySem.W.ksp_binT (T := "int") hF I.ok.mod.kin J rfl M.sf M.at_ M.fn rc (.inr ⟨g, rfl⟩) t1 t2 N.sb (own_run F hr I.env0 hb (vs := [.ref a, .int i]) I (.cons rfl (.cons ⟨t, rfl⟩ .nil)) q fun u s' hq => ob_back hq)
theorem op_binL {nm sym idl n0 : String} {g : Int → Int → Sem Fin} (hi : op.info = (sym, nm)) (M : BinL X.K C nm f) (F : FnOk X.prog X.w X.K X.mg X.base CX0 k f fd ps sp) (hb : Binds X.K fd ps []) (hr : Room k X.A)
    (fills : fillsNumberSlot (.type "int") nm = pure true) (slot : Slot "int" (PySem.dunder nm) idl) (he : entryFor table idl = some (Builtin.Int.intBinary n0 g)) (ha : ∀ a b, argsOk idl ⟨[a, b], []⟩) : OpR X (binaryOp op) (rBinL C sp) := by
  intro pins s σ H x y v u Q I rx ry h
  obtain ⟨a, dx, fs, i, rfl, rfl, ea, q⟩ := h
  cases (show u = Value.ref a from ry)
  obtain ⟨mA, O, _⟩ := ins_get I.hok ea
  obtain ⟨od, J, _⟩ := O.look
  obtain ⟨t, rfl⟩ := rx
  obtain ⟨g', lt⟩ := M.lt
  exact bin_refl hi I.kIn J (fun j u e => by cases e) M.sf lt M.at_ M.fn M.sb fills slot he (ha _ _) (own_run F hr I.env0 hb (vs := [.ref a, .int i]) I (.cons rfl (.cons ⟨t, rfl⟩ .nil)) q fun u s' hq => ob_back hq)
theorem op_addL (M : BinL X.K C "add" f) (F : FnOk X.prog X.w X.K X.mg X.base CX0 k f fd ps sp) (hb : Binds X.K fd ps []) (hr : Room k X.A) : OpR X (binaryOp .Add) (rBinL C sp) :=
  op_binL rfl M F hb hr PySem.F.fills_int_add PySem.F.slot_int_add PySem.F.entry_int_add PySem.F.args_int_add_2
theorem op_subL (M : BinL X.K C "sub" f) (F : FnOk X.prog X.w X.K X.mg X.base CX0 k f fd ps sp) (hb : Binds X.K fd ps []) (hr : Room k X.A) : OpR X (binaryOp .Sub) (rBinL C sp) :=
  op_binL rfl M F hb hr PySem.F.fills_int_sub PySem.F.slot_int_sub PySem.F.entry_int_sub PySem.F.args_int_sub_2
/-- -o by o's own __neg__ -/
def rOwnNeg (C : Addr) (sp : Sp) : V → Hp → VK → Prop := fun x H Q => ∃ (a dx : Addr) (fs : List (Str × V)), x = .ref a ∧ H a = some (.ins C dx fs) ∧ sp [.ref a] H Q (fun _ _ _ => False)
theorem un_negO (M : OwnM X.K C "__neg__" f) (F : FnOk X.prog X.w X.K X.mg X.base CX0 k f fd ["self"] sp) (hb : Binds X.K fd ["self"] []) (hr : Room k X.A) : UnR X (unaryOp .USub) (rOwnNeg C sp) := by
  intro pins s σ H x v Q I rx h
  obtain ⟨a, dx, fs, rfl, ea, q⟩ := h
  cases (show v = Value.ref a from rx)
  obtain ⟨mA, O, _⟩ := ins_get I.hok ea
  obtain ⟨od, J, _⟩ := O.look
  obtain ⟨m, hF⟩ := I.fr
  exact PySem.W.ksp_neg hF I.ok.mod.kin J M.at_ M.fn (own_run F hr I.env0 hb (vs := [.ref a]) I (.cons rfl .nil) q fun u s' hq => hq)
theorem op_any {f : Value → Value → Sem Value} {r1 r2 : R2} (h1 : OpR X f r1) (h2 : OpR X f r2) : OpR X f (fun x y H Q => r1 x y H Q ∨ r2 x y H Q) := by
  intro pins s σ H x y v u Q I rx ry h
  rcases h with h | h
  · exact h1 pins s σ H x y v u Q I rx ry h
  · exact h2 pins s σ H x y v u Q I rx ry h
/-- // by any divisor but 0, below 2 ^ 9000 -/
theorem op_fdivX : OpR X (binaryOp .FloorDiv) (rI (fun _ j => j ≠ 0 ∧ j.natAbs.log2 < 9000) fun i j => .int (i.fdiv j)) := opI fun _ _ _ _ _ _ _ hc q => floordiv_int hc.1 q (.inl (PyProof.noPylong_of_log2 hc.2))
end
end Ux

set_option Elab.async false
set_option linter.all false
set_option maxRecDepth 100000
set_option maxHeartbeats 4000000
namespace Ux
open PySem PySem.Spec PyProof.Rows L2
/-! ### abs(o) by o's own __abs__; o.m(k = e) -/
section
variable {X : Cx} {k : Nat} {f C : Addr} {fd : FuncData} {sp : Sp}
theorem call_absO (M : OwnM X.K C "__abs__" f) (F : FnOk X.prog X.w X.K X.mg X.base CX0 k f fd ["self"] sp) (hb : Binds X.K fd ["self"] []) (hr : Room (k + 1) X.A) : CallR X (.builtin "abs") (fun xs H Q => ∃ (a dx : Addr) (fs : List (Str × V)), xs = [.ref a] ∧ H a = some (.ins C dx fs) ∧ sp [.ref a] H (Ob Q) (fun _ _ _ => False)) := by
  intro pins s σ H xs us Q I r h
  obtain ⟨a, dx, fs, rfl, ea, q⟩ := h
  obtain ⟨u, rfl, rx⟩ := vals1 r
  cases (show u = Value.ref a from rx)
  obtain ⟨mA, O, _⟩ := ins_get I.hok ea
  obtain ⟨od, J, _⟩ := O.look
  refine PySem.Calls.call_function_entry kind_abs plain_abs entry_abs (args_abs _) ?_
  unfold Builtin.«abs»
  refine wpAny_bind (m := oneArg "abs" _) (wpAny_pure ?_)
  refine wpAny_bind (m := callSpecial? (.ref a) (Str.ofString "__abs__")) (PySem.W.special_fn I.kIn J M.at_ (beq_iff_eq.mp M.fn) (own_run F hr.in1 I.env0.in1 hb (vs := [.ref a]) I (.cons rfl .nil) q fun u s' hq => ?_))
  obtain ⟨v, H', I', rv, p, ev, q'⟩ := hq
  subst ev
  cases (show u = Value.ref p from rv)
  exact wpAny_pure ⟨_, rfl, .ref p, H', I', rfl, q'⟩
end
section
variable {X : Cx} {o : Expr} {m : Str} {pos apos : Pos} {ta : TE} {CX : CXT} {k : Nat} {f C : Addr} {fd : FuncData} {ps ks : List Str} {sp : Sp} {E : XK} {kws : List Keyword} {tk : TA} {gg : List Value → List Value → List Value} {gV : List V → List V → List V}
def tMethK0 (C : Addr) (m : Str) (sp : Sp) (gV : List V → List V → List V) (E : XK) (ta : TE) (tk : TA) : TE := fun σ H Q => ta σ H fun x H1 => ∃ a dx fs, x = .ref a ∧ H1 a = some (.ins C dx fs) ∧ fs.lookup m = none ∧ tk σ H1 fun zs H2 => sp (gV [x] zs) H2 Q E
theorem pe_methK0 {pl : Sem Bool} (he : PE X o ta) (c : Cls X.K C) (hm : Meth X.K C m f) (F : FnOk X.prog X.w X.K X.mg X.base CX k f fd ps sp) (hr : Room k X.A) (hb : KBinds X.K fd ps ks gg gV) (hx : Passes CX X E) (hkw : PK X kws tk)
    (hall : (backToKw pos (keywordEach kws X.env)).all (·.1.isSome) = true := by rfl) (hks : (backToKw pos (keywordEach kws X.env)).filterMap (·.1) = ks := by rfl)
    (ht : eval (.Call (.Attribute o m apos) [] kws pos) X.env = (do
      let ov ← eval o X.env
      standAt apos.atName
      let (f, first) ← holding [ov] (getMethod ov m pl)
      callWith pos f first (backTo pos (starEach [] X.env)) (backToKw pos (keywordEach kws X.env))) := by rfl)
    (hpl : ((backTo pos (starEach [] X.env)).any (·.1) || (backToKw pos (keywordEach kws X.env)).any (·.1.isNone)) = false := by rfl) :
    PE X (.Call (.Attribute o m apos) [] kws pos) (tMethK0 C m sp gV E ta tk) := by
  refine ⟨fun pins s σ H Q I h => ?_⟩
  refine PySem.W.methodCall_KW (pl := pl) (thn (he.run pins s σ H _ I h) fun u s1 ⟨x, H1, I1, rx, a, dx, fs, ex, ea, l, q⟩ => ?_) ht
  subst ex
  obtain rfl : u = Value.ref a := rx
  refine getmeth_ok I1 ea c hm l ?_
  refine PySem.W.callWith_KW0 (first := [.ref a]) (h₀ := X.base) I.ok.mod.kin hm.kp hall (thn (hkw.run pos pins s1 σ H1 _ I1 q) fun ws s2 got => ?_) hpl
  obtain ⟨zs, H2, I2, rz, q2⟩ := got
  refine ⟨I2.kIn, ?_⟩
  rw [hks]
  exact run_fnk (us := [.ref a]) (vs := [.ref a]) F hr hb hx I2 (.cons rfl .nil) rz q2
end
end Ux
/-! ### abs and str of False -/
namespace Ux
open PySem PySem.Spec PyProof.Rows L2
theorem abs_false {prog : Program} {w : World} {A : Around} {E : Value → Shared → Prop} {s : Shared} {Q : Value → Shared → Prop} (h : ∀ u tk, Q (.int 0 u) { s with toks := tk }) : wpAny (model prog w) A (call (.builtin "abs") [.bool false]) Q E s := by
  refine PySem.Calls.call_function_entry kind_abs plain_abs entry_abs (args_abs _) ?_
  unfold Builtin.«abs»
  refine wpAny_bind (m := oneArg "abs" _) (wpAny_pure ?_)
  refine wpAny_bind (m := callSpecial? (.bool false) (Str.ofString "__abs__")) (wpAny_callSpecial?_slot (name := Str.ofString "__abs__") (PySem.typeIs_bool s false) F.slot_bool_abs
    (wpAny_call_entry F.slot_bool_abs (PySem.typeIs_bool s false) entry_int_abs ?_ (args_int_abs _)))
  have h' := h s.toks (s.toks + 1)
  exact wpAny_ret_mkInt (wpAny_pure ⟨_, rfl, h'⟩)
theorem str_false {prog : Program} {w : World} {A : Around} {E : Value → Shared → Prop} {s : Shared} {Q : Value → Shared → Prop} (h : Q (.str "False" s.toks) { s with toks := s.toks + 1 }) : wpAny (model prog w) A (call (.type "str") [.bool false]) Q E s :=
  callType_new F.called_str (by decide) (F.typeCall_str_1 _) (F.newCall_str_1 _) (fun obj => F.args_object_init_2 obj _) F.entry_str_new
    (meets_str_new (S := fun _ R s => R (.ok (.ret (.str "False" s.toks))) { s with toks := s.toks + 1 }) fun _ _ _ _ s hq =>
      wpAny_strOf_gives rfl (PySem.typeIs_bool s false) F.slot_bool_str F.slot_bool_repr F.entry_bool_repr (F.args_bool_repr_1 _) (gives_bool_repr false) hq (hsz := by decide)) ⟨typeIs_str _ _ _, h⟩
theorem call_absB {X : Cx} : CallR X (.builtin "abs") (fun xs H Q => ((∃ i, xs = [.int i] ∧ Q (.int (if i < 0 then -i else i)) H) ∨ (xs = [.bl true] ∧ Q (.int 1) H)) ∨ (xs = [.bl false] ∧ Q (.int 0) H)) := by
  intro pins s σ H xs us Q I r h
  rcases h with h | ⟨rfl, q⟩
  · exact call_absT pins s σ H xs us Q I r h
  · obtain ⟨u, rfl, r1⟩ := vals1 r
    cases (show u = Value.bool false from r1)
    exact abs_false fun u tk => ⟨.int 0, H, I.tok _, ⟨_, rfl⟩, q⟩
theorem call_strB {X : Cx} : CallR X (.type "str") (fun xs H Q => ((∃ i, xs = [.int i] ∧ i.natAbs.log2 < 1920 ∧ Q (.str (toString i)) H) ∨ (xs = [.bl true] ∧ Q (.str "True") H)) ∨ (xs = [.bl false] ∧ Q (.str "False") H)) := by
  intro pins s σ H xs us Q I r h
  rcases h with h | ⟨rfl, q⟩
  · exact call_strT pins s σ H xs us Q I r h
  · obtain ⟨u, rfl, r1⟩ := vals1 r
    cases (show u = Value.bool false from r1)
    exact str_false ⟨.str _, H, I.tok _, ⟨_, rfl⟩, q⟩
end Ux

set_option Elab.async false
set_option linter.all false
set_option maxRecDepth 100000
set_option maxHeartbeats 4000000
namespace K37
open PySem PySem.Spec PyProof.Rows L2 Ux
theorem fit {n m : Nat} (h : n ≤ m) (k : m ≤ 100000) : n ≤ sizeLine := by
  rw [sizeLine_eq]
  omega
abbrev sShown : Stmt := top 3
/-- the values that the law hands in -/
inductive Adm (K : PySem.W.Frag) (H : Hp) : V → Prop where
  | own {a C dx : Addr} {fs : List (Str × V)} (h : H a = some (.ins C dx fs)) (ty : ∀ H' : Hp, H' a = some (.ins C dx fs) → TyX K H' (.ref a) (.ref C)) (k1 : PySem.W.kitOne K (.ref C) (.type "str") = some false) (k2 : PySem.W.kitOne K (.ref C) (.type "int") = some false) : Adm K H (.ref a)
  | non : Adm K H .non
  | yes : Adm K H (.bl true)
  | no : Adm K H (.bl false)
  | int {i : Int} (h : i.natAbs < 10 ^ 10) : Adm K H (.int i)
  | str {x : Str} (h : (reprText x).length ≤ 1000) : Adm K H (.str x)
  | tup {a : Addr} {xs : List V} (h : H a = some (.tup xs)) : Adm K H (.ref a)
  | lst {a : Addr} {xs : List V} (h : H a = some (.lst xs)) : Adm K H (.ref a)
def spShown (K : PySem.W.Frag) : Sp := fun vs H Q _ => ∃ v, vs = [v] ∧ Adm K H v ∧ ∀ z : Str, z.length ≤ 1000 → Q (.str z) H
theorem log2_small {i : Int} (h : i.natAbs < 10 ^ 10) : i.natAbs.log2 < 1920 := by
  by_cases z : i.natAbs = 0
  · rw [z]
    decide
  · have q := Nat.log2_self_le z
    have : i.natAbs.log2 < 40 := by
      refine Nat.lt_of_not_le fun c => ?_
      have q2 : 2 ^ 40 ≤ 2 ^ i.natAbs.log2 := Nat.pow_le_pow_right (by decide) c
      have q3 : (10 : Nat) ^ 10 < 2 ^ 40 := by decide
      omega
    omega
theorem text_small {i : Int} (h : i.natAbs < 10 ^ 10) : (toString i : Str).length ≤ 1000 := by
  show (Str.ofString (toString i)).length ≤ 1000
  have q := int_text_length_le10 (k := 10) (by decide) h
  rw [PySem.ofString_length]
  omega
section
variable {P : Program} {w : World} {K : PySem.W.Frag} {mg : Str → Option Value} {base : Heap}
theorem scShown : FnScope ["value"] ["value"] (defScope sShown) := ⟨rfl, rfl, rfl, by decide +kernel, rfl, by decide +kernel, by decide +kernel⟩
theorem ok_shown {f : Addr} {fd : FuncData} (F : Fun K "shown" "shown" sShown f fd) (T : Bn mg) : FnOk P w K mg base CX0 1 f fd ["value"] (spShown K) := by
  refine F.ok scShown (fun vs H Q E h => ?_) (fun cdv A outer s H vs Q E hr h => ?_)
  · obtain ⟨v, rfl, _⟩ := h
    rfl
  · obtain ⟨v, rfl, adm, k⟩ := h
    refine ⟨_, pss_cons (ps_if (pt_val (pe_callB call_isi (by rfl) T.isin (by decide +kernel) (pa_cons (pv 0) (pa_cons (pe_bltn (v := .ty "str") (by rfl) T.tstr (by decide +kernel) rfl) pa_nil))))
        (pss_one (ps_ret (pe_callB call_reprS (by rfl) T.frepr (by decide +kernel) (pa_cons (pv 0) pa_nil)))) pss_nil)
      (pss_cons (ps_if (PW.pt (pw_and (pt_val (pe_callB call_isi (by rfl) T.isin (by decide +kernel) (pa_cons (pv 0) (pa_cons (pe_bltn (v := .ty "int") (by rfl) T.tint (by decide +kernel) rfl) pa_nil))))
          (pw_and1 (pt_cmpR op_lt (pe_callB call_absB (by rfl) T.fabs (by decide +kernel) (pa_cons (pv 0) pa_nil)) (pe_op op_pow pe_int pe_int) (nomark _)))))
        (pss_one (ps_ret (pe_callTy call_strB (by rfl) T.tstr (by decide +kernel) (pa_cons (pv 0) pa_nil)))) pss_nil)
      (pss_one (ps_ret pe_str))), ?_⟩
    cases adm with
    | own ha ty k1 k2 =>
      refine ⟨_, rfl, _, _, _, _, false, rfl, .ty "str", ty _ ha, k1, _, rfl, ?_⟩
      refine iteF ?_
      refine ⟨_, rfl, _, _, _, _, false, rfl, .ty "int", ty _ ha, k2, _, rfl, ?_⟩
      refine iteF (iteF ?_)
      exact k _ (by decide)
    | non =>
      refine ⟨_, rfl, _, _, _, _, false, rfl, .ty "str", .base .non, kit_ty (by decide +kernel), _, rfl, ?_⟩
      refine iteF ?_
      refine ⟨_, rfl, _, _, _, _, false, rfl, .ty "int", .base .non, kit_ty (by decide +kernel), _, rfl, ?_⟩
      refine iteF (iteF ?_)
      exact k _ (by decide)
    | yes =>
      refine ⟨_, rfl, _, _, _, _, false, rfl, .ty "str", .base (.bl _), kit_ty (by decide +kernel), _, rfl, ?_⟩
      refine iteF ?_
      refine ⟨_, rfl, _, _, _, _, true, rfl, .ty "int", .base (.bl _), kit_ty (by decide +kernel), _, rfl, ?_⟩
      refine iteT ⟨_, rfl, .inl (.inr ⟨rfl, _, _, rfl, rfl, ⟨by decide, by decide, by decide⟩, _, _, rfl, rfl, _, rfl, ?_⟩)⟩
      refine iteT ⟨_, rfl, .inl (.inr ⟨rfl, ?_⟩)⟩
      exact k _ (by decide)
    | no =>
      refine ⟨_, rfl, _, _, _, _, false, rfl, .ty "str", .base (.bl _), kit_ty (by decide +kernel), _, rfl, ?_⟩
      refine iteF ?_
      refine ⟨_, rfl, _, _, _, _, true, rfl, .ty "int", .base (.bl _), kit_ty (by decide +kernel), _, rfl, ?_⟩
      refine iteT ⟨_, rfl, .inr ⟨rfl, _, _, rfl, rfl, ⟨by decide, by decide, by decide⟩, _, _, rfl, rfl, _, rfl, ?_⟩⟩
      refine iteT ⟨_, rfl, .inr ⟨rfl, ?_⟩⟩
      exact k _ (by decide)
    | @int i hi =>
      refine ⟨_, rfl, _, _, _, _, false, rfl, .ty "str", .base (.int _), kit_ty (by decide +kernel), _, rfl, ?_⟩
      refine iteF ?_
      refine ⟨_, rfl, _, _, _, _, true, rfl, .ty "int", .base (.int _), kit_ty (by decide +kernel), _, rfl, ?_⟩
      refine iteT ⟨_, rfl, .inl (.inl ⟨_, rfl, _, _, rfl, rfl, ⟨by decide, by decide, by decide⟩, _, _, rfl, rfl, _, rfl, ?_⟩)⟩
      have lt : (if i < 0 then -i else i) < 10 ^ Int.toNat 30 := by
        have e : ((10 : Int) ^ Int.toNat 30) = 1000000000000000000000000000000 := by decide +kernel
        have h10 : (10 : Nat) ^ 10 = 10000000000 := by decide
        rw [e]
        rw [h10] at hi
        split <;> omega
      rw [decide_eq_true lt]
      refine iteT ⟨_, rfl, .inl (.inl ⟨_, rfl, log2_small hi, ?_⟩)⟩
      exact k _ (text_small hi)
    | @str x hx =>
      refine ⟨_, rfl, _, _, _, _, true, rfl, .ty "str", .base (.str _), kit_ty (by decide +kernel), _, rfl, ?_⟩
      refine iteT ⟨_, rfl, _, rfl, ?_, ?_⟩
      · rw [sizeLine_eq]
        omega
      · exact k _ hx
    | tup ha =>
      refine ⟨_, rfl, _, _, _, _, false, rfl, .ty "str", .base (.tup ha), kit_ty (by decide +kernel), _, rfl, ?_⟩
      refine iteF ?_
      refine ⟨_, rfl, _, _, _, _, false, rfl, .ty "int", .base (.tup ha), kit_ty (by decide +kernel), _, rfl, ?_⟩
      refine iteF (iteF ?_)
      exact k _ (by decide)
    | lst ha =>
      refine ⟨_, rfl, _, _, _, _, false, rfl, .ty "str", .base (.lst ha), kit_ty (by decide +kernel), _, rfl, ?_⟩
      refine iteF ?_
      refine ⟨_, rfl, _, _, _, _, false, rfl, .ty "int", .base (.lst ha), kit_ty (by decide +kernel), _, rfl, ?_⟩
      refine iteF (iteF ?_)
      exact k _ (by decide)
end
theorem e00 : Str.empty.length ≤ 0 := Nat.le_refl _
theorem app_le {x y : Str} {m n : Nat} (h : x.length ≤ m) (k : y.length ≤ n) : (x ++ y).length ≤ m + n := by
  rw [PySem.Str.length_append]
  omega
/-- a base of error classes, its __init__ read off it -/
structure Bs (K : PySem.W.Frag) (mg : Str → Option Value) (x : Str) (initId : String) (CB : Addr) : Prop where
  gl : mg x = some (.ref CB)
  sg : PySem.W.specialIn K (.ref CB) "__getattribute__" = some (some (.builtin "type.__getattribute__"))
  rd : PySem.W.readsIn K CB (.type "type") = true
  vV : PySem.W.findCls K (.ref CB) (.type "type") "__init__" = some (.val (.builtin initId))
  vh : PySem.W.handedIn (.builtin initId) = true
abbrev sI_InvalidNumber : Stmt := inClass (top 6) 0
/-- InvalidNumber.__init__ -/
def spI_InvalidNumber (K : PySem.W.Frag) : Sp := fun vs H Q _ => ∃ (a C : Addr) (v1 : V), vs = [.ref a, v1] ∧ EcI K "ValueError.__init__" C ∧ (PySem.W.findIn K (.ref C) "code" = some none ∧ PySem.W.findIn K (.ref C) "given" = some none) ∧ H a = some (exo a C none) ∧ Adm K H v1 ∧
  ∀ (d : Addr) (H' : Hp), H d = none → d ≠ a → H' a = some (exo a C (some d)) → H' d = some (exd d [("given", v1), ("code", .str "InvalidNumber")]) → But a H H' → Q .non H'
section
variable {P : Program} {w : World} {K : PySem.W.Frag} {mg : Str → Option Value} {base : Heap}
theorem scI_InvalidNumber : FnScope ["self", "given"] ["self", "given"] (defScope sI_InvalidNumber) := ⟨rfl, rfl, rfl, by decide +kernel, rfl, by decide +kernel, by decide +kernel⟩
theorem okI_InvalidNumber {f CB fS : Addr} {fd fdS : FuncData} (F : Fun K "__init__" "InvalidNumber.__init__" sI_InvalidNumber f fd) (W : Bs K mg "SlopeError" "ValueError.__init__" CB) (D : Dn K mg "shown" fS) (G : FnOk P w K mg base CX0 1 fS fdS ["value"] (spShown K)) (bS : Binds K fdS ["value"] []) :
    FnOk P w K mg base CX0 2 f fd ["self", "given"] (spI_InvalidNumber K) := by
  refine F.ok scI_InvalidNumber (fun vs H Q E h => ?_) (fun cdv A outer s H vs Q E hr h => ?_)
  · obtain ⟨a, C, v1, rfl, _⟩ := h
    rfl
  · obtain ⟨a, C, v1, rfl, ec, ⟨n0, n1⟩, ea, ad1, k⟩ := h
    refine ⟨_, pss_cons (ps_expr (pe_bi (initId := "ValueError.__init__") (by rfl) W.gl W.sg W.rd W.vV W.vh (pa_cons (pv 0) (pa_cons (pe_joined (PJ.cons (pe_fmt (pe_call G hr (by rfl) D.gl D.kp bS .nil pass0 (pa_cons (pv 1) pa_nil))) (PJ.cons pe_str PJ.nil))) pa_nil)))) (pss_cons (ps_est (pv 0) pe_str) (pss_one (ps_est (pv 0) (pv 1)))), ?_⟩
    have ea2 : EcA K C := ⟨_, ec⟩
    refine ⟨_, rfl, _, rfl, v1, rfl, ad1, fun z1 hz1 => .inl ⟨z1, rfl, fit hz1 (by decide), z1, rfl, fit (app_le e00 hz1) (by decide), _, rfl, fit (app_le (app_le e00 hz1) (show (Str.ofString " is no valid number").length ≤ 200 by decide)) (by decide), a, C, _, rfl, (by show 1 ≤ 1000; decide), ec, ea, ?_⟩⟩
    refine ⟨_, rfl, a, C, rfl, ea2, n0, .inl ⟨ea, fun d hd nd => ?_⟩⟩
    have xa : (upd (upd H d (exd d [("code", V.str "InvalidNumber")])) a (exo a C (some d))) a = some (exo a C (some d)) := upd_same
    have xd0 : (upd (upd H d (exd d [("code", V.str "InvalidNumber")])) a (exo a C (some d))) d = some (exd d [("code", V.str "InvalidNumber")]) := (upd_ne nd).trans upd_same
    have b0 : But a H (upd (upd H d (exd d [("code", V.str "InvalidNumber")])) a (exo a C (some d))) := fun x o e n => by
      rw [upd_ne n, upd_ne (ne_of_none e hd)]
      exact e
    refine ⟨_, rfl, _, rfl, a, C, rfl, ea2, n1, .inr ⟨d, _, xa, xd0, (by show 1 ≤ 900; decide), ?_⟩⟩
    replace xa : (upd (upd (upd H d (exd d [("code", V.str "InvalidNumber")])) a (exo a C (some d))) d (exd d (("given", v1) :: [("code", V.str "InvalidNumber")]))) a = some (exo a C (some d)) := (upd_ne nd.symm).trans xa
    have xd1 : (upd (upd (upd H d (exd d [("code", V.str "InvalidNumber")])) a (exo a C (some d))) d (exd d (("given", v1) :: [("code", V.str "InvalidNumber")]))) d = some (exd d (("given", v1) :: [("code", V.str "InvalidNumber")])) := upd_same
    have b1 : But a H (upd (upd (upd H d (exd d [("code", V.str "InvalidNumber")])) a (exo a C (some d))) d (exd d (("given", v1) :: [("code", V.str "InvalidNumber")]))) := fun x o e n => by
      rw [upd_ne (ne_of_none e hd)]
      exact b0 x o e n
    exact k d _ hd nd xa xd1 b1
end

theorem Adm.same {K : PySem.W.Frag} {H H' : Hp} {v : V} (h : Adm K H v) (s : Same H H') : Adm K H' v := by
  cases h with
  | own h ty k1 k2 => exact .own (s _ _ h) ty k1 k2
  | non => exact .non
  | yes => exact .yes
  | no => exact .no
  | int h => exact .int h
  | str h => exact .str h
  | tup h => exact .tup (s _ _ h)
  | lst h => exact .lst (s _ _ h)
/-- the class InvalidNumber, raised -/
structure IN (K : PySem.W.Frag) (mg : Str → Option Value) (C fI : Addr) : Prop where
  gl : mg "InvalidNumber" = some (.ref C)
  ox : OexC K C
  ec : EcI K "ValueError.__init__" C
  n0 : PySem.W.findIn K (.ref C) "code" = some none
  n1 : PySem.W.findIn K (.ref C) "given" = some none
  ini : PySem.W.findIn K (.ref C) "__init__" = some (some (.ref fI))
  ty : PySem.W.typeIn K (.ref fI) = some (.type "function")
/-- how it flies -/
def inFs (v : V) : List (Str × V) := [("given", v), ("code", .str "InvalidNumber")]
theorem del_put {H H2 : Hp} {a d : Addr} {o o' : HO} (na : H a = none) (hd : H d = none) (bu : But a (upd H a o) H2) : Same H (upd (del H2 a) d o') := fun x u e => by
  have xa := ne_of_none e na
  rw [upd_ne (ne_of_none e hd), del_ne xa]
  exact bu x u ((upd_ne xa).trans e) xa
theorem in_made {K : PySem.W.Frag} {mg : Str → Option Value} {C fI : Addr} (T : IN K mg C fI) {σ : L2.St} {H : Hp} {Q : XK} {i : Nat} {v : V} (hi : σ[i]? = some (some v)) (hv : Adm K H v) (h : ∀ d H', Same H H' → H' d = some (.xd (inFs v)) → Q (.ref C) (some d) H') :
    tMkO C (spI_InvalidNumber K) [] (tCons (tVar i) tNil) σ H Q := by
  refine ⟨v, hi, (by show 1 ≤ 1000; decide), fun a na => ⟨a, C, v, rfl, T.ec, ⟨T.n0, T.n1⟩, upd_same, hv.same (same_upd' na), fun d H2 hd nd ha hdd bu => ⟨rfl, d, _, ha, hdd, ?_, ?_⟩⟩⟩
  · rw [upd_ne nd] at hd
    exact hd
  · rw [upd_ne nd] at hd
    exact h d _ (del_put na hd bu) upd_same
/-! ### lowest terms -/
def cg (t b : Int) : Int := if b < 0 then -((Nat.gcd t.natAbs b.natAbs : Nat) : Int) else ((Nat.gcd t.natAbs b.natAbs : Nat) : Int)
def nT (t b : Int) : Int := t.fdiv (cg t b)
def nB (t b : Int) : Int := b.fdiv (cg t b)
def sg (b : Int) : Int := if b < 0 then -1 else 1
theorem g_pos {t b : Int} (hb : b ≠ 0) : 0 < Nat.gcd t.natAbs b.natAbs := Nat.gcd_pos_of_pos_right _ (by omega)
theorem cg_ne {t b : Int} (hb : b ≠ 0) : cg t b ≠ 0 := by
  have := g_pos (t := t) hb
  unfold cg
  split <;> omega
theorem cg_abs {t b : Int} : (cg t b).natAbs = Nat.gcd t.natAbs b.natAbs := by
  unfold cg
  split <;> omega
/-- t and b by their gcd -/
theorem parts (t b : Int) : ∃ k l : Int, t = ((Nat.gcd t.natAbs b.natAbs : Nat) : Int) * k ∧ b = ((Nat.gcd t.natAbs b.natAbs : Nat) : Int) * l := by
  have h1 : ((Nat.gcd t.natAbs b.natAbs : Nat) : Int) ∣ t := Int.ofNat_dvd_left.mpr (Nat.gcd_dvd_left _ _)
  have h2 : ((Nat.gcd t.natAbs b.natAbs : Nat) : Int) ∣ b := Int.ofNat_dvd_left.mpr (Nat.gcd_dvd_right _ _)
  obtain ⟨k, hk⟩ := h1
  obtain ⟨l, hl⟩ := h2
  exact ⟨k, l, hk, hl⟩
theorem fdiv_cg {t b x k : Int} (hb : b ≠ 0) (hx : x = ((Nat.gcd t.natAbs b.natAbs : Nat) : Int) * k) : x.fdiv (cg t b) = sg b * k := by
  have g0 := g_pos (t := t) hb
  generalize hg : ((Nat.gcd t.natAbs b.natAbs : Nat) : Int) = g at hx
  have gp : 0 < g := by omega
  have e : cg t b = sg b * g := by
    unfold cg sg
    rw [hg]
    split <;> omega
  rw [e, hx]
  unfold sg
  split
  · have e2 : g * k = (-1 * g) * (-k) := by
      rw [Int.neg_mul, Int.one_mul, Int.neg_mul_neg]
    rw [e2, Int.mul_fdiv_cancel_left _ (by omega)]
    omega
  · rw [Int.one_mul, Int.one_mul, Int.mul_fdiv_cancel_left _ (by omega)]
theorem sg_fdiv {t b x k : Int} (hb : b ≠ 0) (hx : x = ((Nat.gcd t.natAbs b.natAbs : Nat) : Int) * k) : (sg b * x).fdiv ((Nat.gcd t.natAbs b.natAbs : Nat) : Int) = sg b * k := by
  have g0 := g_pos (t := t) hb
  generalize hg : ((Nat.gcd t.natAbs b.natAbs : Nat) : Int) = g at hx
  have e : sg b * x = g * (sg b * k) := by
    rw [hx, ← Int.mul_assoc, ← Int.mul_assoc, Int.mul_comm (sg b) g]
  rw [e, Int.mul_fdiv_cancel_left _ (by omega)]
theorem law_nT {t b : Int} (hb : b ≠ 0) : (sg b * t).fdiv ((Nat.gcd t.natAbs b.natAbs : Nat) : Int) = nT t b := by
  obtain ⟨k, l, h1, h2⟩ := parts t b
  rw [sg_fdiv hb h1]
  exact (fdiv_cg hb h1).symm
theorem law_nB {t b : Int} (hb : b ≠ 0) : (sg b * b).fdiv ((Nat.gcd t.natAbs b.natAbs : Nat) : Int) = nB t b := by
  obtain ⟨k, l, h1, h2⟩ := parts t b
  rw [sg_fdiv hb h2]
  exact (fdiv_cg hb h2).symm
theorem sg_abs (b : Int) : (sg b).natAbs = 1 := by
  unfold sg
  split <;> rfl
theorem n_cop {t b : Int} (hb : b ≠ 0) : Nat.gcd (nT t b).natAbs (nB t b).natAbs = 1 := by
  obtain ⟨k, l, h1, h2⟩ := parts t b
  have e1 : nT t b = sg b * k := fdiv_cg hb h1
  have e2 : nB t b = sg b * l := fdiv_cg hb h2
  rw [e1, e2, Int.natAbs_mul, Int.natAbs_mul, sg_abs, Nat.one_mul, Nat.one_mul]
  have g0 := g_pos (t := t) hb
  have a1 : t.natAbs = Nat.gcd t.natAbs b.natAbs * k.natAbs := by
    have := congrArg Int.natAbs h1
    rw [Int.natAbs_mul] at this
    exact this
  have a2 : b.natAbs = Nat.gcd t.natAbs b.natAbs * l.natAbs := by
    have := congrArg Int.natAbs h2
    rw [Int.natAbs_mul] at this
    exact this
  have a3 := Nat.gcd_mul_left (Nat.gcd t.natAbs b.natAbs) k.natAbs l.natAbs
  rw [← a1, ← a2] at a3
  have a4 : Nat.gcd t.natAbs b.natAbs * 1 = Nat.gcd t.natAbs b.natAbs * Nat.gcd k.natAbs l.natAbs := by
    rw [Nat.mul_one]
    exact a3
  exact (Nat.eq_of_mul_eq_mul_left g0 a4).symm
theorem nB_pos {t b : Int} (hb : b ≠ 0) : 0 < nB t b := by
  obtain ⟨k, l, h1, h2⟩ := parts t b
  have e2 : nB t b = sg b * l := fdiv_cg hb h2
  rw [e2]
  have g0 := g_pos (t := t) hb
  generalize hg : ((Nat.gcd t.natAbs b.natAbs : Nat) : Int) = g at h2
  have gp : 0 < g := by omega
  unfold sg
  split
  · rename_i n
    have hl : l < 0 := by
      refine Int.not_le.mp fun c => ?_
      have := Int.mul_nonneg (Int.le_of_lt gp) c
      omega
    omega
  · rename_i n
    have hl : 0 < l := by
      refine Int.not_le.mp fun c => ?_
      have : g * l ≤ 0 := Int.mul_nonpos_of_nonneg_of_nonpos (Int.le_of_lt gp) c
      omega
    omega
theorem n_low {t b : Int} (hb : 0 < b) (hg : Nat.gcd t.natAbs b.natAbs = 1) : nT t b = t ∧ nB t b = b := by
  have e : cg t b = 1 := by
    unfold cg
    rw [hg, if_neg (by omega)]
    rfl
  unfold nT nB
  rw [e, Int.fdiv_one, Int.fdiv_one]
  exact ⟨rfl, rfl⟩
theorem n_abs {t b : Int} (hb : b ≠ 0) : (nT t b).natAbs ≤ t.natAbs ∧ (nB t b).natAbs ≤ b.natAbs := by
  obtain ⟨k, l, h1, h2⟩ := parts t b
  have e1 : nT t b = sg b * k := fdiv_cg hb h1
  have e2 : nB t b = sg b * l := fdiv_cg hb h2
  have g0 := g_pos (t := t) hb
  rw [e1, e2, Int.natAbs_mul, Int.natAbs_mul, sg_abs, Nat.one_mul, Nat.one_mul]
  have a1 : t.natAbs = Nat.gcd t.natAbs b.natAbs * k.natAbs := by
    have := congrArg Int.natAbs h1
    rw [Int.natAbs_mul] at this
    exact this
  have a2 : b.natAbs = Nat.gcd t.natAbs b.natAbs * l.natAbs := by
    have := congrArg Int.natAbs h2
    rw [Int.natAbs_mul] at this
    exact this
  constructor
  · rw [a1]
    exact Nat.le_trans (Nat.le_mul_of_pos_left _ g0) (by rw [← a1]; exact Nat.le_refl _)
  · rw [a2]
    exact Nat.le_trans (Nat.le_mul_of_pos_left _ g0) (by rw [← a2]; exact Nat.le_refl _)
theorem n_one (i : Int) : nT i 1 = i ∧ nB i 1 = 1 := n_low (by decide) (Nat.gcd_one_right _)
/-- below 2 ^ n -/
def Bd (n : Nat) (i : Int) : Prop := i.natAbs < 2 ^ n
theorem Bd.le {n m : Nat} {i : Int} (h : Bd n i) (l : n ≤ m) : Bd m i := Nat.lt_of_lt_of_le h (Nat.pow_le_pow_right (by decide) l)
theorem Bd.mul {n m : Nat} {i j : Int} (h : Bd n i) (k : Bd m j) : Bd (n + m) (i * j) := wide_lt h k
theorem Bd.add {n : Nat} {i j : Int} (h : Bd n i) (k : Bd n j) : Bd (n + 1) (i + j) := by
  unfold Bd at h k ⊢
  rw [Nat.pow_succ]
  omega
theorem Bd.neg {n : Nat} {i : Int} (h : Bd n i) : Bd n (-i) := by
  unfold Bd at h ⊢
  rw [Int.natAbs_neg]
  exact h
theorem Bd.of {n m : Nat} {i : Int} (h : i.natAbs ≤ m) (k : m < 2 ^ n) : Bd n i := Nat.lt_of_le_of_lt h k
theorem Bd.log {n : Nat} {i : Int} (h : Bd n i) (k : 0 < n) : i.natAbs.log2 < n := PySem.Flt.log2_lt_of k h
end K37

set_option Elab.async false
set_option linter.all false
set_option maxRecDepth 100000
set_option maxHeartbeats 4000000
set_option pp.maxSteps 500
namespace K37
open PySem PySem.Spec PyProof.Rows L2 Ux
abbrev sIsInt : Stmt := top 13
abbrev sIsNum : Stmt := top 14
abbrev sRatioOf : Stmt := top 15
abbrev sRInit : Stmt := inClass (top 20) 0
abbrev sAdd : Stmt := inClass (top 20) 3
abbrev sRadd : Stmt := inClass (top 20) 4
abbrev sSub : Stmt := inClass (top 20) 5
abbrev sRsub : Stmt := inClass (top 20) 6
abbrev sMul : Stmt := inClass (top 20) 7
abbrev sRmul : Stmt := inClass (top 20) 8
abbrev sNeg : Stmt := inClass (top 20) 9
abbrev sAbs : Stmt := inClass (top 20) 10
abbrev sOver : Stmt := inClass (top 20) 11
abbrev sREq : Stmt := inClass (top 20) 12
theorem same_upd {H : Hp} {a : Addr} {o : HO} (ha : H a = none) : Same H (upd H a o) := same_upd' ha
theorem made_same {H H' : Hp} {x dx : Addr} {o1 o2 : HO} (nx : H x = none) (nd : H dx = none) (bu : But x (upd (upd H dx o1) x o2) H') : Same H H' := fun c o e => by
  have n1 := ne_of_none e nx
  refine bu c o ?_ n1
  rw [upd_ne n1, upd_ne (ne_of_none e nd)]
  exact e
/-- the class Ratio -/
structure RT (K : PySem.W.Frag) (mg : Str → Option Value) (CR : Addr) : Prop where
  cl : Cls K CR
  nT : NoAttr K CR "top"
  nB : NoAttr K CR "bottom"
  gl : mg "Ratio" = some (.ref CR)
  ha : PySem.W.findIn K (.ref CR) "__class__" = some (some (.builtin "object.__class__"))
  hn : PySem.W.specialIn K (.builtin "object.__class__") "__get__" = some (some (.builtin "getset_descriptor.__get__"))
  ht : PySem.W.takesIn K (.builtin "object.__class__") = some true
  hm : PySem.W.mroIn K CR (.type "object") = some true
  kR : PySem.W.kitOne K (.ref CR) (.ref CR) = some true
  kI : PySem.W.kitOne K (.type "int") (.ref CR) = some false
  kN : PySem.W.kitOne K (.type "NoneType") (.ref CR) = some false
  kS : PySem.W.kitOne K (.type "str") (.ref CR) = some false
  kB : PySem.W.kitOne K (.type "bool") (.ref CR) = some false
  k1 : PySem.W.kitOne K (.ref CR) (.type "str") = some false
  k2 : PySem.W.kitOne K (.ref CR) (.type "int") = some false
  f1 : PySem.W.notFirst K CR (.ref CR) = true
/-- the fields of a Ratio -/
def rf (t b : Int) : List (Str × V) := putF "bottom" (.int b) (putF "top" (.int t) [])
theorem ntb : ¬ (("top" : Str) = "bottom") := by decide +kernel
theorem rf_top (t b : Int) : (rf t b).lookup ("top" : Str) = some (.int t) := by
  unfold rf
  rw [lookup_putF, if_neg ntb, lookup_putF, if_pos rfl]
theorem rf_bot (t b : Int) : (rf t b).lookup ("bottom" : Str) = some (.int b) := by
  unfold rf
  rw [lookup_putF, if_pos rfl]
def RatAt (CR : Addr) (H : Hp) (a : Addr) (t b : Int) : Prop := ∃ dx, H a = some (.ins CR dx (rf t b))
theorem RatAt.same {CR : Addr} {H H' : Hp} {a : Addr} {t b : Int} (h : RatAt CR H a t b) (s : Same H H') : RatAt CR H' a t b := by
  obtain ⟨dx, h⟩ := h
  exact ⟨dx, s _ _ h⟩
theorem RatAt.ty {K : PySem.W.Frag} {mg : Str → Option Value} {CR : Addr} {H : Hp} {a : Addr} {t b : Int} (T : RT K mg CR) (h : RatAt CR H a t b) : TyX K H (.ref a) (.ref CR) := by
  obtain ⟨dx, h⟩ := h
  exact .base (.ins h T.cl T.ha T.hn T.ht T.hm)
theorem RatAt.adm {K : PySem.W.Frag} {mg : Str → Option Value} {CR : Addr} {H : Hp} {a : Addr} {t b : Int} (T : RT K mg CR) (h : RatAt CR H a t b) : Adm K H (.ref a) := by
  obtain ⟨dx, h⟩ := h
  exact .own h (fun H' h' => .base (.ins h' T.cl T.ha T.hn T.ht T.hm)) T.k1 T.k2
/-- a number as it is handed in -/
def NumV (CR : Addr) (H : Hp) (y : V) (t b : Int) : Prop := (∃ r, y = .ref r ∧ RatAt CR H r t b) ∨ (y = .int t ∧ b = 1)
def NotNum (K : PySem.W.Frag) (CR : Addr) (H : Hp) (v : V) : Prop := ∃ t b1 b2, TyX K H v t ∧ PySem.W.kitOne K t (.ref CR) = some false ∧ PySem.W.kitOne K t (.type "int") = some b1 ∧ PySem.W.kitOne K t (.type "bool") = some b2 ∧ (b1 && !b2) = false
def spIsInt (K : PySem.W.Frag) : Sp := fun vs H Q _ => ∃ (v : V) (t : Value) (b1 b2 : Bool), vs = [v] ∧ TyX K H v t ∧ PySem.W.kitOne K t (.type "int") = some b1 ∧ PySem.W.kitOne K t (.type "bool") = some b2 ∧ Q (.bl (b1 && !b2)) H
def spIsNum (K : PySem.W.Frag) (CR : Addr) : Sp := fun vs H Q _ => ∃ v, vs = [v] ∧ ((∃ t b, NumV CR H v t b ∧ Q (.bl true) H) ∨ (NotNum K CR H v ∧ Q (.bl false) H))
def spRInit (CR : Addr) : Sp := fun vs H Q _ => ∃ (p dx : Addr) (t b : Int), vs = [.ref p, .int t, .int b] ∧ H p = some (.ins CR dx []) ∧ b ≠ 0 ∧ Bd 8000 b ∧
  ∀ H', H' p = some (.ins CR dx (rf (nT t b) (nB t b))) → But p H H' → Q .non H'
def spRatioOf (CR : Addr) : Sp := fun vs H Q _ => ∃ (y : V) (t b : Int), vs = [y] ∧ NumV CR H y t b ∧ ∀ (p : Addr) (H' : Hp), RatAt CR H' p t b → Same H H' → Q (.ref p) H'
/-- an operator's promise: the right side any number -/
def spBin (CR : Addr) (f g : Int → Int → Int → Int → Int) : Sp := fun vs H Q _ => ∃ (a : Addr) (y : V) (t1 b1 t2 b2 : Int), vs = [.ref a, y] ∧ RatAt CR H a t1 b1 ∧ NumV CR H y t2 b2 ∧ Bd 2000 t1 ∧ Bd 2000 b1 ∧ Bd 2000 t2 ∧ Bd 2000 b2 ∧ 0 < b1 ∧ 0 < b2 ∧ Nat.gcd t1.natAbs b1.natAbs = 1 ∧ Nat.gcd t2.natAbs b2.natAbs = 1 ∧
  ∀ (p : Addr) (H' : Hp), RatAt CR H' p (nT (f t1 b1 t2 b2) (g t1 b1 t2 b2)) (nB (f t1 b1 t2 b2) (g t1 b1 t2 b2)) → Same H H' → Q (.ref p) H'
/-- .. the right side an int -/
def spBinI (CR : Addr) (f g : Int → Int → Int → Int → Int) : Sp := fun vs H Q _ => ∃ (a : Addr) (i t1 b1 : Int), vs = [.ref a, .int i] ∧ RatAt CR H a t1 b1 ∧ Bd 2000 t1 ∧ Bd 2000 b1 ∧ Bd 2000 i ∧ 0 < b1 ∧ Nat.gcd t1.natAbs b1.natAbs = 1 ∧
  ∀ (p : Addr) (H' : Hp), RatAt CR H' p (nT (f t1 b1 i 1) (g t1 b1 i 1)) (nB (f t1 b1 i 1) (g t1 b1 i 1)) → Same H H' → Q (.ref p) H'
def fAdd (t1 b1 t2 b2 : Int) : Int := t1 * b2 + t2 * b1
def gMul (_ b1 _ b2 : Int) : Int := b1 * b2
def fMul (t1 _ t2 _ : Int) : Int := t1 * t2
def fSub (t1 b1 t2 b2 : Int) : Int := t1 * b2 + -t2 * b1
def fRsub (t1 b1 t2 b2 : Int) : Int := -t1 * b2 + t2 * b1
def fOver (t1 _ _ b2 : Int) : Int := t1 * b2
def gOver (_ b1 t2 _ : Int) : Int := b1 * t2
def spUn (CR : Addr) (f : Int → Int) : Sp := fun vs H Q _ => ∃ (a : Addr) (t b : Int), vs = [.ref a] ∧ RatAt CR H a t b ∧ Bd 2000 b ∧ 0 < b ∧ ∀ (p : Addr) (H' : Hp), RatAt CR H' p (nT (f t) b) (nB (f t) b) → Same H H' → Q (.ref p) H'
def absI (t : Int) : Int := if t < 0 then -t else t
def spOver (K : PySem.W.Frag) (CR CI : Addr) : Sp := fun vs H Q E => (∃ (a : Addr) (y : V) (t1 b1 t2 b2 : Int), vs = [.ref a, y] ∧ RatAt CR H a t1 b1 ∧ NumV CR H y t2 b2 ∧ Bd 2000 t1 ∧ Bd 2000 b1 ∧ Bd 2000 t2 ∧ Bd 2000 b2 ∧ 0 < b1 ∧ t2 ≠ 0 ∧
    ∀ (p : Addr) (H' : Hp), RatAt CR H' p (nT (fOver t1 b1 t2 b2) (gOver t1 b1 t2 b2)) (nB (fOver t1 b1 t2 b2) (gOver t1 b1 t2 b2)) → Same H H' → Q (.ref p) H') ∨
  ∃ (a : Addr) (y : V), vs = [.ref a, y] ∧ Adm K H y ∧ (NotNum K CR H y ∨ ∃ b, NumV CR H y 0 b) ∧ ∀ d H', Same H H' → H' d = some (.xd (inFs y)) → E (.ref CI) (some d) H'
def spREq (CR : Addr) : Sp := fun vs H Q _ => ∃ (a b : Addr) (t1 b1 t2 b2 : Int), vs = [.ref a, .ref b] ∧ RatAt CR H a t1 b1 ∧ RatAt CR H b t2 b2 ∧ Q (.bl (decide (t1 = t2) && decide (b1 = b2))) H
theorem NumV.same {CR : Addr} {H H' : Hp} {y : V} {t b : Int} (h : NumV CR H y t b) (s : Same H H') : NumV CR H' y t b := by
  rcases h with ⟨r, e, h⟩ | h
  · exact .inl ⟨r, e, h.same s⟩
  · exact .inr h
section
variable {P : Program} {w : World} {K : PySem.W.Frag} {mg : Str → Option Value} {base : Heap} {CR CI fI : Addr}
theorem scIsInt : FnScope ["value"] ["value"] (defScope sIsInt) := ⟨rfl, rfl, rfl, by decide +kernel, rfl, by decide +kernel, by decide +kernel⟩
theorem ok_isInt {f : Addr} {fd : FuncData} (F : Fun K "is_integer" "is_integer" sIsInt f fd) (B : Bn mg) : FnOk P w K mg base CX0 1 f fd ["value"] (spIsInt K) := by
  refine F.ok scIsInt (fun vs H Q E h => ?_) (fun cdv A outer s H vs Q E hr h => ?_)
  · obtain ⟨v, t, b1, b2, rfl, _⟩ := h
    rfl
  · obtain ⟨v, t, b1, b2, rfl, ty, k1, k2, q⟩ := h
    refine ⟨_, pss_one (ps_ret (pe_and (pe_callB call_isi (by rfl) B.isin (by decide +kernel) (pa_cons (pv 0) (pa_cons (pe_bltn (v := .ty "int") (by rfl) B.tint (by decide +kernel) rfl) pa_nil)))
      (pe_one (pe_not (pe_callB call_isi (by rfl) B.isin (by decide +kernel) (pa_cons (pv 0) (pa_cons (pe_bltn (v := .ty "bool") (by rfl) B.tbool (by decide +kernel) rfl) pa_nil))))))), ?_⟩
    refine ⟨_, rfl, _, _, _, _, b1, rfl, .ty "int", ty, k1, b1, rfl, ?_⟩
    cases b1 with
    | false => exact iteF q
    | true => exact iteT ⟨_, rfl, _, _, _, _, b2, rfl, .ty "bool", ty, k2, b2, rfl, q⟩
theorem scIsNum : FnScope ["value"] ["value"] (defScope sIsNum) := ⟨rfl, rfl, rfl, by decide +kernel, rfl, by decide +kernel, by decide +kernel⟩
theorem ok_isNum {f fI : Addr} {fd fdI : FuncData} (F : Fun K "is_number" "is_number" sIsNum f fd) (B : Bn mg) (T : RT K mg CR) (D : Dn K mg "is_integer" fI) (G : FnOk P w K mg base CX0 1 fI fdI ["value"] (spIsInt K)) (bI : Binds K fdI ["value"] []) : FnOk P w K mg base CX0 2 f fd ["value"] (spIsNum K CR) := by
  refine F.ok scIsNum (fun vs H Q E h => ?_) (fun cdv A outer s H vs Q E hr h => ?_)
  · obtain ⟨v, rfl, _⟩ := h
    rfl
  · obtain ⟨v, rfl, h⟩ := h
    refine ⟨_, pss_one (ps_ret (pe_or (pe_callB call_isi (by rfl) B.isin (by decide +kernel) (pa_cons (pv 0) (pa_cons (pe_glob (v := .ref CR) (by rfl) T.gl rfl) pa_nil))) (pe_one (pe_call G hr (by rfl) D.gl D.kp bI .nil pass0 (pa_cons (pv 0) pa_nil))))), ?_⟩
    rcases h with ⟨t, b, nv, q⟩ | ⟨⟨t, b1, b2, ty, k1, k2, k3, e⟩, q⟩
    · rcases nv with ⟨r, rfl, ra⟩ | ⟨rfl, _⟩
      · exact ⟨_, rfl, _, _, _, _, true, rfl, .own _, ra.ty T, T.kR, true, rfl, iteT q⟩
      · refine ⟨_, rfl, _, _, _, _, false, rfl, .own _, .base (.int _), T.kI, false, rfl, iteF ?_⟩
        exact ⟨_, rfl, _, _, true, false, rfl, .base (.int _), kit_ty (by decide +kernel), kit_ty (by decide +kernel), q⟩
    · refine ⟨_, rfl, _, _, _, _, false, rfl, .own _, ty, k1, false, rfl, iteF ?_⟩
      refine ⟨_, rfl, _, _, b1, b2, rfl, ty, k2, k3, ?_⟩
      rw [e]
      exact q
theorem scRInit : FnScope ["self", "top", "bottom", "common"] ["self", "top", "bottom"] (defScope sRInit) := ⟨rfl, rfl, rfl, by decide +kernel, rfl, by decide +kernel, by decide +kernel⟩
theorem ok_rinit {f fI : Addr} {fd fdI : FuncData} {dvs : List V} (F : FunD K "__init__" "Ratio.__init__" (defArgs sRInit) (defBody sRInit) (defScope sRInit) dvs [] f fd) (T : RT K mg CR) (gcd : mg "gcd" = some (.builtin "math.gcd")) (D : Dn K mg "is_integer" fI) (G : FnOk P w K mg base CX0 1 fI fdI ["value"] (spIsInt K)) (bI : Binds K fdI ["value"] []) :
    FnOk P w K mg base CX0 2 f fd ["self", "top", "bottom"] (spRInit CR) := by
  refine F.ok scRInit (fun vs H Q E h => ?_) (fun cdv A outer s H vs Q E hr h => ?_)
  · obtain ⟨p, dx, t, b, rfl, _⟩ := h
    rfl
  · obtain ⟨p, dx, t, b, rfl, hp, b0, bb, q⟩ := h
    refine ⟨_, pss_cons (ps_if (pt_not (pt_val (pe_call G hr (by rfl) D.gl D.kp bI .nil pass0 (pa_cons (pv 1) pa_nil)))) (pss_one ps_never) pss_nil)
      (pss_cons (ps_if (PW.pt (pw_or (pt_not (pt_val (pe_call G hr (by rfl) D.gl D.kp bI .nil pass0 (pa_cons (pv 2) pa_nil)))) (pw_or1 (pt_cmpR op_eq (pv 2) pe_int (nomark _))))) (pss_one ps_never) pss_nil)
      (pss_cons (ps_set (i := 3) scRInit.nd rfl (Or.inl rfl) (pe_callBfun cr_gcd (by rfl) gcd (pa_cons (pv 1) (pa_cons (pv 2) pa_nil))))
      (C8.pss_cut (ps_if (pt_cmpR op_lt (pv 2) pe_int (nomark _)) (pss_one (ps_set (i := 3) scRInit.nd rfl (Or.inl rfl) (pe_un un_neg (pv 3)))) pss_nil)
      (pss_cons (ps_fld (pv 0) (pe_op op_fdivX (pv 1) (pv 3)) rfl)
      (pss_one (ps_fld (pv 0) (pe_op op_fdivX (pv 2) (pv 3)) rfl)))))), ?_⟩
    refine ⟨_, rfl, _, _, true, false, rfl, .base (.int _), kit_ty (by decide +kernel), kit_ty (by decide +kernel), _, rfl, iteF ?_⟩
    refine ⟨_, rfl, _, _, true, false, rfl, .base (.int _), kit_ty (by decide +kernel), kit_ty (by decide +kernel), _, rfl, iteF ?_⟩
    have nb : ¬ (V.int b) = V.int 0 := fun z => b0 (V.int.inj z)
    refine ⟨_, rfl, rfl, _, rfl, ?_⟩
    rw [decide_eq_false nb]
    refine iteF ?_
    refine ⟨_, rfl, _, rfl, t, b, rfl, ?_⟩
    refine ⟨fun σ H' => σ = [some (.ref p), some (.int t), some (.int b), some (.int (cg t b))] ∧ H' = H, ?_, ?_⟩
    · refine ⟨_, rfl, _, _, rfl, rfl, _, rfl, ?_⟩
      by_cases hn : b < 0
      · rw [decide_eq_true hn]
        refine iteT ⟨_, rfl, _, rfl, ?_⟩
        unfold cg
        rw [if_pos hn]
        exact ⟨rfl, rfl⟩
      · rw [decide_eq_false hn]
        refine iteF ?_
        unfold cg
        rw [if_neg hn]
        exact ⟨rfl, rfl⟩
    · rintro σ H' ⟨rfl, rfl⟩
      have c0 := cg_ne (t := t) b0
      have c1 : (cg t b).natAbs.log2 < 9000 := by
        refine Nat.lt_of_lt_of_le (Bd.log (n := 8000) ?_ (by decide)) (by decide)
        unfold Bd
        rw [cg_abs]
        exact Nat.lt_of_le_of_lt (Nat.le_of_dvd (by omega) (Nat.gcd_dvd_right _ _)) bb
      refine ⟨_, rfl, _, rfl, _, _, rfl, rfl, ⟨c0, c1⟩, _, rfl, p, CR, dx, [], rfl, hp, T.cl, T.nT, (by show 0 < 1000; decide), ?_⟩
      refine ⟨_, rfl, _, rfl, _, _, rfl, rfl, ⟨c0, c1⟩, _, rfl, p, CR, dx, _, rfl, upd_same, T.cl, T.nB, (by show 1 < 1000; decide), ?_⟩
      exact q _ upd_same ((But.refl.upd).upd)
theorem scRatioOf : FnScope ["number"] ["number"] (defScope sRatioOf) := ⟨rfl, rfl, rfl, by decide +kernel, rfl, by decide +kernel, by decide +kernel⟩
theorem ok_ratioOf {f fN : Addr} {fd fdN : FuncData} {ds : List Value} (F : Fun K "ratio_of" "ratio_of" sRatioOf f fd) (B : Bn mg) (T : RT K mg CR) (M : Mk K CR fN) (G : FnOk P w K mg base CX0 2 fN fdN ["self", "top", "bottom"] (spRInit CR)) (vD : Vals [V.int 1] ds) (bN : Binds K fdN ["self", "top", "bottom"] ds) :
    FnOk P w K mg base CX0 4 f fd ["number"] (spRatioOf CR) := by
  refine F.ok scRatioOf (fun vs H Q E h => ?_) (fun cdv A outer s H vs Q E hr h => ?_)
  · obtain ⟨y, t, b, rfl, _⟩ := h
    rfl
  · refine ⟨_, pss_cons (ps_if (pt_val (pe_callB call_isi (by rfl) B.isin (by decide +kernel) (pa_cons (pv 0) (pa_cons (pe_glob (v := .ref CR) (by rfl) T.gl rfl) pa_nil)))) (pss_one (ps_ret (pv 0))) pss_nil)
      (pss_one (ps_ret (pe_make M G hr (by rfl) T.gl bN vD pass0 (pa_cons (pv 0) pa_nil)))), ?_⟩
    obtain ⟨y, t, b, rfl, ⟨r, rfl, ra⟩ | ⟨rfl, rfl⟩, q⟩ := h
    · refine ⟨_, rfl, _, _, _, _, true, rfl, .own _, ra.ty T, T.kR, true, rfl, iteT ?_⟩
      exact ⟨_, rfl, q _ _ ra (Same.refl _)⟩
    · refine ⟨_, rfl, _, _, _, _, false, rfl, .own _, .base (.int _), T.kI, false, rfl, iteF ?_⟩
      refine ⟨_, rfl, fun x dx nx nd ne => ?_⟩
      refine ⟨x, dx, t, 1, rfl, upd_same, by decide, Bd.of (m := 1) (by decide) (by decide +kernel), fun H' hx bu => ⟨rfl, ?_⟩⟩
      rw [(n_one t).1, (n_one t).2] at hx
      exact q x H' ⟨dx, hx⟩ (made_same nx nd bu)
end
end K37

set_option Elab.async false
set_option linter.all false
set_option maxRecDepth 100000
set_option maxHeartbeats 4000000
set_option pp.maxSteps 500
namespace K37
open PySem PySem.Spec PyProof.Rows L2 Ux
section
variable {P : Program} {w : World} {K : PySem.W.Frag} {mg : Str → Option Value} {base : Heap} {CR CI fI : Addr}
theorem scadd : FnScope ["self", "other", "added"] ["self", "other"] (defScope sAdd) := ⟨rfl, rfl, rfl, by decide +kernel, rfl, by decide +kernel, by decide +kernel⟩
theorem ok_add {f fN fO fi : Addr} {fd fdN fdO fdi : FuncData} (F : Fun K "__add__" "Ratio.__add__" sAdd f fd) (T : RT K mg CR) (DN : Dn K mg "is_number" fN) (GN : FnOk P w K mg base CX0 2 fN fdN ["value"] (spIsNum K CR)) (bN : Binds K fdN ["value"] [])
    (DO : Dn K mg "ratio_of" fO) (GO : FnOk P w K mg base CX0 4 fO fdO ["number"] (spRatioOf CR)) (bO : Binds K fdO ["number"] []) (M : Mk K CR fi) (G : FnOk P w K mg base CX0 2 fi fdi ["self", "top", "bottom"] (spRInit CR)) (bR : Binds K fdi ["self", "top", "bottom"] []) :
    FnOk P w K mg base CX0 5 f fd ["self", "other"] (spBin CR fAdd gMul) := by
  refine F.ok scadd (fun vs H Q E h => ?_) (fun cdv A outer s H vs Q E hr h => ?_)
  · obtain ⟨a, y, t1, b1, t2, b2, rfl, _⟩ := h
    rfl
  · obtain ⟨a, y, t1, b1, t2, b2, rfl, ⟨da, ha⟩, nv, B1, B2, B3, B4, p1, p2, _, _, q⟩ := h
    have r2 : Room 2 _ := hr.mono (by decide)
    have r3 : Room 3 _ := hr.mono (by decide)
    refine ⟨_, pss_cons (ps_if (pt_not (pt_val (pe_call GN r2 (by rfl) DN.gl DN.kp bN .nil pass0 (pa_cons (pv 1) pa_nil)))) (pss_one ps_never) pss_nil)
      (pss_cons (ps_set (i := 2) scadd.nd rfl (Or.inl rfl) (pe_call GO hr (by rfl) DO.gl DO.kp bO .nil pass0 (pa_cons (pv 1) pa_nil)))
      (pss_one (ps_ret (pe_make M G r3 (by rfl) T.gl bR .nil pass0 (pa_cons (pe_op op_add (pe_op op_mulW (pe_fld (pv 0) rfl) (pe_fld (pv 2) rfl)) (pe_op op_mulW (pe_fld (pv 2) rfl) (pe_fld (pv 0) rfl))) (pa_cons (pe_op op_mulW (pe_fld (pv 0) rfl) (pe_fld (pv 2) rfl)) pa_nil)))))), ?_⟩
    refine ⟨_, rfl, y, rfl, .inl ⟨t2, b2, nv, _, rfl, iteF ?_⟩⟩
    refine ⟨_, rfl, y, t2, b2, rfl, nv, fun r H1 ⟨dr, hr1⟩ s1 => ?_⟩
    have ha1 := s1 _ _ ha
    refine ⟨_, rfl, a, CR, _, _, _, rfl, ha1, T.cl, T.nT, rf_top t1 b1, _, rfl, r, CR, _, _, _, rfl, hr1, T.cl, T.nB, rf_bot t2 b2, _, _, rfl, rfl, wide_mul B1 B4 (by decide) (by decide) (by decide), _, rfl, r, CR, _, _, _, rfl, hr1, T.cl, T.nT, rf_top t2 b2, _, rfl, a, CR, _, _, _, rfl, ha1, T.cl, T.nB, rf_bot t1 b1, _, _, rfl, rfl, wide_mul B3 B2 (by decide) (by decide) (by decide), _, _, rfl, rfl, ?_⟩
    refine ⟨_, rfl, a, CR, _, _, _, rfl, ha1, T.cl, T.nB, rf_bot t1 b1, _, rfl, r, CR, _, _, _, rfl, hr1, T.cl, T.nB, rf_bot t2 b2, _, _, rfl, rfl, wide_mul B2 B4 (by decide) (by decide) (by decide), fun x dx nx nd ne => ?_⟩
    have pp : 0 < b1 * b2 := Int.mul_pos p1 p2
    exact ⟨x, dx, _, _, rfl, upd_same, by omega, (B2.mul B4).le (by decide), fun H' hx bu => ⟨rfl, q x H' ⟨dx, hx⟩ (s1.trans (made_same nx nd bu))⟩⟩
theorem scmul : FnScope ["self", "other", "factor"] ["self", "other"] (defScope sMul) := ⟨rfl, rfl, rfl, by decide +kernel, rfl, by decide +kernel, by decide +kernel⟩
theorem ok_mul {f fN fO fi : Addr} {fd fdN fdO fdi : FuncData} (F : Fun K "__mul__" "Ratio.__mul__" sMul f fd) (T : RT K mg CR) (DN : Dn K mg "is_number" fN) (GN : FnOk P w K mg base CX0 2 fN fdN ["value"] (spIsNum K CR)) (bN : Binds K fdN ["value"] [])
    (DO : Dn K mg "ratio_of" fO) (GO : FnOk P w K mg base CX0 4 fO fdO ["number"] (spRatioOf CR)) (bO : Binds K fdO ["number"] []) (M : Mk K CR fi) (G : FnOk P w K mg base CX0 2 fi fdi ["self", "top", "bottom"] (spRInit CR)) (bR : Binds K fdi ["self", "top", "bottom"] []) :
    FnOk P w K mg base CX0 5 f fd ["self", "other"] (spBin CR fMul gMul) := by
  refine F.ok scmul (fun vs H Q E h => ?_) (fun cdv A outer s H vs Q E hr h => ?_)
  · obtain ⟨a, y, t1, b1, t2, b2, rfl, _⟩ := h
    rfl
  · obtain ⟨a, y, t1, b1, t2, b2, rfl, ⟨da, ha⟩, nv, B1, B2, B3, B4, p1, p2, _, _, q⟩ := h
    have r2 : Room 2 _ := hr.mono (by decide)
    have r3 : Room 3 _ := hr.mono (by decide)
    refine ⟨_, pss_cons (ps_if (pt_not (pt_val (pe_call GN r2 (by rfl) DN.gl DN.kp bN .nil pass0 (pa_cons (pv 1) pa_nil)))) (pss_one ps_never) pss_nil)
      (pss_cons (ps_set (i := 2) scmul.nd rfl (Or.inl rfl) (pe_call GO hr (by rfl) DO.gl DO.kp bO .nil pass0 (pa_cons (pv 1) pa_nil)))
      (pss_one (ps_ret (pe_make M G r3 (by rfl) T.gl bR .nil pass0 (pa_cons (pe_op op_mulW (pe_fld (pv 0) rfl) (pe_fld (pv 2) rfl)) (pa_cons (pe_op op_mulW (pe_fld (pv 0) rfl) (pe_fld (pv 2) rfl)) pa_nil)))))), ?_⟩
    refine ⟨_, rfl, y, rfl, .inl ⟨t2, b2, nv, _, rfl, iteF ?_⟩⟩
    refine ⟨_, rfl, y, t2, b2, rfl, nv, fun r H1 ⟨dr, hr1⟩ s1 => ?_⟩
    have ha1 := s1 _ _ ha
    refine ⟨_, rfl, a, CR, _, _, _, rfl, ha1, T.cl, T.nT, rf_top t1 b1, _, rfl, r, CR, _, _, _, rfl, hr1, T.cl, T.nT, rf_top t2 b2, _, _, rfl, rfl, wide_mul B1 B3 (by decide) (by decide) (by decide), ?_⟩
    refine ⟨_, rfl, a, CR, _, _, _, rfl, ha1, T.cl, T.nB, rf_bot t1 b1, _, rfl, r, CR, _, _, _, rfl, hr1, T.cl, T.nB, rf_bot t2 b2, _, _, rfl, rfl, wide_mul B2 B4 (by decide) (by decide) (by decide), fun x dx nx nd ne => ?_⟩
    have pp : 0 < b1 * b2 := Int.mul_pos p1 p2
    exact ⟨x, dx, _, _, rfl, upd_same, by omega, (B2.mul B4).le (by decide), fun H' hx bu => ⟨rfl, q x H' ⟨dx, hx⟩ (s1.trans (made_same nx nd bu))⟩⟩
theorem scradd : FnScope ["self", "other"] ["self", "other"] (defScope sRadd) := ⟨rfl, rfl, rfl, by decide +kernel, rfl, by decide +kernel, by decide +kernel⟩
theorem ok_radd {f fA : Addr} {fd fdA : FuncData} (F : Fun K "__radd__" "Ratio.__radd__" sRadd f fd) (M : BinM K CR "add" fA) (N : BinI K CR "add") (G : FnOk P w K mg base CX0 5 fA fdA ["self", "other"] (spBin CR fAdd gMul)) (bA : Binds K fdA ["self", "other"] []) :
    FnOk P w K mg base CX0 6 f fd ["self", "other"] (spBinI CR fAdd gMul) := by
  refine F.ok scradd (fun vs H Q E h => ?_) (fun cdv A outer s H vs Q E hr h => ?_)
  · obtain ⟨a, i, t1, b1, rfl, _⟩ := h
    rfl
  · obtain ⟨a, i, t1, b1, rfl, ⟨da, ha⟩, B1, B2, B3, p1, g1, q⟩ := h
    refine ⟨_, pss_one (ps_ret (pe_op (op_binI (op := .Add) M N G bA hr) (pv 0) (pv 1))), ?_⟩
    exact ⟨_, rfl, _, rfl, a, da, _, i, rfl, rfl, ha, a, .int i, t1, b1, i, 1, rfl, ⟨da, ha⟩, .inr ⟨rfl, rfl⟩, B1, B2, B3, Bd.of (m := 1) (by decide) (by decide +kernel), p1, by decide, g1, Nat.gcd_one_right _, fun p H' rp s1 => ⟨p, rfl, q p H' rp s1⟩⟩
theorem scrmul : FnScope ["self", "other"] ["self", "other"] (defScope sRmul) := ⟨rfl, rfl, rfl, by decide +kernel, rfl, by decide +kernel, by decide +kernel⟩
theorem ok_rmul {f fA : Addr} {fd fdA : FuncData} (F : Fun K "__rmul__" "Ratio.__rmul__" sRmul f fd) (M : BinM K CR "mul" fA) (N : BinI K CR "mul") (G : FnOk P w K mg base CX0 5 fA fdA ["self", "other"] (spBin CR fMul gMul)) (bA : Binds K fdA ["self", "other"] []) :
    FnOk P w K mg base CX0 6 f fd ["self", "other"] (spBinI CR fMul gMul) := by
  refine F.ok scrmul (fun vs H Q E h => ?_) (fun cdv A outer s H vs Q E hr h => ?_)
  · obtain ⟨a, i, t1, b1, rfl, _⟩ := h
    rfl
  · obtain ⟨a, i, t1, b1, rfl, ⟨da, ha⟩, B1, B2, B3, p1, g1, q⟩ := h
    refine ⟨_, pss_one (ps_ret (pe_op (op_binI (op := .Mult) M N G bA hr) (pv 0) (pv 1))), ?_⟩
    exact ⟨_, rfl, _, rfl, a, da, _, i, rfl, rfl, ha, a, .int i, t1, b1, i, 1, rfl, ⟨da, ha⟩, .inr ⟨rfl, rfl⟩, B1, B2, B3, Bd.of (m := 1) (by decide) (by decide +kernel), p1, by decide, g1, Nat.gcd_one_right _, fun p H' rp s1 => ⟨p, rfl, q p H' rp s1⟩⟩
theorem scneg : FnScope ["self"] ["self"] (defScope sNeg) := ⟨rfl, rfl, rfl, by decide +kernel, rfl, by decide +kernel, by decide +kernel⟩
theorem ok_neg {f fi : Addr} {fd fdi : FuncData} (F : Fun K "__neg__" "Ratio.__neg__" sNeg f fd) (B : Bn mg) (T : RT K mg CR) (M : Mk K CR fi) (G : FnOk P w K mg base CX0 2 fi fdi ["self", "top", "bottom"] (spRInit CR)) (bR : Binds K fdi ["self", "top", "bottom"] []) :
    FnOk P w K mg base CX0 4 f fd ["self"] (spUn CR (fun t => -t)) := by
  refine F.ok scneg (fun vs H Q E h => ?_) (fun cdv A outer s H vs Q E hr h => ?_)
  · obtain ⟨a, t, b, rfl, _⟩ := h
    rfl
  · obtain ⟨a, t, b, rfl, ⟨da, ha⟩, B2, p1, q⟩ := h
    refine ⟨_, pss_one (ps_ret (pe_make M G hr (by rfl) T.gl bR .nil pass0 (pa_cons (pe_un un_neg (pe_fld (pv 0) rfl)) (pa_cons (pe_fld (pv 0) rfl) pa_nil)))), ?_⟩
    exact ⟨_, rfl, a, CR, _, _, _, rfl, ha, T.cl, T.nT, rf_top t b, _, rfl, _, rfl, a, CR, _, _, _, rfl, ha, T.cl, T.nB, rf_bot t b, fun x dx nx nd ne => ⟨x, dx, _, _, rfl, upd_same, by omega, B2.le (by decide), fun H' hx bu => ⟨rfl, q x H' ⟨dx, hx⟩ (made_same nx nd bu)⟩⟩⟩
theorem scabs : FnScope ["self"] ["self"] (defScope sAbs) := ⟨rfl, rfl, rfl, by decide +kernel, rfl, by decide +kernel, by decide +kernel⟩
theorem ok_abs {f fi : Addr} {fd fdi : FuncData} (F : Fun K "__abs__" "Ratio.__abs__" sAbs f fd) (B : Bn mg) (T : RT K mg CR) (M : Mk K CR fi) (G : FnOk P w K mg base CX0 2 fi fdi ["self", "top", "bottom"] (spRInit CR)) (bR : Binds K fdi ["self", "top", "bottom"] []) :
    FnOk P w K mg base CX0 4 f fd ["self"] (spUn CR absI) := by
  refine F.ok scabs (fun vs H Q E h => ?_) (fun cdv A outer s H vs Q E hr h => ?_)
  · obtain ⟨a, t, b, rfl, _⟩ := h
    rfl
  · obtain ⟨a, t, b, rfl, ⟨da, ha⟩, B2, p1, q⟩ := h
    refine ⟨_, pss_one (ps_ret (pe_make M G hr (by rfl) T.gl bR .nil pass0 (pa_cons (pe_callB call_abs (by rfl) B.fabs (by decide +kernel) (pa_cons (pe_fld (pv 0) rfl) pa_nil)) (pa_cons (pe_fld (pv 0) rfl) pa_nil)))), ?_⟩
    exact ⟨_, rfl, a, CR, _, _, _, rfl, ha, T.cl, T.nT, rf_top t b, _, rfl, _, rfl, a, CR, _, _, _, rfl, ha, T.cl, T.nB, rf_bot t b, fun x dx nx nd ne => ⟨x, dx, _, _, rfl, upd_same, by omega, B2.le (by decide), fun H' hx bu => ⟨rfl, q x H' ⟨dx, hx⟩ (made_same nx nd bu)⟩⟩⟩
theorem scsub : FnScope ["self", "other"] ["self", "other"] (defScope sSub) := ⟨rfl, rfl, rfl, by decide +kernel, rfl, by decide +kernel, by decide +kernel⟩
theorem ok_sub {f fN fO fA fG : Addr} {fd fdN fdO fdA fdG : FuncData} (F : Fun K "__sub__" "Ratio.__sub__" sSub f fd) (T : RT K mg CR) (DN : Dn K mg "is_number" fN) (GN : FnOk P w K mg base CX0 2 fN fdN ["value"] (spIsNum K CR)) (bN : Binds K fdN ["value"] [])
    (DO : Dn K mg "ratio_of" fO) (GO : FnOk P w K mg base CX0 4 fO fdO ["number"] (spRatioOf CR)) (bO : Binds K fdO ["number"] []) (MA : BinM K CR "add" fA) (GA : FnOk P w K mg base CX0 5 fA fdA ["self", "other"] (spBin CR fAdd gMul)) (bA : Binds K fdA ["self", "other"] [])
    (MG : OwnM K CR "__neg__" fG) (GG : FnOk P w K mg base CX0 4 fG fdG ["self"] (spUn CR (fun t => -t))) (bG : Binds K fdG ["self"] []) :
    FnOk P w K mg base CX0 6 f fd ["self", "other"] (spBin CR fSub gMul) := by
  refine F.ok scsub (fun vs H Q E h => ?_) (fun cdv A outer s H vs Q E hr h => ?_)
  · obtain ⟨a, y, t1, b1, t2, b2, rfl, _⟩ := h
    rfl
  · obtain ⟨a, y, t1, b1, t2, b2, rfl, ⟨da, ha⟩, nv, B1, B2, B3, B4, p1, p2, g1, g2, q⟩ := h
    have r2 : Room 2 _ := hr.mono (by decide)
    have r4 : Room 4 _ := hr.mono (by decide)
    refine ⟨_, pss_cons (ps_if (pt_not (pt_val (pe_call GN r2 (by rfl) DN.gl DN.kp bN .nil pass0 (pa_cons (pv 1) pa_nil)))) (pss_one ps_never) pss_nil)
      (pss_one (ps_ret (pe_op (op_binO (op := .Add) MA GA bA hr) (pv 0) (pe_un (un_negO MG GG bG r4) (pe_call GO r4 (by rfl) DO.gl DO.kp bO .nil pass0 (pa_cons (pv 1) pa_nil)))))), ?_⟩
    refine ⟨_, rfl, y, rfl, .inl ⟨t2, b2, nv, _, rfl, iteF ?_⟩⟩
    refine ⟨_, rfl, _, rfl, y, t2, b2, rfl, nv, fun r H1 rr s1 => ?_⟩
    obtain ⟨dr, hr1⟩ := id rr
    refine ⟨r, dr, _, rfl, hr1, r, t2, b2, rfl, rr, B4, p2, fun n H2 rn s2 => ?_⟩
    have gn : Nat.gcd (-t2).natAbs b2.natAbs = 1 := by rw [Int.natAbs_neg]; exact g2
    rw [(n_low p2 gn).1, (n_low p2 gn).2] at rn
    have ha2 := s2 _ _ (s1 _ _ ha)
    exact ⟨a, da, _, rfl, ha2, rn.ty T, a, .ref n, t1, b1, -t2, b2, rfl, ⟨da, ha2⟩, .inl ⟨n, rfl, rn⟩, B1, B2, B3.neg, B4, p1, p2, g1, gn, fun p H' rp s3 => ⟨p, rfl, q p H' rp ((s1.trans s2).trans s3)⟩⟩
theorem scrsub : FnScope ["self", "other"] ["self", "other"] (defScope sRsub) := ⟨rfl, rfl, rfl, by decide +kernel, rfl, by decide +kernel, by decide +kernel⟩
theorem ok_rsub {f fA fG : Addr} {fd fdA fdG : FuncData} (F : Fun K "__rsub__" "Ratio.__rsub__" sRsub f fd) (MA : BinM K CR "add" fA) (NA : BinI K CR "add") (GA : FnOk P w K mg base CX0 5 fA fdA ["self", "other"] (spBin CR fAdd gMul)) (bA : Binds K fdA ["self", "other"] [])
    (MG : OwnM K CR "__neg__" fG) (GG : FnOk P w K mg base CX0 4 fG fdG ["self"] (spUn CR (fun t => -t))) (bG : Binds K fdG ["self"] []) :
    FnOk P w K mg base CX0 6 f fd ["self", "other"] (spBinI CR fRsub gMul) := by
  refine F.ok scrsub (fun vs H Q E h => ?_) (fun cdv A outer s H vs Q E hr h => ?_)
  · obtain ⟨a, i, t1, b1, rfl, _⟩ := h
    rfl
  · obtain ⟨a, i, t1, b1, rfl, ra, B1, B2, B3, p1, g1, q⟩ := h
    have r4 : Room 4 _ := hr.mono (by decide)
    obtain ⟨da, ha⟩ := id ra
    refine ⟨_, pss_one (ps_ret (pe_op (op_binI (op := .Add) MA NA GA bA hr) (pe_un (un_negO MG GG bG r4) (pv 0)) (pv 1))), ?_⟩
    refine ⟨_, rfl, a, da, _, rfl, ha, a, t1, b1, rfl, ra, B2, p1, fun n H2 rn s2 => ?_⟩
    have gn : Nat.gcd (-t1).natAbs b1.natAbs = 1 := by rw [Int.natAbs_neg]; exact g1
    rw [(n_low p1 gn).1, (n_low p1 gn).2] at rn
    obtain ⟨dn, hn⟩ := id rn
    exact ⟨_, rfl, n, dn, _, i, rfl, rfl, hn, n, .int i, -t1, b1, i, 1, rfl, rn, .inr ⟨rfl, rfl⟩, B1.neg, B2, B3, Bd.of (m := 1) (by decide) (by decide +kernel), p1, by decide, gn, Nat.gcd_one_right _, fun p H' rp s3 => ⟨p, rfl, q p H' rp (s2.trans s3)⟩⟩
theorem screq : FnScope ["self", "other"] ["self", "other"] (defScope sREq) := ⟨rfl, rfl, rfl, by decide +kernel, rfl, by decide +kernel, by decide +kernel⟩
theorem dec_int (z y : Int) : decide (V.int z = V.int y) = decide (z = y) := by
  by_cases e : z = y
  · rw [decide_eq_true e, decide_eq_true (by rw [e])]
  · rw [decide_eq_false e, decide_eq_false (fun h => e (V.int.inj h))]
theorem ok_req {f fN : Addr} {fd fdN : FuncData} (F : Fun K "__eq__" "Ratio.__eq__" sREq f fd) (B : Bn mg) (T : RT K mg CR) (DN : Dn K mg "is_integer" fN) (GN : FnOk P w K mg base CX0 1 fN fdN ["value"] (spIsInt K)) (bN : Binds K fdN ["value"] []) : FnOk P w K mg base CX0 2 f fd ["self", "other"] (spREq CR) := by
  refine F.ok screq (fun vs H Q E h => ?_) (fun cdv A outer s H vs Q E hr h => ?_)
  · obtain ⟨a, b, t1, b1, t2, b2, rfl, _⟩ := h
    rfl
  · obtain ⟨a, b, t1, b1, t2, b2, rfl, ra, rb, q⟩ := h
    obtain ⟨da, ha⟩ := id ra
    obtain ⟨db, hb⟩ := id rb
    refine ⟨_, pss_cons (ps_if (pt_val (pe_callB call_isi (by rfl) B.isin (by decide +kernel) (pa_cons (pv 1) (pa_cons (pe_glob (v := .ref CR) (by rfl) T.gl rfl) pa_nil))))
        (pss_one (ps_ret (pe_and (pe_cmpR op_eq (pe_fld (pv 0) rfl) (pe_fld (pv 1) rfl) (nomark _)) (pe_one (pe_cmpR op_eq (pe_fld (pv 0) rfl) (pe_fld (pv 1) rfl) (nomark _)))))) pss_nil)
      (pss_one ps_never), ?_⟩
    refine ⟨_, rfl, _, _, _, _, true, rfl, .own _, rb.ty T, T.kR, true, rfl, iteT ?_⟩
    refine ⟨_, rfl, a, CR, _, _, _, rfl, ha, T.cl, T.nT, rf_top t1 b1, _, rfl, b, CR, _, _, _, rfl, hb, T.cl, T.nT, rf_top t2 b2, rfl, _, rfl, ?_⟩
    show if decide (V.int t1 = V.int t2) = true then _ else _
    rw [dec_int]
    cases h1 : decide (t1 = t2) with
    | false =>
      rw [h1, Bool.false_and] at q
      exact iteF q
    | true =>
      rw [h1, Bool.true_and] at q
      refine iteT ⟨_, rfl, a, CR, _, _, _, rfl, ha, T.cl, T.nB, rf_bot t1 b1, _, rfl, b, CR, _, _, _, rfl, hb, T.cl, T.nB, rf_bot t2 b2, rfl, ?_⟩
      rw [dec_int]
      exact q
end
end K37

set_option Elab.async false
set_option linter.all false
set_option maxRecDepth 100000
set_option maxHeartbeats 4000000
set_option pp.maxSteps 500
namespace K37
open PySem PySem.Spec PyProof.Rows L2 Ux
abbrev sLow : Stmt := top 35
abbrev sPlus : Stmt := top 36
abbrev sCross : Stmt := top 37
abbrev sPair : Stmt := top 38
abbrev sRatio : Stmt := top 39
theorem BagAt.more {H : Hp} {b : Addr} {n m : Nat} (h : BagAt H b n) (l : n ≤ m) : BagAt H b m := by
  obtain ⟨a, ns, p, g, s', c, h1, h2, h3, h4, h5, h6, h7, h8⟩ := h
  exact ⟨a, ns, p, g, s', c, h1, h2, h3, h4, h5, h6, h7, by omega⟩
theorem BagAt.same {H H' : Hp} {b : Addr} {n : Nat} (h : BagAt H b n) (s : Same H H') : BagAt H' b n := by
  obtain ⟨l, ns, p, g, s', c, hb, hl, z⟩ := h
  exact ⟨l, ns, p, g, s', c, s _ _ hb, s _ _ hl, z⟩
theorem BagAt.lst {H : Hp} {b : Addr} {n : Nat} (h : BagAt H b n) : ∃ xs, H b = some (.lst xs) := by
  obtain ⟨l, ns, p, g, s', c, hb, hl, z⟩ := h
  exact ⟨_, hb⟩
theorem small1000 {n : Nat} (h : n ≤ 1000) : n < sizeLine := by
  rw [sizeLine_eq]
  omega
def TupI (H : Hp) (p : Addr) (t b : Int) : Prop := H p = some (.tup [.int t, .int b])
def spLow : Sp := fun vs H Q _ => ∃ t b : Int, vs = [.int t, .int b] ∧ b ≠ 0 ∧ Bd 8000 b ∧ ∀ (p : Addr) (H' : Hp), TupI H' p (nT t b) (nB t b) → Same H H' → Q (.ref p) H'
def spTwo (f g : Int → Int → Int → Int → Int) : Sp := fun vs H Q _ => ∃ (p q : Addr) (t1 b1 t2 b2 : Int), vs = [.ref p, .ref q] ∧ TupI H p t1 b1 ∧ TupI H q t2 b2 ∧ Bd 2000 t1 ∧ Bd 2000 b1 ∧ Bd 2000 t2 ∧ Bd 2000 b2 ∧ 0 < b1 ∧ 0 < b2 ∧
  ∀ (r : Addr) (H' : Hp), TupI H' r (nT (f t1 b1 t2 b2) (g t1 b1 t2 b2)) (nB (f t1 b1 t2 b2) (g t1 b1 t2 b2)) → Same H H' → Q (.ref r) H'
def spPair (CR : Addr) : Sp := fun vs H Q _ => ∃ (r : Addr) (t b : Int), vs = [.ref r] ∧ RatAt CR H r t b ∧ ∀ (p : Addr) (H' : Hp), TupI H' p t b → Same H H' → Q (.ref p) H'
def spMkRatio (CR : Addr) : Sp := fun vs H Q _ => ∃ (p : Addr) (t b : Int), vs = [.ref p] ∧ TupI H p t b ∧ b ≠ 0 ∧ Bd 8000 b ∧ ∀ (r : Addr) (H' : Hp), RatAt CR H' r (nT t b) (nB t b) → Same H H' → Q (.ref r) H'
theorem dp_bls {K : PySem.W.Frag} {H : Hp} : ∀ bs : List Bool, DpAll K H (bs.map V.bl) (bs.map PyData.bool)
  | [] => .nil
  | b :: bs => .cons (.bl b) (dp_bls bs)
section
variable {P : Program} {w : World} {K : PySem.W.Frag} {mg : Str → Option Value} {base : Heap} {CR CI fI : Addr}
theorem scLow : FnScope ["_law_top", "_law_bottom", "_law_one", "_law_other", "_law_sign"] ["_law_top", "_law_bottom"] (defScope sLow) := ⟨rfl, rfl, rfl, by decide +kernel, rfl, by decide +kernel, by decide +kernel⟩
theorem ok_low {f : Addr} {fd : FuncData} (F : Fun K "_law_low" "_law_low" sLow f fd) (B : Bn mg) : FnOk P w K mg base CX0 1 f fd ["_law_top", "_law_bottom"] spLow := by
  refine F.ok scLow (fun vs H Q E h => ?_) (fun cdv A outer s H vs Q E hr h => ?_)
  · obtain ⟨t, b, rfl, _⟩ := h
    rfl
  · obtain ⟨t, b, rfl, b0, bb, q⟩ := h
    refine ⟨_, pss_cons (ps_par (i := 2) (j := 3) rfl scLow.nd rfl rfl (by decide) rfl rfl (pa_cons (pe_callB call_abs (by rfl) B.fabs (by decide +kernel) (pa_cons (pv 0) pa_nil)) (pa_cons (pe_callB call_abs (by rfl) B.fabs (by decide +kernel) (pa_cons (pv 1) pa_nil)) pa_nil)) rfl)
      (pss_cons (ps_while PassesOwn.never (pt_cmpR op_ne (pv 3) pe_int (nomark _)) (pss_one (ps_par (i := 2) (j := 3) rfl scLow.nd rfl rfl (by decide) rfl rfl (pa_cons (pv 3) (pa_cons (pe_op op_mod (pe_callTy call_int1 (by rfl) B.tint (by decide +kernel) (pa_cons (pv 2) pa_nil)) (pv 3)) pa_nil)) rfl)))
      (C8.pss_cut (ps_set (i := 4) scLow.nd rfl (Or.inl rfl) (pe_ifExp (pt_cmpR op_lt (pv 1) pe_int (nomark _)) (pe_un un_neg pe_int) pe_int))
      (pss_one (ps_ret (pe_tup (pa_cons (pe_op op_fdivX (pe_op op_mul (pv 4) (pv 0)) (pv 2)) (pa_cons (pe_op op_fdivX (pe_op op_mul (pv 4) (pv 1)) (pv 2)) pa_nil))))))), ?_⟩
    refine ⟨_, rfl, _, rfl, _, rfl, _, rfl, _, _, rfl, ?_⟩
    have ea : ∀ n : Int, (if n < 0 then -n else n) = ((n.natAbs : Nat) : Int) := fun n => by split <;> omega
    rw [ea, ea]
    refine while_by (fun σ H' => ∃ x y : Nat, σ = [some (.int t), some (.int b), some (.int x), some (.int y), none] ∧ H' = H ∧ Nat.gcd x y = Nat.gcd t.natAbs b.natAbs) (fun σ _ => match σ with | [_, _, _, some (.int y), _] => y.natAbs | _ => 0) ⟨_, _, rfl, rfl, rfl⟩ ?_ ?_
    · rintro σ H' ⟨x, y, rfl, rfl, g⟩
      refine ⟨_, rfl, rfl, _, rfl, ?_⟩
      by_cases z : y = 0
      · subst z
        refine iteF ?_
        rw [Nat.gcd_zero_right] at g
        have g0 : 0 < Nat.gcd t.natAbs b.natAbs := g_pos b0
        have gd : ((x : Int) ≠ 0 ∧ (x : Int).natAbs.log2 < 9000) := by
          refine ⟨by omega, ?_⟩
          have : Bd 8000 (x : Int) := by
            unfold Bd
            rw [Int.natAbs_natCast, g]
            exact Nat.lt_of_le_of_lt (Nat.le_of_dvd (by omega) (Nat.gcd_dvd_right _ _)) bb
          exact Nat.lt_of_lt_of_le (this.log (by decide)) (by decide)
        refine ⟨fun σ H2 => σ = [some (.int t), some (.int b), some (.int (x : Int)), some (.int ((0 : Nat) : Int)), some (.int (sg b))] ∧ H2 = H', ?_, ?_⟩
        · refine ⟨_, rfl, _, _, rfl, rfl, _, rfl, ?_⟩
          by_cases hn : b < 0
          · rw [decide_eq_true hn]
            refine iteT ⟨_, rfl, ?_⟩
            unfold sg
            rw [if_pos hn]
            exact ⟨rfl, rfl⟩
          · rw [decide_eq_false hn]
            refine iteF ?_
            unfold sg
            rw [if_neg hn]
            exact ⟨rfl, rfl⟩
        · rintro σ H2 ⟨rfl, rfl⟩
          have sb : -(2 ^ 64) < sg b ∧ sg b < 2 ^ 64 := by
            unfold sg
            split <;> decide
          refine ⟨_, rfl, _, rfl, _, _, rfl, rfl, .inl sb, _, rfl, _, _, rfl, rfl, gd, ?_⟩
          refine ⟨_, rfl, _, rfl, _, _, rfl, rfl, .inl sb, _, rfl, _, _, rfl, rfl, gd, (by show 2 ≤ sizeLine; decide), fun p hp => ?_⟩
          refine q p _ ?_ (same_upd hp)
          unfold TupI
          rw [upd_same, g]
          show some (HO.tup [V.int ((sg b * t).fdiv ((Nat.gcd t.natAbs b.natAbs : Nat) : Int)), V.int ((sg b * b).fdiv ((Nat.gcd t.natAbs b.natAbs : Nat) : Int))]) = _
          rw [law_nT b0, law_nB b0]
      · have ny : ¬ (V.int (y : Int)) = V.int 0 := fun e => z (by have := V.int.inj e; omega)
        have ey : (!decide (V.int (y : Int) = V.int 0)) = true := by
          rw [decide_eq_false ny]
          rfl
        show if (!decide (V.int (y : Int) = V.int 0)) = true then _ else _
        rw [ey]
        refine iteT ⟨_, rfl, _, rfl, .inl ⟨_, rfl, _, rfl, _, _, rfl, rfl, (by show (0 : Int) < (y : Int); omega), _, _, rfl, ?_⟩⟩
        refine ⟨⟨y, x % y, rfl, rfl, ?_⟩, ?_⟩
        · rw [← g, Nat.gcd_comm x y, Nat.gcd_rec y x, Nat.gcd_comm]
        · have := Nat.mod_lt x (Nat.pos_of_ne_zero z)
          show (((x : Int) % (y : Int)).natAbs) < ((y : Int)).natAbs
          omega
    · rintro σ H' Q1 Q2 hq ⟨x, hx, e1, k, e3, z⟩
      exact ⟨x, hx, e1, k, e3, hq _ _ z⟩
theorem at0 (x y : V) : atI [x, y] ((0 : Nat) : Int) = some x := atI_nat rfl
theorem at1 (x y : V) : atI [x, y] ((1 : Nat) : Int) = some y := atI_nat rfl
theorem scplus : FnScope ["_law_one", "_law_other"] ["_law_one", "_law_other"] (defScope sPlus) := ⟨rfl, rfl, rfl, by decide +kernel, rfl, by decide +kernel, by decide +kernel⟩
theorem ok_plus {f fL : Addr} {fd fdL : FuncData} (F : Fun K "_law_plus" "_law_plus" sPlus f fd) (D : Dn K mg "_law_low" fL) (G : FnOk P w K mg base CX0 1 fL fdL ["_law_top", "_law_bottom"] spLow) (bL : Binds K fdL ["_law_top", "_law_bottom"] []) :
    FnOk P w K mg base CX0 2 f fd ["_law_one", "_law_other"] (spTwo fAdd gMul) := by
  refine F.ok scplus (fun vs H Q E h => ?_) (fun cdv A outer s H vs Q E hr h => ?_)
  · obtain ⟨p, q, t1, b1, t2, b2, rfl, _⟩ := h
    rfl
  · obtain ⟨p, q, t1, b1, t2, b2, rfl, hp, hq, B1, B2, B3, B4, p1, p2, k⟩ := h
    refine ⟨_, pss_one (ps_ret (pe_call G hr (by rfl) D.gl D.kp bL .nil pass0 (pa_cons (pe_op op_add (pe_op op_mulW (pe_ix ix_tup (pv 0) pe_int (fun _ _ => rfl)) (pe_ix ix_tup (pv 1) pe_int (fun _ _ => rfl))) (pe_op op_mulW (pe_ix ix_tup (pv 1) pe_int (fun _ _ => rfl)) (pe_ix ix_tup (pv 0) pe_int (fun _ _ => rfl)))) (pa_cons (pe_op op_mulW (pe_ix ix_tup (pv 0) pe_int (fun _ _ => rfl)) (pe_ix ix_tup (pv 1) pe_int (fun _ _ => rfl))) pa_nil)))), ?_⟩
    have pp : 0 < b1 * b2 := Int.mul_pos p1 p2
    exact ⟨_, rfl, p, _, _, _, rfl, rfl, .of hp, at0 _ _, _, rfl, q, _, _, _, rfl, rfl, .of hq, at1 _ _, _, _, rfl, rfl, wide_mul B1 B4 (by decide) (by decide) (by decide), _, rfl, q, _, _, _, rfl, rfl, .of hq, at0 _ _, _, rfl, p, _, _, _, rfl, rfl, .of hp, at1 _ _, _, _, rfl, rfl, wide_mul B3 B2 (by decide) (by decide) (by decide), _, _, rfl, rfl, _, rfl, p, _, _, _, rfl, rfl, .of hp, at1 _ _, _, rfl, q, _, _, _, rfl, rfl, .of hq, at1 _ _, _, _, rfl, rfl, wide_mul B2 B4 (by decide) (by decide) (by decide), _, _, rfl, by omega, (B2.mul B4).le (by decide), fun r H' hr s => k r H' hr s⟩
theorem sccross : FnScope ["_law_one", "_law_other"] ["_law_one", "_law_other"] (defScope sCross) := ⟨rfl, rfl, rfl, by decide +kernel, rfl, by decide +kernel, by decide +kernel⟩
theorem ok_cross {f fL : Addr} {fd fdL : FuncData} (F : Fun K "_law_cross" "_law_cross" sCross f fd) (D : Dn K mg "_law_low" fL) (G : FnOk P w K mg base CX0 1 fL fdL ["_law_top", "_law_bottom"] spLow) (bL : Binds K fdL ["_law_top", "_law_bottom"] []) :
    FnOk P w K mg base CX0 2 f fd ["_law_one", "_law_other"] (spTwo fMul gMul) := by
  refine F.ok sccross (fun vs H Q E h => ?_) (fun cdv A outer s H vs Q E hr h => ?_)
  · obtain ⟨p, q, t1, b1, t2, b2, rfl, _⟩ := h
    rfl
  · obtain ⟨p, q, t1, b1, t2, b2, rfl, hp, hq, B1, B2, B3, B4, p1, p2, k⟩ := h
    refine ⟨_, pss_one (ps_ret (pe_call G hr (by rfl) D.gl D.kp bL .nil pass0 (pa_cons (pe_op op_mulW (pe_ix ix_tup (pv 0) pe_int (fun _ _ => rfl)) (pe_ix ix_tup (pv 1) pe_int (fun _ _ => rfl))) (pa_cons (pe_op op_mulW (pe_ix ix_tup (pv 0) pe_int (fun _ _ => rfl)) (pe_ix ix_tup (pv 1) pe_int (fun _ _ => rfl))) pa_nil)))), ?_⟩
    have pp : 0 < b1 * b2 := Int.mul_pos p1 p2
    exact ⟨_, rfl, p, _, _, _, rfl, rfl, .of hp, at0 _ _, _, rfl, q, _, _, _, rfl, rfl, .of hq, at0 _ _, _, _, rfl, rfl, wide_mul B1 B3 (by decide) (by decide) (by decide), _, rfl, p, _, _, _, rfl, rfl, .of hp, at1 _ _, _, rfl, q, _, _, _, rfl, rfl, .of hq, at1 _ _, _, _, rfl, rfl, wide_mul B2 B4 (by decide) (by decide) (by decide), _, _, rfl, by omega, (B2.mul B4).le (by decide), fun r H' hr s => k r H' hr s⟩
theorem vIsi : bootBuiltins ("isinstance" : Str) = some (.builtin "isinstance") := by decide +kernel
theorem vInt : bootBuiltins ("int" : Str) = some (.type "int") := by decide +kernel
theorem vBool : bootBuiltins ("bool" : Str) = some (.type "bool") := by decide +kernel
theorem scPair : FnScope ["_law_found", "_law_whole", "_law_part"] ["_law_found"] (defScope sPair) := ⟨rfl, rfl, rfl, by decide +kernel, rfl, by decide +kernel, by decide +kernel⟩
theorem ok_pair {f : Addr} {fd : FuncData} (F : Fun K "_law_pair" "_law_pair" sPair f fd) (B : Bn mg) (T : RT K mg CR) : FnOk P w K mg base CX0 1 f fd ["_law_found"] (spPair CR) := by
  refine F.ok scPair (fun vs H Q E h => ?_) (fun cdv A outer s H vs Q E hr h => ?_)
  · obtain ⟨r, t, b, rfl, _⟩ := h
    rfl
  · obtain ⟨r, t, b, rfl, ra, q⟩ := h
    refine ⟨_, pss_cons (ps_if (pt_not (pt_val (pe_callB call_isi (by rfl) B.isin (by decide +kernel) (pa_cons (pv 0) (pa_cons (pe_glob (v := .ref CR) (by rfl) T.gl rfl) pa_nil))))) (pss_one (ps_ret pe_non)) pss_nil)
      (pss_cons (ps_setLc (i := 1) (own := [("_law_part", 2)]) (g := gName 2) rfl scPair.nd rfl rfl (sw_true rfl rfl rfl rfl) (pi_list (pe_lst (pa_cons (pe_fld (pv 0) rfl) (pa_cons (pe_fld (pv 0) rfl) pa_nil)))) (blkOk_by (own := [("_law_part", 2)]) (N := ["_law_found", "_law_whole", "_law_part"]) (sc := defScope sPair) (by decide +kernel))
          (fun _ _ _ _ _ => pg_name (i := 2) scPair.nd rfl (Or.inl rfl) (hf := Or.inr rfl)) (fun _ _ _ _ _ => pts_nil)
          (fun _ _ _ _ _ => pe_and (pe_callB (id := "isinstance") (r := rIsi K) call_isi rfl B.isin vIsi (pa_cons (pv 2) (pa_cons (pe_bltn (v := .ty "int") rfl B.tint vInt rfl) pa_nil)))
            (pe_one (pe_not (pe_callB (id := "isinstance") (r := rIsi K) call_isi rfl B.isin vIsi (pa_cons (pv 2) (pa_cons (pe_bltn (v := .ty "bool") rfl B.tbool vBool rfl) pa_nil)))))))
      (pss_one (ps_ret (pe_ifExp (pt_cmpR (op_eqD hr.units) (pv 1) (pe_lst (pa_cons pe_bl (pa_cons pe_bl pa_nil))) (nomark _)) (pe_tup (pa_cons (pe_fld (pv 0) rfl) (pa_cons (pe_fld (pv 0) rfl) pa_nil))) pe_non)))), ?_⟩
    obtain ⟨dx, ha⟩ := id ra
    refine ⟨_, rfl, _, _, _, _, true, rfl, .own _, ra.ty T, T.kR, _, rfl, iteF ?_⟩
    refine ⟨_, rfl, r, CR, dx, _, _, rfl, ha, T.cl, T.nT, rf_top t b, _, rfl, r, CR, dx, _, _, rfl, ha, T.cl, T.nB, rf_bot t b, (by show 2 ≤ sizeLine; decide), fun p hp => ?_⟩
    have s1 : Same H (upd H p (.lst [.int t, .int b])) := same_upd hp
    refine ⟨p, rfl, ⟨_, .of upd_same⟩, fun D hD => ?_⟩
    refine lc_list (K := K) (a := p) (xs := [V.int t, V.int b]) (fun i H' => Same (upd H p (.lst [.int t, .int b])) H' ∧ H' D = some (.lst (List.replicate i (V.bl true)))) ⟨same_upd hD, upd_same⟩ (fun i H' _ z => .of (z.1 _ _ upd_same)) ?_ ?_
    · rintro i x H2 hx ⟨s2, d2⟩
      have hx' : ∃ n, x = .int n ∧ i < 2 := by
        match i, hx with
        | 0, hx => exact ⟨t, (Option.some.inj hx).symm, by decide⟩
        | 1, hx => exact ⟨b, (Option.some.inj hx).symm, by decide⟩
      obtain ⟨n, rfl, hi⟩ := hx'
      refine ⟨rfl, ?_⟩
      refine ⟨_, rfl, _, _, _, _, true, rfl, .ty "int", .base (.int _), kit_ty (by decide +kernel), true, rfl, iteT ?_⟩
      refine ⟨_, rfl, _, _, _, _, false, rfl, .ty "bool", .base (.int _), kit_ty (by decide +kernel), _, rfl, _, d2, ?_, fun c o e => ?_, ?_⟩
      · rw [List.length_replicate]
        exact small1000 (by omega)
      · rw [upd_ne (ne_of_none e hD)]
        exact s2 c o e
      · rw [upd_same, List.replicate_succ']
        rfl
    · rintro H2 ⟨s2, d2⟩
      have s3 := s1.trans s2
      refine ⟨_, rfl, (by show 2 ≤ sizeLine; decide), fun p2 hp2 => ?_⟩
      have d3 : upd H2 p2 (.lst [.bl true, .bl true]) D = some (.lst ([true, true].map V.bl)) := (upd_ne (ne_of_none d2 hp2)).trans d2
      refine ⟨_, _, .lst (.of d3) (dp_bls [true, true]), .lst (.of upd_same) (dp_bls [true, true]), rfl, rfl, _, rfl, ?_⟩
      rw [SeqAt.eqv_refl _ rfl]
      have s4 : Same H (upd H2 p2 (.lst [.bl true, .bl true])) := Same.new s3 hp2
      have ha4 := s4 _ _ ha
      refine iteT ⟨_, rfl, r, CR, dx, _, _, rfl, ha4, T.cl, T.nT, rf_top t b, _, rfl, r, CR, dx, _, _, rfl, ha4, T.cl, T.nB, rf_bot t b, (by show 2 ≤ sizeLine; decide), fun p3 hp3 => ?_⟩
      exact q p3 _ upd_same (Same.new s4 hp3)
theorem scRatio : FnScope ["_law_pair_here"] ["_law_pair_here"] (defScope sRatio) := ⟨rfl, rfl, rfl, by decide +kernel, rfl, by decide +kernel, by decide +kernel⟩
theorem ok_ratio {f fN : Addr} {fd fdN : FuncData} (F : Fun K "_law_ratio" "_law_ratio" sRatio f fd) (T : RT K mg CR) (M : Mk K CR fN) (G : FnOk P w K mg base CX0 2 fN fdN ["self", "top", "bottom"] (spRInit CR)) (bN : Binds K fdN ["self", "top", "bottom"] []) :
    FnOk P w K mg base CX0 4 f fd ["_law_pair_here"] (spMkRatio CR) := by
  refine F.ok scRatio (fun vs H Q E h => ?_) (fun cdv A outer s H vs Q E hr h => ?_)
  · obtain ⟨q, t, b, rfl, _⟩ := h
    rfl
  · obtain ⟨p, t, b, rfl, hp, b0, bb, q⟩ := h
    refine ⟨_, pss_one (ps_ret (pe_make M G hr (by rfl) T.gl bN .nil pass0 (pa_cons (pe_ix ix_tup (pv 0) pe_int (fun _ _ => rfl)) (pa_cons (pe_ix ix_tup (pv 0) pe_int (fun _ _ => rfl)) pa_nil)))), ?_⟩
    exact ⟨_, rfl, p, _, _, _, rfl, rfl, .of hp, at0 _ _, _, rfl, p, _, _, _, rfl, rfl, .of hp, at1 _ _, fun x dx nx nd ne => ⟨x, dx, t, b, rfl, upd_same, b0, bb, fun H' hx bu => ⟨rfl, q x H' ⟨dx, hx⟩ (made_same nx nd bu)⟩⟩⟩
end
end K37

set_option Elab.async false
set_option linter.all false
set_option maxRecDepth 100000
set_option maxHeartbeats 4000000
set_option pp.maxSteps 500
namespace K37
open PySem PySem.Spec PyProof.Rows L2 Ux TL
abbrev sIntText : Stmt := top 18
abbrev sRatText : Stmt := top 19
abbrev sRStr : Stmt := inClass (top 20) 13
abbrev sRRepr : Stmt := inClass (top 20) 14
def W10 (n : Int) : Prop := n.natAbs < 10 ^ 10
def ctext (t b : Int) : Str := if b = 1 then toString t else toString t ++ "/" ++ toString b
def spIntText : Sp := fun vs H Q _ => ∃ n : Int, vs = [.int n] ∧ W10 n ∧ ∀ H', Same H H' → Q (.str (toString n)) H'
def spRatText (CR : Addr) : Sp := fun vs H Q _ => ∃ (a : Addr) (t b : Int), vs = [.ref a] ∧ RatAt CR H a t b ∧ W10 t ∧ W10 b ∧ ∀ H', Same H H' → Q (.str (ctext t b)) H'
theorem ofS_app (a b : String) : Str.ofString (a ++ b) = Str.ofString a ++ Str.ofString b := by
  refine ext_tl ?_
  rw [tl_append, Str.ofString_eq_toList, Str.ofString_eq_toList, Str.ofString_eq_toList, tl_mk, tl_mk, tl_mk, String.toList_append, List.map_append]
theorem join_one (x : Str) : Txt.join "" [x] = x := by
  have e0 : Txt.join "" [x] = Str.join "" [x] := StrLaws.glued_eq_join _ _
  rw [e0]
  rfl
theorem join_two (x y : Str) : Txt.join "" [x, y] = x ++ y := by
  have e0 : Txt.join "" [x, y] = Str.join "" [x, y] := StrLaws.glued_eq_join _ _
  rw [e0]
  show x ++ "" ++ y = x ++ y
  refine ext_tl ?_
  have e : tl ("" : Str) = [] := by decide +kernel
  rw [tl_append, tl_append, tl_append, e, List.append_nil]
theorem text_pos (n : Int) (h : 0 ≤ n) : Txt.join "" [(toString (if n < 0 then -n else n) : Str)] = (toString n : Str) := by
  rw [if_neg (by omega), join_one]
theorem text_neg (n : Int) (h : n < 0) : Txt.join "" [("-" : Str), (toString (if n < 0 then -n else n) : Str)] = (toString n : Str) := by
  rw [if_pos h, join_two]
  obtain ⟨k, rfl⟩ : ∃ k : Nat, n = Int.negSucc k := by
    cases n with
    | ofNat n => exact absurd h (by simp)
    | negSucc k => exact ⟨k, rfl⟩
  show Str.ofString "-" ++ Str.ofString (toString (-(Int.negSucc k))) = Str.ofString (toString (Int.negSucc k))
  have e0 : toString (Int.negSucc k) = "-" ++ toString (((k + 1 : Nat)) : Int) := rfl
  rw [e0, ofS_app]
  rfl
theorem text_len {n : Int} (h : W10 n) : (toString n : Str).length ≤ 12 := by
  show (Str.ofString (toString n)).length ≤ 12
  have q := int_text_length_le10 (a := n) (k := 10) (by decide) h
  rw [PySem.ofString_length]
  omega
theorem log2_w {n : Int} (h : W10 n) : n.natAbs.log2 < 1920 := by
  unfold W10 at h
  by_cases z : n.natAbs = 0
  · rw [z]
    decide
  · have q := Nat.log2_self_le z
    have : n.natAbs.log2 < 40 := by
      refine Nat.lt_of_not_le fun c => ?_
      have q2 : 2 ^ 40 ≤ 2 ^ n.natAbs.log2 := Nat.pow_le_pow_right (by decide) c
      have q3 : (10 : Nat) ^ 10 < 2 ^ 40 := by decide
      omega
    omega
theorem app_len {x y : Str} {m n : Nat} (h : x.length ≤ m) (k : y.length ≤ n) : (x ++ y).length ≤ m + n := by
  rw [PySem.Str.length_append]
  omega
theorem fit2 {n m : Nat} (h : n ≤ m) (k : m ≤ 100000) : n ≤ sizeLine := by
  rw [sizeLine_eq]
  omega
theorem ctext_len {t b : Int} (h : W10 t) (k : W10 b) : (ctext t b).length ≤ 30 := by
  unfold ctext
  split
  · exact Nat.le_trans (text_len h) (by decide)
  · exact Nat.le_trans (app_len (app_len (text_len h) (show (Str.ofString "/").length ≤ 1 by decide)) (text_len k)) (by decide)
theorem empty_app (x : Str) : Str.empty ++ x = x := by
  show Str.mk (#[] ++ x.cps) = x
  rw [Array.empty_append]
section
variable {P : Program} {w : World} {K : PySem.W.Frag} {mg : Str → Option Value} {base : Heap} {CR : Addr}
theorem scIntText : FnScope ["number", "pieces", "rest", "low"] ["number"] (defScope sIntText) := ⟨rfl, rfl, rfl, by decide +kernel, rfl, by decide +kernel, by decide +kernel⟩
theorem ok_intText {f : Addr} {fd : FuncData} (F : Fun K "integer_text" "integer_text" sIntText f fd) (B : Bn mg) (cb : ∃ t, mg "CHUNK_BASE" = some (.int 1000000000000000000000000000000000000000000000000000000000000 t)) : FnOk P w K mg base CX0 1 f fd ["number"] spIntText := by
  refine F.ok scIntText (fun vs H Q E h => ?_) (fun cdv A outer s H vs Q E hr h => ?_)
  · obtain ⟨n, rfl, _⟩ := h
    rfl
  · obtain ⟨n, rfl, hn, q⟩ := h
    obtain ⟨ct, cb⟩ := cb
    refine ⟨_, pss_cons (ps_set (i := 1) scIntText.nd rfl (Or.inl rfl) (pe_lst pa_nil))
      (pss_cons (ps_set (i := 2) scIntText.nd rfl (Or.inl rfl) (pe_callB call_abs (by rfl) B.fabs (by decide +kernel) (pa_cons (pv 0) pa_nil)))
      (pss_cons (ps_while PassesOwn.never (pt_cmpR op_ge (pv 2) (pe_glob (v := .int 1000000000000000000000000000000000000000000000000000000000000) (by rfl) cb ⟨_, rfl⟩) (nomark _)) pss_never)
      (pss_cons (ps_expr (pe_bm PySem.F.plainAttrs_list PySem.F.slot_list_append PySem.F.type_list_append mt_append (pv 1) (pa_cons (pe_callTy call_str_int (by rfl) B.tstr (by decide +kernel) (pa_cons (pv 2) pa_nil)) pa_nil)))
      (pss_cons (ps_if (pt_cmpR op_lt (pv 0) pe_int (nomark _)) (pss_one (ps_expr (pe_bm PySem.F.plainAttrs_list PySem.F.slot_list_append PySem.F.type_list_append mt_append (pv 1) (pa_cons pe_str pa_nil)))) pss_nil)
      (pss_one (ps_ret (pe_join pe_str (pe_revL (pv 1))))))))), ?_⟩
    refine ⟨(by show 0 ≤ sizeLine; decide), fun p hp => ?_⟩
    refine ⟨_, rfl, _, rfl, ?_⟩
    refine while_by (fun σ H' => σ = [some (.int n), some (.ref p), some (.int (if n < 0 then -n else n)), none] ∧ H' = upd H p (.lst [])) (fun _ _ => 0) ⟨rfl, rfl⟩ ?_ ?_
    · rintro σ H' ⟨rfl, rfl⟩
      refine ⟨_, rfl, _, _, rfl, rfl, _, rfl, ?_⟩
      have nb : ¬ (1000000000000000000000000000000000000000000000000000000000000 : Int) ≤ (if n < 0 then -n else n) := by
        have w10 := hn
        unfold W10 at w10
        have e10 : (10 : Nat) ^ 10 = 10000000000 := by decide
        rw [e10] at w10
        split <;> omega
      rw [decide_eq_false nb]
      refine iteF ?_
      have hp1 : upd H p (.lst []) p = some (.lst []) := upd_same
      have wab : W10 (if n < 0 then -n else n) := by
        unfold W10 at hn ⊢
        split <;> omega
      refine ⟨_, rfl, .inl ⟨rfl, _, SqL.of hp1⟩, _, rfl, _, rfl, log2_w wab, p, _, _, rfl, rfl, hp1, (by show 0 < sizeLine; decide), ?_⟩
      have hp2 : upd (upd H p (.lst [])) p (.lst ([] ++ [V.str (toString (if n < 0 then -n else n))])) p = some (.lst [V.str (toString (if n < 0 then -n else n))]) := upd_same
      refine ⟨_, rfl, _, _, rfl, rfl, _, rfl, ?_⟩
      have sm : ∀ o, Same H (upd (upd H p (.lst [])) p o) := fun o => by
        rw [upd_upd]
        exact same_upd hp
      have tl := text_len wab
      by_cases neg : n < 0
      · rw [decide_eq_true neg]
        refine iteT ⟨_, rfl, .inl ⟨rfl, _, SqL.of hp2⟩, p, _, _, rfl, rfl, hp2, (by show 1 < sizeLine; decide), ?_⟩
        refine ⟨⟨_, rfl⟩, _, rfl, p, _, rfl, .of upd_same, fun p2 hp3 => ?_⟩
        refine ⟨_, p2, [("-" : Str), (toString (if n < 0 then -n else n) : Str)], rfl, rfl, .inl (.of upd_same), ?_, ?_⟩
        · show ([("-" : Str).length, (toString (if n < 0 then -n else n) : Str).length]).sum + 2 * ("" : Str).length ≤ 16777216
          have e1 : ("-" : Str).length = 1 := by decide
          have e2 : ("" : Str).length = 0 := by decide
          simp only [List.sum_cons, List.sum_nil, e1, e2]
          omega
        · rw [text_neg n neg]
          refine q _ fun c o e => ?_
          have nc := ne_of_none e hp
          have e1 : (upd (upd (upd H p (.lst [])) p (.lst ([] ++ [V.str (toString (if n < 0 then -n else n))]))) p (.lst ([V.str (toString (if n < 0 then -n else n))] ++ [V.str "-"]))) c = some o := by
            rw [upd_ne nc, upd_ne nc, upd_ne nc]
            exact e
          rw [upd_ne (ne_of_none e1 hp3)]
          exact e1
      · rw [decide_eq_false neg]
        refine iteF ?_
        refine ⟨⟨_, rfl⟩, _, rfl, p, _, rfl, .of hp2, fun p2 hp3 => ?_⟩
        refine ⟨_, p2, [(toString (if n < 0 then -n else n) : Str)], rfl, rfl, .inl (.of upd_same), ?_, ?_⟩
        · show ([(toString (if n < 0 then -n else n) : Str).length]).sum + 1 * ("" : Str).length ≤ 16777216
          have e2 : ("" : Str).length = 0 := by decide
          simp only [List.sum_cons, List.sum_nil, e2]
          omega
        · rw [text_pos n (by omega)]
          refine q _ fun c o e => ?_
          have nc := ne_of_none e hp
          have e1 : (upd (upd H p (.lst [])) p (.lst ([] ++ [V.str (toString (if n < 0 then -n else n))]))) c = some o := by
            rw [upd_ne nc, upd_ne nc]
            exact e
          rw [upd_ne (ne_of_none e1 hp3)]
          exact e1
    · rintro σ H' Q1 Q2 hq ⟨x, hx, i, j, e1, e2, k, e3, z⟩
      exact ⟨x, hx, i, j, e1, e2, k, e3, hq _ _ z⟩
theorem scRatText : FnScope ["ratio"] ["ratio"] (defScope sRatText) := ⟨rfl, rfl, rfl, by decide +kernel, rfl, by decide +kernel, by decide +kernel⟩
theorem ok_ratText {f fI : Addr} {fd fdI : FuncData} (F : Fun K "ratio_text" "ratio_text" sRatText f fd) (T : RT K mg CR) (D : Dn K mg "integer_text" fI) (G : FnOk P w K mg base CX0 1 fI fdI ["number"] spIntText) (bI : Binds K fdI ["number"] []) : FnOk P w K mg base CX0 2 f fd ["ratio"] (spRatText CR) := by
  refine F.ok scRatText (fun vs H Q E h => ?_) (fun cdv A outer s H vs Q E hr h => ?_)
  · obtain ⟨a, t, b, rfl, _⟩ := h
    rfl
  · obtain ⟨a, t, b, rfl, ra, wt, wb, q⟩ := h
    refine ⟨_, pss_cons (ps_if (pt_cmpR op_eq (pe_fld (pv 0) rfl) pe_int (nomark _)) (pss_one (ps_ret (pe_call G hr (by rfl) D.gl D.kp bI .nil pass0 (pa_cons (pe_fld (pv 0) rfl) pa_nil)))) pss_nil)
      (pss_one (ps_ret (pe_joined (PJ.cons (pe_fmt (pe_call G hr (by rfl) D.gl D.kp bI .nil pass0 (pa_cons (pe_fld (pv 0) rfl) pa_nil))) (PJ.cons pe_str (PJ.cons (pe_fmt (pe_call G hr (by rfl) D.gl D.kp bI .nil pass0 (pa_cons (pe_fld (pv 0) rfl) pa_nil))) PJ.nil)))))), ?_⟩
    obtain ⟨dx, ha⟩ := id ra
    refine ⟨_, rfl, a, CR, dx, _, _, rfl, ha, T.cl, T.nB, rf_bot t b, rfl, _, rfl, ?_⟩
    by_cases e1 : (V.int b) = V.int 1
    · rw [decide_eq_true e1]
      have eb : b = 1 := V.int.inj e1
      refine iteT ⟨_, rfl, a, CR, dx, _, _, rfl, ha, T.cl, T.nT, rf_top t b, t, rfl, wt, fun H1 s1 => ?_⟩
      have z := q H1 s1
      unfold ctext at z
      rw [if_pos eb] at z
      exact z
    · rw [decide_eq_false e1]
      have nb : ¬ b = 1 := fun z => e1 (by rw [z])
      refine iteF ⟨_, rfl, a, CR, dx, _, _, rfl, ha, T.cl, T.nT, rf_top t b, t, rfl, wt, fun H1 s1 => .inl ⟨_, rfl, fit2 (text_len wt) (by decide), _, rfl, ?_, ?_⟩⟩
      · rw [empty_app]
        exact fit2 (text_len wt) (by decide)
      · rw [empty_app]
        refine ⟨_, rfl, fit2 (app_len (text_len wt) (show (Str.ofString "/").length ≤ 1 by decide)) (by decide), ?_⟩
        refine ⟨_, rfl, a, CR, dx, _, _, rfl, s1 _ _ ha, T.cl, T.nB, rf_bot t b, b, rfl, wb, fun H2 s2 => .inl ⟨_, rfl, fit2 (text_len wb) (by decide), _, rfl, ?_, ?_⟩⟩
        · exact fit2 (app_len (app_len (text_len wt) (show (Str.ofString "/").length ≤ 1 by decide)) (text_len (n := b) wb)) (by decide)
        · have z := q H2 (s1.trans s2)
          unfold ctext at z
          rw [if_neg nb] at z
          exact z
theorem scRStr : FnScope ["self"] ["self"] (defScope sRStr) := ⟨rfl, rfl, rfl, by decide +kernel, rfl, by decide +kernel, by decide +kernel⟩
theorem ok_rstr {f fI : Addr} {fd fdI : FuncData} (F : Fun K "__str__" "Ratio.__str__" sRStr f fd) (D : Dn K mg "ratio_text" fI) (G : FnOk P w K mg base CX0 2 fI fdI ["ratio"] (spRatText CR)) (bI : Binds K fdI ["ratio"] []) : FnOk P w K mg base CX0 3 f fd ["self"] (spRatText CR) := by
  refine F.ok scRStr (fun vs H Q E h => ?_) (fun cdv A outer s H vs Q E hr h => ?_)
  · obtain ⟨a, t, b, rfl, _⟩ := h
    rfl
  · obtain ⟨a, t, b, rfl, ra, wt, wb, q⟩ := h
    refine ⟨_, pss_one (ps_ret (pe_joined1 (pe_fmt (pe_call G hr (by rfl) D.gl D.kp bI .nil pass0 (pa_cons (pv 0) pa_nil))))), ?_⟩
    exact ⟨_, rfl, a, t, b, rfl, ra, wt, wb, fun H1 s1 => .inl ⟨_, rfl, fit2 (ctext_len wt wb) (by decide), q H1 s1⟩⟩
theorem scRRepr : FnScope ["self"] ["self"] (defScope sRRepr) := ⟨rfl, rfl, rfl, by decide +kernel, rfl, by decide +kernel, by decide +kernel⟩
def spRRepr (CR : Addr) : Sp := fun vs H Q _ => ∃ (a : Addr) (t b : Int), vs = [.ref a] ∧ RatAt CR H a t b ∧ W10 t ∧ W10 b ∧ ∀ H', Same H H' → Q (.str ("Ratio(" ++ ctext t b ++ ")")) H'
theorem ok_rrepr {f fS : Addr} {fd fdS : FuncData} (F : Fun K "__repr__" "Ratio.__repr__" sRRepr f fd) (M : OwnM K CR "__str__" fS) (N : FmO K CR) (G : FnOk P w K mg base CX0 3 fS fdS ["self"] (spRatText CR)) (bS : Binds K fdS ["self"] []) : FnOk P w K mg base CX0 5 f fd ["self"] (spRRepr CR) := by
  refine F.ok scRRepr (fun vs H Q E h => ?_) (fun cdv A outer s H vs Q E hr h => ?_)
  · obtain ⟨a, t, b, rfl, _⟩ := h
    rfl
  · obtain ⟨a, t, b, rfl, ra, wt, wb, q⟩ := h
    obtain ⟨dx, ha⟩ := id ra
    refine ⟨_, pss_one (ps_ret (pe_joined (PJ.cons pe_str (PJ.cons (pe_fmtO (X := Cx.nox _) M N G bS hr (pv 0)) (PJ.cons pe_str PJ.nil))))), ?_⟩
    have l1 : (Str.ofString "Ratio(").length ≤ 6 := by decide
    have l2 : (Str.ofString ")").length ≤ 1 := by decide
    have l0 : Str.empty.length ≤ 0 := by decide
    have lc := ctext_len wt wb
    refine ⟨_, rfl, fit2 (app_len l0 l1) (by decide), _, rfl, a, dx, _, rfl, ha, a, t, b, rfl, ra, wt, wb, fun H1 s1 => ⟨_, rfl, _, rfl, fit2 (app_len (app_len l0 l1) lc) (by decide), _, rfl, fit2 (app_len (app_len (app_len l0 l1) lc) l2) (by decide), ?_⟩⟩
    rw [empty_app]
    exact q H1 s1
end
abbrev sPairText : Stmt := top 40
def spPairText : Sp := fun vs H Q _ => ∃ (q : Addr) (t b : Int), vs = [.ref q] ∧ TupI H q t b ∧ W10 t ∧ W10 b ∧ Q (.str (ctext t b)) H
section
variable {P : Program} {w : World} {K : PySem.W.Frag} {mg : Str → Option Value} {base : Heap} {CR CI fI : Addr}
theorem scPairText : FnScope ["_law_pair_here"] ["_law_pair_here"] (defScope sPairText) := ⟨rfl, rfl, rfl, by decide +kernel, rfl, by decide +kernel, by decide +kernel⟩
theorem ok_pairText {f : Addr} {fd : FuncData} (F : Fun K "_law_pair_text" "_law_pair_text" sPairText f fd) (B : Bn mg) : FnOk P w K mg base CX0 1 f fd ["_law_pair_here"] spPairText := by
  refine F.ok scPairText (fun vs H Q E h => ?_) (fun cdv A outer s H vs Q E hr h => ?_)
  · obtain ⟨q, t, b, rfl, _⟩ := h
    rfl
  · obtain ⟨q0, t, b, rfl, pa, wt, wb, q⟩ := h
    refine ⟨_, pss_one (ps_ret (pe_ifExp (pt_cmpR op_eq (pe_ix ix_tup (pv 0) pe_int (fun _ _ => rfl)) pe_int (nomark _)) (pe_callTy call_str_int (by rfl) B.tstr (by decide +kernel) (pa_cons (pe_ix ix_tup (pv 0) pe_int (fun _ _ => rfl)) pa_nil))
      (pe_op op_add_str (pe_op op_add_str (pe_callTy call_str_int (by rfl) B.tstr (by decide +kernel) (pa_cons (pe_ix ix_tup (pv 0) pe_int (fun _ _ => rfl)) pa_nil)) pe_str) (pe_callTy call_str_int (by rfl) B.tstr (by decide +kernel) (pa_cons (pe_ix ix_tup (pv 0) pe_int (fun _ _ => rfl)) pa_nil))))), ?_⟩
    refine ⟨_, rfl, q0, _, 1, _, rfl, rfl, .of pa, rfl, rfl, _, rfl, ?_⟩
    unfold ctext at q
    by_cases e : b = 1
    · rw [if_pos e] at q
      rw [decide_eq_true (show V.int b = V.int 1 by rw [e])]
      exact iteT ⟨_, rfl, q0, _, 0, _, rfl, rfl, .of pa, rfl, _, rfl, log2_w wt, q⟩
    · rw [if_neg e] at q
      rw [decide_eq_false (fun z => e (V.int.inj z) : ¬ V.int b = V.int 1)]
      refine iteF ⟨_, rfl, q0, _, 0, _, rfl, rfl, .of pa, rfl, _, rfl, log2_w wt, _, _, rfl, rfl, ?_, _, rfl, q0, _, 1, _, rfl, rfl, .of pa, rfl, _, rfl, log2_w wb, _, _, rfl, rfl, ?_, q⟩
      · have := text_len wt
        exact fit2 (m := 20) (by show _ + 1 ≤ 20; omega) (by decide)
      · have h1 := text_len wt
        have h2 := text_len (n := b) wb
        have h3 : ((toString t : Str) ++ ("/" : Str)).length = (toString t : Str).length + 1 := PySem.Str.length_append _ _
        rw [h3]
        exact fit2 (m := 40) (by omega) (by decide)
end
end K37

set_option Elab.async false
set_option linter.all false
set_option maxRecDepth 100000
set_option maxHeartbeats 1000000
namespace K37
open PySem PySem.Spec PyProof.Rows L2 Ux
/-! ### fractions in lowest terms, as pairs -/
abbrev PQ := Int × Int
def pl (p q : PQ) : PQ := (nT (p.1 * q.2 + q.1 * p.2) (p.2 * q.2), nB (p.1 * q.2 + q.1 * p.2) (p.2 * q.2))
def cr (p q : PQ) : PQ := (nT (p.1 * q.1) (p.2 * q.2), nB (p.1 * q.1) (p.2 * q.2))
def zz : PQ := (0, 1)
structure Ok (n : Nat) (p : PQ) : Prop where
  pos : 0 < p.2
  g : Nat.gcd p.1.natAbs p.2.natAbs = 1
  t : Bd n p.1
  b : Bd n p.2
theorem Ok.le {n m : Nat} {p : PQ} (h : Ok n p) (l : n ≤ m) : Ok m p := ⟨h.pos, h.g, h.t.le l, h.b.le l⟩
theorem Ok.low {n : Nat} {p : PQ} (h : Ok n p) : nT p.1 p.2 = p.1 ∧ nB p.1 p.2 = p.2 := n_low h.pos h.g
theorem Ok.lowP {n : Nat} {p : PQ} (h : Ok n p) : ((nT p.1 p.2, nB p.1 p.2) : PQ) = p := by rw [h.low.1, h.low.2]
theorem Ok.ne {n : Nat} {p : PQ} (h : Ok n p) : p.2 ≠ 0 := by have := h.pos; omega
theorem ok_n {n : Nat} {t b : Int} (hb : 0 < b) (k1 : Bd n t) (k2 : Bd n b) : Ok n (nT t b, nB t b) :=
  have z : b ≠ 0 := by omega
  ⟨nB_pos z, n_cop z, Nat.lt_of_le_of_lt (n_abs z).1 k1, Nat.lt_of_le_of_lt (n_abs z).2 k2⟩
theorem Ok.pl {n m : Nat} {p q : PQ} (h : Ok n p) (k : Ok m q) : Ok (n + m + 1) (pl p q) :=
  ok_n (Int.mul_pos h.pos k.pos) (by
    have h1 := h.t.mul k.b
    have h2 : Bd (n + m) (q.1 * p.2) := by rw [Nat.add_comm]; exact k.t.mul h.b
    exact h1.add h2) (Bd.le (n := n + m) (h.b.mul k.b) (by omega))
theorem Ok.cr {n m : Nat} {p q : PQ} (h : Ok n p) (k : Ok m q) : Ok (n + m) (cr p q) := ok_n (Int.mul_pos h.pos k.pos) (h.t.mul k.t) (h.b.mul k.b)
theorem cg_scale {t b k : Int} (hk : 0 < k) : cg (t * k) (b * k) = cg t b * k := by
  unfold cg
  have e : ((Nat.gcd (t * k).natAbs (b * k).natAbs : Nat) : Int) = ((Nat.gcd t.natAbs b.natAbs : Nat) : Int) * k := by
    rw [Int.natAbs_mul, Int.natAbs_mul, Nat.gcd_mul_right, Int.natCast_mul, Int.natAbs_of_nonneg (Int.le_of_lt hk)]
  rw [e]
  by_cases h : b < 0
  · rw [if_pos h, if_pos (Int.mul_neg_of_neg_of_pos h hk), Int.neg_mul]
  · rw [if_neg h, if_neg (Int.not_lt.mpr (Int.mul_nonneg (Int.not_lt.mp h) (Int.le_of_lt hk)))]
theorem n_scale {t b k : Int} (hk : 0 < k) : nT (t * k) (b * k) = nT t b ∧ nB (t * k) (b * k) = nB t b := by
  unfold nT nB
  rw [cg_scale hk]
  refine ⟨?_, ?_⟩
  · rw [Int.mul_comm t k, Int.mul_comm (cg t b) k]
    exact Int.mul_fdiv_mul_of_pos _ _ hk
  · rw [Int.mul_comm b k, Int.mul_comm (cg t b) k]
    exact Int.mul_fdiv_mul_of_pos _ _ hk
/-- equal fractions have the same lowest terms -/
theorem n_eq {t b t2 b2 : Int} (hb : 0 < b) (hb2 : 0 < b2) (e : t * b2 = t2 * b) : nT t b = nT t2 b2 ∧ nB t b = nB t2 b2 := by
  have h1 := n_scale (t := t) (b := b) hb2
  have h2 := n_scale (t := t2) (b := b2) hb
  rw [e, Int.mul_comm b b2] at h1
  exact ⟨h1.1.symm.trans h2.1, h1.2.symm.trans h2.2⟩
theorem n_zero {b : Int} (hb : 0 < b) : nT 0 b = 0 ∧ nB 0 b = 1 := by
  have h := n_eq (t := 0) (b := b) (t2 := 0) (b2 := 1) hb (by decide) (by rw [Int.zero_mul, Int.zero_mul])
  exact ⟨h.1.trans (n_one 0).1, h.2.trans (n_one 0).2⟩
/-- the lowest terms are the same fraction -/
theorem n_cross {t b : Int} (hb : 0 < b) : nT t b * b = t * nB t b := by
  have z : b ≠ 0 := by omega
  obtain ⟨k, l, e1, e2⟩ := parts t b
  have h1 := fdiv_cg (t := t) (b := b) (x := t) z e1
  have h2 := fdiv_cg (t := t) (b := b) (x := b) z e2
  unfold nT nB
  rw [h1, h2]
  generalize hg : ((Nat.gcd t.natAbs b.natAbs : Nat) : Int) = g at *
  rw [e2]
  show sg (g * l) * k * (g * l) = t * (sg (g * l) * l)
  rw [e1]
  simp only [Int.mul_assoc, Int.mul_left_comm, Int.mul_comm]
theorem cr_zero {n : Nat} {q : PQ} (k : Ok n q) : cr zz q = zz := by
  unfold cr zz
  have h := n_zero (b := 1 * q.2) (by have := k.pos; omega)
  rw [Int.zero_mul, h.1, h.2]
theorem zero_cr {n : Nat} {q : PQ} (k : Ok n q) : cr q zz = zz := by
  unfold cr zz
  have h := n_zero (b := q.2 * 1) (by have := k.pos; omega)
  rw [Int.mul_zero, h.1, h.2]
theorem pl_zero {n : Nat} {q : PQ} (k : Ok n q) : pl q zz = q := by
  unfold pl zz
  show ((nT (q.1 * 1 + 0 * q.2) (q.2 * 1), nB (q.1 * 1 + 0 * q.2) (q.2 * 1)) : PQ) = q
  rw [Int.mul_one, Int.mul_one, Int.zero_mul, Int.add_zero]
  exact k.lowP
theorem zero_pl {n : Nat} {q : PQ} (k : Ok n q) : pl zz q = q := by
  unfold pl zz
  show ((nT (0 * q.2 + q.1 * 1) (1 * q.2), nB (0 * q.2 + q.1 * 1) (1 * q.2)) : PQ) = q
  rw [Int.mul_one, Int.one_mul, Int.zero_mul, Int.zero_add]
  exact k.lowP
def ng (q : PQ) : PQ := (-q.1, q.2)
theorem Ok.ng {n : Nat} {p : PQ} (h : Ok n p) : Ok n (ng p) := ⟨h.pos, by show Nat.gcd (-p.1).natAbs _ = 1; rw [Int.natAbs_neg]; exact h.g, h.t.neg, h.b⟩
theorem cr_ng {n : Nat} {q : PQ} (k : Ok n q) : cr (-1, 1) q = ng q := by
  unfold cr
  show ((nT (-1 * q.1) (1 * q.2), nB (-1 * q.1) (1 * q.2)) : PQ) = ng q
  rw [Int.one_mul, Int.neg_one_mul]
  exact k.ng.lowP
theorem pl_ng {n : Nat} {q : PQ} (k : Ok n q) : pl q (ng q) = zz := by
  unfold pl
  show ((nT (q.1 * q.2 + -q.1 * q.2) (q.2 * q.2), nB (q.1 * q.2 + -q.1 * q.2) (q.2 * q.2)) : PQ) = zz
  have e : q.1 * q.2 + -q.1 * q.2 = 0 := by rw [Int.neg_mul]; omega
  have h := n_zero (b := q.2 * q.2) (Int.mul_pos k.pos k.pos)
  rw [e, h.1, h.2]
  rfl
theorem ok_zz : Ok 1 zz := ⟨by decide, by decide, by unfold Bd; decide, by unfold Bd; decide⟩
/-- q / m, in lowest terms -/
def dv (q : PQ) (m : Int) : PQ := (nT q.1 (q.2 * m), nB q.1 (q.2 * m))
/-- q * m -/
def ml (q : PQ) (m : Int) : PQ := (nT (q.1 * m) q.2, nB (q.1 * m) q.2)
theorem ml_dv {n : Nat} {q : PQ} (k : Ok n q) {m : Int} (hm : 0 < m) : ml (dv q m) m = q := by
  have hb : 0 < q.2 * m := Int.mul_pos k.pos hm
  have z : q.2 * m ≠ 0 := by omega
  have h := n_cross (t := q.1) (b := q.2 * m) hb
  have hB := nB_pos (t := q.1) z
  have e := n_eq (t := nT q.1 (q.2 * m) * m) (b := nB q.1 (q.2 * m)) (t2 := q.1) (b2 := q.2) hB k.pos (by rw [← h, Int.mul_assoc, Int.mul_comm m])
  unfold ml dv
  show ((nT (nT q.1 (q.2 * m) * m) (nB q.1 (q.2 * m)), nB (nT q.1 (q.2 * m) * m) (nB q.1 (q.2 * m))) : PQ) = q
  rw [e.1, e.2]
  exact k.lowP
theorem dv_ne {n : Nat} {q : PQ} (k : Ok n q) {m : Int} (hm : 0 < m) (h : q.1 ≠ 0) : (dv q m).1 ≠ 0 := fun z => by
  have hb : 0 < q.2 * m := Int.mul_pos k.pos hm
  have h2 := n_cross (t := q.1) (b := q.2 * m) hb
  have z1 : nT q.1 (q.2 * m) = 0 := z
  have hB := nB_pos (t := q.1) (b := q.2 * m) (by omega)
  rw [z1, Int.zero_mul] at h2
  rcases Int.mul_eq_zero.mp h2.symm with c | c
  · exact h c
  · omega
end K37

set_option Elab.async false
set_option linter.all false
set_option maxRecDepth 100000
set_option maxHeartbeats 4000000
/-! A lambda without parameters held as a value: in a tuple, in a list; a def called with such a value. -/
namespace Ux
open PySem PySem.Spec PyProof.Rows L2 LamX
/-- a lambda of the text, and what its body is read as -/
structure LamD where
  params : Arguments
  body : Expr
  scope : Scope
  t : XK → TE
/-- its function object at f, made where the cells are cl -/
def LamO (cl : List (Str × Addr)) (q : Str) (d : LamD) (f c' : Addr) : HO := .ext fun h => ∃ pm ctv : Value, h.get? f = some (PySem.W.kla_obj "<lambda>" q d.params d.body d.scope (cloFrom cl d.scope.names []) pm c' ctv)
structure LamAt (cl : List (Str × Addr)) (q : Str) (H : Hp) (d : LamD) (f c' : Addr) : Prop where
  fn : H f = some (LamO cl q d f c')
  co : H c' = some (CodeO c' q)
theorem lamO_ne {cl : List (Str × Addr)} {q : Str} {d : LamD} {f c' : Addr} (ps : Array Value) : LamO cl q d f c' ≠ .tbl ps := fun z => by
  unfold LamO at z
  cases z
/-- tuples and what is told by one object are kept -/
structure Kp (H H' : Hp) : Prop where
  tup : ∀ b xs, H b = some (.tup xs) → H' b = some (.tup xs)
  ext : ∀ b φ, H b = some (.ext φ) → H' b = some (.ext φ)
theorem Kp.of {H H' : Hp} (e : ∀ b o, H b = some o → H' b = some o) : Kp H H' := ⟨fun b xs => e b _, fun b φ => e b _⟩
theorem Kp.ofN {H H' : Hp} (e : ExtN H H') : Kp H H' := ⟨fun b xs h => e b _ h (fun _ z => by cases z), fun b φ h => e b _ h (fun _ z => by cases z)⟩
theorem Kp.trans {H H1 H2 : Hp} (a : Kp H H1) (b : Kp H1 H2) : Kp H H2 := ⟨fun c xs h => b.tup _ _ (a.tup _ _ h), fun c φ h => b.ext _ _ (a.ext _ _ h)⟩
theorem Kp.but {H H' : Hp} {c : Addr} {xs : List V} (hc : H c = some (.lst xs)) (e : ∀ b o, H b = some o → b ≠ c → H' b = some o) : Kp H H' :=
  ⟨fun b ys h => e b _ h (fun z => by rw [z, hc] at h; cases h), fun b φ h => e b _ h (fun z => by rw [z, hc] at h; cases h)⟩
theorem LamAt.kp {cl : List (Str × Addr)} {q : Str} {H H' : Hp} {d : LamD} {f c' : Addr} (l : LamAt cl q H d f c') (k : Kp H H') : LamAt cl q H' d f c' := ⟨k.ext _ _ l.fn, k.ext _ _ l.co⟩
section
variable {X : Cx} {pins : List (Addr × Obj)} {σ : L2.St} {H : Hp} {s : Shared}
theorem lam_track {h' : Heap} {tk : Nat} {d : LamD} {c' : Addr} {pm ctv : Value} {q : Str} {cl : List (Str × Addr)} {s1 : Shared} (I : Inv X pins σ H s1) (ho : s1.heap = h') :
    Inv X pins σ (upd H h'.objs.size (LamO cl q d h'.objs.size c')) { s1 with heap := h'.push (PySem.W.kla_obj "<lambda>" q d.params d.body d.scope (cloFrom cl d.scope.names []) pm c' ctv), toks := tk } := by
  subst ho
  exact I.laid (fun b u e => Heap.get?_push_of_some _ e) (Nat.le_refl _) ⟨⟨pm, ctv, Heap.get?_push_size _ rfl⟩, ⟨_, Heap.get?_push_size _ rfl⟩, fun h1 h2 ⟨p, v, e⟩ st => ⟨p, v, st _ e⟩⟩
def tLamV (T : List (Addr × Str)) (cl : List (Str × Addr)) (q : Str) (d : LamD) : TE := fun σ H Q => Tabs T H ∧ ∀ (H1 : Hp) (f c' : Addr), ExtN H H1 → Tabs T H1 → LamAt cl q H1 d f c' → Q (.ref f) H1
theorem pe_lamV {T : List (Addr × Str)} {c P : Addr} {params : Arguments} {body : Expr} {scope : Scope} {lpos : Pos} (t : XK → TE) (TB : TabB X.base X.mg c P) (hcode : X.env.code = .ref c)
    (hm : (P, X.env.qual ++ "<lambda>") ∈ T) (hu : ∀ p ∈ T, p.1 = P → p.2 = X.env.qual ++ "<lambda>") (L : LamS X.env.scope scope) (hdef : defaultsOf params X.env = ([], [])) :
    PE X (.Lambda params body scope lpos) (tLamV T X.env.cells (X.env.qual ++ "<lambda>") ⟨params, body, scope, t⟩) := by
  refine ⟨fun pins s σ H Q I h => ?_⟩
  obtain ⟨hT, h⟩ := h
  obtain ⟨ps, hP, htr, ha⟩ := hT _ hm
  refine PySem.W.kla_eval hdef ?_
  have bP := TB.bm.keeps I.bk
  have hP2 : s.heap.get? P = some { cls := .none, data := .fields ps } := I.hok P _ hP
  have fin : ∀ (f c' : Addr) (H1 : Hp) (s' : Shared), Inv X pins σ H1 s' → ExtN H H1 → Tabs T H1 → LamAt X.env.cells (X.env.qual ++ "<lambda>") H1 ⟨params, body, scope, t⟩ f c' → ∃ (v : V) (H' : Hp), Inv X pins σ H' s' ∧ L2.RelV v (.ref f) ∧ Q v H' :=
    fun f c' H1 s' I1 e1 t1 l1 => ⟨.ref f, H1, I1, rfl, h H1 f c' e1 t1 l1⟩
  cases hcd : codeAmong lpos ps.toList with
  | none =>
    refine PySem.W.kla_makeFunction (mg := X.mg) (c := c) (P := P) (ps := ps) (closure_ok (L.has I.ok)) I.ok.glob (I.mod.glob.keeps I.bk) hcode (TB.code.keeps I.bk) hP2 htr hcd TB.gP bP fun c' ctv h' tk hx hge hlt hrec htb => ?_
    obtain ⟨c2, oc, vs, tok, e2, hoc, hd, hv⟩ := hrec
    cases e2
    have nC : H c' = none := I.hok.fresh hge
    have I1 := inv_table (t' := s.toks) (more := #[rawInt lpos.line, rawInt lpos.col, .ref c']) (h' := h') I hP (fun b o hb e => hx b o hb e) htb hge ⟨oc, vs, tok, hoc, hd, hv⟩
    have I2 := lam_track (tk := tk) (d := ⟨params, body, scope, t⟩) (c' := c') (pm := (X.mg "__name__").getD .none) (ctv := ctv) (q := X.env.qual ++ "<lambda>") (cl := X.env.cells) I1 rfl
    have hE : ExtN H (upd (upd H P (.tbl (ps ++ #[rawInt lpos.line, rawInt lpos.col, .ref c']))) c' (CodeO c' (X.env.qual ++ "<lambda>"))) := fun b o e n => by
      have b1 := ne_of_none e nC
      have b2 : b ≠ P := fun z => n ps (by rw [z, hP] at e; exact (Option.some.inj e).symm)
      rw [upd_ne b1, upd_ne b2, e]
    have eL : (ps ++ #[rawInt lpos.line, rawInt lpos.col, .ref c']).toList = ps.toList ++ [rawInt lpos.line, rawInt lpos.col, .ref c'] := by simp
    have nF : (upd (upd H P (.tbl (ps ++ #[rawInt lpos.line, rawInt lpos.col, .ref c']))) c' (CodeO c' (X.env.qual ++ "<lambda>"))) h'.objs.size = none := I1.hok.fresh (Nat.le_refl _)
    have T1 : Tabs T (upd (upd H P (.tbl (ps ++ #[rawInt lpos.line, rawInt lpos.col, .ref c']))) c' (CodeO c' (X.env.qual ++ "<lambda>"))) := fun p hp => by
      by_cases hb : p.1 = P
      · have hq := hu p hp hb
        rw [hq, hb]
        refine ⟨_, (upd_ne (ne_of_none hP nC)).trans upd_same, eL ▸ PySem.TriplesOk_snoc _ _ _ _ htr, fun p' cv hcv => ?_⟩
        rw [eL] at hcv
        rcases among_app _ htr hcv with z | z
        · obtain ⟨c0, w1, w2⟩ := ha p' cv z
          exact ⟨c0, w1, hE _ _ w2 codeO_ne⟩
        · exact ⟨c', z, upd_same⟩
      · obtain ⟨ps', a1, a2, a3⟩ := hT p hp
        refine ⟨ps', ((upd_ne (ne_of_none a1 nC)).trans (upd_ne hb)).trans a1, a2, fun p' cv hcv => ?_⟩
        obtain ⟨c0, w1, w2⟩ := a3 p' cv hcv
        exact ⟨c0, w1, hE _ _ w2 codeO_ne⟩
    have sm : ∀ b o, (upd (upd H P (.tbl (ps ++ #[rawInt lpos.line, rawInt lpos.col, .ref c']))) c' (CodeO c' (X.env.qual ++ "<lambda>"))) b = some o → (upd (upd (upd H P (.tbl (ps ++ #[rawInt lpos.line, rawInt lpos.col, .ref c']))) c' (CodeO c' (X.env.qual ++ "<lambda>"))) h'.objs.size (LamO X.env.cells (X.env.qual ++ "<lambda>") ⟨params, body, scope, t⟩ h'.objs.size c')) b = some o :=
      fun b o e => (upd_ne (ne_of_none e nF)).trans e
    exact fin _ c' _ _ I2 (hE.trans (ExtN.of sm)) (T1.ext sm) ⟨upd_same, sm _ _ upd_same⟩
  | some cv =>
    obtain ⟨c', e, hco⟩ := ha lpos cv hcd
    subst e
    refine PySem.W.kla_makeFunctionHit (mg := X.mg) (c := c) (P := P) (ps := ps) (closure_ok (L.has I.ok)) I.ok.glob (I.mod.glob.keeps I.bk) hcode (TB.code.keeps I.bk) hP2 htr hcd bP fun ctv h' tk hx hsz => ?_
    have I1 : Inv X pins σ H { s with heap := h', toks := s.toks } := I.kept hx
    have I2 := lam_track (tk := tk) (d := ⟨params, body, scope, t⟩) (c' := c') (pm := (X.mg "__name__").getD .none) (ctv := ctv) (q := X.env.qual ++ "<lambda>") (cl := X.env.cells) I1 rfl
    have nF : H h'.objs.size = none := I1.hok.fresh (Nat.le_refl _)
    have sm : ∀ b o, H b = some o → (upd H h'.objs.size (LamO X.env.cells (X.env.qual ++ "<lambda>") ⟨params, body, scope, t⟩ h'.objs.size c')) b = some o := fun b o e => (upd_ne (ne_of_none e nF)).trans e
    exact fin _ c' _ _ I2 (ExtN.of sm) (hT.ext sm) ⟨upd_same, sm _ _ hco⟩
/-- what is asked of a lambda that is called -/
structure LamOk (X : Cx) (k : Nat) (d : LamD) : Prop where
  L : LamS X.env.scope d.scope
  bind : ∀ (q : Str) (cl : List (Str × Addr)) (pm cv ctv : Value), bindArgs (PySem.W.kla_fn "<lambda>" q d.params d.body d.scope cl pm cv ctv) ⟨[], []⟩ = pure []
  body : ∀ (A : Around) (outer : List Env) (s : Shared) (H : Hp) (E : XK) (f c' : Addr), Room k (A.deeper (lamEnv X d.scope s.heap.objs.size f c')) → PE (lamCx X A outer s H E d.scope f c') d.body (d.t E)
/-- x() in the def that got it, the function object told -/
theorem pe_actV {CXg : CXT} {Eg : XK} {Ng : List Str} {qg : Str} {sg : Scope} {g f c' : Addr} {cdg : Value} {k i : Nat} {a : Str} {pn : List (Addr × Obj)} {xe : Value → Shared → Prop} {W : WX} {E : XK} {d : LamD} {p1 p2 : Pos}
    (I : Inv X pins σ H s) (D : LamOk X k d) (tk : Takes ((cxOf CXg X.prog X.w X.K X.mg X.base Ng qg sg g cdg X.A X.stack s H Eg).tr pn xe) W) (hW : ∀ cls dd σ' H', E cls dd H' → W cls dd σ' H')
    (hr : Room (k + 1) (X.A.deeper (envOfC qg sg s.heap.objs.size g cdg))) (hN : Ng[i]? = some a) (hv : Vis sg a) (hd : (a == ("__debug__" : Str)) = false := by decide) (hcd : (a == ("__classdict__" : Str)) = false := by decide) :
    PE ((cxOf CXg X.prog X.w X.K X.mg X.base Ng qg sg g cdg X.A X.stack s H Eg).tr pn xe) (.Call (.Name a p1) [] [] p2)
      (fun σZ HZ Q => σZ[i]? = some (some (.ref f)) ∧ HZ c' = some (CodeO c' (X.env.qual ++ "<lambda>")) ∧ HZ f = some (LamO X.env.cells (X.env.qual ++ "<lambda>") d f c') ∧ d.t E σ HZ Q) := by
  refine ⟨fun pinsZ sZ σZ HZ Q IZ h => ?_⟩
  obtain ⟨hs, hc, hf, ht⟩ := h
  refine wpAny_Call_Name_kw (thn ((pe_var (pos := p1) (i := i) hN hv hd hcd).run pinsZ sZ σZ HZ (fun v H1 => v = .ref f ∧ H1 = HZ) IZ ⟨.ref f, hs, rfl, rfl⟩) fun u s1 ⟨v, H1, I1, r1, q1⟩ => ?_)
  obtain ⟨rfl, eH⟩ := q1
  rw [eH] at I1
  obtain rfl : u = Value.ref f := r1
  obtain ⟨⟨pm, ctv, of1⟩, _, _⟩ := I1.hok f _ hf
  refine PySem.W.callWith_F0 ⟨_, _, _, _, of1⟩ ?_
  have un : Un (frs X.stack) [] H HZ s.heap s1.heap := I1.base
  obtain ⟨⟨oc, vs, tok, hoc, hdc, hvc⟩, _, _⟩ := I1.hok c' _ hc
  have rc : codeAny (model X.prog X.w) (X.A.deeper (envOfC qg sg s.heap.objs.size g cdg)) (.call (.ref f) ⟨[], []⟩) (CR (L2.CX X.prog X.w) (envOfC qg sg s.heap.objs.size g cdg :: X.stack) X.prog X.w HZ s1 Q E) s1 := by
    refine PySem.W.kla_callFunE hr.depth of1 rfl D.L.co D.L.gen rfl ⟨c', oc, vs, tok, rfl, hoc, hdc, hvc⟩ ?_
    rw [D.bind]
    refine wpAny_pure (wpAny_newFunctionEnv (fun y hy => (D.L.own y hy).2) (fun y hy => absurd hy (by simp)) (fun h₁ hns hsb => ⟨I1.nolimit.fresh _ hsb, ?_⟩) D.L.kind)
    show codeAny _ _ (.expr d.body (lamEnv X d.scope s1.heap.objs.size f c')) _ _
    have kp2 : ∀ b o, s1.heap.get? b = some o → h₁.get? b = some o := fun b o e => hsb.extBut b o (Nat.ne_of_lt (Heap.lt_size e)) (Heap.get?_push_of_some _ e)
    have J : Inv (lamCx X (X.A.deeper (envOfC qg sg s.heap.objs.size g cdg)) (envOfC qg sg s.heap.objs.size g cdg :: X.stack) s1 HZ E d.scope f c') [] σ HZ { s1 with heap := h₁, toks := s1.toks + ([] : List (Str × Value)).length } := lam_start2 I D.L I1.env0 hr.hd un hns kp2
    refine PySem.W.kla_codeExpr (wpAny_mono ((D.body _ _ s1 HZ E f c' (hr.deeper _)).run [] _ _ HZ Q J ht) (fun v s' ⟨w', H', J', rv, q⟩ => ⟨w', H', J'.os, J'.bare, J'.base, J'.hok, rv, q⟩) fun e s' hq => hq)
  have hx : Passes (L2.CX X.prog X.w) ((cxOf CXg X.prog X.w X.K X.mg X.base Ng qg sg g cdg X.A X.stack s H Eg).tr pn xe) E := passes_call tk hW
  refine wpAny_call (codeAny_mono rc fun r s' hq => ?_)
  rcases r with e | (_ | _ | _ | u)
  · exact hx pinsZ σZ HZ s1 e s' I1 hq
  · exact False.elim hq
  · exact False.elim hq
  · exact False.elim hq
  · exact I1.after hq
def tLamCall (cl : List (Str × Addr)) (q : Str) (TT : (XK → Hp → VK → Prop) → Hp → VK → Prop) (ds : List LamD) (te : TE) : TE := fun σ H Q => te σ H fun v H1 => ∃ (f c' : Addr) (d : LamD), d ∈ ds ∧ v = .ref f ∧ LamAt cl q H1 d f c' ∧
  TT (fun E H' Q' => H' f = some (LamO cl q d f c') ∧ d.t E σ H' Q') H1 Q
/-- x(y), where y is one of some lambdas -/
theorem pe_lamval {ds : List LamD} {te : TE} {TT : (XK → Hp → VK → Prop) → Hp → VK → Prop} {x a y : Str} {g : Addr} {k : Nat} {pg : Arguments} {bg : List Stmt} {sg : Scope} {dV kV doc pm cdv ct oc : Value} {an od : Option Addr} {osl : Array (Option Value)} {Ng : List Str} {p py pos : Pos}
    (hg : Gl X x) (hm : X.mg x = some (.ref g)) (hk : PySem.W.keepIn X.K (.ref g) = true) (lk : X.K.lookup g = some ⟨oc, od, .func (PySem.W.fnOf x x pg bg sg dV kV doc pm an cdv ct), osl⟩) (hcg : PySem.W.codeIn X.K cdv x = true)
    (hb : L2.Binds X.K (PySem.W.fnOf x x pg bg sg dV kV doc pm an cdv ct) [a] []) (Sg : FnScope Ng [a] sg) (hNg : Ng[0]? = some a) (hva : Vis sg a) (hG : GivesTo X Ng x sg g cdv bg a (X.env.qual ++ "<lambda>") TT) (hr : Room (k + 2) X.A)
    (hds : ∀ d ∈ ds, LamOk X k d) (he : PE X (.Name y py) te) (hdb : (x == ("__debug__" : Str)) = false := by decide) (hd : (a == ("__debug__" : Str)) = false := by decide) (hcd : (a == ("__classdict__" : Str)) = false := by decide) :
    PE X (.Call (.Name x p) [.Name y py] [] pos) (tLamCall X.env.cells (X.env.qual ++ "<lambda>") TT ds te) := by
  refine ⟨fun pins s σ H Q I h => ?_⟩
  refine wpAny_Call_Name_kw (ld_glob I hg hm ?_ hdb)
  refine PySem.W.callWith_K (h₀ := X.base) I.ok.mod.kin hk ?_ (by rfl) (by rfl)
  show wpAny _ _ (spliced ((false, eval (.Name y py) X.env) :: backTo pos (starEach [] X.env))) _ _ s
  refine Calls.spliced_cons (thn (he.run pins s σ H _ I h) fun u s' ⟨v, H1, I1, rv, hq⟩ => ?_)
  obtain ⟨f, c', d, hmem, rfl, la, htt⟩ := hq
  obtain rfl : u = Value.ref f := rv
  refine Calls.spliced_nil ⟨I1.kIn, ?_⟩
  have rc : codeAny (model X.prog X.w) X.A (.call (.ref g) ⟨[.ref f], []⟩) (CR C8.CX0 X.stack X.prog X.w H1 s' Q C8.E0) s' := by
    refine run_ofS (N := Ng) (ps := [a]) (us := [.ref f]) (vs := [.ref f]) lk hcg Sg hr I1.env0 (hb s' [.ref f] I1.kIn rfl) (.cons rfl .nil) rfl fun hr2 => ?_
    obtain ⟨t', ht', hq'⟩ := hG f c' s' H1 Q (fun E H' Q' => H' f = some (LamO X.env.cells (X.env.qual ++ "<lambda>") d f c') ∧ d.t E σ H' Q') (fun W pn xe E p1 p2 tk hW => pe_actV (i := 0) I1 (hds d hmem) tk hW hr2 hNg hva hd hcd) la.co htt
    exact ⟨t', ht'.nox, hq'⟩
  refine wpAny_call (codeAny_mono rc fun r s2 hq => ?_)
  rcases r with e | (_ | _ | _ | u)
  · exact (show False from hq).elim
  · exact False.elim hq
  · exact False.elim hq
  · exact False.elim hq
  · exact I1.after hq
end
/-! ### a list of pairs of a lambda and a text -/
def tPairs (T : List (Addr × Str)) (cl : List (Str × Addr)) (q : Str) : List (LamD × Str) → TA
  | [] => tNil
  | (d, w) :: r => tCons (tTup (tCons (tLamV T cl q d) (tCons (tC (.str w)) tNil))) (tPairs T cl q r)
def Prs (cl : List (Str × Addr)) (q : Str) (H : Hp) : List Addr → List (LamD × Str) → Prop
  | [], [] => True
  | t :: ts, (d, w) :: r => (∃ f c' : Addr, H t = some (.tup [.ref f, .str w]) ∧ LamAt cl q H d f c') ∧ Prs cl q H ts r
  | _, _ => False
theorem Prs.kp {cl : List (Str × Addr)} {q : Str} {H H' : Hp} (k : Kp H H') : ∀ {ts : List Addr} {ds : List (LamD × Str)}, Prs cl q H ts ds → Prs cl q H' ts ds
  | [], [], _ => True.intro
  | t :: ts, (d, w) :: r, h => by
    obtain ⟨⟨f, c', h1, h2⟩, h3⟩ := h
    exact ⟨⟨f, c', k.tup _ _ h1, h2.kp k⟩, h3.kp k⟩
  | [], _ :: _, h => h.elim
  | _ :: _, [], h => h.elim
theorem Prs.at {cl : List (Str × Addr)} {q : Str} {H : Hp} : ∀ {ts : List Addr} {ds : List (LamD × Str)}, Prs cl q H ts ds → ts.length = ds.length ∧ ∀ (i : Nat) (d : LamD) (w : Str), ds[i]? = some (d, w) → ∃ t f c' : Addr, ts[i]? = some t ∧ H t = some (.tup [.ref f, .str w]) ∧ LamAt cl q H d f c'
  | [], [], _ => ⟨rfl, fun i d w e => by cases e⟩
  | t :: ts, (d, w) :: r, h => by
    obtain ⟨⟨f, c', h1, h2⟩, h3⟩ := h
    have z := h3.at
    refine ⟨by simp [z.1], fun i d' w' e => ?_⟩
    cases i with
    | zero =>
      cases e
      exact ⟨t, f, c', rfl, h1, h2⟩
    | succ j => exact z.2 j d' w' e
  | [], _ :: _, h => h.elim
  | _ :: _, [], h => h.elim
theorem pairs_of {T : List (Addr × Str)} {cl : List (Str × Addr)} {q : Str} {σ : L2.St} : ∀ (ds : List (LamD × Str)) {H : Hp} {Q : List V → Hp → Prop}, Tabs T H → (∀ (H1 : Hp) (ts : List Addr), ExtN H H1 → Tabs T H1 → Prs cl q H1 ts ds → Q (ts.map V.ref) H1) → tPairs T cl q ds σ H Q
  | [], H, Q, hT, h => h H [] (ExtN.refl H) hT True.intro
  | (d, w) :: r, H, Q, hT, h => by
    refine ⟨hT, fun H1 f c' e1 T1 la => ⟨(by show 2 ≤ sizeLine; decide), fun t nt => ?_⟩⟩
    have sm : ∀ b o, H1 b = some o → (upd H1 t (.tup [.ref f, .str w])) b = some o := fun b o e => (upd_ne (ne_of_none e nt)).trans e
    refine pairs_of r (T1.ext sm) fun H3 ts e3 T3 pr => h H3 (t :: ts) (e1.trans ((ExtN.of sm).trans e3)) T3 ⟨⟨f, c', e3 _ _ upd_same (fun _ z => by cases z), (la.kp (Kp.of sm)).kp (Kp.ofN e3)⟩, pr⟩
end Ux

set_option Elab.async false
set_option linter.all false
set_option maxRecDepth 100000
set_option maxHeartbeats 4000000
/-! A lambda with one parameter that has a default, held as a value and called without arguments. -/
namespace Ux
open PySem PySem.Spec PySem.Calls PyProof.Rows L2 LamX PySem.W
/-- the function object of a lambda whose defaults stand in a tuple -/
abbrev ldFn (q : Str) (params : Arguments) (body : Expr) (scope : Scope) (cl : List (Str × Addr)) (pm cdv ct dV : Value) : FuncData := { PySem.W.kla_fn "<lambda>" q params body scope cl pm cdv ct with defaults := dV }
abbrev ldObj (q : Str) (params : Arguments) (body : Expr) (scope : Scope) (cl : List (Str × Addr)) (pm : Value) (cv : Value) (ct dV : Value) : Obj := { cls := .type "function", data := .func (ldFn q params body scope cl pm cv ct dV) }
section
variable {M : Model} {A : Around} {E : Value → Shared → Prop} {s : Shared} {q : Str} {params : Arguments} {body : Expr} {scope : Scope} {env : Env} {c P : Addr} {ps : Array Value} {pos : Pos} {fl : Nat} {mg : Str → Option Value} {clos : List (Str × Addr)} {Q : Value → Shared → Prop} {dV : Value}
theorem ld_miss (hcl : closureFor scope env = pure clos) (hge : env.globals = mainGlobals) (hg : s.heap.Ns mainGlobals mg) (hcode : env.code = .ref c) (C : CodeHd s.heap c P) (hP : s.heap.get? P = some (tabObj ps)) (ht : TriplesOk ps.toList) (hnf : codeAmong pos ps.toList = none) (hgP : mainGlobals ≠ P) (hb : s.heap.BuiltinsAt mg P)
    (h : ∀ c' ctv h' tk, Heap.ExtBut P s.heap h' → s.heap.objs.size ≤ c' → c' < h'.objs.size → h'.CodeRec (.ref c') q → h'.get? P = some (tabObj (ps ++ #[rawInt pos.line, rawInt pos.col, .ref c'])) → Q (.ref h'.objs.size) { s with heap := h'.push (ldObj q params body scope clos ((mg "__name__").getD .none) (.ref c') ctv dV), toks := tk }) :
    wpAny M A (makeTail "<lambda>" q params (.expr body) scope env dV .none none pos fl) Q E s := by
  obtain ⟨bm, ob, b1, b2, _, b4, b5, b6, b7, b8⟩ := hb
  unfold makeTail; rw [hcl, hge]; refine wpAny_bind (wpAny_pure ?_)
  cases clos with
  | nil =>
    simp only [List.isEmpty_nil, if_true]; refine wpAny_bind (wpAny_pure ?_)
    refine wpAny_bind (wpAny_functionCodeX hcode (C.code hP ht) (C.tab hP) hnf fun c' h' tk hx hge' hlt _ hrec htb _ => ?_); have hg' := hg.extBut hx hgP
    refine wpAny_bind (wpAny_builtinsFor hg' b1 b2 (hx _ _ b4 b5) b6 b7 b8 (wpAny_bind (wpAny_nsGet hg' (wpAny_bind (wpAny_pure (wpAny_newObj_type (h c' .none h' tk hx hge' hlt hrec htb.2) (by size_fits)))))))
  | cons z r =>
    simp only [List.isEmpty_cons, Bool.false_eq_true, if_false]; refine wpAny_bind (wpAny_newTextTuple ?_)
    refine wpAny_bind (wpAny_functionCodeX hcode ((C.keeps fun b o e => Heap.get?_push_of_some _ e).code (Heap.get?_push_of_some _ hP) ht) ((C.keeps fun b o e => Heap.get?_push_of_some _ e).tab (Heap.get?_push_of_some _ hP)) hnf fun c' h' tk hx hge' hlt _ hrec htb _ => ?_); have hg' := (hg.push _).extBut hx hgP
    have hx2 : Heap.ExtBut P s.heap h' := fun b o n e => hx b o n (Heap.get?_push_of_some _ e); have hge2 : s.heap.objs.size ≤ c' := Nat.le_trans (by rw [Heap.size_push]; omega) hge'
    refine wpAny_bind (wpAny_builtinsFor hg' b1 b2 (hx2 _ _ b4 b5) b6 b7 b8 (wpAny_bind (wpAny_nsGet hg' (wpAny_bind (wpAny_pure (wpAny_newObj_type (h c' _ h' tk hx2 hge2 hlt hrec htb.2) (by size_fits)))))))
theorem ld_hit {cv : Value} (hcl : closureFor scope env = pure clos) (hge : env.globals = mainGlobals) (hg : s.heap.Ns mainGlobals mg) (hcode : env.code = .ref c) (C : CodeHd s.heap c P) (hP : s.heap.get? P = some (tabObj ps)) (ht : TriplesOk ps.toList) (hf : codeAmong pos ps.toList = some cv) (hb : s.heap.BuiltinsAt mg P)
    (h : ∀ (ctv : Value) (h' : Heap) (tk : Tok), (∀ b o, s.heap.get? b = some o → h'.get? b = some o) → s.heap.objs.size ≤ h'.objs.size → Q (.ref h'.objs.size) { s with heap := h'.push (ldObj q params body scope clos ((mg "__name__").getD .none) cv ctv dV), toks := tk }) :
    wpAny M A (makeTail "<lambda>" q params (.expr body) scope env dV .none none pos fl) Q E s := by
  obtain ⟨bm, ob, b1, b2, _, b4, b5, b6, b7, b8⟩ := hb
  unfold makeTail; rw [hcl, hge]; refine wpAny_bind (wpAny_pure ?_)
  cases clos with
  | nil =>
    simp only [List.isEmpty_nil, if_true]; refine wpAny_bind (wpAny_pure (wpAny_bind (wpAny_functionCode_hit hcode (C.code hP ht) hf ?_)))
    refine wpAny_bind (wpAny_builtinsFor hg b1 b2 b5 b6 b7 b8 (wpAny_bind (wpAny_nsGet hg (wpAny_bind (wpAny_pure (wpAny_newObj_type (h .none s.heap s.toks (fun _ _ e => e) (Nat.le_refl _)) (by size_fits)))))))
  | cons z r =>
    simp only [List.isEmpty_cons, Bool.false_eq_true, if_false]; refine wpAny_bind (wpAny_newTextTuple ?_)
    refine wpAny_bind (wpAny_functionCode_hit hcode ((C.keeps fun b o e => Heap.get?_push_of_some _ e).code (Heap.get?_push_of_some _ hP) ht) hf ?_)
    have sz : ∀ oT : Obj, s.heap.objs.size ≤ (s.heap.push oT).objs.size := fun oT => by rw [Heap.size_push]; omega
    refine wpAny_bind (wpAny_builtinsFor (hg.push _) b1 b2 (Heap.get?_push_of_some _ b5) b6 b7 b8 (wpAny_bind (wpAny_nsGet (hg.push _) (wpAny_bind (wpAny_pure (wpAny_newObj_type (h _ _ s.toks (fun b o e => Heap.get?_push_of_some _ e) (sz _)) (by size_fits)))))))
/-- the expression: the default first, then its tuple, then the function -/
theorem ld_eval {x : Sem Value} (hdef : defaultsOf params env = ([x], [])) (hk : params.kwonlyargs = [])
    (h : wpAny M A x (fun v s1 => wpAny M A (makeTail "<lambda>" (env.qual ++ "<lambda>") params (.expr body) scope env (.ref s1.heap.objs.size) .none none pos pos.line) Q E { s1 with heap := s1.heap.push { cls := .type "tuple", data := .seq #[v] } }) E s) :
    wpAny M A (eval (.Lambda params body scope pos) env) Q E s := by
  rw [arm_eval_Lambda, hdef]
  show wpAny M A (do let dv ← evalAll [x]; let kdv ← holding dv (evalAllOpt []); makeFunction "<lambda>" (env.qual ++ "<lambda>") params (.expr body) scope env dv kdv [] pos pos.line) Q E s
  refine wpAny_bind ?_
  show wpAny M A (do let v ← x; return v :: (← holding [v] (evalAll []))) _ E s
  refine wpAny_bind (wpAny_mono h (fun v s1 hv => ?_) fun e s1 he => he)
  refine wpAny_bind (wpAny_holding (wpAny_pure (wpAny_pure (wpAny_bind (wpAny_holding (wpAny_pure ?_))))))
  rw [makeFunction_eq, hk]
  simp only [List.zip_nil_left, List.filterMap_nil, List.isEmpty_nil, List.isEmpty_cons, if_true, pure_bind, Bool.false_eq_true, if_false]
  exact wpAny_bind (wpAny_newTextTuple hv)
end
end Ux

set_option Elab.async false
set_option linter.all false
set_option maxRecDepth 100000
set_option maxHeartbeats 4000000
namespace Ux
open PySem PySem.Spec PyProof.Rows L2 LamX
/-- a lambda with one parameter x, its default dv -/
structure LamE where
  params : Arguments
  body : Expr
  scope : Scope
  t : XK → TE
  x : Str
  dv : V
def LamOE (cl : List (Str × Addr)) (q : Str) (d : LamE) (f c' T : Addr) : HO := .ext fun h => ∃ pm ctv : Value, h.get? f = some (ldObj q d.params d.body d.scope (cloFrom cl d.scope.names []) pm (.ref c') ctv (.ref T))
structure LamAtE (cl : List (Str × Addr)) (q : Str) (H : Hp) (d : LamE) (f c' T : Addr) : Prop where
  fn : H f = some (LamOE cl q d f c' T)
  co : H c' = some (CodeO c' q)
  df : H T = some (.tup [d.dv])
theorem LamAtE.kp {cl : List (Str × Addr)} {q : Str} {H H' : Hp} {d : LamE} {f c' T : Addr} (l : LamAtE cl q H d f c' T) (k : Kp H H') : LamAtE cl q H' d f c' T := ⟨k.ext _ _ l.fn, k.ext _ _ l.co, k.tup _ _ l.df⟩
/-- its names: one parameter that is no name of the frame around it, captured ones, globals -/
structure LamSE (N : List Str) (sc scope : Scope) (x : Str) : Prop where
  kind : scope.kind = .function
  co : scope.isCoroutine = false
  gen : scope.isGenerator = false
  own : ∀ y ∈ scope.names, y.2 ≠ .cell ∧ (y.2 = .local → y.1 ∉ N)
  par : scope.names.lookup x = some .local
  free : ∀ y ∈ scope.names, y.2 = .free → sc.names.lookup y.1 = some .cell ∨ sc.names.lookup y.1 = some .free
def lamSEB (N : List Str) (sc scope : Scope) (x : Str) : Bool :=
  decide (scope.kind = .function) && (!scope.isCoroutine && (!scope.isGenerator && (decide (scope.names.lookup x = some .local) && scope.names.all fun y => !decide (y.2 = .cell) && ((!decide (y.2 = .local) || !decide (y.1 ∈ N)) && (!decide (y.2 = .free) || (decide (sc.names.lookup y.1 = some .cell) || decide (sc.names.lookup y.1 = some .free)))))))
theorem lamSE_by {N : List Str} {sc scope : Scope} {x : Str} (h : lamSEB N sc scope x = true) : LamSE N sc scope x := by
  unfold lamSEB at h
  simp only [Bool.and_eq_true, Bool.or_eq_true, Bool.not_eq_true', decide_eq_true_eq, decide_eq_false_iff_not, List.all_eq_true] at h
  obtain ⟨h1, h2, h3, h5, h4⟩ := h
  refine ⟨h1, h2, h3, fun y hy => ⟨(h4 y hy).1, fun e => ((h4 y hy).2.1).elim (fun z => absurd e z) id⟩, h5, fun y hy e => ?_⟩
  rcases (h4 y hy).2.2 with z | z | z
  · exact absurd e z
  · exact .inl z
  · exact .inr z
section
variable {X : Cx} {pins : List (Addr × Obj)} {σ : L2.St} {H HZ : Hp} {s s1 : Shared}
theorem LamSE.has {scope : Scope} {x : Str} (L : LamSE X.N X.env.scope scope x) (ok : X.Ok) : ∀ y ∈ scope.names, y.2 = .free → ∃ c, X.env.cells.lookup y.1 = some c := fun y hy e => (L.free y hy e).elim (fun k => ok.has _ (.inl k)) fun k => ok.has _ (.inr k)
theorem lam_startE {A : Around} {outer : List Env} {E : XK} {scope : Scope} {x : Str} {f c' : Addr} {h₁ : Heap} {tk : Nat} {m1 : Str → Option Value} (I : Inv X pins σ H s) (L : LamSE X.N X.env.scope scope x) (e0 : Env0 X.prog X.w X.K X.mg X.base A outer s1 HZ) (hd : A.handled = none)
    (un : Un (frs X.stack) [] H HZ s.heap s1.heap) (hns : h₁.Ns s1.heap.objs.size m1) (kp : ∀ b o, s1.heap.get? b = some o → h₁.get? b = some o) :
    Inv (lamCx X A outer s1 HZ E scope f c') [] σ HZ { s1 with heap := h₁, toks := tk } := by
  have hfree := L.has I.ok
  have cm : ∀ {y c}, (cloFrom X.env.cells scope.names []).lookup y = some c → X.env.cells.lookup y = some c := fun {y c} e => by
    rcases cloFrom_mem (PySem.mem_of_lookup e) with hm | ⟨h1, h2⟩
    · cases hm
    · obtain ⟨c1, hc⟩ := hfree _ h1 rfl
      replace hc : X.env.cells.lookup y = some c1 := hc
      have e2 : c = c1 := by rw [h2, hc] <;> rfl
      exact e2 ▸ hc
  have look : ∀ {y}, scope.names.lookup y = some .free → ∃ c, (cloFrom X.env.cells scope.names []).lookup y = some c := fun {y} hl => by
    have hy : (y, NameKind.free) ∈ scope.names := PySem.mem_of_lookup hl; exact mem_lookup (cloFrom_has (cells := X.env.cells) (acc := []) hy)
  have cellK : ∀ {c : Addr} {v : Option Value}, H c = none → s.heap.IsCell c v → h₁.IsCell c v := fun {c v} n ⟨o, ho, hd⟩ => by
    obtain ⟨sl, q⟩ := un.any ho n (by simp); exact ⟨_, kp _ _ q, hd⟩
  have noA : ∀ b : Addr, b ∉ (lamCx X A outer s1 HZ E scope f c').ex := fun b z => absurd (show b ∈ ([] : List Addr) from z) (by simp)
  refine ⟨⟨e0.mod, L.kind, rfl, rfl, Nat.le_refl _, fun y z c e1 e2 => I.ok.inj y z c (cm e1) (cm e2), fun y hy => ?_, fun y c z _ => ?_, fun _ => hd, Around.frames_deeper e0.frames, .inr ⟨rfl, rfl⟩, fun b z => absurd z (noA b), e0.bs, e0.bsz, fun b _ _ => noA b, fun b z => absurd z (noA b), e0.funs, e0.frf⟩,
    rfl, e0.bare, Un.kept kp, ⟨_, hns, fun i y v e1 e2 e3 => ?_⟩, fun y c e => ?_, e0.hok.fresh (Nat.le_refl _), fun y c e => ?_, fun q hq => absurd (show q ∈ ([] : List (Addr × Obj)) ++ [] from hq) (by simp), e0.hok.kept kp, I.len⟩
  · replace hy : scope.names.lookup y = some .cell ∨ scope.names.lookup y = some .free := hy
    exact hy.elim (fun hy => absurd rfl (L.own _ (PySem.mem_of_lookup hy)).1) look
  · cases (show false = true from z)
  · replace e3 : Vis scope y := e3
    rcases e3 with k | k | k
    · exact absurd (List.mem_of_getElem? (show X.N[i]? = some y from e1)) ((L.own _ (PySem.mem_of_lookup k)).2 rfl)
    · exact absurd rfl (L.own _ (PySem.mem_of_lookup k)).1
    · obtain ⟨m, hn, hl⟩ := I.loc
      obtain ⟨w', r, q⟩ := hl i y v e1 e2 ((L.free _ (PySem.mem_of_lookup k) rfl).elim (fun k => .inr (.inl k)) fun k => .inr (.inr k))
      obtain ⟨c2, h2⟩ := look k
      have c1 := cm h2
      refine ⟨w', r, .inr ⟨.inr k, c2, h2, ?_⟩⟩
      rcases q with ⟨k', _⟩ | ⟨_, c3, e', z⟩
      · replace k' : X.env.scope.names.lookup y = some .local := k'
        rcases L.free _ (PySem.mem_of_lookup k) rfl with k2 | k2 <;> rw [show X.env.scope.names.lookup y = _ from k2] at k' <;> cases k'
      · rw [c1] at e'
        cases e'
        exact cellK (I.freeC y _ c1) z
  · obtain ⟨w', z⟩ := I.cell y c (cm e); exact ⟨w', cellK (I.freeC y c (cm e)) z⟩
  · obtain ⟨v, o, ho, hd⟩ := I.cell y c (cm e); exact un.free c o ho (I.freeC y c (cm e)) (by simp)
end
end Ux

set_option Elab.async false
set_option linter.all false
set_option maxRecDepth 100000
set_option maxHeartbeats 4000000
namespace Ux
open PySem PySem.Spec PyProof.Rows L2 LamX
theorem lamOE_ne {cl : List (Str × Addr)} {q : Str} {d : LamE} {f c' T : Addr} (ps : Array Value) : LamOE cl q d f c' T ≠ .tbl ps := fun z => by
  unfold LamOE at z
  cases z
section
variable {X : Cx} {pins : List (Addr × Obj)} {σ : L2.St} {H : Hp} {s : Shared}
theorem lam_trackE {h' : Heap} {tk : Nat} {d : LamE} {c' T : Addr} {pm ctv : Value} {q : Str} {cl : List (Str × Addr)} {s1 : Shared} (I : Inv X pins σ H s1) (ho : s1.heap = h') :
    Inv X pins σ (upd H h'.objs.size (LamOE cl q d h'.objs.size c' T)) { s1 with heap := h'.push (ldObj q d.params d.body d.scope (cloFrom cl d.scope.names []) pm (.ref c') ctv (.ref T)), toks := tk } := by
  subst ho
  exact I.laid (fun b u e => Heap.get?_push_of_some _ e) (Nat.le_refl _) ⟨⟨pm, ctv, Heap.get?_push_size _ rfl⟩, ⟨_, Heap.get?_push_size _ rfl⟩, fun h1 h2 ⟨p, v, e⟩ st => ⟨p, v, st _ e⟩⟩
def tLamVE (Tb : List (Addr × Str)) (cl : List (Str × Addr)) (q : Str) (d : LamE) : TE := fun σ H Q => Tabs Tb H ∧ ∀ (H1 : Hp) (f c' T : Addr), ExtN H H1 → Tabs Tb H1 → LamAtE cl q H1 d f c' T → Q (.ref f) H1
/-- lambda x = e: body, where e is plain -/
theorem pe_lamVE {Tb : List (Addr × Str)} {c P : Addr} {params : Arguments} {body e : Expr} {scope : Scope} {lpos : Pos} {dv : V} (t : XK → TE) (x : Str) (TB : TabB X.base X.mg c P) (hcode : X.env.code = .ref c)
    (hm : (P, X.env.qual ++ "<lambda>") ∈ Tb) (hu : ∀ p ∈ Tb, p.1 = P → p.2 = X.env.qual ++ "<lambda>") (L : LamSE X.N X.env.scope scope x) (hdef : defaultsOf params X.env = ([eval e X.env], [])) (hk : params.kwonlyargs = []) (he : PE X e (tC dv)) :
    PE X (.Lambda params body scope lpos) (tLamVE Tb X.env.cells (X.env.qual ++ "<lambda>") ⟨params, body, scope, t, x, dv⟩) := by
  refine ⟨fun pins s0 σ H0 Q I0 h => ?_⟩
  obtain ⟨hT0, h⟩ := h
  refine ld_eval hdef hk (wpAny_mono (he.run pins s0 σ H0 (fun v H1 => v = dv ∧ H1 = H0) I0 ⟨rfl, rfl⟩) (fun u sa hq => ?_) fun e' s' hx => hx)
  obtain ⟨v, Ha, Ia, rv, ev, eH⟩ := hq
  subst ev
  rw [eH] at Ia
  have nT : H0 sa.heap.objs.size = none := Ia.hok.fresh (Nat.le_refl _)
  have I := Ia.laid (a := sa.heap.objs.size) (o := .tup [v]) (h' := sa.heap.push { cls := .type "tuple", data := .seq #[u] }) (t' := sa.toks) (fun b w e => Heap.get?_push_of_some _ e) (Nat.le_refl _)
    ⟨(by show 1 ≤ sizeLine; decide), [u], .cons rv .nil, _, Heap.get?_push_size _ rfl, rfl, 0, rfl⟩
  have sT : ∀ b o, H0 b = some o → (upd H0 sa.heap.objs.size (.tup [v])) b = some o := fun b o e => (upd_ne (ne_of_none e nT)).trans e
  have dT : (upd H0 sa.heap.objs.size (.tup [v])) sa.heap.objs.size = some (.tup [v]) := upd_same
  have hT := hT0.ext sT
  generalize hTT : sa.heap.objs.size = TT at *
  generalize hH : upd H0 TT (.tup [v]) = H at *
  obtain ⟨ps, hP, htr, ha⟩ := hT _ hm
  have bP := TB.bm.keeps I.bk; have hP2 := I.hok P _ hP
  have fin : ∀ (f c' : Addr) (H1 : Hp) (s' : Shared), Inv X pins σ H1 s' → ExtN H H1 → Tabs Tb H1 → LamAtE X.env.cells (X.env.qual ++ "<lambda>") H1 ⟨params, body, scope, t, x, v⟩ f c' TT → ∃ (v : V) (H' : Hp), Inv X pins σ H' s' ∧ L2.RelV v (.ref f) ∧ Q v H' :=
    fun f c' H1 s' I1 e1 t1 l1 => ⟨.ref f, H1, I1, rfl, h H1 f c' TT ((ExtN.of sT).trans e1) t1 l1⟩
  cases hcd : codeAmong lpos ps.toList with
  | none =>
    refine ld_miss (mg := X.mg) (c := c) (P := P) (ps := ps) (closure_ok (L.has I.ok)) I.ok.glob (I.mod.glob.keeps I.bk) hcode (TB.code.keeps I.bk) hP2 htr hcd TB.gP bP fun c' ctv h' tk hx hge hlt hrec htb => ?_
    obtain ⟨c2, oc, vs, tok, e2, hoc, hd, hv⟩ := hrec
    cases e2
    have nC : H c' = none := I.hok.fresh hge; have I1 := inv_table (t' := sa.toks) (more := #[rawInt lpos.line, rawInt lpos.col, .ref c']) (h' := h') I hP (fun b o hb e => hx b o hb e) htb hge ⟨oc, vs, tok, hoc, hd, hv⟩
    have I2 := lam_trackE (tk := tk) (d := ⟨params, body, scope, t, x, v⟩) (c' := c') (T := TT) (pm := (X.mg "__name__").getD .none) (ctv := ctv) (q := X.env.qual ++ "<lambda>") (cl := X.env.cells) I1 rfl
    have hE : ExtN H (upd (upd H P (.tbl (ps ++ #[rawInt lpos.line, rawInt lpos.col, .ref c']))) c' (CodeO c' (X.env.qual ++ "<lambda>"))) := fun b o e n => by
      have b1 := ne_of_none e nC
      have b2 : b ≠ P := fun z => n ps (by rw [z, hP] at e; exact (Option.some.inj e).symm)
      rw [upd_ne b1, upd_ne b2, e]
    have eL : (ps ++ #[rawInt lpos.line, rawInt lpos.col, .ref c']).toList = ps.toList ++ [rawInt lpos.line, rawInt lpos.col, .ref c'] := by simp
    generalize hHc : upd (upd H P (.tbl (ps ++ #[rawInt lpos.line, rawInt lpos.col, .ref c']))) c' (CodeO c' (X.env.qual ++ "<lambda>")) = Hc at *
    have nF : Hc h'.objs.size = none := I1.hok.fresh (Nat.le_refl _)
    have cC : Hc c' = some (CodeO c' (X.env.qual ++ "<lambda>")) := by rw [← hHc]; exact upd_same
    have T1 : Tabs Tb Hc := fun p hp => by
      by_cases hb : p.1 = P
      · rw [hu p hp hb, hb]
        refine ⟨ps ++ #[rawInt lpos.line, rawInt lpos.col, .ref c'], by rw [← hHc]; exact (upd_ne (ne_of_none hP nC)).trans upd_same, eL ▸ PySem.TriplesOk_snoc _ _ _ _ htr, fun p' cv hcv => ?_⟩
        rw [eL] at hcv
        exact (among_app _ htr hcv).elim (fun z => let ⟨c0, w1, w2⟩ := ha p' cv z; ⟨c0, w1, hE _ _ w2 codeO_ne⟩) fun z => ⟨c', z, cC⟩
      · obtain ⟨ps', a1, a2, a3⟩ := hT p hp; refine ⟨ps', by rw [← hHc]; exact ((upd_ne (ne_of_none a1 nC)).trans (upd_ne hb)).trans a1, a2, fun p' cv hcv => ?_⟩
        exact let ⟨c0, w1, w2⟩ := a3 p' cv hcv; ⟨c0, w1, hE _ _ w2 codeO_ne⟩
    have sm : ∀ b o, Hc b = some o → (upd Hc h'.objs.size (LamOE X.env.cells (X.env.qual ++ "<lambda>") ⟨params, body, scope, t, x, v⟩ h'.objs.size c' TT)) b = some o := fun b o e => (upd_ne (ne_of_none e nF)).trans e
    exact fin _ c' _ _ I2 (hE.trans (ExtN.of sm)) (T1.ext sm) ⟨upd_same, sm _ _ cC, sm _ _ (hE _ _ dT fun _ z => by cases z)⟩
  | some cv =>
    obtain ⟨c', e, hco⟩ := ha lpos cv hcd
    subst e
    refine ld_hit (mg := X.mg) (c := c) (P := P) (ps := ps) (closure_ok (L.has I.ok)) I.ok.glob (I.mod.glob.keeps I.bk) hcode (TB.code.keeps I.bk) hP2 htr hcd bP fun ctv h' tk hx hsz => ?_
    have I1 : Inv X pins σ H { sa with heap := h', toks := sa.toks } := I.kept hx
    have I2 := lam_trackE (tk := tk) (d := ⟨params, body, scope, t, x, v⟩) (c' := c') (T := TT) (pm := (X.mg "__name__").getD .none) (ctv := ctv) (q := X.env.qual ++ "<lambda>") (cl := X.env.cells) I1 rfl
    have nF : H h'.objs.size = none := I1.hok.fresh (Nat.le_refl _)
    have sm : ∀ b o, H b = some o → (upd H h'.objs.size (LamOE X.env.cells (X.env.qual ++ "<lambda>") ⟨params, body, scope, t, x, v⟩ h'.objs.size c' TT)) b = some o := fun b o e => (upd_ne (ne_of_none e nF)).trans e
    exact fin _ c' _ _ I2 (ExtN.of sm) (hT.ext sm) ⟨upd_same, sm _ _ hco, sm _ _ dT⟩
/-- what is asked of such a lambda that is called -/
structure LamOkE (X : Cx) (k : Nat) (d : LamE) : Prop where
  L : LamSE X.N X.env.scope d.scope d.x
  bind : ∀ (q : Str) (cl : List (Str × Addr)) (pm cv ctv : Value) (T : Addr) (v : Value), ∃ kk, bindArgs (ldFn q d.params d.body d.scope cl pm cv ctv (.ref T)) ⟨[], []⟩ = seqItems? (.ref T) >>= kk ∧ kk (some #[v]) = pure [(d.x, v)]
  body : ∀ (A : Around) (outer : List Env) (s : Shared) (H : Hp) (E : XK) (f c' : Addr), Room k (A.deeper (lamEnv X d.scope s.heap.objs.size f c')) → PE (lamCx X A outer s H E d.scope f c') d.body (d.t E)
theorem pe_actE {CXg : CXT} {Eg : XK} {Ng : List Str} {qg : Str} {sg : Scope} {g f c' T : Addr} {cdg : Value} {k i : Nat} {a : Str} {pn : List (Addr × Obj)} {xe : Value → Shared → Prop} {W : WX} {E : XK} {d : LamE} {p1 p2 : Pos}
    (I : Inv X pins σ H s) (D : LamOkE X k d) (tk : Takes ((cxOf CXg X.prog X.w X.K X.mg X.base Ng qg sg g cdg X.A X.stack s H Eg).tr pn xe) W) (hW : ∀ cls dd σ' H', E cls dd H' → W cls dd σ' H')
    (hr : Room (k + 1) (X.A.deeper (envOfC qg sg s.heap.objs.size g cdg))) (hN : Ng[i]? = some a) (hv : Vis sg a) (hd : (a == ("__debug__" : Str)) = false := by decide) (hcd : (a == ("__classdict__" : Str)) = false := by decide) :
    PE ((cxOf CXg X.prog X.w X.K X.mg X.base Ng qg sg g cdg X.A X.stack s H Eg).tr pn xe) (.Call (.Name a p1) [] [] p2)
      (fun σZ HZ Q => σZ[i]? = some (some (.ref f)) ∧ HZ c' = some (CodeO c' (X.env.qual ++ "<lambda>")) ∧ LamAtE X.env.cells (X.env.qual ++ "<lambda>") HZ d f c' T ∧ d.t E σ HZ Q) := by
  refine ⟨fun pinsZ sZ σZ HZ Q IZ h => ?_⟩
  obtain ⟨hs, hc, la, ht⟩ := h
  refine wpAny_Call_Name_kw (thn ((pe_var (pos := p1) (i := i) hN hv hd hcd).run pinsZ sZ σZ HZ (fun v H1 => v = .ref f ∧ H1 = HZ) IZ ⟨.ref f, hs, rfl, rfl⟩) fun u s1 ⟨v, H1, I1, r1, q1⟩ => ?_)
  obtain ⟨rfl, eH⟩ := q1
  rw [eH] at I1
  obtain rfl : u = Value.ref f := r1
  obtain ⟨⟨pm, ctv, of1⟩, _, _⟩ := I1.hok f _ la.fn
  obtain ⟨_, its, rT, ot, hot, _, nn, hdt⟩ := I1.hok T _ la.df
  obtain ⟨dvu, rfl, rd⟩ := vals1 rT
  refine PySem.W.callWith_F0 ⟨_, _, _, _, of1⟩ ?_
  have un : Un (frs X.stack) [] H HZ s.heap s1.heap := I1.base
  obtain ⟨⟨oc, vs, tok, hoc, hdc, hvc⟩, _, _⟩ := I1.hok c' _ hc
  have rc : codeAny (model X.prog X.w) (X.A.deeper (envOfC qg sg s.heap.objs.size g cdg)) (.call (.ref f) ⟨[], []⟩) (CR (L2.CX X.prog X.w) (envOfC qg sg s.heap.objs.size g cdg :: X.stack) X.prog X.w HZ s1 Q E) s1 := by
    refine PySem.W.kla_callFunE hr.depth of1 rfl D.L.co D.L.gen rfl ⟨c', oc, vs, tok, rfl, hoc, hdc, hvc⟩ ?_
    obtain ⟨kk, e1, e2⟩ := D.bind (X.env.qual ++ "<lambda>") (cloFrom X.env.cells d.scope.names []) pm (.ref c') ctv T dvu
    rw [e1]
    refine wpAny_bind (wpAny_seqItems hot hdt ?_)
    show wpAny _ _ (kk (some #[dvu])) _ _ _
    rw [e2]
    refine wpAny_pure (wpAny_newFunctionEnv (fun y hy => (D.L.own y hy).1) (fun y hy => by cases List.mem_singleton.mp hy; exact D.L.par) (fun h₁ hns hsb => ⟨I1.nolimit.fresh _ hsb, ?_⟩) D.L.kind)
    show codeAny _ _ (.expr d.body (lamEnv X d.scope s1.heap.objs.size f c')) _ _
    have kp2 : ∀ b o, s1.heap.get? b = some o → h₁.get? b = some o := fun b o e => hsb.extBut b o (Nat.ne_of_lt (Heap.lt_size e)) (Heap.get?_push_of_some _ e)
    have J := lam_startE (E := E) (f := f) (c' := c') (tk := s1.toks + [(d.x, dvu)].length) I D.L I1.env0 hr.hd un hns kp2
    refine PySem.W.kla_codeExpr (wpAny_mono ((D.body _ _ s1 HZ E f c' (hr.deeper _)).run [] _ _ HZ Q J ht) (fun v s' ⟨w', H', J', rv, q⟩ => ⟨w', H', J'.os, J'.bare, J'.base, J'.hok, rv, q⟩) fun e s' hq => hq)
  have hx : Passes (L2.CX X.prog X.w) ((cxOf CXg X.prog X.w X.K X.mg X.base Ng qg sg g cdg X.A X.stack s H Eg).tr pn xe) E := passes_call tk hW
  refine wpAny_call (codeAny_mono rc fun r s' hq => ?_)
  rcases r with e | (_ | _ | _ | u)
  · exact hx pinsZ σZ HZ s1 e s' I1 hq
  · exact False.elim hq
  · exact False.elim hq
  · exact False.elim hq
  · exact I1.after hq
end
end Ux

set_option Elab.async false
set_option linter.all false
set_option maxRecDepth 100000
set_option maxHeartbeats 4000000
namespace Ux
open PySem PySem.Spec PyProof.Rows L2 LamX
/-- x(y), where y is one of some lambdas, with a default or without -/
def tLamCallM (cl : List (Str × Addr)) (q : Str) (TT : (XK → Hp → VK → Prop) → Hp → VK → Prop) (ds : List LamD) (es : List LamE) (te : TE) : TE := fun σ H Q => te σ H fun v H1 =>
  (∃ (f c' : Addr) (d : LamD), d ∈ ds ∧ v = .ref f ∧ LamAt cl q H1 d f c' ∧ TT (fun E H' Q' => H' f = some (LamO cl q d f c') ∧ d.t E σ H' Q') H1 Q) ∨
  ∃ (f c' T : Addr) (d : LamE), d ∈ es ∧ v = .ref f ∧ LamAtE cl q H1 d f c' T ∧ TT (fun E H' Q' => LamAtE cl q H' d f c' T ∧ d.t E σ H' Q') H1 Q
theorem pe_lamvalM {X : Cx} {ds : List LamD} {es : List LamE} {te : TE} {TT : (XK → Hp → VK → Prop) → Hp → VK → Prop} {x a y : Str} {g : Addr} {k : Nat} {pg : Arguments} {bg : List Stmt} {sg : Scope} {dV kV doc pm cdv ct oc : Value} {an od : Option Addr} {osl : Array (Option Value)} {Ng : List Str} {p py pos : Pos}
    (hg : Gl X x) (hm : X.mg x = some (.ref g)) (hk : PySem.W.keepIn X.K (.ref g) = true) (lk : X.K.lookup g = some ⟨oc, od, .func (PySem.W.fnOf x x pg bg sg dV kV doc pm an cdv ct), osl⟩) (hcg : PySem.W.codeIn X.K cdv x = true)
    (hb : L2.Binds X.K (PySem.W.fnOf x x pg bg sg dV kV doc pm an cdv ct) [a] []) (Sg : FnScope Ng [a] sg) (hNg : Ng[0]? = some a) (hva : Vis sg a) (hG : GivesTo X Ng x sg g cdv bg a (X.env.qual ++ "<lambda>") TT) (hr : Room (k + 2) X.A)
    (hds : ∀ d ∈ ds, LamOk X k d) (hes : ∀ d ∈ es, LamOkE X k d) (he : PE X (.Name y py) te) (hdb : (x == ("__debug__" : Str)) = false := by decide) (hd : (a == ("__debug__" : Str)) = false := by decide) (hcd : (a == ("__classdict__" : Str)) = false := by decide) :
    PE X (.Call (.Name x p) [.Name y py] [] pos) (tLamCallM X.env.cells (X.env.qual ++ "<lambda>") TT ds es te) := by
  refine ⟨fun pins s σ H Q I h => wpAny_Call_Name_kw (ld_glob I hg hm ?_ hdb)⟩
  refine PySem.W.callWith_K (h₀ := X.base) I.ok.mod.kin hk (show wpAny _ _ (spliced ((false, eval (.Name y py) X.env) :: backTo pos (starEach [] X.env))) _ _ s from ?_) (by rfl) (by rfl)
  refine Calls.spliced_cons (thn (he.run pins s σ H _ I h) fun u s' ⟨v, H1, I1, rv, hq⟩ => ?_)
  rcases hq with ⟨f, c', d, hmem, rfl, la, htt⟩ | ⟨f, c', T, d, hmem, rfl, la, htt⟩
  · obtain rfl : u = Value.ref f := rv
    refine Calls.spliced_nil ⟨I1.kIn, wpAny_call (codeAny_mono (run_ofS (CX := C8.CX0) (E := C8.E0) (Q := Q) (N := Ng) (ps := [a]) (us := [.ref f]) (vs := [.ref f]) lk hcg Sg hr I1.env0 (hb s' [.ref f] I1.kIn rfl) (.cons rfl .nil) rfl fun hr2 => ?_) fun r s2 hq => ?_)⟩
    · obtain ⟨t', ht', hq'⟩ := hG f c' s' H1 Q (fun E H' Q' => H' f = some (LamO X.env.cells (X.env.qual ++ "<lambda>") d f c') ∧ d.t E σ H' Q') (fun W pn xe E p1 p2 tk hW => pe_actV (i := 0) I1 (hds d hmem) tk hW hr2 hNg hva hd hcd) la.co htt
      exact ⟨t', ht'.nox, hq'⟩
    · rcases r with e | (_ | _ | _ | u)
      · exact (show False from hq).elim
      · exact False.elim hq
      · exact False.elim hq
      · exact False.elim hq
      · exact I1.after hq
  · obtain rfl : u = Value.ref f := rv
    refine Calls.spliced_nil ⟨I1.kIn, wpAny_call (codeAny_mono (run_ofS (CX := C8.CX0) (E := C8.E0) (Q := Q) (N := Ng) (ps := [a]) (us := [.ref f]) (vs := [.ref f]) lk hcg Sg hr I1.env0 (hb s' [.ref f] I1.kIn rfl) (.cons rfl .nil) rfl fun hr2 => ?_) fun r s2 hq => ?_)⟩
    · obtain ⟨t', ht', hq'⟩ := hG f c' s' H1 Q (fun E H' Q' => LamAtE X.env.cells (X.env.qual ++ "<lambda>") H' d f c' T ∧ d.t E σ H' Q') (fun W pn xe E p1 p2 tk hW => pe_actE (i := 0) (T := T) I1 (hes d hmem) tk hW hr2 hNg hva hd hcd) la.co htt
      exact ⟨t', ht'.nox, hq'⟩
    · rcases r with e | (_ | _ | _ | u)
      · exact (show False from hq).elim
      · exact False.elim hq
      · exact False.elim hq
      · exact False.elim hq
      · exact I1.after hq
end Ux

set_option Elab.async false
set_option linter.all false
set_option maxRecDepth 100000
set_option maxHeartbeats 4000000
/-! A list comprehension whose element knows the frame around its block, and calls lambdas of that frame. -/
namespace Ux
open PySem PySem.Spec PyProof.Rows L2 LamX
/-- the block was entered at s, H from the frame of X, whose names hold σ -/
def BlkIn (X : Cx) (σ : L2.St) (H : Hp) (s : Shared) (fp : List Addr) : Prop := ∃ pins, Inv X pins σ H s ∧ ∀ b ∈ fp, FpOk X pins H b
section
variable {X : Cx} {pins : List (Addr × Obj)} {σ σ' : L2.St} {H H' : Hp} {s s' : Shared} {scope : Scope} {ce : Env} {fp : List Addr}
/-- what the frame around holds, told from within the block -/
theorem BlkIn.back (B : BlkIn X σ H s fp) (J : Inv (X.blk s H scope ce fp) pins σ' H' s') : ∃ p, Inv X p σ H' s' := by
  obtain ⟨p, I, f⟩ := B
  exact ⟨p, I.call' (ch := fp) J.os J.base J.hok J.bare fun b hb => let ⟨_, e1, _, e3, e4, e5⟩ := f b hb; ⟨e3, e1, e4, e5⟩⟩
theorem pe_lcI {elt tg iter : Expr} {own : List (Str × Nat)} {pos : Pos} {wi : TI} {g : TG} {te : L2.St → TE} (hc : X.calm = true) (hN : X.N.Nodup) (hi : PI X tg iter wi) (ok : BlkOk X.N X.env.scope scope own)
    (hg : ∀ s H C cl fp, PG (X.blk s H scope (compEnvC scope cl C X.env) fp) tg g)
    (he : ∀ σ s H C cl fp, BlkIn X σ H s fp → PE (X.blk s H scope (compEnvC scope cl C X.env) fp) elt (te σ)) (hs : ∀ x, foldedSetIterable iter X.env x = pure x := by intro _; rfl) :
    PE X (.ListComp elt [⟨tg, iter, [], 0⟩] scope pos) (fun σ => tLc wi g tYes (te σ) (own.map (·.2)) σ) := by
  refine ⟨fun p0 s0 σ H0 Q I0 h => ?_⟩
  rw [eval_ListComp]
  refine wpAny_comprehension_free rfl hs (closure_ok fun y hy e => (ok.free y hy e).elim (fun k => I0.ok.has _ (.inl k)) fun k => I0.ok.has _ (.inr k)) ok.kind (fun y hy e => (ok.uniq y hy).trans (by rw [e]))
    (thn (hi.run p0 s0 σ H0 _ I0 h) fun _ _ hx => thn hx fun _ sA ⟨it, fp, tn, J, HA, e, IA, T, stA, fA, q⟩ => ?_)
  subst e
  refine wpAny_newObj_type (newEnv_comp ?_) (by show 0 ≤ sizeLine; decide)
  obtain ⟨W, ⟨m0, w0⟩, turn⟩ := q _ (IA.hok.fresh (Nat.le_refl _))
  have IB := IA.laid (a := sA.heap.objs.size) (o := .lst []) (h' := sA.heap.push { cls := .type "list", data := .seq ([] : List Value).toArray }) (t' := sA.toks) (fun b o e => Heap.get?_push_of_some _ e) (Nat.le_refl _)
    ⟨Nat.zero_le _, [], 0, .nil, Heap.get?_push_size _ rfl⟩
  have lt : ∀ b ∈ fp, b < sA.heap.objs.size := fun b hb => let ⟨o, e, _⟩ := T.obj _ _ stA b hb; Heap.lt_size e
  have stB : tn 0 (sA.heap.push { cls := .type "list", data := .seq ([] : List Value).toArray }) := T.keep _ _ _ stA fun b _ o e => Heap.get?_push_of_some _ e
  have fB : ∀ b ∈ fp, FpOk X p0 (upd HA sA.heap.objs.size (.lst [])) b ∧ b < (sA.heap.push { cls := .type "list", data := .seq ([] : List Value).toArray }).objs.size := fun b hb =>
    ⟨⟨(upd_ne (Nat.ne_of_lt (lt b hb))).trans (fA b hb).1, (fA b hb).2⟩, by rw [Heap.size_push]; exact Nat.lt_succ_of_lt (lt b hb)⟩
  generalize hD : sA.heap.objs.size = D at *
  generalize hHB : upd HA D (.lst []) = HB at *
  generalize hsB : ({ sA with heap := sA.heap.push { cls := .type "list", data := .seq ([] : List Value).toArray } } : Shared) = sB at *
  have hB : sA.heap.push { cls := .type "list", data := .seq ([] : List Value).toArray } = sB.heap := by rw [← hsB]
  rw [hB] at stB fB
  have up : ∀ {pz : List (Addr × Obj)} {σz : L2.St} {Hz : Hp} {sz : Shared} {ce : Env}, Inv (X.blk sB HB scope ce fp) pz σz Hz sz → Inv X p0 σ Hz sz := fun z =>
    IB.call' (ch := fp) z.os z.base z.hok z.bare fun b hb => let ⟨⟨_, e1, _, e3, e4, e5⟩, _⟩ := fB b hb; ⟨e3, e1, e4, e5⟩
  have J0 := block_start IB ok hN fB
  have eP := he σ sB HB sB.heap.objs.size (cellsFrom (sB.heap.objs.size + 1) scope.names (cloFrom X.env.cells scope.names [])) fp ⟨p0, IB, fun b hb => (fB b hb).1⟩
  have gP := hg sB HB sB.heap.objs.size (cellsFrom (sB.heap.objs.size + 1) scope.names (cloFrom X.env.cells scope.names [])) fp
  refine (show codeAny _ _ (.compStart _ 0 _ _ (compEnvC scope (cellsFrom (sB.heap.objs.size + 1) scope.names (cloFrom X.env.cells scope.names [])) sB.heap.objs.size X.env)) (compPost _ _ X.xe none (EP X p0 σ Q) (.ref D) sB.heap.objs.size) { sB with heap := pushCells (sB.heap.push { cls := .type "dict", data := .dict #[] }) scope.names } from ?_)
  generalize hce : compEnvC scope (cellsFrom (sB.heap.objs.size + 1) scope.names (cloFrom X.env.cells scope.names [])) sB.heap.objs.size X.env = ce at J0 eP gP ⊢
  have cL : ce.locals = sB.heap.objs.size := by rw [← hce]; rfl
  generalize hsC : ({ sB with heap := pushCells (sB.heap.push { cls := .type "dict", data := .dict #[] }) scope.names } : Shared) = sC at J0 ⊢
  have stC : tn 0 sC.heap := by rw [← hsC]; exact T.keep _ _ _ stB fun b _ o e => pushCells_keeps _ _ _ _ (Heap.get?_push_of_some _ e)
  have fk : ∀ {σz : L2.St} {Hz : Hp} {sz : Shared}, Inv (X.blk sB HB scope ce fp) [] σz Hz sz → (∀ b ∈ fp, Hz b = none) → ∀ b ∈ fp, FpOk (X.blk sB HB scope ce fp) [] Hz b := fun z n b hb =>
    ⟨n b hb, (z.ok.exf b hb).1, z.ok.exfs b hb, .inl hb, fun x c e => (z.ok.exf b hb).2 x c e, fun p hp => absurd (show p ∈ ([] : List (Addr × Obj)) ++ [] from hp) (by simp)⟩
  have loop : codeAny (model X.prog X.w) X.A (.compLoop (.ListComp elt [⟨tg, iter, [], 0⟩] scope pos) 0 (.ref it) (.ref D) ce) (compPost (model X.prog X.w) X.A X.xe none (EP X p0 σ Q) (.ref D) sB.heap.objs.size) sC := by
    refine compLoop_any (fun n sz => ∃ i Hz, (Inv (X.blk sB HB scope ce fp) [] (wipe σ (own.map (·.2))) Hz sz ∧ W i n Hz) ∧ tn i sz.heap ∧ ∀ b ∈ fp, Hz b = none) ?_ m0 ⟨0, HB, ⟨J0, w0⟩, stC, fun b hb => (fB b hb).1.1⟩
    rintro n sz ⟨i, Hz, ⟨Jz, wz⟩, tz, nz⟩
    rcases turn i n Hz wz with ⟨stop, qz⟩ | ⟨go, Nx, less, step⟩
    · refine thnF (T.done (X.blk sB HB scope ce fp) rfl rfl rfl hc i [] sz _ Hz (fun _ _ => False) Jz (fk Jz nz) tz stop) fun r sy ⟨er, Jy⟩ => ?_
      subst er
      have nC : Hz sB.heap.objs.size = none := cL ▸ Jy.free
      obtain ⟨m, hm, _⟩ := Jy.loc
      obtain ⟨f0, f1, _, f3, f4, f5⟩ := IB.fpOk (Nat.le_refl _) nC
      exact ⟨m, cL ▸ hm, fun h'' sb => ⟨.ref D, Hz, (up Jy).turned (t' := sy.toks) (fun b o hb e => (sb.2 b hb).trans e) f0 f1 f3 f4 f5, rfl, qz⟩⟩
    · refine thnF (T.item (X.blk sB HB scope ce fp) rfl rfl rfl hc i [] sz _ Hz (fun _ _ => False) Jz (fk Jz nz) tz go) fun r sy ⟨u, er, hy⟩ => ?_
      subst er
      refine thnF hy fun _ sx ⟨x, Hx, Jx, rx, yx, tx, nx⟩ => ?_
      refine thnF (gP.run _ sx _ Hx x u _ (Jx.pinned (fk Jx nx) (T.obj _ _ tx)) rx (step x Hx yx)) fun _ sw ⟨σw, Hw, Jw, hw, qw⟩ => ?_
      refine thnF ((pts_nil (X := X.blk sB HB scope ce fp)).run _ sw σw Hw _ Jw qw) fun b sv ⟨Hv, Jv, qv⟩ => ?_
      have fin : ∀ {sl : Shared} {Hl : Hp}, Inv (X.blk sB HB scope ce fp) ([] ++ pinsAt fp sx.heap) σw Hl sl → Nx Hl → ∃ m, m < n ∧ ∃ i Hk, (Inv (X.blk sB HB scope ce fp) [] (wipe σ (own.map (·.2))) Hk sl ∧ W i m Hk) ∧ tn i sl.heap ∧ ∀ b ∈ fp, Hk b = none := fun {sl Hl} Jl nl => by
        obtain ⟨m, hm, wm⟩ := less Hl nl
        have pinned : ∀ b ∈ fp, ∀ o, sx.heap.get? b = some o → sl.heap.get? b = some o ∧ Hl b = none := fun b hb o e => let z := Jl.pin (b, o) (List.mem_append_right _ (List.mem_append_right _ (mem_pinsAt hb e))); ⟨z.1, z.2.1⟩
        refine ⟨m, hm, i + 1, Hl, ⟨(Jl.unpinned (pins := [])).weak (by rw [← hw, wipe_length]) (fun j v e => (wipe_some (hw ▸ e)).1), wm⟩, T.keep _ _ _ tx fun b hb o e => (pinned b hb o e).1, fun b hb => ?_⟩
        obtain ⟨o, e, _⟩ := T.obj _ _ tx b hb
        exact (pinned b hb o e).2
      cases b with
      | false => exact fin Jv qv
      | true =>
        refine thnF (eP.run _ sv σw Hv _ Jv qv) fun z su ⟨y, Hu, Ju, ry, acc, hD', hz, nu⟩ => ?_
        exact app_ok (X := X.blk sB HB scope ce fp) Ju hD' hz ry fun st Jt => fin Jt nu
  exact codeAny_compStart_list loop (T.self X.A 0 _ _ _ stC loop)
end
end Ux

set_option Elab.async false
set_option linter.all false
set_option maxRecDepth 100000
set_option maxHeartbeats 4000000
namespace Ux
open PySem PySem.Spec PyProof.Rows L2 LamX
/-- x(y) in a block, where y is one of some lambdas of the frame around: that frame's names hold σ0 -/
def tLamCallB (cl : List (Str × Addr)) (q : Str) (TT : (XK → Hp → VK → Prop) → Hp → VK → Prop) (ds : List LamD) (es : List LamE) (te : TE) (σ0 : L2.St) : TE := fun σ H Q => te σ H fun v H1 =>
  (∃ (f c' : Addr) (d : LamD), d ∈ ds ∧ v = .ref f ∧ LamAt cl q H1 d f c' ∧ TT (fun E H' Q' => H' f = some (LamO cl q d f c') ∧ d.t E σ0 H' Q') H1 Q) ∨
  ∃ (f c' T : Addr) (d : LamE), d ∈ es ∧ v = .ref f ∧ LamAtE cl q H1 d f c' T ∧ TT (fun E H' Q' => LamAtE cl q H' d f c' T ∧ d.t E σ0 H' Q') H1 Q
theorem pe_lamvalB {X : Cx} {σ0 : L2.St} {H0 : Hp} {s0 : Shared} {fp : List Addr} {scope : Scope} {ce : Env} {ds : List LamD} {es : List LamE} {te : TE} {TT : (XK → Hp → VK → Prop) → Hp → VK → Prop} {x a y : Str} {g : Addr} {k : Nat} {pg : Arguments} {bg : List Stmt} {sg : Scope} {dV kV doc pm cdv ct oc : Value} {an od : Option Addr} {osl : Array (Option Value)} {Ng : List Str} {p py pos : Pos}
    (B : BlkIn X σ0 H0 s0 fp) (hg : Gl (X.blk s0 H0 scope ce fp) x) (hm : X.mg x = some (.ref g)) (hk : PySem.W.keepIn X.K (.ref g) = true) (lk : X.K.lookup g = some ⟨oc, od, .func (PySem.W.fnOf x x pg bg sg dV kV doc pm an cdv ct), osl⟩) (hcg : PySem.W.codeIn X.K cdv x = true)
    (hb : L2.Binds X.K (PySem.W.fnOf x x pg bg sg dV kV doc pm an cdv ct) [a] []) (Sg : FnScope Ng [a] sg) (hNg : Ng[0]? = some a) (hva : Vis sg a) (hG : GivesTo X Ng x sg g cdv bg a (X.env.qual ++ "<lambda>") TT) (hr : Room (k + 2) X.A)
    (hds : ∀ d ∈ ds, LamOk X k d) (hes : ∀ d ∈ es, LamOkE X k d) (he : PE (X.blk s0 H0 scope ce fp) (.Name y py) te) (hdb : (x == ("__debug__" : Str)) = false := by decide) (hd : (a == ("__debug__" : Str)) = false := by decide) (hcd : (a == ("__classdict__" : Str)) = false := by decide) :
    PE (X.blk s0 H0 scope ce fp) (.Call (.Name x p) [.Name y py] [] pos) (tLamCallB X.env.cells (X.env.qual ++ "<lambda>") TT ds es te σ0) := by
  refine ⟨fun pins s σ H Q I h => wpAny_Call_Name_kw (ld_glob I hg hm ?_ hdb)⟩
  refine PySem.W.callWith_K (h₀ := X.base) I.ok.mod.kin hk (show wpAny _ _ (spliced ((false, eval (.Name y py) ce) :: backTo pos (starEach [] ce))) _ _ s from ?_) (by rfl) (by rfl)
  refine Calls.spliced_cons (thn (he.run pins s σ H _ I h) fun u s' ⟨v, H1, I1, rv, hq⟩ => ?_)
  obtain ⟨pX, IX⟩ := B.back I1
  rcases hq with ⟨f, c', d, hmem, rfl, la, htt⟩ | ⟨f, c', T, d, hmem, rfl, la, htt⟩
  · obtain rfl : u = Value.ref f := rv
    refine Calls.spliced_nil ⟨I1.kIn, wpAny_call (codeAny_mono (run_ofS (CX := C8.CX0) (E := C8.E0) (Q := Q) (outer := X.stack) (base := X.base) (mg := X.mg) (N := Ng) (ps := [a]) (us := [.ref f]) (vs := [.ref f]) lk hcg Sg hr IX.env0 (hb s' [.ref f] IX.kIn rfl) (.cons rfl .nil) rfl fun hr2 => ?_) fun r s2 hq => ?_)⟩
    · obtain ⟨t', ht', hq'⟩ := hG f c' s' H1 Q (fun E H' Q' => H' f = some (LamO X.env.cells (X.env.qual ++ "<lambda>") d f c') ∧ d.t E σ0 H' Q') (fun W pn xe E p1 p2 tk hW => pe_actV (i := 0) IX (hds d hmem) tk hW hr2 hNg hva hd hcd) la.co htt
      exact ⟨t', ht'.nox, hq'⟩
    · rcases r with e | (_ | _ | _ | u)
      · exact (show False from hq).elim
      · exact False.elim hq
      · exact False.elim hq
      · exact False.elim hq
      · exact I1.after hq
  · obtain rfl : u = Value.ref f := rv
    refine Calls.spliced_nil ⟨I1.kIn, wpAny_call (codeAny_mono (run_ofS (CX := C8.CX0) (E := C8.E0) (Q := Q) (outer := X.stack) (base := X.base) (mg := X.mg) (N := Ng) (ps := [a]) (us := [.ref f]) (vs := [.ref f]) lk hcg Sg hr IX.env0 (hb s' [.ref f] IX.kIn rfl) (.cons rfl .nil) rfl fun hr2 => ?_) fun r s2 hq => ?_)⟩
    · obtain ⟨t', ht', hq'⟩ := hG f c' s' H1 Q (fun E H' Q' => LamAtE X.env.cells (X.env.qual ++ "<lambda>") H' d f c' T ∧ d.t E σ0 H' Q') (fun W pn xe E p1 p2 tk hW => pe_actE (i := 0) (T := T) IX (hes d hmem) tk hW hr2 hNg hva hd hcd) la.co htt
      exact ⟨t', ht'.nox, hq'⟩
    · rcases r with e | (_ | _ | _ | u)
      · exact (show False from hq).elim
      · exact False.elim hq
      · exact False.elim hq
      · exact False.elim hq
      · exact I1.after hq
end Ux

set_option Elab.async false
set_option linter.all false
set_option maxRecDepth 100000
set_option maxHeartbeats 4000000
/-! == of two lists of different lengths -/
namespace Ux
open PySem PySem.Spec PySem.Calls PySem.SeqAt PyProof.Rows GQ AutoSeq1
theorem list_ne {prog : Program} {w : World} {A : Around} {R : Result → Shared → Prop} {s : Shared} {l b : Addr} {i1 i2 : Array Value} {n1 n2 : Nat} (h1 : s.heap.get? l = some { cls := .type "list", data := .seq i1 n1 }) (h2 : s.heap.get? b = some { cls := .type "list", data := .seq i2 n2 }) (hne : i1.size ≠ i2.size)
    (fin : R (.ok (.ret (.bool false))) s) : wpAny (model prog w) A.in1 (Builtin.«list.__eq__» ⟨[.ref l, .ref b], []⟩) (FinOf prog w A R) (fun e s' => R (.error e) s') s := by
  obtain ⟨hp, g, d, tk, os⟩ := s
  have f3 := AutoSeq1.sub_list_list
  have hb : (i1.size != i2.size) = true := by simp [hne]
  wp_walk using wpAny_loadPart' h1, wpAny_loadPart' h2
  exact fin
end Ux
namespace Ux
open PySem PySem.Spec PyProof.Rows L2
section
variable {X : Cx}
def rLenNe : R2 := fun x y H Q => ∃ (a b : Addr) (xs ys : List V), x = .ref a ∧ y = .ref b ∧ H a = some (.lst xs) ∧ H b = some (.lst ys) ∧ xs.length ≠ ys.length ∧ Q (.bl false) H
theorem op_lenNe (hu : X.A.units < cLine) : OpR X (compareOp .Eq) rLenNe := by
  intro pins s σ H x y v u Q I rx ry h
  obtain ⟨a, b, xs, ys, rfl, rfl, ha, hb, hne, q⟩ := h
  obtain rfl : v = Value.ref a := rx
  obtain rfl : u = Value.ref b := ry
  obtain ⟨_, i1, n1, r1, e1⟩ := I.hok a _ ha
  obtain ⟨_, i2, n2, r2, e2⟩ := I.hok b _ hb
  have l1 := r1.length
  have l2 := r2.length
  show wpAny (model X.prog X.w) X.A (richCompare .Eq (.ref a) (.ref b)) (EP X pins σ Q) X.xe s
  refine wpAny_richCompare_same_room (op := .Eq) ⟨_, e1, rfl⟩ ⟨_, e2, rfl⟩ F.slot_list_eq (GQ.call_here F.slot_list_eq ⟨_, e1, rfl⟩ F.entry_list_eq (F.args_list_eq_2 _ _) ?_) hu
  exact list_ne e1 e2 (by rw [List.size_toArray, List.size_toArray]; omega) ⟨(fun x => nomatch x), .bl false, H, I, rfl, q⟩
end
end Ux

set_option Elab.async false
set_option linter.all false
set_option maxRecDepth 100000
set_option maxHeartbeats 4000000
set_option pp.maxSteps 600
/-! Dicts whose keys are tuples: {(..): v}, list(d.items()), dict(d); sorted(()). -/
namespace Ux
open PySem PySem.Spec PySem.Calls PyProof.Rows
section
variable {prog : Program} {w : World} {A : Around} {E : Value → Shared → Prop} {s : Shared} {r d : Addr} {es : Array DictEntry} {ep : Nat}
theorem list_items_raw {Q : Value → Shared → Prop} (hh : A.handled = none) (hv : s.heap.IsItemsView r d) (hm : DT.Raw s.heap d es ep) (hn : es.size ≤ sizeLine)
    (hQ : ∀ h' tk acc c as, (∀ b o, s.heap.get? b = some o → h'.get? b = some o) → h'.get? s.heap.objs.size = some { cls := .type "list", dict := none, data := .seq acc c, slots := #[] } → as.length = es.size → DT.Made es s.heap.objs.size h' as →
      acc.toList = as.map Value.ref → Q (.ref s.heap.objs.size) { s with heap := h', toks := tk }) :
    wpAny (model prog w) A (call (.type "list") [.ref r]) Q E s := by
  refine callType_codes (Q₁ := fun obj s₁ => obj = .ref s.heap.objs.size ∧ s₁ = { s with heap := s.heap.push { cls := .type "list", data := .seq #[] } }) PySem.F.called_list (PySem.F.typeCall_list_1 _) PySem.F.entry_list_init
    (code_list_new _ ⟨rfl, rfl⟩) fun obj s₁ h₁ => ?_
  obtain ⟨rfl, rfl⟩ := h₁
  have hS : (s.heap.push { cls := .type "list", data := .seq #[] }).get? s.heap.objs.size = some { cls := .type "list", data := .seq #[] } := Heap.get?_push_size _ rfl
  have hr : r < s.heap.objs.size := let ⟨_, ho, _⟩ := hv; Heap.lt_size ho
  have hd : d < s.heap.objs.size := hm.lt
  refine ⟨⟨_, hS, rfl⟩, PySem.F.args_list_init_2 _ _, ?_⟩
  show wpAny _ _ (do let old ← Builtin.List.listItems (.ref s.heap.objs.size); Builtin.List.listUpdate (.ref s.heap.objs.size) (fun _ => #[]); letGo old.toList.reverse; Builtin.List.listExtendWith (.ref s.heap.objs.size) (.ref r) .none) _ _ _
  refine wpAny_bind ?_
  unfold Builtin.List.listItems
  refine wpAny_bind (wpAny_seqItems hS rfl (wpAny_pure ?_))
  show wpAny _ _ (updateSeq s.heap.objs.size (fun _ => #[]) >>= fun _ => letGo (#[] : Array Value).toList.reverse >>= fun _ => Builtin.List.listExtendWith (.ref s.heap.objs.size) (.ref r) .none) _ _ _
  refine wpAny_bind (wpAny_updateSeq hS rfl ?_)
  have hS2 := Heap.get?_update_self (Obj.mapSeq (fun _ => (#[] : Array Value))) hS rfl
  have up : ∀ b o, s.heap.get? b = some o → ((s.heap.push { cls := .type "list", data := .seq #[] }).update s.heap.objs.size (Obj.mapSeq (fun _ => (#[] : Array Value)))).get? b = some o :=
    fun b o e => (Heap.get?_update_other _ _ (Ne.symm (Nat.ne_of_lt (Heap.lt_size e)))).trans (Heap.get?_push_of_some _ e)
  refine wpAny_bind (wpAny_letGo ?_)
  refine DT.extI (A := A.in1) (R := wants (fun r s₂ => r = .none ∧ Q (.ref s.heap.objs.size) s₂) E) (s := { s with heap := (s.heap.push { cls := .type "list", data := .seq #[] }).update s.heap.objs.size (Obj.mapSeq (fun _ => (#[] : Array Value))) }) (es := es) (ep := ep) hh (let ⟨o, ho, x⟩ := hv; ⟨o, up r o ho, x⟩) (hm.at' fun o e => up d o e) s.heap.objs.size (Nat.ne_of_gt hr) (Nat.ne_of_lt hd) .none _ hS2 (fun h' tk acc c as hk hS' hl hG hacc => ?_) hn
  exact ⟨rfl, hQ h' tk acc c as (fun b o e => hk b o (Nat.ne_of_lt (Heap.lt_size e)) (up b o e)) hS' hl (hG.low (Nat.le_of_lt (Heap.lt_size hS2))) hacc⟩
theorem dict_copyT {K : Type} [DecidableEq K] {knd : HeapKind prog w K} {o : Addr} {more : List (K × Addr × Value)} {Q : Value → Shared → Prop} (hu : knd.room A.in1.in1) (hoS : (o == sysModules) = false) (ho : s.heap.DictOfH knd o more) (hst : ∀ y ∈ more, knd.is (s.heap.push { cls := .type "dict", data := .dict #[] }) y.1 y.2.1) (hty : ∀ x ∈ more, s.TypeIs (.ref x.2.1) "tuple") (hl : more.length ≤ 1)
    (h : ∀ h', h'.DictOfH knd s.heap.objs.size more → Heap.SameBut s.heap.objs.size (s.heap.push { cls := .type "dict", data := .dict #[] }) h' → Q (.ref s.heap.objs.size) { s with heap := h' }) :
    wpAny (model prog w) A (call (.type "dict") [.ref o]) Q E s := by
  refine callType_codes (Q₁ := fun obj s₁ => obj = .ref s.heap.objs.size ∧ s₁ = { s with heap := s.heap.push { cls := .type "dict", data := .dict #[] } }) F.kt_called_dict (F.kt_typeCall_dict_1 _) F.entry_dict_init (kt_code_dict_new _ ⟨rfl, rfl⟩) ?_
  rintro obj s₁ ⟨rfl, rfl⟩
  have hnew : (s.heap.push { cls := .type "dict", data := .dict #[] }).DictOfH knd s.heap.objs.size [] := Heap.DictOfH.new s.heap
  have ho' : (s.heap.push { cls := .type "dict", data := .dict #[] }).DictOfH knd o more := ho.at' (fun ob e => Heap.get?_push_of_some _ e) hst
  have hdo : s.heap.objs.size ≠ o := fun e => absurd ho.lt_size (by rw [e]; exact Nat.lt_irrefl _)
  refine ⟨hnew.typeIs, F.args_dict_init_2 _ _, ?_⟩
  unfold Builtin.«dict.__init__»
  refine wpAny_bind ?_
  unfold Builtin.Dict.selfAndRest
  refine wpAny_bind (wpAny_notOrdered_dict hnew.typeIs ?_)
  show wpAny _ _ (pure (s.heap.objs.size, [Value.ref o])) _ _ _
  refine wpAny_pure ?_
  show wpAny _ _ (Builtin.Dict.updateFrom "dict.__init__" s.heap.objs.size (.ref o) [] .none) _ _ _
  refine updateFrom_dictH (A := A.in1) (R := wants (fun r s₂ => r = .none ∧ Q (.ref s.heap.objs.size) s₂) E) (s := { s with heap := s.heap.push { cls := .type "dict", data := .dict #[] } }) (d := s.heap.objs.size) (o := o) (kvs := []) (more := more) .none hu hdo hoS hnew ho' (.inr ⟨fun x hx => ?_, ?_⟩) (by rw [sizeLine_eq, List.length_nil]; omega) fun h' hd' _ hs' => ?_
  · obtain ⟨ob, e, c⟩ := hty x hx
    exact ⟨ob, Heap.get?_push_of_some _ e, c⟩
  · cases more with
    | nil => exact List.nodup_nil
    | cons x more =>
      cases more with
      | nil => simp
      | cons _ _ => simp at hl
  · rw [storedAllH_nil_of_nodup more ho.nodup] at hd'
    exact ⟨rfl, h h' hd' hs'⟩
theorem sorted_tup0 {a : Addr} {o : Obj} {n : Nat} {Q : Value → Shared → Prop} (ho : s.heap.get? a = some o) (hc : o.cls = .type "tuple") (hd : o.data = .seq #[] n)
    (h : ∀ h' : Heap, (∀ b o', s.heap.get? b = some o' → h'.get? b = some o') → ∀ (h2 : Heap) (m : Nat), (∀ b o', h'.get? b = some o' → h2.get? b = some o') → h2.get? h'.objs.size = some { cls := .type "list", data := .seq #[] m } → Q (.ref h'.objs.size) { s with heap := h2 }) : wpAny (model prog w) A (call (.builtin "sorted") [.ref a]) Q E s := by
  refine call_function_entry kind_sorted plain_sorted entry_sorted (args_sorted1 _) ?_
  unfold Builtin.«sorted»
  refine wpAny_bind (m := checkCount "sorted" 1 1 _) (wpAny_pure ?_)
  refine wpAny_bind (wpAny_collect_seq a (.inr rfl) ho hc hd (fun h' hk => ?_) (by rw [sizeLine_eq]; exact Nat.zero_le _))
  refine wpAny_bind (wpAny_newList ?_)
  have hoL : (h'.push (seqObj "list" #[] 0)).get? h'.objs.size = some (seqObj "list" #[] 0) := Heap.get?_push_size _ rfl
  refine wpAny_bind (wpAny_holding (wpAny_call_entry slot_list_sort ⟨_, hoL, rfl⟩ entry_list_sort (list_sort_tree (s := { s with heap := h'.push (seqObj "list" #[] 0) }) (vs := []) (ns := []) hoL .nil (by decide) fun out ns' a1 a2 a3 => ⟨_, rfl, ?_⟩) (args_list_sort _)))
  have e0 : ns' = [] := by simpa using a2
  subst e0
  have e1 : out = #[] := by
    cases out with
    | mk l =>
      cases l with
      | nil => rfl
      | cons x l => cases a1
  subst e1
  obtain ⟨ep, he'⟩ := sortedHeap_at (vs := []) (out := #[]) hoL
  refine wpAny_pure ⟨_, rfl, h h' hk _ ep (fun b o' e => ?_) he'⟩
  have hb : b < h'.objs.size := Heap.lt_size e
  rw [sortedHeap_old (Nat.ne_of_lt hb) (by rw [size_push']; exact Nat.lt_succ_of_lt hb)]
  exact Heap.get?_push_of_some _ e
end
end Ux

set_option Elab.async false
set_option linter.all false
set_option maxRecDepth 100000
set_option maxHeartbeats 4000000
set_option pp.maxSteps 600
/-! The same as rules. -/
namespace Ux
open PySem PySem.Spec PyProof.Rows L2
def dispQ (p : Addr) (Q : VK) : List (V × V) → Hp → Prop
  | [(x, y)], H2 => H2 p = some (.dT []) ∧ ∃ (b : Addr) (ks : List L2.Key), x = .ref b ∧ H2 b = some (.tup (ks.map kV)) ∧ Q (.ref p) (upd H2 p (.dT [(ks, y)]))
  | _, _ => False
/-- {k: v}, k a tuple -/
def tDisp1 (tk tv : TE) : TE := fun σ H Q => ∀ p, H p = none → tk σ (upd H p (.dT [])) fun x H1 => tv σ H1 fun y H2 => H2 p = some (.dT []) ∧ ∃ (b : Addr) (ks : List L2.Key), x = .ref b ∧ H2 b = some (.tup (ks.map kV)) ∧ Q (.ref p) (upd H2 p (.dT [(ks, y)]))
section
variable {X : Cx} {k v e : Expr} {tk tv te : TE} {p apos cpos pos : Pos}
theorem pe_disp1 (hu : X.A.units < cLine) (hk : PE X k tk) (hv : PE X v tv) : PE X (.Dict [some k] [v] pos) (tDisp1 tk tv) := by
  refine ⟨fun pins s σ H Q I q => ?_⟩
  have hn := I.hok.fresh (Nat.le_refl s.heap.objs.size)
  have I1 := I.laid (a := s.heap.objs.size) (o := .dT []) (h' := s.heap.push { cls := .type "dict", data := .dict #[] }) (t' := s.toks) (fun _ _ q => Heap.get?_push_of_some _ q) (Nat.le_refl _) (dt_empty s.heap I.big)
  have run := (pps_cons hk hv (pps_nil (X := X) (pos := pos))).run pins { s with heap := s.heap.push { cls := .type "dict", data := .dict #[] } } σ _ (dispQ s.heap.objs.size Q) I1 (q _ hn)
  rw [arm_eval_Dict, zip_pairTrees [some k] [v] X.env pos rfl rfl, dictDisplay_pairs _ (by simp [pairTrees]) (by simp [pairTrees])]
  refine wpAny_bind (wpAny_standAt (wpAny_bind (wpAny_subDictH (knd := tupleKind (mixKind X.prog X.w)) (Q := fun d s' => wpAny (model X.prog X.w) X.A (pure (Value.ref d)) (EP X pins σ Q) X.xe s') hu (by simp [pairTrees]) (thn run fun vs s2 ⟨ps, H2, I2, rel, qq⟩ => ?_))))
  cases rel with
  | nil => exact False.elim qq
  | @cons pr ur ps us r rr =>
    cases rr with
    | cons _ _ => exact False.elim qq
    | nil =>
      obtain ⟨x, y⟩ := pr
      obtain ⟨u1, u2⟩ := ur
      obtain ⟨hp, b, ks, rfl, hb, qq⟩ := qq
      obtain ⟨r1, r2⟩ := r
      obtain rfl : u1 = Value.ref b := r1
      obtain ⟨_, hd, xs, rk, dd⟩ := dt_of I2.hok hp
      cases rk
      refine ⟨[(ks, b, u2)], ⟨rfl, rfl, key_of I2.hok hb, trivial⟩, dd, fun h' tk dd' hs => wpAny_pure ⟨.ref s.heap.objs.size, _, ?_, rfl, qq⟩⟩
      obtain ⟨q, es, ep, hq, h2, h3, h4, _, h5⟩ := dd'
      refine d_write I2 (by rw [hp]; exact True.intro) hs ⟨q, hq⟩ ⟨by rw [sizeLine_eq]; simp, hd, [(ks, b, u2)], .cons ⟨rfl, ?_, r2⟩ .nil, q, es, ep, hq, h2, h3, h4, h5⟩
      show upd H2 _ _ b = _
      rw [upd_ne (ne_of hb hp (fun z => nomatch z))]
      exact hb
/-- dict(d), d with at most one key, a tuple -/
theorem call_dict1 (hu : X.A.units + 2 < cLine) : CallR X (.type "dict") (fun xs H Q => ∃ (a : Addr) (kvs : List (List L2.Key × V)), xs = [.ref a] ∧ H a = some (.dT kvs) ∧ kvs.length ≤ 1 ∧ ∀ p, H p = none → Q (.ref p) (upd H p (.dT kvs))) := by
  intro pins s σ H xs us Q I r q
  obtain ⟨a, kvs, rfl, hd, hl, q⟩ := q
  obtain rfl := Vals.ref1 r
  obtain ⟨z, lo, ws, rel, dd⟩ := dt_of I.hok hd
  have isT : ∀ y ∈ ws, H y.2.1 = some (.tup (y.1.map kV)) := fun y hy => by
    obtain ⟨j, hj⟩ := List.mem_iff_getElem?.mp hy
    obtain ⟨q', _, e1, h2, _⟩ := L2.DX.pget rel hj
    rw [← e1]
    exact h2
  have hn := I.hok.fresh (Nat.le_refl s.heap.objs.size)
  have I1 : Inv X pins σ H { s with heap := s.heap.push { cls := .type "dict", data := .dict #[] } } := I.kept (t' := s.toks) fun b ob q => Heap.get?_push_of_some _ q
  refine dict_copyT (knd := tupleKind (mixKind X.prog X.w)) (by show X.A.units + 1 + 1 < cLine; omega) lo dd (fun y hy => ?_) (fun y hy => ?_) (by rw [← Paired.length rel]; exact hl) fun h' d' hs => ?_
  · exact key_of I1.hok (isT y hy)
  · obtain ⟨_, its, r, o, h1, h2, n, h3⟩ := (show ObjOk X.prog X.w H s.heap y.2.1 (.tup (y.1.map kV)) from I.hok _ _ (isT y hy))
    exact ⟨o, h1, h2⟩
  have hm : (s.heap.objs.size == sysModules) = false := beq_eq_false_iff_ne.mpr (Nat.ne_of_gt I.big)
  obtain ⟨q', es, ep, hq, h2, h3, h4, _, h5⟩ := d'
  refine ⟨.ref s.heap.objs.size, upd H s.heap.objs.size (.dT kvs), I.laid (t' := s.toks) (fun b u e => (hs.2 b (Nat.ne_of_lt (Heap.lt_size e))).trans (Heap.get?_push_of_some _ e)) (Nat.le_refl _) ⟨z, hm, ws, rel.keeps fun c ys ec => ?_, q', es, ep, hq, h2, h3, h4, h5⟩, rfl, q _ hn⟩
  rw [upd_ne (ne_of_none ec hn)]
  exact ec
/-- sorted(()) -/
theorem call_sorted0 : CallR X (.builtin "sorted") (fun vs H Q => ∃ a, vs = [.ref a] ∧ H a = some (.tup []) ∧ ∀ p, H p = none → Q (.ref p) (upd H p (.lst []))) := by
  intro pins s σ H vs us Q I r h
  obtain ⟨a, rfl, ha, q⟩ := h
  obtain rfl := Vals.ref1 r
  obtain ⟨_, its, rv, o, h1, h2, n, h3⟩ := (show ObjOk X.prog X.w H s.heap a (.tup []) from I.hok _ _ ha)
  cases rv
  refine sorted_tup0 h1 h2 h3 fun h' hk hh m hk2 hl => ?_
  have I1 : Inv X pins σ H { s with heap := h' } := I.kept (t' := s.toks) hk
  exact ⟨.ref h'.objs.size, upd H h'.objs.size (.lst []), I1.laid (t' := s.toks) hk2 (Nat.le_refl _) ⟨Nat.zero_le _, [], m, .nil, hl⟩, rfl, q _ (I1.hok.fresh (Nat.le_refl _))⟩
/-- list(d.items()), the keys tuples -/
def tListItemsT (te : TE) : TE := fun σ H Q => te σ H fun x H1 => ∃ (d : Addr) (kvs : List (List L2.Key × V)), x = .ref d ∧ H1 d = some (.dT kvs) ∧
  ∀ (H' : Hp) (p : Addr) (ts : List Addr), (∀ b o, H1 b = some o → H' b = some o) → H1 p = none → H' p = some (.lst (ts.map V.ref)) →
    Paired (fun (t : Addr) (q : List L2.Key × V) => ∃ kq, H1 kq = some (.tup (q.1.map kV)) ∧ H' t = some (.tup [.ref kq, q.2])) ts kvs → Q (.ref p) H'
theorem paired_of {α β : Type} {F : α → β → Prop} : ∀ {xs : List α} {ys : List β}, xs.length = ys.length → (∀ (j : Nat) (x : α) (y : β), xs[j]? = some x → ys[j]? = some y → F x y) → Paired F xs ys
  | [], [], _, _ => .nil
  | [], _ :: _, h, _ => by cases h
  | _ :: _, [], h, _ => by cases h
  | x :: xs, y :: ys, h, g => .cons (g 0 x y rfl rfl) (paired_of (Nat.succ.inj h) fun j a b ha hb => g (j + 1) a b ha hb)
theorem pe_listItemsT (hc : X.calm = true) (he : PE X e te) (hg : Gl X "list") (hm : X.mg "list" = none) (hv : bootBuiltins "list" = some (.type "list")) (hbase : attributeBase e "items" X.env (eval e X.env) = eval e X.env := by rfl) (hline : (apos.endLine == cpos.line) = true := by rfl)
    (hs : starEach [.Call (.Attribute e "items" apos) [] [] cpos] X.env = (false, eval (.Call (.Attribute e "items" apos) [] [] cpos) X.env) :: starEach [] X.env := by rfl) :
    PE X (.Call (.Name "list" p) [.Call (.Attribute e "items" apos) [] [] cpos] [] pos) (tListItemsT te) := by
  refine ⟨fun pins s σ H Q I hq => ?_⟩
  refine wpAny_Call_Name_kw (ld_blt I hg hm hv ?_)
  refine PyProof.Rows.callWith_type1 ?_ hs rfl
  rw [hs]
  show wpAny _ _ (spliced ((false, eval (.Call (.Attribute e "items" apos) [] [] cpos) X.env) :: backTo pos (starEach [] X.env))) _ _ s
  refine Calls.spliced_cons ?_
  refine wpAny_Call_method (T := "dict") (id := "dict.items") hbase rfl hline F.plainAttrs_dict F.slot_dict_items F.type_dict_items (thn (he.run pins s σ H _ I hq) fun u s1 ⟨x, H1, I1, rx, d, kvs, ex, hd, q⟩ => ?_)
  subst ex
  obtain rfl : u = Value.ref d := rx
  obtain ⟨hz, hs0, ws, rel, o, es, ep, ho, hx, hdat, hes, his, hnd⟩ := dt_of I1.hok hd
  have raw : DT.Raw s1.heap d es ep := ⟨o, ho, hx, hdat⟩
  have le : es.size = ws.length := size_of_entries hes
  have lk : kvs.length = ws.length := Paired.length rel
  refine ⟨raw.typeIs, fun o' e' => ?_, ?_⟩
  · cases e'
    exact ⟨o, ho, hx.2.1⟩
  have I2 : Inv X pins σ H1 { s1 with heap := s1.heap.push { cls := .type "dict_items", data := .fields #[.ref d] } } := I1.kept (t' := s1.toks) fun b ob q => Heap.get?_push_of_some _ q
  show wpAny _ _ (callWith cpos (.builtin "dict.items") [.ref d] [] []) _ X.xe s1
  refine Calls.callWith_builtin rfl (PySem.evalArgs_none ?_)
  refine DT.callItems hs0 raw ?_
  refine Calls.spliced_nil ?_
  refine list_items_raw (es := es) (ep := ep) (I1.ok.hd hc) ⟨_, Heap.get?_push_size _ rfl, rfl, rfl⟩ (raw.push _) (by omega) fun h' tk acc c as hk hS hl hG hacc => ?_
  generalize hs2 : ({ s1 with heap := s1.heap.push { cls := .type "dict_items", data := .fields #[.ref d] } } : Shared) = s2 at I2
  have eh : s2.heap = s1.heap.push { cls := .type "dict_items", data := .fields #[.ref d] } := by rw [← hs2]
  have es2 : ∀ h tk, ({ s1 with heap := h, toks := tk } : Shared) = { s2 with heap := h, toks := tk } := fun h tk => by rw [← hs2]
  rw [← eh] at hk hS hG
  have newS : H1 s2.heap.objs.size = none := I2.hok.fresh (Nat.le_refl _)
  have nd : as.Nodup := List.Pairwise.imp (fun {a b} (h : a < b) => Nat.ne_of_lt h) hG.rise
  have lka : as.length = kvs.length := by omega
  have I3 : Inv X pins σ (upd H1 s2.heap.objs.size (.lst (as.map V.ref))) { s2 with heap := h', toks := tk } := I2.laid (t' := tk) hk (Nat.le_refl _) ⟨by rw [List.length_map]; omega, acc.toList, c, by rw [hacc]; exact LiI.vals_refs as, by rw [Array.toArray_toList]; exact hS⟩
  obtain ⟨H2, I4, g, qt⟩ := L2.DX.takeT (P := fun b vs => ∃ (j : Nat) (q : List L2.Key × V) (kq : Addr), as[j]? = some b ∧ kvs[j]? = some q ∧ vs = [.ref kq, q.2] ∧ H1 kq = some (.tup (q.1.map kV))) I2 as _ I3 nd fun b hb => by
    have lo := hG.above b hb
    obtain ⟨j, hj⟩ := List.mem_iff_getElem?.mp hb
    obtain ⟨en, he1, he2⟩ := hG.pairs j b hj
    rw [entry_at hes j] at he1
    cases hxj : ws[j]? with
    | none => rw [hxj] at he1; cases he1
    | some y =>
      rw [hxj] at he1
      cases Option.some.inj he1
      obtain ⟨q', eq1, r1, r2, r3⟩ := L2.DX.pget rel hxj
      refine ⟨Nat.le_of_lt lo, ?_, _, ⟨j, q', y.2.1, hj, eq1, rfl, r2⟩, fun H2 => ⟨by show 2 ≤ sizeLine; decide, [.ref y.2.1, y.2.2], .cons rfl (.cons r3 .nil), ⟨_, he2, rfl, _, rfl⟩⟩⟩
      rw [upd_ne (Nat.ne_of_gt lo)]
      exact I2.hok.fresh (Nat.le_of_lt lo)
  refine ⟨.ref s2.heap.objs.size, H2, I4, rfl, q H2 _ as (fun b u e => g b u ?_) newS (g _ _ upd_same) (paired_of lka fun j t q' ht hq' => ?_)⟩
  · rw [upd_ne (ne_of_none e newS)]
    exact e
  · obtain ⟨vs, ⟨i, q2, kq, e1, e2, rfl, e4⟩, e5⟩ := qt t (List.mem_of_getElem? ht)
    have ij : i = j := (List.getElem?_inj (List.getElem?_eq_some_iff.mp e1).1 nd).mp (e1.trans ht.symm)
    subst ij
    cases Option.some.inj (e2.symm.trans hq')
    exact ⟨kq, e4, e5⟩
end
end Ux

set_option Elab.async false
set_option linter.all false
set_option maxRecDepth 100000
set_option maxHeartbeats 4000000
set_option pp.maxSteps 500
namespace K37
open PySem PySem.Spec PyProof.Rows L2 Ux

def Oks (n : Nat) (ps : List PQ) : Prop := ∀ p ∈ ps, Ok n p
theorem Oks.le {n m : Nat} {ps : List PQ} (h : Oks n ps) (l : n ≤ m) : Oks m ps := fun p hp => (h p hp).le l
theorem zero_zz {n : Nat} {p : PQ} (h : Ok n p) (z : p.1 = 0) : p = zz := by
  have g := h.g
  rw [z] at g
  have e : p.2.natAbs = 1 := by simpa using g
  have q := h.pos
  have e2 : p.2 = 1 := by omega
  exact Prod.ext z e2
/-- further built-ins that still stand -/
structure Bk (mg : Str → Option Value) : Prop where
  fenum : mg "enumerate" = none
  fmax : mg "max" = none
  fsorted : mg "sorted" = none
  tdict : mg "dict" = none
/-- what a list of such objects may ask of one: it is told by its own object, which is no list -/
class Mn (R : Hp → Addr → PQ → Prop) : Prop where
  mono : ∀ {H H' : Hp} {r : Addr} {p : PQ}, R H r p → (∀ o, H r = some o → (∀ xs, o ≠ .lst xs) → H' r = some o) → R H' r p
def RatP (CR : Addr) : Hp → Addr → PQ → Prop := fun H r p => RatAt CR H r p.1 p.2
def TupP : Hp → Addr → PQ → Prop := fun H r p => TupI H r p.1 p.2
instance (CR : Addr) : Mn (RatP CR) := ⟨fun ⟨dx, h⟩ k => ⟨dx, k _ h fun xs z => by cases z⟩⟩
instance : Mn TupP := ⟨fun h k => k _ h fun xs z => by cases z⟩
/-- addresses and their fractions -/
structure LsAt (R : Hp → Addr → PQ → Prop) (H : Hp) (rs : List Addr) (ps : List PQ) : Prop where
  len : rs.length = ps.length
  at_ : ∀ (i : Nat) (r : Addr) (p : PQ), rs[i]? = some r → ps[i]? = some p → R H r p
abbrev RatsAt (CR : Addr) : Hp → List Addr → List PQ → Prop := LsAt (RatP CR)
abbrev TupsAt : Hp → List Addr → List PQ → Prop := LsAt TupP
section
variable {R : Hp → Addr → PQ → Prop} {H H' : Hp} {rs : List Addr} {ps : List PQ} {r : Addr} {p : PQ}
theorem LsAt.same [m : Mn R] (h : LsAt R H rs ps) (s : Same H H') : LsAt R H' rs ps := ⟨h.len, fun i r p a b => m.mono (h.at_ i r p a b) fun o e _ => s _ _ e⟩
theorem LsAt.nil : LsAt R H [] [] := ⟨rfl, fun i r p a _ => by cases a⟩
theorem LsAt.get (h : LsAt R H rs ps) {i : Nat} (hi : i < ps.length) : ∃ r p, rs[i]? = some r ∧ ps[i]? = some p ∧ R H r p := by
  have hr : i < rs.length := by rw [h.len]; exact hi
  exact ⟨rs[i], ps[i], List.getElem?_eq_getElem hr, List.getElem?_eq_getElem hi, h.at_ i _ _ (List.getElem?_eq_getElem hr) (List.getElem?_eq_getElem hi)⟩
theorem LsAt.take (h : LsAt R H rs ps) (n : Nat) : LsAt R H (rs.take n) (ps.take n) :=
  ⟨by rw [List.length_take, List.length_take, h.len], fun i r p a b => by
    rw [List.getElem?_take] at a b
    by_cases hi : i < n
    · rw [if_pos hi] at a b
      exact h.at_ i r p a b
    · rw [if_neg hi] at a
      cases a⟩
theorem LsAt.tail (h : LsAt R H rs ps) : LsAt R H rs.tail ps.tail :=
  ⟨by rw [List.length_tail, List.length_tail, h.len], fun i r p a b => by
    rw [List.getElem?_tail] at a b
    exact h.at_ (i + 1) r p a b⟩
theorem LsAt.app {rs2 : List Addr} {ps2 : List PQ} (h : LsAt R H rs ps) (k : LsAt R H rs2 ps2) : LsAt R H (rs ++ rs2) (ps ++ ps2) :=
  ⟨by rw [List.length_append, List.length_append, h.len, k.len], fun i r' p' a b => by
    by_cases c : i < rs.length
    · rw [List.getElem?_append_left c] at a
      rw [List.getElem?_append_left (by rw [← h.len]; exact c)] at b
      exact h.at_ i r' p' a b
    · rw [List.getElem?_append_right (by omega)] at a
      rw [List.getElem?_append_right (by rw [← h.len]; omega), ← h.len] at b
      exact k.at_ _ r' p' a b⟩
theorem LsAt.cons (h : LsAt R H rs ps) (k : R H r p) : LsAt R H (r :: rs) (p :: ps) :=
  ⟨by rw [List.length_cons, List.length_cons, h.len], fun i r' p' a b => by
    cases i with
    | zero =>
      cases Option.some.inj a
      cases Option.some.inj b
      exact k
    | succ i => exact h.at_ i r' p' a b⟩
theorem LsAt.one (k : R H r p) : LsAt R H [r] [p] := LsAt.nil.cons k
theorem LsAt.but [m : Mn R] {D : Addr} {xs : List V} (h : LsAt R H rs ps) (hD : H D = some (.lst xs)) (s : ∀ b o, H b = some o → b ≠ D → H' b = some o) : LsAt R H' rs ps :=
  ⟨h.len, fun i r p a b => m.mono (h.at_ i r p a b) fun o e n => s _ _ e fun z => by rw [z, hD] at e; exact n _ (Option.some.inj e).symm⟩
theorem Same.put {C : Addr} {o : HO} (s : Same H H') (hC : H C = none) : Same H (upd H' C o) := fun x u e => (upd_ne (ne_of_none e hC)).trans (s x u e)
/-- a comprehension's new list at C, i items long -/
structure Acc (R : Hp → Addr → PQ → Prop) (H0 : Hp) (C : Addr) (ps : List PQ) (i : Nat) (H : Hp) : Prop where
  ex : ∃ us : List Addr, H C = some (.lst (us.map V.ref)) ∧ LsAt R H us (ps.take i)
  sm : Same H0 H
theorem Acc.zero {C : Addr} (hC : H C = none) : Acc R H C ps 0 (upd H C (.lst [])) := ⟨⟨[], upd_same, by rw [List.take_zero]; exact LsAt.nil⟩, same_upd hC⟩
theorem Acc.step [m : Mn R] {H0 K : Hp} {C : Addr} {i : Nat} (a : Acc R H0 C ps i H) (hC : H0 C = none) (s : Same H K) (hr : R K r p) (e : ps[i]? = some p) (hi : i < 1000) :
    ∃ acc, K C = some (.lst acc) ∧ acc.length < sizeLine ∧ Acc R H0 C ps (i + 1) (upd K C (.lst (acc ++ [.ref r]))) := by
  obtain ⟨⟨us, hu, ul⟩, s0⟩ := a
  have hK := s _ _ hu
  have mv : ∀ b o, K b = some o → b ≠ C → upd K C (.lst (us.map V.ref ++ [.ref r])) b = some o := fun b o e n => (upd_ne n).trans e
  refine ⟨_, hK, ?_, ⟨us ++ [r], by rw [upd_same, List.map_append]; rfl, ?_⟩, Same.put (s0.trans s) hC⟩
  · rw [List.length_map, ul.len]
    exact small1000 (by have := List.length_take_le i ps; omega)
  · rw [List.take_add_one, e]
    exact ((ul.same s).app (LsAt.one hr)).but hK mv
theorem Acc.done [m : Mn R] {H0 : Hp} {C : Addr} {n : Nat} (a : Acc R H0 C ps n H) (h : ps.length ≤ n) : ∃ us : List Addr, H C = some (.lst (us.map V.ref)) ∧ LsAt R H us ps := by
  obtain ⟨⟨us, hu, ul⟩, _⟩ := a
  rw [List.take_of_length_le h] at ul
  exact ⟨us, hu, ul⟩
end
/-- Ratio(t, b), made -/
theorem rat_made {CR : Addr} {H : Hp} {Qn : Hp → Prop} {E : XK} {x dx : Addr} {vs : List V} {t b : Int} (e : vs = [.ref x, .int t, .int b]) (nx : H x = none) (nd : H dx = none) (hb : b ≠ 0) (bd : Bd 8000 b) (k : ∀ H1, RatAt CR H1 x (nT t b) (nB t b) → Same H H1 → Qn H1) :
    spRInit CR vs (upd (upd H dx (.own x)) x (.ins CR dx [])) (fun v H' => v = .non ∧ Qn H') E :=
  ⟨x, dx, t, b, e, upd_same, hb, bd, fun H1 hx bu => ⟨rfl, k H1 ⟨dx, hx⟩ (made_same nx nd bu)⟩⟩
theorem map_at {rs : List Addr} {i : Nat} {r : Addr} (h : rs[i]? = some r) : (rs.map V.ref)[i]? = some (.ref r) := by rw [List.getElem?_map, h]; rfl
theorem map_of {rs : List Addr} {i : Nat} {x : V} (h : (rs.map V.ref)[i]? = some x) : ∃ r, rs[i]? = some r ∧ x = .ref r := by
  rw [List.getElem?_map] at h
  cases e : rs[i]? with
  | none => rw [e] at h; cases h
  | some r => rw [e] at h; exact ⟨r, rfl, (Option.some.inj h).symm⟩
theorem cut_to (xs : List V) (e : Nat) (h : e ≤ xs.length) : cutV xs none (some (e : Int)) = xs.take e := by
  unfold cutV
  rw [HT.sIx_none, HT.sIx_nat, List.drop_zero, Nat.sub_zero, Nat.min_eq_left h]
theorem cut_tail (xs : List V) : cutV xs (some 1) none = xs.tail := by
  unfold cutV
  have e : HT.sIx xs.length 0 (some 1) = min 1 xs.length := HT.sIx_nat _ _ 1
  rw [HT.sIx_none, e]
  cases xs with
  | nil => rfl
  | cons x xs =>
    have e2 : min 1 (x :: xs).length = 1 := by rw [List.length_cons]; omega
    rw [e2]
    show (List.drop 1 (x :: xs)).take (xs.length + 1 - 1) = xs
    rw [List.drop_one, List.tail_cons, Nat.add_sub_cancel, List.take_length]
theorem and_true {a b : Prop} (h : a) (k : b) : a ∧ b := ⟨h, k⟩

theorem bd1 : Bd 2000 1 := Bd.of (m := 1) (by decide) (by decide +kernel)
theorem g1i (i : Int) : Nat.gcd i.natAbs (1 : Int).natAbs = 1 := Nat.gcd_one_right _
theorem bdS {i n : Nat} (h : i < 1024) (hn : 10 ≤ n) : Bd n ((i : Nat) : Int) := by
  unfold Bd
  rw [Int.natAbs_natCast]
  exact Nat.lt_of_lt_of_le (show i < 2 ^ 10 from h) (Nat.pow_le_pow_right (by decide) hn)

theorem none_of {H H1 : Hp} {L : Addr} (n : H1 L = none) (s : Same H H1) : H L = none := by
  cases q : H L with
  | none => rfl
  | some o => rw [s _ _ q] at n; cases n
def NotInt (K : PySem.W.Frag) (H : Hp) (v : V) : Prop := ∃ t b1 b2, TyX K H v t ∧ PySem.W.kitOne K t (.type "int") = some b1 ∧ PySem.W.kitOne K t (.type "bool") = some b2 ∧ (b1 && !b2) = false
abbrev RaisesN (CI : Addr) (v : V) (H : Hp) (E : XK) : Prop := ∀ d H', Same H H' → H' d = some (.xd (inFs v)) → E (.ref CI) (some d) H'
section
variable {P : Program} {w : World} {K : PySem.W.Frag} {mg : Str → Option Value} {base : Heap} {CR CI fI : Addr}
theorem mul_any {n m : Nat} {H : Hp} {Q : VK} {t : Addr} {y : V} {a x : PQ} (T : RT K mg CR) (rt : RatAt CR H t a.1 a.2) (ny : NumV CR H y x.1 x.2) (oa : Ok n a) (ox : Ok m x) (hn : n ≤ 2000) (hm : m ≤ 2000) (k : ∀ p H', RatAt CR H' p (cr a x).1 (cr a x).2 → Same H H' → Q (.ref p) H') :
    rBinO K CR (spBin CR fMul gMul) (.ref t) y H Q ∨ rBinI CR (spBin CR fMul gMul) (.ref t) y H Q := by
  obtain ⟨dt, ht⟩ := id rt
  rcases id ny with ⟨r, rfl, ry⟩ | ⟨rfl, e⟩
  · exact .inl ⟨t, dt, _, rfl, ht, ry.ty T, t, .ref r, a.1, a.2, x.1, x.2, rfl, rt, ny, oa.t.le hn, oa.b.le hn, ox.t.le hm, ox.b.le hm, oa.pos, ox.pos, oa.g, ox.g, fun v K1 rv sv => ⟨v, rfl, k v K1 rv sv⟩⟩
  · exact .inr ⟨t, dt, _, x.1, rfl, rfl, ht, t, .int x.1, a.1, a.2, x.1, x.2, rfl, rt, ny, oa.t.le hn, oa.b.le hn, ox.t.le hm, ox.b.le hm, oa.pos, ox.pos, oa.g, ox.g, fun v K1 rv sv => ⟨v, rfl, k v K1 rv sv⟩⟩
theorem add_R {n m : Nat} {H : Hp} {Q : VK} {t r : Addr} {a x : PQ} (T : RT K mg CR) (rt : RatAt CR H t a.1 a.2) (rr : RatAt CR H r x.1 x.2) (oa : Ok n a) (ox : Ok m x) (hn : n ≤ 2000) (hm : m ≤ 2000) (k : ∀ p H', RatAt CR H' p (pl a x).1 (pl a x).2 → Same H H' → Q (.ref p) H') :
    rBinO K CR (spBin CR fAdd gMul) (.ref t) (.ref r) H Q := by
  obtain ⟨dt, ht⟩ := id rt
  exact ⟨t, dt, _, rfl, ht, rr.ty T, t, .ref r, a.1, a.2, x.1, x.2, rfl, rt, .inl ⟨r, rfl, rr⟩, oa.t.le hn, oa.b.le hn, ox.t.le hm, ox.b.le hm, oa.pos, ox.pos, oa.g, ox.g, fun v K1 rv sv => ⟨v, rfl, k v K1 rv sv⟩⟩
end
theorem w10_of {n : Nat} {i : Int} (h : Bd n i) (hn : n ≤ 33) : W10 i := by
  have h1 : i.natAbs < 2 ^ 33 := h.le hn
  have h2 : (2 : Nat) ^ 33 < 10 ^ 10 := by decide
  unfold W10
  omega
theorem sum_le (B : Nat) : ∀ ys : List Str, (∀ y ∈ ys, y.length ≤ B) → (ys.map (·.length)).sum ≤ ys.length * B
  | [], _ => by simp
  | y :: ys, h => by
    rw [List.map_cons, List.sum_cons, List.length_cons, Nat.succ_mul]
    have := sum_le B ys fun z hz => h z (List.mem_cons_of_mem _ hz)
    have := h y List.mem_cons_self
    omega
theorem join_len (sep : Str) : ∀ ys : List Str, (Str.join sep ys).length ≤ (ys.map (·.length)).sum + ys.length * sep.length
  | [] => by simp [Str.join, Str.empty, Str.length]
  | [x] => by simp [Str.join]
  | x :: y :: ys => by
    have ih := join_len sep (y :: ys)
    have e : Str.join sep (x :: y :: ys) = x ++ sep ++ Str.join sep (y :: ys) := rfl
    rw [e, PySem.Str.length_append, PySem.Str.length_append, List.map_cons, List.sum_cons, List.length_cons, Nat.succ_mul]
    omega
abbrev sFrac : Stmt := top 41
abbrev sSum : Stmt := top 42
abbrev sTimes : Stmt := top 43
theorem ru1 {k : Nat} {A : Around} (r : Room k A) : A.units + 1 < cLine := by have := r.units; omega
theorem ru2 {k : Nat} {A : Around} (r : Room k A) : A.units + 2 < cLine := by have := r.units; omega
def DAt (H : Hp) (d : Addr) : Option PQ → Prop
  | none => H d = some (.dT [])
  | some p => ∃ t, H d = some (.dT [([], .ref t)]) ∧ TupI H t p.1 p.2
theorem DAt.same {H H' : Hp} {d : Addr} : ∀ {o : Option PQ}, DAt H d o → Same H H' → DAt H' d o
  | none, h, s => s _ _ h
  | some p, ⟨t, h1, h2⟩, s => ⟨t, s _ _ h1, s _ _ h2⟩
def OkO (n : Nat) (o : Option PQ) : Prop := ∀ p, o = some p → Ok n p
def spFrac : Sp := fun vs H Q _ => ∃ (b : Addr) (n : Nat), vs = [.ref b] ∧ BagAt H b n ∧ n ≤ 900000000 ∧ ∀ (p : Addr) (q : PQ) (H' : Hp), TupI H' p q.1 q.2 → Ok 3 q → BagAt H' b (n + 3) → Bt b H H' → Q (.ref p) H'
def spSum : Sp := fun vs H Q _ => ∃ (a b : Addr) (o : Option PQ) (q : PQ), vs = [.ref a, .ref b] ∧ DAt H a o ∧ DAt H b (some q) ∧ OkO 2000 o ∧ Ok 2000 q ∧ ∀ (d : Addr) (H' : Hp), DAt H' d (some (pl (o.getD zz) q)) → H d = none → Same H H' → Q (.ref d) H'
def spTimes : Sp := fun vs H Q _ => ∃ (a b : Addr) (o : Option PQ) (x : PQ) (n m : Nat), vs = [.ref a, .ref b] ∧ DAt H a o ∧ DAt H b (some x) ∧ OkO n o ∧ Ok m x ∧ n + m ≤ 2000 ∧ ∀ (d : Addr) (H' : Hp), DAt H' d (o.map fun p => cr p x) → H d = none → Same H H' → Q (.ref d) H'
section
variable {P : Program} {w : World} {K : PySem.W.Frag} {mg : Str → Option Value} {base : Heap}
theorem scFrac : FnScope ["_law_bag_here"] ["_law_bag_here"] (defScope sFrac) := ⟨rfl, rfl, rfl, by decide +kernel, rfl, by decide +kernel, by decide +kernel⟩
theorem bd_small {i : Int} {n : Nat} (h : i.natAbs < 2 ^ n) : Bd n i := h
theorem ok_frac {f fP fL : Addr} {fd fdP fdL : FuncData} (F : Fun K "_law_fraction" "_law_fraction" sFrac f fd) (DP : Dn K mg "_law_pull" fP) (GP : FnOk P w K mg base CX0 1 fP fdP ["_law_bag_here", "_law_many"] spPull) (bP : Binds K fdP ["_law_bag_here", "_law_many"] [])
    (DL : Dn K mg "_law_low" fL) (GL : FnOk P w K mg base CX0 1 fL fdL ["_law_top", "_law_bottom"] spLow) (bL : Binds K fdL ["_law_top", "_law_bottom"] []) : FnOk P w K mg base CX0 2 f fd ["_law_bag_here"] spFrac := by
  refine F.ok scFrac (fun vs H Q E h => ?_) (fun cdv A outer s H vs Q E hr h => ?_)
  · obtain ⟨b, n, rfl, _⟩ := h
    rfl
  · obtain ⟨b, n, rfl, B0, hn, q⟩ := h
    refine ⟨_, pss_one (ps_ret (pe_call GL hr (by rfl) DL.gl DL.kp bL .nil pass0 (pa_cons (pe_op op_sub (pe_call GP hr (by rfl) DP.gl DP.kp bP .nil pass0 (pa_cons (pv 0) (pa_cons pe_int pa_nil))) pe_int) (pa_cons (pe_op op_add pe_int (pe_op op_mulW (pe_call GP hr (by rfl) DP.gl DP.kp bP .nil pass0 (pa_cons (pv 0) (pa_cons pe_int pa_nil))) (pe_call GP hr (by rfl) DP.gl DP.kp bP .nil pass0 (pa_cons (pv 0) (pa_cons pe_int pa_nil))))) pa_nil)))), ?_⟩
    refine ⟨_, rfl, b, 13, n, rfl, by decide, by decide, B0, by omega, fun r1 H1 l1 u1 B1 b1 => ⟨_, _, rfl, rfl, _, rfl, b, 4, n + 1, rfl, by decide, by decide, B1, by omega, fun r2 H2 l2 u2 B2 b2 => ⟨_, rfl, b, 2, n + 2, rfl, by decide, by decide, B2, by omega, fun r3 H3 l3 u3 B3 b3 => ?_⟩⟩⟩
    have k1 : Bd 3 (r1 - 6) := by unfold Bd; omega
    have k2 : Bd 3 r2 := by unfold Bd; omega
    have k3 : Bd 3 r3 := by unfold Bd; omega
    have k4 : 0 < 1 + r2 * r3 ∧ 1 + r2 * r3 ≤ 4 := by
      rcases (show r3 = 0 ∨ r3 = 1 by omega) with rfl | rfl
      · rw [Int.mul_zero]; omega
      · rw [Int.mul_one]; omega
    have k5 : Bd 3 (1 + r2 * r3) := by unfold Bd; omega
    refine ⟨_, _, rfl, rfl, wide_mul k2 k3 (by decide) (by decide) (by decide), _, _, rfl, rfl, _, _, rfl, by omega, k5.le (by decide), fun p H4 tp s4 => q p (nT (r1 - 6) (1 + r2 * r3), nB (r1 - 6) (1 + r2 * r3)) H4 tp (ok_n k4.1 k1 k5) (B3.same s4) ⟨fun x o e ne => s4 _ _ (((b1.trans b2).trans b3).1 x o e ne), fun l r e => let ⟨r', e'⟩ := ((b1.trans b2).trans b3).2 l r e; ⟨r', s4 _ _ e'⟩⟩⟩
theorem OkO.get {n : Nat} {o : Option PQ} (h : OkO n o) (hn : 1 ≤ n) : Ok n (o.getD zz) := by
  cases o with
  | none => exact ok_zz.le hn
  | some p => exact h p rfl
/-- a dict's one worth, as read with (0, 1) in its stead -/
theorem dget_one {H : Hp} {kvs : List (List L2.Key × V)} {o : Option PQ} {p0 : Addr} (hk : (o = none ∧ kvs = []) ∨ ∃ p t, o = some p ∧ kvs = [([], .ref t)] ∧ TupI H t p.1 p.2) (h0 : H p0 = some (.tup [.int 0, .int 1])) :
    ∃ r, (valV kvs ([] : List L2.Key)).getD (.ref p0) = .ref r ∧ TupI H r (o.getD zz).1 (o.getD zz).2 := by
  rcases hk with ⟨rfl, rfl⟩ | ⟨p, t, rfl, rfl, ht⟩
  · exact ⟨p0, rfl, h0⟩
  · exact ⟨t, rfl, ht⟩
theorem dput_one {H : Hp} {kvs : List (List L2.Key × V)} {o : Option PQ} {v : V} (hk : (o = none ∧ kvs = []) ∨ ∃ p t, o = some p ∧ kvs = [([], .ref t)] ∧ TupI H t p.1 p.2) : putK kvs ([] : List L2.Key) v = [([], v)] ∧ kvs.length ≤ 1 := by
  rcases hk with ⟨rfl, rfl⟩ | ⟨p, t, rfl, rfl, ht⟩
  · exact ⟨rfl, by decide⟩
  · exact ⟨rfl, Nat.le_refl _⟩
theorem hk_same {H H' : Hp} {kvs : List (List L2.Key × V)} {o : Option PQ} (hk : (o = none ∧ kvs = []) ∨ ∃ p t, o = some p ∧ kvs = [([], .ref t)] ∧ TupI H t p.1 p.2) (s : Same H H') : (o = none ∧ kvs = []) ∨ ∃ p t, o = some p ∧ kvs = [([], .ref t)] ∧ TupI H' t p.1 p.2 := by
  rcases hk with h | ⟨p, t, h1, h2, h3⟩
  · exact .inl h
  · exact .inr ⟨p, t, h1, h2, s _ _ h3⟩
theorem scSum : FnScope ["_law_one", "_law_other", "_law_found", "_law_tags", "_law_worth"] ["_law_one", "_law_other"] (defScope sSum) := ⟨rfl, rfl, rfl, by decide +kernel, rfl, by decide +kernel, by decide +kernel⟩
theorem vList : bootBuiltins ("list" : Str) = some (.type "list") := by decide +kernel
theorem ok_sum {f fP : Addr} {fd fdP : FuncData} (F : Fun K "_law_sum" "_law_sum" sSum f fd) (B : Bn mg) (B2 : Bk mg) (DP : Dn K mg "_law_plus" fP) (GP : FnOk P w K mg base CX0 2 fP fdP ["_law_one", "_law_other"] (spTwo fAdd gMul)) (bP : Binds K fdP ["_law_one", "_law_other"] []) : FnOk P w K mg base CX0 3 f fd ["_law_one", "_law_other"] spSum := by
  refine F.ok scSum (fun vs H Q E h => ?_) (fun cdv A outer s H vs Q E hr h => ?_)
  · obtain ⟨a, b, o, q, rfl, _⟩ := h
    rfl
  · obtain ⟨a, b, o, q, rfl, ha, hb, oo, oq, k⟩ := h
    refine ⟨_, pss_cons (ps_set (i := 2) scSum.nd rfl (Or.inl rfl) (pe_callTy (call_dict1 (ru2 hr)) (by rfl) B2.tdict (by decide +kernel) (pa_cons (pv 0) pa_nil)))
      (pss_cons (ps_for PassesOwn.never rfl (pi_list (pe_listItemsT rfl (pv 1) (by rfl) B.tlist vList)) (pg_tup (n := 2) rfl (pgs_cons (pg_name (i := 3) scSum.nd rfl (Or.inl rfl)) (pgs_cons (pg_name (i := 4) scSum.nd rfl (Or.inl rfl)) pgs_nil)))
        (pss_one (ps_dput (ru1 hr) (pv 2) (pv 3) (pe_call GP hr (by rfl) DP.gl DP.kp bP .nil pass0 (pa_cons (pe_dget2 (ru1 hr) (pv 2) (pv 3) (pe_tup (pa_cons pe_int (pa_cons pe_int pa_nil))) ⟨rfl, rfl, rfl, rfl⟩) (pa_cons (pv 4) pa_nil))) (by rfl))))
      (pss_one (ps_ret (pv 2)))), ?_⟩
    obtain ⟨kvs, ek, hk⟩ : ∃ kvs, H a = some (.dT kvs) ∧ ((o = none ∧ kvs = []) ∨ ∃ p t, o = some p ∧ kvs = [([], .ref t)] ∧ TupI H t p.1 p.2) := by
      cases o with
      | none => exact ⟨_, ha, .inl ⟨rfl, rfl⟩⟩
      | some p =>
        obtain ⟨t, h1, h2⟩ := ha
        exact ⟨_, h1, .inr ⟨p, t, rfl, rfl, h2⟩⟩
    obtain ⟨tb, hb1, hb2⟩ := hb
    refine ⟨_, rfl, a, kvs, rfl, ek, by rcases hk with ⟨_, rfl⟩ | ⟨_, _, _, rfl, _⟩ <;> simp, fun d hd => ?_⟩
    have s1 := same_upd (o := .dT kvs) hd
    refine ⟨_, rfl, b, _, rfl, s1 _ _ hb1, fun H2 p ts s2 hp hpl pr => ?_⟩
    cases pr with
    | @cons t1 q1 ts1 qs1 r1 rr =>
      cases rr
      obtain ⟨kq, hkq, ht1⟩ := r1
      have hd2 : H2 d = some (.dT kvs) := s2 _ _ upd_same
      refine ⟨p, rfl, ⟨_, .of hpl⟩, for_list (xs := [V.ref t1]) (fun i σ H' => (i = 0 → ∃ x3 x4, σ = [some (.ref a), some (.ref b), some (.ref d), x3, x4] ∧ H' = H2) ∧ (i = 1 → ∃ x3 x4, σ = [some (.ref a), some (.ref b), some (.ref d), x3, x4] ∧ DAt H' d (some (pl (o.getD zz) q)) ∧ Same H H') ∧ SqL K H' p [V.ref t1]) ⟨fun _ => ⟨none, none, rfl, rfl⟩, fun z => absurd z (by decide), .of hpl⟩ (fun i σ H' _ z => z.2.2) ?_ ?_⟩
      · rintro i v σ H' hv ⟨z0, _, _⟩
        have hi := (List.getElem?_eq_some_iff.mp hv).1
        have hi0 : i = 0 := by simpa using hi
        subst hi0
        cases Option.some.inj hv
        obtain ⟨x3, x4, rfl, rfl⟩ := z0 rfl
        refine ⟨t1, _, rfl, SqT.of ht1, rfl, _, _, rfl, _, _, rfl, rfl, ?_⟩
        have sA := s1.trans s2
        refine ⟨_, rfl, d, rfl, .inr ⟨kvs, .inl hd2⟩, _, rfl, (by show 2 ≤ sizeLine; decide), fun p0 hp0 => ?_⟩
        have s3 := same_upd (o := .tup [V.int 0, .int 1]) hp0
        refine ⟨_, DGet.t (k := []) (s3 _ _ hd2) (s3 _ _ (s2 _ _ hkq)), ?_⟩
        obtain ⟨r, er, hr2⟩ := dget_one (hk_same hk (sA.trans s3)) upd_same
        rw [er]
        have oo2 := oo.get (by decide)
        refine ⟨_, rfl, r, tb, _, _, _, _, rfl, hr2, s3 _ _ (sA _ _ hb2), oo2.t, oo2.b, oq.t, oq.b, oo2.pos, oq.pos, fun r2 H4 rt s4 => ?_⟩
        obtain ⟨ep, el⟩ := dput_one (v := .ref r2) hk
        have hd4 := s4 _ _ (s3 _ _ hd2)
        refine ⟨_, rfl, _, rfl, d, _, rfl, DPut.t (k := []) hd4 (s4 _ _ (s3 _ _ (s2 _ _ hkq))) (by rw [sizeLine_eq]; omega), ?_⟩
        rw [ep]
        have nr : r2 ≠ d := fun z => by have z2 : H4 r2 = _ := rt; rw [z, hd4] at z2; cases z2
        have np : p ≠ d := fun z => by rw [z, hd2] at hpl; cases hpl
        refine ⟨fun z => absurd z (by decide), fun _ => ⟨_, _, rfl, ⟨r2, upd_same, (upd_ne nr).trans rt⟩, Same.put ((sA.trans s3).trans s4) hd⟩, .of ?_⟩
        exact (upd_ne np).trans (s4 _ _ (s3 _ _ hpl))
      · rintro σ H' ⟨_, z1, _⟩
        obtain ⟨x3, x4, rfl, da, sm⟩ := z1 rfl
        exact ⟨_, rfl, k d H' da hd sm⟩
theorem scTimes : FnScope ["_law_one", "_law_other", "_law_found", "_law_tags", "_law_worth", "_law_more", "_law_late", "_law_tag", "_law_key"] ["_law_one", "_law_other"] (defScope sTimes) := ⟨rfl, rfl, rfl, by decide +kernel, rfl, by decide +kernel, by decide +kernel⟩
theorem ok_times {f fP fC : Addr} {fd fdP fdC : FuncData} (F : Fun K "_law_times" "_law_times" sTimes f fd) (B : Bn mg) (B2 : Bk mg) (DP : Dn K mg "_law_plus" fP) (GP : FnOk P w K mg base CX0 2 fP fdP ["_law_one", "_law_other"] (spTwo fAdd gMul)) (bP : Binds K fdP ["_law_one", "_law_other"] [])
    (DC : Dn K mg "_law_cross" fC) (GC : FnOk P w K mg base CX0 2 fC fdC ["_law_one", "_law_other"] (spTwo fMul gMul)) (bC : Binds K fdC ["_law_one", "_law_other"] []) : FnOk P w K mg base CX0 3 f fd ["_law_one", "_law_other"] spTimes := by
  refine F.ok scTimes (fun vs H Q E h => ?_) (fun cdv A outer s H vs Q E hr h => ?_)
  · obtain ⟨a, b, o, x, n, m, rfl, _⟩ := h
    rfl
  · obtain ⟨a, b, o, x, n, m, rfl, ha, hb, oo, ox, le, k⟩ := h
    refine ⟨_, pss_cons (ps_set (i := 2) scTimes.nd rfl (Or.inl rfl) pe_dnewT)
      (pss_cons (ps_for PassesOwn.never rfl (pi_list (pe_listItemsT rfl (pv 0) (by rfl) B.tlist vList)) (pg_tup (n := 2) rfl (pgs_cons (pg_name (i := 3) scTimes.nd rfl (Or.inl rfl)) (pgs_cons (pg_name (i := 4) scTimes.nd rfl (Or.inl rfl)) pgs_nil)))
        (pss_one (ps_for PassesOwn.never rfl (pi_list (pe_listItemsT rfl (pv 1) (by rfl) B.tlist vList)) (pg_tup (n := 2) rfl (pgs_cons (pg_name (i := 5) scTimes.nd rfl (Or.inr rfl)) (pgs_cons (pg_name (i := 6) scTimes.nd rfl (Or.inl rfl)) pgs_nil)))
          (pss_one (ps_if (pt_cmpR (op_eqD hr.units) (pe_lc (own := [("_law_tag", 7)]) (g := gName 7) (tt := tTest (tOp (rIn K false) (tVar 7) (tVar 5))) (te := tVar 7) rfl scTimes.nd (pi_tup (pv 3)) (blkOk_by (own := [("_law_tag", 7)]) (N := ["_law_one", "_law_other", "_law_found", "_law_tags", "_law_worth", "_law_more", "_law_late", "_law_tag", "_law_key"]) (sc := defScope sTimes) (by decide +kernel))
              (fun _ _ _ _ _ => pg_name (i := 7) scTimes.nd rfl (Or.inl rfl) (hf := Or.inr rfl)) (fun _ _ _ _ _ => pts_one (pt_cmpR op_in_seq (pv 7) (pv 5) (by rfl))) (fun _ _ _ _ _ => pv 7)) (pe_lst pa_nil) (nomark _))
            (pss_cons (ps_set (i := 8) scTimes.nd rfl (Or.inl rfl) (pe_tupleOf (by rfl) B.ttuple (pe_callB call_sorted0 (by rfl) B2.fsorted (by decide +kernel) (pa_cons (pe_op op_catA (pv 3) (pv 5)) pa_nil))))
            (pss_one (ps_dput (ru1 hr) (pv 2) (pv 8) (pe_call GP hr (by rfl) DP.gl DP.kp bP .nil pass0 (pa_cons (pe_dget2 (ru1 hr) (pv 2) (pv 8) (pe_tup (pa_cons pe_int (pa_cons pe_int pa_nil))) ⟨rfl, rfl, rfl, rfl⟩) (pa_cons (pe_call GC hr (by rfl) DC.gl DC.kp bC .nil pass0 (pa_cons (pv 4) (pa_cons (pv 6) pa_nil))) pa_nil))) (by rfl)))) pss_nil)))))
      (pss_one (ps_ret (pv 2)))), ?_⟩
    obtain ⟨kvs, ek, hk⟩ : ∃ kvs, H a = some (.dT kvs) ∧ ((o = none ∧ kvs = []) ∨ ∃ p t, o = some p ∧ kvs = [([], .ref t)] ∧ TupI H t p.1 p.2) := by
      cases o with
      | none => exact ⟨_, ha, .inl ⟨rfl, rfl⟩⟩
      | some p =>
        obtain ⟨t, h1, h2⟩ := ha
        exact ⟨_, h1, .inr ⟨p, t, rfl, rfl, h2⟩⟩
    obtain ⟨tb, hb1, hb2⟩ := hb
    refine fun d hd => ?_
    have s1 := same_upd (o := .dT []) hd
    refine ⟨_, rfl, a, _, rfl, s1 _ _ ek, fun H2 p ts s2 hp hpl pr => ?_⟩
    have sA := s1.trans s2
    have hd2 : H2 d = some (.dT []) := s2 _ _ upd_same
    refine ⟨p, rfl, ⟨_, .of hpl⟩, ?_⟩
    rcases hk with ⟨rfl, rfl⟩ | ⟨q, t, rfl, rfl, ht⟩
    · cases pr
      refine for_list (xs := []) (fun i σ H' => σ = [some (.ref a), some (.ref b), some (.ref d), none, none, none, none, none, none] ∧ H' = H2) ⟨rfl, rfl⟩ (fun i σ H' _ z => by rw [z.2]; exact .of hpl) (fun i v σ H' hv _ => by cases hv) ?_
      rintro σ H' ⟨rfl, rfl⟩
      exact ⟨_, rfl, k d H' hd2 hd sA⟩
    · cases pr with
      | @cons t1 q1 ts1 qs1 r1 rr =>
        cases rr
        obtain ⟨kq, hkq, ht1⟩ := r1
        refine for_list (xs := [V.ref t1]) (fun i σ H' => (i = 0 → σ = [some (.ref a), some (.ref b), some (.ref d), none, none, none, none, none, none] ∧ H' = H2) ∧ (i = 1 → σ[2]? = some (some (.ref d)) ∧ DAt H' d (some (cr q x)) ∧ Same H H') ∧ SqL K H' p [V.ref t1]) ⟨fun _ => ⟨rfl, rfl⟩, fun z => absurd z (by decide), .of hpl⟩ (fun i σ H' _ z => z.2.2) ?_ ?_
        · rintro i v σ H' hv ⟨z0, _, _⟩
          have hi := (List.getElem?_eq_some_iff.mp hv).1
          have hi0 : i = 0 := by simpa using hi
          subst hi0
          cases Option.some.inj hv
          obtain ⟨rfl, rfl⟩ := z0 rfl
          refine ⟨t1, _, rfl, SqT.of ht1, rfl, _, _, rfl, _, _, rfl, rfl, ?_⟩
          refine ⟨_, rfl, b, _, rfl, sA _ _ hb1, fun H3 p2 ts2 s3 hp2 hpl2 pr2 => ?_⟩
          cases pr2 with
          | @cons t2 q2 ts2 qs2 r2 rr2 =>
            cases rr2
            obtain ⟨kq2, hkq2, ht2⟩ := r2
            refine ⟨p2, rfl, ⟨_, .of hpl2⟩, for_list (xs := [V.ref t2]) (fun i σ H' => (i = 0 → σ = [some (.ref a), some (.ref b), some (.ref d), some (.ref kq), some (.ref t), none, none, none, none] ∧ H' = H3) ∧ (i = 1 → σ[2]? = some (some (.ref d)) ∧ DAt H' d (some (cr q x)) ∧ Same H H' ∧ SqL K H' p [V.ref t1]) ∧ SqL K H' p2 [V.ref t2]) ⟨fun _ => ⟨rfl, rfl⟩, fun z => absurd z (by decide), .of hpl2⟩ (fun i σ H' _ z => z.2.2) ?_ ?_⟩
            · rintro i v σ H4 hv ⟨z0, _, _⟩
              have hi := (List.getElem?_eq_some_iff.mp hv).1
              have hi0 : i = 0 := by simpa using hi
              subst hi0
              cases Option.some.inj hv
              obtain ⟨rfl, rfl⟩ := z0 rfl
              refine ⟨t2, _, rfl, SqT.of ht2, rfl, _, _, rfl, _, _, rfl, rfl, ?_⟩
              have hkq3 := s3 _ _ (s2 _ _ hkq)
              have hkq4 := s3 _ _ hkq2
              refine ⟨_, rfl, kq, rfl, ⟨_, .of hkq3⟩, fun D hD => lc_tup (xs := []) (fun i H' => H' = upd H4 D (.lst [])) rfl (fun i H' _ e => by rw [e]; exact .of (same_upd hD _ _ hkq3)) (fun i x H' hx _ => by cases hx) ?_⟩
              rintro H5 rfl
              refine ⟨Nat.zero_le _, fun D2 hD2 => ?_⟩
              have s5 := (same_upd (o := .lst []) hD).trans (same_upd (o := .lst []) hD2)
              refine ⟨_, _, .lst (.of (same_upd hD2 _ _ upd_same)) .nil, .lst (.of upd_same) .nil, rfl, rfl, _, rfl, ?_⟩
              rw [show PyData.eqv (.list []) (.list []) = true by decide]
              refine iteT ⟨_, rfl, _, rfl, kq, kq2, [], [], rfl, rfl, .of (s5 _ _ hkq3), .of (s5 _ _ hkq4), Nat.zero_le _, fun _ => ?_, fun z => absurd rfl z, fun z => absurd rfl z⟩
              refine ⟨kq2, rfl, s5 _ _ hkq4, fun p5 hp5 => .inl ⟨p5, [], rfl, .of upd_same, fun p6 hp6 => ?_⟩⟩
              have s6 := s5.trans ((same_upd (o := .lst []) hp5).trans (same_upd (o := .tup []) hp6))
              have hd6 := s6 _ _ (s3 _ _ hd2)
              refine ⟨_, rfl, d, rfl, .inr ⟨[], .inl hd6⟩, _, rfl, (by show 2 ≤ sizeLine; decide), fun p0 hp0 => ?_⟩
              have s7 := s6.trans (same_upd (o := .tup [V.int 0, .int 1]) hp0)
              refine ⟨_, DGet.t (k := []) (s7 _ _ (s3 _ _ hd2)) (same_upd hp0 _ _ upd_same), ?_⟩
              have oq := oo q rfl
              have S7 := (sA.trans s3).trans s7
              refine ⟨_, rfl, _, rfl, t, tb, q.1, q.2, x.1, x.2, rfl, S7 _ _ ht, S7 _ _ hb2, oq.t.le (by omega), oq.b.le (by omega), ox.t.le (by omega), ox.b.le (by omega), oq.pos, ox.pos, fun r1 H8 rt1 s8 => ?_⟩
              have oc := oq.cr ox
              have oc2 := oc.le le
              refine ⟨p0, r1, 0, 1, (cr q x).1, (cr q x).2, rfl, s8 _ _ upd_same, rt1, ok_zz.t.le (by decide), ok_zz.b.le (by decide), oc2.t, oc2.b, by decide, oc2.pos, fun r2 H9 rt2 s9 => ?_⟩
              have S9 := (s7.trans s8).trans s9
              have hd9 := S9 _ _ (s3 _ _ hd2)
              refine ⟨_, rfl, _, rfl, d, _, rfl, DPut.t (k := []) hd9 (s9 _ _ (s8 _ _ (same_upd hp0 _ _ upd_same))) (by rw [sizeLine_eq]; decide), ?_⟩
              have nr : r2 ≠ d := fun z => by have z2 : H9 r2 = _ := rt2; rw [z, hd9] at z2; cases z2
              have np : p ≠ d := fun z => by rw [z, hd2] at hpl; cases hpl
              have np2 : p2 ≠ d := fun z => by rw [z, s3 _ _ hd2] at hpl2; cases hpl2
              have ez : pl zz (cr q x) = cr q x := zero_pl oc
              refine ⟨fun z => absurd z (by decide), fun _ => ⟨rfl, ⟨r2, upd_same, (upd_ne nr).trans ?_⟩, Same.put ((sA.trans s3).trans S9) hd, .of ((upd_ne np).trans (S9 _ _ (s3 _ _ hpl)))⟩, .of ((upd_ne np2).trans (S9 _ _ hpl2))⟩
              have z2 : H9 r2 = some (.tup [.int (pl zz (cr q x)).1, .int (pl zz (cr q x)).2]) := rt2
              rw [ez] at z2
              exact z2
            · rintro σ H4 ⟨_, z1, _⟩
              obtain ⟨e1, e2, e3, e4⟩ := z1 rfl
              exact ⟨fun z => absurd z (by decide), fun _ => ⟨e1, e2, e3⟩, e4⟩
        · rintro σ H' ⟨_, z1, _⟩
          obtain ⟨e1, e2, e3⟩ := z1 rfl
          exact ⟨_, e1, k d H' e2 hd e3⟩
end

abbrev tI (i : Int) : TE := fun _ H Q => Q (.int i) H
theorem tup_low {t b : Int} {H : Hp} {p : Addr} {q : PQ} (h : TupI H p (nT t b) (nB t b)) (e : q = (nT t b, nB t b)) : TupI H p q.1 q.2 := by rw [e]; exact h
end K37

set_option Elab.async false
set_option linter.all false
set_option maxRecDepth 100000
set_option maxHeartbeats 1000000
namespace K37
open PySem PySem.Spec PyProof.Rows L2 Ux
/-! ### fractions as rational numbers -/
def rv (p : PQ) : Rat := Rat.divInt p.1 p.2
theorem rv_n {t b : Int} (hb : 0 < b) : rv (nT t b, nB t b) = Rat.divInt t b := by
  have h := n_cross (t := t) (b := b) hb
  have p : 0 < nB t b := nB_pos (by omega)
  exact (Rat.divInt_eq_divInt_iff (by omega) (by omega)).mpr h
theorem rv_pl {n m : Nat} {p q : PQ} (h : Ok n p) (k : Ok m q) : rv (pl p q) = rv p + rv q := by
  unfold pl
  rw [rv_n (Int.mul_pos h.pos k.pos)]
  unfold rv
  rw [Rat.divInt_add_divInt _ _ h.ne k.ne]
theorem rv_cr {n m : Nat} {p q : PQ} (h : Ok n p) (k : Ok m q) : rv (cr p q) = rv p * rv q := by
  unfold cr
  rw [rv_n (Int.mul_pos h.pos k.pos)]
  unfold rv
  rw [Rat.divInt_mul_divInt]
theorem rv_ml {n : Nat} {p : PQ} (h : Ok n p) (m : Int) : rv (ml p m) = rv p * (m : Rat) := by
  unfold ml
  rw [rv_n h.pos]
  unfold rv
  have e : ((m : Int) : Rat) = Rat.divInt m 1 := by rw [Rat.divInt_eq_div]; grind
  rw [e, Rat.divInt_mul_divInt, Int.mul_one]
theorem rv_int (m : Int) : rv (m, 1) = (m : Rat) := by
  show Rat.divInt m 1 = _
  rw [Rat.divInt_eq_div]
  grind
theorem rv_inj {n m : Nat} {p q : PQ} (h : Ok n p) (k : Ok m q) (e : rv p = rv q) : p = q := by
  have e2 := (Rat.divInt_eq_divInt_iff h.ne k.ne).mp e
  have e3 := n_eq h.pos k.pos e2
  have a := h.lowP
  have b := k.lowP
  rw [← a, ← b, e3.1, e3.2]
theorem rv_zz : rv zz = 0 := rv_int 0
theorem rv_zero {p : PQ} (h : p.1 = 0) : rv p = 0 := by
  unfold rv
  rw [h]
  exact Rat.zero_divInt _
theorem rv_ne {n : Nat} {p : PQ} (h : Ok n p) (z : p.1 ≠ 0) : rv p ≠ 0 := fun e => z (by
  have := rv_inj h ok_zz (e.trans rv_zz.symm)
  rw [this]
  rfl)
/-! ### rows: pairs of powers with a worth -/
abbrev KY := Nat × Nat
abbrev RW := List (KY × PQ)
def lin (c : KY → Rat) : RW → Rat
  | [] => 0
  | e :: r => rv e.2 * c e.1 + lin c r
theorem lin_app (c : KY → Rat) : ∀ a b : RW, lin c (a ++ b) = lin c a + lin c b
  | [], b => by show lin c b = 0 + lin c b; grind
  | e :: a, b => by
    show rv e.2 * c e.1 + lin c (a ++ b) = rv e.2 * c e.1 + lin c a + lin c b
    rw [lin_app c a b]
    grind
theorem lin_perm (c : KY → Rat) {a b : RW} (h : a.Perm b) : lin c a = lin c b := by
  induction h with
  | nil => rfl
  | cons x _ ih => show _ + lin c _ = _ + lin c _; rw [ih]
  | swap x y l => show _ + (_ + lin c l) = _ + (_ + lin c l); grind
  | trans _ _ h1 h2 => exact h1.trans h2
def addR : RW → KY → PQ → RW
  | [], k, w => [(k, w)]
  | e :: r, k, w => if e.1 = k then (k, pl e.2 w) :: r else e :: addR r k w
def vAt (T : RW) (k : KY) : Option PQ := (T.find? fun e => decide (e.1 = k)).map (·.2)
theorem vAt_cons (e : KY × PQ) (T : RW) (k : KY) : vAt (e :: T) k = if e.1 = k then some e.2 else vAt T k := by
  unfold vAt
  rw [List.find?_cons]
  by_cases h : e.1 = k
  · rw [if_pos h, decide_eq_true h]; rfl
  · rw [if_neg h, decide_eq_false h]
theorem vAt_none {T : RW} {k : KY} : vAt T k = none ↔ k ∉ T.map (·.1) := by
  induction T with
  | nil => simp [vAt]
  | cons e T ih =>
    rw [vAt_cons, List.map_cons, List.mem_cons]
    by_cases h : e.1 = k
    · rw [if_pos h]; simp [h]
    · rw [if_neg h, ih]
      constructor
      · rintro h1 (h2 | h2)
        · exact h h2.symm
        · exact h1 h2
      · intro h1 h2
        exact h1 (.inr h2)
theorem vAt_mem {T : RW} {k : KY} {p : PQ} (h : vAt T k = some p) : (k, p) ∈ T := by
  induction T with
  | nil => cases h
  | cons e T ih =>
    rw [vAt_cons] at h
    by_cases he : e.1 = k
    · rw [if_pos he] at h
      cases h
      rw [← he]
      exact List.mem_cons_self
    · rw [if_neg he] at h
      exact List.mem_cons_of_mem _ (ih h)
theorem vAt_of {T : RW} (nd : (T.map (·.1)).Nodup) {e : KY × PQ} (h : e ∈ T) : vAt T e.1 = some e.2 := by
  induction T with
  | nil => cases h
  | cons a T ih =>
    rw [vAt_cons]
    rw [List.map_cons, List.nodup_cons] at nd
    rcases List.mem_cons.mp h with rfl | h
    · rw [if_pos rfl]
    · have : a.1 ≠ e.1 := fun z => nd.1 (z ▸ List.mem_map_of_mem h)
      rw [if_neg this]
      exact ih nd.2 h
theorem addR_new {T : RW} {k : KY} {w : PQ} (h : vAt T k = none) : addR T k w = T ++ [(k, w)] := by
  induction T with
  | nil => rfl
  | cons e T ih =>
    rw [vAt_cons] at h
    by_cases he : e.1 = k
    · rw [if_pos he] at h; cases h
    · rw [if_neg he] at h
      show (if e.1 = k then _ else e :: addR T k w) = _
      rw [if_neg he, ih h]
      rfl
theorem map_id_of {T : RW} {k : KY} {q : PQ} (h : k ∉ T.map (·.1)) : T.map (fun e => if e.1 = k then (e.1, q) else e) = T := by
  induction T with
  | nil => rfl
  | cons e T ih =>
    rw [List.map_cons, List.mem_cons, not_or] at h
    rw [List.map_cons, if_neg (Ne.symm h.1), ih h.2]
theorem addR_old {T : RW} {k : KY} {w p : PQ} (nd : (T.map (·.1)).Nodup) (h : vAt T k = some p) : addR T k w = T.map fun e => if e.1 = k then (e.1, pl p w) else e := by
  induction T with
  | nil => cases h
  | cons e T ih =>
    rw [vAt_cons] at h
    rw [List.map_cons, List.nodup_cons] at nd
    show (if e.1 = k then (k, pl e.2 w) :: T else e :: addR T k w) = _
    rw [List.map_cons]
    by_cases he : e.1 = k
    · rw [if_pos he] at h
      cases h
      rw [if_pos he, if_pos he, he, map_id_of (he ▸ nd.1)]
    · rw [if_neg he] at h
      rw [if_neg he, if_neg he, ih nd.2 h]
theorem addR_keys (T : RW) (k : KY) (w : PQ) : (addR T k w).map (·.1) = if k ∈ T.map (·.1) then T.map (·.1) else T.map (·.1) ++ [k] := by
  induction T with
  | nil => rfl
  | cons e T ih =>
    show ((if e.1 = k then (k, pl e.2 w) :: T else e :: addR T k w)).map (·.1) = _
    by_cases he : e.1 = k
    · rw [if_pos he, if_pos (by rw [List.map_cons, he]; exact List.mem_cons_self), List.map_cons, List.map_cons, he]
    · rw [if_neg he, List.map_cons, List.map_cons, ih]
      by_cases hk : k ∈ T.map (·.1)
      · rw [if_pos hk, if_pos (List.mem_cons_of_mem _ hk)]
      · rw [if_neg hk, if_neg (fun z => (List.mem_cons.mp z).elim (fun z => he z.symm) hk)]
        rfl
theorem addR_nodup {T : RW} {k : KY} {w : PQ} (nd : (T.map (·.1)).Nodup) : ((addR T k w).map (·.1)).Nodup := by
  rw [addR_keys]
  split
  · exact nd
  · rename_i h
    refine List.nodup_append.mpr ⟨nd, by simp, fun a ha b hb => ?_⟩
    rw [List.mem_singleton.mp hb]
    exact fun z => h (z ▸ ha)
theorem addR_len (T : RW) (k : KY) (w : PQ) : (addR T k w).length ≤ T.length + 1 := by
  have e := congrArg List.length (addR_keys T k w)
  rw [List.length_map] at e
  rw [e]
  split
  · rw [List.length_map]; omega
  · rw [List.length_append, List.length_map]; exact Nat.le_refl _
theorem lin_addR (c : KY → Rat) {n : Nat} {T : RW} {k : KY} {w : PQ} (hT : ∀ e ∈ T, ∃ m, Ok m e.2) (hw : Ok n w) : lin c (addR T k w) = lin c T + rv w * c k := by
  induction T with
  | nil => show rv w * c k + 0 = 0 + rv w * c k; grind
  | cons e T ih =>
    show lin c (if e.1 = k then (k, pl e.2 w) :: T else e :: addR T k w) = _
    obtain ⟨m, he2⟩ := hT e List.mem_cons_self
    by_cases he : e.1 = k
    · rw [if_pos he]
      show rv (pl e.2 w) * c k + lin c T = rv e.2 * c e.1 + lin c T + rv w * c k
      rw [rv_pl he2 hw, he]
      grind
    · rw [if_neg he]
      show rv e.2 * c e.1 + lin c (addR T k w) = rv e.2 * c e.1 + lin c T + rv w * c k
      rw [ih fun e h => hT e (List.mem_cons_of_mem _ h)]
      grind
/-- the rows put together, in the order of their first standing -/
def mrg (rows : RW) : RW := rows.foldl (fun T e => addR T e.1 e.2) []
def cnt (rows : RW) (k : KY) : Nat := rows.countP fun e => decide (e.1 = k)
theorem mrg_take {rows : RW} {i : Nat} {e : KY × PQ} (h : rows[i]? = some e) : mrg (rows.take (i + 1)) = addR (mrg (rows.take i)) e.1 e.2 := by
  unfold mrg
  rw [List.take_add_one, h, List.foldl_append]
  rfl
theorem cnt_take {rows : RW} {i : Nat} {e : KY × PQ} (h : rows[i]? = some e) (k : KY) : cnt (rows.take (i + 1)) k = cnt (rows.take i) k + if e.1 = k then 1 else 0 := by
  unfold cnt
  rw [List.take_add_one, h, List.countP_append]
  show _ + List.countP _ [e] = _
  by_cases he : e.1 = k <;> simp [he]
theorem cnt_le (rows : RW) (i : Nat) (k : KY) : cnt (rows.take i) k ≤ cnt rows k := by
  unfold cnt
  exact List.Sublist.countP_le (List.take_sublist _ _)
/-- what is true of the rows put together so far -/
structure Mg (n : Nat) (rows : RW) (i : Nat) (M : RW) : Prop where
  eq : M = mrg (rows.take i)
  nd : (M.map (·.1)).Nodup
  ok : ∀ e ∈ M, Ok ((n + 1) * cnt (rows.take i) e.1) e.2
  lin : ∀ c, K37.lin c M = K37.lin c (rows.take i)
  len : M.length ≤ i
  mem : ∀ e ∈ M, ∃ f ∈ rows, f.1 = e.1
theorem Mg.zero (n : Nat) (rows : RW) : Mg n rows 0 [] where
  eq := by rw [List.take_zero]; rfl
  nd := List.nodup_nil
  ok := fun e h => by cases h
  lin := fun c => by rw [List.take_zero]
  len := Nat.le_refl _
  mem := fun e h => by cases h
theorem addR_mem {T : RW} {k : KY} {w : PQ} {e : KY × PQ} (nd : (T.map (·.1)).Nodup) (h : e ∈ addR T k w) : (e ∈ T ∧ e.1 ≠ k) ∨ (e = (k, w) ∧ vAt T k = none) ∨ ∃ p, vAt T k = some p ∧ e = (k, pl p w) := by
  cases hv : vAt T k with
  | none =>
    rw [addR_new hv] at h
    rcases List.mem_append.mp h with h | h
    · exact .inl ⟨h, fun z => vAt_none.mp hv (z ▸ List.mem_map_of_mem h)⟩
    · exact .inr (.inl ⟨List.mem_singleton.mp h, rfl⟩)
  | some p =>
    rw [addR_old nd hv] at h
    obtain ⟨f, hf, rfl⟩ := List.mem_map.mp h
    by_cases hk : f.1 = k
    · rw [if_pos hk]
      exact .inr (.inr ⟨p, rfl, by rw [hk]⟩)
    · rw [if_neg hk]
      exact .inl ⟨hf, hk⟩
theorem Mg.step {n : Nat} {rows : RW} {i : Nat} {M : RW} {e : KY × PQ} (h : Mg n rows i M) (he : rows[i]? = some e) (hw : Ok n e.2) : Mg n rows (i + 1) (addR M e.1 e.2) := by
  refine ⟨by rw [mrg_take he, h.eq], addR_nodup h.nd, fun f hf => ?_, fun c => ?_, Nat.le_trans (addR_len _ _ _) (Nat.add_le_add_right h.len 1), fun f hf => ?_⟩
  · rw [cnt_take he]
    rcases addR_mem h.nd hf with ⟨h1, h2⟩ | ⟨rfl, hv⟩ | ⟨p, hv, rfl⟩
    · rw [if_neg (Ne.symm h2), Nat.add_zero]
      exact h.ok f h1
    · rw [if_pos rfl]
      exact hw.le (by rw [Nat.mul_add]; omega)
    · rw [if_pos rfl]
      exact ((h.ok _ (vAt_mem hv)).pl hw).le (by show (n + 1) * cnt (rows.take i) e.1 + n + 1 ≤ (n + 1) * (cnt (rows.take i) e.1 + 1); rw [Nat.mul_add]; omega)
  · rw [lin_addR c (fun e he => ⟨_, h.ok e he⟩) hw, h.lin, List.take_add_one, he, lin_app]
    show _ = _ + (rv e.2 * c e.1 + 0)
    grind
  · rcases addR_mem h.nd hf with ⟨h1, _⟩ | ⟨rfl, _⟩ | ⟨p, _, rfl⟩
    · exact h.mem f h1
    · exact ⟨e, List.mem_of_getElem? he, rfl⟩
    · exact ⟨e, List.mem_of_getElem? he, rfl⟩
/-! ### tables -/
def ltK (a b : KY) : Prop := a.1 < b.1 ∨ (a.1 = b.1 ∧ a.2 < b.2)
theorem ltK.ne {a b : KY} (h : ltK a b) : a ≠ b := fun e => by subst e; unfold ltK at h; omega
theorem ltK.asym {a b : KY} (h : ltK a b) (k : ltK b a) : False := by unfold ltK at h k; omega
theorem ltK.trans {a b c : KY} (h : ltK a b) (k : ltK b c) : ltK a c := by unfold ltK at h k ⊢; omega
theorem ltK_or {a b : KY} (h : a ≠ b) : ltK a b ∨ ltK b a := by
  unfold ltK
  have : a.1 ≠ b.1 ∨ a.2 ≠ b.2 := by
    refine Classical.byContradiction fun z => h ?_
    have z1 : a.1 = b.1 := Classical.byContradiction fun y => z (.inl y)
    have z2 : a.2 = b.2 := Classical.byContradiction fun y => z (.inr y)
    exact Prod.ext z1 z2
  omega
structure Canon (N : Nat) (rows T : RW) : Prop where
  srt : T.Pairwise fun a b => ltK a.1 b.1
  nz : ∀ e ∈ T, e.2.1 ≠ 0
  ok : ∀ e ∈ T, Ok N e.2
  lin : ∀ c, K37.lin c T = K37.lin c rows
  len : T.length ≤ rows.length
  mem : ∀ e ∈ T, ∃ f ∈ rows, f.1 = e.1
theorem srt_nodup {T : RW} (h : T.Pairwise fun a b => ltK a.1 b.1) : (T.map (·.1)).Nodup := by
  unfold List.Nodup
  rw [List.pairwise_map]
  exact h.imp fun h => h.ne
theorem lin_drop (c : KY → Rat) : ∀ T : RW, lin c (T.filter fun e => decide (e.2.1 ≠ 0)) = lin c T
  | [] => rfl
  | e :: T => by
    by_cases h : e.2.1 = 0
    · rw [List.filter_cons_of_neg (by simp [h]), lin_drop c T]
      show _ = rv e.2 * c e.1 + lin c T
      rw [rv_zero h]
      grind
    · rw [List.filter_cons_of_pos (by simp [h])]
      show _ + lin c _ = _ + lin c T
      rw [lin_drop c T]
/-- the table of keys in order -/
def tabK (M : RW) (ks : List KY) : RW := (ks.map fun k => (k, (vAt M k).getD zz)).filter fun e => decide (e.2.1 ≠ 0)
theorem tab_canon {n N : Nat} {rows M : RW} {ks : List KY} (m : Mg n rows rows.length M) (hN : ∀ k, (n + 1) * cnt rows k ≤ N) (hp : ks.Perm (M.map (·.1))) (hs : ks.Pairwise ltK) : Canon N rows (tabK M ks) := by
  have hv : ∀ k ∈ ks, ∃ p, vAt M k = some p ∧ (k, p) ∈ M := fun k hk => by
    have := hp.mem_iff.mp hk
    cases hv : vAt M k with
    | none => exact absurd this (vAt_none.mp hv)
    | some p => exact ⟨p, rfl, vAt_mem hv⟩
  have hmem : ∀ e ∈ tabK M ks, e ∈ M ∧ e.2.1 ≠ 0 := fun e he => by
    obtain ⟨h1, h2⟩ := List.mem_filter.mp he
    obtain ⟨k, hk, rfl⟩ := List.mem_map.mp h1
    obtain ⟨p, e1, e2⟩ := hv k hk
    rw [e1] at h2 ⊢
    exact ⟨e2, by simpa using h2⟩
  refine ⟨?_, fun e he => (hmem e he).2, fun e he => ?_, fun c => ?_, ?_, fun e he => m.mem e (hmem e he).1⟩
  · refine List.Pairwise.filter _ ?_
    rw [List.pairwise_map]
    exact hs
  · have := m.ok e (hmem e he).1
    rw [List.take_length] at this
    exact this.le (hN _)
  · unfold tabK
    rw [lin_drop]
    have e1 : (ks.map fun k => (k, (vAt M k).getD zz)).Perm ((M.map (·.1)).map fun k => (k, (vAt M k).getD zz)) := hp.map _
    have e2 : ((M.map (·.1)).map fun k => (k, (vAt M k).getD zz)) = M := by
      rw [List.map_map]
      have : ∀ e ∈ M, (((fun k => (k, (vAt M k).getD zz)) ∘ (·.1)) e) = e := fun e he => by
        show (e.1, (vAt M e.1).getD zz) = e
        rw [vAt_of m.nd he]
        rfl
      rw [List.map_congr_left this]
      exact List.map_id' _
    rw [lin_perm c e1, e2, m.lin, List.take_length]
  · refine Nat.le_trans (List.length_filter_le _ _) ?_
    rw [List.length_map, hp.length_eq, List.length_map]
    exact m.len
def dlt (k : KY) : KY → Rat := fun l => if l = k then 1 else 0
theorem lin_none {k : KY} : ∀ {T : RW}, (∀ e ∈ T, e.1 ≠ k) → lin (dlt k) T = 0
  | [], _ => rfl
  | e :: T, h => by
    show rv e.2 * dlt k e.1 + lin (dlt k) T = 0
    rw [lin_none fun e he => h e (List.mem_cons_of_mem _ he)]
    unfold dlt
    rw [if_neg (h e List.mem_cons_self)]
    grind
theorem canon_eq {n m : Nat} : ∀ {T U : RW}, (T.Pairwise fun a b => ltK a.1 b.1) → (U.Pairwise fun a b => ltK a.1 b.1) → (∀ e ∈ T, e.2.1 ≠ 0 ∧ Ok n e.2) → (∀ e ∈ U, e.2.1 ≠ 0 ∧ Ok m e.2) → (∀ c, lin c T = lin c U) → T = U
  | [], [], _, _, _, _, _ => rfl
  | [], e :: U, _, su, _, hu, h => by
    have := h (dlt e.1)
    have z : lin (dlt e.1) U = 0 := lin_none fun f hf => Ne.symm ((List.pairwise_cons.mp su).1 f hf).ne
    have h1 : lin (dlt e.1) (e :: U) = rv e.2 * dlt e.1 e.1 + lin (dlt e.1) U := rfl
    rw [h1, z] at this
    unfold dlt at this
    rw [if_pos rfl] at this
    have k := hu e List.mem_cons_self
    refine absurd ?_ (rv_ne k.2 k.1)
    have t2 : (0 : Rat) = rv e.2 * 1 + 0 := this
    grind
  | e :: T, [], st, _, ht, _, h => by
    have := h (dlt e.1)
    have z : lin (dlt e.1) T = 0 := lin_none fun f hf => Ne.symm ((List.pairwise_cons.mp st).1 f hf).ne
    have h1 : lin (dlt e.1) (e :: T) = rv e.2 * dlt e.1 e.1 + lin (dlt e.1) T := rfl
    rw [h1, z] at this
    unfold dlt at this
    rw [if_pos rfl] at this
    have k := ht e List.mem_cons_self
    refine absurd ?_ (rv_ne k.2 k.1)
    have t2 : rv e.2 * 1 + 0 = (0 : Rat) := this
    grind
  | e :: T, f :: U, st, su, ht, hu, h => by
    obtain ⟨st1, st2⟩ := List.pairwise_cons.mp st
    obtain ⟨su1, su2⟩ := List.pairwise_cons.mp su
    have ke := ht e List.mem_cons_self
    have kf := hu f List.mem_cons_self
    have zT : ∀ k, k = e.1 ∨ ltK k e.1 → lin (dlt k) T = 0 := fun k hk => lin_none fun g hg z => by
      have := st1 g hg
      rw [z] at this
      rcases hk with rfl | hk
      · exact this.ne rfl
      · exact hk.asym this
    have zU : ∀ k, k = f.1 ∨ ltK k f.1 → lin (dlt k) U = 0 := fun k hk => lin_none fun g hg z => by
      have := su1 g hg
      rw [z] at this
      rcases hk with rfl | hk
      · exact this.ne rfl
      · exact hk.asym this
    have d1 : ∀ k, dlt k k = 1 := fun k => by unfold dlt; rw [if_pos rfl]
    have d0 : ∀ {k l}, l ≠ k → dlt k l = 0 := fun h => by unfold dlt; rw [if_neg h]
    have L : ∀ k, rv e.2 * dlt k e.1 + lin (dlt k) T = rv f.2 * dlt k f.1 + lin (dlt k) U := fun k => h (dlt k)
    have hk : e.1 = f.1 := by
      refine Classical.byContradiction fun ne => ?_
      rcases ltK_or ne with lt | lt
      · have := L e.1
        rw [d1, d0 (Ne.symm ne), zT _ (.inl rfl), zU _ (.inr lt)] at this
        exact rv_ne ke.2 ke.1 (by grind)
      · have := L f.1
        rw [d1, d0 ne, zU _ (.inl rfl), zT _ (.inr lt)] at this
        exact rv_ne kf.2 kf.1 (by grind)
    have hv : e.2 = f.2 := by
      have := L e.1
      rw [← hk, d1, zT _ (.inl rfl), zU _ (.inl hk)] at this
      exact rv_inj ke.2 kf.2 (by grind)
    have ef : e = f := Prod.ext hk hv
    subst ef
    rw [canon_eq st2 su2 (fun g hg => ht g (List.mem_cons_of_mem _ hg)) (fun g hg => hu g (List.mem_cons_of_mem _ hg)) fun c => by
      have : rv e.2 * c e.1 + lin c T = rv e.2 * c e.1 + lin c U := h c
      grind]
theorem Canon.uniq {n m : Nat} {r1 r2 T U : RW} (h : Canon n r1 T) (k : Canon m r2 U) (e : ∀ c, K37.lin c r1 = K37.lin c r2) : T = U :=
  canon_eq h.srt k.srt (fun f hf => ⟨h.nz f hf, h.ok f hf⟩) (fun f hf => ⟨k.nz f hf, k.ok f hf⟩) fun c => by rw [h.lin, k.lin, e]
end K37

set_option Elab.async false
set_option linter.all false
set_option maxRecDepth 100000
set_option maxHeartbeats 1000000
namespace K37
open PySem PySem.Spec PyProof.Rows L2 Ux
/-! ### slopes, exchange, values -/
def pw (r : Rat) : Nat → Rat
  | 0 => 1
  | n + 1 => pw r n * r
def pwr (x : PQ) : Nat → PQ
  | 0 => (1, 1)
  | n + 1 => cr (pwr x n) x
theorem ok_11 : Ok 1 ((1, 1) : PQ) := ⟨by decide, by decide, by unfold Bd; decide, by unfold Bd; decide⟩
theorem ok_i1 {n : Nat} {m : Int} (h : Bd n m) (hn : 1 ≤ n) : Ok n ((m, 1) : PQ) := ⟨Int.one_pos, Nat.gcd_one_right _, h, Nat.lt_of_lt_of_le (show (1 : Int).natAbs < 2 ^ 1 by decide) (Nat.pow_le_pow_right (by decide) hn)⟩
theorem pwr_ok {m : Nat} {x : PQ} (h : Ok m x) : ∀ n, Ok (n * m + 1) (pwr x n)
  | 0 => ok_11.le (by omega)
  | n + 1 => ((pwr_ok h n).cr h).le (by rw [Nat.add_mul]; omega)
theorem rv_11 : rv (1, 1) = 1 := rv_int 1
theorem rv_pwr {m : Nat} {x : PQ} (h : Ok m x) : ∀ n, rv (pwr x n) = pw (rv x) n
  | 0 => rv_11
  | n + 1 => by
    show rv (cr (pwr x n) x) = pw (rv x) n * rv x
    rw [rv_cr (pwr_ok h n) h, rv_pwr h n]
def sl0 (T : RW) : RW := (T.filter fun e => decide (0 < e.1.1)).map fun e => ((e.1.1 - 1, e.1.2), ml e.2 (e.1.1 : Nat))
def sl1 (T : RW) : RW := (T.filter fun e => decide (0 < e.1.2)).map fun e => ((e.1.1, e.1.2 - 1), ml e.2 (e.1.2 : Nat))
def swp (T : RW) : RW := T.map fun e => ((e.1.2, e.1.1), e.2)
def e0 (c : KY → Rat) : KY → Rat := fun k => if 0 < k.1 then (((k.1 : Nat) : Int) : Rat) * c (k.1 - 1, k.2) else 0
def e1 (c : KY → Rat) : KY → Rat := fun k => if 0 < k.2 then (((k.2 : Nat) : Int) : Rat) * c (k.1, k.2 - 1) else 0
theorem lin_sl0 (c : KY → Rat) {n : Nat} : ∀ {T : RW}, (∀ e ∈ T, Ok n e.2) → lin c (sl0 T) = lin (e0 c) T
  | [], _ => rfl
  | e :: T, h => by
    have ih := lin_sl0 c (T := T) fun f hf => h f (List.mem_cons_of_mem _ hf)
    unfold sl0 at ih ⊢
    by_cases hp : 0 < e.1.1
    · rw [List.filter_cons_of_pos (by simp [hp]), List.map_cons]
      show rv (ml e.2 (e.1.1 : Nat)) * c (e.1.1 - 1, e.1.2) + lin c _ = rv e.2 * e0 c e.1 + lin (e0 c) T
      rw [ih, rv_ml (h e List.mem_cons_self)]
      unfold e0
      rw [if_pos hp]
      grind
    · rw [List.filter_cons_of_neg (by simp [hp]), ih]
      show _ = rv e.2 * e0 c e.1 + lin (e0 c) T
      have : e0 c e.1 = 0 := by unfold e0; rw [if_neg hp]
      rw [this]
      grind
theorem lin_sl1 (c : KY → Rat) {n : Nat} : ∀ {T : RW}, (∀ e ∈ T, Ok n e.2) → lin c (sl1 T) = lin (e1 c) T
  | [], _ => rfl
  | e :: T, h => by
    have ih := lin_sl1 c (T := T) fun f hf => h f (List.mem_cons_of_mem _ hf)
    unfold sl1 at ih ⊢
    by_cases hp : 0 < e.1.2
    · rw [List.filter_cons_of_pos (by simp [hp]), List.map_cons]
      show rv (ml e.2 (e.1.2 : Nat)) * c (e.1.1, e.1.2 - 1) + lin c _ = rv e.2 * e1 c e.1 + lin (e1 c) T
      rw [ih, rv_ml (h e List.mem_cons_self)]
      unfold e1
      rw [if_pos hp]
      grind
    · rw [List.filter_cons_of_neg (by simp [hp]), ih]
      show _ = rv e.2 * e1 c e.1 + lin (e1 c) T
      have : e1 c e.1 = 0 := by unfold e1; rw [if_neg hp]
      rw [this]
      grind
theorem lin_swp (c : KY → Rat) : ∀ T : RW, lin c (swp T) = lin (fun k => c (k.2, k.1)) T
  | [] => rfl
  | e :: T => by
    show rv e.2 * c (e.1.2, e.1.1) + lin c (swp T) = rv e.2 * c (e.1.2, e.1.1) + lin _ T
    rw [lin_swp c T]
theorem lin_congr {c d : KY → Rat} (h : ∀ k, c k = d k) (T : RW) : lin c T = lin d T := by
  have : c = d := funext h
  rw [this]
/-- rows that a sheet is made of -/
structure Rws (n : Nat) (rows : RW) : Prop where
  ok : ∀ e ∈ rows, Ok n e.2
  p0 : ∀ e ∈ rows, e.1.1 ≤ 3
  p1 : ∀ e ∈ rows, e.1.2 ≤ 3
  len : rows.length ≤ 6
theorem Canon.rws {n : Nat} {rows T : RW} {m : Nat} (c : Canon n rows T) (r : Rws m rows) : Rws n T :=
  ⟨c.ok, fun e he => let ⟨f, hf, ef⟩ := c.mem e he; ef ▸ r.p0 f hf, fun e he => let ⟨f, hf, ef⟩ := c.mem e he; ef ▸ r.p1 f hf, Nat.le_trans c.len r.len⟩
theorem ml_ok {n : Nat} {p : PQ} {k : Nat} (h : Ok n p) (hk : k ≤ 3) : Ok (n + 2) (ml p (k : Nat)) := by
  have b : Bd 2 ((k : Nat) : Int) := by unfold Bd; rw [Int.natAbs_natCast]; omega
  exact ok_n h.pos (h.t.mul b) (h.b.le (by omega))
theorem Rws.s0 {n : Nat} {T : RW} (h : Rws n T) : Rws (n + 2) (sl0 T) := by
  have go : ∀ e ∈ sl0 T, ∃ f ∈ T, e = ((f.1.1 - 1, f.1.2), ml f.2 (f.1.1 : Nat)) := fun e he => by
    obtain ⟨f, hf, rfl⟩ := List.mem_map.mp he
    exact ⟨f, (List.mem_filter.mp hf).1, rfl⟩
  refine ⟨fun e he => ?_, fun e he => ?_, fun e he => ?_, ?_⟩
  · obtain ⟨f, hf, rfl⟩ := go e he
    exact ml_ok (h.ok f hf) (h.p0 f hf)
  · obtain ⟨f, hf, rfl⟩ := go e he
    exact Nat.le_trans (Nat.sub_le _ _) (h.p0 f hf)
  · obtain ⟨f, hf, rfl⟩ := go e he
    exact h.p1 f hf
  · unfold sl0
    rw [List.length_map]
    exact Nat.le_trans (List.length_filter_le _ _) h.len
theorem Rws.s1 {n : Nat} {T : RW} (h : Rws n T) : Rws (n + 2) (sl1 T) := by
  have go : ∀ e ∈ sl1 T, ∃ f ∈ T, e = ((f.1.1, f.1.2 - 1), ml f.2 (f.1.2 : Nat)) := fun e he => by
    obtain ⟨f, hf, rfl⟩ := List.mem_map.mp he
    exact ⟨f, (List.mem_filter.mp hf).1, rfl⟩
  refine ⟨fun e he => ?_, fun e he => ?_, fun e he => ?_, ?_⟩
  · obtain ⟨f, hf, rfl⟩ := go e he
    exact ml_ok (h.ok f hf) (h.p1 f hf)
  · obtain ⟨f, hf, rfl⟩ := go e he
    exact h.p0 f hf
  · obtain ⟨f, hf, rfl⟩ := go e he
    exact Nat.le_trans (Nat.sub_le _ _) (h.p1 f hf)
  · unfold sl1
    rw [List.length_map]
    exact Nat.le_trans (List.length_filter_le _ _) h.len
theorem Rws.sw {n : Nat} {T : RW} (h : Rws n T) : Rws n (swp T) := by
  refine ⟨fun e he => ?_, fun e he => ?_, fun e he => ?_, ?_⟩
  · obtain ⟨f, hf, rfl⟩ := List.mem_map.mp he
    exact h.ok f hf
  · obtain ⟨f, hf, rfl⟩ := List.mem_map.mp he
    exact h.p1 f hf
  · obtain ⟨f, hf, rfl⟩ := List.mem_map.mp he
    exact h.p0 f hf
  · unfold swp
    rw [List.length_map]
    exact h.len
theorem cnt_one {T : RW} (nd : (T.map (·.1)).Nodup) (k : KY) : cnt T k ≤ 1 := by
  induction T with
  | nil => exact Nat.zero_le _
  | cons e T ih =>
    rw [List.map_cons, List.nodup_cons] at nd
    unfold cnt at ih ⊢
    rw [List.countP_cons]
    by_cases he : e.1 = k
    · have z : List.countP (fun e => decide (e.1 = k)) T = 0 := List.countP_eq_zero.mpr fun f hf => by
        simp only [decide_eq_true_eq]
        exact fun z => nd.1 (he.trans z.symm ▸ List.mem_map_of_mem hf)
      rw [z]
      simp [he]
    · simp only [he, decide_false, Bool.false_eq_true, if_false, Nat.add_zero]
      exact ih nd.2
theorem nd_sl0 {T : RW} (h : T.Pairwise fun a b => ltK a.1 b.1) : ((sl0 T).map (·.1)).Nodup := by
  unfold sl0 List.Nodup
  rw [List.pairwise_map, List.pairwise_map]
  refine List.Pairwise.imp_of_mem (fun {a b} ha hb hab z => ?_) (h.filter _)
  have h1 : 0 < a.1.1 := by simpa using (List.mem_filter.mp ha).2
  have h2 : 0 < b.1.1 := by simpa using (List.mem_filter.mp hb).2
  have z1 := congrArg Prod.fst z
  have z2 := congrArg Prod.snd z
  dsimp only at z1 z2
  unfold ltK at hab
  omega
theorem nd_sl1 {T : RW} (h : T.Pairwise fun a b => ltK a.1 b.1) : ((sl1 T).map (·.1)).Nodup := by
  unfold sl1 List.Nodup
  rw [List.pairwise_map, List.pairwise_map]
  refine List.Pairwise.imp_of_mem (fun {a b} ha hb hab z => ?_) (h.filter _)
  have h1 : 0 < a.1.2 := by simpa using (List.mem_filter.mp ha).2
  have h2 : 0 < b.1.2 := by simpa using (List.mem_filter.mp hb).2
  have z1 := congrArg Prod.fst z
  have z2 := congrArg Prod.snd z
  dsimp only at z1 z2
  unfold ltK at hab
  omega
theorem nd_swp {T : RW} (h : T.Pairwise fun a b => ltK a.1 b.1) : ((swp T).map (·.1)).Nodup := by
  unfold swp List.Nodup
  rw [List.pairwise_map, List.pairwise_map]
  refine h.imp fun {a b} hab z => ?_
  have z1 := congrArg Prod.fst z
  have z2 := congrArg Prod.snd z
  dsimp only at z1 z2
  unfold ltK at hab
  omega
theorem grow1 {n : Nat} {T : RW} (nd : (T.map (·.1)).Nodup) (k : KY) : (n + 1) * cnt T k ≤ n + 1 := by
  have := Nat.mul_le_mul_left (n + 1) (cnt_one nd k)
  omega
theorem cnt_len (T : RW) (k : KY) : cnt T k ≤ T.length := List.countP_le_length
theorem grow6 {n : Nat} {T : RW} (h : Rws n T) (k : KY) : (n + 1) * cnt T k ≤ (n + 1) * 6 := Nat.mul_le_mul_left _ (Nat.le_trans (cnt_len T k) h.len)
/-! ### values -/
def mon (x y : PQ) : KY → Rat := fun k => pw (rv x) k.1 * pw (rv y) k.2
def vst (x y : PQ) (acc : PQ) (e : KY × PQ) : PQ := pl acc (cr (cr e.2 (pwr x e.1.1)) (pwr y e.1.2))
def vS (x y : PQ) (T : RW) : PQ := T.foldl (vst x y) zz
theorem vS_take {x y : PQ} {T : RW} {i : Nat} {e : KY × PQ} (h : T[i]? = some e) : vS x y (T.take (i + 1)) = vst x y (vS x y (T.take i)) e := by
  unfold vS
  rw [List.take_add_one, h, List.foldl_append]
  rfl
theorem term_ok {n m : Nat} {x y : PQ} (hx : Ok m x) (hy : Ok m y) {e : KY × PQ} (h : Ok n e.2) (h0 : e.1.1 ≤ 3) (h1 : e.1.2 ≤ 3) : Ok (n + (6 * m + 2)) (cr (cr e.2 (pwr x e.1.1)) (pwr y e.1.2)) := by
  refine ((h.cr (pwr_ok hx _)).cr (pwr_ok hy _)).le ?_
  have a := Nat.mul_le_mul_right m h0
  have b := Nat.mul_le_mul_right m h1
  omega
theorem vS_ok {n m : Nat} {x y : PQ} (hx : Ok m x) (hy : Ok m y) {T : RW} (h : Rws n T) : ∀ i, i ≤ T.length → Ok (i * (n + 6 * m + 3) + 1) (vS x y (T.take i)) ∧ rv (vS x y (T.take i)) = lin (mon x y) (T.take i)
  | 0, _ => by
    rw [List.take_zero]
    exact ⟨ok_zz.le (by omega), rv_zz⟩
  | i + 1, hi => by
    have hi2 : i < T.length := hi
    have he : T[i]? = some T[i] := List.getElem?_eq_getElem hi2
    have hm := List.getElem_mem hi2
    obtain ⟨o, l⟩ := vS_ok hx hy h i (by omega)
    have t := term_ok hx hy (h.ok _ hm) (h.p0 _ hm) (h.p1 _ hm)
    rw [vS_take he]
    refine ⟨(o.pl t).le (by rw [Nat.add_mul]; omega), ?_⟩
    show rv (pl _ _) = _
    rw [rv_pl o t, l, rv_cr ((h.ok _ hm).cr (pwr_ok hx _)) (pwr_ok hy _), rv_cr (h.ok _ hm) (pwr_ok hx _), rv_pwr hx, rv_pwr hy, List.take_add_one, he, lin_app]
    show _ = _ + (rv T[i].2 * mon x y T[i].1 + 0)
    unfold mon
    grind
/-- the law's value -/
def sc (a b : Nat) (k : KY) : Int := (if a = 1 then (k.1 : Int) else 1) * (if b = 1 then (k.2 : Int) else 1)
def lst (a b : Nat) (x y : PQ) (o : Option PQ) (e : KY × PQ) : Option PQ :=
  if a ≤ e.1.1 ∧ b ≤ e.1.2 then some (pl (o.getD zz) (cr (cr e.2 (sc a b e.1, 1)) (cr (pwr x (e.1.1 - a)) (pwr y (e.1.2 - b))))) else o
def lv (a b : Nat) (x y : PQ) (rows : RW) : Option PQ := rows.foldl (lst a b x y) none
def cab (a b : Nat) (x y : PQ) : KY → Rat := fun k => if a ≤ k.1 ∧ b ≤ k.2 then ((sc a b k : Int) : Rat) * (pw (rv x) (k.1 - a) * pw (rv y) (k.2 - b)) else 0
theorem lv_take {a b : Nat} {x y : PQ} {rows : RW} {i : Nat} {e : KY × PQ} (h : rows[i]? = some e) : lv a b x y (rows.take (i + 1)) = lst a b x y (lv a b x y (rows.take i)) e := by
  unfold lv
  rw [List.take_add_one, h, List.foldl_append]
  rfl
theorem sc_bd {a b : Nat} {k : KY} (h0 : k.1 ≤ 3) (h1 : k.2 ≤ 3) : Bd 4 (sc a b k) := by
  unfold sc Bd
  obtain ⟨i, j⟩ := k
  have hi : i = 0 ∨ i = 1 ∨ i = 2 ∨ i = 3 := by dsimp only at h0; omega
  have hj : j = 0 ∨ j = 1 ∨ j = 2 ∨ j = 3 := by dsimp only at h1; omega
  by_cases ha : a = 1 <;> by_cases hb : b = 1 <;> rcases hi with rfl | rfl | rfl | rfl <;> rcases hj with rfl | rfl | rfl | rfl <;> simp [ha, hb]
theorem lterm_ok {n m a b : Nat} {x y : PQ} (hx : Ok m x) (hy : Ok m y) {e : KY × PQ} (h : Ok n e.2) (h0 : e.1.1 ≤ 3) (h1 : e.1.2 ≤ 3) : Ok (n + 4) (cr e.2 (sc a b e.1, 1)) ∧ Ok (6 * m + 2) (cr (pwr x (e.1.1 - a)) (pwr y (e.1.2 - b))) := by
  refine ⟨h.cr (ok_i1 (sc_bd h0 h1) (by decide)), ((pwr_ok hx _).cr (pwr_ok hy _)).le ?_⟩
  have a1 := Nat.mul_le_mul_right m (show e.1.1 - a ≤ 3 by omega)
  have b1 := Nat.mul_le_mul_right m (show e.1.2 - b ≤ 3 by omega)
  omega
theorem lv_ok {n m a b : Nat} {x y : PQ} (hx : Ok m x) (hy : Ok m y) {rows : RW} (h : Rws n rows) : ∀ i, i ≤ rows.length → OkO (i * (n + 6 * m + 7) + 1) (lv a b x y (rows.take i)) ∧ rv ((lv a b x y (rows.take i)).getD zz) = lin (cab a b x y) (rows.take i)
  | 0, _ => by
    rw [List.take_zero]
    exact And.intro (fun p e => nomatch e) rv_zz
  | i + 1, hi => by
    have hi2 : i < rows.length := hi
    have he : rows[i]? = some rows[i] := List.getElem?_eq_getElem hi2
    have hm := List.getElem_mem hi2
    obtain ⟨o, l⟩ := lv_ok (a := a) (b := b) hx hy h i (by omega)
    have t := lterm_ok (a := a) (b := b) hx hy (h.ok _ hm) (h.p0 _ hm) (h.p1 _ hm)
    have og := o.get (by omega)
    rw [lv_take he, List.take_add_one, he, lin_app]
    show OkO _ (lst a b x y _ _) ∧ rv ((lst a b x y _ _).getD zz) = _ + (rv rows[i].2 * cab a b x y rows[i].1 + 0)
    unfold lst
    by_cases c : a ≤ rows[i].1.1 ∧ b ≤ rows[i].1.2
    · have hc : cab a b x y rows[i].1 = ((sc a b rows[i].1 : Int) : Rat) * (pw (rv x) (rows[i].1.1 - a) * pw (rv y) (rows[i].1.2 - b)) := if_pos c
      rw [if_pos c, hc]
      refine ⟨fun p e => ?_, ?_⟩
      · cases Option.some.inj e
        exact (og.pl (t.1.cr t.2)).le (by rw [Nat.add_mul]; omega)
      · show rv (pl _ _) = _
        rw [rv_pl og (t.1.cr t.2), l, rv_cr t.1 t.2, rv_cr (h.ok _ hm) (ok_i1 (sc_bd (h.p0 _ hm) (h.p1 _ hm)) (by decide)), rv_int, rv_cr (pwr_ok hx _) (pwr_ok hy _), rv_pwr hx, rv_pwr hy]
        grind
    · have hc : cab a b x y rows[i].1 = 0 := if_neg c
      rw [if_neg c, hc]
      refine ⟨fun p e => (o p e).le (by rw [Nat.add_mul]; omega), ?_⟩
      rw [l]
      grind
theorem cab00 (x y : PQ) (k : KY) : cab 0 0 x y k = mon x y k := by
  unfold cab mon sc
  rw [if_pos ⟨Nat.zero_le _, Nat.zero_le _⟩]
  simp
theorem cab10 (x y : PQ) (k : KY) : cab 1 0 x y k = e0 (mon x y) k := by
  unfold cab e0 mon sc
  by_cases h : 0 < k.1
  · rw [if_pos ⟨h, Nat.zero_le _⟩, if_pos h]
    simp
  · rw [if_neg (fun z => h z.1), if_neg h]
theorem cab01 (x y : PQ) (k : KY) : cab 0 1 x y k = e1 (mon x y) k := by
  unfold cab e1 mon sc
  by_cases h : 0 < k.2
  · rw [if_pos ⟨Nat.zero_le _, h⟩, if_pos h]
    simp
  · rw [if_neg (fun z => h z.2), if_neg h]
theorem cab11 (x y : PQ) (k : KY) : cab 1 1 x y k = e0 (e1 (mon x y)) k := by
  unfold cab e0 e1 mon sc
  by_cases h : 0 < k.1
  · rw [if_pos h]
    by_cases h2 : 0 < k.2
    · rw [if_pos ⟨h, h2⟩]
      dsimp only
      rw [if_pos h2]
      have : (((if 1 = 1 then ((k.1 : Nat) : Int) else 1) * (if 1 = 1 then ((k.2 : Nat) : Int) else 1) : Int) : Rat) = (((k.1 : Nat) : Int) : Rat) * (((k.2 : Nat) : Int) : Rat) := by
        rw [if_pos rfl, if_pos rfl, Rat.intCast_mul]
      rw [this]
      grind
    · rw [if_neg (fun z => h2 z.2)]
      dsimp only
      rw [if_neg h2]
      grind
  · rw [if_neg (fun z => h z.1), if_neg h]
/-- a value of a table is the law's -/
theorem val_eq {n m k a b : Nat} {x y : PQ} {rows T : RW} (hx : Ok m x) (hy : Ok m y) (r : Rws n rows) (t : Rws k T) (e : lin (mon x y) T = lin (cab a b x y) rows) : vS x y T = (lv a b x y rows).getD zz := by
  obtain ⟨o1, l1⟩ := vS_ok hx hy t T.length (Nat.le_refl _)
  obtain ⟨o2, l2⟩ := lv_ok (a := a) (b := b) hx hy r rows.length (Nat.le_refl _)
  rw [List.take_length] at o1 l1 o2 l2
  exact rv_inj o1 (o2.get (by omega)) (l1.trans (e.trans l2.symm))
/-! ### two tables compared -/
def hb (U : RW) : RW → Bool
  | [] => true
  | e :: r => match vAt U e.1 with
    | none => false
    | some q => decide (e.2 = q) && hb U r
theorem hb_iff {U : RW} : ∀ {T : RW}, hb U T = true ↔ ∀ e ∈ T, vAt U e.1 = some e.2
  | [] => Iff.intro (fun _ e h => nomatch h) fun _ => rfl
  | e :: r => by
    show (match vAt U e.1 with | none => false | some q => decide (e.2 = q) && hb U r) = true ↔ _
    cases hv : vAt U e.1 with
    | none =>
      refine Iff.intro (fun h => nomatch h) fun h => ?_
      have := h e List.mem_cons_self
      rw [hv] at this
      cases this
    | some q =>
      show (decide (e.2 = q) && hb U r) = true ↔ _
      rw [Bool.and_eq_true, decide_eq_true_eq, hb_iff]
      constructor
      · rintro ⟨rfl, h⟩ f hf
        rcases List.mem_cons.mp hf with rfl | hf
        · exact hv
        · exact h f hf
      · intro h
        have := h e List.mem_cons_self
        rw [hv] at this
        exact ⟨(Option.some.inj this).symm, fun f hf => h f (List.mem_cons_of_mem _ hf)⟩
theorem srt_len : ∀ {U T : RW}, (T.Pairwise fun a b => ltK a.1 b.1) → (U.Pairwise fun a b => ltK a.1 b.1) → (∀ e ∈ T, e ∈ U) → T.length ≤ U.length
  | _, [], _, _, _ => Nat.zero_le _
  | [], t :: T, _, _, h => by cases h t List.mem_cons_self
  | u :: U, t :: T, st, su, h => by
    obtain ⟨st1, st2⟩ := List.pairwise_cons.mp st
    obtain ⟨su1, su2⟩ := List.pairwise_cons.mp su
    refine Nat.succ_le_succ (srt_len st2 su2 fun e he => ?_)
    rcases List.mem_cons.mp (h e (List.mem_cons_of_mem _ he)) with rfl | h1
    · exfalso
      have h2 := st1 e he
      rcases List.mem_cons.mp (h t List.mem_cons_self) with h3 | h3
      · rw [h3] at h2; exact h2.ne rfl
      · exact h2.asym (su1 t h3)
    · exact h1
theorem srt_eq : ∀ {U T : RW}, (T.Pairwise fun a b => ltK a.1 b.1) → (U.Pairwise fun a b => ltK a.1 b.1) → (∀ e ∈ T, e ∈ U) → T.length = U.length → T = U
  | [], [], _, _, _, _ => rfl
  | [], t :: T, _, _, _, l => by cases l
  | u :: U, [], _, _, _, l => by cases l
  | u :: U, t :: T, st, su, h, l => by
    obtain ⟨st1, st2⟩ := List.pairwise_cons.mp st
    obtain ⟨su1, su2⟩ := List.pairwise_cons.mp su
    have tu : t = u := by
      rcases List.mem_cons.mp (h t List.mem_cons_self) with h3 | h3
      · exact h3
      · exfalso
        have : (t :: T).length ≤ U.length := srt_len st su2 fun e he => by
          rcases List.mem_cons.mp (h e he) with rfl | h1
          · exfalso
            have lt := su1 t h3
            rcases List.mem_cons.mp he with rfl | h4
            · exact lt.ne rfl
            · exact lt.asym (st1 e h4)
          · exact h1
        rw [l, List.length_cons] at this
        omega
    subst tu
    rw [srt_eq st2 su2 (fun e he => by
      rcases List.mem_cons.mp (h e (List.mem_cons_of_mem _ he)) with rfl | h1
      · exact absurd rfl (st1 e he).ne
      · exact h1) (Nat.succ.inj l)]
theorem hb_dec {T U : RW} (st : T.Pairwise fun a b => ltK a.1 b.1) (su : U.Pairwise fun a b => ltK a.1 b.1) : (T.length == U.length && hb U T) = decide (T = U) := by
  by_cases e : T = U
  · subst e
    have : hb T T = true := hb_iff.mpr fun f hf => vAt_of (srt_nodup st) hf
    rw [this]
    simp
  · rw [decide_eq_false e]
    cases h : hb U T with
    | false => exact Bool.and_false _
    | true =>
      have h2 := hb_iff.mp h
      have : ¬ T.length = U.length := fun l => e (srt_eq st su (fun f hf => vAt_mem (h2 f hf)) l)
      simp [this]
end K37

set_option Elab.async false
set_option linter.all false
set_option maxRecDepth 100000
set_option maxHeartbeats 4000000
/-! x in o by o's own __contains__; len(o) by o's own __len__ -/
namespace Ux
open PySem PySem.W
section
variable {M : Model} {A : Around} {E : Value → Shared → Prop} {s : Shared} {K : Frag} {x C f : Addr} {ox : Obj} {od : Option Obj} {y : Value}
theorem unless_fn {name : Str} {args : List Value} {refuse : Sem Value} {Q : Option Value → Shared → Prop} (IN : K.In s.heap) (I : InstAt s.heap x ox C od)
    (hs : findIn K (.ref C) name = some (some (.ref f))) (hf : typeIn K (.ref f) = some (.type "function")) (h : wpAny M A (call (.ref f) (.ref x :: args)) (fun v => Q (some v)) E s) :
    wpAny M A (callSpecialUnlessNone? (.ref x) name args refuse) Q E s := by
  simp only [callSpecialUnlessNone?]
  refine wpAny_bind (wpAny_bind (I.type.here ((looks_findIn IN hs).here (wpAny_holding (wpAny_bind ((bind_fn IN _ hf).here ?_))))))
  have e : (Value.ref f == Value.none) = false := rfl
  simp only [e, Bool.false_eq_true, if_false]
  exact wpAny_bind (wpAny_mono h (fun _ _ z => wpAny_pure z) fun _ _ z => z)
theorem contains_own {Q : Bool → Shared → Prop} (IN : K.In s.heap) (I : InstAt s.heap x ox C od)
    (hs : findIn K (.ref C) "__contains__" = some (some (.ref f))) (hf : typeIn K (.ref f) = some (.type "function")) (h : wpAny M A (call (.ref f) [.ref x, y]) (fun v s' => ∃ b, v = .bool b ∧ Q b s') E s) :
    wpAny M A (contains (.ref x) y) Q E s := by
  unfold contains
  refine wpAny_holding ?_
  have e0 : stdlibNamesSay? (.ref x) y = none := rfl
  rw [e0]
  refine wpAny_bind (wpAny_bind (I.type.here ((looks_findIn IN hs).here ?_)))
  have e : (some (Value.ref f) == some Value.none) = false := rfl
  simp only [e, Bool.false_eq_true, if_false]
  refine wpAny_bind (unless_fn IN I hs hf (wpAny_mono h (fun v s' z => ?_) fun _ _ z => z))
  obtain ⟨b, rfl, q⟩ := z
  exact wpAny_truthy_bool q
end
end Ux
namespace Ux
open PySem PySem.Spec PyProof.Rows L2
section
variable {X : Cx} {k : Nat} {f C : Addr} {fd : FuncData} {sp : Sp}
def rOwnIn (C : Addr) (sp : Sp) (neg : Bool) : R2 := fun x y H Q => ∃ (a dx : Addr) (fs : List (Str × V)), y = .ref a ∧ H a = some (.ins C dx fs) ∧ sp [y, x] H (fun v H' => ∃ b, v = .bl b ∧ Q (.bl (b != neg)) H') (fun _ _ _ => False)
theorem op_inO {ps : List Str} (M : OwnM X.K C "__contains__" f) (F : FnOk X.prog X.w X.K X.mg X.base CX0 k f fd ps sp) (hb : Binds X.K fd ps []) (hr : Room k X.A) : OpR X (compareOp .In) (rOwnIn C sp false) := by
  intro pins s σ H x y v u Q I rx ry h
  obtain ⟨a, dx, fs, rfl, ea, q⟩ := h
  cases (show u = Value.ref a from ry)
  obtain ⟨mA, O, _⟩ := ins_get I.hok ea
  obtain ⟨od, J, _⟩ := O.look
  show wpAny (model X.prog X.w) X.A (do return .bool (← contains (.ref a) v)) (EP X pins σ Q) X.xe s
  refine wpAny_bind (contains_own I.kIn J M.at_ (beq_iff_eq.mp M.fn) (own_run F hr I.env0 hb (vs := [.ref a, x]) I (.cons rfl (.cons rx .nil)) q fun w s' hq => ?_))
  obtain ⟨v, H', I', rv, b, ev, q'⟩ := hq
  subst ev
  cases (show w = Value.bool b from rv)
  have e : (b != false) = b := by cases b <;> rfl
  rw [e] at q'
  exact ⟨b, rfl, wpAny_pure ⟨.bl b, H', I', rfl, q'⟩⟩
theorem call_lenO {ps : List Str} (M : OwnM X.K C "__len__" f) (F : FnOk X.prog X.w X.K X.mg X.base CX0 k f fd ps sp) (hb : Binds X.K fd ps []) (hr : Room (k + 1) X.A) : CallR X (.builtin "len") (fun xs H Q => ∃ (a dx : Addr) (fs : List (Str × V)), xs = [.ref a] ∧ H a = some (.ins C dx fs) ∧ sp [.ref a] H (fun v H' => ∃ n : Int, v = .int n ∧ 0 ≤ n ∧ n < 2 ^ 63 ∧ Q (.int n) H') (fun _ _ _ => False)) := by
  intro pins s σ H xs us Q I r h
  obtain ⟨a, dx, fs, rfl, ea, q⟩ := h
  obtain ⟨u, rfl, rx⟩ := vals1 r
  cases (show u = Value.ref a from rx)
  obtain ⟨mA, O, _⟩ := ins_get I.hok ea
  obtain ⟨od, J, _⟩ := O.look
  refine PySem.Calls.call_function_entry kind_len plain_len entry_len (args_len1 _) ?_
  unfold Builtin.«len»
  refine wpAny_bind (m := oneArg "len" _) (wpAny_pure ?_)
  refine wpAny_bind (m := callSpecial? (.ref a) (Str.ofString "__len__")) (PySem.W.special_fn I.kIn J M.at_ (beq_iff_eq.mp M.fn) (own_run F hr.in1 I.env0.in1 hb (vs := [.ref a]) I (.cons rfl .nil) q fun u s' hq => ?_))
  obtain ⟨v, H', I', rv, n, ev, n0, n1, q'⟩ := hq
  subst ev
  obtain ⟨t, rfl⟩ := rv
  refine wpAny_bind (wpAny_holding (wpAny_pure ?_))
  refine wpAny_bind (wpAny_letGo ?_)
  show wpAny _ _ (if n < 0 then _ else _) _ _ _
  rw [if_neg (by omega)]
  show wpAny _ _ (if n ≥ 2 ^ 63 then _ else _) _ _ _
  rw [if_neg (by omega)]
  exact wpAny_bind (wpAny_mkInt (wpAny_pure ⟨_, rfl, .int n, H', I'.tok _, ⟨_, rfl⟩, q'⟩))
end
end Ux

set_option Elab.async false
set_option linter.all false
set_option maxRecDepth 100000
set_option maxHeartbeats 4000000
set_option pp.maxSteps 600
/-! {**d, k: v}, the keys ints or texts -/
namespace Ux
open PySem PySem.W
section
variable {prog : Program} {w : World} {κ : Type} [DecidableEq κ] {kd : KeyKind prog w κ} {A : Around} {E : Value → Shared → Prop} {s : Shared}
theorem put_pairs {a : Addr} {xs : List (κ × Value)} {j : κ} {ky u : Value} {Q : Unit → Shared → Prop} (hj : kd.is j ky = true) (D : s.heap.DictOf kd a xs) (few : xs.length ≤ sizeLine)
    (q : ∀ g, g.DictOf kd a (stored xs j u) → Heap.SameBut a s.heap g → Q () { s with heap := g }) : wpAny (model prog w) A (dictPut a (kd.hash j) ky u) Q E s := by
  obtain ⟨ob, tb, n, at_, ex, dat, keys, prs, nd⟩ := D
  have fits : tb.size ≤ sizeLine := by
    have e1 := prs.length
    rw [Array.length_toList] at e1
    omega
  have same : (tb.findIdx? fun e => kd.is j e.key) = xs.findIdx? fun p => decide (p.1 = j) := by
    rw [← prs.findIdx j]
    obtain ⟨l⟩ := tb
    simp
  unfold dictPut
  refine wpAny_bind (wpAny_dictFind_of hj at_ dat keys ?_)
  cases fi : tb.findIdx? fun e => kd.is j e.key with
  | some i =>
    have has := any_of_findIdx_some (same ▸ fi)
    have li : (tb.toList.findIdx? fun e => kd.is j e.key) = some i := by
      rw [← fi]
      obtain ⟨l⟩ := tb
      simp
    refine wpAny_updateDict at_ dat (q _ ⟨_, _, n, Heap.get?_update_self _ at_ (Obj.isFreed_of_dict (Obj.data_mapDict dat _)), ex.mapDict _, Obj.data_mapDict dat _, keys.modify _ _, ?_, ?_⟩ (Heap.SameBut.update ..))
    · unfold stored
      rw [if_pos has]
      have z := prs.modify nd li u
      obtain ⟨l⟩ := tb
      simpa using z
    · unfold stored
      rw [if_pos has, keys_map_store]
      exact nd
  | none =>
    have out := not_mem_of_findIdx_none (same ▸ fi)
    have has : ¬ (xs.any fun p => decide (p.1 = j)) = true := fun z => by
      obtain ⟨p, hp, e⟩ := List.any_eq_true.mp z
      exact out (List.mem_map.mpr ⟨p, hp, of_decide_eq_true e⟩)
    refine wpAny_updateDictKeys (hz := fits) at_ dat (q _ ⟨_, _, n + 1, Heap.get?_update_self _ at_ (Obj.isFreed_of_dict (Obj.data_mapDictKeys dat _)), ex.mapDictKeys _, Obj.data_mapDictKeys dat _, keys.push hj _, ?_, ?_⟩ (Heap.SameBut.update ..))
    · unfold stored
      rw [if_neg has]
      have z := prs.append hj (kd.hash j) u
      obtain ⟨l⟩ := tb
      simpa using z
    · unfold stored
      rw [if_neg has, List.map_append, List.nodup_append]
      refine ⟨nd, by simp, fun x hx y hy e => ?_⟩
      rw [List.map_cons, List.map_nil, List.mem_singleton] at hy
      have ej : x = j := e.trans hy
      exact out (ej ▸ hx)
/-- **d into a dict of its own -/
theorem merge_pairs {d a : Addr} {xs more : List (κ × Value)} {Q : Unit → Shared → Prop} (hda : d ≠ a) (hs : (a == sysModules) = false) (hd : s.heap.DictOf kd d xs) (ha : s.heap.DictOf kd a more) (few : xs.length + more.length ≤ sizeLine)
    (q : ∀ g, g.DictOf kd d (merged xs more) → Heap.SameBut d s.heap g → Q () { s with heap := g }) : wpAny (model prog w) A (mergeMapping d (.ref a) false) Q E s := by
  obtain ⟨od, td, nd, atd, exd, datd, keysd, prsd, ndd⟩ := id hd
  obtain ⟨oa, ta, na, ata, exa, data, keysa, prsa, nda⟩ := id ha
  have lnm : more.length = ta.size := by
    rw [← prsa.length]
    simp
  unfold mergeMapping
  refine wpAny_bind (wpAny_isInstance ha.typeIs isSubtype_dict_dict ?_)
  rw [if_pos rfl]
  refine wpAny_bind (wpAny_specialOf ha.typeIs F.slot_dict_iter.lookup ?_)
  refine wpAny_bind (wpAny_pure ?_)
  have e1 : (some (Value.builtin "dict.__iter__") == some (Value.builtin "dict.__iter__")) = true := by simp
  rw [e1]
  dsimp only
  rw [if_neg (by rw [hs]; exact Bool.false_ne_true)]
  have rest : wpAny (model prog w) A (do
      let z ← dictEntries a
      let n ← dictEpoch a
      forIn (List.range z.size) PUnit.unit fun i (_ : PUnit) => (do
        let z' ← dictEntries a
        match z'[i]? with
        | some e => do
          holding [e.key, e.val] (dictPut d e.hash e.key e.val)
          let m ← dictEpoch a
          if (m != n) = true then do
            (unsupported "dict.changed-during-merge" : Sem PUnit)
            pure (ForInStep.yield PUnit.unit)
          else pure (ForInStep.yield PUnit.unit)
        | _ => do
          (unsupported "dict.changed-during-merge" : Sem PUnit)
          pure (ForInStep.yield PUnit.unit) : Sem (ForInStep PUnit))
      pure ()) Q E s := by
    refine wpAny_bind (wpAny_dictEntries ata data ?_)
    refine wpAny_bind (wpAny_dictEpoch ata data ?_)
    refine wpAny_bind ?_
    refine wpAny_forIn_list _ (fun l _ s' => ∃ g i, s' = { s with heap := g } ∧ l = List.range' i (ta.size - i) ∧ i ≤ ta.size ∧ g.DictOf kd d (merged xs (more.take i)) ∧ g.get? a = some oa ∧ Heap.SameBut d s.heap g) _ ?_ ?_ _ _
      ⟨s.heap, 0, rfl, by rw [List.range_eq_range', Nat.sub_zero], Nat.zero_le _, hd, ata, Heap.SameBut.refl _ _⟩
    · rintro x l _ s' ⟨g, i, rfl, hl, hi, gd, ga, gs⟩
      have lt : i < ta.size := by
        rcases Nat.lt_or_ge i ta.size with z | z
        · exact z
        · rw [Nat.sub_eq_zero_of_le z] at hl
          cases hl
      have sp : ta.size - i = ta.size - (i + 1) + 1 := by omega
      rw [sp, List.range'_succ] at hl
      injection hl with h1 h2
      subst h1
      refine wpAny_bind (wpAny_dictEntries ga data ?_)
      rw [Array.getElem?_eq_getElem lt]
      obtain ⟨⟨j, u⟩, hj⟩ : ∃ p, more[x]? = some p := ⟨more[x]'(by omega), List.getElem?_eq_getElem _⟩
      obtain ⟨k1, k2⟩ := prsa.get? (e := ta[x]) (by simp [lt]) hj
      obtain ⟨j', k3, k4⟩ := keysa ta[x] (Array.getElem_mem lt)
      obtain rfl : j' = j := kd.inj _ _ _ k3 k1
      show wpAny _ _ (holding [ta[x].key, ta[x].val] (dictPut d ta[x].hash ta[x].key ta[x].val) >>= _) _ _ _
      rw [k4, k2]
      have lim : (merged xs (more.take x)).length ≤ sizeLine := by
        have b1 := merged_length_le xs (more.take x)
        have b2 : (more.take x).length ≤ more.length := by
          rw [List.length_take]
          omega
        omega
      refine wpAny_bind (wpAny_holding (put_pairs k1 gd lim fun g2 gd2 gs2 => ?_))
      have ga2 : g2.get? a = some oa := (gs2.2 a hda.symm).trans ga
      refine wpAny_bind (wpAny_dictEpoch ga2 data ?_)
      rw [if_neg (by simp)]
      exact wpAny_pure ⟨g2, x + 1, rfl, h2, lt, by rw [merged_take_succ xs more x (j', u) hj]; exact gd2, ga2, gs.trans gs2⟩
    · rintro _ s' ⟨g, i, rfl, hl, hi, gd, ga, gs⟩
      have ei : i = ta.size := by
        rcases Nat.lt_or_ge i ta.size with z | z
        · have sp : ta.size - i = ta.size - (i + 1) + 1 := by omega
          rw [sp, List.range'_succ] at hl
          cases hl
        · exact Nat.le_antisymm hi z
      rw [ei, ← lnm, List.take_length] at gd
      exact wpAny_pure (q g gd gs)
  refine wpAny_bind (wpAny_dictEntries atd datd ?_)
  split
  · refine wpAny_bind (wpAny_dictEntries ata data ?_)
    refine wpAny_bind ?_
    rw [← Array.forIn_toList]
    refine wpAny_forIn_list _ (fun l _ s' => s' = s ∧ ∀ e ∈ l, e ∈ ta) _ ?_ ?_ _ _ ⟨rfl, fun e he => by simpa using he⟩
    · rintro e l _ s' ⟨rfl, hl⟩
      obtain ⟨j, k3, _⟩ := keysa e (hl e (List.mem_cons_self ..))
      have b := kd.byValue _ _ k3
      split
      · rename_i x ek
        rw [ek] at b
        cases b
      · exact wpAny_pure ⟨rfl, fun e' he => hl e' (List.mem_cons_of_mem _ he)⟩
    · rintro _ s' ⟨rfl, _⟩
      exact rest
  · exact rest
end
end Ux

set_option Elab.async false
set_option linter.all false
set_option maxRecDepth 100000
set_option maxHeartbeats 4000000
set_option pp.maxSteps 150
/-! {**d, k: v}, the keys ints or texts: the display -/
namespace Ux
open PySem PySem.W
section
variable {prog : Program} {w : World} {κ : Type} [DecidableEq κ] {kd : KeyKind prog w κ} {A : Around} {E : Value → Shared → Prop} {s : Shared}
abbrev mtD : Obj := { cls := .type "dict", data := .dict #[] }
theorem display_star {m k v : Sem Value} {Q : Value → Shared → Prop}
    (h : wpAny (model prog w) A m (fun u s1 => ∃ (a : Addr) (xs : List (κ × Value)), u = .ref a ∧ (a == sysModules) = false ∧ s.heap.objs.size ≠ a ∧ s1.heap.DictOf kd s.heap.objs.size [] ∧ s1.heap.DictOf kd a xs ∧ xs.length + 1 ≤ sizeLine ∧ (xs.map (·.1)).Nodup ∧
      ∀ g, g.DictOf kd s.heap.objs.size xs → Heap.SameBut s.heap.objs.size s1.heap g →
        wpAny (model prog w) A (evalPairs [(k, v)]) (fun vs s2 => ∃ (j : κ) (y : Value) (ys : List (κ × Value)), Carries kd vs [(j, y)] ∧ s2.heap.DictOf kd g.objs.size [] ∧ s2.heap.DictOf kd s.heap.objs.size ys ∧ ys.length + 1 ≤ sizeLine ∧ s.heap.objs.size ≠ g.objs.size ∧ (g.objs.size == sysModules) = false ∧
          ∀ g2, g2.DictOf kd g.objs.size [(j, y)] → Heap.SameBut g.objs.size s2.heap g2 → ∀ g3 tk, g3.DictOf kd s.heap.objs.size (stored ys j y) → Heap.SameBut s.heap.objs.size g2 g3 → Q (.ref s.heap.objs.size) { s2 with heap := g3, toks := tk }) E { s1 with heap := g.push mtD })
      E { s with heap := s.heap.push mtD }) : wpAny (model prog w) A (dictDisplay [(none, m), (some k, v)]) Q E s := by
  unfold dictDisplay
  dsimp only
  refine wpAny_bind ?_
  rw [List.forIn_cons]
  refine wpAny_bind ?_
  refine wpAny_bind ?_
  simp only [List.isEmpty_nil, if_true]
  refine wpAny_pure ?_
  refine wpAny_bind ?_
  refine wpAny_alloc ?_
  refine wpAny_bind (wpAny_holding (wpAny_mono h (fun u s1 h1 => ?_) fun _ _ e => e))
  obtain ⟨a, xs, rfl, hs, na, dd, da, few, nd, h2⟩ := h1
  have fin : ∀ g, g.DictOf kd s.heap.objs.size xs → Heap.SameBut s.heap.objs.size s1.heap g → True := fun _ _ _ => trivial
  refine wpAny_bind (wpAny_onRaise (wpAny_tryCatch (wpAny_onRaise (wpAny_holding (merge_pairs na hs dd da (by rw [List.length_nil]; omega) fun g gd gs => ?_)))))
  rw [merged_nil_of_nodup xs nd] at gd
  have h3 := h2 g gd gs
  clear h2 fin
  refine wpAny_pure ?_
  dsimp only
  rw [List.forIn_cons]
  refine wpAny_bind ?_
  dsimp only
  have e17 : (([] ++ [(k, v)] : List (Sem Value × Sem Value)).length == 17) = false := rfl
  simp only [e17, Bool.false_eq_true, if_false]
  refine wpAny_pure ?_
  dsimp only
  rw [List.forIn_nil]
  refine wpAny_pure ?_
  dsimp only
  refine wpAny_bind ?_
  rw [if_neg (by simp)]
  refine wpAny_bind (wpAny_holding (wpAny_subDict (knd := kd) (by simp) ?_))
  refine wpAny_mono h3 (fun vs s2 h4 => ?_) fun _ _ e => e
  obtain ⟨j, y, ys, ca, d1, d2, few2, n2, m2, h5⟩ := h4
  refine ⟨[(j, y)], ca, d1, fun g2 dg2 sg2 => ?_⟩
  have e1 : merged [] [(j, y)] = [(j, y)] := rfl
  rw [e1] at dg2
  have d2' : g2.DictOf kd s.heap.objs.size ys := d2.sameBut sg2 n2
  refine wpAny_bind (wpAny_onRaise (wpAny_holding (merge_pairs n2 m2 d2' dg2 (by simpa using few2) fun g3 dg3 sg3 => ?_)))
  refine wpAny_pure ?_
  dsimp only
  have e2 : merged ys [(j, y)] = stored ys j y := rfl
  rw [e2] at dg3
  exact wpAny_pure (h5 g2 dg2 sg2 g3 _ dg3 sg3)
end
end Ux

set_option Elab.async false
set_option linter.all false
set_option maxRecDepth 100000
set_option maxHeartbeats 4000000
set_option pp.maxSteps 300
/-! {**d, k: v}, the keys ints or texts: the rule; [*d, ..] over a dict's keys -/
namespace Ux
open PySem PySem.Spec PyProof.Rows L2
def tDispS (te tk tv : TE) : TE := fun σ H Q => ∀ p, H p = none → te σ (upd H p (.dK [])) fun x H1 => H1 p = some (.dK []) ∧ ∃ (a : Addr) (kvs : List (L2.Key × V)), x = .ref a ∧ H1 a = some (.dK kvs) ∧ a ≠ p ∧ kvs.length + 1 ≤ sizeLine ∧
  ∀ p2, upd H1 p (.dK kvs) p2 = none → tk σ (upd (upd H1 p (.dK kvs)) p2 (.dK [])) fun y H2 => tv σ H2 fun z H3 => H3 p2 = some (.dK []) ∧ H3 p = some (.dK kvs) ∧ ∃ k, y = kV k ∧ Q (.ref p) (upd (upd H3 p2 (.dK [(k, z)])) p (.dK (putK kvs k z)))
section
variable {X : Cx} {e k v : Expr} {te tk tv : TE} {pos : Pos}
theorem pe_dispS (he : PE X e te) (hk : PE X k tk) (hv : PE X v tv) : PE X (.Dict [none, some k] [e, v] pos) (tDispS te tk tv) := by
  refine ⟨fun pins s σ H Q I q => ?_⟩
  have hn := I.hok.fresh (Nat.le_refl s.heap.objs.size)
  have I1 := I.laid (a := s.heap.objs.size) (o := .dK []) (h' := s.heap.push { cls := .type "dict", data := .dict #[] }) (t' := s.toks) (fun _ _ q => Heap.get?_push_of_some _ q) (Nat.le_refl _) (dk_empty s.heap I.big)
  rw [arm_eval_Dict]
  refine wpAny_bind (wpAny_standAt ?_)
  show wpAny _ _ (dictDisplay [(none, do let x ← eval e X.env; standAt pos; pure x), (some (eval k X.env), do let x ← eval v X.env; standAt pos; pure x)]) _ _ s
  refine display_star (kd := mixKind X.prog X.w) ?_
  refine wpAny_bind (thn (he.run pins _ σ _ _ I1 (q _ hn)) fun u s1 hq => ?_)
  obtain ⟨x, H1, I2, rx, hp, a, kvs, rfl, ha, na, few, q2⟩ := hq
  obtain rfl : u = Value.ref a := rx
  refine wpAny_bind (wpAny_standAt (wpAny_pure ?_))
  obtain ⟨z1, m1, vs1, rk1, d1⟩ := dk_of I2.hok hp
  cases rk1
  obtain ⟨z2, m2, xs, rk2, d2⟩ := dk_of I2.hok ha
  have ln : kvs.length = xs.length := Paired.length rk2
  have nd : (xs.map (·.1)).Nodup := by
    obtain ⟨o, es, ep, _, _, _, _, _, n⟩ := id d2
    exact n
  refine ⟨a, xs, rfl, m2, na.symm, d1, d2, by omega, nd, fun g gd gs => ?_⟩
  have he' : ∃ q, g.get? s.heap.objs.size = some q := let ⟨q, _, _, hq, _⟩ := gd; ⟨q, hq⟩
  have I3 : Inv X pins σ (upd H1 s.heap.objs.size (.dK kvs)) { s1 with heap := g } := d_write (t' := s1.toks) I2 (by rw [hp]; exact True.intro) gs he' (dk_new (by omega) m1 rk2 gd)
  have hn2 := I3.hok.fresh (Nat.le_refl g.objs.size)
  have I4 := I3.laid (a := g.objs.size) (o := .dK []) (h' := g.push { cls := .type "dict", data := .dict #[] }) (t' := s1.toks) (fun _ _ q => Heap.get?_push_of_some _ q) (Nat.le_refl _) (dk_empty g I3.big)
  refine evalPairs_cons (thn (hk.run pins _ σ _ _ I4 (q2 _ hn2)) fun uk s2 hq => ?_)
  obtain ⟨y, H2, I5, ry, q3⟩ := hq
  refine wpAny_bind (thn (hv.run pins _ σ _ _ I5 q3) fun uv s3 hq => ?_)
  obtain ⟨z, H3, I6, rz, hp2, hp3, j, rfl, q4⟩ := hq
  refine wpAny_bind (wpAny_standAt (wpAny_pure (evalPairs_nil ?_)))
  obtain ⟨z3, m3, vs3, rk3, d3⟩ := dk_of I6.hok hp2
  cases rk3
  obtain ⟨z4, m4, ys, rk4, d4⟩ := dk_of I6.hok hp3
  have nn : s.heap.objs.size ≠ g.objs.size := fun z => by
    rw [← z, upd_same] at hn2
    cases hn2
  have ly : kvs.length = ys.length := Paired.length rk4
  refine ⟨j, uv, ys, ⟨kV_is ry, rfl, trivial⟩, d3, d4, by omega, nn, m3, fun g2 dg2 sg2 g3 tk3 dg3 sg3 => ?_⟩
  have e2 : ∃ q, g2.get? g.objs.size = some q := let ⟨q, _, _, hq, _⟩ := dg2; ⟨q, hq⟩
  have I7 : Inv X pins σ (upd H3 g.objs.size (.dK [(j, z)])) { s3 with heap := g2 } := d_write (t' := s3.toks) I6 (by rw [hp2]; exact True.intro) sg2 e2 (dk_new (by rw [sizeLine_eq]; simp) m3 (.cons ⟨rfl, rz⟩ .nil) dg2)
  have hp4 : upd H3 g.objs.size (.dK [(j, z)]) s.heap.objs.size = some (.dK kvs) := (upd_ne nn).trans hp3
  have e3 : ∃ q, g3.get? s.heap.objs.size = some q := let ⟨q, _, _, hq, _⟩ := dg3; ⟨q, hq⟩
  have lp := length_putK kvs j z
  exact ⟨.ref s.heap.objs.size, _, d_write (s := { s3 with heap := g2 }) (t' := tk3) I7 (by rw [hp4]; exact True.intro) sg3 e3 (dk_new (by omega) m4 (rk4.put j rz) dg3), rfl, q4⟩
end
end Ux

set_option Elab.async false
set_option linter.all false
set_option maxRecDepth 100000
set_option maxHeartbeats 4000000
set_option pp.maxSteps 300
/-! [*d, ..] over a dict's keys -/
namespace Ux
open PySem PySem.Spec PyProof.Rows L2
def tStarD (te : TE) (t : TA) : TA := fun σ H Q => te σ H fun x H1 => ∃ (a : Addr) (kvs : List (L2.Key × V)), x = V.ref a ∧ Rd H1 a (.dK kvs) ∧ t σ H1 fun ys H2 => Q ((kvs.map fun kv => kV kv.1) ++ ys) H2
section
variable {X : Cx} {e : Expr} {es : List Expr} {te : TE} {t : TA} {p : Pos}
theorem star_dict {pins : List (Addr × Obj)} {σ : L2.St} {H : Hp} {s : Shared} {a : Addr} {kvs : List (L2.Key × V)} {E : Value → Shared → Prop} {Q : List Value → Shared → Prop} (hc : X.calm = true) (I : Inv X pins σ H s) (h : Rd H a (.dK kvs))
    (hQ : ∀ us s', Inv X pins σ H s' → Vals (kvs.map fun kv => kV kv.1) us → Q us s') : PySem.W.StarOf (model X.prog X.w) X.A E (.ref a) Q s := by
  obtain ⟨z, lo, vs, rel, dd⟩ := dk_rd I.hok h
  obtain ⟨ep, hat⟩ := dd.dictAt
  have hl : kvs.length = vs.length := Paired.length rel
  have run : wpAny (model X.prog X.w) X.A (collect (.ref a)) Q E s := by
    refine PySem.W.kdu_collect (A := X.A) (PySem.W.kdl_dict (knd := mixKind X.prog X.w) (kvs := vs) (ep := ep) lo) (I.ok.hd hc) hat (by rw [← hl]; exact z) fun h' tk acc hk hacc => ?_
    have e0 : acc.toList.length = acc.size := by simp
    refine hQ acc.toList _ (I.kept (t' := tk) hk) (vals_of_at (by rw [List.length_map, e0, hacc.1, hl]) fun j x w h1 h2 => ?_)
    obtain ⟨k, y, hky, hi⟩ := hacc.2 j w (by rw [← Array.getElem?_toList]; exact h2)
    have e1 : (kvs.map (·.1))[j]? = some k := by
      rw [KV.keys rel, List.getElem?_map, hky]
      rfl
    rw [List.getElem?_map] at e1 h1
    cases ek : kvs[j]? with
    | none => rw [ek] at e1; cases e1
    | some q =>
      rw [ek] at e1 h1
      cases e1
      cases h1
      exact keyIs_rel hi
  unfold PySem.W.StarOf notIterableAtAll
  exact wpAny_bind (wpAny_specialOf dd.typeIs PySem.F.slot_dict_iter.lookup (wpAny_pure ⟨rfl, run⟩))
theorem pa_starD (hc : X.calm = true) (he : PE X e te) (hr : PA X es t) (hs : starEach (.Starred e p :: es) X.env = (true, eval e X.env) :: starEach es X.env := by rfl) : PA X (.Starred e p :: es) (tStarD te t) := by
  refine ⟨fun pos pins s σ H Q I h => ?_⟩
  refine PySem.W.items_star (thn (he.run pins s σ H _ I h) fun v s1 hq => ?_) hs
  obtain ⟨y, H1, I1, ry, a, kvs, ey, hx, q⟩ := hq
  subst ey
  obtain rfl : v = Value.ref a := ry
  refine star_dict hc I1 hx fun us s2 I2 rv => ?_
  exact thn (hr.run pos pins s2 σ H1 _ I2 q) fun ws s3 hq => by
    obtain ⟨vs, H3, I3, r3, q3⟩ := hq
    exact ⟨_, H3, I3, rv.append r3, q3⟩
end
end Ux

set_option Elab.async false
set_option linter.all false
set_option maxRecDepth 100000
set_option maxHeartbeats 4000000
set_option pp.maxSteps 300
/-! dicts whose keys are None, truth values, texts, whole numbers but 0 and 1: d[k] = v and [*d, ..] -/
namespace Ux
open PySem PySem.Spec PyProof.Rows L2
inductive OKy where
  | non
  | bl (b : Bool)
  | int (i : Int)
  | str (z : Str)
  deriving DecidableEq
def okV : OKy → V
  | .non => .non
  | .bl b => .bl b
  | .int i => .int i
  | .str z => .str z
def okGood : OKy → Bool
  | .int i => !(decide (i = 0) || decide (i = 1))
  | _ => true
def okIs : OKy → Value → Bool
  | .non, .none => true
  | .bl b, .bool c => c == b
  | .int i, .int j _ => decide (j = i) && okGood (.int i)
  | .str z, .str y _ => y == z
  | _, _ => false
def okH (w : World) : OKy → Int
  | .non => reduceHash 0xFCA86420
  | .bl b => PpSet.hB b
  | .int i => hashInt i
  | .str z => hashStr w z
inductive OkAt : OKy → Value → Prop
  | non : OkAt .non .none
  | bl (b : Bool) : OkAt (.bl b) (.bool b)
  | int (i : Int) (t : Tok) : okGood (.int i) = true → OkAt (.int i) (.int i t)
  | str (z : Str) (t : Tok) : OkAt (.str z) (.str z t)
theorem okAt_of {k : OKy} {v : Value} (h : okIs k v = true) : OkAt k v := by
  cases k with
  | non => cases v <;> first | exact .non | cases h
  | bl b =>
    cases v with
    | bool c =>
      have e : c = b := eq_of_beq h
      subst e
      exact .bl _
    | _ => cases h
  | int i =>
    cases v with
    | int j t =>
      have h' : (decide (j = i) && okGood (.int i)) = true := h
      simp only [Bool.and_eq_true, decide_eq_true_eq] at h'
      obtain ⟨rfl, g⟩ := h'
      exact .int _ _ g
    | _ => cases h
  | str z =>
    cases v with
    | str y t =>
      have e : y = z := eq_of_beq h
      subst e
      exact .str _ _
    | _ => cases h
theorem okIs_of {k : OKy} {v : Value} (h : OkAt k v) : okIs k v = true := by
  cases h with
  | non => rfl
  | bl b => exact beq_self_eq_true b
  | int i t g =>
    show (decide (i = i) && okGood (.int i)) = true
    rw [g, decide_eq_true rfl]
    rfl
  | str z t => exact beq_self_eq_true z
theorem eqCast {A : Around} {s : Shared} {u v : Value} {b b' : Bool} (h : SeqAt.EqAt A s u v b) (e : b = b') : SeqAt.EqAt A s u v b' := by
  subst e
  exact h
theorem eqAt_ok {A : Around} {s : Shared} {a b : OKy} {u v : Value} (ha : OkAt a u) (hb : OkAt b v) : SeqAt.EqAt A s u v (decide (a = b)) := by
  have good : ∀ {i : Int}, okGood (.int i) = true → ∀ c : Bool, ¬ (if c then (1 : Int) else 0) = i := fun {i} g c e => by
    have g' : (!(decide (i = 0) || decide (i = 1))) = true := g
    subst e
    cases c <;> exact absurd g' (by decide)
  cases ha with
  | non => cases hb with
    | non => exact SeqAt.EqAt.same _
    | bl c => exact SeqAt.EqAt.none_bool _
    | int j t g => exact SeqAt.EqAt.none_int _ _
    | str y t => exact SeqAt.EqAt.none_str _ _
  | bl c => cases hb with
    | non => exact SeqAt.EqAt.bool_none _
    | bl d => exact eqCast (SeqAt.EqAt.bool_bool c d) (by cases c <;> cases d <;> rfl)
    | int j t g => exact eqCast (SeqAt.EqAt.bool_int c j t) (by rw [decide_eq_false (fun z => nomatch z)]; exact beq_eq_false_iff_ne.mpr (good g c))
    | str y t => exact SeqAt.EqAt.bool_str _ _ _
  | int i t g => cases hb with
    | non => exact SeqAt.EqAt.int_none _ _
    | bl d => exact eqCast (SeqAt.EqAt.int_bool i t d) (by rw [decide_eq_false (fun z => nomatch z)]; exact beq_eq_false_iff_ne.mpr (fun e => good g d e.symm))
    | int j u g' => exact eqCast (SeqAt.EqAt.int_int i t j u) (by
        by_cases e : i = j
        · subst e; simp
        · rw [decide_eq_false (fun z => e (OKy.int.inj z))]; exact beq_eq_false_iff_ne.mpr e)
    | str y u => exact SeqAt.EqAt.int_str _ _ _ _
  | str x t => cases hb with
    | non => exact SeqAt.EqAt.str_none _ _
    | bl d => exact SeqAt.EqAt.str_bool _ _ _
    | int j u g => exact SeqAt.EqAt.str_int _ _ _ _
    | str y u => exact eqCast (SeqAt.EqAt.str_str x t y u) (by
        by_cases e : x = y
        · subst e; simp
        · rw [decide_eq_false (fun z => e (OKy.str.inj z))]; exact beq_eq_false_iff_ne.mpr e)
def okKind (prog : Program) (w : World) : PySem.KeyKind prog w OKy where
  is := okIs
  hash := okH w
  inj := fun v a b ha hb => by
    have h1 := okAt_of ha
    have h2 := okAt_of hb
    cases h1 <;> cases h2 <;> rfl
  byValue := fun k v h => by
    have h1 := okAt_of h
    cases h1 <;> rfl
  pyHash := @fun A E s k v Q hv h => by
    have h1 := okAt_of hv
    cases h1 with
    | non => exact PySem.W.pyHash_slot (T := "NoneType") rfl PySem.F.slot_NoneType_hash PySem.F.entry_NoneType_hash (PySem.F.args_NoneType_hash_1 _) (beq_builtin_none _) (.inl rfl) (wpAny_bind (wpAny_pure (wpAny_bind (wpAny_mkInt (wpAny_pure ⟨_, _, rfl, h⟩)))))
    | bl b => exact PpSet.pyHash_bool h
    | int i t g => exact wpAny_pyHash_int h
    | str z t => exact wpAny_pyHash_str h
  eqBool := @fun A E s a b u v Q hu hv h => eqAt_ok (okAt_of hu) (okAt_of hv) _ _ _ _ h
  «strs» := fun k x t v h => by
    have h1 := okAt_of h
    cases h1
    cases v <;> rfl
theorem ok_rel {P : Program} {w : World} {k : OKy} {v : V} {u : Value} (e : v = okV k) (g : okGood k = true) (r : RelV v u) : (okKind P w).is k u = true := by
  subst e
  cases k with
  | non =>
    obtain rfl : u = .none := r
    rfl
  | bl b =>
    obtain rfl : u = .bool b := r
    exact okIs_of (.bl b)
  | int i =>
    obtain ⟨t, rfl⟩ := r
    exact okIs_of (.int i t g)
  | str z =>
    obtain ⟨t, rfl⟩ := r
    exact okIs_of (.str z t)
theorem rel_ok {k : OKy} {u : Value} (h : okIs k u = true) : RelV (okV k) u := by
  have h1 := okAt_of h
  cases h1 with
  | non => rfl
  | bl b => rfl
  | int i t g => exact ⟨t, rfl⟩
  | str z t => exact ⟨t, rfl⟩
end Ux

set_option Elab.async false
set_option linter.all false
set_option maxRecDepth 100000
set_option maxHeartbeats 4000000
set_option pp.maxSteps 300
/-! The same as rules. -/
namespace Ux
open PySem PySem.Spec PyProof.Rows L2
/-- the dict at a, its keys of any plain kind -/
def OdK (P : Program) (w : World) (a : Addr) (kvs : List (OKy × V)) : HO := .ext fun h => kvs.length ≤ sizeLine ∧ (a == sysModules) = false ∧ ∃ vs, KV kvs vs ∧ h.DictOf (okKind P w) a vs
theorem odK_new {P : Program} {w : World} {H : Hp} {h : Heap} {a : Addr} {kvs : List (OKy × V)} {vs : List (OKy × Value)} (z : kvs.length ≤ sizeLine) (hd : (a == sysModules) = false) (r : KV kvs vs) (d : h.DictOf (okKind P w) a vs) : ObjOk P w H h a (OdK P w a kvs) := by
  obtain ⟨o, es, ep, ho, x⟩ := id d
  refine ⟨⟨z, hd, vs, r, d⟩, ⟨o, ho⟩, fun h1 h2 ⟨z, hd, vs, r, o, es, ep, ho, x⟩ k => ⟨z, hd, vs, r, o, es, ep, k o ho, x⟩⟩
theorem odK_at {P : Program} {w : World} {H : Hp} {h : Heap} {a : Addr} {kvs : List (OKy × V)} (hok : HOk P w H h) (e : H a = some (OdK P w a kvs)) : kvs.length ≤ sizeLine ∧ (a == sysModules) = false ∧ ∃ vs, KV kvs vs ∧ h.DictOf (okKind P w) a vs := (hok a _ e).1
/-- pairs with texts for keys, in either way -/
def dkT (l : List (Str × V)) : List (L2.Key × V) := l.map fun p => (Sum.inr p.1, p.2)
def doT (l : List (Str × V)) : List (OKy × V) := l.map fun p => (.str p.1, p.2)
theorem dict_ok {P : Program} {w : World} {h : Heap} {a : Addr} {l : List (Str × V)} {vs : List (L2.Key × Value)} (r : KV (dkT l) vs) (d : h.DictOf (mixKind P w) a vs) : ∃ us, KV (doT l) us ∧ h.DictOf (okKind P w) a us := by
  obtain ⟨o, es, ep, ho, hx, hdt, hk, hp, hn⟩ := d
  have go : ∀ (l : List (Str × V)) (vs : List (L2.Key × Value)) (es : List DictEntry), KV (dkT l) vs → Pairs (mixKind P w) es vs → (∀ e ∈ es, ∃ k, (mixKind P w).is k e.key = true ∧ e.hash = (mixKind P w).hash k) → (vs.map (·.1)).Nodup →
      ∃ us, KV (doT l) us ∧ Pairs (okKind P w) es us ∧ (us.map (·.1)) = l.map (fun p => OKy.str p.1) ∧ (vs.map (·.1)) = l.map (fun p => (Sum.inr p.1 : L2.Key)) ∧ (∀ e ∈ es, ∃ k, (okKind P w).is k e.key = true ∧ e.hash = (okKind P w).hash k) := by
    intro l
    induction l with
    | nil =>
      intro vs es r p _ _
      cases r
      cases p
      exact ⟨[], .nil, .nil, rfl, rfl, fun e he => nomatch he⟩
    | cons q l ih =>
      intro vs es r p hk nd
      cases r with
      | @cons _ y _ ys r1 r2 =>
        cases p with
        | @cons e _ es _ h1 h2 h3 =>
          obtain ⟨us, a1, a2, a3, a4, a5⟩ := ih ys es r2 h3 (fun e he => hk e (List.mem_cons_of_mem _ he)) (List.nodup_cons.mp nd).2
          obtain ⟨y1, y2⟩ := y
          obtain ⟨e1, e2⟩ := r1
          have e1 : Sum.inr q.1 = y1 := e1
          subst e1
          have sh := keyIs_shape (show keyIs (Sum.inr q.1) e.key = true from h1)
          have hkey : ∃ t, e.key = .str q.1 t := by
            rcases sh with ⟨i, t, e, _⟩ | ⟨x, t, e, e'⟩
            · exact nomatch e
            · cases e
              exact ⟨t, e'⟩
          obtain ⟨t, hkey⟩ := hkey
          refine ⟨(.str q.1, y2) :: us, .cons ⟨rfl, e2⟩ a1, .cons ?_ h2 a2, ?_, ?_, ?_⟩
          · show okIs (.str q.1) e.key = true
            rw [hkey]
            exact okIs_of (.str q.1 t)
          · rw [List.map_cons, List.map_cons, a3]
          · rw [List.map_cons, List.map_cons, a4]
          · intro e' he'
            rcases List.mem_cons.mp he' with rfl | he'
            · obtain ⟨k, k1, k2⟩ := hk e' (List.mem_cons_self ..)
              have ek : k = Sum.inr q.1 := (mixKind P w).inj e'.key _ _ k1 h1
              subst ek
              refine ⟨.str q.1, ?_, k2⟩
              show okIs (.str q.1) e'.key = true
              rw [hkey]
              exact okIs_of (.str q.1 t)
            · exact a5 e' he'
  obtain ⟨us, a1, a2, a3, a4, a5⟩ := go l vs es.toList r hp (fun e he => hk e (by simpa using he)) hn
  refine ⟨us, a1, o, es, ep, ho, hx, hdt, fun e he => a5 e (by simpa using he), a2, ?_⟩
  rw [a3]
  rw [a4] at hn
  unfold List.Nodup at hn ⊢
  rw [List.pairwise_map] at hn ⊢
  exact hn.imp fun h e => h (congrArg Sum.inr (OKy.str.inj e))
/-- the dict at a, as .dK of texts or as OdK -/
def OD (P : Program) (w : World) (H : Hp) (a : Addr) (kvs : List (OKy × V)) : Prop := H a = some (OdK P w a kvs) ∨ ∃ l : List (Str × V), H a = some (.dK (dkT l)) ∧ kvs = doT l
/-- d[y] = v, by the dict's rule, or with a key of any plain kind -/
def sDPutO (P : Program) (w : World) (td ty tv : TE) : TS := fun D σ H => tv σ H fun v H1 => td σ H1 fun x H2 => ty σ H2 fun y H3 => ∃ a, x = .ref a ∧
  ((∃ H4, DPut H3 a y v H4 ∧ D.nx σ H4) ∨ ∃ kvs k, OD P w H3 a kvs ∧ y = okV k ∧ okGood k = true ∧ kvs.length < sizeLine ∧ D.nx σ (upd H3 a (OdK P w a (putK kvs k v))))
/-- [*d, ..] over a dict's keys, in either way -/
def tStarO (P : Program) (w : World) (te : TE) (t : TA) : TA := fun σ H Q => te σ H fun x H1 => ∃ a : Addr, x = V.ref a ∧ ((∃ kvs : List (L2.Key × V), Rd H1 a (.dK kvs) ∧ t σ H1 fun ys H2 => Q ((kvs.map fun kv => kV kv.1) ++ ys) H2) ∨
  ∃ kvs : List (OKy × V), H1 a = some (OdK P w a kvs) ∧ t σ H1 fun ys H2 => Q ((kvs.map fun kv => okV kv.1) ++ ys) H2)
section
variable {X : Cx}
theorem od_at {pins : List (Addr × Obj)} {σ : L2.St} {H : Hp} {s : Shared} {a : Addr} {kvs : List (OKy × V)} (I : Inv X pins σ H s) (h : OD X.prog X.w H a kvs) : kvs.length ≤ sizeLine ∧ (a == sysModules) = false ∧ Mut (H a) ∧ ∃ vs, KV kvs vs ∧ s.heap.DictOf (okKind X.prog X.w) a vs := by
  rcases h with h | ⟨l, h, rfl⟩
  · obtain ⟨z, hd, vs, r, d⟩ := odK_at I.hok h
    exact ⟨z, hd, by rw [h]; exact True.intro, vs, r, d⟩
  · obtain ⟨z, hd, vs, r, d⟩ := dk_of I.hok h
    obtain ⟨us, r2, d2⟩ := dict_ok r d
    refine ⟨?_, hd, by rw [h]; exact True.intro, us, r2, d2⟩
    unfold dkT at z
    unfold doT
    rw [List.length_map] at z ⊢
    exact z
theorem ps_dputO {o i value : Expr} {pos pos' : Pos} {td ty tv : TE} (hu : X.A.units + 1 < cLine) (ho : PE X o td) (hi : PE X i ty) (hv : PE X value tv) (hs : swapsWith value (some (.Subscript o i pos')) pos.line X.env = pure false) :
    PS X (.Assign [.Subscript o i pos'] value pos) (sDPutO X.prog X.w td ty tv) := by
  refine ⟨fun pins s σ H D I h => ?_⟩
  refine wpAny_Assign_Subscript (thn (hv.run pins s σ H _ I h) fun r s1 ⟨v, H1, I1, rv, q1⟩ => thn (ho.run pins s1 σ H1 _ I1 q1) fun u s2 ⟨x, H2, I2, rx, q2⟩ => thn (hi.run pins s2 σ H2 _ I2 q2) fun iv s3 ⟨y, H3, I3, ry, a, ex, q3⟩ => ?_) hs
  subst ex
  obtain rfl : u = Value.ref a := rx
  rcases q3 with ⟨H4, g, q3⟩ | ⟨kvs, k, g, ey, gk, lt, q3⟩
  · exact d_setItem hu I3 g ry rv fun s4 I4 => ⟨σ, H4, I4, q3⟩
  · obtain ⟨z, hd, mu, vs, rel, dd⟩ := od_at I3 g
    have hz : vs.length ≤ sizeLine := by rw [← rel.length]; exact z
    have hl : (putK kvs k v).length ≤ sizeLine := by have := length_putK kvs k v; omega
    refine wpAny_setItem_pairs (hsz := hz) (ok_rel ey gk ry) dd fun h' dd' hs => ⟨σ, _, ?_, q3⟩
    have he : ∃ q, h'.get? a = some q := let ⟨q, _, _, hq, _⟩ := dd'; ⟨q, hq⟩
    exact d_write I3 mu hs he (odK_new hl hd (rel.put k rv) dd')
theorem star_ok {pins : List (Addr × Obj)} {σ : L2.St} {H : Hp} {s : Shared} {a : Addr} {kvs : List (OKy × V)} {E : Value → Shared → Prop} {Q : List Value → Shared → Prop} (hc : X.calm = true) (I : Inv X pins σ H s) (h : H a = some (OdK X.prog X.w a kvs))
    (hQ : ∀ us s', Inv X pins σ H s' → Vals (kvs.map fun kv => okV kv.1) us → Q us s') : PySem.W.StarOf (model X.prog X.w) X.A E (.ref a) Q s := by
  obtain ⟨z, lo, vs, rel, dd⟩ := odK_at I.hok h
  obtain ⟨ep, hat⟩ := dd.dictAt
  have hl : kvs.length = vs.length := Paired.length rel
  have run : wpAny (model X.prog X.w) X.A (collect (.ref a)) Q E s := by
    refine PySem.W.kdu_collect (A := X.A) (PySem.W.kdl_dict (knd := okKind X.prog X.w) (kvs := vs) (ep := ep) lo) (I.ok.hd hc) hat (by rw [← hl]; exact z) fun h' tk acc hk hacc => ?_
    have e0 : acc.toList.length = acc.size := by simp
    refine hQ acc.toList _ (I.kept (t' := tk) hk) (vals_of_at (by rw [List.length_map, e0, hacc.1, hl]) fun j x w h1 h2 => ?_)
    obtain ⟨k, y, hky, hi⟩ := hacc.2 j w (by rw [← Array.getElem?_toList]; exact h2)
    have e1 : (kvs.map (·.1))[j]? = some k := by
      rw [KV.keys rel, List.getElem?_map, hky]
      rfl
    rw [List.getElem?_map] at e1 h1
    cases ek : kvs[j]? with
    | none => rw [ek] at e1; cases e1
    | some q =>
      rw [ek] at e1 h1
      cases e1
      cases h1
      exact rel_ok hi
  unfold PySem.W.StarOf notIterableAtAll
  exact wpAny_bind (wpAny_specialOf dd.typeIs PySem.F.slot_dict_iter.lookup (wpAny_pure ⟨rfl, run⟩))
theorem pa_starO {e : Expr} {es : List Expr} {te : TE} {t : TA} {p : Pos} (hc : X.calm = true) (he : PE X e te) (hr : PA X es t) (hs : starEach (.Starred e p :: es) X.env = (true, eval e X.env) :: starEach es X.env := by rfl) : PA X (.Starred e p :: es) (tStarO X.prog X.w te t) := by
  refine ⟨fun pos pins s σ H Q I h => ?_⟩
  refine PySem.W.items_star (thn (he.run pins s σ H _ I h) fun v s1 hq => ?_) hs
  obtain ⟨y, H1, I1, ry, a, ey, q⟩ := hq
  subst ey
  obtain rfl : v = Value.ref a := ry
  rcases q with ⟨kvs, hx, q⟩ | ⟨kvs, hx, q⟩
  · refine star_dict hc I1 hx fun us s2 I2 rv => ?_
    exact thn (hr.run pos pins s2 σ H1 _ I2 q) fun ws s3 hq => by
      obtain ⟨vs, H3, I3, r3, q3⟩ := hq
      exact ⟨_, H3, I3, rv.append r3, q3⟩
  · refine star_ok hc I1 hx fun us s2 I2 rv => ?_
    exact thn (hr.run pos pins s2 σ H1 _ I2 q) fun ws s3 hq => by
      obtain ⟨vs, H3, I3, r3, q3⟩ := hq
      exact ⟨_, H3, I3, rv.append r3, q3⟩
end
end Ux

set_option Elab.async false
set_option linter.all false
set_option maxRecDepth 100000
set_option maxHeartbeats 4000000
set_option pp.maxSteps 400
/-! lambdas held as values where the table of code objects tells several names (a nested def beside them) -/
namespace Ux
open PySem PySem.Spec PyProof.Rows L2 LamX NdefX
section
variable {X : Cx} {pins : List (Addr × Obj)} {σ : L2.St} {H : Hp} {s : Shared}
def tLamVN (T : List NTab) (cl : List (Str × Addr)) (q : Str) (d : LamD) : TE := fun σ H Q => TabsN T H ∧ ∀ (H1 : Hp) (f c' : Addr), ExtN H H1 → TabsN T H1 → LamAt cl q H1 d f c' → Q (.ref f) H1
theorem pe_lamVN {T : List NTab} {nm : Nat → Nat → Str} {c P : Addr} {params : Arguments} {body : Expr} {scope : Scope} {lpos : Pos} (t : XK → TE) (TB : TabB X.base X.mg c P) (hcode : X.env.code = .ref c)
    (hm : (P, nm) ∈ T) (hn : nm lpos.line lpos.col = X.env.qual ++ "<lambda>") (hu : ∀ p ∈ T, p.1 = P → p.2 = nm) (L : LamS X.env.scope scope) (hdef : defaultsOf params X.env = ([], [])) :
    PE X (.Lambda params body scope lpos) (tLamVN T X.env.cells (X.env.qual ++ "<lambda>") ⟨params, body, scope, t⟩) := by
  refine ⟨fun pins s σ H Q I h => ?_⟩
  obtain ⟨hT, h⟩ := h
  obtain ⟨ps, hP, htr, ha⟩ := (show TabN H P nm from hT _ hm)
  refine PySem.W.kla_eval hdef ?_
  have bP := TB.bm.keeps I.bk
  have hP2 : s.heap.get? P = some { cls := .none, data := .fields ps } := I.hok P _ hP
  have fin : ∀ (f c' : Addr) (H1 : Hp) (s' : Shared), Inv X pins σ H1 s' → ExtN H H1 → TabsN T H1 → LamAt X.env.cells (X.env.qual ++ "<lambda>") H1 ⟨params, body, scope, t⟩ f c' → ∃ (v : V) (H' : Hp), Inv X pins σ H' s' ∧ L2.RelV v (.ref f) ∧ Q v H' :=
    fun f c' H1 s' I1 e1 t1 l1 => ⟨.ref f, H1, I1, rfl, h H1 f c' e1 t1 l1⟩
  cases hcd : codeAmong lpos ps.toList with
  | none =>
    refine PySem.W.kla_makeFunction (mg := X.mg) (c := c) (P := P) (ps := ps) (closure_ok (L.has I.ok)) I.ok.glob (I.mod.glob.keeps I.bk) hcode (TB.code.keeps I.bk) hP2 htr hcd TB.gP bP fun c' ctv h' tk hx hge hlt hrec htb => ?_
    obtain ⟨c2, oc, vs, tok, e2, hoc, hd, hv⟩ := hrec
    cases e2
    have nC : H c' = none := I.hok.fresh hge
    have I1 := inv_table (t' := s.toks) (more := #[rawInt lpos.line, rawInt lpos.col, .ref c']) (h' := h') I hP (fun b o hb e => hx b o hb e) htb hge ⟨oc, vs, tok, hoc, hd, hv⟩
    have I2 := lam_track (tk := tk) (d := ⟨params, body, scope, t⟩) (c' := c') (pm := (X.mg "__name__").getD .none) (ctv := ctv) (q := X.env.qual ++ "<lambda>") (cl := X.env.cells) I1 rfl
    have hE : ExtN H (upd (upd H P (.tbl (ps ++ #[rawInt lpos.line, rawInt lpos.col, .ref c']))) c' (CodeO c' (X.env.qual ++ "<lambda>"))) := fun b o e n => by
      have b1 := ne_of_none e nC
      have b2 : b ≠ P := fun z => n ps (by rw [z, hP] at e; exact (Option.some.inj e).symm)
      rw [upd_ne b1, upd_ne b2, e]
    have eL : (ps ++ #[rawInt lpos.line, rawInt lpos.col, .ref c']).toList = ps.toList ++ [rawInt lpos.line, rawInt lpos.col, .ref c'] := by simp
    have nF : (upd (upd H P (.tbl (ps ++ #[rawInt lpos.line, rawInt lpos.col, .ref c']))) c' (CodeO c' (X.env.qual ++ "<lambda>"))) h'.objs.size = none := I1.hok.fresh (Nat.le_refl _)
    have T1 : TabsN T (upd (upd H P (.tbl (ps ++ #[rawInt lpos.line, rawInt lpos.col, .ref c']))) c' (CodeO c' (X.env.qual ++ "<lambda>"))) := fun p hp => by
      by_cases hb : p.1 = P
      · have hq := hu p hp hb
        rw [hq, hb]
        refine ⟨_, (upd_ne (ne_of_none hP nC)).trans upd_same, eL ▸ PySem.TriplesOk_snoc _ _ _ _ htr, fun p' cv hcv => ?_⟩
        rw [eL] at hcv
        rcases among_app2 _ htr hcv with z | ⟨z, z1, z2⟩
        · obtain ⟨c0, w1, w2⟩ := ha p' cv z
          exact ⟨c0, w1, hE _ _ w2 codeO_ne⟩
        · refine ⟨c', z, ?_⟩
          rw [← z1, ← z2, hn]
          exact upd_same
      · obtain ⟨ps', a1, a2, a3⟩ := hT p hp
        refine ⟨ps', ((upd_ne (ne_of_none a1 nC)).trans (upd_ne hb)).trans a1, a2, fun p' cv hcv => ?_⟩
        obtain ⟨c0, w1, w2⟩ := a3 p' cv hcv
        exact ⟨c0, w1, hE _ _ w2 codeO_ne⟩
    have sm : ∀ b o, (upd (upd H P (.tbl (ps ++ #[rawInt lpos.line, rawInt lpos.col, .ref c']))) c' (CodeO c' (X.env.qual ++ "<lambda>"))) b = some o → (upd (upd (upd H P (.tbl (ps ++ #[rawInt lpos.line, rawInt lpos.col, .ref c']))) c' (CodeO c' (X.env.qual ++ "<lambda>"))) h'.objs.size (LamO X.env.cells (X.env.qual ++ "<lambda>") ⟨params, body, scope, t⟩ h'.objs.size c')) b = some o :=
      fun b o e => (upd_ne (ne_of_none e nF)).trans e
    exact fin _ c' _ _ I2 (hE.trans (ExtN.of sm)) (T1.ext sm) ⟨upd_same, sm _ _ upd_same⟩
  | some cv =>
    obtain ⟨c', e, hco⟩ := ha lpos cv hcd
    subst e
    rw [hn] at hco
    refine PySem.W.kla_makeFunctionHit (mg := X.mg) (c := c) (P := P) (ps := ps) (closure_ok (L.has I.ok)) I.ok.glob (I.mod.glob.keeps I.bk) hcode (TB.code.keeps I.bk) hP2 htr hcd bP fun ctv h' tk hx hsz => ?_
    have I1 : Inv X pins σ H { s with heap := h', toks := s.toks } := I.kept hx
    have I2 := lam_track (tk := tk) (d := ⟨params, body, scope, t⟩) (c' := c') (pm := (X.mg "__name__").getD .none) (ctv := ctv) (q := X.env.qual ++ "<lambda>") (cl := X.env.cells) I1 rfl
    have nF : H h'.objs.size = none := I1.hok.fresh (Nat.le_refl _)
    have sm : ∀ b o, H b = some o → (upd H h'.objs.size (LamO X.env.cells (X.env.qual ++ "<lambda>") ⟨params, body, scope, t⟩ h'.objs.size c')) b = some o := fun b o e => (upd_ne (ne_of_none e nF)).trans e
    exact fin _ c' _ _ I2 (ExtN.of sm) (hT.ext sm) ⟨upd_same, sm _ _ hco⟩
def tLamVEN (Tb : List NTab) (cl : List (Str × Addr)) (q : Str) (d : LamE) : TE := fun σ H Q => TabsN Tb H ∧ ∀ (H1 : Hp) (f c' T : Addr), ExtN H H1 → TabsN Tb H1 → LamAtE cl q H1 d f c' T → Q (.ref f) H1
/-- lambda x = e: body, where e is plain -/
theorem pe_lamVEN {Tb : List NTab} {nm : Nat → Nat → Str} {c P : Addr} {params : Arguments} {body e : Expr} {scope : Scope} {lpos : Pos} {dv : V} (t : XK → TE) (x : Str) (TB : TabB X.base X.mg c P) (hcode : X.env.code = .ref c)
    (hm : (P, nm) ∈ Tb) (hn : nm lpos.line lpos.col = X.env.qual ++ "<lambda>") (hu : ∀ p ∈ Tb, p.1 = P → p.2 = nm) (L : LamSE X.N X.env.scope scope x) (hdef : defaultsOf params X.env = ([eval e X.env], [])) (hk : params.kwonlyargs = []) (he : PE X e (tC dv)) :
    PE X (.Lambda params body scope lpos) (tLamVEN Tb X.env.cells (X.env.qual ++ "<lambda>") ⟨params, body, scope, t, x, dv⟩) := by
  refine ⟨fun pins s0 σ H0 Q I0 h => ?_⟩
  obtain ⟨hT0, h⟩ := h
  refine ld_eval hdef hk (wpAny_mono (he.run pins s0 σ H0 (fun v H1 => v = dv ∧ H1 = H0) I0 ⟨rfl, rfl⟩) (fun u sa hq => ?_) fun e' s' hx => hx)
  obtain ⟨v, Ha, Ia, rv, ev, eH⟩ := hq
  subst ev
  rw [eH] at Ia
  have nT : H0 sa.heap.objs.size = none := Ia.hok.fresh (Nat.le_refl _)
  have I := Ia.laid (a := sa.heap.objs.size) (o := .tup [v]) (h' := sa.heap.push { cls := .type "tuple", data := .seq #[u] }) (t' := sa.toks) (fun b w e => Heap.get?_push_of_some _ e) (Nat.le_refl _)
    ⟨(by show 1 ≤ sizeLine; decide), [u], .cons rv .nil, _, Heap.get?_push_size _ rfl, rfl, 0, rfl⟩
  have sT : ∀ b o, H0 b = some o → (upd H0 sa.heap.objs.size (.tup [v])) b = some o := fun b o e => (upd_ne (ne_of_none e nT)).trans e
  have dT : (upd H0 sa.heap.objs.size (.tup [v])) sa.heap.objs.size = some (.tup [v]) := upd_same
  have hT := hT0.ext sT
  generalize hTT : sa.heap.objs.size = TT at *
  generalize hH : upd H0 TT (.tup [v]) = H at *
  obtain ⟨ps, hP, htr, ha⟩ := (show TabN H P nm from hT _ hm)
  have bP := TB.bm.keeps I.bk; have hP2 := I.hok P _ hP
  have fin : ∀ (f c' : Addr) (H1 : Hp) (s' : Shared), Inv X pins σ H1 s' → ExtN H H1 → TabsN Tb H1 → LamAtE X.env.cells (X.env.qual ++ "<lambda>") H1 ⟨params, body, scope, t, x, v⟩ f c' TT → ∃ (v : V) (H' : Hp), Inv X pins σ H' s' ∧ L2.RelV v (.ref f) ∧ Q v H' :=
    fun f c' H1 s' I1 e1 t1 l1 => ⟨.ref f, H1, I1, rfl, h H1 f c' TT ((ExtN.of sT).trans e1) t1 l1⟩
  cases hcd : codeAmong lpos ps.toList with
  | none =>
    refine ld_miss (mg := X.mg) (c := c) (P := P) (ps := ps) (closure_ok (L.has I.ok)) I.ok.glob (I.mod.glob.keeps I.bk) hcode (TB.code.keeps I.bk) hP2 htr hcd TB.gP bP fun c' ctv h' tk hx hge hlt hrec htb => ?_
    obtain ⟨c2, oc, vs, tok, e2, hoc, hd, hv⟩ := hrec
    cases e2
    have nC : H c' = none := I.hok.fresh hge; have I1 := inv_table (t' := sa.toks) (more := #[rawInt lpos.line, rawInt lpos.col, .ref c']) (h' := h') I hP (fun b o hb e => hx b o hb e) htb hge ⟨oc, vs, tok, hoc, hd, hv⟩
    have I2 := lam_trackE (tk := tk) (d := ⟨params, body, scope, t, x, v⟩) (c' := c') (T := TT) (pm := (X.mg "__name__").getD .none) (ctv := ctv) (q := X.env.qual ++ "<lambda>") (cl := X.env.cells) I1 rfl
    have hE : ExtN H (upd (upd H P (.tbl (ps ++ #[rawInt lpos.line, rawInt lpos.col, .ref c']))) c' (CodeO c' (X.env.qual ++ "<lambda>"))) := fun b o e n => by
      have b1 := ne_of_none e nC
      have b2 : b ≠ P := fun z => n ps (by rw [z, hP] at e; exact (Option.some.inj e).symm)
      rw [upd_ne b1, upd_ne b2, e]
    have eL : (ps ++ #[rawInt lpos.line, rawInt lpos.col, .ref c']).toList = ps.toList ++ [rawInt lpos.line, rawInt lpos.col, .ref c'] := by simp
    generalize hHc : upd (upd H P (.tbl (ps ++ #[rawInt lpos.line, rawInt lpos.col, .ref c']))) c' (CodeO c' (X.env.qual ++ "<lambda>")) = Hc at *
    have nF : Hc h'.objs.size = none := I1.hok.fresh (Nat.le_refl _)
    have cC : Hc c' = some (CodeO c' (X.env.qual ++ "<lambda>")) := by rw [← hHc]; exact upd_same
    have T1 : TabsN Tb Hc := fun p hp => by
      by_cases hb : p.1 = P
      · rw [hu p hp hb, hb]
        refine ⟨ps ++ #[rawInt lpos.line, rawInt lpos.col, .ref c'], by rw [← hHc]; exact (upd_ne (ne_of_none hP nC)).trans upd_same, eL ▸ PySem.TriplesOk_snoc _ _ _ _ htr, fun p' cv hcv => ?_⟩
        rw [eL] at hcv
        exact (among_app2 _ htr hcv).elim (fun z => let ⟨c0, w1, w2⟩ := ha p' cv z; ⟨c0, w1, hE _ _ w2 codeO_ne⟩) fun ⟨z, z1, z2⟩ => ⟨c', z, by rw [← z1, ← z2, hn]; exact cC⟩
      · obtain ⟨ps', a1, a2, a3⟩ := hT p hp; refine ⟨ps', by rw [← hHc]; exact ((upd_ne (ne_of_none a1 nC)).trans (upd_ne hb)).trans a1, a2, fun p' cv hcv => ?_⟩
        exact let ⟨c0, w1, w2⟩ := a3 p' cv hcv; ⟨c0, w1, hE _ _ w2 codeO_ne⟩
    have sm : ∀ b o, Hc b = some o → (upd Hc h'.objs.size (LamOE X.env.cells (X.env.qual ++ "<lambda>") ⟨params, body, scope, t, x, v⟩ h'.objs.size c' TT)) b = some o := fun b o e => (upd_ne (ne_of_none e nF)).trans e
    exact fin _ c' _ _ I2 (hE.trans (ExtN.of sm)) (T1.ext sm) ⟨upd_same, sm _ _ cC, sm _ _ (hE _ _ dT fun _ z => by cases z)⟩
  | some cv =>
    obtain ⟨c', e, hco⟩ := ha lpos cv hcd
    subst e
    rw [hn] at hco
    refine ld_hit (mg := X.mg) (c := c) (P := P) (ps := ps) (closure_ok (L.has I.ok)) I.ok.glob (I.mod.glob.keeps I.bk) hcode (TB.code.keeps I.bk) hP2 htr hcd bP fun ctv h' tk hx hsz => ?_
    have I1 : Inv X pins σ H { sa with heap := h', toks := sa.toks } := I.kept hx
    have I2 := lam_trackE (tk := tk) (d := ⟨params, body, scope, t, x, v⟩) (c' := c') (T := TT) (pm := (X.mg "__name__").getD .none) (ctv := ctv) (q := X.env.qual ++ "<lambda>") (cl := X.env.cells) I1 rfl
    have nF : H h'.objs.size = none := I1.hok.fresh (Nat.le_refl _)
    have sm : ∀ b o, H b = some o → (upd H h'.objs.size (LamOE X.env.cells (X.env.qual ++ "<lambda>") ⟨params, body, scope, t, x, v⟩ h'.objs.size c' TT)) b = some o := fun b o e => (upd_ne (ne_of_none e nF)).trans e
    exact fin _ c' _ _ I2 (ExtN.of sm) (hT.ext sm) ⟨upd_same, sm _ _ hco, sm _ _ dT⟩
end
end Ux

set_option Elab.async false
set_option linter.all false
set_option maxRecDepth 100000
set_option maxHeartbeats 4000000
set_option pp.maxSteps 400
/-! a def nested in a def, called by that def's lambdas; the lambdas called by another def -/
namespace Ux
open PySem PySem.Spec PyProof.Rows L2 LamX NdefX
section
variable {X : Cx} {pins : List (Addr × Obj)} {σ : L2.St} {H : Hp} {s : Shared} {cl : List (Str × Addr)} {fr : List Str} {ws : List (Option V)} {js : List Nat}
theorem cells_un {fs : List Addr} {h h' : Heap} {H H' : Hp} (C : CellsAt cl fr ws h H) (un : Un fs [] H H' h h') : CellsAt cl fr ws h' H' := by
  have kp : ∀ {c : Addr} {v : Option Value}, H c = none → h.IsCell c v → h'.IsCell c v := fun {c v} n ⟨o, ho, hd⟩ => by
    obtain ⟨sl, q⟩ := un.any ho n (by simp)
    exact ⟨_, q, hd⟩
  refine ⟨C.len, fun y c e => ?_, C.inj, fun i y e => ?_⟩
  · obtain ⟨n, v, z⟩ := C.all y c e
    refine ⟨?_, v, kp n z⟩
    obtain ⟨o, ho, _⟩ := z
    exact un.free c o ho n (by simp)
  · obtain ⟨c, hc, hv⟩ := C.has i y e
    refine ⟨c, hc, fun v ev => ?_⟩
    obtain ⟨u, r, z⟩ := hv v ev
    exact ⟨u, r, kp (C.all y c hc).1 z⟩
/-- f(..), f a name that holds a function made here; what its cells held at the frame's entry is told -/
theorem pe_callnC {CX : CXT} {mk : Addr → NF} {ps : List Str} {i j k : Nat} {x : Str} {sp : Addr → Addr → List (Option V) → Sp} {E : XK} {t : TA} {e : Expr} {es : List Expr} {p pos : Pos}
    (Fn : ∀ f c', NOk X.prog X.w X.K X.mg X.base CX k f (mk c') ps fr (sp f c')) (hcl : ∀ c', (mk c').cl = cl) (C0 : CellsAt cl fr ws X.s_0.heap X.H_0) (nx : X.ex = []) (hr : Room j X.A) (hk : k ≤ j) (hx : Passes CX X E) (hN : X.N[i]? = some x) (hv : Vis X.env.scope x) (ha : PA X (e :: es) t)
    (hd : (x == ("__debug__" : Str)) = false := by decide) (hcd : (x == ("__classdict__" : Str)) = false := by decide)
    (he : starEach (e :: es) X.env = (false, eval e X.env) :: starEach es X.env := by rfl) (hpl : (backTo pos (starEach es X.env)).any (·.1) = false := by rfl) :
    PE X (.Call (.Name x p) (e :: es) [] pos) (fun σ H Q => js.map (slotAt σ) = ws ∧ tCallN mk i js sp E t σ H Q) := by
  refine ⟨fun pins s σ H Q I h => ?_⟩
  obtain ⟨ej, f, c', hs, hf, ht⟩ := h
  refine wpAny_Call_Name_kw (thn ((pe_var (pos := p) hN hv hd hcd).run pins s σ H (fun v H1 => v = .ref f ∧ H1 = H) I ⟨.ref f, hs, rfl, rfl⟩) fun u s1 ⟨v, H1, I1, r1, q1⟩ => ?_)
  obtain ⟨ev, eH⟩ := q1
  subst ev
  rw [eH] at I1
  obtain rfl : u = Value.ref f := r1
  refine PySem.W.callWith_F (first := []) (fnAt_of I1 hf) (thn (ha.run pos pins s1 σ H _ I1 ht) fun us s2 ⟨vs, H2, I2, r, h1, h2, q⟩ => ⟨fnAt_of I2 h1, ?_⟩) he hpl
  show wpAny _ _ (call (.ref f) us) _ _ _
  refine run_n (Fn f c') hr hk hx I2 h1 h2 ?_ r q
  rw [hcl c', ej]
  have un := I2.base
  rw [nx] at un
  exact cells_un C0 un
/-- what is asked of a lambda that calls a nested def -/
structure LamOkC (X : Cx) (k : Nat) (cl : List (Str × Addr)) (fr : List Str) (js : List Nat) (d : LamD) : Prop where
  L : LamS X.env.scope d.scope
  bind : ∀ (q : Str) (cl : List (Str × Addr)) (pm cv ctv : Value), bindArgs (PySem.W.kla_fn "<lambda>" q d.params d.body d.scope cl pm cv ctv) ⟨[], []⟩ = pure []
  body : ∀ (A : Around) (outer : List Env) (s : Shared) (H : Hp) (E : XK) (f c' : Addr) (ws : List (Option V)), Room k (A.deeper (lamEnv X d.scope s.heap.objs.size f c')) → CellsAt cl fr ws s.heap H →
    PE (lamCx X A outer s H E d.scope f c') d.body (fun σ H Q => js.map (slotAt σ) = ws ∧ d.t E σ H Q)
/-- x() in the def that got it, the function object told -/
theorem pe_actVC {CXg : CXT} {Eg : XK} {Ng : List Str} {qg : Str} {sg : Scope} {g f c' : Addr} {cdg : Value} {k i : Nat} {a : Str} {pn : List (Addr × Obj)} {xe : Value → Shared → Prop} {W : WX} {E : XK} {d : LamD} {p1 p2 : Pos}
    (I : Inv X pins σ H s) (D : LamOkC X k cl fr js d) (C0 : CellsAt cl fr (js.map (slotAt σ)) s.heap H) (tk : Takes ((cxOf CXg X.prog X.w X.K X.mg X.base Ng qg sg g cdg X.A X.stack s H Eg).tr pn xe) W) (hW : ∀ cls dd σ' H', E cls dd H' → W cls dd σ' H')
    (hr : Room (k + 1) (X.A.deeper (envOfC qg sg s.heap.objs.size g cdg))) (hN : Ng[i]? = some a) (hv : Vis sg a) (hd : (a == ("__debug__" : Str)) = false := by decide) (hcd : (a == ("__classdict__" : Str)) = false := by decide) :
    PE ((cxOf CXg X.prog X.w X.K X.mg X.base Ng qg sg g cdg X.A X.stack s H Eg).tr pn xe) (.Call (.Name a p1) [] [] p2)
      (fun σZ HZ Q => σZ[i]? = some (some (.ref f)) ∧ HZ c' = some (CodeO c' (X.env.qual ++ "<lambda>")) ∧ HZ f = some (LamO X.env.cells (X.env.qual ++ "<lambda>") d f c') ∧ d.t E σ HZ Q) := by
  refine ⟨fun pinsZ sZ σZ HZ Q IZ h => ?_⟩
  obtain ⟨hs, hc, hf, ht⟩ := h
  refine wpAny_Call_Name_kw (thn ((pe_var (pos := p1) (i := i) hN hv hd hcd).run pinsZ sZ σZ HZ (fun v H1 => v = .ref f ∧ H1 = HZ) IZ ⟨.ref f, hs, rfl, rfl⟩) fun u s1 ⟨v, H1, I1, r1, q1⟩ => ?_)
  obtain ⟨rfl, eH⟩ := q1
  rw [eH] at I1
  obtain rfl : u = Value.ref f := r1
  obtain ⟨⟨pm, ctv, of1⟩, _, _⟩ := I1.hok f _ hf
  refine PySem.W.callWith_F0 ⟨_, _, _, _, of1⟩ ?_
  have un : Un (frs X.stack) [] H HZ s.heap s1.heap := I1.base
  obtain ⟨⟨oc, vs, tok, hoc, hdc, hvc⟩, _, _⟩ := I1.hok c' _ hc
  have rc : codeAny (model X.prog X.w) (X.A.deeper (envOfC qg sg s.heap.objs.size g cdg)) (.call (.ref f) ⟨[], []⟩) (CR (L2.CX X.prog X.w) (envOfC qg sg s.heap.objs.size g cdg :: X.stack) X.prog X.w HZ s1 Q E) s1 := by
    refine PySem.W.kla_callFunE hr.depth of1 rfl D.L.co D.L.gen rfl ⟨c', oc, vs, tok, rfl, hoc, hdc, hvc⟩ ?_
    rw [D.bind]
    refine wpAny_pure (wpAny_newFunctionEnv (fun y hy => (D.L.own y hy).2) (fun y hy => absurd hy (by simp)) (fun h₁ hns hsb => ⟨I1.nolimit.fresh _ hsb, ?_⟩) D.L.kind)
    show codeAny _ _ (.expr d.body (lamEnv X d.scope s1.heap.objs.size f c')) _ _
    have kp2 : ∀ b o, s1.heap.get? b = some o → h₁.get? b = some o := fun b o e => hsb.extBut b o (Nat.ne_of_lt (Heap.lt_size e)) (Heap.get?_push_of_some _ e)
    have J : Inv (lamCx X (X.A.deeper (envOfC qg sg s.heap.objs.size g cdg)) (envOfC qg sg s.heap.objs.size g cdg :: X.stack) s1 HZ E d.scope f c') [] σ HZ { s1 with heap := h₁, toks := s1.toks + ([] : List (Str × Value)).length } := lam_start2 I D.L I1.env0 hr.hd un hns kp2
    refine PySem.W.kla_codeExpr (wpAny_mono ((D.body _ _ s1 HZ E f c' _ (hr.deeper _) (cells_un C0 un)).run [] _ _ HZ Q J ⟨rfl, ht⟩) (fun v s' ⟨w', H', J', rv, q⟩ => ⟨w', H', J'.os, J'.bare, J'.base, J'.hok, rv, q⟩) fun e s' hq => hq)
  have hx : Passes (L2.CX X.prog X.w) ((cxOf CXg X.prog X.w X.K X.mg X.base Ng qg sg g cdg X.A X.stack s H Eg).tr pn xe) E := passes_call tk hW
  refine wpAny_call (codeAny_mono rc fun r s' hq => ?_)
  rcases r with e | (_ | _ | _ | u)
  · exact hx pinsZ σZ HZ s1 e s' I1 hq
  · exact False.elim hq
  · exact False.elim hq
  · exact False.elim hq
  · exact I1.after hq
/-- x(y), where y is one of some lambdas -/
theorem pe_lamvalC {ds : List LamD} {te : TE} {TT : (XK → Hp → VK → Prop) → Hp → VK → Prop} {x a y : Str} {g : Addr} {k : Nat} {pg : Arguments} {bg : List Stmt} {sg : Scope} {dV kV doc pm cdv ct oc : Value} {an od : Option Addr} {osl : Array (Option Value)} {Ng : List Str} {p py pos : Pos}
    (hg : Gl X x) (hm : X.mg x = some (.ref g)) (hk : PySem.W.keepIn X.K (.ref g) = true) (lk : X.K.lookup g = some ⟨oc, od, .func (PySem.W.fnOf x x pg bg sg dV kV doc pm an cdv ct), osl⟩) (hcg : PySem.W.codeIn X.K cdv x = true)
    (hb : L2.Binds X.K (PySem.W.fnOf x x pg bg sg dV kV doc pm an cdv ct) [a] []) (Sg : FnScope Ng [a] sg) (hNg : Ng[0]? = some a) (hva : Vis sg a) (hG : GivesTo X Ng x sg g cdv bg a (X.env.qual ++ "<lambda>") TT) (hr : Room (k + 2) X.A)
    (hds : ∀ d ∈ ds, LamOkC X k cl fr js d) (cp : X.Ok → Caps X cl fr js) (he : PE X (.Name y py) te) (hdb : (x == ("__debug__" : Str)) = false := by decide) (hd : (a == ("__debug__" : Str)) = false := by decide) (hcd : (a == ("__classdict__" : Str)) = false := by decide) :
    PE X (.Call (.Name x p) [.Name y py] [] pos) (tLamCall X.env.cells (X.env.qual ++ "<lambda>") TT ds te) := by
  refine ⟨fun pins s σ H Q I h => ?_⟩
  refine wpAny_Call_Name_kw (ld_glob I hg hm ?_ hdb)
  refine PySem.W.callWith_K (h₀ := X.base) I.ok.mod.kin hk ?_ (by rfl) (by rfl)
  show wpAny _ _ (spliced ((false, eval (.Name y py) X.env) :: backTo pos (starEach [] X.env))) _ _ s
  refine Calls.spliced_cons (thn (he.run pins s σ H _ I h) fun u s' ⟨v, H1, I1, rv, hq⟩ => ?_)
  obtain ⟨f, c', d, hmem, rfl, la, htt⟩ := hq
  obtain rfl : u = Value.ref f := rv
  refine Calls.spliced_nil ⟨I1.kIn, ?_⟩
  have rc : codeAny (model X.prog X.w) X.A (.call (.ref g) ⟨[.ref f], []⟩) (CR C8.CX0 X.stack X.prog X.w H1 s' Q C8.E0) s' := by
    refine run_ofS (N := Ng) (ps := [a]) (us := [.ref f]) (vs := [.ref f]) lk hcg Sg hr I1.env0 (hb s' [.ref f] I1.kIn rfl) (.cons rfl .nil) rfl fun hr2 => ?_
    obtain ⟨t', ht', hq'⟩ := hG f c' s' H1 Q (fun E H' Q' => H' f = some (LamO X.env.cells (X.env.qual ++ "<lambda>") d f c') ∧ d.t E σ H' Q') (fun W pn xe E p1 p2 tk hW => pe_actVC (i := 0) I1 (hds d hmem) (cells_of I1 (cp I1.ok)) tk hW hr2 hNg hva hd hcd) la.co htt
    exact ⟨t', ht'.nox, hq'⟩
  refine wpAny_call (codeAny_mono rc fun r s2 hq => ?_)
  rcases r with e | (_ | _ | _ | u)
  · exact (show False from hq).elim
  · exact False.elim hq
  · exact False.elim hq
  · exact False.elim hq
  · exact I1.after hq
end
end Ux

set_option Elab.async false
set_option linter.all false
set_option maxRecDepth 100000
set_option maxHeartbeats 4000000
set_option pp.maxSteps 300
/-! two promises of one def in one -/
namespace Ux
open PySem PySem.Spec PyProof.Rows L2
section
variable {P : Program} {w : World} {K : PySem.W.Frag} {mg : Str → Option Value} {base : Heap} {CX : CXT} {j k : Nat} {f : Addr} {fd : FuncData} {ps : List Str} {sp sp1 sp2 : Sp}
theorem fn_up (F : FnOk P w K mg base CX0 k f fd ps sp) : FnOk P w K mg base CX k f fd ps sp :=
  ⟨F.len, fun A outer s H args us vs Q E hr he hb hv hs => codeAny_mono (F.run A outer s H args us vs Q E hr he hb hv hs) fun r s' hq => by
    cases r with
    | error e => exact False.elim hq
    | ok fl => cases fl <;> exact hq⟩
theorem fn_or (F : FnOk P w K mg base CX k f fd ps sp1) (G : FnOk P w K mg base CX k f fd ps sp2) : FnOk P w K mg base CX k f fd ps (fun vs H Q E => sp1 vs H Q E ∨ sp2 vs H Q E) :=
  ⟨fun vs H Q E h => h.elim (F.len vs H Q E) (G.len vs H Q E), fun A outer s H args us vs Q E hr he hb hv hs => hs.elim (F.run A outer s H args us vs Q E hr he hb hv) (G.run A outer s H args us vs Q E hr he hb hv)⟩
end
end Ux

set_option Elab.async false
set_option linter.all false
set_option maxRecDepth 100000
set_option maxHeartbeats 4000000
set_option pp.maxSteps 300
/-! raise C(e, ..), C an own class below any base (LookupError too) -/
namespace Ux
open PySem PySem.Spec PyProof.Rows L2
section
variable {X : Cx} {e : Expr} {es : List Expr} {ta : TA} {p pos : Pos} {B newId initId : String} {bmB : List Value}
theorem pmk_ec {CX : CXT} {x : Str} {C fI : Addr} {k : Nat} {fd : FuncData} {ps : List Str} {sp : Sp} {ds : List Value} {dvs : List V} (T : Ec X.K B newId initId bmB C) (tC : PySem.W.typeIn X.K (.ref C) = some (.type "type")) (iC : PySem.W.findIn X.K (.ref C) "__init__" = some (some (.ref fI))) (tI : PySem.W.typeIn X.K (.ref fI) = some (.type "function"))
    (F1 : FnOk X.prog X.w X.K X.mg X.base CX k fI fd ps sp) (hr : Room (k + 1) X.A) (hb : Binds X.K fd ps ds) (hd : Vals dvs ds) (hx : Passes CX X (fun _ _ _ => False)) (hg : Gl X x) (hm : X.mg x = some (.ref C)) (ha : PA X (e :: es) ta)
    (hdb : (x == ("__debug__" : Str)) = false := by decide) (he : starEach (e :: es) X.env = (false, eval e X.env) :: starEach es X.env := by rfl) (hpl : (backTo pos (starEach es X.env)).any (·.1) = false := by rfl) :
    PMk X (.Call (.Name x p) (e :: es) [] pos) (tMkO C sp dvs ta) := by
  intro pins s σ H Q I h
  obtain ⟨nm, N, qn, bs, bm, hdct, sn, sub, ab, col, dd, k0, k1, k2, k3, k5, oc, hT⟩ := PySem.W.excInit_of I.kIn T.ini
  refine wpAny_Call_Name_kw (ld_glob I hg hm ?_ hdb)
  refine PySem.W.callWith_K (h₀ := X.base) I.ok.mod.kin T.kc (thn (ha.run pos pins s σ H _ I h) fun us s1 ⟨vs, H1, I1, r1, hz, q1⟩ => ⟨I1.kIn, ?_⟩) he hpl
  show wpAny _ _ (call (.ref C) us []) _ _ _
  obtain ⟨nm, N, qn, bs, bm, hdct, sn, sub, ab, col, dd, k0, k1, k2, k3, k5, oc, hT⟩ := PySem.W.excInit_of I1.kIn T.ini
  obtain ⟨hp, g, dr, tk, os⟩ := s1
  have hsz : hp.objs.size ≤ hp.objs.size + 1 := Nat.le_succ _
  have hn : H1 (hp.objs.size + 1) = none := I1.hok.fresh hsz
  have hq := q1 (hp.objs.size + 1) hn
  have kk : ∀ b o, hp.get? b = some o → ((hp.push (PySem.W.kdv_tup us)).push (PySem.W.excObj C hp.objs.size none .none)).get? b = some o := fun b o e => Heap.get?_push_of_some _ (Heap.get?_push_of_some _ e)
  have hget : ((hp.push (PySem.W.kdv_tup us)).push (PySem.W.excObj C hp.objs.size none .none)).get? (hp.objs.size + 1) = some (PySem.W.excObj C hp.objs.size none .none) := by heap_get
  have I2 : Inv X pins σ (upd H1 (hp.objs.size + 1) (exo (hp.objs.size + 1) C none)) ⟨(hp.push (PySem.W.kdv_tup us)).push (PySem.W.excObj C hp.objs.size none .none), g, dr, tk, os⟩ :=
    I1.laid (t' := tk) (a := hp.objs.size + 1) (o := exo (hp.objs.size + 1) C none) kk hsz (exo_ok hget)
  have r2 : Vals (V.ref (hp.objs.size + 1) :: (vs ++ dvs)) (Value.ref (hp.objs.size + 1) :: (us ++ ds)) := .cons rfl (r1.append hd)
  have hl : (Value.ref (hp.objs.size + 1) :: us ++ ds).length = ps.length := by
    have e := r2.length
    rw [F1.len _ _ _ _ hq] at e
    exact e.symm
  have hus : us.length ≤ sizeLine := by
    rw [← Paired.length r1, sizeLine_eq]
    omega
  refine wpAny_call (kw_call T.FB hT oc (PySem.W.looks_findIn I1.kIn iC) (fun self => PySem.W.bind_fn I1.kIn self tI) hus
    (codeAny_mono (F1.run _ X.stack _ _ ⟨Value.ref (hp.objs.size + 1) :: us, []⟩ (Value.ref (hp.objs.size + 1) :: (us ++ ds)) _ _ (fun _ _ _ => False) (hr.make C us []) (I2.env0.make C us []) (hb _ (Value.ref (hp.objs.size + 1) :: us) I2.kIn hl) r2 hq) fun r s' hq' => ?_))
  cases r with
  | error er => exact hx pins σ _ _ er s' I2 hq'
  | ok fl =>
    cases fl with
    | ret u =>
      obtain ⟨v, H2, os2, bare2, un2, hok2, rv, ev, d, fs, ea, ed, hd1, q2⟩ := hq'
      subst ev
      obtain ⟨h2, g2, d2, t2, os'⟩ := s'
      exact ⟨rv, mk_end (raises_own T.exC tC) I1 hsz kk un2 hok2 os2 bare2 ea ed hd1 q2⟩
    | next => exact False.elim hq'
    | brk => exact False.elim hq'
    | cont => exact False.elim hq'
end
end Ux

set_option Elab.async false
set_option linter.all false
set_option maxRecDepth 100000
set_option maxHeartbeats 4000000
set_option pp.maxSteps 400
/-! for (k, ..), v in d.items(), the keys tuples -/
namespace Ux
open PySem PySem.Spec PyProof.Rows L2
/-- the pairs of a locked dict with tuple keys, each a new tuple of the key's own tuple and the value -/
def Itit (d : Addr) (o : Obj) (kvs : List (List L2.Key × V)) : It :=
  ⟨fun i H => H d = some (.frz o (.dT kvs)) ∧ i < kvs.length, fun i H x H' => ∃ T k v q, kvs[i]? = some (k, v) ∧ H q = some (.tup (k.map kV)) ∧ x = .ref T ∧ H T = none ∧ H' = upd H T (.tup [.ref q, v]), fun i H => H d = some (.frz o (.dT kvs)) ∧ kvs.length ≤ i⟩
theorem frzTV {X : Cx} {pins : List (Addr × Obj)} {σ : L2.St} {H : Hp} {s : Shared} {d : Addr} {o : Obj} {kvs : List (List L2.Key × V)} (I : Inv X pins σ H s) (h : H d = some (.frz o (.dT kvs))) :
    (d == sysModules) = false ∧ s.heap.get? d = some o ∧ o.ExactDict ∧ ∃ (es : Array DictEntry) (ep : Nat), o.data = .dict es ep ∧ es.size = kvs.length ∧
      ∀ (i : Nat) (k : List L2.Key) (v : V), kvs[i]? = some (k, v) → ∃ (en : DictEntry) (q : Addr), es[i]? = some en ∧ en.key = .ref q ∧ H q = some (.tup (k.map kV)) ∧ RelV v en.val := by
  obtain ⟨hd, z, hs, xs, pr, o', es, ep, ho, hx, hdt, he, _⟩ := I.hok d _ h
  rw [hd] at ho
  cases ho
  refine ⟨hs, hd, hx, es, ep, hdt, ?_, fun i k v e => ?_⟩
  · have l1 : es.size = xs.length := size_of_entries he
    have l2 : kvs.length = xs.length := Paired.length pr
    omega
  · obtain ⟨b, hb, e1, e2, e3⟩ := paired_get pr e
    have q := entry_at he i
    rw [hb] at q
    exact ⟨_, b.2.1, q, rfl, e2, e3⟩
section
variable {P : Program} {w : World} {K : PySem.W.Frag} {d : Addr} {o : Obj} {es : Array DictEntry} {ep : Nat}
theorem turn_itemsT {kvs : List (List L2.Key × V)} {elts : List Expr} {kk : Nat} {tpos : Pos} (it : Addr) (hod : o.data = .dict es ep) :
    Turn P w K (.Tuple elts kk tpos) (Itit d o kvs) [it] it (fun i h => ∃ ok ov, IsItemIter h it d i kvs.length ep ok ov) where
  mem := by simp
  obj := fun i h st b hb => by
    have e : b = it := by simpa using hb
    subst e
    obtain ⟨ok, ov, e⟩ := st
    exact ⟨_, e, fun v z => nomatch z⟩
  keep := fun i h h' st k => let ⟨ok, ov, e⟩ := st; ⟨ok, ov, k it (by simp) _ e⟩
  item := by
    intro X hP hw hK hc i pins s σ H E I hf st hg
    subst hP hw hK
    obtain ⟨hd, hi⟩ := hg
    obtain ⟨hs, hgd, hx, es', ep', hdt, hsz, ent⟩ := frzTV I hd
    obtain ⟨rfl, rfl⟩ := dict_ep hod hdt
    obtain ⟨⟨k, v⟩, hkv⟩ : ∃ p, kvs[i]? = some p := ⟨kvs[i], List.getElem?_eq_getElem hi⟩
    obtain ⟨en, q, hen, hkey, hq, hv⟩ := ent i k v hkv
    obtain ⟨ok, ov, he⟩ := st
    rw [← hsz] at he
    have hi2 : i < es'.size := by omega
    have een : es'[i] = en := by
      rw [Array.getElem?_eq_getElem hi2] at hen
      exact Option.some.inj hen
    have hlt : it < s.heap.objs.size := Heap.lt_size he
    refine DT.nextI he ⟨o, hgd, hx, hdt⟩ hi2 fun h' ho hT hz hk => ?_
    rw [een] at ho hT
    refine ⟨_, rfl, wpAny_letOwnedTupleGo_items (s := { s with heap := h' }) ho fun h'' he' sb => ?_⟩
    have hT2 : h''.get? s.heap.objs.size = some { cls := .type "tuple", data := .seq #[en.key, en.val] } := (sb.2 _ (Nat.ne_of_gt hlt)).trans hT
    have new : ObjOk X.prog X.w (upd H s.heap.objs.size (.tup [.ref q, v])) h'' s.heap.objs.size (.tup [.ref q, v]) :=
      ⟨by show 2 ≤ sizeLine; decide, [en.key, en.val], .cons hkey (.cons hv .nil), ⟨_, hT2, rfl, _, rfl⟩⟩
    have I1 : Inv X pins σ (upd H s.heap.objs.size (.tup [.ref q, v])) { s with heap := h'' } :=
      I.turnedNew (t' := s.toks) (ch := [it]) (fun b ob hb e => (sb.2 b (by simpa using hb)).trans (hk b ob (by simpa using hb) e)) hf (Nat.le_refl _) new
    refine ⟨.ref s.heap.objs.size, _, I1, rfl, ⟨_, k, v, q, hkv, hq, rfl, I.hok.fresh (Nat.le_refl _), rfl⟩, ⟨en.key, en.val, ?_⟩, fun b hb => ?_⟩
    · rw [← hsz]; exact he'
    · have e : b = it := by simpa using hb
      rw [e, upd_ne (Nat.ne_of_lt hlt)]
      exact (hf it (by simp)).1
  done := by
    intro X hP hw hK hc i pins s σ H E I hf st hg
    subst hP hw hK
    obtain ⟨hd, hi⟩ := hg
    obtain ⟨f0, f1, f2, f3, f4, f5⟩ := hf it (by simp)
    obtain ⟨hs, hgd, hx, es', ep', hdt, hsz, ent⟩ := frzTV I hd
    obtain ⟨rfl, rfl⟩ := dict_ep hod hdt
    obtain ⟨ok, ov, he⟩ := st
    rw [← hsz] at he
    exact DT.endI (I.ok.hd hc) he ⟨o, hgd, hx, hdt⟩ (by omega) fun h' eb => ⟨rfl, I.turned (t' := s.toks) (fun b ob hb e => eb b ob hb e) f0 f1 f3 f4 f5⟩
  self := fun A i s Q E st h => let ⟨_, _, e⟩ := st; PySem.W.kcp_self e h
theorem walk_itemsT {kvs : List (List L2.Key × V)} : Walk (Itit d o kvs) kvs.length (fun H => H d = some (.frz o (.dT kvs)))
    (fun i H x H' => ∃ T k v q, kvs[i]? = some (k, v) ∧ H q = some (.tup (k.map kV)) ∧ x = .ref T ∧ H T = none ∧ H' = upd H T (.tup [.ref q, v])) :=
  ⟨fun _ _ hi q => ⟨q, hi⟩, fun _ q => ⟨q, Nat.le_refl _⟩, fun _ _ _ _ _ _ y => y⟩
end
def iItemsT (td : TE) : TI := fun σ H R => td σ H fun x H1 => ∃ d o kvs, x = .ref d ∧ H1 d = some (.frz o (.dT kvs)) ∧ R (Itit d o kvs) H1
theorem pi_itemsT {X : Cx} {e : Expr} {td : TE} {apos cpos : Pos} {elts : List Expr} {kk : Nat} {tpos : Pos} (he : PE X e td) (hbase : attributeBase e "items" X.env (eval e X.env) = eval e X.env := by rfl) (hline : (apos.endLine == cpos.line) = true := by rfl) :
    PI X (.Tuple elts kk tpos) (.Call (.Attribute e "items" apos) [] [] cpos) (iItemsT td) := by
  refine ⟨fun pins s σ H R I h => ?_⟩
  refine wpAny_Call_method (T := "dict") (id := "dict.items") hbase rfl hline F.plainAttrs_dict F.slot_dict_items F.type_dict_items (thn (he.run pins s σ H _ I h) fun u s1 ⟨x, H1, I1, rx, d, o, kvs, ex, hd, q⟩ => ?_)
  subst ex
  obtain rfl : u = Value.ref d := rx
  obtain ⟨hs, hgd, hx, es, ep, hdt, hsz, ent⟩ := frzTV I1 hd
  have raw : DT.Raw s1.heap d es ep := ⟨o, hgd, hx, hdt⟩
  refine ⟨raw.typeIs, fun o' e' => ?_, ?_⟩
  · cases e'
    exact ⟨o, hgd, hx.2.1⟩
  have I2 : Inv X pins σ H1 { s1 with heap := s1.heap.push { cls := .type "dict_items", data := .fields #[.ref d] } } := I1.kept (t' := s1.toks) fun b ob q => Heap.get?_push_of_some _ q
  show wpAny _ _ (callWith cpos (.builtin "dict.items") [.ref d] [] []) _ X.xe s1
  refine Calls.callWith_builtin rfl (PySem.evalArgs_none ?_)
  refine DT.callItems hs raw ?_
  refine DT.iterI (s := { s1 with heap := s1.heap.push { cls := .type "dict_items", data := .fields #[.ref d] } }) ⟨_, Heap.get?_push_size _ rfl, rfl, rfl⟩ (raw.push _) (pi_one (tk := s1.toks) I2 _ (turn_itemsT _ hdt) ⟨.none, .none, ?_⟩ q)
  rw [← hsz]
  exact Heap.get?_push_size _ rfl
end Ux

set_option Elab.async false
set_option linter.all false
set_option maxRecDepth 100000
set_option maxHeartbeats 4000000
set_option pp.maxSteps 300
/-! Dict comprehensions into a dict of any kind: how it is told when new, and what a store makes of it, are given. -/
namespace Ux
open PySem PySem.Spec PyProof.Rows L2
/-- a way of telling dicts that a comprehension fills -/
structure DWay (P : Program) (w : World) where
  e0 : Addr → HO
  put : Hp → Addr → V → V → Hp → Prop
  new : ∀ (H : Hp) (h : Heap), sysModules < h.objs.size → ObjOk P w H (h.push { cls := .type "dict", data := .dict #[] }) h.objs.size (e0 h.objs.size)
  set : ∀ (Y : Cx) (pins : List (Addr × Obj)) (σ : L2.St) (H H' : Hp) (s : Shared) (D : Addr) (y z : V) (u r : Value) (E : Value → Shared → Prop) (Q : Unit → Shared → Prop), Y.prog = P → Y.w = w → Y.A.units + 9 < cLine → Inv Y pins σ H s → put H D y z H' → RelV y u → RelV z r →
    (∀ s', Inv Y pins σ H' s' → Q () s') → wpAny (model Y.prog Y.w) Y.A (dictSet D u r) Q E s
section
variable {X : Cx}
/-- {k: v for target in iter if ..}: D the new dict -/
def tDcW (W0 : DWay X.prog X.w) (wi : TI) (g : TG) (tt : TT) (tk tv : TE) (vs : List Nat) : TE := fun σ H Q => wi σ H fun J H1 => ∀ D, H1 D = none → ∃ W : Nat → Nat → Hp → Prop, (∃ m, W 0 m (upd H1 D (W0.e0 D))) ∧ ∀ i m H, W i m H →
  (J.stop i H ∧ Q (.ref D) H) ∨ (J.go i H ∧ ∃ Nx : Hp → Prop, (∀ H', Nx H' → ∃ m', m' < m ∧ W (i + 1) m' H') ∧ ∀ x H', J.yld i H x H' → g x (wipe σ vs) H' fun σ2 H2 => wipe σ2 vs = wipe σ vs ∧ tt σ2 H2 fun b H3 =>
    if b = true then tk σ2 H3 fun y H4 => tv σ2 H4 fun z H5 => ∃ H6, W0.put H5 D y z H6 ∧ Nx H6 else Nx H3)
/-- the comprehension's own frame is there, the dict new -/
theorem dcw_core {W0 : DWay X.prog X.w} {pins : List (Addr × Obj)} {s : Shared} {σ : L2.St} {H : Hp} {Q : VK} {kx vx tg iter : Expr} {ifs : List Expr} {scope : Scope} {own : List (Str × Nat)} {pos pos' : Pos} {wi : TI} {g : TG} {tt : TT} {tk tv : TE} {use : Option (Value → Sem Unit)} {Qf : Value → Shared → Prop}
    (hu : X.A.units + 9 < cLine) (hc : X.calm = true) (hN : X.N.Nodup) (I : Inv X pins σ H s) (hi : PI X tg iter wi) (ok : BlkOk X.N X.env.scope scope own)
    (hg : ∀ (s : Shared) (H : Hp) (C : Addr) (cl : List (Str × Addr)) (fp : List Addr), PG (X.blk s H scope (compEnvC scope cl C X.env) fp) tg g) (ht : ∀ (s : Shared) (H : Hp) (C : Addr) (cl : List (Str × Addr)) (fp : List Addr), PTs (X.blk s H scope (compEnvC scope cl C X.env) fp) ifs tt)
    (hk : ∀ (s : Shared) (H : Hp) (C : Addr) (cl : List (Str × Addr)) (fp : List Addr), PE (X.blk s H scope (compEnvC scope cl C X.env) fp) kx tk)
    (he : ∀ (s : Shared) (H : Hp) (C : Addr) (cl : List (Str × Addr)) (fp : List Addr), PE (X.blk s H scope (compEnvC scope cl C X.env) fp) vx tv) (hs : ∀ x, foldedSetIterable iter X.env x = pure x)
    (h : tDcW W0 wi g tt tk tv (own.map (·.2)) σ H Q)
    (hRR : ∀ D C s' m H', Inv X pins σ H' s' → Q (.ref D) H' → s'.heap.Ns C m → FpOk X pins H' C → compPost (model X.prog X.w) X.A X.xe use Qf (.ref D) C (.ok .next) s') :
    wpAny (model X.prog X.w) X.A (comprehension (.DictComp kx vx [⟨tg, iter, ifs, 0⟩] scope pos) scope X.env pos' newDict false (eval iter X.env) use) Qf X.xe s := by
  have hfree : ∀ y ∈ scope.names, y.2 = .free → ∃ c, X.env.cells.lookup y.1 = some c := fun y hy e => (ok.free y hy e).elim (fun k => I.ok.has _ (.inl k)) fun k => I.ok.has _ (.inr k)
  refine wpAny_comprehension_free (use := use) rfl hs (closure_ok hfree) ok.kind (fun y hy e => by rw [ok.uniq y hy, e]) (thn (hi.run pins s σ H _ I h) fun xv s1 hx => thn hx fun itv s2 ⟨it, fp, tn, J, H2, e, I2, T, st2, f2, q⟩ => ?_)
  subst e
  refine wpAny_newObj_type (newEnv_comp ?_)
  generalize hD : s2.heap.objs.size = D
  have hDn : H2 D = none := I2.hok.fresh (Nat.le_of_eq hD)
  obtain ⟨W, ⟨m0, w0⟩, turn⟩ := q D hDn
  generalize hs3 : ({ s2 with heap := s2.heap.push { cls := .type "dict", data := .dict #[] } } : Shared) = s3
  have h3 : s3.heap = s2.heap.push { cls := .type "dict", data := .dict #[] } := by rw [← hs3]
  have I3 : Inv X pins σ (upd H2 D (W0.e0 D)) s3 := by
    rw [← hs3]
    refine I2.laid (t' := s2.toks) (fun b o e => Heap.get?_push_of_some _ e) (Nat.le_of_eq hD) ?_
    rw [← hD]
    exact W0.new _ s2.heap I2.big
  have f3 : ∀ b ∈ fp, FpOk X pins (upd H2 D (W0.e0 D)) b ∧ b < s3.heap.objs.size := fun b hb => by
    have hlt : b < s2.heap.objs.size := let ⟨o, e, _⟩ := T.obj _ _ st2 b hb; Heap.lt_size e
    refine ⟨⟨?_, (f2 b hb).2⟩, by rw [h3, Heap.size_push]; exact Nat.lt_succ_of_lt hlt⟩
    rw [upd_ne (by rw [← hD]; exact Nat.ne_of_lt hlt)]
    exact (f2 b hb).1
  have st3 : tn 0 s3.heap := T.keep _ _ _ st2 fun b _ o e => by rw [h3]; exact Heap.get?_push_of_some _ e
  have I4 := block_start I3 ok hN f3
  have pg := hg s3 (upd H2 D (W0.e0 D)) s3.heap.objs.size (cellsFrom (s3.heap.objs.size + 1) scope.names (cloFrom X.env.cells scope.names [])) fp
  have pt := ht s3 (upd H2 D (W0.e0 D)) s3.heap.objs.size (cellsFrom (s3.heap.objs.size + 1) scope.names (cloFrom X.env.cells scope.names [])) fp
  have pk := hk s3 (upd H2 D (W0.e0 D)) s3.heap.objs.size (cellsFrom (s3.heap.objs.size + 1) scope.names (cloFrom X.env.cells scope.names [])) fp
  have pe := he s3 (upd H2 D (W0.e0 D)) s3.heap.objs.size (cellsFrom (s3.heap.objs.size + 1) scope.names (cloFrom X.env.cells scope.names [])) fp
  show codeAny _ _ (.compStart (.DictComp kx vx [⟨tg, iter, ifs, 0⟩] scope pos) 0 (.ref it) (.ref D) (compEnvC scope (cellsFrom (s3.heap.objs.size + 1) scope.names (cloFrom X.env.cells scope.names [])) s3.heap.objs.size X.env)) (compPost (model X.prog X.w) X.A X.xe use Qf (.ref D) s3.heap.objs.size) { s3 with heap := pushCells (s3.heap.push { cls := .type "dict", data := .dict #[] }) scope.names }
  generalize hce : compEnvC scope (cellsFrom (s3.heap.objs.size + 1) scope.names (cloFrom X.env.cells scope.names [])) s3.heap.objs.size X.env = ce at I4 pg pt pk pe ⊢
  have cL : ce.locals = s3.heap.objs.size := by rw [← hce]; rfl
  have nfp : ∀ b ∈ fp, (upd H2 D (W0.e0 D)) b = none := fun b hb => (f3 b hb).1.1
  generalize upd H2 D (W0.e0 D) = H3 at I3 I4 pg pt pk pe w0 nfp f3
  generalize hs4 : ({ s3 with heap := pushCells (s3.heap.push { cls := .type "dict", data := .dict #[] }) scope.names } : Shared) = s4 at I4 ⊢
  have st4 : tn 0 s4.heap := T.keep _ _ _ st3 fun b _ o e => by rw [← hs4]; exact pushCells_keeps _ _ _ _ (Heap.get?_push_of_some _ e)
  have stat : ∀ {σ' : L2.St} {H' : Hp} {s' : Shared}, Inv (X.blk s3 H3 scope ce fp) [] σ' H' s' → (∀ b ∈ fp, H' b = none) → ∀ b ∈ fp, FpOk (X.blk s3 H3 scope ce fp) [] H' b := fun {σ' H' s'} I' hn b hb =>
    ⟨hn b hb, (I'.ok.exf b hb).1, I'.ok.exfs b hb, .inl hb, fun x c e => (I'.ok.exf b hb).2 x c e, fun p hp => absurd (show p ∈ ([] : List (Addr × Obj)) ++ [] from hp) (by simp)⟩
  have loop : codeAny (model X.prog X.w) X.A (.compLoop (.DictComp kx vx [⟨tg, iter, ifs, 0⟩] scope pos) 0 (.ref it) (.ref D) ce) (compPost (model X.prog X.w) X.A X.xe use Qf (.ref D) s3.heap.objs.size) s4 := by
    refine compLoop_anyD (fun n s' => ∃ i H', Inv (X.blk s3 H3 scope ce fp) [] (wipe σ (own.map (·.2))) H' s' ∧ tn i s'.heap ∧ (∀ b ∈ fp, H' b = none) ∧ W i n H') ?_ m0 ⟨0, H3, I4, st4, nfp, w0⟩
    rintro n s5 ⟨i, H5, I5, st5, n5, w5⟩
    rcases turn i n H5 w5 with ⟨stop, qq⟩ | ⟨go, Nx, hNx, step⟩
    · refine thnF (T.done (X.blk s3 H3 scope ce fp) rfl rfl rfl hc i [] s5 _ H5 (fun _ _ => False) I5 (stat I5 n5) st5 stop) fun r s6 ⟨hr, I6⟩ => ?_
      subst hr
      have I7 : Inv X pins σ H5 s6 := I3.call' (ch := fp) I6.os I6.base I6.hok I6.bare fun b hb => ⟨(f3 b hb).1.2.2.2.1, (f3 b hb).1.2.1, (f3 b hb).1.2.2.2.2.1, (f3 b hb).1.2.2.2.2.2⟩
      have nC : H5 s3.heap.objs.size = none := by
        rw [← cL]
        exact I6.free
      obtain ⟨m, hn, _⟩ := I6.loc
      have hn : s6.heap.Ns ce.locals m := hn
      rw [cL] at hn
      exact hRR D s3.heap.objs.size s6 m H5 I7 qq hn (I3.fpOk (Nat.le_refl _) nC)
    · refine thnF (T.item (X.blk s3 H3 scope ce fp) rfl rfl rfl hc i [] s5 _ H5 (fun _ _ => False) I5 (stat I5 n5) st5 go) fun r s6 ⟨u, hr, h6⟩ => ?_
      subst hr
      refine thnF h6 fun _ s7 ⟨x, H7, I7, r7, y7, st7, n7⟩ => ?_
      have I7' := I7.pinned (stat I7 n7) (T.obj _ _ st7)
      refine thnF (pg.run _ s7 _ H7 x u _ I7' r7 (step x H7 y7)) fun _ s8 ⟨σ8, H8, I8, hw8, q8⟩ => thnF (pt.run _ s8 σ8 H8 _ I8 q8) fun b s9 ⟨H9, I9, q9⟩ => ?_
      have fin : ∀ {s' : Shared} {H' : Hp}, Inv (X.blk s3 H3 scope ce fp) ([] ++ pinsAt fp s7.heap) σ8 H' s' → Nx H' → ∃ m, m < n ∧ ∃ i H', Inv (X.blk s3 H3 scope ce fp) [] (wipe σ (own.map (·.2))) H' s' ∧ tn i s'.heap ∧ (∀ b ∈ fp, H' b = none) ∧ W i m H' := fun {s' H'} I' nx => by
        obtain ⟨m', hm, w'⟩ := hNx H' nx
        have pin' : ∀ b ∈ fp, ∀ o, s7.heap.get? b = some o → s'.heap.get? b = some o ∧ H' b = none := fun b hb o e =>
          let z := I'.pin (b, o) (List.mem_append_right _ (List.mem_append_right _ (mem_pinsAt hb e)))
          ⟨z.1, z.2.1⟩
        refine ⟨m', hm, i + 1, H', (I'.unpinned (pins := [])).weak (by rw [← hw8, wipe_length]) (fun j v e => ?_), T.keep _ _ _ st7 fun b hb o e => (pin' b hb o e).1, fun b hb => ?_, w'⟩
        · rw [← hw8] at e
          exact (wipe_some e).1
        · obtain ⟨o, e, _⟩ := T.obj _ _ st7 b hb
          exact (pin' b hb o e).2
      cases b with
      | false =>
        simp only [Bool.false_eq_true, if_false] at q9 ⊢
        exact fin I9 q9
      | true =>
        simp only [if_true] at q9 ⊢
        refine thnF (pk.run _ s9 σ8 H9 _ I9 q9) fun z s10 ⟨yk, H10, I10, r10, q10⟩ => thnF (pe.run _ s10 σ8 H10 _ I10 q10) fun z2 s11 ⟨yv, H11, I11, r11, H12, pu, nx⟩ => ?_
        exact W0.set (X.blk s3 H3 scope ce fp) _ _ _ H12 _ D yk yv _ _ _ _ rfl rfl hu I11 pu r10 r11 fun s12 I12 => fin I12 nx
  exact codeAny_compStart_dict loop (T.self X.A 0 _ _ _ st4 loop)
theorem pe_dcw (W0 : DWay X.prog X.w) {kx vx tg iter : Expr} {ifs : List Expr} {scope : Scope} {own : List (Str × Nat)} {pos : Pos} {wi : TI} {g : TG} {tt : TT} {tk tv : TE} (hu : X.A.units + 9 < cLine) (hc : X.calm = true) (hN : X.N.Nodup) (hi : PI X tg iter wi) (ok : BlkOk X.N X.env.scope scope own)
    (hg : ∀ (s : Shared) (H : Hp) (C : Addr) (cl : List (Str × Addr)) (fp : List Addr), PG (X.blk s H scope (compEnvC scope cl C X.env) fp) tg g) (ht : ∀ (s : Shared) (H : Hp) (C : Addr) (cl : List (Str × Addr)) (fp : List Addr), PTs (X.blk s H scope (compEnvC scope cl C X.env) fp) ifs tt)
    (hk : ∀ (s : Shared) (H : Hp) (C : Addr) (cl : List (Str × Addr)) (fp : List Addr), PE (X.blk s H scope (compEnvC scope cl C X.env) fp) kx tk)
    (he : ∀ (s : Shared) (H : Hp) (C : Addr) (cl : List (Str × Addr)) (fp : List Addr), PE (X.blk s H scope (compEnvC scope cl C X.env) fp) vx tv) (hs : ∀ x, foldedSetIterable iter X.env x = pure x := by intro _; rfl) :
    PE X (.DictComp kx vx [⟨tg, iter, ifs, 0⟩] scope pos) (tDcW W0 wi g tt tk tv (own.map (·.2))) := by
  refine ⟨fun pins s σ H Q I h => ?_⟩
  rw [arm_eval_DictComp]
  refine dcw_core hu hc hN I hi ok hg ht hk he hs h fun D C s' m H' I' q hn ⟨f0, f1, f2, f3, f4, f5⟩ => ⟨m, hn, fun h'' sb => ?_⟩
  exact ⟨.ref D, H', I'.turned (t' := s'.toks) (fun b o hb e => (sb.2 b hb).trans e) f0 f1 f3 f4 f5, rfl, q⟩
end
/-- a walk's comprehension: Pv by the turn and the heap -/
theorem dcw_it {X : Cx} {W0 : DWay X.prog X.w} {J : It} {n : Nat} {G : Hp → Prop} {Y : Nat → Hp → V → Hp → Prop} (w : Walk J n G Y) {g : TG} {tt : TT} {tk tv : TE} {vs : List Nat} {σ : L2.St} {H1 : Hp} {D : Addr} {Qd : Hp → Prop} (Pv : Nat → Hp → Prop) (h0 : Pv 0 (upd H1 D (W0.e0 D))) (hG : ∀ i H, i ≤ n → Pv i H → G H)
    (hs : ∀ i x H H', i < n → Pv i H → Y i H x H' → g x (wipe σ vs) H' fun σ2 H2 => wipe σ2 vs = wipe σ vs ∧ tt σ2 H2 fun b H3 =>
      if b = true then tk σ2 H3 fun y H4 => tv σ2 H4 fun z H5 => ∃ H6, W0.put H5 D y z H6 ∧ Pv (i + 1) H6 else Pv (i + 1) H3) (hd : ∀ H, Pv n H → Qd H) :
    ∃ W : Nat → Nat → Hp → Prop, (∃ m, W 0 m (upd H1 D (W0.e0 D))) ∧ ∀ i m H, W i m H →
      (J.stop i H ∧ Qd H) ∨ (J.go i H ∧ ∃ Nx : Hp → Prop, (∀ H', Nx H' → ∃ m', m' < m ∧ W (i + 1) m' H') ∧ ∀ x H', J.yld i H x H' → g x (wipe σ vs) H' fun σ2 H2 => wipe σ2 vs = wipe σ vs ∧ tt σ2 H2 fun b H3 =>
        if b = true then tk σ2 H3 fun y H4 => tv σ2 H4 fun z H5 => ∃ H6, W0.put H5 D y z H6 ∧ Nx H6 else Nx H3) := by
  refine ⟨fun i m H => m = n - i ∧ i ≤ n ∧ Pv i H, ⟨n, by simp, Nat.zero_le _, h0⟩, ?_⟩
  rintro i m H ⟨rfl, hi, p⟩
  have q := hG i H hi p
  by_cases hlt : i < n
  · exact .inr ⟨w.goes i H hlt q, Pv (i + 1), fun H' p' => ⟨n - (i + 1), by omega, rfl, hlt, p'⟩, fun x H' y => hs i x H H' hlt p (w.yields i H x H' hlt q y)⟩
  · have e : i = n := by omega
    subst e
    exact .inl ⟨w.stops H q, hd H p⟩
/-- keys tuples of ints and texts -/
def wayT (P : Program) (w : World) : DWay P w where
  e0 := fun _ => .dT []
  put := fun H D y z H' => ∃ kvs k b, H D = some (.dT kvs) ∧ y = .ref b ∧ H b = some (.tup (k.map kV)) ∧ kvs.length < sizeLine ∧ H' = upd H D (.dT (putK kvs k z))
  new := fun H h hb => dt_empty h hb
  set := fun Y pins σ H H' s D y z u r E Q hP hw hu I hp ry rv h => by
    subst hP hw
    obtain ⟨kvs, k, b, e, rfl, eb, l, rfl⟩ := hp
    cases (show u = Value.ref b from ry)
    obtain ⟨zz, hd, xs, rel, dd⟩ := dt_of I.hok e
    have hz : xs.length ≤ sizeLine := by rw [← Paired.length rel]; exact zz
    have hl : (putK kvs k z).length ≤ sizeLine := by have := length_putK kvs k z; omega
    refine wpAny_dictSet_heap (hsz := hz) (knd := tupleKind (mixKind Y.prog Y.w)) (show Y.A.units < cLine by omega) (key_of I.hok eb) dd fun h' dd' hs => h _ ?_
    obtain ⟨q, es, ep, hq, h2, h3, h4, _, h5⟩ := dd'
    refine d_write I (by rw [e]; exact True.intro) hs ⟨q, hq⟩ ⟨hl, hd, _, (rel.put k eb rv).keeps fun c ys ec => ?_, q, es, ep, hq, h2, h3, h4, h5⟩
    rw [upd_ne (ne_of ec e (fun z => nomatch z))]
    exact ec
end Ux

set_option Elab.async false
set_option linter.all false
set_option maxRecDepth 100000
set_option maxHeartbeats 4000000
set_option pp.maxSteps 400
/-! sorted(d), the keys tuples of whole numbers -/
namespace Ux
open PySem PySem.Spec PySem.Calls PyProof.Rows L2
section
variable {X : Cx}
/-- sorted(d) of a dict with fewer than 64 keys, all tuples of d whole numbers in [0, B) -/
theorem call_sortedDT {d : Nat} {B : Int} (hc : X.calm = true) (hd1 : 1 ≤ d) : CallR X (.builtin "sorted") (fun vs H Q => ∃ (a : Addr) (kvs : List (List L2.Key × V)), vs = [V.ref a] ∧ Rd H a (.dT kvs) ∧ kvs.length < 64 ∧ (∀ p ∈ kvs, ∃ ns : List Int, p.1 = ns.map Sum.inl ∧ ns.length = d ∧ TS.Bd B ns) ∧
    ∀ (bs : List Addr) (ys : List V) (p : Addr), IsKeys H kvs bs → ys.Perm (bs.map V.ref) → ys.Pairwise (fun x y => ∀ n m, L2.TupI X.K H x n → L2.TupI X.K H y m → TS.code B n ≤ TS.code B m) → H p = none → Q (.ref p) (upd H p (.lst ys))) := by
  intro pins s σ H vs us Q I r h
  obtain ⟨d0, kvs, rfl, hd, h64, hk, q⟩ := h
  obtain ⟨u, rfl, rx⟩ := r.one
  cases rx
  obtain ⟨z, hs, ks, pr, o, es, ep, ho, hx, hdt, he, hn⟩ := (show ObjOk X.prog X.w H s.heap d0 (.dT kvs) from hd.ok I.hok)
  have l1 : es.size = ks.length := size_of_entries he
  have l2 : kvs.length = ks.length := Paired.length pr
  refine Calls.call_function_entry kind_sorted plain_sorted entry_sorted (args_sorted1 _) ?_
  unfold Builtin.«sorted»
  refine wpAny_bind (m := checkCount "sorted" 1 1 _) (wpAny_pure ?_)
  refine wpAny_bind (PySem.W.kdu_collect (A := X.A.in1) (kdl_raw hs hx hdt) (I.ok.hd hc) ho (by omega) fun h' tk acc kp it => ?_)
  have ea : acc.toList = (ks.map fun x => x.2.1).map Value.ref := by
    rw [List.map_map]
    refine List.ext_getElem? fun j => ?_
    rw [List.getElem?_map]
    cases hj : acc.toList[j]? with
    | none =>
      have h1 := List.getElem?_eq_none_iff.mp hj
      rw [Array.length_toList, it.1, l1] at h1
      rw [List.getElem?_eq_none h1]
      rfl
    | some v =>
      obtain ⟨en, hen, hv⟩ := it.2 j v (by rw [← Array.getElem?_toList]; exact hj)
      have qe := entry_at he j
      rw [hen] at qe
      cases hb : ks[j]? with
      | none => rw [hb] at qe; cases qe
      | some b =>
        rw [hb] at qe
        rw [hv, Option.some.inj qe]
        rfl
  have al : acc.toList.length = kvs.length := by rw [ea, List.length_map, List.length_map, l2]
  have I1 : Inv X pins σ H { s with heap := h', toks := tk } := I.kept kp
  have tups : TS.TupsOk h' d B acc.toList := fun v hv => by
    rw [ea] at hv
    obtain ⟨b, hb, rfl⟩ := List.mem_map.mp hv
    obtain ⟨x, hx2, rfl⟩ := List.mem_map.mp hb
    obtain ⟨j, hj⟩ := List.mem_iff_getElem?.mp hx2
    obtain ⟨p, hp, e1, e2, _⟩ := L2.DX.pget pr hj
    obtain ⟨ns, e3, e4, e5⟩ := hk p (List.mem_of_getElem? hp)
    refine ⟨ns, tupI_raw I1 (t := x.2.1) (.of ?_), e4, e5⟩
    rw [e2, e3, List.map_map]
    rfl
  refine wpAny_bind (wpAny_newList ?_ (by rw [al, sizeLine_eq]; omega))
  have hoL : (h'.push (seqObj "list" acc.toList.toArray 0)).get? h'.objs.size = some (seqObj "list" acc.toList.toArray 0) := Heap.get?_push_size _ rfl
  show wpAny _ _ _ _ _ { s with heap := h'.push (seqObj "list" acc.toList.toArray 0), toks := tk }
  refine wpAny_bind (wpAny_holding (wpAny_call_entry slot_list_sort ⟨_, hoL, rfl⟩ entry_list_sort
    (TS.sort_tups (s := { s with heap := h'.push (seqObj "list" acc.toList.toArray 0), toks := tk }) (d := d) (B := B) hoL (by rw [al]; exact h64) hd1 (fun v hv => ?_) (fun v => TS.code B (TS.intsOf h' v)) (fun v hv ns t => ?_) fun out h1 h2 => ⟨_, rfl, ?_⟩) (args_list_sort _)))
  · obtain ⟨ns, t, e⟩ := tups v hv
    exact ⟨ns, t.keeps fun b ob eo _ => Heap.get?_push_of_some _ eo, e⟩
  · obtain ⟨ns0, t0, _⟩ := tups v hv
    have e : ns = ns0 := t.ints.symm.trans (t0.keeps fun b ob eo _ => Heap.get?_push_of_some _ eo).ints
    rw [e]
    show TS.code B (TS.intsOf h' v) = TS.code B ns0
    rw [t0.ints]
  · obtain ⟨e', he'⟩ := sortedHeap_at (vs := acc.toList) (out := out) hoL
    have h3 : ∀ u ∈ out.toList, ∃ a, u = Value.ref a := fun u hu => by
      have hu2 := h1.mem_iff.mp hu
      rw [ea] at hu2
      obtain ⟨b, _, rfl⟩ := List.mem_map.mp hu2
      exact ⟨b, rfl⟩
    have hp : (out.toList.map bkV).Perm ((ks.map fun x => x.2.1).map V.ref) := by
      refine (h1.map bkV).trans ?_
      rw [ea, List.map_map]
      exact List.Perm.refl _
    have hlen : (out.toList.map bkV).length ≤ sizeLine := by
      rw [hp.length_eq, List.length_map, List.length_map]
      omega
    refine wpAny_pure ⟨_, rfl, .ref h'.objs.size, upd H h'.objs.size (.lst (out.toList.map bkV)), I1.laid (t' := tk) (fun b u e => ?_) (Nat.le_refl _) ⟨hlen, out.toList, e', bkV_vals h3, he'⟩, rfl, q _ _ _ (isKeys_of pr) hp ?_ (I1.hok.fresh (Nat.le_refl _))⟩
    · have hb : b < h'.objs.size := Heap.lt_size e
      rw [sortedHeap_old (Nat.ne_of_lt hb) (by rw [size_push']; exact Nat.lt_succ_of_lt hb)]
      exact Heap.get?_push_of_some _ e
    · rw [List.pairwise_map]
      refine List.Pairwise.imp (fun {u v} huv n m hn hm => ?_) h2
      obtain ⟨t, et, ht⟩ := hn
      obtain ⟨t', et', ht'⟩ := hm
      have i1 : TS.intsOf h' u = n := by
        rw [bkV_ref et]
        exact (tupI_raw I1 ht).ints
      have i2 : TS.intsOf h' v = m := by
        rw [bkV_ref et']
        exact (tupI_raw I1 ht').ints
      rw [← i1, ← i2]
      exact huv
end
end Ux

set_option Elab.async false
set_option linter.all false
set_option maxRecDepth 100000
set_option maxHeartbeats 4000000
set_option pp.maxSteps 400
/-! max(list of whole numbers, default=d) -/
namespace Ux
open PySem PySem.Spec PyProof.Rows L2
section
variable {X : Cx}
def rMaxDef (K : PySem.W.Frag) : List V → List V → Hp → VK → Prop := fun vs zs H Q => ∃ (a : Addr) (ns : List Int) (d : V), vs = [V.ref a] ∧ zs = [d] ∧ SqL K H a (ns.map V.int) ∧ (ns = [] → Q d H) ∧ ∀ m, m ∈ ns → (∀ y, y ∈ ns → y ≤ m) → Q (.int m) H
theorem ints_at : ∀ {us : List Value} {ns : List Int}, IntsAre us ns → ∀ {i : Nat} {v : Value}, us[i]? = some v → ∃ t, v = .int (ns.getD i 0) t
  | _, _, .nil, i, v, h => by cases h
  | _, _, .cons n t h2, i, v, e => by
    cases i with
    | zero =>
      cases Option.some.inj e
      exact ⟨_, rfl⟩
    | succ i => exact ints_at h2 (i := i) e
theorem cr_maxDef (hc : X.calm = true) : CallRK X (.builtin "max") [Str.ofString "default"] (rMaxDef X.K) := by
  intro pins s σ H vs zs us ws Q I r rz h
  obtain ⟨a, ns, d, rfl, rfl, hs, q0, q⟩ := h
  obtain ⟨its, rv, hl, hz⟩ := I.list hs
  obtain rfl := Vals.ref1 r
  cases rz with
  | @cons _ wd _ _ rd r0 =>
  cases r0
  have hi := rv.ints
  have hn : its.toArray.size = ns.length := by rw [List.size_toArray, hi.length]
  show wpAny _ _ (call (.builtin "max") [.ref a] [(Str.ofString "default", wd)]) _ _ s
  refine PySem.call_max_walkD (PySem.W.iter_listW (A := X.A.in1) (I.ok.hd hc) hl.isList fun s₂ e W st hfp hw hk => ?_)
  refine ⟨_, _, _, _, _, _, _, s.heap, (fun i j => decide (ns.getD i 0 > ns.getD j 0)), rfl, W, st, hfp, hw, hk, fun hz s' m => ?_, fun hp => ⟨fun i j vi vj s' Q' E' _ hi' hj' hq => ?_, fun v s' hP m => ?_⟩⟩
  · obtain ⟨h', tk, rfl, hk'⟩ := PySem.W.moved_old e rfl m
    exact ⟨d, H, I.kept hk', rd, q0 (List.eq_nil_of_length_eq_zero (by omega))⟩
  · have hval : ∀ i v, its.toArray[i]? = some v → ∃ t, v = Value.int (ns.getD i 0) t := fun i v e => ints_at hi (by simpa using e)
    exact CmpOf.ints_gt (fun i => ns.getD i 0) hval i j vi vj s' Q' E' hi' hj' hq
  · obtain ⟨h', tk, rfl, hk'⟩ := PySem.W.moved_old e rfl m
    obtain ⟨t, rfl⟩ := ints_at hi (i := argBest (fun i j => decide (ns.getD i 0 > ns.getD j 0)) (its.toArray.size - 1)) (by rw [← List.getElem?_toArray]; exact hP)
    obtain ⟨h1, h2⟩ := argBest_gt (fun i => ns.getD i 0) (its.toArray.size - 1)
    refine ⟨V.int _, H, I.kept hk', ⟨t, rfl⟩, q _ ?_ fun y hy => ?_⟩
    · rw [List.getD_eq_getElem?_getD, List.getElem?_eq_getElem (by omega)]
      exact List.getElem_mem _
    · obtain ⟨j, hj, rfl⟩ := List.getElem_of_mem hy
      have := h2 j (by omega)
      rw [show ns.getD j 0 = ns[j] by rw [List.getD_eq_getElem?_getD, List.getElem?_eq_getElem hj]; rfl] at this
      exact this
end
end Ux

set_option Elab.async false
set_option linter.all false
set_option maxRecDepth 100000
set_option maxHeartbeats 4000000
set_option pp.maxSteps 400
/-! == of two dicts with tuple keys, their values compared by an own ==: both answers -/
namespace Ux
open PySem PySem.Spec PyProof.Rows L2
/-- how two values compare, by the abstract heap -/
abbrev EqvB := Bool → V → V → Hp → Prop
def MonB (D : EqvB) : Prop := ∀ b x y H H', Ext H H' → D b x y H → D b x y H'
def EqB (X : Cx) (n : Nat) (D : EqvB) : Prop :=
  ∀ (A : Around) (pins : List (Addr × Obj)) (s : Shared) (σ : L2.St) (H : Hp) (b : Bool) (x y : V) (u v : Value), Sub X n A → Inv X pins σ H s → RelV x u → RelV y v → D b x y H →
    wpAny (model X.prog X.w) A (eqBool u v) (fun r s' => r = b ∧ ∃ H', Inv X pins σ H' s' ∧ Ext H H') X.xe s
/-- instances of one class by the text's own == -/
def DInsB (C : Addr) (R : Bool → Addr → Addr → Hp → Prop) : EqvB := fun r x y H => ∃ a b dx dy fs gs, x = .ref a ∧ y = .ref b ∧ H a = some (.ins C dx fs) ∧ H b = some (.ins C dy gs) ∧ R r a b H ∧ (a = b → r = true)
def spEqB (R : Bool → Addr → Addr → Hp → Prop) : Sp := fun vs H Q _ => ∃ r a b, vs = [.ref a, .ref b] ∧ R r a b H ∧ ∀ H', Ext H H' → Q (.bl r) H'
section
variable {X : Cx} {n : Nat}
theorem rcB_ins {CX : CXT} {C f : Addr} {fd : FuncData} {ps : List Str} {R : Bool → Addr → Addr → Hp → Prop} {E : XK} (F : FnOk X.prog X.w X.K X.mg X.base CX n f fd ps (spEqB R))
    (hs : PySem.W.findIn X.K (.ref C) "__eq__" = some (some (.ref f))) (hf : PySem.W.isFn X.K (.ref f) = true) (hb : Binds X.K fd ps []) (hx : Passes CX X E) : EqB X n (DInsB C R) := by
  intro A pins s σ H r x y u v sb I rx ry d
  obtain ⟨a, b, dx, dy, fs, gs, rfl, rfl, ha, hb', hr, hab⟩ := d
  cases rx
  cases ry
  by_cases e : a = b
  · subst e
    rw [hab rfl]
    exact SeqAt.EqAt.same (A := A) (s := s) (.ref a) X.prog X.w X.xe _ ⟨rfl, H, I, Ext.rfl'⟩
  obtain ⟨mA, J, _⟩ := ins_get I.hok ha
  obtain ⟨mB, J', _⟩ := ins_get I.hok hb'
  obtain ⟨od, J, _⟩ := J.look
  obtain ⟨od', J', _⟩ := J'.look
  obtain ⟨m, hF⟩ := I.fr
  refine GQ.eqBool_refG e (PySem.W.cmp_K (op := .Eq) (tb := .ref C) sb.room.units0 hF I.ok.mod.kin J J'.type (by simp [PySem.W.notFirst]) hs hf ?_)
  have hsp : spEqB R [.ref a, .ref b] H (fun v H' => v = .bl r ∧ Ext H H') E := ⟨r, a, b, rfl, hr, fun H' e => ⟨rfl, e⟩⟩
  have e0 : Env0 X.prog X.w X.K X.mg X.base A X.stack s H := by
    have e := I.env0
    exact ⟨by rw [sb.fr]; exact e.frames, e.mod, e.bs, e.bsz, e.funs, e.frf, e.hok, e.bare⟩
  have hl := F.len _ _ _ _ hsp
  have r2 : Vals [V.ref a, V.ref b] [Value.ref a, Value.ref b] := .cons rfl (.cons rfl .nil)
  have bt := hb s [.ref a, .ref b] I.kIn (by simpa using hl)
  refine wpAny_call (codeAny_mono (F.run A X.stack s H ⟨[.ref a, .ref b], []⟩ [.ref a, .ref b] [.ref a, .ref b] _ E sb.room e0 (by simpa using bt) r2 hsp) fun r' s' hq => ?_)
  cases r' with
  | error e => exact hx pins σ H s e s' I hq
  | ok fl =>
    cases fl with
    | ret w =>
      obtain ⟨z, H', I', rz, ez, ex⟩ := I.after hq
      subst ez
      cases rz
      exact ⟨r, rfl, rfl, H', I', ex⟩
    | next => exact False.elim hq
    | brk => exact False.elim hq
    | cont => exact False.elim hq
/-- each key of one dict in the other -/
inductive HitsT (D : EqvB) (H : Hp) (ls : List (List L2.Key × V)) : List (List L2.Key × V) → Bool → Prop
  | nil : HitsT D H ls [] true
  | miss {k : List L2.Key} {v : V} {r : List (List L2.Key × V)} : valV ls k = none → HitsT D H ls ((k, v) :: r) false
  | hit {k : List L2.Key} {v y : V} {r : List (List L2.Key × V)} {e b : Bool} : valV ls k = some y → D e v y H → HitsT D H ls r b → HitsT D H ls ((k, v) :: r) (e && b)
theorem HitsT.inv {D : EqvB} {H : Hp} {ls : List (List L2.Key × V)} {k : List L2.Key} {v : V} {r : List (List L2.Key × V)} {b : Bool} (h : HitsT D H ls ((k, v) :: r) b) :
    (valV ls k = none ∧ b = false) ∨ ∃ y e b', valV ls k = some y ∧ D e v y H ∧ HitsT D H ls r b' ∧ b = (e && b') := by
  cases h with
  | miss hn => exact .inl ⟨hn, rfl⟩
  | hit hy he hr => exact .inr ⟨_, _, _, hy, he, hr, rfl⟩
theorem frzXs {pins : List (Addr × Obj)} {σ : L2.St} {H : Hp} {s : Shared} {d : Addr} {o : Obj} {kvs : List (List L2.Key × V)} (I : Inv X pins σ H s) (h : H d = some (.frz o (.dT kvs))) :
    (d == sysModules) = false ∧ s.heap.get? d = some o ∧ o.ExactDict ∧ ∃ (es : Array DictEntry) (ep : Nat) (xs : List (List L2.Key × Addr × Value)), o.data = .dict es ep ∧ es.toList = xs.map (entryOfKey (tupleKind (mixKind X.prog X.w))) ∧ (xs.map (·.1)).Nodup ∧ KT H kvs xs := by
  obtain ⟨hd, z, hs, xs, pr, o', es, ep, ho, hx, hdt, he, hn⟩ := I.hok d _ h
  rw [hd] at ho
  cases ho
  exact ⟨hs, hd, hx, es, ep, xs, hdt, he, hn, pr⟩
theorem same_pairsT {pins : List (Addr × Obj)} {σ : L2.St} {H : Hp} {s : Shared} {A : Around} {D : EqvB} (mD : MonB D) (hE : EqB X n D) (sb : Sub X n A) (hu : A.units < cLine) {nm : String} {a b : Addr} {oa ob : Obj} {ks ls : List (List L2.Key × V)} {r : Bool} {Q : Bool → Shared → Prop} (I : Inv X pins σ H s)
    (ha : H a = some (.frz oa (.dT ks))) (hb : H b = some (.frz ob (.dT ls))) (hits : ks.length = ls.length → HitsT D H ls ks r) (h : ∀ H' s', Inv X pins σ H' s' → Ext H H' → Q (ks.length == ls.length && r) s') :
    wpAny (model X.prog X.w) A (Builtin.Dict.samePairs nm a b) Q X.xe s := by
  obtain ⟨sa, hoa, xa, es, ep, xs, hda, hea, hna, pa⟩ := frzXs I ha
  obtain ⟨sb', hob, xb, es', ep', ys, hdb, heb, hnb, pb⟩ := frzXs I hb
  have la : ks.length = es.size := by rw [Paired.length pa]; exact (size_of_entries hea).symm
  have lb : ls.length = es'.size := by rw [Paired.length pb]; exact (size_of_entries heb).symm
  rw [la, lb] at h
  unfold Builtin.Dict.samePairs Builtin.Dict.showsAll
  rw [if_neg (show ¬ (a == sysModules) = true by rw [sa]; exact Bool.false_ne_true), if_neg (show ¬ (b == sysModules) = true by rw [sb']; exact Bool.false_ne_true)]
  refine wpAny_bind (wpAny_pure (wpAny_bind (wpAny_pure (wpAny_bind (wpAny_dictEntries hoa hda ?_)))))
  dsimp only
  refine wpAny_bind (wpAny_dictEntries hob hdb ?_)
  by_cases hsz : es.size = es'.size
  case neg =>
    rw [if_pos (by simpa using hsz)]
    have hbf : (es.size == es'.size) = false := by simpa using hsz
    rw [hbf, Bool.false_and] at h
    exact wpAny_bind (wpAny_rule (wpAny_pure (h H s I Ext.rfl')))
  case pos =>
    have h' : ∀ H' s', Inv X pins σ H' s' → Ext H H' → Q r s' := fun H' s' i e => by simpa [hsz] using h H' s' i e
    have hits' := hits (by rw [la, lb]; exact hsz)
    rw [if_neg (by rw [hsz]; simp)]
    refine wpAny_bind (wpAny_dictEpoch hoa hda (wpAny_bind ?_))
    rw [Std.Legacy.Range.forIn_eq_forIn_range']
    simp only [Std.Legacy.Range.size, Nat.sub_zero, Nat.add_sub_cancel, Nat.div_one]
    refine wpAny_forIn_list _
      (fun rest q s' => (∃ H', Inv X pins σ H' s' ∧ Ext H H') ∧ q = (none, ()) ∧ ∃ i, rest = List.range' i (es.size - i) ∧ i ≤ es.size ∧ HitsT D H ls (ks.drop i) r)
      _ ?_ ?_ _ _ ⟨⟨H, I, Ext.rfl'⟩, rfl, 0, by simp, Nat.zero_le _, hits'⟩
    · rintro x rest q s' ⟨⟨H1, I1, e1⟩, rfl, i, hr, hi, hpre⟩
      have hlt : i < es.size := by
        rcases Nat.lt_or_ge i es.size with h | h
        · exact h
        · rw [Nat.sub_eq_zero_of_le h] at hr; simp at hr
      obtain ⟨rfl, hrest⟩ : x = i ∧ rest = List.range' (i + 1) (es.size - (i + 1)) := by
        have e : es.size - i = (es.size - (i + 1)) + 1 := by omega
        rw [e, List.range'_succ] at hr
        injection hr with h1 h2
        exact ⟨h1, h2⟩
      have ha1 := (frzXs I1 (e1 _ _ ha)).2.1
      have hb1 := (frzXs I1 (e1 _ _ hb)).2.1
      refine wpAny_bind (wpAny_dictEntries ha1 hda ?_)
      rw [Array.getElem?_eq_getElem hlt]
      have hlt' : x < ks.length := by rw [la]; exact hlt
      obtain ⟨k, v, hkv⟩ : ∃ k v, ks[x] = (k, v) := ⟨_, _, rfl⟩
      have hdrop : ks.drop x = (k, v) :: ks.drop (x + 1) := by rw [← hkv]; exact List.drop_eq_getElem_cons hlt'
      obtain ⟨y0, hy0, c1, c2, c3⟩ := paired_get pa (show ks[x]? = some (k, v) by rw [List.getElem?_eq_getElem hlt', hkv])
      have en := entry_at hea x
      rw [hy0, Array.getElem?_eq_getElem hlt] at en
      have en : es[x] = entryOfKey (tupleKind (mixKind X.prog X.w)) y0 := Option.some.inj en
      rw [en]
      obtain ⟨k0, q0, w0⟩ := y0
      have c1 : k = k0 := c1
      subst c1
      rw [hdrop] at hpre
      show wpAny _ _ (holding [Value.ref q0, w0] _ >>= _) _ _ _
      refine wpAny_bind (wpAny_holding (wpAny_bind ?_))
      refine wpAny_dictFind_heap (knd := tupleKind (mixKind X.prog X.w)) hu (key_of I1.hok (e1 _ _ c2)) hb1 hdb heb (fun z hz => ?_) hnb (fun hno => ?_) (fun j p hj => ?_)
      · obtain ⟨j, hj⟩ := List.mem_iff_getElem?.mp hz
        obtain ⟨q', _, t1, t2, _⟩ := L2.DX.pget pb hj
        rw [← t1]
        exact key_of I1.hok (e1 _ _ t2)
      · have hn : valV ls k = none := by
          cases hv : valV ls k with
          | none => rfl
          | some y =>
            exfalso
            have hv2 := KT.val pb k
            rw [hv, atKey_none_of_get hno] at hv2
            exact hv2
        rcases hpre.inv with ⟨_, er⟩ | ⟨y, _, _, hy, _⟩
        · refine wpAny_pure ?_
          show wpAny _ _ (if (!false) = true then _ else _) _ _ _
          rw [if_pos (by decide)]
          have := h' H1 s' I1 e1
          rw [er] at this
          exact wpAny_pure (wpAny_pure this)
        · rw [hn] at hy; exact nomatch hy
      · have hv2 := KT.val pb k
        rw [atKey_of_get hnb hj] at hv2
        refine wpAny_bind (wpAny_dictEntries hb1 hdb ?_)
        have en2 := entry_at heb j
        rw [hj] at en2
        rw [en2]
        rcases hpre.inv with ⟨hn, _⟩ | ⟨y, e, b', hy, he, hrr, er⟩
        · rw [hn] at hv2; exact False.elim hv2
        · rw [hy] at hv2
          show wpAny _ _ (holding [p.2] (eqBool w0 p.2)) _ _ _
          refine wpAny_holding (wpAny_mono (hE A pins s' σ H1 e v y w0 p.2 sb I1 c3 hv2 (mD _ _ _ _ _ e1 he)) (fun r2 s2 ⟨hr2, H2, I2, e2⟩ => ?_) fun _ _ z => z)
          subst hr2
          cases r2 with
          | false =>
            show wpAny _ _ (if (!false) = true then _ else _) _ _ _
            rw [if_pos (by decide)]
            have := h' H2 s2 I2 (e1.trans e2)
            rw [er, Bool.false_and] at this
            exact wpAny_pure (wpAny_pure this)
          | true =>
            rw [Bool.true_and] at er
            rw [← er] at hrr
            show wpAny _ _ (if (!true) = true then _ else _) _ _ _
            rw [if_neg (by decide)]
            refine wpAny_bind (wpAny_dictEpoch (frzXs I2 (e2 _ _ (e1 _ _ ha))).2.1 hda ?_)
            rw [if_neg (by simp)]
            exact wpAny_pure ⟨⟨H2, I2, e1.trans e2⟩, rfl, x + 1, hrest, hlt, hrr⟩
    · rintro q s' ⟨⟨H1, I1, e1⟩, rfl, i, hr, hi, hpre⟩
      have hin : i = es.size := by
        rcases Nat.lt_or_ge i es.size with h | h
        · have e : es.size - i = (es.size - (i + 1)) + 1 := by omega
          rw [e, List.range'_succ] at hr; exact nomatch hr
        · exact Nat.le_antisymm hi h
      refine wpAny_pure ?_
      rw [hin, ← la, List.drop_length] at hpre
      cases hpre
      exact h' H1 s' I1 e1
/-- d == e, both locked -/
def rEqDT (D : EqvB) : R2 := fun x y H Q => ∃ a b oa ob ks ls r, x = .ref a ∧ y = .ref b ∧ H a = some (.frz oa (.dT ks)) ∧ H b = some (.frz ob (.dT ls)) ∧ (ks.length = ls.length → HitsT D H ls ks r) ∧ ∀ H', Ext H H' → Q (.bl (ks.length == ls.length && r)) H'
theorem op_eqDT {D : EqvB} (mD : MonB D) (hE : EqB X n D) (hr : Room (n + 1) X.A) : OpR X (compareOp .Eq) (rEqDT D) := by
  intro pins s σ H x y v u Q I rx ry h
  obtain ⟨a, b, oa, ob, ks, ls, r, rfl, rfl, ea, eb, hh, q⟩ := h
  obtain rfl : v = Value.ref a := rx
  obtain rfl : u = Value.ref b := ry
  have ta : s.TypeIs (.ref a) "dict" := let z := frzXs I ea; ⟨_, z.2.1, z.2.2.1.1⟩
  have tb : s.TypeIs (.ref b) "dict" := let z := frzXs I eb; ⟨_, z.2.1, z.2.2.1.1⟩
  refine wpAny_richCompare_same_room (op := .Eq) ta tb PySem.F.slot_dict_eq (wpAny_call_entry PySem.F.slot_dict_eq ta PySem.F.entry_dict_eq ?_ (PySem.F.args_dict_eq_2 _ _)) hr.units0
  show wpAny _ _ (Builtin.Dict.dictSlotArgs "__eq__" ⟨[.ref a, .ref b], []⟩ >>= _) _ _ s
  refine wpAny_bind ?_
  unfold Builtin.Dict.dictSlotArgs
  refine wpAny_bind (wpAny_notOrdered_dict ta ?_)
  show wpAny _ _ (pure (Value.ref a, Value.ref b)) _ _ s
  refine wpAny_pure (wpAny_bind (wpAny_isInstance (T := "dict") tb PySem.F.sub_dict_dict ?_))
  simp only [Bool.not_true, Bool.false_eq_true, if_false]
  refine wpAny_bind (wpAny_pure (wpAny_bind (wpAny_pure ?_)))
  have sb : Sub X (n + 1) X.A := ⟨hr, rfl⟩
  refine wpAny_bind (same_pairsT mD hE sb.in1 sb.in1.room.units0 I ea eb hh fun H' s' I' e' => ?_)
  refine wpAny_pure ⟨_, rfl, (fun x => nomatch x), ?_⟩
  exact ⟨.bl (ks.length == ls.length && r), H', I', by simp; rfl, q H' e'⟩
end
end Ux

set_option Elab.async false
set_option linter.all false
set_option maxRecDepth 100000
set_option maxHeartbeats 4000000
set_option pp.maxSteps 500
namespace K37
open PySem PySem.Spec PyProof.Rows L2 Ux
abbrev sIsPow : Stmt := top 22
abbrev sChk : Stmt := top 23
abbrev sTab : Stmt := top 24
abbrev sPwT : Stmt := top 25
def kk (k : KY) : List L2.Key := [Sum.inl ((k.1 : Nat) : Int), Sum.inl ((k.2 : Nat) : Int)]
theorem kk_inj {a b : KY} (h : kk a = kk b) : a = b := by
  unfold kk at h
  have h1 := Sum.inl.inj (List.cons.inj h).1
  have h2 := Sum.inl.inj (List.cons.inj (List.cons.inj h).2).1
  exact Prod.ext (Int.ofNat.inj h1) (Int.ofNat.inj h2)
theorem kk_v (k : KY) : (kk k).map kV = [V.int (k.1 : Nat), V.int (k.2 : Nat)] := rfl
/-- a dict's pairs and the rows that they are -/
def TbAt (R : Hp → Addr → PQ → Prop) (H : Hp) (kvs : List (List L2.Key × V)) (T : RW) : Prop := Paired (fun (p : List L2.Key × V) (e : KY × PQ) => p.1 = kk e.1 ∧ ∃ r, p.2 = .ref r ∧ R H r e.2) kvs T
section
variable {R : Hp → Addr → PQ → Prop} {H H' : Hp} {kvs : List (List L2.Key × V)} {T : RW}
theorem TbAt.len (h : TbAt R H kvs T) : kvs.length = T.length := Paired.length h
theorem TbAt.mono (h : TbAt R H kvs T) (k : ∀ r p, R H r p → R H' r p) : TbAt R H' kvs T := Paired.mapP h fun _ _ ⟨e1, r, e2, e3⟩ => ⟨e1, r, e2, k r _ e3⟩
theorem TbAt.keep [m : Mn R] (h : TbAt R H kvs T) (k : ∀ b o, H b = some o → (∀ xs, o ≠ .lst xs) → H' b = some o) : TbAt R H' kvs T := h.mono fun r p e => m.mono e (k r)
theorem TbAt.same [m : Mn R] (h : TbAt R H kvs T) (s : Same H H') : TbAt R H' kvs T := h.keep fun b o e _ => s b o e
theorem TbAt.val (h : TbAt R H kvs T) (k : KY) : (vAt T k = none ∧ valV kvs (kk k) = none) ∨ ∃ p r, vAt T k = some p ∧ valV kvs (kk k) = some (.ref r) ∧ R H r p := by
  unfold TbAt at h
  induction h with
  | nil => exact .inl ⟨rfl, rfl⟩
  | @cons p e ps es r t ih =>
    obtain ⟨e1, r, e2, e3⟩ := r
    rw [vAt_cons]
    by_cases c : e.1 = k
    · rw [if_pos c]
      exact .inr ⟨e.2, r, rfl, by rw [valV_pos (e1.trans (by rw [c])), e2], e3⟩
    · rw [if_neg c, valV_neg (fun z => c (kk_inj (e1.symm.trans z)))]
      exact ih
theorem TbAt.put (h : TbAt R H kvs T) {k : KY} {w q : PQ} {r : Addr} (nd : (T.map (·.1)).Nodup) (hr : R H r q) (hq : (vAt T k = none ∧ q = w) ∨ ∃ p, vAt T k = some p ∧ q = pl p w) : TbAt R H (putK kvs (kk k) (.ref r)) (addR T k w) := by
  rcases h.val k with ⟨h1, h2⟩ | ⟨p, r0, h1, h2, _⟩
  · rw [putK_new _ h2, addR_new h1]
    rcases hq with ⟨_, rfl⟩ | ⟨p, e, _⟩
    · have : ∀ {a : List (List L2.Key × V)} {b : RW}, TbAt R H a b → TbAt R H (a ++ [(kk k, .ref r)]) (b ++ [(k, q)]) := fun h => by
        unfold TbAt at h ⊢
        induction h with
        | nil => exact .cons ⟨rfl, r, rfl, hr⟩ .nil
        | cons a _ ih => exact .cons a ih
      exact this h
    · rw [h1] at e; cases e
  · rw [addR_old nd h1]
    rcases hq with ⟨e, _⟩ | ⟨p', e, rfl⟩
    · rw [h1] at e; cases e
    have epp : p' = p := by rw [h1] at e; exact (Option.some.inj e).symm
    subst epp
    have ep : putK kvs (kk k) (.ref r) = kvs.map fun kv => if kv.1 = kk k then (kv.1, .ref r) else kv := by
      unfold putK
      have : (kvs.any fun kv => decide (kv.1 = kk k)) = true := by rw [valV_any, h2]; rfl
      first | rw [if_pos this] | simp [this]
    rw [ep]
    have : ∀ {a : List (List L2.Key × V)} {b : RW}, TbAt R H a b → TbAt R H (a.map fun kv => if kv.1 = kk k then (kv.1, .ref r) else kv) (b.map fun e => if e.1 = k then (e.1, pl p' w) else e) := fun h => by
      unfold TbAt at h ⊢
      induction h with
      | nil => exact .nil
      | @cons p e ps es a _ ih =>
        refine .cons ?_ ih
        obtain ⟨e1, r1, e2, e3⟩ := a
        dsimp only
        by_cases c : e.1 = k
        · rw [if_pos (e1.trans (by rw [c])), if_pos c]
          exact ⟨e1, r, rfl, hr⟩
        · rw [if_neg (fun z => c (kk_inj (e1.symm.trans z))), if_neg c]
          exact ⟨e1, r1, e2, e3⟩
    exact this h
theorem TbAt.get (h : TbAt R H kvs T) {i : Nat} {e : KY × PQ} (he : T[i]? = some e) : ∃ r, kvs[i]? = some (kk e.1, .ref r) ∧ R H r e.2 := by
  unfold TbAt at h
  induction h generalizing i with
  | nil => cases he
  | @cons p f ps es a _ ih =>
    cases i with
    | zero =>
      cases Option.some.inj he
      obtain ⟨e1, r, e2, e3⟩ := a
      exact ⟨r, congrArg some (Prod.ext e1 e2), e3⟩
    | succ i => exact ih (i := i) he
theorem TbAt.nil : TbAt R H [] [] := Paired.nil
theorem TbAt.snoc (h : TbAt R H kvs T) {k : KY} {q : PQ} {r : Addr} (hr : R H r q) : TbAt R H (kvs ++ [(kk k, .ref r)]) (T ++ [(k, q)]) := by
  unfold TbAt at h ⊢
  induction h with
  | nil => exact .cons ⟨rfl, r, rfl, hr⟩ .nil
  | cons a _ ih => exact .cons a ih
end
/-- rows as they are handed in -/
structure RowsAt (CR : Addr) (H : Hp) (ts : List Addr) (rows : RW) : Prop where
  len : ts.length = rows.length
  at_ : ∀ (i : Nat) (t : Addr) (e : KY × PQ), ts[i]? = some t → rows[i]? = some e → ∃ y, H t = some (.tup [.int (e.1.1 : Nat), .int (e.1.2 : Nat), y]) ∧ NumV CR H y e.2.1 e.2.2
theorem RowsAt.same {CR : Addr} {H H' : Hp} {ts : List Addr} {rows : RW} (h : RowsAt CR H ts rows) (s : Same H H') : RowsAt CR H' ts rows := ⟨h.len, fun i t e a b => let ⟨y, h1, h2⟩ := h.at_ i t e a b; ⟨y, s _ _ h1, h2.same s⟩⟩
def spIsPow (K : PySem.W.Frag) : Sp := fun vs H Q _ => ∃ v, vs = [v] ∧ ((∃ i : Int, v = .int i ∧ Q (.bl (decide (0 ≤ i))) H) ∨ (NotInt K H v ∧ Q (.bl false) H))
def GoodP (v : V) : Prop := ∃ i : Int, v = .int i ∧ 0 ≤ i
def BadP (K : PySem.W.Frag) (H : Hp) (v : V) : Prop := (∃ i : Int, v = .int i ∧ i < 0) ∨ NotInt K H v
def spChk (K : PySem.W.Frag) (CR CI : Addr) : Sp := fun vs H Q E => ∃ (t : Addr) (a b c : V), vs = [.ref t] ∧ H t = some (.tup [a, b, c]) ∧
  ((GoodP a ∧ GoodP b ∧ (∃ p : PQ, NumV CR H c p.1 p.2) ∧ Q .non H) ∨ (BadP K H a ∧ Adm K H a ∧ RaisesN CI a H E) ∨ (GoodP a ∧ BadP K H b ∧ Adm K H b ∧ RaisesN CI b H E) ∨ (GoodP a ∧ GoodP b ∧ NotNum K CR H c ∧ Adm K H c ∧ RaisesN CI c H E))
def spTab (K : PySem.W.Frag) (CR : Addr) : Sp := fun vs H Q _ => ∃ (l : Addr) (ts : List Addr) (rows : RW) (n N : Nat), vs = [.ref l] ∧ SqL K H l (ts.map V.ref) ∧ RowsAt CR H ts rows ∧ Rws n rows ∧ (∀ k, (n + 1) * cnt rows k ≤ N) ∧ N ≤ 1900 ∧
  ∀ (d : Addr) (kvs : List (List L2.Key × V)) (T : RW) (H' : Hp), H' d = some (.dT kvs) → TbAt (RatP CR) H' kvs T → Canon N rows T → H d = none → Same H H' → Q (.ref d) H'
def spPwT (CR : Addr) : Sp := fun vs H Q _ => ∃ (y : V) (x : PQ) (m : Nat) (n : Nat), vs = [y, .int (n : Nat)] ∧ NumV CR H y x.1 x.2 ∧ Ok m x ∧ m ≤ 100 ∧ n ≤ 3 ∧
  ∀ (l : Addr) (rs : List Addr) (H' : Hp), H' l = some (.lst (rs.map V.ref)) → RatsAt CR H' rs ((List.range (n + 1)).map (pwr x)) → H l = none → Same H H' → Q (.ref l) H'
section
variable {P : Program} {w : World} {K : PySem.W.Frag} {mg : Str → Option Value} {base : Heap} {CR CI fI : Addr}
theorem scIsPow : FnScope ["value"] ["value"] (defScope sIsPow) := ⟨rfl, rfl, rfl, by decide +kernel, rfl, by decide +kernel, by decide +kernel⟩
theorem ok_isPow {f fN : Addr} {fd fdN : FuncData} (F : Fun K "is_power" "is_power" sIsPow f fd) (D : Dn K mg "is_integer" fN) (G : FnOk P w K mg base CX0 1 fN fdN ["value"] (spIsInt K)) (bI : Binds K fdN ["value"] []) : FnOk P w K mg base CX0 2 f fd ["value"] (spIsPow K) := by
  refine F.ok scIsPow (fun vs H Q E h => ?_) (fun cdv A outer s H vs Q E hr h => ?_)
  · obtain ⟨v, rfl, _⟩ := h
    rfl
  · obtain ⟨v, rfl, h⟩ := h
    refine ⟨_, pss_one (ps_ret (pe_and (pe_call G hr (by rfl) D.gl D.kp bI .nil pass0 (pa_cons (pv 0) pa_nil)) (pe_one (pe_cmpR op_ge (pv 0) pe_int (nomark _))))), ?_⟩
    rcases h with ⟨i, rfl, q⟩ | ⟨⟨t, b1, b2, ty, k1, k2, e⟩, q⟩
    · exact ⟨_, rfl, _, _, true, false, rfl, .base (.int _), kit_ty (by decide +kernel), kit_ty (by decide +kernel), true, rfl, iteT ⟨_, rfl, _, _, rfl, rfl, q⟩⟩
    · exact ⟨_, rfl, _, _, b1, b2, rfl, ty, k1, k2, false, congrArg V.bl e, iteF q⟩
theorem scChk : FnScope ["row", "one", "other", "number"] ["row"] (defScope sChk) := ⟨rfl, rfl, rfl, by decide +kernel, rfl, by decide +kernel, by decide +kernel⟩
theorem ok_chk {f fP fN : Addr} {fd fdP fdN fdI : FuncData} (F : Fun K "check_row" "check_row" sChk f fd) (DP : Dn K mg "is_power" fP) (GP : FnOk P w K mg base CX0 2 fP fdP ["value"] (spIsPow K)) (bP : Binds K fdP ["value"] [])
    (DN : Dn K mg "is_number" fN) (GN : FnOk P w K mg base CX0 2 fN fdN ["value"] (spIsNum K CR)) (bN : Binds K fdN ["value"] []) (I : IN K mg CI fI) (GI : FnOk P w K mg base CX0 2 fI fdI ["self", "given"] (spI_InvalidNumber K)) (bI : Binds K fdI ["self", "given"] []) :
    FnOk P w K mg base (L2.CX P w) 4 f fd ["row"] (spChk K CR CI) := by
  refine F.okX scChk (fun vs H Q E h => ?_) (fun cdv A outer s H vs Q E hr h => ?_)
  · obtain ⟨t, a, b, c, rfl, _⟩ := h
    rfl
  · obtain ⟨t, a, b, c, rfl, ht, h⟩ := h
    have r2 : Room 2 _ := hr.mono (by decide)
    refine ⟨_, pss_cons (ps_asg (pv 0) (pg_tup rfl (pgs_cons (pg_name (i := 1) scChk.nd rfl (Or.inl rfl)) (pgs_cons (pg_name (i := 2) scChk.nd rfl (Or.inl rfl)) (pgs_cons (pg_name (i := 3) scChk.nd rfl (Or.inl rfl)) pgs_nil)))))
      (pss_cons (ps_if (pt_not (pt_val (pe_call GP r2 (by rfl) DP.gl DP.kp bP .nil pass0 (pa_cons (pv 1) pa_nil)))) (pss_one (ps_raise rfl (takes_of rfl rfl rfl rfl) (pmk_oex I.ox I.ini I.ty GI hr bI .nil pass0 (by rfl) I.gl (pa_cons (pv 1) pa_nil)))) pss_nil)
      (pss_cons (ps_if (pt_not (pt_val (pe_call GP r2 (by rfl) DP.gl DP.kp bP .nil pass0 (pa_cons (pv 2) pa_nil)))) (pss_one (ps_raise rfl (takes_of rfl rfl rfl rfl) (pmk_oex I.ox I.ini I.ty GI hr bI .nil pass0 (by rfl) I.gl (pa_cons (pv 2) pa_nil)))) pss_nil)
      (pss_one (ps_if (pt_not (pt_val (pe_call GN r2 (by rfl) DN.gl DN.kp bN .nil pass0 (pa_cons (pv 3) pa_nil)))) (pss_one (ps_raise rfl (takes_of rfl rfl rfl rfl) (pmk_oex I.ox I.ini I.ty GI hr bI .nil pass0 (by rfl) I.gl (pa_cons (pv 3) pa_nil)))) pss_nil)))), ?_⟩
    refine ⟨_, rfl, t, _, rfl, .of ht, rfl, _, _, rfl, _, _, rfl, _, _, rfl, rfl, ?_⟩
    have fl : ∀ {i : Int}, i < 0 → decide (0 ≤ i) = false := fun h => decide_eq_false (by omega)
    rcases h with ⟨⟨i, rfl, hi⟩, ⟨j, rfl, hj⟩, ⟨p, nv⟩, q⟩ | ⟨ba, ad, k⟩ | ⟨⟨i, rfl, hi⟩, bb, ad, k⟩ | ⟨⟨i, rfl, hi⟩, ⟨j, rfl, hj⟩, nn, ad, k⟩
    · refine ⟨_, rfl, _, rfl, .inl ⟨i, rfl, ?_⟩⟩
      rw [decide_eq_true hi]
      refine ⟨_, rfl, iteF ⟨_, rfl, _, rfl, .inl ⟨j, rfl, ?_⟩⟩⟩
      rw [decide_eq_true hj]
      exact ⟨_, rfl, iteF ⟨_, rfl, _, rfl, .inl ⟨_, _, nv, _, rfl, iteF q⟩⟩⟩
    · rcases ba with ⟨i, rfl, hi⟩ | hn
      · refine ⟨_, rfl, _, rfl, .inl ⟨i, rfl, ?_⟩⟩
        rw [fl hi]
        exact ⟨_, rfl, iteT (in_made I rfl ad k)⟩
      · exact ⟨_, rfl, _, rfl, .inr ⟨hn, _, rfl, iteT (in_made I rfl ad k)⟩⟩
    · refine ⟨_, rfl, _, rfl, .inl ⟨i, rfl, ?_⟩⟩
      rw [decide_eq_true hi]
      refine ⟨_, rfl, iteF ?_⟩
      rcases bb with ⟨j, rfl, hj⟩ | hn
      · refine ⟨_, rfl, _, rfl, .inl ⟨j, rfl, ?_⟩⟩
        rw [fl hj]
        exact ⟨_, rfl, iteT (in_made I rfl ad k)⟩
      · exact ⟨_, rfl, _, rfl, .inr ⟨hn, _, rfl, iteT (in_made I rfl ad k)⟩⟩
    · refine ⟨_, rfl, _, rfl, .inl ⟨i, rfl, ?_⟩⟩
      rw [decide_eq_true hi]
      refine ⟨_, rfl, iteF ⟨_, rfl, _, rfl, .inl ⟨j, rfl, ?_⟩⟩⟩
      rw [decide_eq_true hj]
      exact ⟨_, rfl, iteF ⟨_, rfl, _, rfl, .inr ⟨nn, _, rfl, iteT (in_made I rfl ad k)⟩⟩⟩
end
end K37

set_option Elab.async false
set_option linter.all false
set_option maxRecDepth 100000
set_option maxHeartbeats 4000000
set_option pp.maxSteps 500
namespace K37
open PySem PySem.Spec PyProof.Rows L2 Ux
theorem ru9 {k : Nat} {A : Around} (r : Room k A) : A.units + 9 < cLine := by have := r.un; omega
/-- the order of sorted keys is theirs -/
theorem code_lt {a b : KY} (h : TS.code 4 [((a.1 : Nat) : Int), ((a.2 : Nat) : Int)] ≤ TS.code 4 [((b.1 : Nat) : Int), ((b.2 : Nat) : Int)]) (ne : a ≠ b) (ha : a.1 ≤ 3) (ha2 : a.2 ≤ 3) (hb : b.1 ≤ 3) (hb2 : b.2 ≤ 3) : ltK a b := by
  have e : ∀ c : KY, TS.code 4 [((c.1 : Nat) : Int), ((c.2 : Nat) : Int)] = (c.1 : Int) * 4 + (c.2 : Int) := fun c => by
    show (c.1 : Int) * 4 ^ 1 + ((c.2 : Int) * 4 ^ 0 + 0) = _
    rw [Int.pow_zero, Int.mul_one, Int.add_zero]
    rfl
  rw [e, e] at h
  rcases ltK_or ne with z | z
  · exact z
  · exfalso
    unfold ltK at z
    omega
/-- sorted keys of a table in the making -/
theorem keys_sorted {H : Hp} {kvs : List (List L2.Key × V)} {M : RW} {R : Hp → Addr → PQ → Prop} {K : PySem.W.Frag} {bs : List Addr} {ys : List V} (h : TbAt R H kvs M) (nd : (M.map (·.1)).Nodup) (hb : IsKeys H kvs bs) (hp : ys.Perm (bs.map V.ref))
    (hs : ys.Pairwise fun x y => ∀ n m, L2.TupI K H x n → L2.TupI K H y m → TS.code 4 n ≤ TS.code 4 m) (p0 : ∀ e ∈ M, e.1.1 ≤ 3) (p1 : ∀ e ∈ M, e.1.2 ≤ 3) :
    ∃ (ks : List KY) (qs : List Addr), ys = qs.map V.ref ∧ ks.length = qs.length ∧ (∀ (i : Nat) (q : Addr) (k : KY), qs[i]? = some q → ks[i]? = some k → H q = some (.tup [.int (k.1 : Nat), .int (k.2 : Nat)])) ∧ ks.Perm (M.map (·.1)) ∧ ks.Pairwise ltK := by
  have hbm : ∀ (i : Nat) (b : Addr), bs[i]? = some b → ∃ e, M[i]? = some e ∧ H b = some (.tup [.int (e.1.1 : Nat), .int (e.1.2 : Nat)]) := fun i b hi => by
    unfold TbAt at h
    unfold IsKeys at hb
    have l1 := Paired.length h
    have l2 := Paired.length hb
    have hi2 := (List.getElem?_eq_some_iff.mp hi).1
    have hm : M[i]? = some M[i] := List.getElem?_eq_getElem (by omega)
    obtain ⟨r, e1, _⟩ := TbAt.get (R := R) (H := H) h hm
    obtain ⟨b', e2, e3⟩ := L2.paired_get hb e1
    rw [hi] at e2
    cases e2
    exact ⟨_, hm, e3⟩
  have lb : bs.length = M.length := by rw [← h.len]; exact (Paired.length hb).symm
  have hk : ∀ b ∈ bs, ∃ k : KY, k ∈ M.map (·.1) ∧ H b = some (.tup [.int (k.1 : Nat), .int (k.2 : Nat)]) := fun b hb' => by
    obtain ⟨i, hi⟩ := List.mem_iff_getElem?.mp hb'
    obtain ⟨e, he, ht⟩ := hbm i b hi
    exact ⟨e.1, List.mem_map_of_mem (List.mem_of_getElem? he), ht⟩
  -- what key stands at an address
  let kf : V → KY := fun v => match v with
    | .ref q => match H q with
      | some (.tup [.int i, .int j]) => (i.toNat, j.toNat)
      | _ => (0, 0)
    | _ => (0, 0)
  have kfe : ∀ {q : Addr} {k : KY}, H q = some (.tup [.int (k.1 : Nat), .int (k.2 : Nat)]) → kf (.ref q) = k := fun {q k} e => by
    show (match H q with | some (.tup [.int i, .int j]) => ((i.toNat, j.toNat) : KY) | _ => (0, 0)) = k
    rw [e]
    show ((((k.1 : Nat) : Int).toNat, ((k.2 : Nat) : Int).toNat) : KY) = k
    rw [Int.toNat_natCast, Int.toNat_natCast]
  have eb : (bs.map V.ref).map kf = M.map (·.1) := by
    refine List.ext_getElem? fun i => ?_
    rw [List.getElem?_map, List.getElem?_map, List.getElem?_map]
    cases hi : bs[i]? with
    | none =>
      have h1 := List.getElem?_eq_none_iff.mp hi
      have : M[i]? = none := List.getElem?_eq_none (by omega)
      rw [this]
      rfl
    | some b =>
      obtain ⟨e, he, ht⟩ := hbm i b hi
      rw [he]
      show some (kf (.ref b)) = some e.1
      rw [kfe ht]
  have yr : ∀ y ∈ ys, ∃ q, y = .ref q ∧ q ∈ bs := fun y hy => by
    obtain ⟨q, hq, rfl⟩ := List.mem_map.mp (hp.mem_iff.mp hy)
    exact ⟨q, rfl, hq⟩
  let af : V → Addr := fun v => match v with | .ref q => q | _ => 0
  have ya : ys = (ys.map af).map V.ref := by
    rw [List.map_map]
    have : ys.map (V.ref ∘ af) = ys.map id := List.map_congr_left fun y hy => by
      obtain ⟨q, rfl, _⟩ := yr y hy
      rfl
    rw [this, List.map_id]
  refine ⟨ys.map kf, ys.map af, ya, by rw [List.length_map, List.length_map], fun i q k hq hkk => ?_, ?_, ?_⟩
  · rw [List.getElem?_map] at hq hkk
    cases hy : ys[i]? with
    | none => rw [hy] at hq; cases hq
    | some y =>
      rw [hy] at hq hkk
      obtain ⟨q', rfl, hq'⟩ := yr y (List.mem_of_getElem? hy)
      cases Option.some.inj hq
      obtain ⟨k', _, ht⟩ := hk q' hq'
      have : kf (.ref q') = k := Option.some.inj hkk
      rw [kfe ht] at this
      rw [← this]
      exact ht
  · rw [← eb]
    exact hp.map kf
  · have ndk : (ys.map kf).Nodup := by
      have := (hp.map kf).nodup_iff.mpr (by rw [eb]; exact nd)
      exact this
    unfold List.Nodup at ndk
    rw [List.pairwise_map] at ndk ⊢
    refine List.Pairwise.imp_of_mem (fun {x y} hx hy hxy => ?_) (hs.and ndk)
    obtain ⟨q, rfl, hq⟩ := yr x hx
    obtain ⟨q2, rfl, hq2⟩ := yr y hy
    obtain ⟨k, hkm, ht⟩ := hk q hq
    obtain ⟨k2, hkm2, ht2⟩ := hk q2 hq2
    rw [kfe ht, kfe ht2] at hxy ⊢
    obtain ⟨e, he, rfl⟩ := List.mem_map.mp hkm
    obtain ⟨e2, he2, rfl⟩ := List.mem_map.mp hkm2
    exact code_lt (hxy.1 _ _ ⟨q, rfl, .of ht⟩ ⟨q2, rfl, .of ht2⟩) hxy.2 (p0 e he) (p1 e he) (p0 e2 he2) (p1 e2 he2)
section
variable {P : Program} {w : World} {K : PySem.W.Frag} {mg : Str → Option Value} {base : Heap} {CR CI fI : Addr}
abbrev nTab : List Str := ["rows", "table", "one", "other", "number", "worth", "powers"]
theorem scTab : FnScope nTab ["rows"] (defScope sTab) := ⟨rfl, rfl, rfl, by decide +kernel, rfl, by decide +kernel, by decide +kernel⟩
theorem tb_bd {M : RW} (p0 : ∀ e ∈ M, e.1.1 ≤ 3) (p1 : ∀ e ∈ M, e.1.2 ≤ 3) {R : Hp → Addr → PQ → Prop} {H : Hp} {kvs : List (List L2.Key × V)} (h : TbAt R H kvs M) : ∀ p ∈ kvs, ∃ ns : List Int, p.1 = ns.map Sum.inl ∧ ns.length = 2 ∧ TS.Bd 4 ns := fun p hp => by
  obtain ⟨i, hi⟩ := List.mem_iff_getElem?.mp hp
  have hi2 := (List.getElem?_eq_some_iff.mp hi).1
  rw [h.len] at hi2
  have hm : M[i]? = some M[i] := List.getElem?_eq_getElem hi2
  obtain ⟨r, e1, _⟩ := h.get hm
  rw [hi] at e1
  cases e1
  have a := p0 _ (List.mem_of_getElem? hm)
  have b := p1 _ (List.mem_of_getElem? hm)
  refine ⟨[((M[i].1.1 : Nat) : Int), ((M[i].1.2 : Nat) : Int)], rfl, rfl, fun m hm => ?_⟩
  rcases List.mem_cons.mp hm with rfl | hm
  · omega
  · rcases List.mem_cons.mp hm with rfl | hm
    · omega
    · cases hm
end
end K37

set_option Elab.async false
set_option linter.all false
set_option maxRecDepth 100000
set_option maxHeartbeats 4000000
set_option pp.maxSteps 700
namespace K37
open PySem PySem.Spec PyProof.Rows L2 Ux
section
variable {P : Program} {w : World} {K : PySem.W.Frag} {mg : Str → Option Value} {base : Heap} {CR CI fI : Addr}
theorem TbAt.atD {H : Hp} {d : Addr} {kvs ks : List (List L2.Key × V)} {M : RW} {o : HO} (h : TbAt (RatP CR) H kvs M) (hd : H d = some (.dT ks)) : TbAt (RatP CR) (upd H d o) kvs M :=
  h.mono fun r p ⟨dx, e⟩ => ⟨dx, (upd_ne (fun z => by rw [z, hd] at e; cases e)).trans e⟩
theorem ok_tab {f fO fA : Addr} {fd fdO fdA : FuncData} (F : Fun K "table_of" "table_of" sTab f fd) (B : Bn mg) (B2 : Bk mg) (T : RT K mg CR) (DO : Dn K mg "ratio_of" fO) (GO : FnOk P w K mg base CX0 4 fO fdO ["number"] (spRatioOf CR)) (bO : Binds K fdO ["number"] [])
    (MA : BinM K CR "add" fA) (GA : FnOk P w K mg base CX0 5 fA fdA ["self", "other"] (spBin CR fAdd gMul)) (bA : Binds K fdA ["self", "other"] []) : FnOk P w K mg base CX0 6 f fd ["rows"] (spTab K CR) := by
  refine F.ok scTab (fun vs H Q E h => ?_) (fun cdv A outer s H vs Q E hr h => ?_)
  · obtain ⟨l, ts, rows, n, N, rfl, _⟩ := h
    rfl
  · obtain ⟨l, ts, rows, n, N, rfl, hl, ra, rw6, gr, hN, q⟩ := h
    have r4 : Room 4 _ := hr.mono (by decide)
    refine ⟨_, pss_cons (ps_set (i := 1) scTab.nd rfl (Or.inr rfl) pe_dnewT)
      (pss_cons (ps_for PassesOwn.never rfl (pi_list (pv 0)) (pg_tup (n := 3) rfl (pgs_cons (pg_name (i := 2) scTab.nd rfl (Or.inl rfl)) (pgs_cons (pg_name (i := 3) scTab.nd rfl (Or.inl rfl)) (pgs_cons (pg_name (i := 4) scTab.nd rfl (Or.inl rfl)) pgs_nil))))
        (pss_cons (ps_set (i := 5) scTab.nd rfl (Or.inl rfl) (pe_call GO r4 (by rfl) DO.gl DO.kp bO .nil pass0 (pa_cons (pv 4) pa_nil)))
        (pss_one (ps_dput (ru1 hr) (pv 1) (pe_tup (pa_cons (pv 2) (pa_cons (pv 3) pa_nil))) (pe_ifExp (pt_cmp (pc_din (ru1 hr) (pe_tup (pa_cons (pv 2) (pa_cons (pv 3) pa_nil))) (pv 1)))
          (pe_op (op_binO (op := .Add) MA GA bA hr) (pe_dget (ru1 hr) (pv 1) (pe_tup (pa_cons (pv 2) (pa_cons (pv 3) pa_nil))) (fun _ _ => rfl)) (pv 5)) (pv 5)) (by rfl)))))
      (pss_one (ps_ret (pe_dcw (wayT _ _) (own := [("powers", 6)]) (g := gName 6) (tt := tTest (tOp rNe (tFld K (tDGet (tVar 1) (tVar 6)) "top") (tC (.int 0)))) (tv := tDGet (tVar 1) (tVar 6)) (ru9 hr) rfl scTab.nd
        (pi_list (pe_callB (call_sortedDT (d := 2) (B := 4) rfl (by decide)) (by rfl) B2.fsorted (by decide +kernel) (pa_cons (pv 1) pa_nil))) (blkOk_by (own := [("powers", 6)]) (N := nTab) (sc := defScope sTab) (by decide +kernel))
        (fun _ _ _ _ _ => pg_name (i := 6) scTab.nd rfl (Or.inl rfl) (hf := Or.inr rfl)) (fun _ _ _ _ _ => pts_one (pt_cmpR op_ne (pe_fld (pe_dget (ru1 hr) (pv 1) (pv 6) (fun _ _ => rfl)) rfl) pe_int (nomark _)))
        (fun _ _ _ _ _ => pv 6) (fun _ _ _ _ _ => pe_dget (ru1 hr) (pv 1) (pv 6) (fun _ _ => rfl)))))), ?_⟩
    refine fun d hd => ?_
    have s1 := same_upd (o := .dT []) hd
    refine ⟨_, rfl, l, rfl, ⟨_, SqL.ext hl s1⟩, for_list (xs := ts.map V.ref) (fun i σ H' => ∃ (kvs : List (List L2.Key × V)) (M : RW) (x2 x3 x4 x5 : Option V), σ = [some (.ref l), some (.ref d), x2, x3, x4, x5, none] ∧ H' d = some (.dT kvs) ∧ TbAt (RatP CR) H' kvs M ∧ Mg n rows i M ∧ Same H H')
      ⟨[], [], none, none, none, none, rfl, upd_same, TbAt.nil, Mg.zero n rows, s1⟩ (fun i σ H' _ ⟨_, _, _, _, _, _, _, _, _, _, sx⟩ => SqL.ext hl sx) ?_ ?_⟩
    · rintro i v σ H0 hv ⟨kvs, M, x2, x3, x4, x5, rfl, hd0, tb, mg', s0⟩
      have hi := (List.getElem?_eq_some_iff.mp hv).1
      rw [List.length_map, ra.len] at hi
      obtain ⟨t, et, rfl⟩ := map_of hv
      have e2 : rows[i]? = some rows[i] := List.getElem?_eq_getElem hi
      obtain ⟨y, ht, ny⟩ := ra.at_ i t _ et e2
      have ow := rw6.ok _ (List.getElem_mem hi)
      generalize rows[i] = e at e2 ht ny ow
      refine ⟨t, _, rfl, SqT.of (s0 _ _ ht), rfl, _, _, rfl, _, _, rfl, _, _, rfl, rfl, ?_⟩
      refine ⟨_, rfl, y, _, _, rfl, ny.same s0, fun r H1 rr s2 => ?_⟩
      have hd1 := s2 _ _ hd0
      have tb1 := tb.same s2
      have lm := mg'.len
      have lk := tb.len
      -- the value
      have put : ∀ (v : Addr) (q' : PQ) (H2 : Hp), Same H1 H2 → RatAt CR H2 v q'.1 q'.2 → ((vAt M e.1 = none ∧ q' = e.2) ∨ ∃ p, vAt M e.1 = some p ∧ q' = pl p e.2) →
          ∀ t3, H2 t3 = none → ∃ a H4, V.ref d = .ref a ∧ DPut (upd H2 t3 (.tup [.int (e.1.1 : Nat), .int (e.1.2 : Nat)])) a (.ref t3) (.ref v) H4 ∧ ∃ (kvs : List (List L2.Key × V)) (M : RW) (x2 x3 x4 x5 : Option V), [some (V.ref l), some (.ref d), some (.int (e.1.1 : Nat)), some (.int (e.1.2 : Nat)), some y, some (.ref r), none] = [some (.ref l), some (.ref d), x2, x3, x4, x5, none] ∧ H4 d = some (.dT kvs) ∧ TbAt (RatP CR) H4 kvs M ∧ Mg n rows (i + 1) M ∧ Same H H4 := by
        intro v q' H2 s3 rv hq t3 ht3
        have s4 := s3.trans (same_upd (o := .tup [V.int (e.1.1 : Nat), .int (e.1.2 : Nat)]) ht3)
        have hd2 := s4 _ _ hd1
        refine ⟨d, _, rfl, DPut.t (k := kk e.1) hd2 upd_same (by rw [sizeLine_eq]; have := rw6.len; omega), _, addR M e.1 e.2, _, _, _, _, rfl, upd_same, ?_, mg'.step e2 ow, Same.put ((s0.trans s2).trans s4) hd⟩
        have tb2 : TbAt (RatP CR) _ kvs M := (tb1.same s4).atD (o := .dT (putK kvs (kk e.1) (.ref v))) hd2
        refine tb2.put (q := q') mg'.nd ?_ hq
        obtain ⟨dx, rv⟩ : RatAt CR _ v q'.1 q'.2 := rv.same (same_upd ht3)
        exact ⟨dx, (upd_ne (fun z => by rw [z, hd2] at rv; cases rv)).trans rv⟩
      refine ⟨_, rfl, _, rfl, (by show 2 ≤ sizeLine; decide), fun t1 ht1 => ?_⟩
      have s3 := same_upd (o := .tup [V.int (e.1.1 : Nat), .int (e.1.2 : Nat)]) ht1
      refine ⟨_, rfl, d, _, rfl, DGet.t (k := kk e.1) (s3 _ _ hd1) upd_same, _, rfl, ?_⟩
      rcases tb1.val e.1 with ⟨h1, h2⟩ | ⟨p, ro, h1, h2, hro⟩
      · rw [h2]
        refine iteF ⟨_, rfl, _, rfl, _, rfl, _, rfl, (by show 2 ≤ sizeLine; decide), fun t3 ht3 => ?_⟩
        exact put r e.2 _ s3 (rr.same s3) (.inl ⟨h1, rfl⟩) t3 ht3
      · rw [h2]
        refine iteT ⟨_, rfl, _, rfl, _, rfl, (by show 2 ≤ sizeLine; decide), fun t2 ht2 => ?_⟩
        have s4 := s3.trans (same_upd (o := .tup [V.int (e.1.1 : Nat), .int (e.1.2 : Nat)]) ht2)
        have g2 := DGet.t (k := kk e.1) (s4 _ _ hd1) upd_same
        rw [h2] at g2
        have op := mg'.ok _ (vAt_mem h1)
        have ct := Nat.le_trans (Nat.mul_le_mul_left (n + 1) (cnt_le rows i e.1)) (gr e.1)
        have cn : n ≤ 2000 := by
          have c1 : cnt rows e.1 ≠ 0 := fun z => by
            have := List.countP_eq_zero.mp z e (List.mem_of_getElem? e2)
            simp at this
          have := Nat.le_trans (Nat.mul_le_mul_left (n + 1) (show 1 ≤ cnt rows e.1 by omega)) (gr e.1)
          omega
        refine ⟨d, _, rfl, g2, _, rfl, add_R T (RatAt.same hro s4) (rr.same s4) op ow (Nat.le_trans ct (by omega)) cn fun v H3 rv s5 => ?_⟩
        refine ⟨_, rfl, _, rfl, _, rfl, (by show 2 ≤ sizeLine; decide), fun t3 ht3 => ?_⟩
        exact put v (pl p e.2) H3 (s4.trans s5) rv (.inr ⟨p, h1, rfl⟩) t3 ht3
    · rintro σ H0 ⟨kvs, M, x2, x3, x4, x5, rfl, hd0, tb, mg', s0⟩
      rw [List.length_map, ra.len] at mg'
      have p0 : ∀ e ∈ M, e.1.1 ≤ 3 := fun e he => let ⟨f, hf, ef⟩ := mg'.mem e he; ef ▸ rw6.p0 f hf
      have p1 : ∀ e ∈ M, e.1.2 ≤ 3 := fun e he => let ⟨f, hf, ef⟩ := mg'.mem e he; ef ▸ rw6.p1 f hf
      have lM : M.length ≤ 6 := Nat.le_trans mg'.len rw6.len
      refine ⟨_, rfl, d, kvs, rfl, .of hd0, by rw [tb.len]; omega, tb_bd p0 p1 tb, fun bs ys p hb hp hs np => ?_⟩
      obtain ⟨ks, qs, rfl, lks, hq, kp, kw⟩ := keys_sorted tb mg'.nd hb hp hs p0 p1
      have s1' := same_upd (o := .lst (qs.map V.ref)) np
      refine ⟨p, rfl, ⟨_, .of upd_same⟩, fun D hD => ?_⟩
      have hd1 := s1' _ _ hd0
      have tb1 := tb.same s1'
      have hp1 : upd H0 p (.lst (qs.map V.ref)) p = some (.lst (qs.map V.ref)) := upd_same
      have hq1 : ∀ (i : Nat) (q : Addr) (k : KY), qs[i]? = some q → ks[i]? = some k → upd H0 p (.lst (qs.map V.ref)) q = some (.tup [.int (k.1 : Nat), .int (k.2 : Nat)]) := fun i q k a b => s1' _ _ (hq i q k a b)
      have S1 := s0.trans s1'
      generalize upd H0 p (.lst (qs.map V.ref)) = H1 at hD hd1 tb1 hp1 hq1 S1
      refine dcw_it (walk_list (K := K) (a := p) (xs := qs.map V.ref)) (fun i H' => ∃ kvR, H' D = some (.dT kvR) ∧ TbAt (RatP CR) H' kvR (tabK M (ks.take i)) ∧ Same H1 H') ⟨[], upd_same, by rw [List.take_zero]; exact TbAt.nil, same_upd hD⟩ (fun i H' _ ⟨_, _, _, sx⟩ => .of (sx _ _ hp1)) ?_ ?_
      · rintro i x H2 _ hi ⟨kvR, hR, tR, s2⟩ ⟨rfl, hx⟩
        rw [List.length_map] at hi
        obtain ⟨q', eq', rfl⟩ := map_of hx
        have hki : i < ks.length := by omega
        have ek : ks[i]? = some ks[i] := List.getElem?_eq_getElem hki
        have hkq := s2 _ _ (hq1 i q' _ eq' ek)
        have hkm : ks[i] ∈ M.map (·.1) := kp.mem_iff.mp (List.getElem_mem hki)
        have etk : tabK M (ks.take (i + 1)) = tabK M (ks.take i) ++ (if ((vAt M ks[i]).getD zz).1 ≠ 0 then [(ks[i], (vAt M ks[i]).getD zz)] else []) := by
          unfold tabK
          rw [List.take_add_one, ek, List.map_append, List.filter_append]
          congr 1
          show List.filter _ [(ks[i], (vAt M ks[i]).getD zz)] = _
          by_cases z : ((vAt M ks[i]).getD zz).1 = 0
          · rw [List.filter_cons_of_neg (by simp [z]), if_neg (by simp [z])]
            rfl
          · rw [List.filter_cons_of_pos (by simp [z]), if_pos z]
            rfl
        have nod : (ks.map id).Nodup := by rw [List.map_id]; exact kw.imp fun h => h.ne
        generalize hkk : ks[i] = k at ek hkq hkm etk
        rcases (tb1.same s2).val k with ⟨h1, _⟩ | ⟨pv', r, h1, h2, hr'⟩
        · exact absurd hkm (vAt_none.mp h1)
        rw [h1] at etk
        have g2 := DGet.t (k := kk k) (s2 _ _ hd1) hkq
        rw [h2] at g2
        obtain ⟨dx, hr2⟩ := id hr'
        refine ⟨rfl, _, rfl, _, rfl, d, _, rfl, g2, r, CR, dx, _, _, rfl, hr2, T.cl, T.nT, rf_top _ _, rfl, _, rfl, ?_⟩
        by_cases z : pv'.1 = 0
        · rw [show (!decide (V.int pv'.1 = V.int 0)) = false by rw [z]; rfl]
          refine iteF ⟨kvR, hR, ?_, s2⟩
          rw [etk]
          show TbAt _ _ kvR (_ ++ if pv'.1 ≠ 0 then _ else _)
          rw [if_neg (by simp [z]), List.append_nil]
          exact tR
        · rw [show (!decide (V.int pv'.1 = V.int 0)) = true by rw [decide_eq_false (fun y => z (V.int.inj y))]; rfl]
          refine iteT ⟨_, rfl, _, rfl, _, rfl, d, _, rfl, g2, _, ⟨kvR, kk k, q', hR, rfl, hkq, ?_, rfl⟩, _, upd_same, ?_, Same.put s2 hD⟩
          · rw [tR.len, sizeLine_eq]
            have l1 : (tabK M (ks.take i)).length ≤ (ks.take i).length := by
              unfold tabK
              refine Nat.le_trans (List.length_filter_le _ _) ?_
              rw [List.length_map]
              exact Nat.le_refl _
            have l2 := List.length_take_le i ks
            have l3 := kp.length_eq
            rw [List.length_map] at l3
            omega
          · rw [etk]
            show TbAt _ _ _ (_ ++ if pv'.1 ≠ 0 then [(k, pv')] else [])
            rw [if_pos z]
            have nk : valV kvR (kk k) = none := by
              rcases tR.val k with ⟨_, h⟩ | ⟨p', r', h, _⟩
              · exact h
              · exfalso
                have hm := vAt_mem h
                have hm2 : k ∈ ks.take i := by
                  obtain ⟨k', hk', e'⟩ := List.mem_map.mp (List.mem_filter.mp hm).1
                  have : k' = k := congrArg Prod.fst e'
                  exact this ▸ hk'
                obtain ⟨j, hj⟩ := List.mem_iff_getElem?.mp hm2
                rw [List.getElem?_take] at hj
                by_cases c : j < i
                · rw [if_pos c] at hj
                  rw [List.map_id] at nod
                  have := (List.getElem?_inj (List.getElem?_eq_some_iff.mp hj).1 nod).mp (hj.trans ek.symm)
                  omega
                · rw [if_neg c] at hj
                  cases hj
            rw [putK_new _ nk]
            refine TbAt.snoc ?_ ?_
            · exact tR.atD hR
            · exact ⟨dx, (upd_ne (fun y => by rw [y, hR] at hr2; cases hr2)).trans hr2⟩
      · rintro H2 ⟨kvR, hR, tR, s2⟩
        rw [List.length_map, ← lks, List.take_length] at tR
        exact q D kvR (tabK M ks) H2 hR tR (tab_canon mg' gr kp kw) (none_of hD S1) (S1.trans s2)
end
end K37

set_option Elab.async false
set_option linter.all false
set_option maxRecDepth 100000
set_option maxHeartbeats 4000000
set_option pp.maxSteps 700
namespace K37
open PySem PySem.Spec PyProof.Rows L2 Ux
abbrev sSIn : Stmt := inClass (top 26) 0
abbrev sSTo : Stmt := inClass (top 26) 1
abbrev sSSl : Stmt := inClass (top 26) 2
abbrev sSSw : Stmt := inClass (top 26) 3
abbrev sSCa : Stmt := inClass (top 26) 4
abbrev sSEq : Stmt := inClass (top 26) 5
abbrev sSSt : Stmt := inClass (top 26) 6
abbrev sSRe : Stmt := inClass (top 26) 7
structure CT (K : PySem.W.Frag) (mg : Str → Option Value) (CC : Addr) : Prop where
  cl : Cls K CC
  nT : NoAttr K CC "_table"
  gl : mg "Sheet" = some (.ref CC)
  ha : PySem.W.findIn K (.ref CC) "__class__" = some (some (.builtin "object.__class__"))
  hn : PySem.W.specialIn K (.builtin "object.__class__") "__get__" = some (some (.builtin "getset_descriptor.__get__"))
  ht : PySem.W.takesIn K (.builtin "object.__class__") = some true
  hm : PySem.W.mroIn K CC (.type "object") = some true
  kC : PySem.W.kitOne K (.ref CC) (.ref CC) = some true
  kS : PySem.W.kitOne K (.type "str") (.ref CC) = some false
  f1 : PySem.W.notFirst K CC (.ref CC) = true
  fS : PySem.W.notFirst K CC (.type "str") = true
def sf (L : Addr) : List (Str × V) := putF "_table" (.ref L) []
theorem sf_t (L : Addr) : (sf L).lookup ("_table" : Str) = some (.ref L) := by
  unfold sf
  rw [lookup_putF, if_pos rfl]
theorem sf_no (L : Addr) {m : Str} (h : ¬ (m = "_table")) : (sf L).lookup m = none := by
  unfold sf
  rw [lookup_putF, if_neg h]
  rfl
/-- a sheet at c: its dict at L and its rows -/
structure ShAt (CC CR : Addr) (H : Hp) (c L : Addr) (kvs : List (List L2.Key × V)) (T : RW) : Prop where
  at_ : ∃ dx, H c = some (.ins CC dx (sf L))
  tb : H L = some (.dT kvs)
  rs : TbAt (RatP CR) H kvs T
theorem ShAt.same {CC CR : Addr} {H H' : Hp} {c L : Addr} {kvs : List (List L2.Key × V)} {T : RW} (h : ShAt CC CR H c L kvs T) (s : Same H H') : ShAt CC CR H' c L kvs T :=
  ⟨let ⟨dx, e⟩ := h.at_; ⟨dx, s _ _ e⟩, s _ _ h.tb, h.rs.same s⟩
/-- what an error's row has -/
def BadRow (K : PySem.W.Frag) (CR : Addr) (H : Hp) (t : Addr) (v : V) : Prop := ∃ a b c : V, H t = some (.tup [a, b, c]) ∧ ((v = a ∧ BadP K H a) ∨ (v = b ∧ GoodP a ∧ BadP K H b) ∨ (v = c ∧ GoodP a ∧ GoodP b ∧ NotNum K CR H c))
def GoodRow (CR : Addr) (H : Hp) (t : Addr) : Prop := ∃ (a b c : V) (p : PQ), H t = some (.tup [a, b, c]) ∧ GoodP a ∧ GoodP b ∧ NumV CR H c p.1 p.2
def spSIn (K : PySem.W.Frag) (CR CC CI : Addr) : Sp := fun vs H Q E => ∃ (c dx l : Addr) (ts : List Addr), vs = [.ref c, .ref l] ∧ H c = some (.ins CC dx []) ∧ SqL K H l (ts.map V.ref) ∧
  ((∃ (rows : RW) (n N : Nat), RowsAt CR H ts rows ∧ Rws n rows ∧ (∀ k, (n + 1) * cnt rows k ≤ N) ∧ N ≤ 1900 ∧ ∀ (L : Addr) (kvs : List (List L2.Key × V)) (T : RW) (H' : Hp), H' c = some (.ins CC dx (sf L)) → H' L = some (.dT kvs) → TbAt (RatP CR) H' kvs T → Canon N rows T → H L = none → But c H H' → Q .non H') ∨
   ∃ (j : Nat) (t : Addr) (v : V), ts[j]? = some t ∧ (∀ (i : Nat) (u : Addr), i < j → ts[i]? = some u → GoodRow CR H u) ∧ BadRow K CR H t v ∧ Adm K H v ∧ RaisesN CI v H E)
/-- rows as they are told -/
structure RowsR (CR : Addr) (H : Hp) (ts : List Addr) (rows : RW) : Prop where
  len : ts.length = rows.length
  at_ : ∀ (i : Nat) (t : Addr) (e : KY × PQ), ts[i]? = some t → rows[i]? = some e → ∃ r, H t = some (.tup [.int (e.1.1 : Nat), .int (e.1.2 : Nat), .ref r]) ∧ RatP CR H r e.2
theorem RowsR.toAt {CR : Addr} {H : Hp} {ts : List Addr} {rows : RW} (h : RowsR CR H ts rows) : RowsAt CR H ts rows := ⟨h.len, fun i t e a b => let ⟨r, h1, h2⟩ := h.at_ i t e a b; ⟨_, h1, .inl ⟨r, rfl, h2⟩⟩⟩
theorem RowsR.keep2 {CR : Addr} {H H' : Hp} {ts : List Addr} {rows : RW} (h : RowsR CR H ts rows) (k : ∀ b xs, H b = some (.tup xs) → H' b = some (.tup xs)) (k2 : ∀ b C dx fs, H b = some (.ins C dx fs) → H' b = some (.ins C dx fs)) : RowsR CR H' ts rows :=
  ⟨h.len, fun i t e a b => let ⟨r, h1, dx, h2⟩ := h.at_ i t e a b; ⟨r, k _ _ h1, dx, k2 _ _ _ _ h2⟩⟩
theorem RowsR.keep {CR : Addr} {H H' : Hp} {ts : List Addr} {rows : RW} (h : RowsR CR H ts rows) (k : ∀ b o, H b = some o → (∀ xs, o ≠ .lst xs) → H' b = some o) : RowsR CR H' ts rows :=
  h.keep2 (fun b xs e => k b _ e fun xs z => by cases z) fun b C dx fs e => k b _ e fun xs z => by cases z
theorem RowsR.same {CR : Addr} {H H' : Hp} {ts : List Addr} {rows : RW} (h : RowsR CR H ts rows) (s : Same H H') : RowsR CR H' ts rows := h.keep fun b o e _ => s b o e
theorem RowsR.snoc {CR : Addr} {H : Hp} {ts : List Addr} {rows : RW} (h : RowsR CR H ts rows) {t r : Addr} {e : KY × PQ} (h1 : H t = some (.tup [.int (e.1.1 : Nat), .int (e.1.2 : Nat), .ref r])) (h2 : RatP CR H r e.2) : RowsR CR H (ts ++ [t]) (rows ++ [e]) :=
  ⟨by rw [List.length_append, List.length_append, h.len]; rfl, fun i t' e' a b => by
    by_cases c : i < ts.length
    · rw [List.getElem?_append_left c] at a
      rw [List.getElem?_append_left (by rw [← h.len]; exact c)] at b
      exact h.at_ i t' e' a b
    · rw [List.getElem?_append_right (by omega)] at a
      rw [List.getElem?_append_right (by rw [← h.len]; omega), ← h.len] at b
      cases z : i - ts.length with
      | zero =>
        rw [z] at a b
        cases Option.some.inj a
        cases Option.some.inj b
        exact ⟨r, h1, h2⟩
      | succ j =>
        rw [z] at a
        cases a⟩
theorem RowsR.nil {CR : Addr} {H : Hp} : RowsR CR H [] [] := ⟨rfl, fun i t e a _ => by cases a⟩
def spSTo (CC CR : Addr) : Sp := fun vs H Q _ => ∃ (c L : Addr) (kvs : List (List L2.Key × V)) (T : RW), vs = [.ref c] ∧ ShAt CC CR H c L kvs T ∧ T.length ≤ 100 ∧ ∀ (l : Addr) (ts : List Addr) (H' : Hp), H' l = some (.lst (ts.map V.ref)) → RowsR CR H' ts T → H l = none → Same H H' → Q (.ref l) H'
section
variable {P : Program} {w : World} {K : PySem.W.Frag} {mg : Str → Option Value} {base : Heap} {CR CC CI fI : Addr}
theorem NotInt.lift {H H' : Hp} {v : V} (h : NotInt K H v) (s : Same H H') (ty : ∀ t, TyX K H v t → TyX K H' v t) : NotInt K H' v := let ⟨t, b1, b2, h1, h2⟩ := h; ⟨t, b1, b2, ty t h1, h2⟩
theorem scSIn : FnScope ["self", "rows", "row"] ["self", "rows"] (defScope sSIn) := ⟨rfl, rfl, rfl, by decide +kernel, rfl, by decide +kernel, by decide +kernel⟩
theorem ok_sin {f fC fT : Addr} {fd fdC fdT : FuncData} (F : Fun K "__init__" "Sheet.__init__" sSIn f fd) (C : CT K mg CC) (DC : Dn K mg "check_row" fC) (GC : FnOk P w K mg base (L2.CX P w) 4 fC fdC ["row"] (spChk K CR CI)) (bC : Binds K fdC ["row"] [])
    (DT : Dn K mg "table_of" fT) (GT : FnOk P w K mg base CX0 6 fT fdT ["rows"] (spTab K CR)) (bT : Binds K fdT ["rows"] []) : FnOk P w K mg base (L2.CX P w) 7 f fd ["self", "rows"] (spSIn K CR CC CI) := by
  refine F.okX scSIn (fun vs H Q E h => ?_) (fun cdv A outer s H vs Q E hr h => ?_)
  · obtain ⟨c, dx, l, ts, rfl, _⟩ := h
    rfl
  · obtain ⟨c, dx, l, ts, rfl, hc, hl, h⟩ := h
    have r4 : Room 4 _ := hr.mono (by decide)
    refine ⟨_, pss_cons (ps_for (passes_of rfl) rfl (pi_list (pv 1)) (pg_name (i := 2) scSIn.nd rfl (Or.inl rfl)) (pss_one (ps_expr (pe_call GC r4 (by rfl) DC.gl DC.kp bC .nil (passes_call (takes_of rfl rfl rfl rfl) fun _ _ _ _ z => z) (pa_cons (pv 2) pa_nil)))))
      (pss_one (ps_fld (pv 0) (pe_call GT hr (by rfl) DT.gl DT.kp bT .nil pass0 (pa_cons (pv 1) pa_nil)) rfl)), ?_⟩
    rcases h with ⟨rows, n, N, ra, rw6, gr, hN, q⟩ | ⟨j, t, v, hj, good, ⟨a, b, d, ht, bad⟩, ad, k⟩
    · refine ⟨_, rfl, l, rfl, ⟨_, hl⟩, for_list (xs := ts.map V.ref) (fun i σ H' => ∃ x2 : Option V, σ = [some (.ref c), some (.ref l), x2] ∧ H' = H) ⟨none, rfl, rfl⟩ (fun i σ H' _ ⟨_, _, e⟩ => by rw [e]; exact hl) ?_ ?_⟩
      · rintro i x σ H' hx ⟨x2, rfl, rfl⟩
        obtain ⟨t, et, rfl⟩ := map_of hx
        have hi := (List.getElem?_eq_some_iff.mp et).1
        rw [ra.len] at hi
        obtain ⟨y, hty, ny⟩ := ra.at_ i t _ et (List.getElem?_eq_getElem hi)
        exact ⟨_, rfl, t, _, _, _, rfl, hty, .inl ⟨⟨_, rfl, Int.natCast_nonneg _⟩, ⟨_, rfl, Int.natCast_nonneg _⟩, ⟨_, ny⟩, _, rfl, rfl⟩⟩
      · rintro σ H' ⟨x2, rfl, rfl⟩
        refine ⟨_, rfl, l, ts, rows, n, N, rfl, hl, ra, rw6, gr, hN, fun d kvs T H1 hd tb cn nd s1 => ?_⟩
        have hc1 := s1 _ _ hc
        refine ⟨_, rfl, c, CC, dx, [], rfl, hc1, C.cl, C.nT, (by show 0 < 1000; decide), ?_⟩
        have nLc : d ≠ c := fun z => by rw [z, hc1] at hd; cases hd
        refine q d kvs T _ upd_same ((upd_ne nLc).trans hd) (tb.mono fun r p ⟨dr, e⟩ => ⟨dr, (upd_ne fun z => ?_).trans e⟩) cn nd fun x o e ne => (upd_ne ne).trans (s1 _ _ e)
        rw [z, hc1] at e
        have e3 := (HO.ins.inj (Option.some.inj e)).2.2
        have e4 := rf_top p.1 p.2
        rw [← e3] at e4
        cases e4
    · refine ⟨_, rfl, l, rfl, ⟨_, hl⟩, for_list (xs := ts.map V.ref) (fun i σ H' => i ≤ j ∧ ∃ x2 : Option V, σ = [some (.ref c), some (.ref l), x2] ∧ H' = H) ⟨Nat.zero_le _, none, rfl, rfl⟩ (fun i σ H' _ ⟨_, _, _, e⟩ => by rw [e]; exact hl) ?_ ?_⟩
      · rintro i x σ H' hx ⟨hij, x2, rfl, rfl⟩
        obtain ⟨u, et, rfl⟩ := map_of hx
        by_cases e : i = j
        · subst e
          cases Option.some.inj (hj.symm.trans et)
          refine ⟨_, rfl, t, a, b, d, rfl, ht, .inr ?_⟩
          rcases bad with ⟨rfl, h1⟩ | ⟨rfl, h1, h2⟩ | ⟨rfl, h1, h2, h3⟩
          · exact .inl ⟨h1, ad, fun d' H'' s hd => k d' H'' s hd⟩
          · exact .inr (.inl ⟨h1, h2, ad, fun d' H'' s hd => k d' H'' s hd⟩)
          · exact .inr (.inr ⟨h1, h2, h3, ad, fun d' H'' s hd => k d' H'' s hd⟩)
        · obtain ⟨a', b', d', p, ht', g1, g2, g3⟩ := good i u (by omega) et
          exact ⟨_, rfl, u, a', b', d', rfl, ht', .inl ⟨g1, g2, ⟨p, g3⟩, by omega, _, rfl, rfl⟩⟩
      · rintro σ H' ⟨hij, x2, rfl, rfl⟩
        have := (List.getElem?_eq_some_iff.mp hj).1
        rw [List.length_map] at hij
        omega
abbrev nSTo : List Str := ["self", "one", "other", "worth"]
theorem scSTo : FnScope nSTo ["self"] (defScope sSTo) := ⟨rfl, rfl, rfl, by decide +kernel, rfl, by decide +kernel, by decide +kernel⟩
theorem ok_sto {f : Addr} {fd : FuncData} (F : Fun K "told_rows" "Sheet.told_rows" sSTo f fd) (C : CT K mg CC) : FnOk P w K mg base CX0 1 f fd ["self"] (spSTo CC CR) := by
  refine F.ok scSTo (fun vs H Q E h => ?_) (fun cdv A outer s H vs Q E hr h => ?_)
  · obtain ⟨c, L, kvs, T, rfl, _⟩ := h
    rfl
  · obtain ⟨c, L, kvs, T, rfl, sh, h100, q⟩ := h
    refine ⟨_, pss_one (ps_ret (pe_lock (pe_lc (own := [("one", 1), ("other", 2), ("worth", 3)]) (g := gTup K 2 (gCons (gTup K 2 (gCons (gName 1) (gCons (gName 2) gNil))) (gCons (gName 3) gNil))) (te := tTup (tCons (tVar 1) (tCons (tVar 2) (tCons (tVar 3) tNil)))) rfl scSTo.nd (pi_itemsT (pe_fld (pv 0) rfl)) (blkOk_by (own := [("one", 1), ("other", 2), ("worth", 3)]) (N := nSTo) (sc := defScope sSTo) (by decide +kernel))
      (fun _ _ _ _ _ => pg_tup (n := 2) rfl (pgs_cons (pg_tup (n := 2) rfl (pgs_cons (pg_name (i := 1) scSTo.nd rfl (Or.inl rfl) (hf := Or.inr rfl)) (pgs_cons (pg_name (i := 2) scSTo.nd rfl (Or.inl rfl) (hf := Or.inr rfl)) pgs_nil))) (pgs_cons (pg_name (i := 3) scSTo.nd rfl (Or.inl rfl) (hf := Or.inr rfl)) pgs_nil)))
      (fun _ _ _ _ _ => pts_nil) (fun _ _ _ _ _ => pe_tup (pa_cons (pv 1) (pa_cons (pv 2) (pa_cons (pv 3) pa_nil))))))), ?_⟩
    obtain ⟨dx, hc⟩ := sh.at_
    have hL := sh.tb
    refine ⟨L, _, hL, True.intro, fun od => ?_⟩
    have ncL : c ≠ L := fun z => by rw [z, hL] at hc; cases hc
    refine ⟨_, rfl, c, CC, dx, _, _, rfl, (upd_ne ncL).trans hc, C.cl, C.nT, sf_t L, L, od, kvs, rfl, upd_same, fun D hD => ?_⟩
    have hDL : D ≠ L := fun z => by rw [z, upd_same] at hD; cases hD
    have hD0 : H D = none := by rw [upd_ne hDL] at hD; exact hD
    -- what stands while the dict is locked
    have st : ∀ {H' : Hp}, Same (upd H L (.frz od (.dT kvs))) H' → Same H (upd H' L (.dT kvs)) := fun {H'} s x o e => by
      by_cases z : x = L
      · subst z
        rw [upd_same, ← e, hL]
      · rw [upd_ne z]
        exact s _ _ ((upd_ne z).trans e)
    refine lc_it walk_itemsT (fun i H' => ∃ ts : List Addr, H' D = some (.lst (ts.map V.ref)) ∧ RowsR CR H' ts (T.take i) ∧ Same (upd H L (.frz od (.dT kvs))) H')
      ⟨[], upd_same, by rw [List.take_zero]; exact RowsR.nil, same_upd hD⟩ (fun i H' _ ⟨_, _, _, sx⟩ => sx _ _ upd_same) ?_ ?_
    · rintro i x H0 H1 hi ⟨ts, h1, h2, s0⟩ ⟨Tt, k, v, q', hkv, hq', rfl, nT, rfl⟩
      have hiT : i < T.length := by rw [← sh.rs.len]; exact hi
      have eT : T[i]? = some T[i] := List.getElem?_eq_getElem hiT
      obtain ⟨r, er, hr'⟩ := sh.rs.get eT
      rw [hkv] at er
      cases er
      have sT := same_upd (o := .tup [.ref q', V.ref r]) nT
      have hr2 : RatP CR H0 r T[i].2 := by
        obtain ⟨dr, e⟩ := hr'
        exact ⟨dr, s0 _ _ ((upd_ne (fun z => by rw [z, hL] at e; cases e)).trans e)⟩
      refine ⟨Tt, _, rfl, SqT.of upd_same, rfl, _, _, rfl, ⟨q', _, rfl, SqT.of (sT _ _ hq'), rfl, _, _, rfl, _, _, rfl, rfl, _, _, rfl, rfl, ?_⟩⟩
      refine ⟨rfl, _, rfl, _, rfl, _, rfl, (by show 3 ≤ sizeLine; decide), fun t nt => ?_⟩
      have s2 := sT.trans (same_upd (o := .tup [V.int (T[i].1.1 : Nat), .int (T[i].1.2 : Nat), .ref r]) nt)
      refine ⟨_, s2 _ _ h1, ?_, ts ++ [t], by rw [upd_same, List.map_append]; rfl, ?_, Same.put (s0.trans s2) hD⟩
      · rw [List.length_map, h2.len]
        exact small1000 (by have := List.length_take_le i T; omega)
      · rw [List.take_add_one, eT]
        have mv : ∀ b o, H0 b = some o → (∀ xs, o ≠ .lst xs) → upd (upd (upd H0 Tt (.tup [.ref q', V.ref r])) t (.tup [V.int (T[i].1.1 : Nat), .int (T[i].1.2 : Nat), .ref r])) D (.lst (ts.map V.ref ++ [.ref t])) b = some o := fun b o e ne => by
          rw [upd_ne (fun z => by rw [z, h1] at e; exact ne _ (Option.some.inj e).symm)]
          exact s2 _ _ e
        have ntD : t ≠ D := fun z => by
          have := s2 _ _ h1
          rw [← z, upd_same] at this
          cases this
        exact (h2.keep mv).snoc ((upd_ne ntD).trans upd_same) (let ⟨dr, e⟩ := hr2; ⟨dr, mv _ _ e (fun xs z => by cases z)⟩)
    · rintro H1 ⟨ts, h1, h2, s0⟩
      rw [sh.rs.len, List.take_length] at h2
      refine ⟨s0 _ _ upd_same, q D ts _ ((upd_ne hDL).trans h1) ?_ hD0 (st s0)⟩
      have hL1 := s0 _ _ (upd_same (H := H) (a := L) (o := .frz od (.dT kvs)))
      exact h2.keep2 (fun b xs e => (upd_ne (fun z => by rw [z, hL1] at e; cases e)).trans e) fun b C dx fs e => (upd_ne (fun z => by rw [z, hL1] at e; cases e)).trans e
end
end K37

set_option Elab.async false
set_option linter.all false
set_option maxRecDepth 100000
set_option maxHeartbeats 4000000
set_option pp.maxSteps 700
namespace K37
open PySem PySem.Spec PyProof.Rows L2 Ux
theorem sheet_made {K : PySem.W.Frag} {CR CC CI : Addr} {H : Hp} {Qn : Hp → Prop} {E : XK} {x dx l : Addr} {vs : List V} {ts : List Addr} {rows : RW} {n N : Nat} (e : vs = [.ref x, .ref l]) (nx : H x = none) (nd : H dx = none) (hl : SqL K H l (ts.map V.ref)) (ra : RowsAt CR H ts rows) (r6 : Rws n rows)
    (gr : ∀ k, (n + 1) * cnt rows k ≤ N) (hN : N ≤ 1900) (k : ∀ L kvs T H1, ShAt CC CR H1 x L kvs T → Canon N rows T → H L = none → Same H H1 → Qn H1) :
    spSIn K CR CC CI vs (upd (upd H dx (.own x)) x (.ins CC dx [])) (fun v H' => v = .non ∧ Qn H') E := by
  have sn : Same H (upd (upd H dx (.own x)) x (.ins CC dx [])) := made_same nx nd But.refl
  refine ⟨x, dx, l, ts, e, upd_same, SqL.ext hl sn, .inl ⟨rows, n, N, ra.same sn, r6, gr, hN, fun L kvs T H1 h1 h2 h3 cn hL bu => ⟨rfl, k L kvs T H1 ⟨⟨dx, h1⟩, h2, h3⟩ cn (none_of hL sn) (made_same nx nd bu)⟩⟩⟩
def spSSw (CC CR : Addr) : Sp := fun vs H Q _ => ∃ (c L : Addr) (kvs : List (List L2.Key × V)) (T : RW) (n : Nat), vs = [.ref c] ∧ ShAt CC CR H c L kvs T ∧ Rws n T ∧ (T.Pairwise fun a b => ltK a.1 b.1) ∧ n ≤ 1800 ∧
  ∀ (c' L' : Addr) (kv' : List (List L2.Key × V)) (T' : RW) (H' : Hp), ShAt CC CR H' c' L' kv' T' → Canon (n + 1) (swp T) T' → H L' = none → Same H H' → Q (.ref c') H'
def spSSl (K : PySem.W.Frag) (CC CR CI : Addr) : Sp := fun vs H Q E => (∃ (c L : Addr) (kvs : List (List L2.Key × V)) (T : RW) (n : Nat) (w : Nat), vs = [.ref c, .int (w : Nat)] ∧ w ≤ 1 ∧ ShAt CC CR H c L kvs T ∧ Rws n T ∧ (T.Pairwise fun a b => ltK a.1 b.1) ∧ n ≤ 1800 ∧
    ∀ (c' L' : Addr) (kv' : List (List L2.Key × V)) (T' : RW) (H' : Hp), ShAt CC CR H' c' L' kv' T' → Canon (n + 3) (if w = 0 then sl0 T else sl1 T) T' → H L' = none → Same H H' → Q (.ref c') H') ∨
  ∃ (c : Addr) (v : V), vs = [.ref c, v] ∧ ((∃ i : Int, v = .int i ∧ i ≠ 0 ∧ i ≠ 1) ∨ NotInt K H v) ∧ Adm K H v ∧ RaisesN CI v H E
section
variable {P : Program} {w : World} {K : PySem.W.Frag} {mg : Str → Option Value} {base : Heap} {CR CC CI fI : Addr}
theorem mul_I {n : Nat} {H : Hp} {Q : VK} {t : Addr} {a : PQ} {i : Int} (rt : RatAt CR H t a.1 a.2) (oa : Ok n a) (hn : n ≤ 2000) (hi : Bd 2000 i) (k : ∀ p H', RatAt CR H' p (ml a i).1 (ml a i).2 → Same H H' → Q (.ref p) H') :
    rBinI CR (spBin CR fMul gMul) (.ref t) (.int i) H Q := by
  obtain ⟨dt, ht⟩ := id rt
  refine ⟨t, dt, _, i, rfl, rfl, ht, t, .int i, a.1, a.2, i, 1, rfl, rt, .inr ⟨rfl, rfl⟩, oa.t.le hn, oa.b.le hn, hi, bd1, oa.pos, by decide, oa.g, g1i i, fun v K1 rv sv => ⟨v, rfl, k v K1 ?_ sv⟩⟩
  have e4 : gMul a.1 a.2 i 1 = a.2 := Int.mul_one _
  rw [e4] at rv
  exact rv
theorem mul_R {n m : Nat} {H : Hp} {Q : VK} {t r : Addr} {a x : PQ} (T : RT K mg CR) (rt : RatAt CR H t a.1 a.2) (rr : RatAt CR H r x.1 x.2) (oa : Ok n a) (ox : Ok m x) (hn : n ≤ 2000) (hm : m ≤ 2000) (k : ∀ p H', RatAt CR H' p (cr a x).1 (cr a x).2 → Same H H' → Q (.ref p) H') :
    rBinO K CR (spBin CR fMul gMul) (.ref t) (.ref r) H Q := by
  obtain ⟨dt, ht⟩ := id rt
  exact ⟨t, dt, _, rfl, ht, rr.ty T, t, .ref r, a.1, a.2, x.1, x.2, rfl, rt, .inl ⟨r, rfl, rr⟩, oa.t.le hn, oa.b.le hn, ox.t.le hm, ox.b.le hm, oa.pos, ox.pos, oa.g, ox.g, fun v K1 rv sv => ⟨v, rfl, k v K1 rv sv⟩⟩
abbrev nSSw : List Str := ["self", "one", "other", "worth"]
theorem scSSw : FnScope nSSw ["self"] (defScope sSSw) := ⟨rfl, rfl, rfl, by decide +kernel, rfl, by decide +kernel, by decide +kernel⟩
theorem rowsR_put {H H0 : Hp} {D t : Addr} {ts : List Addr} {rows : RW} (h : RowsR CR H0 ts rows) (hD : H0 D = some (.lst (ts.map V.ref))) (s : Same H0 H) {r : Addr} {e : KY × PQ} (h1 : H t = some (.tup [.int (e.1.1 : Nat), .int (e.1.2 : Nat), .ref r])) (h2 : RatP CR H r e.2) :
    RowsR CR (upd H D (.lst (ts.map V.ref ++ [.ref t]))) (ts ++ [t]) (rows ++ [e]) := by
  have hD1 := s _ _ hD
  have mv : ∀ b o, H b = some o → (∀ xs, o ≠ .lst xs) → upd H D (.lst (ts.map V.ref ++ [.ref t])) b = some o := fun b o e ne => (upd_ne (fun z => by rw [z, hD1] at e; exact ne _ (Option.some.inj e).symm)).trans e
  exact ((h.same s).keep mv).snoc (mv _ _ h1 (fun xs z => by cases z)) (let ⟨dr, e⟩ := h2; ⟨dr, mv _ _ e (fun xs z => by cases z)⟩)
theorem ok_ssw {f fT fi : Addr} {fd fdT fdi : FuncData} (F : Fun K "swapped" "Sheet.swapped" sSSw f fd) (C : CT K mg CC) (MT : Meth K CC "told_rows" fT) (GT : FnOk P w K mg base CX0 1 fT fdT ["self"] (spSTo CC CR)) (bT : Binds K fdT ["self"] [])
    (M : Mk K CC fi) (GI : FnOk P w K mg base (L2.CX P w) 7 fi fdi ["self", "rows"] (spSIn K CR CC CI)) (bI : Binds K fdi ["self", "rows"] []) : FnOk P w K mg base CX0 9 f fd ["self"] (spSSw CC CR) := by
  refine F.ok scSSw (fun vs H Q E h => ?_) (fun cdv A outer s H vs Q E hr h => ?_)
  · obtain ⟨c, L, kvs, T, n, rfl, _⟩ := h
    rfl
  · obtain ⟨c, L, kvs, T, n, rfl, sh, r6, srt, hn, q⟩ := h
    have r1 : Room 1 _ := hr.mono (by decide)
    refine ⟨_, pss_one (ps_ret (pe_make (E := E0) M GI hr (by rfl) C.gl bI .nil passL (pa_cons (pe_lc (own := [("one", 1), ("other", 2), ("worth", 3)]) (g := gTup K 3 (gCons (gName 1) (gCons (gName 2) (gCons (gName 3) gNil)))) (te := tTup (tCons (tVar 2) (tCons (tVar 1) (tCons (tVar 3) tNil)))) rfl scSSw.nd (pi_list (pe_meth0 (E := E0) (pv 0) C.cl MT GT r1 bT .nil pass0)) (blkOk_by (own := [("one", 1), ("other", 2), ("worth", 3)]) (N := nSSw) (sc := defScope sSSw) (by decide +kernel))
      (fun _ _ _ _ _ => pg_tup (n := 3) rfl (pgs_cons (pg_name (i := 1) scSSw.nd rfl (Or.inl rfl) (hf := Or.inr rfl)) (pgs_cons (pg_name (i := 2) scSSw.nd rfl (Or.inl rfl) (hf := Or.inr rfl)) (pgs_cons (pg_name (i := 3) scSSw.nd rfl (Or.inl rfl) (hf := Or.inr rfl)) pgs_nil))))
      (fun _ _ _ _ _ => pts_nil) (fun _ _ _ _ _ => pe_tup (pa_cons (pv 2) (pa_cons (pv 1) (pa_cons (pv 3) pa_nil))))) pa_nil))), ?_⟩
    obtain ⟨dx, hc⟩ := id sh.at_
    refine ⟨_, rfl, c, dx, _, rfl, hc, sf_no L (by decide +kernel), c, L, kvs, T, rfl, sh, Nat.le_trans r6.len (by decide), fun l ts H1 hl rt _ s1 => ⟨l, rfl, ⟨_, .of hl⟩, fun D hD => ?_⟩⟩
    refine lc_it (walk_list (K := K) (a := l) (xs := ts.map V.ref)) (fun i H' => ∃ us : List Addr, H' D = some (.lst (us.map V.ref)) ∧ RowsR CR H' us (swp (T.take i)) ∧ Same H1 H') ⟨[], upd_same, by rw [List.take_zero]; exact RowsR.nil, same_upd hD⟩ (fun i H' _ ⟨_, _, _, sx⟩ => .of (sx _ _ hl)) ?_ ?_
    · rintro i x H0 _ hi ⟨us, h1, h2, s2⟩ ⟨rfl, hx⟩
      rw [List.length_map, rt.len] at hi
      obtain ⟨t, et, rfl⟩ := map_of hx
      have eT : T[i]? = some T[i] := List.getElem?_eq_getElem hi
      obtain ⟨r, ht, hr'⟩ := (rt.same s2).at_ i t _ et eT
      refine ⟨t, _, rfl, SqT.of ht, rfl, _, _, rfl, _, _, rfl, _, _, rfl, rfl, ?_⟩
      refine ⟨rfl, _, rfl, _, rfl, _, rfl, (by show 3 ≤ sizeLine; decide), fun t2 nt => ?_⟩
      have s3 := same_upd (o := .tup [V.int (T[i].1.2 : Nat), .int (T[i].1.1 : Nat), .ref r]) nt
      refine ⟨_, s3 _ _ h1, ?_, us ++ [t2], by rw [upd_same, List.map_append]; rfl, ?_, Same.put (s2.trans s3) hD⟩
      · rw [List.length_map, h2.len]
        unfold swp
        rw [List.length_map]
        exact small1000 (by have := List.length_take_le i T; have := r6.len; omega)
      · have e : swp (T.take (i + 1)) = swp (T.take i) ++ [((T[i].1.2, T[i].1.1), T[i].2)] := by
          unfold swp
          rw [List.take_add_one, eT, List.map_append]
          rfl
        rw [e]
        exact rowsR_put h2 h1 s3 (e := ((T[i].1.2, T[i].1.1), T[i].2)) upd_same (RatAt.same hr' s3)
    · rintro H2 ⟨us, h1, h2, s2⟩
      rw [List.length_map, rt.len, List.take_length] at h2
      exact fun x dx' nx nd ne => sheet_made rfl nx nd (.of h1) h2.toAt r6.sw (grow1 (nd_swp srt)) (by omega) fun L' kv' T' H3 sh' cn hL' s3 => q x L' kv' T' H3 sh' cn (none_of hL' (s1.trans s2)) ((s1.trans s2).trans s3)
abbrev nSSl : List Str := ["self", "which", "rows", "one", "other", "worth"]
theorem scSSl : FnScope nSSl ["self", "which"] (defScope sSSl) := ⟨rfl, rfl, rfl, by decide +kernel, rfl, by decide +kernel, by decide +kernel⟩
theorem sl0_take {T : RW} {i : Nat} {e : KY × PQ} (h : T[i]? = some e) : sl0 (T.take (i + 1)) = sl0 (T.take i) ++ if 0 < e.1.1 then [((e.1.1 - 1, e.1.2), ml e.2 (e.1.1 : Nat))] else [] := by
  unfold sl0
  rw [List.take_add_one, h, List.filter_append, List.map_append]
  congr 1
  by_cases c : 0 < e.1.1
  · rw [if_pos c]
    show List.map _ (List.filter _ [e]) = _
    rw [List.filter_cons_of_pos (by simp [c])]
    rfl
  · rw [if_neg c]
    show List.map _ (List.filter _ [e]) = _
    rw [List.filter_cons_of_neg (by simp [c])]
    rfl
theorem sl1_take {T : RW} {i : Nat} {e : KY × PQ} (h : T[i]? = some e) : sl1 (T.take (i + 1)) = sl1 (T.take i) ++ if 0 < e.1.2 then [((e.1.1, e.1.2 - 1), ml e.2 (e.1.2 : Nat))] else [] := by
  unfold sl1
  rw [List.take_add_one, h, List.filter_append, List.map_append]
  congr 1
  by_cases c : 0 < e.1.2
  · rw [if_pos c]
    show List.map _ (List.filter _ [e]) = _
    rw [List.filter_cons_of_pos (by simp [c])]
    rfl
  · rw [if_neg c]
    show List.map _ (List.filter _ [e]) = _
    rw [List.filter_cons_of_neg (by simp [c])]
    rfl
theorem sl0_len (T : RW) (i : Nat) : (sl0 (T.take i)).length ≤ T.length := by
  unfold sl0
  rw [List.length_map]
  refine Nat.le_trans (List.length_filter_le _ _) ?_
  rw [List.length_take]
  omega
theorem sl1_len (T : RW) (i : Nat) : (sl1 (T.take i)).length ≤ T.length := by
  unfold sl1
  rw [List.length_map]
  refine Nat.le_trans (List.length_filter_le _ _) ?_
  rw [List.length_take]
  omega
theorem bd3 {k : Nat} (h : k ≤ 3) : Bd 2000 ((k : Nat) : Int) := bdS (by omega) (by decide)
abbrev gT3 (K : PySem.W.Frag) : TG := gTup K 3 (gCons (gName 3) (gCons (gName 4) (gCons (gName 5) gNil)))
abbrev RGt : R2 := rI0 fun i j => .bl (decide (j < i))
abbrev RSub : R2 := rI0 fun i j => .int (i - j)
theorem ok_ssl {f fN fT fi fU : Addr} {fd fdN fdT fdi fdU fdI : FuncData} (F : Fun K "slope_sheet" "Sheet.slope_sheet" sSSl f fd) (C : CT K mg CC) (DN : Dn K mg "is_integer" fN) (GN : FnOk P w K mg base CX0 1 fN fdN ["value"] (spIsInt K)) (bN : Binds K fdN ["value"] [])
    (MT : Meth K CC "told_rows" fT) (GT : FnOk P w K mg base CX0 1 fT fdT ["self"] (spSTo CC CR)) (bT : Binds K fdT ["self"] [])
    (MU : BinM K CR "mul" fU) (NU : BinI K CR "mul") (GU : FnOk P w K mg base CX0 5 fU fdU ["self", "other"] (spBin CR fMul gMul)) (bU : Binds K fdU ["self", "other"] [])
    (I : IN K mg CI fI) (GIn : FnOk P w K mg base CX0 2 fI fdI ["self", "given"] (spI_InvalidNumber K)) (bIn : Binds K fdI ["self", "given"] [])
    (M : Mk K CC fi) (GI : FnOk P w K mg base (L2.CX P w) 7 fi fdi ["self", "rows"] (spSIn K CR CC CI)) (bI : Binds K fdi ["self", "rows"] []) : FnOk P w K mg base (L2.CX P w) 9 f fd ["self", "which"] (spSSl K CC CR CI) := by
  refine F.okX scSSl (fun vs H Q E h => ?_) (fun cdv A outer s H vs Q E hr h => ?_)
  · obtain ⟨c, L, kvs, T, n, w, rfl, _⟩ | ⟨c, v, rfl, _⟩ := h <;> rfl
  · have r1 : Room 1 _ := hr.mono (by decide)
    have r3 : Room 3 _ := hr.mono (by decide)
    have r5 : Room 5 _ := hr.mono (by decide)
    refine ⟨_, pss_cons (ps_if (PW.pt (pw_or (pt_not (pt_val (pe_call GN r1 (by rfl) DN.gl DN.kp bN .nil pass0 (pa_cons (pv 1) pa_nil)))) (pw_or1 (pt_cmpR op_notIn_seq (pv 1) (pe_tup (pa_cons pe_int (pa_cons pe_int pa_nil))) (by rfl)))))
        (pss_one (ps_raise rfl (takes_of rfl rfl rfl rfl) (pmk_oex I.ox I.ini I.ty GIn r3 bIn .nil pass0 (by rfl) I.gl (pa_cons (pv 1) pa_nil)))) pss_nil)
      (C8.pss_cut (ps_if (pt_cmpR op_eq (pv 1) pe_int (nomark _))
        (pss_one (ps_setLc (i := 2) (own := [("one", 3), ("other", 4), ("worth", 5)]) (g := gT3 K) (tt := tTest (tOp RGt (tVar 3) (tI 0))) (te := tTup (tCons (tOp RSub (tVar 3) (tI 1)) (tCons (tVar 4) (tCons (tOp (rBinI CR (spBin CR fMul gMul)) (tVar 5) (tVar 3)) tNil)))) rfl scSSl.nd rfl rfl (sw_true rfl rfl rfl (by decide +kernel)) (pi_list (pe_meth0 (E := E0) (pv 0) C.cl MT GT r1 bT .nil pass0)) (blkOk_by (own := [("one", 3), ("other", 4), ("worth", 5)]) (N := nSSl) (sc := defScope sSSl) (by decide +kernel))
          (fun _ _ _ _ _ => pg_tup (n := 3) rfl (pgs_cons (pg_name (i := 3) scSSl.nd rfl (Or.inl rfl) (hf := Or.inr rfl)) (pgs_cons (pg_name (i := 4) scSSl.nd rfl (Or.inl rfl) (hf := Or.inr rfl)) (pgs_cons (pg_name (i := 5) scSSl.nd rfl (Or.inl rfl) (hf := Or.inr rfl)) pgs_nil))))
          (fun _ _ _ _ _ => pts_one (pt_cmpR op_gt (pv 3) pe_int (nomark _))) (fun _ _ _ _ _ => pe_tup (pa_cons (pe_op op_sub (pv 3) pe_int) (pa_cons (pv 4) (pa_cons (pe_op (op_binI (op := .Mult) MU NU GU bU r5) (pv 5) (pv 3)) pa_nil))))))
        (pss_one (ps_setLc (i := 2) (own := [("one", 3), ("other", 4), ("worth", 5)]) (g := gT3 K) (tt := tTest (tOp RGt (tVar 4) (tI 0))) (te := tTup (tCons (tVar 3) (tCons (tOp RSub (tVar 4) (tI 1)) (tCons (tOp (rBinI CR (spBin CR fMul gMul)) (tVar 5) (tVar 4)) tNil)))) rfl scSSl.nd rfl rfl (sw_true rfl rfl rfl (by decide +kernel)) (pi_list (pe_meth0 (E := E0) (pv 0) C.cl MT GT r1 bT .nil pass0)) (blkOk_by (own := [("one", 3), ("other", 4), ("worth", 5)]) (N := nSSl) (sc := defScope sSSl) (by decide +kernel))
          (fun _ _ _ _ _ => pg_tup (n := 3) rfl (pgs_cons (pg_name (i := 3) scSSl.nd rfl (Or.inl rfl) (hf := Or.inr rfl)) (pgs_cons (pg_name (i := 4) scSSl.nd rfl (Or.inl rfl) (hf := Or.inr rfl)) (pgs_cons (pg_name (i := 5) scSSl.nd rfl (Or.inl rfl) (hf := Or.inr rfl)) pgs_nil))))
          (fun _ _ _ _ _ => pts_one (pt_cmpR op_gt (pv 4) pe_int (nomark _))) (fun _ _ _ _ _ => pe_tup (pa_cons (pv 3) (pa_cons (pe_op op_sub (pv 4) pe_int) (pa_cons (pe_op (op_binI (op := .Mult) MU NU GU bU r5) (pv 5) (pv 4)) pa_nil)))))))
      (pss_one (ps_ret (pe_make M GI hr (by rfl) C.gl bI .nil (passes_call (takes_of rfl rfl rfl rfl) fun _ _ _ _ z => z) (pa_cons (pv 2) pa_nil))))), ?_⟩
    rcases h with ⟨c, L, kvs, T, n, w, rfl, hw, sh, r6, srt, hn, q⟩ | ⟨c, v, rfl, bad, ad, k⟩
    · refine ⟨_, rfl, _, _, true, false, rfl, .base (.int _), kit_ty (by decide +kernel), kit_ty (by decide +kernel), _, rfl, iteF ?_⟩
      refine ⟨_, rfl, (by show 2 ≤ sizeLine; decide), fun t1 n1 => ?_⟩
      have s1 := same_upd (o := .tup [V.int 0, .int 1]) n1
      refine ⟨t1, _, rfl, .inr (.of upd_same), rfl, rfl, _, rfl, ?_⟩
      have ew : inV (.int ((w : Nat) : Int)) [.int 0, .int 1] = true := by
        rcases (show w = 0 ∨ w = 1 by omega) with rfl | rfl <;> rfl
      rw [ew]
      refine iteF ?_
      have sh1 := sh.same s1
      generalize upd H t1 (.tup [V.int 0, .int 1]) = H1 at s1 sh1
      obtain ⟨dx, hc⟩ := id sh1.at_
      refine ⟨fun σ H' => ∃ (l : Addr) (us : List Addr), σ = [some (.ref c), some (.int (w : Nat)), some (.ref l), none, none, none] ∧ H' l = some (.lst (us.map V.ref)) ∧ RowsR CR H' us (if w = 0 then sl0 T else sl1 T) ∧ Same H1 H', ?_, ?_⟩
      · refine ⟨_, rfl, rfl, _, rfl, ?_⟩
        rcases (show w = 0 ∨ w = 1 by omega) with rfl | rfl
        · refine iteT ?_
          refine ⟨_, rfl, c, dx, _, rfl, hc, sf_no L (by decide +kernel), c, L, kvs, T, rfl, sh1, Nat.le_trans r6.len (by decide), fun l ts H2 hl rt _ s2 => ⟨l, rfl, ⟨_, .of hl⟩, fun D hD => ?_⟩⟩
          refine lc_it (walk_list (K := K) (a := l) (xs := ts.map V.ref)) (fun i H' => ∃ us : List Addr, H' D = some (.lst (us.map V.ref)) ∧ RowsR CR H' us (sl0 (T.take i)) ∧ Same H2 H') ⟨[], upd_same, by rw [List.take_zero]; exact RowsR.nil, same_upd hD⟩ (fun i H' _ ⟨_, _, _, sx⟩ => .of (sx _ _ hl)) ?_ ?_
          · rintro i x H0 _ hi ⟨us, h1, h2, s3⟩ ⟨rfl, hx⟩
            rw [List.length_map, rt.len] at hi
            obtain ⟨t, et, rfl⟩ := map_of hx
            have eT : T[i]? = some T[i] := List.getElem?_eq_getElem hi
            obtain ⟨r, ht, hr'⟩ := (rt.same s3).at_ i t _ et eT
            have hm := List.getElem_mem hi
            have ek := sl0_take eT
            have ok := r6.ok _ hm
            have p3 := r6.p0 _ hm
            generalize T[i] = e at eT ht hr' ek ok p3
            refine ⟨t, _, rfl, SqT.of ht, rfl, _, _, rfl, _, _, rfl, _, _, rfl, rfl, ?_⟩
            refine ⟨rfl, _, rfl, _, _, rfl, rfl, _, rfl, ?_⟩
            by_cases c0 : 0 < e.1.1
            · rw [decide_eq_true (show (0 : Int) < (e.1.1 : Nat) by omega)]
              rw [if_pos c0] at ek
              refine iteT ⟨_, rfl, _, _, rfl, rfl, _, rfl, _, rfl, _, rfl, mul_I hr' ok (by omega) (bd3 p3) fun p2 H4 rp s4 => ⟨(by show 3 ≤ sizeLine; decide), fun t2 nt => ?_⟩⟩
              have s5 := s4.trans (same_upd (o := .tup [V.int ((e.1.1 : Nat) - 1 : Int), .int (e.1.2 : Nat), .ref p2]) nt)
              refine ⟨_, s5 _ _ h1, ?_, us ++ [t2], by rw [upd_same, List.map_append]; rfl, ?_, Same.put (s3.trans s5) hD⟩
              · rw [List.length_map, h2.len]
                exact small1000 (by have := sl0_len T i; have := r6.len; omega)
              · rw [ek]
                refine rowsR_put h2 h1 s5 (e := ((e.1.1 - 1, e.1.2), ml e.2 (e.1.1 : Nat))) (r := p2) ?_ (RatAt.same rp (same_upd nt))
                rw [upd_same]
                show some (HO.tup [V.int ((e.1.1 : Nat) - 1 : Int), .int (e.1.2 : Nat), .ref p2]) = some (.tup [.int ((e.1.1 - 1 : Nat) : Int), .int (e.1.2 : Nat), .ref p2])
                rw [show ((e.1.1 - 1 : Nat) : Int) = (e.1.1 : Nat) - 1 by omega]
            · rw [decide_eq_false (show ¬ (0 : Int) < (e.1.1 : Nat) by omega)]
              rw [if_neg c0, List.append_nil] at ek
              exact iteF ⟨us, h1, by rw [ek]; exact h2, s3⟩
          · rintro H3 ⟨us, h1, h2, s3⟩
            rw [List.length_map, rt.len, List.take_length] at h2
            exact ⟨D, us, rfl, h1, h2, s2.trans s3⟩
        · refine iteF ?_
          refine ⟨_, rfl, c, dx, _, rfl, hc, sf_no L (by decide +kernel), c, L, kvs, T, rfl, sh1, Nat.le_trans r6.len (by decide), fun l ts H2 hl rt _ s2 => ⟨l, rfl, ⟨_, .of hl⟩, fun D hD => ?_⟩⟩
          refine lc_it (walk_list (K := K) (a := l) (xs := ts.map V.ref)) (fun i H' => ∃ us : List Addr, H' D = some (.lst (us.map V.ref)) ∧ RowsR CR H' us (sl1 (T.take i)) ∧ Same H2 H') ⟨[], upd_same, by rw [List.take_zero]; exact RowsR.nil, same_upd hD⟩ (fun i H' _ ⟨_, _, _, sx⟩ => .of (sx _ _ hl)) ?_ ?_
          · rintro i x H0 _ hi ⟨us, h1, h2, s3⟩ ⟨rfl, hx⟩
            rw [List.length_map, rt.len] at hi
            obtain ⟨t, et, rfl⟩ := map_of hx
            have eT : T[i]? = some T[i] := List.getElem?_eq_getElem hi
            obtain ⟨r, ht, hr'⟩ := (rt.same s3).at_ i t _ et eT
            have hm := List.getElem_mem hi
            have ek := sl1_take eT
            have ok := r6.ok _ hm
            have p3 := r6.p1 _ hm
            generalize T[i] = e at eT ht hr' ek ok p3
            refine ⟨t, _, rfl, SqT.of ht, rfl, _, _, rfl, _, _, rfl, _, _, rfl, rfl, ?_⟩
            refine ⟨rfl, _, rfl, _, _, rfl, rfl, _, rfl, ?_⟩
            by_cases c0 : 0 < e.1.2
            · rw [decide_eq_true (show (0 : Int) < (e.1.2 : Nat) by omega)]
              rw [if_pos c0] at ek
              refine iteT ⟨_, rfl, _, rfl, _, _, rfl, rfl, _, rfl, _, rfl, mul_I hr' ok (by omega) (bd3 p3) fun p2 H4 rp s4 => ⟨(by show 3 ≤ sizeLine; decide), fun t2 nt => ?_⟩⟩
              have s5 := s4.trans (same_upd (o := .tup [V.int (e.1.1 : Nat), .int ((e.1.2 : Nat) - 1 : Int), .ref p2]) nt)
              refine ⟨_, s5 _ _ h1, ?_, us ++ [t2], by rw [upd_same, List.map_append]; rfl, ?_, Same.put (s3.trans s5) hD⟩
              · rw [List.length_map, h2.len]
                exact small1000 (by have := sl1_len T i; have := r6.len; omega)
              · rw [ek]
                refine rowsR_put h2 h1 s5 (e := ((e.1.1, e.1.2 - 1), ml e.2 (e.1.2 : Nat))) (r := p2) ?_ (RatAt.same rp (same_upd nt))
                rw [upd_same]
                show some (HO.tup [V.int (e.1.1 : Nat), .int ((e.1.2 : Nat) - 1 : Int), .ref p2]) = some (.tup [.int (e.1.1 : Nat), .int ((e.1.2 - 1 : Nat) : Int), .ref p2])
                rw [show ((e.1.2 - 1 : Nat) : Int) = (e.1.2 : Nat) - 1 by omega]
            · rw [decide_eq_false (show ¬ (0 : Int) < (e.1.2 : Nat) by omega)]
              rw [if_neg c0, List.append_nil] at ek
              exact iteF ⟨us, h1, by rw [ek]; exact h2, s3⟩
          · rintro H3 ⟨us, h1, h2, s3⟩
            rw [List.length_map, rt.len, List.take_length] at h2
            exact ⟨D, us, rfl, h1, h2, s2.trans s3⟩
      · rintro σ H2 ⟨l, us, rfl, hl, rr, s2⟩
        have r6' : Rws (n + 2) (if w = 0 then sl0 T else sl1 T) := by
          by_cases z : w = 0
          · rw [if_pos z]; exact r6.s0
          · rw [if_neg z]; exact r6.s1
        have nd' : ((if w = 0 then sl0 T else sl1 T).map (·.1)).Nodup := by
          by_cases z : w = 0
          · rw [if_pos z]; exact nd_sl0 srt
          · rw [if_neg z]; exact nd_sl1 srt
        exact ⟨_, rfl, fun x dx' nx nd ne => sheet_made rfl nx nd (.of hl) rr.toAt r6' (grow1 nd') (by omega) fun L' kv' T' H3 sh' cn hL' s3 => q x L' kv' T' H3 sh' cn (none_of hL' (s1.trans s2)) ((s1.trans s2).trans s3)⟩
    · rcases bad with ⟨i, rfl, h0, h1⟩ | ⟨t, b1, b2, ty, k1, k2, e⟩
      · refine ⟨_, rfl, _, _, true, false, rfl, .base (.int _), kit_ty (by decide +kernel), kit_ty (by decide +kernel), _, rfl, iteF ?_⟩
        refine ⟨_, rfl, (by show 2 ≤ sizeLine; decide), fun t1 n1 => ?_⟩
        have s1 := same_upd (o := .tup [V.int 0, .int 1]) n1
        refine ⟨t1, _, rfl, .inr (.of upd_same), rfl, rfl, _, rfl, ?_⟩
        have ew : inV (.int i) [.int 0, .int 1] = false := by
          simp [inV, eqV, Ne.symm h0, Ne.symm h1]
        rw [ew]
        exact iteT (in_made I rfl (ad.same s1) fun d H' s hd => k d H' (s1.trans s) hd)
      · exact ⟨_, rfl, _, _, b1, b2, rfl, ty, k1, k2, false, congrArg V.bl e, iteT (in_made I rfl ad k)⟩
end
end K37

set_option Elab.async false
set_option linter.all false
set_option maxRecDepth 100000
set_option maxHeartbeats 4000000
set_option pp.maxSteps 700
namespace K37
open PySem PySem.Spec PyProof.Rows L2 Ux
def spSCa (CC CR : Addr) : Sp := fun vs H Q _ => ∃ (c L : Addr) (kvs : List (List L2.Key × V)) (T : RW) (y1 y2 : V) (x y : PQ) (n m : Nat), vs = [.ref c, y1, y2] ∧ ShAt CC CR H c L kvs T ∧ Rws n T ∧ NumV CR H y1 x.1 x.2 ∧ NumV CR H y2 y.1 y.2 ∧ Ok m x ∧ Ok m y ∧ m ≤ 20 ∧ n ≤ 100 ∧
  ∀ (t : Addr) (H' : Hp), RatAt CR H' t (vS x y T).1 (vS x y T).2 → Same H H' → Q (.ref t) H'
section
variable {P : Program} {w : World} {K : PySem.W.Frag} {mg : Str → Option Value} {base : Heap} {CR CC CI fI : Addr}
theorem scPwT : FnScope ["place", "most", "powers", "_"] ["place", "most"] (defScope sPwT) := ⟨rfl, rfl, rfl, by decide +kernel, rfl, by decide +kernel, by decide +kernel⟩
theorem LsAt.atL {H : Hp} {l : Addr} {xs : List V} {us : List Addr} {ps : List PQ} {o : HO} (h : RatsAt CR H us ps) (hl : H l = some (.lst xs)) : RatsAt CR (upd H l o) us ps :=
  h.but hl fun b o' e n => (upd_ne n).trans e
theorem ok_pwT {f fi fU : Addr} {fd fdi fdU : FuncData} {d1 : List Value} (F : Fun K "powers_to" "powers_to" sPwT f fd) (B : Bn mg) (T : RT K mg CR) (M : Mk K CR fi) (GI : FnOk P w K mg base CX0 2 fi fdi ["self", "top", "bottom"] (spRInit CR)) (bR1 : Binds K fdi ["self", "top", "bottom"] d1) (vR1 : Vals [V.int 1] d1)
    (MU : BinM K CR "mul" fU) (NU : BinI K CR "mul") (GU : FnOk P w K mg base CX0 5 fU fdU ["self", "other"] (spBin CR fMul gMul)) (bU : Binds K fdU ["self", "other"] []) : FnOk P w K mg base CX0 6 f fd ["place", "most"] (spPwT CR) := by
  refine F.ok scPwT (fun vs H Q E h => ?_) (fun cdv A outer s H vs Q E hr h => ?_)
  · obtain ⟨y, x, m, n, rfl, _⟩ := h
    rfl
  · obtain ⟨y, x, m, n, rfl, ny, ox, hm, hn, q⟩ := h
    have r3 : Room 3 _ := hr.mono (by decide)
    refine ⟨_, pss_cons (ps_set (i := 2) scPwT.nd rfl (Or.inl rfl) (pe_lst (pa_cons (pe_make M GI r3 (by rfl) T.gl bR1 vR1 pass0 (pa_cons pe_int pa_nil)) pa_nil)))
      (pss_cons (ps_for PassesOwn.never rfl (pi_range1 rfl B.frange (pa_cons (pv 1) pa_nil)) (pg_name (i := 3) scPwT.nd rfl (Or.inl rfl))
        (pss_one (ps_expr (pe_bm PySem.F.plainAttrs_list PySem.F.slot_list_append PySem.F.type_list_append mt_append (pv 2) (pa_cons (pe_op (op_any (op_binO (op := .Mult) MU GU bU hr) (op_binI (op := .Mult) MU NU GU bU hr)) (pe_ix ix_list (pv 2) (pe_un un_neg pe_int) (fun _ _ => rfl)) (pv 0)) pa_nil)))))
      (pss_one (ps_ret (pv 2)))), ?_⟩
    refine fun z dz nz nd ne => rat_made (t := 1) (b := 1) rfl nz nd (by decide) (Bd.of (m := 1) (by decide) (by decide +kernel)) fun H1 rz s1 => ?_
    rw [(n_one 1).1, (n_one 1).2] at rz
    refine ⟨(by show 1 ≤ sizeLine; decide), fun l hl => ?_⟩
    have s2 := same_upd (o := .lst [V.ref z]) hl
    have hl0 : H l = none := none_of hl s1
    refine ⟨_, rfl, _, rfl, by omega, by omega, ?_⟩
    rw [Int.toNat_natCast]
    refine for_range (fun i σ H' => ∃ (us : List Addr) (x3 : Option V), σ = [some y, some (.int (n : Nat)), some (.ref l), x3] ∧ H' l = some (.lst (us.map V.ref)) ∧ RatsAt CR H' us ((List.range (i + 1)).map (pwr x)) ∧ Same H H') ⟨[z], none, rfl, upd_same, LsAt.one (rz.same s2), s1.trans s2⟩ ?_ ?_
    · rintro j σ H2 hj ⟨us, x3, rfl, h2, ru, sm⟩
      have lu : us.length = j + 1 := by rw [ru.len, List.length_map, List.length_range]
      obtain ⟨us0, r0, eu⟩ : ∃ us0 r0, us = us0 ++ [r0] := by
        refine ⟨us.dropLast, us.getLast (by intro z; rw [z] at lu; cases lu), (List.dropLast_concat_getLast _).symm⟩
      have l0 : us0.length = j := by rw [eu, List.length_append] at lu; exact Nat.succ.inj lu
      have r0j : us[j]? = some r0 := by rw [eu, List.getElem?_append_right (by omega), l0, Nat.sub_self]; rfl
      have rr : RatAt CR H2 r0 (pwr x j).1 (pwr x j).2 := ru.at_ j r0 (pwr x j) r0j (by rw [List.getElem?_map, List.getElem?_range (by omega)]; rfl)
      have op := pwr_ok ox j
      have jm := Nat.mul_le_mul (show j ≤ 3 by omega) hm
      refine ⟨_, rfl, .inl ⟨rfl, _, SqL.of h2⟩, _, rfl, _, rfl, l, _, _, .ref r0, rfl, rfl, .of h2, ?_, _, rfl, ?_⟩
      · rw [eu, List.map_append]
        exact atI_last _ _
      · refine mul_any T rr (ny.same sm) op ox (by omega) (by omega) fun p H3 rp s3 => ?_
        refine ⟨l, _, _, rfl, rfl, s3 _ _ h2, ?_, us ++ [p], _, rfl, by rw [upd_same, List.map_append]; rfl, ?_, Same.put (sm.trans s3) hl0⟩
        · rw [List.length_map, lu]
          exact small1000 (by omega)
        · rw [List.range_succ (n := j + 1), List.map_append]
          have h3 := s3 _ _ h2
          refine LsAt.app (LsAt.atL (ru.same s3) h3) (LsAt.one ?_)
          obtain ⟨dx, e⟩ := rp
          exact ⟨dx, (upd_ne (fun y => by rw [y, h3] at e; cases e)).trans e⟩
    · rintro σ H2 ⟨us, x3, rfl, h2, ru, sm⟩
      exact ⟨_, rfl, q l us H2 h2 ru hl0 sm⟩
abbrev nSCa : List Str := ["self", "one", "other", "left", "right", "total", "first", "second", "worth", "powers"]
theorem scSCa : FnScope nSCa ["self", "one", "other"] (defScope sSCa) := ⟨rfl, rfl, rfl, by decide +kernel, rfl, by decide +kernel, by decide +kernel⟩
theorem vMax : bootBuiltins ("max" : Str) = some (.builtin "max") := by decide +kernel
/-- the greatest of the powers, 0 where there is none -/
theorem max_bd {T : RW} {f : KY → Nat} (h : ∀ e ∈ T, f e.1 ≤ 3) {m : Int} (hm : (T.map fun e => ((f e.1 : Nat) : Int)) = [] ∧ m = 0 ∨ m ∈ T.map fun e => ((f e.1 : Nat) : Int)) : ∃ k : Nat, m = k ∧ k ≤ 3 := by
  rcases hm with ⟨_, rfl⟩ | hm
  · exact ⟨0, rfl, by decide⟩
  · obtain ⟨e, he, rfl⟩ := List.mem_map.mp hm
    exact ⟨_, rfl, h e he⟩
theorem ok_sca {f fP fT fi fA fU : Addr} {fd fdP fdT fdi fdA fdU : FuncData} {d1 : List Value} (F : Fun K "__call__" "Sheet.__call__" sSCa f fd) (B : Bn mg) (B2 : Bk mg) (C : CT K mg CC) (T : RT K mg CR) (DP : Dn K mg "powers_to" fP) (GP : FnOk P w K mg base CX0 6 fP fdP ["place", "most"] (spPwT CR)) (bP : Binds K fdP ["place", "most"] [])
    (MT : Meth K CC "told_rows" fT) (GT : FnOk P w K mg base CX0 1 fT fdT ["self"] (spSTo CC CR)) (bT : Binds K fdT ["self"] [])
    (M : Mk K CR fi) (GI : FnOk P w K mg base CX0 2 fi fdi ["self", "top", "bottom"] (spRInit CR)) (bR1 : Binds K fdi ["self", "top", "bottom"] d1) (vR1 : Vals [V.int 1] d1)
    (MA : BinM K CR "add" fA) (GA : FnOk P w K mg base CX0 5 fA fdA ["self", "other"] (spBin CR fAdd gMul)) (bA : Binds K fdA ["self", "other"] [])
    (MU : BinM K CR "mul" fU) (GU : FnOk P w K mg base CX0 5 fU fdU ["self", "other"] (spBin CR fMul gMul)) (bU : Binds K fdU ["self", "other"] []) : FnOk P w K mg base CX0 7 f fd ["self", "one", "other"] (spSCa CC CR) := by
  refine F.ok scSCa (fun vs H Q E h => ?_) (fun cdv A outer s H vs Q E hr h => ?_)
  · obtain ⟨c, L, kvs, Tb, y1, y2, x, y, n, m, rfl, _⟩ := h
    rfl
  · obtain ⟨c, L, kvs, Tb, y1, y2, x, y, n, m, rfl, sh, r6, n1, n2, ox, oy, hm, hn, q⟩ := h
    have r1 : Room 1 _ := hr.mono (by decide)
    have r3 : Room 3 _ := hr.mono (by decide)
    have r5 : Room 5 _ := hr.mono (by decide)
    refine ⟨_, C8.pss_cut (ps_set (i := 3) scSCa.nd rfl (Or.inl rfl) (pe_call GP hr (by rfl) DP.gl DP.kp bP .nil pass0 (pa_cons (pv 1) (pa_cons (pe_callBK (cr_maxDef rfl) (by rfl) B2.fmax vMax
          (pa_cons (pe_lock (pe_lc (own := [("powers", 9)]) (g := gName 9) (te := tOp (rIxT K) (tVar 9) (tI 0)) rfl scSCa.nd (pi_keys (pe_fld (pv 0) rfl)) (blkOk_by (own := [("powers", 9)]) (N := nSCa) (sc := defScope sSCa) (by decide +kernel))
            (fun _ _ _ _ _ => pg_name (i := 9) scSCa.nd rfl (Or.inl rfl) (hf := Or.inr rfl)) (fun _ _ _ _ _ => pts_nil) (fun _ _ _ _ _ => pe_ix ix_tup (pv 9) pe_int (fun _ _ => rfl)))) pa_nil) (pk_cons pe_int pk_nil)) pa_nil))))
      (C8.pss_cut (ps_set (i := 4) scSCa.nd rfl (Or.inl rfl) (pe_call GP hr (by rfl) DP.gl DP.kp bP .nil pass0 (pa_cons (pv 2) (pa_cons (pe_callBK (cr_maxDef rfl) (by rfl) B2.fmax vMax
          (pa_cons (pe_lock (pe_lc (own := [("powers", 9)]) (g := gName 9) (te := tOp (rIxT K) (tVar 9) (tI 1)) rfl scSCa.nd (pi_keys (pe_fld (pv 0) rfl)) (blkOk_by (own := [("powers", 9)]) (N := nSCa) (sc := defScope sSCa) (by decide +kernel))
            (fun _ _ _ _ _ => pg_name (i := 9) scSCa.nd rfl (Or.inl rfl) (hf := Or.inr rfl)) (fun _ _ _ _ _ => pts_nil) (fun _ _ _ _ _ => pe_ix ix_tup (pv 9) pe_int (fun _ _ => rfl)))) pa_nil) (pk_cons pe_int pk_nil)) pa_nil))))
      (pss_cons (ps_set (i := 5) scSCa.nd rfl (Or.inl rfl) (pe_make M GI r3 (by rfl) T.gl bR1 vR1 pass0 (pa_cons pe_int pa_nil)))
      (pss_cons (ps_for PassesOwn.never rfl (pi_list (pe_meth0 (E := E0) (pv 0) C.cl MT GT r1 bT .nil pass0)) (pg_tup (n := 3) rfl (pgs_cons (pg_name (i := 6) scSCa.nd rfl (Or.inl rfl)) (pgs_cons (pg_name (i := 7) scSCa.nd rfl (Or.inl rfl)) (pgs_cons (pg_name (i := 8) scSCa.nd rfl (Or.inl rfl)) pgs_nil))))
        (pss_one (ps_set (i := 5) scSCa.nd rfl (Or.inl rfl) (pe_op (op_binO (op := .Add) MA GA bA r5) (pv 5) (pe_op (op_binO (op := .Mult) MU GU bU r5) (pe_op (op_binO (op := .Mult) MU GU bU r5) (pv 8) (pe_ix ix_list (pv 3) (pv 6) (fun _ _ => rfl))) (pe_ix ix_list (pv 4) (pv 7) (fun _ _ => rfl)))))))
      (pss_one (ps_ret (pv 5)))))), ?_⟩
    have sh0 := sh
    obtain ⟨dx, hc⟩ := sh.at_
    have hL := sh.tb
    have ncL : c ≠ L := fun z => by rw [z, hL] at hc; cases hc
    have st : ∀ {Hz H1 : Hp} {od : Obj}, Hz L = some (.dT kvs) → Same (upd Hz L (.frz od (.dT kvs))) H1 → Same Hz (upd H1 L (.dT kvs)) := fun {Hz H1 od} hz s x o e => by
      by_cases z : x = L
      · subst z
        rw [upd_same, ← e, hz]
      · rw [upd_ne z]
        exact s _ _ ((upd_ne z).trans e)
    refine ⟨fun σ H' => ∃ (l : Addr) (rs : List Addr) (k : Nat), σ = [some (.ref c), some y1, some y2, some (.ref l), none, none, none, none, none, none] ∧ H' l = some (.lst (rs.map V.ref)) ∧ RatsAt CR H' rs ((List.range (k + 1)).map (pwr x)) ∧ (∀ e ∈ Tb, e.1.1 ≤ k) ∧ Same H H', ?_, ?_⟩
    · refine ⟨_, rfl, L, _, hL, True.intro, fun od => ?_⟩
      refine ⟨_, rfl, c, CC, dx, _, _, rfl, (upd_ne ncL).trans hc, C.cl, C.nT, sf_t L, L, od, rfl, .inr ⟨kvs, upd_same, fun D hD => ?_⟩⟩
      have hDL : D ≠ L := fun z => by rw [z, upd_same] at hD; cases hD
      refine lc_it walk_keysT (fun i H' => H' D = some (.lst (((Tb.take i).map fun e => ((e.1.1 : Nat) : Int)).map V.int)) ∧ Same (upd H L (.frz od (.dT kvs))) H') ⟨upd_same, same_upd hD⟩ (fun i H' _ ⟨_, sx⟩ => sx _ _ upd_same) ?_ ?_
      · rintro i x H1 _ hi ⟨h1, s0⟩ ⟨rfl, k, v, q', hkv, rfl, hq'⟩
        have hiT : i < Tb.length := by rw [← sh.rs.len]; exact hi
        have eT : Tb[i]? = some Tb[i] := List.getElem?_eq_getElem hiT
        obtain ⟨r, er, _⟩ := sh.rs.get eT
        rw [hkv] at er
        cases er
        refine ⟨rfl, _, rfl, q', _, _, .int ((Tb[i].1.1 : Nat) : Int), rfl, rfl, .of hq', rfl, _, h1, ?_, ?_, ?_⟩
        · rw [List.length_map, List.length_map]
          exact small1000 (by have := List.length_take_le i Tb; have := r6.len; omega)
        · rw [upd_same, List.take_add_one, eT, List.map_append, List.map_append]
          rfl
        · exact Same.put s0 hD
      · rintro H1 ⟨h1, s0⟩
        rw [sh.rs.len, List.take_length] at h1
        refine ⟨s0 _ _ upd_same, D, Tb.map fun e => ((e.1.1 : Nat) : Int), .int 0, rfl, rfl, .of ((upd_ne hDL).trans h1), ?_, ?_⟩
        · intro z
          have eT : Tb = [] := List.map_eq_nil_iff.mp z
          have S2 := st hL s0
          exact ⟨_, x, m, 0, rfl, NumV.same n1 S2, ox, (by omega), (by decide), fun l rs H2 h2 rr _ s2 => have S3 := S2.trans s2; have LE := (fun e he => absurd (eT ▸ he) List.not_mem_nil : ∀ e ∈ Tb, e.1.1 ≤ 0); ⟨_, _, _, rfl, h2, rr, LE, S3⟩⟩
        · intro mx hmx hle
          obtain ⟨e, he, rfl⟩ := List.mem_map.mp hmx
          have S2 := st hL s0
          exact ⟨_, x, m, e.1.1, rfl, NumV.same n1 S2, ox, (by omega), (r6.p0 e he), fun l rs H2 h2 rr _ s2 => have S3 := S2.trans s2; have LE := (fun f hf => Int.ofNat_le.mp (hle _ (List.mem_map.mpr ⟨f, hf, rfl⟩)) : ∀ f ∈ Tb, f.1.1 ≤ e.1.1); ⟨_, _, _, rfl, h2, rr, LE, S3⟩⟩
    rintro σ Ha ⟨l1, rs1, kx, rfl, hl1, rx, lx, Sa⟩
    have gL := Sa _ _ hL
    have gc := Sa _ _ hc
    refine ⟨fun σ H' => ∃ (l2 : Addr) (rs2 : List Addr) (k : Nat), σ = [some (.ref c), some y1, some y2, some (.ref l1), some (.ref l2), none, none, none, none, none] ∧ H' l2 = some (.lst (rs2.map V.ref)) ∧ RatsAt CR H' rs2 ((List.range (k + 1)).map (pwr y)) ∧ (∀ e ∈ Tb, e.1.2 ≤ k) ∧ Same Ha H', ?_, ?_⟩
    · refine ⟨_, rfl, L, _, gL, True.intro, fun od => ?_⟩
      refine ⟨_, rfl, c, CC, dx, _, _, rfl, (upd_ne ncL).trans gc, C.cl, C.nT, sf_t L, L, od, rfl, .inr ⟨kvs, upd_same, fun D hD => ?_⟩⟩
      have hDL : D ≠ L := fun z => by rw [z, upd_same] at hD; cases hD
      refine lc_it walk_keysT (fun i H' => H' D = some (.lst (((Tb.take i).map fun e => ((e.1.2 : Nat) : Int)).map V.int)) ∧ Same (upd Ha L (.frz od (.dT kvs))) H') ⟨upd_same, same_upd hD⟩ (fun i H' _ ⟨_, sx⟩ => sx _ _ upd_same) ?_ ?_
      · rintro i x H1 _ hi ⟨h1, s0⟩ ⟨rfl, k, v, q', hkv, rfl, hq'⟩
        have hiT : i < Tb.length := by rw [← sh.rs.len]; exact hi
        have eT : Tb[i]? = some Tb[i] := List.getElem?_eq_getElem hiT
        obtain ⟨r, er, _⟩ := sh.rs.get eT
        rw [hkv] at er
        cases er
        refine ⟨rfl, _, rfl, q', _, _, .int ((Tb[i].1.2 : Nat) : Int), rfl, rfl, .of hq', rfl, _, h1, ?_, ?_, ?_⟩
        · rw [List.length_map, List.length_map]
          exact small1000 (by have := List.length_take_le i Tb; have := r6.len; omega)
        · rw [upd_same, List.take_add_one, eT, List.map_append, List.map_append]
          rfl
        · exact Same.put s0 hD
      · rintro H1 ⟨h1, s0⟩
        rw [sh.rs.len, List.take_length] at h1
        refine ⟨s0 _ _ upd_same, D, Tb.map fun e => ((e.1.2 : Nat) : Int), .int 0, rfl, rfl, .of ((upd_ne hDL).trans h1), ?_, ?_⟩
        · intro z
          have eT : Tb = [] := List.map_eq_nil_iff.mp z
          have S2 := st gL s0
          exact ⟨_, y, m, 0, rfl, NumV.same (n2.same Sa) S2, oy, (by omega), (by decide), fun l rs H2 h2 rr _ s2 => have S3 := S2.trans s2; have LE := (fun e he => absurd (eT ▸ he) List.not_mem_nil : ∀ e ∈ Tb, e.1.2 ≤ 0); ⟨_, _, _, rfl, h2, rr, LE, S3⟩⟩
        · intro mx hmx hle
          obtain ⟨e, he, rfl⟩ := List.mem_map.mp hmx
          have S2 := st gL s0
          exact ⟨_, y, m, e.1.2, rfl, NumV.same (n2.same Sa) S2, oy, (by omega), (r6.p1 e he), fun l rs H2 h2 rr _ s2 => have S3 := S2.trans s2; have LE := (fun f hf => Int.ofNat_le.mp (hle _ (List.mem_map.mpr ⟨f, hf, rfl⟩)) : ∀ f ∈ Tb, f.1.2 ≤ e.1.2); ⟨_, _, _, rfl, h2, rr, LE, S3⟩⟩
    rintro σ Hb ⟨l2, rs2, ky, rfl, hl2, ry, ly, Sb⟩
    have Sab := Sa.trans Sb
    have hl1b := Sb _ _ hl1
    have rxb := rx.same Sb
    clear rx gL gc
    refine fun z dz nz nd ne => rat_made (t := 0) (b := 1) rfl nz nd (by decide) (Bd.of (m := 1) (by decide) (by decide +kernel)) fun Hc rz s1 => ?_
    rw [(n_one 0).1, (n_one 0).2] at rz
    have hcc := (Sab.trans s1) _ _ hc
    refine ⟨_, rfl, c, dx, _, rfl, hcc, sf_no L (by decide +kernel), c, L, kvs, Tb, rfl, sh0.same (Sab.trans s1), Nat.le_trans r6.len (by decide), fun l ts Hd hl rt _ s2 => ?_⟩
    have Sd := (Sab.trans s1).trans s2
    refine ⟨l, rfl, ⟨_, .of hl⟩, for_list (xs := ts.map V.ref) (fun i σ H' => ∃ (t : Addr) (x6 x7 x8 : Option V), σ = [some (.ref c), some y1, some y2, some (.ref l1), some (.ref l2), some (.ref t), x6, x7, x8, none] ∧ RatAt CR H' t (vS x y (Tb.take i)).1 (vS x y (Tb.take i)).2 ∧ Same Hd H') ⟨z, none, none, none, rfl, rz.same s2, fun _ _ e => e⟩ (fun i σ H' _ ⟨_, _, _, _, _, _, sx⟩ => .of (sx _ _ hl)) ?_ ?_⟩
    · rintro i v σ He hv ⟨t, x6, x7, x8, rfl, rt1, se⟩
      obtain ⟨u, eu, rfl⟩ := map_of hv
      have hi := (List.getElem?_eq_some_iff.mp hv).1
      rw [List.length_map, rt.len] at hi
      have eT : Tb[i]? = some Tb[i] := List.getElem?_eq_getElem hi
      have hm1 := List.getElem_mem hi
      obtain ⟨r, hu, hr'⟩ := (rt.same se).at_ i u _ eu eT
      have o1 := (vS_ok ox oy r6 i (by omega)).1
      have ow := r6.ok _ hm1
      have p0 := r6.p0 _ hm1
      have p1 := r6.p1 _ hm1
      have k0 := lx _ hm1
      have k1 := ly _ hm1
      have len6 := r6.len
      rw [vS_take eT]
      generalize Tb[i] = e at eT hm1 hu hr' ow p0 p1 k0 k1
      have px := pwr_ok ox e.1.1
      have py := pwr_ok oy e.1.2
      have jx := Nat.mul_le_mul p0 hm
      have jy := Nat.mul_le_mul p1 hm
      have tk := term_ok ox oy ow p0 p1
      have ji := Nat.mul_le_mul (show i ≤ 6 by omega) (show n + 6 * m + 3 ≤ 223 by omega)
      have se2 := (s1.trans s2).trans se
      have q1 := se2 _ _ (Sb _ _ hl1)
      have q2 := se2 _ _ hl2
      obtain ⟨a1, ea1, ra1⟩ : ∃ a1, rs1[e.1.1]? = some a1 ∧ RatAt CR He a1 (pwr x e.1.1).1 (pwr x e.1.1).2 := by
        have lr := rxb.len
        rw [List.length_map, List.length_range] at lr
        have : e.1.1 < rs1.length := by omega
        exact ⟨_, List.getElem?_eq_getElem this, (rxb.same se2).at_ e.1.1 _ (pwr x e.1.1) (List.getElem?_eq_getElem this) (by rw [List.getElem?_map, List.getElem?_range (by omega)]; rfl)⟩
      obtain ⟨a2, ea2, ra2⟩ : ∃ a2, rs2[e.1.2]? = some a2 ∧ RatAt CR He a2 (pwr y e.1.2).1 (pwr y e.1.2).2 := by
        have lr := ry.len
        rw [List.length_map, List.length_range] at lr
        have : e.1.2 < rs2.length := by omega
        exact ⟨_, List.getElem?_eq_getElem this, (ry.same se2).at_ e.1.2 _ (pwr y e.1.2) (List.getElem?_eq_getElem this) (by rw [List.getElem?_map, List.getElem?_range (by omega)]; rfl)⟩
      refine ⟨u, _, rfl, SqT.of hu, rfl, _, _, rfl, _, _, rfl, _, _, rfl, rfl, ?_⟩
      refine ⟨_, rfl, _, rfl, _, rfl, _, rfl, l1, _, _, .ref a1, rfl, rfl, .of q1, ?_, ?_⟩
      · exact atI_nat (map_at ea1)
      refine mul_R T hr' ra1 ow px (by omega) (by omega) fun b1 H1 rb1 t1 => ?_
      refine ⟨_, rfl, _, rfl, l2, _, _, .ref a2, rfl, rfl, .of (t1 _ _ q2), ?_, ?_⟩
      · exact atI_nat (map_at ea2)
      refine mul_R T rb1 (ra2.same t1) (ow.cr px) py (by omega) (by omega) fun b2 H2 rb2 t2 => ?_
      refine add_R T (rt1.same (t1.trans t2)) rb2 o1 tk (by omega) (by omega) fun b3 H3 rb3 t3 => ?_
      exact ⟨b3, _, _, _, rfl, rb3, ((se.trans t1).trans t2).trans t3⟩
    · rintro σ He ⟨t, x6, x7, x8, rfl, rt1, se⟩
      rw [List.length_map, rt.len, List.take_length] at rt1
      exact ⟨_, rfl, q t He rt1 (Sd.trans se)⟩
end
end K37

set_option Elab.async false
set_option linter.all false
set_option maxRecDepth 100000
set_option maxHeartbeats 4000000
set_option pp.maxSteps 700
namespace K37
open PySem PySem.Spec PyProof.Rows L2 Ux
/-- two fractions compared -/
def RQ (CR : Addr) : Bool → Addr → Addr → Hp → Prop := fun r a b H => ∃ p q : PQ, RatAt CR H a p.1 p.2 ∧ RatAt CR H b q.1 q.2 ∧ r = decide (p = q)
theorem rat_uniq {CR : Addr} {H : Hp} {a : Addr} {p q : PQ} (h : RatAt CR H a p.1 p.2) (h2 : RatAt CR H a q.1 q.2) : p = q := by
  obtain ⟨dx, e⟩ := h
  obtain ⟨dy, e2⟩ := h2
  rw [e] at e2
  have z := (HO.ins.inj (Option.some.inj e2)).2.2
  have t := congrArg (fun l => l.lookup (Str.ofString "top")) z
  have b := congrArg (fun l => l.lookup (Str.ofString "bottom")) z
  rw [rf_top, rf_top] at t
  rw [rf_bot, rf_bot] at b
  exact Prod.ext (V.int.inj (Option.some.inj t)) (V.int.inj (Option.some.inj b))
theorem rq_mon (CR : Addr) : MonB (DInsB CR (RQ CR)) := fun b x y H H' e ⟨a, c, dx, dy, fs, gs, e1, e2, h1, h2, ⟨p, q, r1, r2, er⟩, k⟩ =>
  ⟨a, c, dx, dy, fs, gs, e1, e2, e _ _ h1, e _ _ h2, ⟨p, q, RatAt.same r1 e, RatAt.same r2 e, er⟩, k⟩
section
variable {P : Program} {w : World} {K : PySem.W.Frag} {mg : Str → Option Value} {base : Heap} {CR CC CI fI : Addr}
theorem req_eqB {k : Nat} {f : Addr} {fd : FuncData} {ps : List Str} (G : FnOk P w K mg base CX0 k f fd ps (spREq CR)) : FnOk P w K mg base CX0 k f fd ps (spEqB (RQ CR)) := G.imp fun vs H Q E ⟨r, a, b, e, ⟨p, q, h1, h2, er⟩, k⟩ =>
  ⟨a, b, _, _, _, _, e, h1, h2, by
    have : (decide (p.1 = q.1) && decide (p.2 = q.2)) = r := by
      rw [er, Bool.eq_iff_iff]
      simp [Prod.ext_iff]
    rw [this]
    exact k H Ext.rfl'⟩
theorem hits {H : Hp} {ls : List (List L2.Key × V)} {U : RW} (hu : TbAt (RatP CR) H ls U) : ∀ {ks : List (List L2.Key × V)} {T : RW}, TbAt (RatP CR) H ks T → HitsT (DInsB CR (RQ CR)) H ls ks (hb U T) := by
  intro ks T h
  unfold TbAt at h
  induction h with
  | nil => exact .nil
  | @cons p e ps es r t ih =>
    obtain ⟨k, v⟩ := p
    obtain ⟨rfl, a, rfl, ha⟩ := r
    show HitsT _ _ _ _ (match vAt U e.1 with | none => false | some q => decide (e.2 = q) && hb U es)
    rcases hu.val e.1 with ⟨h1, h2⟩ | ⟨q, a2, h1, h2, ha2⟩
    · rw [h1]
      exact .miss h2
    · rw [h1]
      refine .hit h2 ?_ ih
      obtain ⟨dx, e1⟩ := id ha
      obtain ⟨dy, e2⟩ := id ha2
      exact ⟨a, a2, dx, dy, _, _, rfl, rfl, e1, e2, ⟨e.2, q, ha, ha2, rfl⟩, fun z => by subst z; exact decide_eq_true (rat_uniq ha ha2)⟩
def spSEq (CC CR : Addr) : Sp := fun vs H Q _ => ∃ (c L : Addr) (y : V) (kvs : List (List L2.Key × V)) (T : RW), vs = [.ref c, y] ∧ ShAt CC CR H c L kvs T ∧ (T.Pairwise fun a b => ltK a.1 b.1) ∧
  ((∃ (c' L' : Addr) (kv' : List (List L2.Key × V)) (U : RW), y = .ref c' ∧ ShAt CC CR H c' L' kv' U ∧ (U.Pairwise fun a b => ltK a.1 b.1) ∧ L ≠ L' ∧ ∀ H', Same H H' → Q (.bl (decide (T = U))) H') ∨ ∃ z, y = .str z ∧ Q (.bl false) H)
theorem scSEq : FnScope ["self", "other"] ["self", "other"] (defScope sSEq) := ⟨rfl, rfl, rfl, by decide +kernel, rfl, by decide +kernel, by decide +kernel⟩
theorem ok_seq {f fE : Addr} {fd fdE : FuncData} (F : Fun K "__eq__" "Sheet.__eq__" sSEq f fd) (B : Bn mg) (C : CT K mg CC) (T : RT K mg CR) (ME : OwnM K CR "__eq__" fE) (GE : FnOk P w K mg base CX0 2 fE fdE ["self", "other"] (spREq CR)) (bE : Binds K fdE ["self", "other"] []) : FnOk P w K mg base CX0 5 f fd ["self", "other"] (spSEq CC CR) := by
  refine F.ok scSEq (fun vs H Q E h => ?_) (fun cdv A outer s H vs Q E hr h => ?_)
  · obtain ⟨c, L, y, kvs, T, rfl, _⟩ := h
    rfl
  · obtain ⟨c, L, y, kvs, Tb, rfl, sh, st, h⟩ := h
    have r3 : Room 3 _ := hr.mono (by decide)
    refine ⟨_, pss_one (ps_ret (pe_and (pe_callB call_isi (by rfl) B.isin (by decide +kernel) (pa_cons (pv 1) (pa_cons (pe_glob (v := .ref CC) (by rfl) C.gl rfl) pa_nil))) (pe_one (pe_lock (pe_lock (pe_cmpR (op_eqDT (rq_mon CR) (rcB_ins (CX := CX0) (E := E0) (req_eqB GE) ME.at_ ME.fn bE pass0) r3) (pe_fld (pv 0) rfl) (pe_fld (pv 1) rfl) (nomark _))))))), ?_⟩
    obtain ⟨dx, hc⟩ := sh.at_
    have hL := sh.tb
    rcases h with ⟨c', L', kv', U, rfl, sh2, su, ne, q⟩ | ⟨z, rfl, q⟩
    · obtain ⟨dy, hc2⟩ := sh2.at_
      have hL2 := sh2.tb
      refine ⟨_, rfl, _, _, _, _, true, rfl, .own _, .base (.ins hc2 C.cl C.ha C.hn C.ht C.hm), C.kC, true, rfl, iteT ?_⟩
      refine ⟨L, _, hL, True.intro, fun od => ⟨L', _, (upd_ne ne.symm).trans hL2, True.intro, fun od2 => ?_⟩⟩
      have mv : ∀ b o, H b = some o → (∀ ks, o ≠ .dT ks) → upd (upd H L (.frz od (.dT kvs))) L' (.frz od2 (.dT kv')) b = some o := fun b o e ne => by
        rw [upd_ne (fun z => by rw [z, hL2] at e; exact ne _ (Option.some.inj e).symm), upd_ne (fun z => by rw [z, hL] at e; exact ne _ (Option.some.inj e).symm)]
        exact e
      have mr : ∀ r p, RatP CR H r p → RatP CR (upd (upd H L (.frz od (.dT kvs))) L' (.frz od2 (.dT kv'))) r p := fun r p ⟨dr, e⟩ => ⟨dr, mv _ _ e fun ks z => by cases z⟩
      have aL : upd (upd H L (.frz od (.dT kvs))) L' (.frz od2 (.dT kv')) L = some (.frz od (.dT kvs)) := (upd_ne ne).trans upd_same
      have aL2 : upd (upd H L (.frz od (.dT kvs))) L' (.frz od2 (.dT kv')) L' = some (.frz od2 (.dT kv')) := upd_same
      refine ⟨_, rfl, c, CC, dx, _, _, rfl, mv _ _ hc (fun ks z => by cases z), C.cl, C.nT, sf_t L, _, rfl, c', CC, dy, _, _, rfl, mv _ _ hc2 (fun ks z => by cases z), C.cl, C.nT, sf_t L', ?_⟩
      refine ⟨L, L', od, od2, kvs, kv', hb U Tb, rfl, rfl, aL, aL2, fun _ => hits (sh2.rs.mono mr) (sh.rs.mono mr), fun H' ex => ?_⟩
      rw [sh.rs.len, sh2.rs.len, hb_dec st su]
      refine ⟨ex _ _ aL2, (upd_ne ne).trans (ex _ _ aL), q _ fun x o e => ?_⟩
      by_cases z1 : x = L
      · subst z1
        rw [upd_same, ← e, hL]
      · rw [upd_ne z1]
        by_cases z2 : x = L'
        · subst z2
          rw [upd_same, ← e, hL2]
        · rw [upd_ne z2]
          exact ex _ _ ((upd_ne z2).trans ((upd_ne z1).trans e))
    · exact ⟨_, rfl, _, _, _, _, false, rfl, .own _, .base (.str _), C.kS, false, rfl, iteF q⟩
end
end K37

set_option Elab.async false
set_option linter.all false
set_option maxRecDepth 100000
set_option maxHeartbeats 4000000
set_option pp.maxSteps 700
namespace K37
open PySem PySem.Spec PyProof.Rows L2 Ux
def intS (k : Nat) : Str := toString ((k : Nat) : Int)
def rowS (e : KY × PQ) : Str := intS e.1.1 ++ " " ++ intS e.1.2 ++ " " ++ ctext e.2.1 e.2.2
def tabS (T : RW) : Str := Txt.join ", " (T.map rowS)
theorem intS_len {k : Nat} (h : k ≤ 3) : (intS k).length ≤ 1 := by
  have : k = 0 ∨ k = 1 ∨ k = 2 ∨ k = 3 := by omega
  rcases this with rfl | rfl | rfl | rfl <;> decide +kernel
theorem sp_len : (Str.ofString " ").length ≤ 1 := by decide
theorem rowS_len {n : Nat} {e : KY × PQ} (h0 : e.1.1 ≤ 3) (h1 : e.1.2 ≤ 3) (h : Ok n e.2) (hn : n ≤ 33) : (rowS e).length ≤ 40 := by
  unfold rowS
  exact Nat.le_trans (app_len (app_len (app_len (app_len (intS_len h0) sp_len) (intS_len h1)) sp_len) (ctext_len (w10_of h.t hn) (w10_of h.b hn))) (by decide)
theorem rows_le {n : Nat} {T : RW} (h : Rws n T) (hn : n ≤ 33) : ∀ y ∈ T.map rowS, y.length ≤ 40 := fun y hy => by
  obtain ⟨e, he, rfl⟩ := List.mem_map.mp hy
  exact rowS_len (h.p0 e he) (h.p1 e he) (h.ok e he) hn
theorem tabS_sum {n : Nat} {T : RW} (h : Rws n T) (hn : n ≤ 33) : ((T.map rowS).map (·.length)).sum + T.length * (Str.ofString ", ").length ≤ 300 := by
  have h2 := sum_le 40 _ (rows_le h hn)
  rw [List.length_map] at h2
  have l := h.len
  have h3 : (Str.ofString ", ").length = 2 := by decide
  rw [h3]
  omega
theorem tabS_len {n : Nat} {T : RW} (h : Rws n T) (hn : n ≤ 33) : (tabS T).length ≤ 300 := by
  unfold tabS
  have e0 : Txt.join ", " (T.map rowS) = Str.join ", " (T.map rowS) := StrLaws.glued_eq_join _ _
  rw [e0]
  have h1 := join_len ", " (T.map rowS)
  rw [List.length_map] at h1
  exact Nat.le_trans h1 (tabS_sum h hn)
def spSStr (CC CR : Addr) (f : RW → Str) : Sp := fun vs H Q _ => ∃ (c L : Addr) (kvs : List (List L2.Key × V)) (T : RW) (n : Nat), vs = [.ref c] ∧ ShAt CC CR H c L kvs T ∧ Rws n T ∧ n ≤ 33 ∧ ∀ H', Same H H' → Q (.str (f T)) H'
section
variable {P : Program} {w : World} {K : PySem.W.Frag} {mg : Str → Option Value} {base : Heap} {CR CC CI fI : Addr}
abbrev nSSt : List Str := ["self", "one", "other", "worth"]
theorem scSSt : FnScope nSSt ["self"] (defScope sSSt) := ⟨rfl, rfl, rfl, by decide +kernel, rfl, by decide +kernel, by decide +kernel⟩
theorem small_log {k : Nat} (h : k ≤ 3) : ((k : Nat) : Int).natAbs.log2 < 1920 := by
  have : k = 0 ∨ k = 1 ∨ k = 2 ∨ k = 3 := by omega
  rcases this with rfl | rfl | rfl | rfl <;> decide +kernel
theorem ok_sst {f fT fS : Addr} {fd fdT fdS : FuncData} (F : Fun K "__str__" "Sheet.__str__" sSSt f fd) (B : Bn mg) (C : CT K mg CC) (MT : Meth K CC "told_rows" fT) (GT : FnOk P w K mg base CX0 1 fT fdT ["self"] (spSTo CC CR)) (bT : Binds K fdT ["self"] [])
    (MS : OwnM K CR "__str__" fS) (NF : FmO K CR) (GS : FnOk P w K mg base CX0 3 fS fdS ["self"] (spRatText CR)) (bS : Binds K fdS ["self"] []) : FnOk P w K mg base CX0 6 f fd ["self"] (spSStr CC CR tabS) := by
  refine F.ok scSSt (fun vs H Q E h => ?_) (fun cdv A outer s H vs Q E hr h => ?_)
  · obtain ⟨c, L, kvs, T, n, rfl, _⟩ := h
    rfl
  · obtain ⟨c, L, kvs, T, n, rfl, sh, r6, hn, q⟩ := h
    have r1 : Room 1 _ := hr.mono (by decide)
    have r4 : Room 4 _ := hr.mono (by decide)
    refine ⟨_, pss_one (ps_ret (pe_join pe_str (pe_lc (own := [("one", 1), ("other", 2), ("worth", 3)]) (g := gTup K 3 (gCons (gName 1) (gCons (gName 2) (gCons (gName 3) gNil)))) rfl scSSt.nd (pi_list (pe_meth0 (E := E0) (pv 0) C.cl MT GT r1 bT .nil pass0)) (blkOk_by (own := [("one", 1), ("other", 2), ("worth", 3)]) (N := nSSt) (sc := defScope sSSt) (by decide +kernel))
      (fun _ _ _ _ _ => pg_tup (n := 3) rfl (pgs_cons (pg_name (i := 1) scSSt.nd rfl (Or.inl rfl) (hf := Or.inr rfl)) (pgs_cons (pg_name (i := 2) scSSt.nd rfl (Or.inl rfl) (hf := Or.inr rfl)) (pgs_cons (pg_name (i := 3) scSSt.nd rfl (Or.inl rfl) (hf := Or.inr rfl)) pgs_nil))))
      (fun _ _ _ _ _ => pts_nil) (fun _ _ _ _ _ => pe_joined (PJ.cons (pe_fmt (pv 1)) (PJ.cons pe_str (PJ.cons (pe_fmt (pv 2)) (PJ.cons pe_str (PJ.cons (pe_fmtO MS NF GS bS r4 (pv 3)) PJ.nil))))))))), ?_⟩
    obtain ⟨dx, hc⟩ := id sh.at_
    refine ⟨⟨_, rfl⟩, _, rfl, c, dx, _, rfl, hc, sf_no L (by decide +kernel), c, L, kvs, T, rfl, sh, Nat.le_trans r6.len (by decide), fun l ts H1 hl rt _ s1 => ⟨l, rfl, ⟨_, .of hl⟩, fun D hD => ?_⟩⟩
    refine lc_it (te := fun σ H Q => tJs [tFmt (tVar 1), tC (V.str " "), tFmt (tVar 2), tC (V.str " "), tFmtO CR (spRatText CR) (tVar 3)] Str.empty σ H fun out H1 => Q (V.str out) H1) (walk_list (K := K) (a := l) (xs := ts.map V.ref)) (fun i H' => H' D = some (.lst (((T.take i).map rowS).map V.str)) ∧ Same H1 H') ⟨by rw [List.take_zero]; exact upd_same, same_upd hD⟩ (fun i H' _ ⟨_, sx⟩ => .of (sx _ _ hl)) ?_ ?_
    · rintro i x H0 _ hi ⟨h1, s2⟩ ⟨rfl, hx⟩
      rw [List.length_map, rt.len] at hi
      obtain ⟨t, et, rfl⟩ := map_of hx
      have eT : T[i]? = some T[i] := List.getElem?_eq_getElem hi
      have hm := List.getElem_mem hi
      have p0 := r6.p0 _ hm
      have p1 := r6.p1 _ hm
      have ow := r6.ok _ hm
      obtain ⟨r, ht, hr'⟩ := (rt.same s2).at_ i t _ et eT
      generalize T[i] = e at eT hm p0 p1 ow ht hr'
      obtain ⟨dr, hr3⟩ := id hr'
      have l0 : Str.empty.length ≤ 0 := by decide
      have l1 := intS_len p0
      have l2 := intS_len p1
      have l3 := ctext_len (w10_of ow.t hn) (w10_of ow.b hn)
      refine ⟨t, _, rfl, SqT.of ht, rfl, _, _, rfl, _, _, rfl, _, _, rfl, rfl, ?_⟩
      refine ⟨rfl, _, rfl, .inr ⟨_, rfl, small_log p0, intS e.1.1, rfl, fit2 (app_len l0 l1) (by decide), " ", rfl, fit2 (app_len (app_len l0 l1) sp_len) (by decide), _, rfl, .inr ⟨_, rfl, small_log p1, intS e.1.2, rfl, fit2 (app_len (app_len (app_len l0 l1) sp_len) l2) (by decide), " ", rfl, fit2 (app_len (app_len (app_len (app_len l0 l1) sp_len) l2) sp_len) (by decide), ?_⟩⟩⟩
      refine ⟨_, rfl, r, dr, _, rfl, hr3, r, _, _, rfl, hr', w10_of ow.t hn, w10_of ow.b hn, fun H2 s3 => ⟨_, rfl, _, rfl, fit2 (app_len (app_len (app_len (app_len (app_len l0 l1) sp_len) l2) sp_len) l3) (by decide), _, s3 _ _ h1, ?_, ?_, Same.put (s2.trans s3) hD⟩⟩
      · rw [List.length_map, List.length_map]
        exact small1000 (by have := List.length_take_le i T; have := r6.len; omega)
      · rw [upd_same, List.take_add_one, eT, List.map_append, List.map_append, empty_app]
        rfl
    · rintro H2 ⟨h1, s2⟩
      rw [List.length_map, rt.len, List.take_length] at h1
      refine ⟨_, D, _, rfl, rfl, .inl (.of h1), ?_, q H2 (s1.trans s2)⟩
      have := tabS_sum r6 hn
      rw [List.length_map]
      exact fit2 this (by decide)
theorem scSRe : FnScope ["self"] ["self"] (defScope sSRe) := ⟨rfl, rfl, rfl, by decide +kernel, rfl, by decide +kernel, by decide +kernel⟩
theorem ok_sre {f fS : Addr} {fd fdS : FuncData} (F : Fun K "__repr__" "Sheet.__repr__" sSRe f fd) (M : OwnM K CC "__str__" fS) (N : FmO K CC) (G : FnOk P w K mg base CX0 6 fS fdS ["self"] (spSStr CC CR tabS)) (bS : Binds K fdS ["self"] []) : FnOk P w K mg base CX0 8 f fd ["self"] (spSStr CC CR fun T => "Sheet(" ++ tabS T ++ ")") := by
  refine F.ok scSRe (fun vs H Q E h => ?_) (fun cdv A outer s H vs Q E hr h => ?_)
  · obtain ⟨c, L, kvs, T, n, rfl, _⟩ := h
    rfl
  · obtain ⟨c, L, kvs, T, n, rfl, sh, r6, hn, q⟩ := h
    obtain ⟨dx, hc⟩ := id sh.at_
    refine ⟨_, pss_one (ps_ret (pe_joined (PJ.cons pe_str (PJ.cons (pe_fmtO (X := Cx.nox _) M N G bS hr (pv 0)) (PJ.cons pe_str PJ.nil))))), ?_⟩
    have l1 : (Str.ofString "Sheet(").length ≤ 6 := by decide
    have l2 : (Str.ofString ")").length ≤ 1 := by decide
    have l0 : Str.empty.length ≤ 0 := by decide
    have lc := tabS_len r6 hn
    refine ⟨_, rfl, fit2 (app_len l0 l1) (by decide), _, rfl, c, dx, _, rfl, hc, c, L, kvs, T, n, rfl, sh, r6, hn, fun H1 s1 => ⟨_, rfl, _, rfl, fit2 (app_len (app_len l0 l1) lc) (by decide), _, rfl, fit2 (app_len (app_len (app_len l0 l1) lc) l2) (by decide), ?_⟩⟩
    rw [empty_app]
    exact q H1 s1
end
end K37

set_option Elab.async false
set_option linter.all false
set_option maxRecDepth 100000
set_option maxHeartbeats 4000000
set_option pp.maxSteps 700
namespace K37
open PySem PySem.Spec PyProof.Rows L2 Ux
abbrev sPow : Stmt := top 44
abbrev sLSh : Stmt := top 45
abbrev DtP : Hp → Addr → PQ → Prop := fun H d p => DAt H d (some p)
theorem DAt.keep {H H' : Hp} {d : Addr} (k : ∀ b o, H b = some o → (∀ xs, o ≠ .lst xs) → H' b = some o) : ∀ {o : Option PQ}, DAt H d o → DAt H' d o
  | none, h => k _ _ h fun xs z => by cases z
  | some p, ⟨t, h1, h2⟩ => ⟨t, k _ _ h1 (fun xs z => by cases z), k _ _ h2 (fun xs z => by cases z)⟩
theorem DtK {H H' : Hp} {ds : List Addr} {ps : List PQ} (h : LsAt DtP H ds ps) (k : ∀ b o, H b = some o → (∀ xs, o ≠ .lst xs) → H' b = some o) : LsAt DtP H' ds ps := ⟨h.len, fun i r p a b => DAt.keep k (h.at_ i r p a b)⟩
theorem DtS {H H' : Hp} {ds : List Addr} {ps : List PQ} (h : LsAt DtP H ds ps) (s : Same H H') : LsAt DtP H' ds ps := DtK h fun b o e _ => s b o e
/-- rows of a law -/
structure RowsL (H : Hp) (ts : List Addr) (rows : RW) : Prop where
  len : ts.length = rows.length
  at_ : ∀ (i : Nat) (t : Addr) (e : KY × PQ), ts[i]? = some t → rows[i]? = some e → ∃ r, H t = some (.tup [.int (e.1.1 : Nat), .int (e.1.2 : Nat), .ref r]) ∧ TupI H r e.2.1 e.2.2
theorem RowsL.keep {H H' : Hp} {ts : List Addr} {rows : RW} (h : RowsL H ts rows) (k : ∀ b xs, H b = some (.tup xs) → H' b = some (.tup xs)) : RowsL H' ts rows :=
  ⟨h.len, fun i t e a b => let ⟨r, h1, h2⟩ := h.at_ i t e a b; ⟨r, k _ _ h1, k _ _ h2⟩⟩
theorem RowsL.same {H H' : Hp} {ts : List Addr} {rows : RW} (h : RowsL H ts rows) (s : Same H H') : RowsL H' ts rows := h.keep fun b xs e => s _ _ e
def spLPow : Sp := fun vs H Q _ => ∃ (d : Addr) (x : PQ) (m k : Nat), vs = [.ref d, .int (k : Nat)] ∧ DAt H d (some x) ∧ Ok m x ∧ m ≤ 100 ∧ k ≤ 3 ∧
  ∀ (l : Addr) (ds : List Addr) (H' : Hp), H' l = some (.lst (ds.map V.ref)) → LsAt DtP H' ds ((List.range (k + 1)).map (pwr x)) → H l = none → Same H H' → Q (.ref l) H'
def spLSh (K : PySem.W.Frag) : Sp := fun vs H Q _ => ∃ (l o d1 d2 : Addr) (ts : List Addr) (rows : RW) (a b : Nat) (x y : PQ) (n m : Nat), vs = [.ref l, .ref o, .ref d1, .ref d2] ∧ SqL K H l (ts.map V.ref) ∧ RowsL H ts rows ∧ Rws n rows ∧ H o = some (.tup [.int (a : Nat), .int (b : Nat)]) ∧ a ≤ 1 ∧ b ≤ 1 ∧ DAt H d1 (some x) ∧ DAt H d2 (some y) ∧ Ok m x ∧ Ok m y ∧ n ≤ 20 ∧ m ≤ 20 ∧
  ∀ (d : Addr) (H' : Hp), DAt H' d (lv a b x y rows) → Same H H' → Q (.ref d) H'
theorem max_of {rows : RW} {f : KY → Nat} (h : ∀ e ∈ rows, f e.1 ≤ 3) {m : Int} (hm : m ∈ (0 : Int) :: rows.map fun e => ((f e.1 : Nat) : Int)) (hle : ∀ y, y ∈ ((0 : Int) :: rows.map fun e => ((f e.1 : Nat) : Int)) → y ≤ m) : ∃ k : Nat, m = k ∧ k ≤ 3 ∧ ∀ e ∈ rows, f e.1 ≤ k := by
  have hk : ∃ k : Nat, m = k ∧ k ≤ 3 := by
    rcases List.mem_cons.mp hm with rfl | hm
    · exact ⟨0, rfl, by decide⟩
    · obtain ⟨e, he, rfl⟩ := List.mem_map.mp hm
      exact ⟨_, rfl, h e he⟩
  obtain ⟨k, rfl, k3⟩ := hk
  exact ⟨k, rfl, k3, fun e he => Int.ofNat_le.mp (hle _ (List.mem_cons_of_mem _ (List.mem_map.mpr ⟨e, he, rfl⟩)))⟩
section
variable {P : Program} {w : World} {K : PySem.W.Frag} {mg : Str → Option Value} {base : Heap}
theorem scPow : FnScope ["_law_place", "_law_many", "_law_found", "_law_k"] ["_law_place", "_law_many"] (defScope sPow) := ⟨rfl, rfl, rfl, by decide +kernel, rfl, by decide +kernel, by decide +kernel⟩
theorem ok_lpow {f fT : Addr} {fd fdT : FuncData} (F : Fun K "_law_powers" "_law_powers" sPow f fd) (B : Bn mg) (DT : Dn K mg "_law_times" fT) (GT : FnOk P w K mg base CX0 3 fT fdT ["_law_one", "_law_other"] spTimes) (bT : Binds K fdT ["_law_one", "_law_other"] []) : FnOk P w K mg base CX0 4 f fd ["_law_place", "_law_many"] spLPow := by
  refine F.ok scPow (fun vs H Q E h => ?_) (fun cdv A outer s H vs Q E hr h => ?_)
  · obtain ⟨d, x, m, k, rfl, _⟩ := h
    rfl
  · obtain ⟨d, x, m, k, rfl, hd, ox, hm, hk, q⟩ := h
    refine ⟨_, pss_cons (ps_set (i := 2) scPow.nd rfl (Or.inl rfl) (pe_lst (pa_cons (pe_disp1 hr.units0 (pe_tup pa_nil) (pe_tup (pa_cons pe_int (pa_cons pe_int pa_nil)))) pa_nil)))
      (pss_cons (ps_for PassesOwn.never rfl (pi_range1 rfl B.frange (pa_cons (pv 1) pa_nil)) (pg_name (i := 3) scPow.nd rfl (Or.inl rfl))
        (pss_one (ps_expr (pe_bm PySem.F.plainAttrs_list PySem.F.slot_list_append PySem.F.type_list_append mt_append (pv 2) (pa_cons (pe_call GT hr (by rfl) DT.gl DT.kp bT .nil pass0 (pa_cons (pe_ix ix_list (pv 2) (pv 3) (fun _ _ => rfl)) (pa_cons (pv 0) pa_nil))) pa_nil)))))
      (pss_one (ps_ret (pv 2)))), ?_⟩
    refine fun p1 hp1 => ⟨Nat.zero_le _, fun p2 hp2 => ⟨(by show 2 ≤ sizeLine; decide), fun p3 hp3 => ?_⟩⟩
    have sA := (same_upd (o := .dT []) hp1).trans (same_upd (o := .tup []) hp2)
    have sB := same_upd (o := .tup [V.int 1, .int 1]) hp3
    have h1 : upd (upd (upd H p1 (.dT [])) p2 (.tup [])) p3 (.tup [V.int 1, .int 1]) p1 = some (.dT []) := sB _ _ (same_upd hp2 _ _ upd_same)
    have h2 : upd (upd (upd H p1 (.dT [])) p2 (.tup [])) p3 (.tup [V.int 1, .int 1]) p2 = some (.tup []) := sB _ _ upd_same
    have h3 : upd (upd (upd H p1 (.dT [])) p2 (.tup [])) p3 (.tup [V.int 1, .int 1]) p3 = some (.tup [V.int 1, .int 1]) := upd_same
    have sC := sA.trans sB
    generalize upd (upd (upd H p1 (.dT [])) p2 (.tup [])) p3 (.tup [V.int 1, .int 1]) = H1 at h1 h2 h3 sC
    clear sA sB hp2 hp3
    refine ⟨h1, p2, [], rfl, h2, ?_⟩
    have n31 : p3 ≠ p1 := fun z => by rw [z, h1] at h3; cases h3
    have s2 : Same H (upd H1 p1 (.dT [([], .ref p3)])) := Same.put sC hp1
    have d1 : DAt (upd H1 p1 (.dT [([], .ref p3)])) p1 (some (1, 1)) := ⟨p3, upd_same, (upd_ne n31).trans h3⟩
    generalize upd H1 p1 (.dT [([], .ref p3)]) = H2 at s2 d1
    refine ⟨(by show 1 ≤ sizeLine; decide), fun l hl => ?_⟩
    have s3 := same_upd (o := .lst [V.ref p1]) hl
    have hl0 : H l = none := none_of hl s2
    refine ⟨_, rfl, _, rfl, by omega, by omega, ?_⟩
    rw [Int.toNat_natCast]
    refine for_range (fun i σ H' => ∃ (us : List Addr) (x3 : Option V), σ = [some (.ref d), some (.int (k : Nat)), some (.ref l), x3] ∧ H' l = some (.lst (us.map V.ref)) ∧ LsAt DtP H' us ((List.range (i + 1)).map (pwr x)) ∧ Same H H') ⟨[p1], none, rfl, upd_same, LsAt.one (d1.same s3), s2.trans s3⟩ ?_ ?_
    · rintro j σ H3 hj ⟨us, x3, rfl, h2, ru, sm⟩
      have lu : us.length = j + 1 := by rw [ru.len, List.length_map, List.length_range]
      have ej : us[j]? = some us[j] := List.getElem?_eq_getElem (by omega)
      have rr : DAt H3 us[j] (some (pwr x j)) := ru.at_ j _ (pwr x j) ej (by rw [List.getElem?_map, List.getElem?_range (by omega)]; rfl)
      have op := pwr_ok ox j
      have jm := Nat.mul_le_mul (show j ≤ 3 by omega) hm
      refine ⟨_, rfl, .inl ⟨rfl, _, SqL.of h2⟩, _, rfl, _, rfl, l, _, (j : Int), .ref us[j], rfl, by rw [Int.zero_add], .of h2, atI_nat (map_at ej), _, rfl, us[j], d, some (pwr x j), x, _, m, rfl, rr, hd.same sm, fun p e => by cases Option.some.inj e; exact op, ox, by omega, fun e1 H4 de ne s4 => ?_⟩
      refine ⟨l, _, _, rfl, rfl, s4 _ _ h2, ?_, us ++ [e1], _, rfl, by rw [upd_same, List.map_append]; rfl, ?_, Same.put (sm.trans s4) hl0⟩
      · rw [List.length_map, lu]
        exact small1000 (by omega)
      · rw [List.range_succ (n := j + 1), List.map_append]
        have h4 := s4 _ _ h2
        have mv : ∀ b o, H4 b = some o → (∀ xs, o ≠ .lst xs) → upd H4 l (.lst (us.map V.ref ++ [.ref e1])) b = some o := fun b o e ne => (upd_ne (fun y => by rw [y, h4] at e; exact ne _ (Option.some.inj e).symm)).trans e
        exact LsAt.app (DtK (DtS ru s4) mv) (LsAt.one (DAt.keep mv de))
    · rintro σ H3 ⟨us, x3, rfl, h2, ru, sm⟩
      exact ⟨_, rfl, q l us H3 h2 ru hl0 sm⟩
def nLSh : List Str := ["_law_shape", "_law_orders", "_law_one", "_law_other", "_law_tall", "_law_wide", "_law_left", "_law_right", "_law_found", "_law_first", "_law_last", "_law_worth", "_law_scale", "_law_k", "_law_late", "_law_row"]
theorem scLSh : FnScope nLSh ["_law_shape", "_law_orders", "_law_one", "_law_other"] (defScope sLSh) := ⟨rfl, rfl, rfl, by decide +kernel, rfl, by decide +kernel, by decide +kernel⟩
theorem ok_lsh {f fS fT fP fC : Addr} {fd fdS fdT fdP fdC : FuncData} (F : Fun K "_law_sheet_at" "_law_sheet_at" sLSh f fd) (B : Bn mg) (B2 : Bk mg) (DS : Dn K mg "_law_sum" fS) (GS : FnOk P w K mg base CX0 3 fS fdS ["_law_one", "_law_other"] spSum) (bS : Binds K fdS ["_law_one", "_law_other"] [])
    (DT : Dn K mg "_law_times" fT) (GT : FnOk P w K mg base CX0 3 fT fdT ["_law_one", "_law_other"] spTimes) (bT : Binds K fdT ["_law_one", "_law_other"] [])
    (DP : Dn K mg "_law_powers" fP) (GP : FnOk P w K mg base CX0 4 fP fdP ["_law_place", "_law_many"] spLPow) (bP : Binds K fdP ["_law_place", "_law_many"] [])
    (DC : Dn K mg "_law_cross" fC) (GC : FnOk P w K mg base CX0 2 fC fdC ["_law_one", "_law_other"] (spTwo fMul gMul)) (bC : Binds K fdC ["_law_one", "_law_other"] []) : FnOk P w K mg base CX0 5 f fd ["_law_shape", "_law_orders", "_law_one", "_law_other"] (spLSh K) := by
  refine F.ok scLSh (fun vs H Q E h => ?_) (fun cdv A outer s H vs Q E hr h => ?_)
  · obtain ⟨l, o, d1, d2, ts, rows, a, b, x, y, n, m, rfl, _⟩ := h
    rfl
  · obtain ⟨l, o, d1, d2, ts, rows, a, b, x, y, n, m, rfl, hl, ra, r6, ho, ha, hb, hd1, hd2, ox, oy, hn, hm, q⟩ := h
    have r2 : Room 2 _ := hr.mono (by decide)
    have r3 : Room 3 _ := hr.mono (by decide)
    refine ⟨_, C8.pss_cut (ps_par (i := 4) (j := 5) rfl scLSh.nd rfl rfl (by decide) rfl rfl (pa_cons (pe_callB (cr_max rfl) (by rfl) B2.fmax vMax (pa_cons (pe_op op_cat (pe_lst (pa_cons pe_int pa_nil))
          (pe_lc (own := [("_law_row", 15)]) (g := gName 15) (te := tOp (rIxT K) (tVar 15) (tI 0)) rfl scLSh.nd (pi_list (pv 0)) (blkOk_by (own := [("_law_row", 15)]) (N := nLSh) (sc := defScope sLSh) (by decide +kernel)) (fun _ _ _ _ _ => pg_name (i := 15) scLSh.nd rfl (Or.inl rfl) (hf := Or.inr rfl)) (fun _ _ _ _ _ => pts_nil) (fun _ _ _ _ _ => pe_ix ix_tup (pv 15) pe_int (fun _ _ => rfl)))) pa_nil))
        (pa_cons (pe_callB (cr_max rfl) (by rfl) B2.fmax vMax (pa_cons (pe_op op_cat (pe_lst (pa_cons pe_int pa_nil))
          (pe_lc (own := [("_law_row", 15)]) (g := gName 15) (te := tOp (rIxT K) (tVar 15) (tI 1)) rfl scLSh.nd (pi_list (pv 0)) (blkOk_by (own := [("_law_row", 15)]) (N := nLSh) (sc := defScope sLSh) (by decide +kernel)) (fun _ _ _ _ _ => pg_name (i := 15) scLSh.nd rfl (Or.inl rfl) (hf := Or.inr rfl)) (fun _ _ _ _ _ => pts_nil) (fun _ _ _ _ _ => pe_ix ix_tup (pv 15) pe_int (fun _ _ => rfl)))) pa_nil)) pa_nil)) rfl)
      (C8.pss_cut (ps_par3 (i := 6) (j := 7) (l := 8) rfl scLSh.nd rfl rfl rfl (by decide) (by decide) (by decide) rfl rfl rfl (pa_cons (pe_call GP hr (by rfl) DP.gl DP.kp bP .nil pass0 (pa_cons (pv 2) (pa_cons (pv 4) pa_nil))) (pa_cons (pe_call GP hr (by rfl) DP.gl DP.kp bP .nil pass0 (pa_cons (pv 3) (pa_cons (pv 5) pa_nil))) (pa_cons pe_dnewT pa_nil))) rfl)
      (pss_cons (ps_for PassesOwn.never rfl (pi_list (pv 0)) (pg_tup (n := 3) rfl (pgs_cons (pg_name (i := 9) scLSh.nd rfl (Or.inl rfl)) (pgs_cons (pg_name (i := 10) scLSh.nd rfl (Or.inl rfl)) (pgs_cons (pg_name (i := 11) scLSh.nd rfl (Or.inl rfl)) pgs_nil))))
        (pss_one (ps_if (PW.pt (pw_and (pt_cmpR op_ge (pv 9) (pe_ix ix_tup (pv 1) pe_int (fun _ _ => rfl)) (nomark _)) (pw_and1 (pt_cmpR op_ge (pv 10) (pe_ix ix_tup (pv 1) pe_int (fun _ _ => rfl)) (nomark _)))))
          (pss_cons (ps_set (i := 12) scLSh.nd rfl (Or.inl rfl) pe_int)
          (C8.pss_cut (ps_for PassesOwn.never rfl (pi_range1 rfl B.frange (pa_cons (pe_ix ix_tup (pv 1) pe_int (fun _ _ => rfl)) pa_nil)) (pg_name (i := 13) scLSh.nd rfl (Or.inl rfl)) (pss_one (ps_set (i := 12) scLSh.nd rfl (Or.inl rfl) (pe_op op_mulW (pv 12) (pe_op op_sub (pv 9) (pv 13))))))
          (C8.pss_cut (ps_for PassesOwn.never rfl (pi_range1 rfl B.frange (pa_cons (pe_ix ix_tup (pv 1) pe_int (fun _ _ => rfl)) pa_nil)) (pg_name (i := 13) scLSh.nd rfl (Or.inl rfl)) (pss_one (ps_set (i := 12) scLSh.nd rfl (Or.inl rfl) (pe_op op_mulW (pv 12) (pe_op op_sub (pv 10) (pv 13))))))
          (pss_cons (ps_set (i := 14) scLSh.nd rfl (Or.inl rfl) (pe_call GT r3 (by rfl) DT.gl DT.kp bT .nil pass0 (pa_cons (pe_ix ix_list (pv 6) (pe_op op_sub (pv 9) (pe_ix ix_tup (pv 1) pe_int (fun _ _ => rfl))) (fun _ _ => rfl)) (pa_cons (pe_ix ix_list (pv 7) (pe_op op_sub (pv 10) (pe_ix ix_tup (pv 1) pe_int (fun _ _ => rfl))) (fun _ _ => rfl)) pa_nil))))
          (pss_one (ps_set (i := 8) scLSh.nd rfl (Or.inl rfl) (pe_call GS r3 (by rfl) DS.gl DS.kp bS .nil pass0 (pa_cons (pv 8) (pa_cons (pe_call GT r3 (by rfl) DT.gl DT.kp bT .nil pass0 (pa_cons (pe_disp1 hr.units0 (pe_tup pa_nil) (pe_call GC r2 (by rfl) DC.gl DC.kp bC .nil pass0 (pa_cons (pv 11) (pa_cons (pe_tup (pa_cons (pv 12) (pa_cons pe_int pa_nil))) pa_nil)))) (pa_cons (pv 14) pa_nil))) pa_nil))))))))) pss_nil)))
      (pss_one (ps_ret (pv 8))))), ?_⟩
    refine ⟨fun σ H' => ∃ tx ty : Nat, σ = [some (.ref l), some (.ref o), some (.ref d1), some (.ref d2), some (.int (tx : Nat)), some (.int (ty : Nat)), none, none, none, none, none, none, none, none, none, none] ∧ tx ≤ 3 ∧ ty ≤ 3 ∧ (∀ e ∈ rows, e.1.1 ≤ tx) ∧ (∀ e ∈ rows, e.1.2 ≤ ty) ∧ Same H H', ?_, ?_⟩
    · refine ⟨(by show 1 ≤ sizeLine; decide), fun p1 hp1 => ⟨_, rfl, l, rfl, ⟨_, SqL.ext hl ((same_upd hp1))⟩, fun D hD => lc_list (xs := ts.map V.ref) (fun i H' => H' D = some (.lst (((rows.take i).map fun e => ((e.1.1 : Nat) : Int)).map V.int)) ∧ Same (upd H p1 (.lst [V.int 0])) H') ⟨by rw [List.take_zero]; exact upd_same, same_upd hD⟩ (fun i H' _ a => SqL.ext hl (((same_upd hp1)).trans a.2)) ?_ ?_⟩⟩
      · rintro i x H1 hx ⟨a1, a2⟩
        refine ⟨rfl, ?_⟩
        have hi := (List.getElem?_eq_some_iff.mp hx).1
        rw [List.length_map, ra.len] at hi
        obtain ⟨t, et, rfl⟩ := map_of hx
        have eT : rows[i]? = some rows[i] := List.getElem?_eq_getElem hi
        obtain ⟨r, ht, _⟩ := (ra.same (((same_upd hp1)).trans a2)).at_ i t _ et eT
        refine ⟨_, rfl, t, _, _, .int ((rows[i].1.1 : Nat) : Int), rfl, rfl, .of ht, rfl, _, a1, ?_, ?_, Same.put a2 hD⟩
        · rw [List.length_map, List.length_map]
          exact small1000 (by have := List.length_take_le i rows; have := r6.len; omega)
        · rw [upd_same, List.take_add_one, eT, List.map_append, List.map_append]
          rfl
      · rintro H1 ⟨a1, a2⟩
        rw [List.length_map, ra.len, List.take_length] at a1
        refine ⟨p1, D, _, _, rfl, rfl, a2 _ _ upd_same, a1, ?_, fun p2 hp2 => ?_⟩
        · rw [List.length_map, List.length_map, sizeLine_eq]
          have := r6.len
          show 1 + rows.length ≤ _
          omega
        have S2 := ((((same_upd (o := .lst [V.int 0]) hp1)).trans a2)).trans (same_upd (o := .lst ([V.int 0] ++ ((rows.map fun e => ((e.1.1 : Nat) : Int)).map V.int))) hp2)
        refine ⟨p2, (0 : Int) :: (rows.map fun e => ((e.1.1 : Nat) : Int)), rfl, .of upd_same, by simp, fun mx hmx hle => ?_⟩
        obtain ⟨k1, rfl, b1, c1⟩ := max_of (f := fun k => k.1) r6.p0 hmx hle
        generalize upd H1 p2 _ = Hx at S2
        clear a1 a2 hp2 hp1 hD
        refine ⟨(by show 1 ≤ sizeLine; decide), fun p1 hp1 => ⟨_, rfl, l, rfl, ⟨_, SqL.ext hl (S2.trans (same_upd hp1))⟩, fun D hD => lc_list (xs := ts.map V.ref) (fun i H' => H' D = some (.lst (((rows.take i).map fun e => ((e.1.2 : Nat) : Int)).map V.int)) ∧ Same (upd Hx p1 (.lst [V.int 0])) H') ⟨by rw [List.take_zero]; exact upd_same, same_upd hD⟩ (fun i H' _ a => SqL.ext hl ((S2.trans (same_upd hp1)).trans a.2)) ?_ ?_⟩⟩
        · rintro i x H1 hx ⟨a1, a2⟩
          refine ⟨rfl, ?_⟩
          have hi := (List.getElem?_eq_some_iff.mp hx).1
          rw [List.length_map, ra.len] at hi
          obtain ⟨t, et, rfl⟩ := map_of hx
          have eT : rows[i]? = some rows[i] := List.getElem?_eq_getElem hi
          obtain ⟨r, ht, _⟩ := (ra.same ((S2.trans (same_upd hp1)).trans a2)).at_ i t _ et eT
          refine ⟨_, rfl, t, _, _, .int ((rows[i].1.2 : Nat) : Int), rfl, rfl, .of ht, rfl, _, a1, ?_, ?_, Same.put a2 hD⟩
          · rw [List.length_map, List.length_map]
            exact small1000 (by have := List.length_take_le i rows; have := r6.len; omega)
          · rw [upd_same, List.take_add_one, eT, List.map_append, List.map_append]
            rfl
        · rintro H1 ⟨a1, a2⟩
          rw [List.length_map, ra.len, List.take_length] at a1
          refine ⟨p1, D, _, _, rfl, rfl, a2 _ _ upd_same, a1, ?_, fun p2 hp2 => ?_⟩
          · rw [List.length_map, List.length_map, sizeLine_eq]
            have := r6.len
            show 1 + rows.length ≤ _
            omega
          have S2 := (((S2.trans (same_upd (o := .lst [V.int 0]) hp1)).trans a2)).trans (same_upd (o := .lst ([V.int 0] ++ ((rows.map fun e => ((e.1.2 : Nat) : Int)).map V.int))) hp2)
          refine ⟨p2, (0 : Int) :: (rows.map fun e => ((e.1.2 : Nat) : Int)), rfl, .of upd_same, by simp, fun mx hmx hle => ?_⟩
          obtain ⟨k2, rfl, b2, c2⟩ := max_of (f := fun k => k.2) r6.p1 hmx hle
          exact ⟨_, _, rfl, k1, k2, rfl, b1, b2, c1, c2, S2⟩
    rintro σ Ha ⟨tx, ty, rfl, tx3, ty3, cx, cy, Sa⟩
    refine ⟨fun σ H' => ∃ (lx ly dz : Addr) (xs ys : List Addr), σ = [some (.ref l), some (.ref o), some (.ref d1), some (.ref d2), some (.int (tx : Nat)), some (.int (ty : Nat)), some (.ref lx), some (.ref ly), some (.ref dz), none, none, none, none, none, none, none] ∧ H' lx = some (.lst (xs.map V.ref)) ∧ H' ly = some (.lst (ys.map V.ref)) ∧ LsAt DtP H' xs ((List.range (tx + 1)).map (pwr x)) ∧ LsAt DtP H' ys ((List.range (ty + 1)).map (pwr y)) ∧ DAt H' dz none ∧ Same Ha H', ?_, ?_⟩
    · refine ⟨_, rfl, _, rfl, d1, x, m, tx, rfl, hd1.same Sa, ox, by omega, tx3, fun lx xs H1 h1 l1 _ s1 => ⟨_, rfl, _, rfl, d2, y, m, ty, rfl, hd2.same (Sa.trans s1), oy, by omega, ty3, fun ly ys H2 h2 l2 _ s2 => fun dz hz => ?_⟩⟩
      have s3 := same_upd (o := .dT []) hz
      exact ⟨_, _, _, rfl, lx, ly, dz, xs, ys, rfl, s3 _ _ (s2 _ _ h1), s3 _ _ h2, DtS l1 (s2.trans s3), DtS l2 s3, upd_same, (s1.trans s2).trans s3⟩
    rintro σ Hb ⟨lx, ly, dz0, xs, ys, rfl, hx, hy, dx, dy, dz, Sb⟩
    have Sab := Sa.trans Sb
    replace ho := Sab _ _ ho
    replace hl := SqL.ext hl Sab
    replace ra := ra.same Sab
    clear Sa Sb hd1 hd2
    refine ⟨_, rfl, l, rfl, ⟨_, hl⟩, for_list (xs := ts.map V.ref) (fun i σ H' => ∃ (dz : Addr) (x9 x10 x11 x12 x13 x14 : Option V), σ = [some (.ref l), some (.ref o), some (.ref d1), some (.ref d2), some (.int (tx : Nat)), some (.int (ty : Nat)), some (.ref lx), some (.ref ly), some (.ref dz), x9, x10, x11, x12, x13, x14, none] ∧ DAt H' dz (lv a b x y (rows.take i)) ∧ Same Hb H') ⟨dz0, none, none, none, none, none, none, rfl, by rw [List.take_zero]; exact dz, fun _ _ e => e⟩ (fun i σ H' _ ⟨_, _, _, _, _, _, _, _, _, sx⟩ => SqL.ext hl sx) ?_ ?_⟩
    · rintro i v σ Hc hv ⟨dz, x9, x10, x11, x12, x13, x14, rfl, dd, sc0⟩
      obtain ⟨u, eu, rfl⟩ := map_of hv
      have hi := (List.getElem?_eq_some_iff.mp hv).1
      rw [List.length_map, ra.len] at hi
      have eT : rows[i]? = some rows[i] := List.getElem?_eq_getElem hi
      have hm1 := List.getElem_mem hi
      obtain ⟨r, hu, hr'⟩ := (ra.same sc0).at_ i u _ eu eT
      have ow := r6.ok _ hm1
      have p0 := r6.p0 _ hm1
      have p1 := r6.p1 _ hm1
      have k0 := cx _ hm1
      have k1 := cy _ hm1
      have len6 := r6.len
      have oi := (lv_ok (a := a) (b := b) ox oy r6 i (by omega)).1
      rw [lv_take eT]
      generalize rows[i] = e at eT hm1 hu hr' ow p0 p1 k0 k1
      obtain ⟨t1, t2⟩ := lterm_ok (a := a) (b := b) ox oy ow p0 p1
      have ho' := sc0 _ _ ho
      refine ⟨u, _, rfl, SqT.of hu, rfl, _, _, rfl, _, _, rfl, _, _, rfl, rfl, ?_⟩
      refine ⟨_, rfl, _, rfl, o, _, _, _, rfl, rfl, .of ho', at0 _ _, _, _, rfl, rfl, _, rfl, ?_⟩
      have no : ¬ (a ≤ e.1.1 ∧ b ≤ e.1.2) → DAt Hc dz (lst a b x y (lv a b x y (rows.take i)) e) := fun c => by
        unfold lst
        rw [if_neg c]
        exact dd
      by_cases ca : a ≤ e.1.1
      rotate_left
      · rw [show decide ((a : Int) ≤ ((e.1.1 : Nat) : Int)) = false from decide_eq_false (by omega)]
        exact iteF (iteF ⟨dz, _, _, _, _, _, _, rfl, no (fun z => ca z.1), sc0⟩)
      rw [show decide ((a : Int) ≤ ((e.1.1 : Nat) : Int)) = true from decide_eq_true (by omega)]
      refine iteT ⟨_, rfl, _, rfl, o, _, _, _, rfl, rfl, .of ho', at1 _ _, _, _, rfl, rfl, _, rfl, ?_⟩
      by_cases cb : b ≤ e.1.2
      rotate_left
      · rw [show decide ((b : Int) ≤ ((e.1.2 : Nat) : Int)) = false from decide_eq_false (by omega)]
        exact iteF ⟨dz, _, _, _, _, _, _, rfl, no (fun z => cb z.2), sc0⟩
      rw [show decide ((b : Int) ≤ ((e.1.2 : Nat) : Int)) = true from decide_eq_true (by omega)]
      refine iteT ?_
      have eL : lst a b x y (lv a b x y (rows.take i)) e = some (pl ((lv a b x y (rows.take i)).getD zz) (cr (cr e.2 (sc a b e.1, 1)) (cr (pwr x (e.1.1 - a)) (pwr y (e.1.2 - b))))) := if_pos ⟨ca, cb⟩
      rw [eL]
      clear no eL
      refine ⟨fun σ H' => H' = Hc ∧ ∃ x13 : Option V, σ = [some (.ref l), some (.ref o), some (.ref d1), some (.ref d2), some (.int (tx : Nat)), some (.int (ty : Nat)), some (.ref lx), some (.ref ly), some (.ref dz), some (.int (e.1.1 : Nat)), some (.int (e.1.2 : Nat)), some (.ref r), some (.int (if a = 1 then ((e.1.1 : Nat) : Int) else 1)), x13, x14, none], ?_, ?_⟩
      · refine ⟨_, rfl, o, _, _, _, rfl, rfl, .of ho', at0 _ _, _, rfl, by omega, by omega, ?_⟩
        rw [Int.toNat_natCast]
        refine for_range (fun j σ H' => H' = Hc ∧ ∃ x13 : Option V, σ = [some (.ref l), some (.ref o), some (.ref d1), some (.ref d2), some (.int (tx : Nat)), some (.int (ty : Nat)), some (.ref lx), some (.ref ly), some (.ref dz), some (.int (e.1.1 : Nat)), some (.int (e.1.2 : Nat)), some (.ref r), some (.int (if j = 1 then ((e.1.1 : Nat) : Int) else 1)), x13, x14, none]) ⟨rfl, x13, rfl⟩ ?_ ?_
        · rintro j σ H' hj ⟨rfl, x13, rfl⟩
          obtain rfl : j = 0 := by omega
          refine ⟨_, rfl, _, rfl, _, rfl, _, _, rfl, rfl, _, _, rfl, rfl, wide_mul (a := 5) (b := 5) (by rw [if_neg (by decide)]; decide) (by omega) (by decide) (by decide) (by decide), rfl, some (.int (0 + ((0 : Nat) : Int))), ?_⟩
          rw [if_neg (by decide), if_pos rfl]
          dsimp only
          rw [show (1 : Int) * (((e.1.1 : Nat) : Int) - (0 + ((0 : Nat) : Int))) = ((e.1.1 : Nat) : Int) by omega]
          rfl
        · rintro σ H' ⟨rfl, x13, rfl⟩
          exact ⟨rfl, x13, rfl⟩
      rintro σ Hd ⟨eH, x13', rfl⟩
      rw [eH]
      clear eH Hd
      refine ⟨fun σ H' => H' = Hc ∧ ∃ x13 : Option V, σ = [some (.ref l), some (.ref o), some (.ref d1), some (.ref d2), some (.int (tx : Nat)), some (.int (ty : Nat)), some (.ref lx), some (.ref ly), some (.ref dz), some (.int (e.1.1 : Nat)), some (.int (e.1.2 : Nat)), some (.ref r), some (.int (sc a b e.1)), x13, x14, none], ?_, ?_⟩
      · refine ⟨_, rfl, o, _, _, _, rfl, rfl, .of ho', at1 _ _, _, rfl, by omega, by omega, ?_⟩
        rw [Int.toNat_natCast]
        refine for_range (fun j σ H' => H' = Hc ∧ ∃ x13 : Option V, σ = [some (.ref l), some (.ref o), some (.ref d1), some (.ref d2), some (.int (tx : Nat)), some (.int (ty : Nat)), some (.ref lx), some (.ref ly), some (.ref dz), some (.int (e.1.1 : Nat)), some (.int (e.1.2 : Nat)), some (.ref r), some (.int ((if a = 1 then ((e.1.1 : Nat) : Int) else 1) * (if j = 1 then ((e.1.2 : Nat) : Int) else 1))), x13, x14, none]) ⟨rfl, x13', by rw [if_neg (show ¬ ((0 : Nat) = 1) by decide), Int.mul_one]⟩ ?_ ?_
        · rintro j σ H' hj ⟨rfl, x13, rfl⟩
          obtain rfl : j = 0 := by omega
          have b5 : ((if a = 1 then ((e.1.1 : Nat) : Int) else 1) * (if (0 : Nat) = 1 then ((e.1.2 : Nat) : Int) else 1)).natAbs < 2 ^ 5 := by
            rw [if_neg (show ¬ ((0 : Nat) = 1) by decide), Int.mul_one]
            split <;> omega
          refine ⟨_, rfl, _, rfl, _, rfl, _, _, rfl, rfl, _, _, rfl, rfl, wide_mul (a := 5) (b := 5) b5 (by omega) (by decide) (by decide) (by decide), rfl, some (.int (0 + ((0 : Nat) : Int))), ?_⟩
          rw [if_neg (show ¬ ((0 : Nat) = 1) by decide), Int.mul_one, if_pos rfl]
          dsimp only
          rw [show (((e.1.2 : Nat) : Int) - (0 + ((0 : Nat) : Int))) = ((e.1.2 : Nat) : Int) by omega]
          rfl
        · rintro σ H' ⟨rfl, x13, rfl⟩
          exact ⟨rfl, x13, rfl⟩
      rintro σ Hd ⟨eH, x13, rfl⟩
      rw [eH]
      clear eH Hd
      have os : Ok 4 ((sc a b e.1, 1) : PQ) := ok_i1 (sc_bd p0 p1) (by decide)
      have j6 := Nat.mul_le_mul (show i ≤ 6 by omega) (show n + 6 * m + 7 ≤ 147 by omega)
      have px := pwr_ok ox (e.1.1 - a)
      have py := pwr_ok oy (e.1.2 - b)
      have jx := Nat.mul_le_mul (show e.1.1 - a ≤ 3 by omega) hm
      have jy := Nat.mul_le_mul (show e.1.2 - b ≤ 3 by omega) hm
      obtain ⟨a1, ea1, ra1⟩ : ∃ a1, xs[e.1.1 - a]? = some a1 ∧ DAt Hc a1 (some (pwr x (e.1.1 - a))) := by
        have lr := dx.len
        rw [List.length_map, List.length_range] at lr
        have : e.1.1 - a < xs.length := by omega
        exact ⟨_, List.getElem?_eq_getElem this, (DtS dx sc0).at_ _ _ (pwr x (e.1.1 - a)) (List.getElem?_eq_getElem this) (by rw [List.getElem?_map, List.getElem?_range (by omega)]; rfl)⟩
      obtain ⟨a2, ea2, ra2⟩ : ∃ a2, ys[e.1.2 - b]? = some a2 ∧ DAt Hc a2 (some (pwr y (e.1.2 - b))) := by
        have lr := dy.len
        rw [List.length_map, List.length_range] at lr
        have : e.1.2 - b < ys.length := by omega
        exact ⟨_, List.getElem?_eq_getElem this, (DtS dy sc0).at_ _ _ (pwr y (e.1.2 - b)) (List.getElem?_eq_getElem this) (by rw [List.getElem?_map, List.getElem?_range (by omega)]; rfl)⟩
      have hxc := sc0 _ _ hx
      have hyc := sc0 _ _ hy
      refine ⟨_, rfl, _, rfl, _, rfl, o, _, _, _, rfl, rfl, .of ho', at0 _ _, _, _, rfl, rfl, lx, _, ((e.1.1 - a : Nat) : Int), _, rfl, by rw [Int.ofNat_sub ca], .of hxc, atI_nat (map_at ea1), ?_⟩
      refine ⟨_, rfl, _, rfl, _, rfl, o, _, _, _, rfl, rfl, .of ho', at1 _ _, _, _, rfl, rfl, ly, _, ((e.1.2 - b : Nat) : Int), _, rfl, by rw [Int.ofNat_sub cb], .of hyc, atI_nat (map_at ea2), ?_⟩
      refine ⟨a1, a2, some (pwr x (e.1.1 - a)), pwr y (e.1.2 - b), _, _, rfl, ra1, ra2, fun p ep => by cases Option.some.inj ep; exact px, py, by omega, fun dl H1 dl1 nl s1 => ?_⟩
      refine ⟨_, rfl, fun p3 hp3 => ⟨Nat.zero_le _, fun p4 hp4 => ⟨_, rfl, _, rfl, (by show 2 ≤ sizeLine; decide), fun p5 hp5 => ?_⟩⟩⟩
      have s3 := (same_upd (o := .tup []) hp4).trans (same_upd (o := .tup [V.int (sc a b e.1), .int 1]) hp5)
      have sP := (same_upd (o := .dT []) hp3).trans s3
      have h5 : upd (upd (upd H1 p3 (.dT [])) p4 (.tup [])) p5 (.tup [V.int (sc a b e.1), .int 1]) p5 = some (.tup [V.int (sc a b e.1), .int 1]) := upd_same
      have h4 : upd (upd (upd H1 p3 (.dT [])) p4 (.tup [])) p5 (.tup [V.int (sc a b e.1), .int 1]) p4 = some (.tup []) := same_upd hp5 _ _ upd_same
      have h3 : upd (upd (upd H1 p3 (.dT [])) p4 (.tup [])) p5 (.tup [V.int (sc a b e.1), .int 1]) p3 = some (.dT []) := s3 _ _ upd_same
      generalize upd (upd (upd H1 p3 (.dT [])) p4 (.tup [])) p5 (.tup [V.int (sc a b e.1), .int 1]) = H2 at sP h5 h4 h3
      refine ⟨r, p5, e.2.1, e.2.2, sc a b e.1, 1, rfl, sP _ _ (s1 _ _ hr'), h5, ow.t.le (by omega), ow.b.le (by omega), os.t.le (by decide), os.b.le (by decide), ow.pos, os.pos, fun r1 H3 rt1 s4 => ?_⟩
      refine ⟨s4 _ _ h3, p4, [], rfl, s4 _ _ h4, ?_⟩
      have s5 : Same H1 (upd H3 p3 (.dT [([], .ref r1)])) := Same.put (sP.trans s4) hp3
      have n31 : r1 ≠ p3 := fun z => by have z2 : H3 r1 = _ := rt1; rw [z, s4 _ _ h3] at z2; cases z2
      have dA : DAt (upd H3 p3 (.dT [([], .ref r1)])) p3 (some (cr e.2 (sc a b e.1, 1))) := ⟨r1, upd_same, (upd_ne n31).trans rt1⟩
      generalize upd H3 p3 (.dT [([], .ref r1)]) = H4 at s5 dA
      refine ⟨_, rfl, p3, dl, some (cr e.2 (sc a b e.1, 1)), cr (pwr x (e.1.1 - a)) (pwr y (e.1.2 - b)), _, _, rfl, dA, dl1.same s5, fun p ep => by cases Option.some.inj ep; exact t1, t2, by omega, fun d6 H6 dd6 n6 s6 => ?_⟩
      have S6 := (s1.trans s5).trans s6
      refine ⟨dz, d6, _, _, rfl, dd.same S6, dd6, fun p ep => (oi p ep).le (by omega), (t1.cr t2).le (by omega), fun d7 H7 dd7 n7 s7 => ?_⟩
      exact ⟨d7, _, _, _, _, _, _, rfl, dd7, sc0.trans (S6.trans s7)⟩
    · rintro σ Hc ⟨dz, x9, x10, x11, x12, x13, x14, rfl, dd, sc0⟩
      rw [List.length_map, ra.len, List.take_length] at dd
      exact ⟨_, rfl, q dz Hc dd (Sab.trans sc0)⟩
end
end K37

set_option Elab.async false
set_option linter.all false
set_option maxRecDepth 100000
set_option maxHeartbeats 4000000
set_option pp.maxSteps 700
namespace K37
open PySem PySem.Spec PyProof.Rows L2 Ux
abbrev sLTb : Stmt := top 46
theorem RowsL.nil {H : Hp} : RowsL H [] [] := ⟨rfl, fun i t e a _ => by cases a⟩
theorem RowsL.snoc {H : Hp} {us : List Addr} {rows : RW} {t r : Addr} {e : KY × PQ} (h : RowsL H us rows) (h1 : H t = some (.tup [.int (e.1.1 : Nat), .int (e.1.2 : Nat), .ref r])) (h2 : TupI H r e.2.1 e.2.2) : RowsL H (us ++ [t]) (rows ++ [e]) :=
  ⟨by rw [List.length_append, List.length_append, h.len]; rfl, fun i t' e' a b => by
    by_cases c : i < us.length
    · rw [List.getElem?_append_left c] at a
      rw [List.getElem?_append_left (by rw [← h.len]; exact c)] at b
      exact h.at_ i t' e' a b
    · rw [List.getElem?_append_right (by omega)] at a
      rw [List.getElem?_append_right (by rw [← h.len]; omega), ← h.len] at b
      generalize i - us.length = j at a b
      cases j with
      | zero =>
        cases Option.some.inj a
        cases Option.some.inj b
        exact ⟨r, h1, h2⟩
      | succ j => cases a⟩
theorem tb_keys {R : Hp → Addr → PQ → Prop} {H : Hp} {kvs : List (List L2.Key × V)} {M : RW} {bs : List Addr} (h : TbAt R H kvs M) (hb : IsKeys H kvs bs) : bs.length = M.length ∧ ∀ b ∈ bs, ∃ e ∈ M, H b = some (.tup [.int (e.1.1 : Nat), .int (e.1.2 : Nat)]) := by
  have l1 := Paired.length h
  have l2 := Paired.length hb
  refine ⟨by omega, fun b hb' => ?_⟩
  obtain ⟨i, hi⟩ := List.mem_iff_getElem?.mp hb'
  have hi2 := (List.getElem?_eq_some_iff.mp hi).1
  have hm : M[i]? = some M[i] := List.getElem?_eq_getElem (by omega)
  obtain ⟨r, e1, _⟩ := TbAt.get (R := R) (H := H) h hm
  obtain ⟨b', e2, e3⟩ := L2.paired_get hb e1
  rw [hi] at e2
  cases e2
  exact ⟨_, List.mem_of_getElem? hm, e3⟩
def spLTab (K : PySem.W.Frag) : Sp := fun vs H Q _ => ∃ (l : Addr) (ts : List Addr) (rows : RW) (n N : Nat), vs = [.ref l] ∧ SqL K H l (ts.map V.ref) ∧ RowsL H ts rows ∧ Rws n rows ∧ (∀ k, (n + 1) * cnt rows k ≤ N) ∧ N ≤ 1900 ∧
  ∀ (d : Addr) (us : List Addr) (T : RW) (H' : Hp), H' d = some (.lst (us.map V.ref)) → RowsL H' us T → Canon N rows T → H d = none → Same H H' → Q (.ref d) H'
theorem vSorted : bootBuiltins ("sorted" : Str) = some (.builtin "sorted") := by decide +kernel
section
variable {P : Program} {w : World} {K : PySem.W.Frag} {mg : Str → Option Value} {base : Heap}
def nLTb : List Str := ["_law_rows", "_law_table_here", "_law_one", "_law_other", "_law_worth"]
theorem scLTb : FnScope nLTb ["_law_rows"] (defScope sLTb) := ⟨rfl, rfl, rfl, by decide +kernel, rfl, by decide +kernel, by decide +kernel⟩
theorem ok_ltab {f fP : Addr} {fd fdP : FuncData} (F : Fun K "_law_table" "_law_table" sLTb f fd) (B : Bn mg) (B2 : Bk mg) (DP : Dn K mg "_law_plus" fP) (GP : FnOk P w K mg base CX0 2 fP fdP ["_law_one", "_law_other"] (spTwo fAdd gMul)) (bP : Binds K fdP ["_law_one", "_law_other"] []) : FnOk P w K mg base CX0 3 f fd ["_law_rows"] (spLTab K) := by
  refine F.ok scLTb (fun vs H Q E h => ?_) (fun cdv A outer s H vs Q E hr h => ?_)
  · obtain ⟨l, ts, rows, n, N, rfl, _⟩ := h
    rfl
  · obtain ⟨l, ts, rows, n, N, rfl, hl, ra, rw6, gr, hN, q⟩ := h
    refine ⟨_, pss_cons (ps_set (i := 1) scLTb.nd rfl (Or.inr rfl) pe_dnewT)
      (pss_cons (ps_for PassesOwn.never rfl (pi_list (pv 0)) (pg_tup (n := 3) rfl (pgs_cons (pg_name (i := 2) scLTb.nd rfl (Or.inl rfl)) (pgs_cons (pg_name (i := 3) scLTb.nd rfl (Or.inl rfl)) (pgs_cons (pg_name (i := 4) scLTb.nd rfl (Or.inl rfl)) pgs_nil))))
        (pss_one (ps_dput (ru1 hr) (pv 1) (pe_tup (pa_cons (pv 2) (pa_cons (pv 3) pa_nil))) (pe_call GP hr (by rfl) DP.gl DP.kp bP .nil pass0 (pa_cons (pe_dget2 (ru1 hr) (pv 1) (pe_tup (pa_cons (pv 2) (pa_cons (pv 3) pa_nil))) (pe_tup (pa_cons pe_int (pa_cons pe_int pa_nil))) ⟨rfl, rfl, rfl, rfl⟩) (pa_cons (pv 4) pa_nil))) (by rfl))))
      (pss_one (ps_ret (pe_lc (own := [("_law_one", 2), ("_law_other", 3)]) (g := gTup K 2 (gCons (gName 2) (gCons (gName 3) gNil))) (tt := tTest (tOp rNe (tOp (rIxT K) (tDGet (tVar 1) (tTup (tCons (tVar 2) (tCons (tVar 3) tNil)))) (tI 0)) (tI 0))) (te := tTup (tCons (tVar 2) (tCons (tVar 3) (tCons (tDGet (tVar 1) (tTup (tCons (tVar 2) (tCons (tVar 3) tNil)))) tNil)))) rfl scLTb.nd
        (pi_list (pe_callB (cr_sortT (d := 2) (B := 4) (by decide)) (by rfl) B2.fsorted vSorted (pa_cons (pe_callTy (call_list_dT rfl) (by rfl) B.tlist vList (pa_cons (pv 1) pa_nil)) pa_nil))) (blkOk_by (own := [("_law_one", 2), ("_law_other", 3)]) (N := nLTb) (sc := defScope sLTb) (by decide +kernel))
        (fun _ _ _ _ _ => pg_tup (n := 2) rfl (pgs_cons (pg_name (i := 2) scLTb.nd rfl (Or.inl rfl) (hf := Or.inr rfl)) (pgs_cons (pg_name (i := 3) scLTb.nd rfl (Or.inl rfl) (hf := Or.inr rfl)) pgs_nil)))
        (fun _ _ _ _ _ => pts_one (pt_cmpR op_ne (pe_ix ix_tup (pe_dget (ru1 hr) (pv 1) (pe_tup (pa_cons (pv 2) (pa_cons (pv 3) pa_nil))) (fun _ _ => rfl)) pe_int (fun _ _ => rfl)) pe_int (nomark _)))
        (fun _ _ _ _ _ => pe_tup (pa_cons (pv 2) (pa_cons (pv 3) (pa_cons (pe_dget (ru1 hr) (pv 1) (pe_tup (pa_cons (pv 2) (pa_cons (pv 3) pa_nil))) (fun _ _ => rfl)) pa_nil)))))))), ?_⟩
    refine fun d hd => ?_
    have s1 := same_upd (o := .dT []) hd
    refine ⟨_, rfl, l, rfl, ⟨_, SqL.ext hl s1⟩, for_list (xs := ts.map V.ref) (fun i σ H' => ∃ (kvs : List (List L2.Key × V)) (M : RW) (x2 x3 x4 : Option V), σ = [some (.ref l), some (.ref d), x2, x3, x4] ∧ H' d = some (.dT kvs) ∧ TbAt TupP H' kvs M ∧ Mg n rows i M ∧ Same H H')
      ⟨[], [], none, none, none, rfl, upd_same, TbAt.nil, Mg.zero n rows, s1⟩ (fun i σ H' _ ⟨_, _, _, _, _, _, _, _, _, sx⟩ => SqL.ext hl sx) ?_ ?_⟩
    · rintro i v σ H0 hv ⟨kvs, M, x2, x3, x4, rfl, hd0, tb, mg', s0⟩
      have hi := (List.getElem?_eq_some_iff.mp hv).1
      rw [List.length_map, ra.len] at hi
      obtain ⟨t, et, rfl⟩ := map_of hv
      have e2 : rows[i]? = some rows[i] := List.getElem?_eq_getElem hi
      obtain ⟨y, ht, ny⟩ := (ra.same s0).at_ i t _ et e2
      have ow := rw6.ok _ (List.getElem_mem hi)
      generalize rows[i] = e at e2 ht ny ow
      refine ⟨t, _, rfl, SqT.of ht, rfl, _, _, rfl, _, _, rfl, _, _, rfl, rfl, ?_⟩
      have lm := mg'.len
      have lk := tb.len
      refine ⟨_, rfl, d, rfl, .inr ⟨kvs, .inl hd0⟩, _, rfl, _, rfl, (by show 2 ≤ sizeLine; decide), fun p0 hp0 => ⟨(by show 2 ≤ sizeLine; decide), fun p1 hp1 => ?_⟩⟩
      have sA := same_upd (o := .tup [V.int (e.1.1 : Nat), .int (e.1.2 : Nat)]) hp0
      have sB := same_upd (o := .tup [V.int 0, .int 1]) hp1
      have sC := sA.trans sB
      have h0 : upd (upd H0 p0 (.tup [V.int (e.1.1 : Nat), .int (e.1.2 : Nat)])) p1 (.tup [V.int 0, .int 1]) p0 = some (.tup [V.int (e.1.1 : Nat), .int (e.1.2 : Nat)]) := sB _ _ upd_same
      have h1 : upd (upd H0 p0 (.tup [V.int (e.1.1 : Nat), .int (e.1.2 : Nat)])) p1 (.tup [V.int 0, .int 1]) p1 = some (.tup [V.int 0, .int 1]) := upd_same
      generalize upd (upd H0 p0 (.tup [V.int (e.1.1 : Nat), .int (e.1.2 : Nat)])) p1 (.tup [V.int 0, .int 1]) = H1 at sC h0 h1
      refine ⟨_, DGet.t (k := kk e.1) (sC _ _ hd0) h0, ?_⟩
      have fin : ∀ (v : Addr) (q' : PQ) (H2 : Hp), Same H1 H2 → TupI H2 v q'.1 q'.2 → ((vAt M e.1 = none ∧ q' = e.2) ∨ ∃ p, vAt M e.1 = some p ∧ q' = pl p e.2) →
          ∀ t3, H2 t3 = none → ∃ a H4, V.ref d = .ref a ∧ DPut (upd H2 t3 (.tup [.int (e.1.1 : Nat), .int (e.1.2 : Nat)])) a (.ref t3) (.ref v) H4 ∧ ∃ (kvs : List (List L2.Key × V)) (M : RW) (x2 x3 x4 : Option V), [some (V.ref l), some (.ref d), some (.int (e.1.1 : Nat)), some (.int (e.1.2 : Nat)), some (.ref y)] = [some (.ref l), some (.ref d), x2, x3, x4] ∧ H4 d = some (.dT kvs) ∧ TbAt TupP H4 kvs M ∧ Mg n rows (i + 1) M ∧ Same H H4 := by
        intro v q' H2 s3 rv hq t3 ht3
        have s4 := (sC.trans s3).trans (same_upd (o := .tup [V.int (e.1.1 : Nat), .int (e.1.2 : Nat)]) ht3)
        have hd2 := s4 _ _ hd0
        refine ⟨d, _, rfl, DPut.t (k := kk e.1) hd2 upd_same (by rw [sizeLine_eq]; have := rw6.len; omega), _, addR M e.1 e.2, _, _, _, rfl, upd_same, ?_, mg'.step e2 ow, Same.put (s0.trans s4) hd⟩
        have tb2 : TbAt TupP _ kvs M := (tb.same s4).mono (H' := upd _ d (.dT (putK kvs (kk e.1) (.ref v)))) fun r p hr' => show TupI _ _ _ _ from (upd_ne (fun z => by have z2 : _ = some _ := hr'; rw [z, hd2] at z2; cases z2)).trans hr'
        refine tb2.put (q := q') mg'.nd ?_ hq
        have rv2 : TupI _ v q'.1 q'.2 := same_upd (o := .tup [V.int (e.1.1 : Nat), .int (e.1.2 : Nat)]) ht3 _ _ rv
        exact (upd_ne (fun z => by have z2 : _ = some _ := rv2; rw [z, hd2] at z2; cases z2)).trans rv2
      have ct := Nat.le_trans (Nat.mul_le_mul_left (n + 1) (cnt_le rows i e.1)) (gr e.1)
      have cn : n ≤ 1900 := by
        have c1 : cnt rows e.1 ≠ 0 := fun z => by
          have := List.countP_eq_zero.mp z e (List.mem_of_getElem? e2)
          simp at this
        have := Nat.le_trans (Nat.mul_le_mul_left (n + 1) (show 1 ≤ cnt rows e.1 by omega)) (gr e.1)
        omega
      rcases tb.val e.1 with ⟨h2, h3⟩ | ⟨p, ro, h2, h3, hro⟩
      · rw [h3]
        refine ⟨_, rfl, p1, y, 0, 1, e.2.1, e.2.2, rfl, h1, sC _ _ ny, ok_zz.t.le (by decide), ok_zz.b.le (by decide), ow.t.le (by omega), ow.b.le (by omega), by decide, ow.pos, fun v H2 rt s4 => ?_⟩
        refine ⟨_, rfl, _, rfl, _, rfl, (by show 2 ≤ sizeLine; decide), fun t3 ht3 => ?_⟩
        refine fin v e.2 H2 s4 ?_ (.inl ⟨h2, rfl⟩) t3 ht3
        have z2 : TupI H2 v (pl zz e.2).1 (pl zz e.2).2 := rt
        rw [zero_pl ow] at z2
        exact z2
      · rw [h3]
        have op := mg'.ok _ (vAt_mem h2)
        refine ⟨_, rfl, ro, y, p.1, p.2, e.2.1, e.2.2, rfl, sC _ _ hro, sC _ _ ny, op.t.le (Nat.le_trans ct (by omega)), op.b.le (Nat.le_trans ct (by omega)), ow.t.le (by omega), ow.b.le (by omega), op.pos, ow.pos, fun v H2 rt s4 => ?_⟩
        refine ⟨_, rfl, _, rfl, _, rfl, (by show 2 ≤ sizeLine; decide), fun t3 ht3 => ?_⟩
        exact fin v (pl p e.2) H2 s4 rt (.inr ⟨p, h2, rfl⟩) t3 ht3
    · rintro σ H0 ⟨kvs, M, x2, x3, x4, rfl, hd0, tb, mg', s0⟩
      rw [List.length_map, ra.len] at mg'
      have p0 : ∀ e ∈ M, e.1.1 ≤ 3 := fun e he => let ⟨f, hf, ef⟩ := mg'.mem e he; ef ▸ rw6.p0 f hf
      have p1 : ∀ e ∈ M, e.1.2 ≤ 3 := fun e he => let ⟨f, hf, ef⟩ := mg'.mem e he; ef ▸ rw6.p1 f hf
      have lM : M.length ≤ 6 := Nat.le_trans mg'.len rw6.len
      refine ⟨_, rfl, d, kvs, rfl, .of hd0, fun pb bs hpb hb => ?_⟩
      have sp := same_upd (o := .lst (bs.map V.ref)) hpb
      obtain ⟨lb, kb⟩ := tb_keys tb hb
      refine ⟨pb, bs.map V.ref, rfl, .of upd_same, by rw [List.length_map]; omega, fun x hx => ?_, fun ys p hp hs np => ?_⟩
      · obtain ⟨b, hb', rfl⟩ := List.mem_map.mp hx
        obtain ⟨e, he, hbt⟩ := kb b hb'
        refine ⟨[(e.1.1 : Nat), (e.1.2 : Nat)], ⟨b, rfl, .of (sp _ _ hbt)⟩, rfl, fun z hz => ?_⟩
        have a1 := p0 e he
        have a2 := p1 e he
        rcases List.mem_cons.mp hz with rfl | hz
        · omega
        · rcases List.mem_cons.mp hz with rfl | hz
          · omega
          · cases hz
      have hb1 : IsKeys (upd H0 pb (.lst (bs.map V.ref))) kvs bs := Paired.mapP hb fun _ _ e => sp _ _ e
      obtain ⟨ks, qs, rfl, lks, hq, kp, kw⟩ := keys_sorted (tb.same sp) mg'.nd hb1 hp hs p0 p1
      have s1' := same_upd (o := .lst (qs.map V.ref)) np
      have s2' := sp.trans s1'
      have hd1 := s2' _ _ hd0
      have tb1 := tb.same s2'
      have hp1 : upd (upd H0 pb (.lst (bs.map V.ref))) p (.lst (qs.map V.ref)) p = some (.lst (qs.map V.ref)) := upd_same
      have hq1 : ∀ (i : Nat) (q : Addr) (k : KY), qs[i]? = some q → ks[i]? = some k → upd (upd H0 pb (.lst (bs.map V.ref))) p (.lst (qs.map V.ref)) q = some (.tup [.int (k.1 : Nat), .int (k.2 : Nat)]) := fun i q k a b => s1' _ _ (hq i q k a b)
      have S1 := s0.trans s2'
      refine ⟨p, rfl, ⟨_, .of upd_same⟩, fun D hD => ?_⟩
      generalize upd (upd H0 pb (.lst (bs.map V.ref))) p (.lst (qs.map V.ref)) = H1 at hD hd1 tb1 hp1 hq1 S1
      refine lc_it (walk_list (K := K) (a := p) (xs := qs.map V.ref)) (fun i H' => ∃ us : List Addr, H' D = some (.lst (us.map V.ref)) ∧ RowsL H' us (tabK M (ks.take i)) ∧ Same H1 H') ⟨[], upd_same, by rw [List.take_zero]; exact RowsL.nil, same_upd hD⟩ (fun i H' _ ⟨_, _, _, sx⟩ => .of (sx _ _ hp1)) ?_ ?_
      · rintro i x H2 H2' hi ⟨us, hR, tR, s2⟩ ⟨eH, hx⟩
        rw [eH]
        clear eH H2'
        rw [List.length_map] at hi
        obtain ⟨q', eq', rfl⟩ := map_of hx
        have hki : i < ks.length := by omega
        have ek : ks[i]? = some ks[i] := List.getElem?_eq_getElem hki
        have hkq := s2 _ _ (hq1 i q' _ eq' ek)
        have hkm : ks[i] ∈ M.map (·.1) := kp.mem_iff.mp (List.getElem_mem hki)
        have etk : tabK M (ks.take (i + 1)) = tabK M (ks.take i) ++ (if ((vAt M ks[i]).getD zz).1 ≠ 0 then [(ks[i], (vAt M ks[i]).getD zz)] else []) := by
          unfold tabK
          rw [List.take_add_one, ek, List.map_append, List.filter_append]
          congr 1
          show List.filter _ [(ks[i], (vAt M ks[i]).getD zz)] = _
          by_cases z : ((vAt M ks[i]).getD zz).1 = 0
          · rw [List.filter_cons_of_neg (by simp [z]), if_neg (by simp [z])]
            rfl
          · rw [List.filter_cons_of_pos (by simp [z]), if_pos z]
            rfl
        generalize hkk : ks[i] = k at ek hkq hkm etk
        rcases (tb1.same s2).val k with ⟨h1, _⟩ | ⟨pv', r, h1, h2, hr'⟩
        · exact absurd hkm (vAt_none.mp h1)
        rw [h1] at etk
        have hd2 := s2 _ _ hd1
        refine ⟨q', _, rfl, SqT.of hkq, rfl, _, _, rfl, _, _, rfl, rfl, ?_⟩
        refine ⟨rfl, _, rfl, _, rfl, _, rfl, (by show 2 ≤ sizeLine; decide), fun t1 ht1 => ?_⟩
        have s3 := same_upd (o := .tup [V.int (k.1 : Nat), .int (k.2 : Nat)]) ht1
        have g2 := DGet.t (k := kk k) (s3 _ _ hd2) upd_same
        rw [h2] at g2
        refine ⟨d, _, rfl, g2, r, _, _, _, rfl, rfl, .of (s3 _ _ hr'), at0 _ _, rfl, _, rfl, ?_⟩
        by_cases z : pv'.1 = 0
        · rw [show (!decide (V.int pv'.1 = V.int 0)) = false by rw [z]; rfl]
          refine iteF ⟨us, s3 _ _ hR, ?_, s2.trans s3⟩
          rw [etk]
          show RowsL _ us (_ ++ if pv'.1 ≠ 0 then _ else _)
          rw [if_neg (by simp [z]), List.append_nil]
          exact tR.same s3
        · rw [show (!decide (V.int pv'.1 = V.int 0)) = true by rw [decide_eq_false (fun y => z (V.int.inj y))]; rfl]
          refine iteT ⟨_, rfl, _, rfl, _, rfl, _, rfl, _, rfl, (by show 2 ≤ sizeLine; decide), fun t2 ht2 => ?_⟩
          have s4 := s3.trans (same_upd (o := .tup [V.int (k.1 : Nat), .int (k.2 : Nat)]) ht2)
          have g3 := DGet.t (k := kk k) (s4 _ _ hd2) upd_same
          rw [h2] at g3
          refine ⟨d, _, rfl, g3, (by show 3 ≤ sizeLine; decide), fun t3 ht3 => ?_⟩
          have s5 := s4.trans (same_upd (o := .tup [V.int (k.1 : Nat), .int (k.2 : Nat), .ref r]) ht3)
          refine ⟨_, s5 _ _ hR, ?_, us ++ [t3], by rw [upd_same, List.map_append]; rfl, ?_, Same.put (s2.trans s5) hD⟩
          · rw [List.length_map, tR.len]
            have l1 : (tabK M (ks.take i)).length ≤ (ks.take i).length := by
              unfold tabK
              refine Nat.le_trans (List.length_filter_le _ _) ?_
              rw [List.length_map]
              exact Nat.le_refl _
            have l2 := List.length_take_le i ks
            have l3 := kp.length_eq
            rw [List.length_map] at l3
            exact small1000 (by omega)
          · rw [etk]
            show RowsL _ _ (_ ++ if pv'.1 ≠ 0 then [(k, pv')] else [])
            rw [if_pos z]
            have hR5 := s5 _ _ hR
            have mv : ∀ b xs, upd (upd (upd H2 t1 (.tup [V.int (k.1 : Nat), .int (k.2 : Nat)])) t2 (.tup [V.int (k.1 : Nat), .int (k.2 : Nat)])) t3 (.tup [V.int (k.1 : Nat), .int (k.2 : Nat), .ref r]) b = some (.tup xs) → upd (upd (upd (upd H2 t1 (.tup [V.int (k.1 : Nat), .int (k.2 : Nat)])) t2 (.tup [V.int (k.1 : Nat), .int (k.2 : Nat)])) t3 (.tup [V.int (k.1 : Nat), .int (k.2 : Nat), .ref r])) D (.lst (us.map V.ref ++ [.ref t3])) b = some (.tup xs) := fun b xs e => (upd_ne (fun z => by rw [z, hR5] at e; cases e)).trans e
            exact ((tR.same s5).keep mv).snoc (e := (k, pv')) (mv _ _ upd_same) (mv _ _ (s5 _ _ hr'))
      · rintro H2 ⟨us, hR, tR, s2⟩
        rw [List.length_map, ← lks, List.take_length] at tR
        exact q D us (tabK M ks) H2 hR tR (tab_canon mg' gr kp kw) (none_of hD S1) (S1.trans s2)
end
end K37

set_option Elab.async false
set_option linter.all false
set_option maxRecDepth 100000
set_option maxHeartbeats 4000000
/-! A def handed a lambda as it is written; an instance called with keywords alone. -/
namespace Ux
open PySem PySem.Spec PyProof.Rows L2 LamX
theorem pe_lamvalL {X : Cx} {ds : List LamD} {es : List LamE} {te : TE} {TT : (XK → Hp → VK → Prop) → Hp → VK → Prop} {x a : Str} {g : Addr} {k : Nat} {pg : Arguments} {bg : List Stmt} {sg : Scope} {dV kV doc pm cdv ct oc : Value} {an od : Option Addr} {osl : Array (Option Value)} {Ng : List Str} {p pos lpos : Pos} {lps : Arguments} {lb : Expr} {lsc : Scope}
    (hg : Gl X x) (hm : X.mg x = some (.ref g)) (hk : PySem.W.keepIn X.K (.ref g) = true) (lk : X.K.lookup g = some ⟨oc, od, .func (PySem.W.fnOf x x pg bg sg dV kV doc pm an cdv ct), osl⟩) (hcg : PySem.W.codeIn X.K cdv x = true)
    (hb : L2.Binds X.K (PySem.W.fnOf x x pg bg sg dV kV doc pm an cdv ct) [a] []) (Sg : FnScope Ng [a] sg) (hNg : Ng[0]? = some a) (hva : Vis sg a) (hG : GivesTo X Ng x sg g cdv bg a (X.env.qual ++ "<lambda>") TT) (hr : Room (k + 2) X.A)
    (hds : ∀ d ∈ ds, LamOk X k d) (hes : ∀ d ∈ es, LamOkE X k d) (he : PE X (.Lambda lps lb lsc lpos) te) (hdb : (x == ("__debug__" : Str)) = false := by decide) (hd : (a == ("__debug__" : Str)) = false := by decide) (hcd : (a == ("__classdict__" : Str)) = false := by decide) :
    PE X (.Call (.Name x p) [.Lambda lps lb lsc lpos] [] pos) (tLamCallM X.env.cells (X.env.qual ++ "<lambda>") TT ds es te) := by
  refine ⟨fun pins s σ H Q I h => wpAny_Call_Name_kw (ld_glob I hg hm ?_ hdb)⟩
  refine PySem.W.callWith_K (h₀ := X.base) I.ok.mod.kin hk (show wpAny _ _ (spliced ((false, eval (.Lambda lps lb lsc lpos) X.env) :: backTo pos (starEach [] X.env))) _ _ s from ?_) (by rfl) (by rfl)
  refine Calls.spliced_cons (thn (he.run pins s σ H _ I h) fun u s' ⟨v, H1, I1, rv, hq⟩ => ?_)
  rcases hq with ⟨f, c', d, hmem, rfl, la, htt⟩ | ⟨f, c', T, d, hmem, rfl, la, htt⟩
  · obtain rfl : u = Value.ref f := rv
    refine Calls.spliced_nil ⟨I1.kIn, wpAny_call (codeAny_mono (run_ofS (CX := C8.CX0) (E := C8.E0) (Q := Q) (N := Ng) (ps := [a]) (us := [.ref f]) (vs := [.ref f]) lk hcg Sg hr I1.env0 (hb s' [.ref f] I1.kIn rfl) (.cons rfl .nil) rfl fun hr2 => ?_) fun r s2 hq => ?_)⟩
    · obtain ⟨t', ht', hq'⟩ := hG f c' s' H1 Q (fun E H' Q' => H' f = some (LamO X.env.cells (X.env.qual ++ "<lambda>") d f c') ∧ d.t E σ H' Q') (fun W pn xe E p1 p2 tk hW => pe_actV (i := 0) I1 (hds d hmem) tk hW hr2 hNg hva hd hcd) la.co htt
      exact ⟨t', ht'.nox, hq'⟩
    · rcases r with e | (_ | _ | _ | u)
      · exact (show False from hq).elim
      · exact False.elim hq
      · exact False.elim hq
      · exact False.elim hq
      · exact I1.after hq
  · obtain rfl : u = Value.ref f := rv
    refine Calls.spliced_nil ⟨I1.kIn, wpAny_call (codeAny_mono (run_ofS (CX := C8.CX0) (E := C8.E0) (Q := Q) (N := Ng) (ps := [a]) (us := [.ref f]) (vs := [.ref f]) lk hcg Sg hr I1.env0 (hb s' [.ref f] I1.kIn rfl) (.cons rfl .nil) rfl fun hr2 => ?_) fun r s2 hq => ?_)⟩
    · obtain ⟨t', ht', hq'⟩ := hG f c' s' H1 Q (fun E H' Q' => LamAtE X.env.cells (X.env.qual ++ "<lambda>") H' d f c' T ∧ d.t E σ H' Q') (fun W pn xe E p1 p2 tk hW => pe_actE (i := 0) (T := T) I1 (hes d hmem) tk hW hr2 hNg hva hd hcd) la.co htt
      exact ⟨t', ht'.nox, hq'⟩
    · rcases r with e | (_ | _ | _ | u)
      · exact (show False from hq).elim
      · exact False.elim hq
      · exact False.elim hq
      · exact False.elim hq
      · exact I1.after hq
end Ux
namespace Ux
open PySem PySem.Spec PyProof.Rows L2 StX
section
variable {X : Cx} {CX : CXT} {k : Nat} {C : Addr} {sp : Sp} {E : XK} {fe : Expr} {tf : TE} {tk : TA} {pos : Pos} {kws : List Keyword} {ks ps : List Str} {fd : FuncData} {gg : List Value → List Value → List Value} {gV : List V → List V → List V}
theorem callO_kws {M : Model} {A : Around} {E : Value → Shared → Prop} {s : Shared} {a : Addr} {pos : Pos} {Q : Value → Shared → Prop} {kws : List (Option Str × Sem Value)} (hall : kws.all (·.1.isSome) = true) (hplain : kws.any (·.1.isNone) = false)
    (h : wpAny M A (evalAll (kws.map (·.2))) (fun zs s₁ => (∃ C ox od, PySem.W.InstAt s₁.heap a ox C od ∧ ox.data = .plain) ∧ wpAny M A (call (.ref a) ([] ++ []) ((kws.filterMap (·.1)).zip zs)) Q E s₁) E s) : wpAny M A (callWith pos (.ref a) [] [] kws) Q E s := by
  unfold callWith
  refine wpAny_bind (wpAny_holding (evalArgs_kw_nil hall (wpAny_mono h (fun zs s₁ h₁ => wpAny_bind (wpAny_standAt ?_)) fun _ _ y => y)))
  obtain ⟨⟨C, ox, od, J, hd⟩, h₁⟩ := h₁
  have L := PySem.W.kco_keeper (M := M) J hd
  simp only [hplain, List.any_nil, Bool.or_false]
  refine wpAny_bind (L.here ?_)
  have tail : ∀ {t : Sem Value}, wpAny M A t Q E s₁ → wpAny M A (t >>= fun r => holding [r] point >>= fun _ => pure r) Q E s₁ :=
    fun ht => wpAny_bind (wpAny_mono ht (fun r s₂ hr => wpAny_bind (wpAny_holding (wpAny_point (wpAny_pure hr)))) fun _ _ y => y)
  exact tail (wpAny_operateT h₁)
/-- f(k = e, ..), f an expression that gives an instance of C -/
def tCallOK (X : Cx) (C : Addr) (sp : Sp) (gV : List V → List V → List V) (E : XK) (tf : TE) (tk : TA) : TE := fun σ H Q => tf σ H fun y H1 => ∃ a, y = V.ref a ∧ tk σ H1 fun zs H2 => InsC X H2 a C ∧ sp (gV [.ref a] zs) H2 Q E
theorem pe_callOK {g : Addr} (hf : PE X fe tf) (c : CallO X.K C g) (F : FnOk X.prog X.w X.K X.mg X.base CX k g fd ps sp) (hr : Room k X.A) (hb : KBinds X.K fd ps ks gg gV) (hx : Passes CX X E) (hkw : PK X kws tk)
    (hall : (backToKw pos (keywordEach kws X.env)).all (·.1.isSome) = true := by rfl) (hks : (backToKw pos (keywordEach kws X.env)).filterMap (·.1) = ks := by rfl)
    (ht : eval (.Call fe [] kws pos) X.env = (do callWith pos (← eval fe X.env) [] (backTo pos (starEach [] X.env)) (backToKw pos (keywordEach kws X.env))) := by rfl)
    (hpl : (backToKw pos (keywordEach kws X.env)).any (·.1.isNone) = false := by rfl) : PE X (.Call fe [] kws pos) (tCallOK X C sp gV E tf tk) := by
  refine ⟨fun pins s σ H Q I h => ?_⟩
  rw [ht]
  refine wpAny_bind (thn (hf.run pins s σ H _ I h) fun u s1 ⟨y, H1, I1, ry, a, ey, q⟩ => ?_)
  subst ey
  obtain rfl : u = Value.ref a := ry
  show wpAny _ _ (callWith pos (.ref a) [] [] (backToKw pos (keywordEach kws X.env))) _ _ _
  refine callO_kws hall hpl (thn (hkw.run pos pins s1 σ H1 _ I1 q) fun ws s2 ⟨zs, H2, I2, rz, hi, q2⟩ => ?_)
  obtain ⟨ox, od, J, hd⟩ := insC_at I2 hi
  refine ⟨⟨C, ox, od, J, hd⟩, ?_⟩
  rw [hks]
  have hl := F.len _ _ _ _ q2
  have r2 := hb.rel (vs := [V.ref a]) (us := [Value.ref a]) (.cons rfl .nil) rz
  have hl2 : (gg [.ref a] ws).length = ps.length := by rw [← r2.length]; exact hl
  refine wpAny_call (PySem.W.kco_code I2.kIn J hd c.at_ c.fn c.fi (codeAny_mono (F.run X.A X.stack s2 H2 ⟨[.ref a], ks.zip ws⟩ (gg [.ref a] ws) (gV [.ref a] zs) Q E hr I2.env0 (hb.to s2 [.ref a] ws I2.kIn hl2) r2 q2) fun r s' hq => ?_))
  cases r with
  | error e => exact hx pins σ H2 s2 e s' I2 hq
  | ok fl =>
    cases fl with
    | ret u => exact I2.after hq
    | next => exact False.elim hq
    | brk => exact False.elim hq
    | cont => exact False.elim hq
end
end Ux

set_option Elab.async false
set_option linter.all false
set_option maxRecDepth 100000
set_option maxHeartbeats 1000000
set_option pp.maxSteps 500
namespace K37
open PySem PySem.Spec PyProof.Rows L2 Ux
abbrev sLaw : Stmt := top 47
abbrev nLaw : List Str := ["_law_script", "_law_bag_here", "_law_rows", "_law_handed", "_law_sheet", "_law_due", "_law_text", "_law_again", "_law_found", "_law_told", "_law_left", "_law_right", "_law_at", "_law_by", "_law_values", "_law_steep", "_law_turned", "_law_odd", "_law_far", "_law_asks", "_law_fields", "_law_k", "_law_one", "_law_other", "_law_worth", "_law_row", "_law_orders", "_law_ask"]
theorem scLaw : FnScope nLaw ["_law_script"] (defScope sLaw) := ⟨rfl, rfl, rfl, by decide +kernel, rfl, by decide +kernel, by decide +kernel⟩
def qn : Str := (envOfC "law" (defScope sLaw) 0 0 .none).qual ++ "<lambda>"
/-! ### rows and lists of fractions as data -/
def pds (ps : List PQ) : List PyData := ps.map fun p => .tuple [.int p.1, .int p.2]
theorem pds_dp {K : PySem.W.Frag} {H : Hp} : ∀ {rs : List Addr} {ps : List PQ}, TupsAt H rs ps → DpAll K H (rs.map V.ref) (pds ps)
  | [], [], _ => .nil
  | [], _ :: _, h => by cases h.len
  | _ :: _, [], h => by cases h.len
  | r :: rs, p :: ps, h => .cons (.tup (.of (h.at_ 0 r p rfl rfl)) (.cons (.int _) (.cons (.int _) .nil))) (pds_dp ⟨Nat.succ.inj h.len, fun i a b ha hb => h.at_ (i + 1) a b ha hb⟩)
theorem pds_lay : ∀ ps : List PQ, PyData.canLayAll0 (pds ps) = true
  | [] => rfl
  | p :: ps => by
    show (PyData.canLay0 (.tuple [.int p.1, .int p.2]) && PyData.canLayAll0 (pds ps)) = true
    rw [pds_lay ps]
    rfl
theorem pds_depth : ∀ ps : List PQ, PyData.depthAll (pds ps) ≤ 1
  | [] => Nat.zero_le _
  | p :: ps => by
    show max (PyData.depth (.tuple [.int p.1, .int p.2])) (PyData.depthAll (pds ps)) ≤ 1
    have := pds_depth ps
    have e : PyData.depth (.tuple [.int p.1, .int p.2]) = 1 := rfl
    omega
theorem pds_shaped (ps : List PQ) : SeqAt.shaped (.list (pds ps)) = true := by
  unfold SeqAt.shaped
  have e1 : (PyData.list (pds ps)).canLay0 = true := pds_lay ps
  have e2 : (PyData.list (pds ps)).depth = PyData.depthAll (pds ps) + 1 := rfl
  have := pds_depth ps
  rw [e1, e2, decide_eq_true (by omega)]
  rfl
theorem pds_self (ps : List PQ) : PyData.eqv (.list (pds ps)) (.list (pds ps)) = true := SeqAt.eqv_refl _ (pds_lay ps)
def rowD (e : KY × PQ) : PyData := .tuple [.int (e.1.1 : Nat), .int (e.1.2 : Nat), .tuple [.int e.2.1, .int e.2.2]]
def rds (T : RW) : List PyData := T.map rowD
theorem rds_dp {K : PySem.W.Frag} {H : Hp} : ∀ {us : List Addr} {T : RW}, RowsL H us T → DpAll K H (us.map V.ref) (rds T)
  | [], [], _ => .nil
  | [], _ :: _, h => by cases h.len
  | _ :: _, [], h => by cases h.len
  | u :: us, e :: T, h => by
    obtain ⟨r, h1, h2⟩ := h.at_ 0 u e rfl rfl
    exact .cons (.tup (.of h1) (.cons (.int _) (.cons (.int _) (.cons (.tup (.of h2) (.cons (.int _) (.cons (.int _) .nil))) .nil)))) (rds_dp ⟨Nat.succ.inj h.len, fun i a b ha hb => h.at_ (i + 1) a b ha hb⟩)
theorem rds_lay : ∀ T : RW, PyData.canLayAll0 (rds T) = true
  | [] => rfl
  | e :: T => by
    show (PyData.canLay0 (rowD e) && PyData.canLayAll0 (rds T)) = true
    rw [rds_lay T]
    rfl
theorem rds_depth : ∀ T : RW, PyData.depthAll (rds T) ≤ 2
  | [] => Nat.zero_le _
  | e :: T => by
    show max (PyData.depth (rowD e)) (PyData.depthAll (rds T)) ≤ 2
    have := rds_depth T
    have e : PyData.depth (rowD e) = 2 := rfl
    omega
theorem rds_shaped (T : RW) : SeqAt.shaped (.list (rds T)) = true := by
  unfold SeqAt.shaped
  have e1 : (PyData.list (rds T)).canLay0 = true := rds_lay T
  have e2 : (PyData.list (rds T)).depth = PyData.depthAll (rds T) + 1 := rfl
  have := rds_depth T
  rw [e1, e2, decide_eq_true (by omega)]
  rfl
theorem rowD_eqv (e f : KY × PQ) : PyData.eqv (rowD e) (rowD f) = decide (e = f) := by
  obtain ⟨⟨a, b⟩, c, d⟩ := e
  obtain ⟨⟨a', b'⟩, c', d'⟩ := f
  unfold rowD
  simp only [PyData.eqv, PyData.eqvAll]
  rw [Bool.eq_iff_iff]
  simp [Prod.ext_iff, and_assoc]
  rw [Int.natCast_inj, Int.natCast_inj]
theorem rds_all : ∀ T U : RW, PyData.eqvAll (rds T) (rds U) = decide (T = U)
  | [], [] => rfl
  | [], _ :: _ => rfl
  | _ :: _, [] => rfl
  | e :: T, f :: U => by
    show (PyData.eqv (rowD e) (rowD f) && PyData.eqvAll (rds T) (rds U)) = _
    rw [rowD_eqv, rds_all T U, Bool.eq_iff_iff]
    simp
theorem rds_eqv (T U : RW) : PyData.eqv (.list (rds T)) (.list (rds U)) = decide (T = U) := rds_all T U
/-! ### the lambdas -/
def es17 : List Expr := match List.getD (defBody sLaw) 17 (Stmt.Pass ⟨0, 0, 0, 0⟩) with
  | Stmt.Assign _ (.List es _) _ => es
  | _ => []
def es18 : List Expr := match List.getD (defBody sLaw) 18 (Stmt.Pass ⟨0, 0, 0, 0⟩) with
  | Stmt.Assign _ (.BinOp _ _ (.List es _) _) _ => es
  | _ => []
def lamE (i : Nat) : Expr := if i < 3 then List.getD es17 i (Expr.Constant .none 0 ⟨0, 0, 0, 0⟩) else List.getD es18 0 (Expr.Constant .none 0 ⟨0, 0, 0, 0⟩)
def lamPa (i : Nat) : Arguments := match lamE i with
  | .Lambda p _ _ _ => p
  | _ => defArgs sLaw
def lamBo (i : Nat) : Expr := match lamE i with
  | .Lambda _ b _ _ => b
  | e => e
def lamSc (i : Nat) : Scope := match lamE i with
  | .Lambda _ _ s _ => s
  | _ => defScope sLaw
/-- the odd values -/
def OddV (v : V) : Prop := v = .int (-1) ∨ v = .non ∨ v = .bl true ∨ v = .str "0"
theorem OddV.badP {K : PySem.W.Frag} {H : Hp} {v : V} (h : OddV v) : BadP K H v := by
  rcases h with rfl | rfl | rfl | rfl
  · exact .inl ⟨-1, rfl, by decide⟩
  · exact .inr ⟨_, false, false, .base .non, kit_ty (by decide +kernel), kit_ty (by decide +kernel), rfl⟩
  · exact .inr ⟨_, true, true, .base (.bl _), kit_ty (by decide +kernel), kit_ty (by decide +kernel), rfl⟩
  · exact .inr ⟨_, false, false, .base (.str _), kit_ty (by decide +kernel), kit_ty (by decide +kernel), rfl⟩
theorem OddV.adm {K : PySem.W.Frag} {H : Hp} {v : V} (h : OddV v) : Adm K H v := by
  rcases h with rfl | rfl | rfl | rfl
  · exact .int (by decide)
  · exact .non
  · exact .yes
  · exact .str (by decide +kernel)
theorem OddV.like {H : Hp} {n : Nat} {v : V} (h : OddV v) : Like H (n + 1) v v := by
  rcases h with rfl | rfl | rfl | rfl
  · exact .inl ⟨rfl, .inr (.inr (.inl ⟨_, rfl⟩))⟩
  · exact .inl ⟨rfl, .inl rfl⟩
  · exact .inl ⟨rfl, .inr (.inl ⟨_, rfl⟩)⟩
  · exact .inl ⟨rfl, .inr (.inr (.inr ⟨_, rfl⟩))⟩
def tl0 (K : PySem.W.Frag) (CR CC CI : Addr) (E : XK) : TE := tMeth CC "slope_sheet" (spSSl K CC CR CI) [] E (tVar 4) (tCons (tVar 17) tNil)
def tl1 (K : PySem.W.Frag) (CR CC CI : Addr) (E : XK) : TE := tMake CC (spSIn K CR CC CI) [] E (tCons (tLst (tCons (tTup (tCons (tC (.int 0)) (tCons (tC (.int 1)) (tCons (tC (.int 2)) tNil)))) (tCons (tTup (tCons (tVar 18) (tCons (tC .non) (tCons (tC (.int 3)) tNil)))) tNil))) tNil)
def tl2 (K : PySem.W.Frag) (CR CC CI : Addr) (E : XK) : TE := tMake CC (spSIn K CR CC CI) [] E (tCons (tLst (tCons (tTup (tCons (tC (.int 0)) (tCons (tVar 18) (tCons (tC .non) tNil)))) tNil)) tNil)
def tl3 (K : PySem.W.Frag) (CR CC CI : Addr) (E : XK) : TE := tMake CC (spSIn K CR CC CI) [] E (tCons (tLst (tCons (tTup (tCons (tC (.int 1)) (tCons (tC (.int 1)) (tCons (tC .non) tNil)))) (tCons (tTup (tCons (tVar 18) (tCons (tC (.int 1)) (tCons (tC (.int 1)) tNil)))) tNil))) tNil)
structure CxN (CC : Addr) (σ : L2.St) (H : Hp) (c L : Addr) (v u : V) : Prop where
  c4 : σ[4]? = some (some (.ref c))
  c17 : σ[17]? = some (some v)
  c18 : σ[18]? = some (some u)
  hc : ∃ dx, H c = some (.ins CC dx (sf L))
  ov : OddV v ∨ v = .int 2
  ou : OddV u
section
variable {K : PySem.W.Frag} {mg : Str → Option Value} {CR CC CI : Addr} {σ : L2.St} {H : Hp} {Q : VK} {E : XK} {c L : Addr} {v u : V}
theorem lr0 (x : CxN CC σ H c L v u) (k : RaisesN CI v H E) : tl0 K CR CC CI E σ H Q := by
  obtain ⟨dx, hc⟩ := x.hc
  refine ⟨_, x.c4, c, dx, _, rfl, hc, sf_no L (by decide +kernel), _, x.c17, .inr ⟨c, v, rfl, ?_, ?_, k⟩⟩
  · rcases x.ov with h | rfl
    · rcases h with rfl | h
      · exact .inl ⟨-1, rfl, by decide, by decide⟩
      · rcases OddV.badP (K := K) (H := H) (Or.inr h) with ⟨i, rfl, _⟩ | h
        · rcases h with h | h | h <;> cases h
        · exact .inr h
    · exact .inl ⟨2, rfl, by decide, by decide⟩
  · rcases x.ov with h | rfl
    · exact h.adm
    · exact .int (by decide)
theorem lr1 (T : RT K mg CR) (x : CxN CC σ H c L v u) (k : RaisesN CI u H E) : tl1 K CR CC CI E σ H Q := by
  refine ⟨(by show 3 ≤ sizeLine; decide), fun t1 h1 => ⟨_, x.c18, (by show 3 ≤ sizeLine; decide), fun t2 h2 => ⟨(by show 2 ≤ sizeLine; decide), fun l hl => fun y dy ny nd ne => ?_⟩⟩⟩
  have s1 := same_upd (o := .tup [V.int 0, .int 1, .int 2]) h1
  have s2 := same_upd (o := .tup [u, V.non, .int 3]) h2
  have s3 := same_upd (o := .lst [V.ref t1, .ref t2]) hl
  have sn : Same _ (upd (upd _ dy (.own y)) y (.ins CC dy [])) := made_same ny nd But.refl
  have S := ((s1.trans s2).trans s3).trans sn
  refine ⟨y, dy, l, [t1, t2], rfl, upd_same, .of (sn _ _ upd_same), .inr ⟨1, t2, u, rfl, fun i t hi ht => ?_, ?_, x.ou.adm, fun d H' s hd => k d H' (S.trans s) hd⟩⟩
  · obtain rfl : i = 0 := by omega
    cases Option.some.inj ht
    exact ⟨_, _, _, ((2 : Int), (1 : Int)), (s2.trans (s3.trans sn)) _ _ upd_same, ⟨0, rfl, by decide⟩, ⟨1, rfl, by decide⟩, .inr ⟨rfl, rfl⟩⟩
  · exact ⟨_, _, _, (s3.trans sn) _ _ upd_same, .inl ⟨rfl, x.ou.badP⟩⟩
theorem lr2 (x : CxN CC σ H c L v u) (k : RaisesN CI u H E) : tl2 K CR CC CI E σ H Q := by
  refine ⟨_, x.c18, (by show 3 ≤ sizeLine; decide), fun t1 h1 => ⟨(by show 1 ≤ sizeLine; decide), fun l hl => fun y dy ny nd ne => ?_⟩⟩
  have s1 := same_upd (o := .tup [V.int 0, u, .non]) h1
  have s3 := same_upd (o := .lst [V.ref t1]) hl
  have sn : Same _ (upd (upd _ dy (.own y)) y (.ins CC dy [])) := made_same ny nd But.refl
  have S := (s1.trans s3).trans sn
  refine ⟨y, dy, l, [t1], rfl, upd_same, .of (sn _ _ upd_same), .inr ⟨0, t1, u, rfl, fun i t hi ht => absurd hi (by omega), ?_, x.ou.adm, fun d H' s hd => k d H' (S.trans s) hd⟩⟩
  exact ⟨_, _, _, (s3.trans sn) _ _ upd_same, .inr (.inl ⟨rfl, ⟨0, rfl, by decide⟩, x.ou.badP⟩)⟩
theorem lr3 (T : RT K mg CR) (x : CxN CC σ H c L v u) (k : RaisesN CI .non H E) : tl3 K CR CC CI E σ H Q := by
  refine ⟨(by show 3 ≤ sizeLine; decide), fun t1 h1 => ⟨_, x.c18, (by show 3 ≤ sizeLine; decide), fun t2 h2 => ⟨(by show 2 ≤ sizeLine; decide), fun l hl => fun y dy ny nd ne => ?_⟩⟩⟩
  have s1 := same_upd (o := .tup [V.int 1, .int 1, .non]) h1
  have s2 := same_upd (o := .tup [u, V.int 1, .int 1]) h2
  have s3 := same_upd (o := .lst [V.ref t1, .ref t2]) hl
  have sn : Same _ (upd (upd _ dy (.own y)) y (.ins CC dy [])) := made_same ny nd But.refl
  have S := ((s1.trans s2).trans s3).trans sn
  refine ⟨y, dy, l, [t1, t2], rfl, upd_same, .of (sn _ _ upd_same), .inr ⟨0, t1, .non, rfl, fun i t hi ht => absurd hi (by omega), ?_, .non, fun d H' s hd => k d H' (S.trans s) hd⟩⟩
  exact ⟨_, _, _, (s2.trans (s3.trans sn)) _ _ upd_same, .inr (.inr ⟨rfl, ⟨1, rfl, by decide⟩, ⟨1, rfl, by decide⟩, ⟨_, false, false, .base .non, T.kN, kit_ty (by decide +kernel), kit_ty (by decide +kernel), rfl⟩⟩)⟩
end
def d0 (K : PySem.W.Frag) (CR CC CI : Addr) : LamD := ⟨lamPa 0, lamBo 0, lamSc 0, tl0 K CR CC CI⟩
def d1 (K : PySem.W.Frag) (CR CC CI : Addr) : LamE := ⟨lamPa 1, lamBo 1, lamSc 1, tl1 K CR CC CI, "_law_a", .int 0⟩
def d2 (K : PySem.W.Frag) (CR CC CI : Addr) : LamE := ⟨lamPa 2, lamBo 2, lamSc 2, tl2 K CR CC CI, "_law_b", .int 0⟩
def d3 (K : PySem.W.Frag) (CR CC CI : Addr) : LamD := ⟨lamPa 3, lamBo 3, lamSc 3, tl3 K CR CC CI⟩
theorem sc1 : lamSEB nLaw (defScope sLaw) (lamSc 1) "_law_a" = true := by decide +kernel
theorem sc2 : lamSEB nLaw (defScope sLaw) (lamSc 2) "_law_b" = true := by decide +kernel
structure LamH (X : Cx) (CR CC CI fi fs : Addr) (fdi fds : FuncData) : Prop where
  N : X.N = nLaw
  sc : X.env.scope = defScope sLaw
  gC : X.mg "Sheet" = some (.ref CC)
  cC : Cls X.K CC
  M : Mk X.K CC fi
  G : FnOk X.prog X.w X.K X.mg X.base (L2.CX X.prog X.w) 7 fi fdi ["self", "rows"] (spSIn X.K CR CC CI)
  b : Binds X.K fdi ["self", "rows"] []
  MS : Meth X.K CC "slope_sheet" fs
  GS : FnOk X.prog X.w X.K X.mg X.base (L2.CX X.prog X.w) 9 fs fds ["self", "which"] (spSSl X.K CC CR CI)
  bS : Binds X.K fds ["self", "which"] []
section
variable {X : Cx} {CR CC CI fi fs : Addr} {fdi fds : FuncData}
theorem lo0 (h : LamH X CR CC CI fi fs fdi fds) : LamOk X 9 (d0 X.K CR CC CI) := by
  obtain ⟨hN, hsc, gC, cC, M, G, b, MS, GS, bS⟩ := h
  refine ⟨LamX.lamS_by (by rw [hsc]; rfl), fun _ _ _ _ _ => rfl, fun A outer s H E f c hr => ?_⟩
  show PE (LamX.lamCx X A outer s H E (lamSc 0) f c) (lamBo 0) (tMeth CC "slope_sheet" (spSSl X.K CC CR CI) [] E (tVar 4) (tCons (tVar 17) tNil))
  exact pe_meth (E := E) (pv 4 (by show X.N[4]? = _; rw [hN]; rfl)) cC MS GS hr bS .nil (passes_call (takes_of rfl rfl rfl rfl) fun _ _ _ _ z => z) (pa_cons (pv 17 (by show X.N[17]? = _; rw [hN]; rfl)) pa_nil)
theorem lo1 (h : LamH X CR CC CI fi fs fdi fds) : LamOkE X 9 (d1 X.K CR CC CI) := by
  obtain ⟨hN, hsc, gC, cC, M, G, b, MS, GS, bS⟩ := h
  refine ⟨lamSE_by (by rw [hsc, hN]; exact sc1), fun _ _ _ _ _ _ _ => ⟨_, rfl, rfl⟩, fun A outer s H E f c hr => ?_⟩
  show PE (LamX.lamCx X A outer s H E (lamSc 1) f c) (lamBo 1) (tl1 X.K CR CC CI E)
  exact pe_make (E := E) M G (hr.mono (by decide)) (by rfl) gC b .nil (passes_call (takes_of rfl rfl rfl rfl) fun _ _ _ _ z => z) (pa_cons (pe_lst (pa_cons (pe_tup (pa_cons pe_int (pa_cons pe_int (pa_cons pe_int pa_nil)))) (pa_cons (pe_tup (pa_cons (pv 18 (by show X.N[18]? = _; rw [hN]; rfl)) (pa_cons pe_non (pa_cons pe_int pa_nil)))) pa_nil))) pa_nil)
theorem lo2 (h : LamH X CR CC CI fi fs fdi fds) : LamOkE X 9 (d2 X.K CR CC CI) := by
  obtain ⟨hN, hsc, gC, cC, M, G, b, MS, GS, bS⟩ := h
  refine ⟨lamSE_by (by rw [hsc, hN]; exact sc2), fun _ _ _ _ _ _ _ => ⟨_, rfl, rfl⟩, fun A outer s H E f c hr => ?_⟩
  show PE (LamX.lamCx X A outer s H E (lamSc 2) f c) (lamBo 2) (tl2 X.K CR CC CI E)
  exact pe_make (E := E) M G (hr.mono (by decide)) (by rfl) gC b .nil (passes_call (takes_of rfl rfl rfl rfl) fun _ _ _ _ z => z) (pa_cons (pe_lst (pa_cons (pe_tup (pa_cons pe_int (pa_cons (pv 18 (by show X.N[18]? = _; rw [hN]; rfl)) (pa_cons pe_non pa_nil)))) pa_nil)) pa_nil)
theorem lo3 (h : LamH X CR CC CI fi fs fdi fds) : LamOk X 9 (d3 X.K CR CC CI) := by
  obtain ⟨hN, hsc, gC, cC, M, G, b, MS, GS, bS⟩ := h
  refine ⟨LamX.lamS_by (by rw [hsc]; rfl), fun _ _ _ _ _ => rfl, fun A outer s H E f c hr => ?_⟩
  show PE (LamX.lamCx X A outer s H E (lamSc 3) f c) (lamBo 3) (tl3 X.K CR CC CI E)
  exact pe_make (E := E) M G (hr.mono (by decide)) (by rfl) gC b .nil (passes_call (takes_of rfl rfl rfl rfl) fun _ _ _ _ z => z) (pa_cons (pe_lst (pa_cons (pe_tup (pa_cons pe_int (pa_cons pe_int (pa_cons pe_non pa_nil)))) (pa_cons (pe_tup (pa_cons (pv 18 (by show X.N[18]? = _; rw [hN]; rfl)) (pa_cons pe_int (pa_cons pe_int pa_nil)))) pa_nil))) pa_nil)
end
end K37

set_option Elab.async false
set_option linter.all false
set_option maxRecDepth 100000
set_option maxHeartbeats 1000000
set_option pp.maxSteps 500
namespace K37
open PySem PySem.Spec PyProof.Rows L2 Ux
theorem bag_ne {H : Hp} {b L : Addr} {n : Nat} {rs : List Addr} (B : BagAt H b n) (h : H L = some (.lst (rs.map V.ref))) : L ≠ b := fun z => by
  obtain ⟨l, ns, p, g, s', c, hb, _⟩ := B
  rw [z, hb] at h
  have e := HO.lst.inj (Option.some.inj h)
  have e2 : (BagL l p g s' c)[1]? = (rs.map V.ref)[1]? := by rw [e]
  rw [List.getElem?_map] at e2
  cases q : rs[1]? with
  | none => rw [q] at e2; cases e2
  | some r => rw [q] at e2; cases e2
theorem But.ls {R : Hp → Addr → PQ → Prop} [Mn R] {H H' : Hp} {b : Addr} {n : Nat} {rs : List Addr} {ps : List PQ} (h : LsAt R H rs ps) (B : BagAt H b n) (f : But b H H') : LsAt R H' rs ps := by
  obtain ⟨xs, hb⟩ := B.lst
  exact h.but hb f
theorem Tabs.but {T : List (Addr × Str)} {H H' : Hp} {b : Addr} {xs : List V} (t : LamX.Tabs T H) (hb : H b = some (.lst xs)) (s : But b H H') : LamX.Tabs T H' := fun p hp => by
  obtain ⟨ps, h1, h2, h3⟩ := t p hp
  refine ⟨ps, s _ _ h1 fun e => ?_, h2, fun pos cv hc => ?_⟩
  · rw [e, hb] at h1
    cases h1
  · obtain ⟨c, e1, e2⟩ := h3 pos cv hc
    refine ⟨c, e1, s _ _ e2 fun e => ?_⟩
    rw [e, hb] at e2
    cases e2
theorem Tabs.same {T : List (Addr × Str)} {H H' : Hp} (t : LamX.Tabs T H) (s : Same H H') : LamX.Tabs T H' := LamX.Tabs.ext t s
def g11 {α : Type} (us ws : List α) : List α := match us, ws with
  | [a], [b] => [a, b]
  | _, _ => []
theorem kb11 {K : PySem.W.Frag} {fd : FuncData} {x y : Str} (h : ∀ (s : Shared) (a b : Value), BindsTo s fd ⟨[a], [y].zip [b]⟩ ([x, y].zip [a, b])) : KBinds K fd [x, y] [y] g11 g11 := by
  refine ⟨fun s us ws _ hl => ?_, fun {vs us zs ws} r1 r2 => ?_⟩
  · match us, ws, hl with
    | [a], [b], _ => exact h s a b
  · cases r1 with
    | nil => exact .nil
    | cons e1 r1 =>
      cases r1 with
      | cons _ _ => cases r2 <;> exact .nil
      | nil =>
        cases r2 with
        | nil => exact .nil
        | cons e2 r2 =>
          cases r2 with
          | cons _ _ => exact .nil
          | nil => exact .cons e1 (.cons e2 .nil)

theorem kb_of {K : PySem.W.Frag} {fd : FuncData} {x y : Str} (h : KBn K fd [x, y] 1 [y] (fun us ws => us ++ ws) (fun vs zs => vs ++ zs)) : KBinds K fd [x, y] [y] g11 g11 := by
  refine ⟨fun s us ws X hl => ?_, fun {vs us zs ws} r1 r2 => ?_⟩
  · match us, ws, hl with
    | [a], [b], _ => exact h.to s [a] [b] X rfl rfl
  · cases r1 with
    | nil => exact .nil
    | cons e1 r1 =>
      cases r1 with
      | cons _ _ => cases r2 <;> exact .nil
      | nil =>
        cases r2 with
        | nil => exact .nil
        | cons e2 r2 =>
          cases r2 with
          | nil => exact .cons e1 (.cons e2 .nil)
          | cons _ _ => exact .nil
structure INk (K : PySem.W.Frag) (C1 C2 CI : Addr) : Prop where
  ex : PySem.W.exmAny K (.ref CI) [.ref C1, .ref C2] = some true
  xf : XfC K CI
  no : ∀ f ∈ fieldNames, PySem.W.findIn K (.ref CI) f = some none
theorem told_in {K : PySem.W.Frag} {C1 C2 CI : Addr} (T : INk K C1 C2 CI) {H H' : Hp} {Q : VK} {v : V} {d : Addr} (s : Same H H') (hd : H' d = some (.xd (inFs v))) (k : ∀ (t : Addr) (H' : Hp), H' t = some (.tup [.str "InvalidNumber", v]) → Same H H' → Q (.ref t) H') : Told K C1 C2 Q (.ref CI) (some d) H' := by
  refine ⟨CI, d, inFs v, "InvalidNumber", rfl, rfl, hd, T.ex, T.xf, T.no, rfl, ?_⟩
  have e1 : inV (.str "InvalidNumber") [.str "InvalidName", .str "InvalidNumber"] = true := by decide +kernel
  unfold fieldF
  rw [e1, if_pos rfl]
  exact ⟨v, rfl, fun t H2 ht s2 => k t H2 ht (s.trans s2)⟩
def BagF (l : Addr) (H : Hp) (b : Addr) (n : Nat) : Prop := ∃ (ns : List Int) (p : Nat) (g s c : Int), H b = some (.lst (BagL l p g s c)) ∧ H l = some (.lst (ns.map V.int)) ∧ b ≠ l ∧ 0 ≤ g ∧ 0 ≤ s ∧ s < 2147483549 ∧ 0 ≤ c ∧ c ≤ n
theorem BagF.at_ {l : Addr} {H : Hp} {b : Addr} {n : Nat} (h : BagF l H b n) : BagAt H b n := by
  obtain ⟨ns, p, g, s, c, z⟩ := h
  exact ⟨l, ns, p, g, s, c, z⟩
theorem BagAt.fix {H : Hp} {b : Addr} {n : Nat} (h : BagAt H b n) : ∃ l, BagF l H b n := by
  obtain ⟨l, ns, p, g, s, c, z⟩ := h
  exact ⟨l, ns, p, g, s, c, z⟩
theorem BagF.same {l : Addr} {H H' : Hp} {b : Addr} {n : Nat} (h : BagF l H b n) (k : Same H H') : BagF l H' b n := by
  obtain ⟨ns, p, g, s, c, h1, h2, z⟩ := h
  exact ⟨ns, p, g, s, c, k _ _ h1, k _ _ h2, z⟩
theorem BagF.bt {l : Addr} {H H' : Hp} {b : Addr} {n m : Nat} (h : BagF l H b n) (B : BagAt H' b m) (f : Bt b H H') : BagF l H' b m := by
  obtain ⟨ns, p, g, s, c, h1, _⟩ := h
  obtain ⟨r', e⟩ := f.2 l _ h1
  obtain ⟨l', ns', p', g', s', c', k1, k2, k3⟩ := B
  have ee := HO.lst.inj (Option.some.inj (k1.symm.trans e))
  cases (List.cons.inj ee).1
  exact ⟨ns', p', g', s', c', k1, k2, k3⟩
theorem BagF.upd {l : Addr} {H : Hp} {b D : Addr} {n : Nat} {o : HO} (h : BagF l H b n) (n1 : b ≠ D) (n2 : l ≠ D) : BagF l (upd H D o) b n := by
  obtain ⟨ns, p, g, s, c, h1, h2, z⟩ := h
  exact ⟨ns, p, g, s, c, (upd_ne n1).trans h1, (upd_ne n2).trans h2, z⟩
theorem BagF.new {l : Addr} {H : Hp} {b D : Addr} {n : Nat} (h : BagF l H b n) (hD : H D = none) : b ≠ D ∧ l ≠ D := by
  obtain ⟨ns, p, g, s, c, h1, h2, z⟩ := h
  exact ⟨ne_of_none h1 hD, ne_of_none h2 hD⟩
theorem BagF.le {l : Addr} {H : Hp} {b : Addr} {n m : Nat} (h : BagF l H b n) (k : n ≤ m) : BagF l H b m := by
  obtain ⟨ns, p, g, s', c', k1, k2, k3, k4, k5, k6, k7, k8⟩ := h
  exact ⟨ns, p, g, s', c', k1, k2, k3, k4, k5, k6, k7, by omega⟩
theorem dget_r {H1 : Hp} {e : Addr} {o : Option PQ} (d : DAt H1 e o) : IsD H1 e ∧ ∀ k0 p0 : Addr, H1 k0 = none → (upd H1 k0 (.tup [])) p0 = none → ∃ (ov : Option V) (r : Addr), DGet (upd (upd H1 k0 (.tup [])) p0 (.tup [V.int 0, .int 1])) e (.ref k0) ov ∧ ov.getD (.ref p0) = .ref r ∧
    TupI (upd (upd H1 k0 (.tup [])) p0 (.tup [V.int 0, .int 1])) r (o.getD zz).1 (o.getD zz).2 ∧ Same H1 (upd (upd H1 k0 (.tup [])) p0 (.tup [V.int 0, .int 1])) := by
  obtain ⟨kvs, ek, hk⟩ : ∃ kvs, H1 e = some (.dT kvs) ∧ ((o = none ∧ kvs = []) ∨ ∃ p t, o = some p ∧ kvs = [([], .ref t)] ∧ TupI H1 t p.1 p.2) := by
    cases o with
    | none => exact ⟨_, d, .inl ⟨rfl, rfl⟩⟩
    | some p =>
      obtain ⟨t, h1, h2⟩ := d
      exact ⟨_, h1, .inr ⟨p, t, rfl, rfl, h2⟩⟩
  refine ⟨.inr ⟨kvs, .inl ek⟩, fun k0 p0 hk0 hp0 => ?_⟩
  have s0 := same_upd (o := .tup []) hk0
  have s1 := same_upd (o := .tup [V.int 0, .int 1]) hp0
  obtain ⟨r, er, hr2⟩ := dget_one (hk_same hk (s0.trans s1)) upd_same
  exact ⟨_, r, DGet.t (k := []) (s1 _ _ (s0 _ _ ek)) (s1 _ _ upd_same), er, hr2, s0.trans s1⟩
theorem disp_r {H : Hp} {q : PQ} {t p3 p4 : Addr} (ht : TupI H t q.1 q.2) (hp3 : H p3 = none) (hp4 : (upd H p3 (.dT [])) p4 = none) :
    upd (upd H p3 (.dT [])) p4 (.tup []) p3 = some (.dT []) ∧ DAt (upd (upd (upd H p3 (.dT [])) p4 (.tup [])) p3 (.dT [([], .ref t)])) p3 (some q) ∧ Same H (upd (upd (upd H p3 (.dT [])) p4 (.tup [])) p3 (.dT [([], .ref t)])) := by
  have s5 : Same H (upd (upd (upd H p3 (.dT [])) p4 (.tup [])) p3 (.dT [([], .ref t)])) := Same.put ((same_upd hp3).trans (same_upd hp4)) hp3
  exact ⟨same_upd hp4 _ _ upd_same, ⟨t, upd_same, s5 _ _ ht⟩, s5⟩
theorem like_pair {H : Hp} {t1 t2 : Addr} {v : V} {x : Str} (h1 : H t1 = some (.tup [.str x, v])) (h2 : H t2 = some (.tup [.str x, v])) (l : Like H 2 v v) : Like H 3 (.ref t1) (.ref t2) := by
  refine .inr ⟨t1, t2, _, _, rfl, rfl, .inl ⟨h1, h2⟩, rfl, (by show 2 ≤ 1000; decide), fun k x y hx hy => ?_⟩
  rcases k with _ | _ | k
  · cases Option.some.inj hx
    cases Option.some.inj hy
    exact .inl ⟨rfl, .inr (.inr (.inr ⟨_, rfl⟩))⟩
  · cases Option.some.inj hx
    cases Option.some.inj hy
    exact l
  · cases hx
/-! ### the tables of one sheet and its kin -/
section
variable {n m k : Nat} {x y : PQ} {rows T U W U' W' Tt : RW}
theorem v00 (r : Rws 3 rows) (h : Canon 24 rows T) (ox : Ok 3 x) (oy : Ok 3 y) : vS x y T = (lv 0 0 x y rows).getD zz :=
  val_eq ox oy r (h.rws r) ((h.lin _).trans (lin_congr (fun k => (cab00 x y k).symm) rows))
theorem v10 (r : Rws 3 rows) (h : Canon 24 rows T) (u : Canon n (sl0 T) U) (ox : Ok 3 x) (oy : Ok 3 y) : vS x y U = (lv 1 0 x y rows).getD zz := by
  have t := h.rws r
  refine val_eq ox oy r (u.rws t.s0) ?_
  rw [u.lin, lin_sl0 _ t.ok, h.lin]
  exact lin_congr (fun k => (cab10 x y k).symm) rows
theorem v01 (r : Rws 3 rows) (h : Canon 24 rows T) (u : Canon n (sl1 T) U) (ox : Ok 3 x) (oy : Ok 3 y) : vS x y U = (lv 0 1 x y rows).getD zz := by
  have t := h.rws r
  refine val_eq ox oy r (u.rws t.s1) ?_
  rw [u.lin, lin_sl1 _ t.ok, h.lin]
  exact lin_congr (fun k => (cab01 x y k).symm) rows
theorem v11 (r : Rws 3 rows) (h : Canon 24 rows T) (u : Canon n (sl0 T) U) (w : Canon m (sl1 U) W) (ox : Ok 3 x) (oy : Ok 3 y) : vS x y W = (lv 1 1 x y rows).getD zz := by
  have t := h.rws r
  have tu := u.rws t.s0
  refine val_eq ox oy r (w.rws tu.s1) ?_
  rw [w.lin, lin_sl1 _ tu.ok, u.lin, lin_sl0 _ t.ok, h.lin]
  exact lin_congr (fun k => (cab11 x y k).symm) rows
theorem mon_sw (x y : PQ) (k : KY) : mon y x (k.2, k.1) = mon x y k := by
  unfold mon
  grind
theorem vsw (r : Rws 3 rows) (h : Canon 24 rows T) (u : Canon n (swp T) U) (ox : Ok 3 x) (oy : Ok 3 y) : vS y x U = (lv 0 0 x y rows).getD zz := by
  have t := h.rws r
  obtain ⟨o1, l1⟩ := vS_ok oy ox (u.rws t.sw) U.length (Nat.le_refl _)
  obtain ⟨o2, l2⟩ := lv_ok (a := 0) (b := 0) ox oy r rows.length (Nat.le_refl _)
  rw [List.take_length] at o1 l1 o2 l2
  refine rv_inj o1 (o2.get (by omega)) (l1.trans (Eq.trans ?_ l2.symm))
  rw [u.lin, lin_swp, lin_congr (mon_sw x y), h.lin]
  exact lin_congr (fun k => (cab00 x y k).symm) rows
theorem swsw (h : Canon 24 rows T) (u : Canon n (swp T) U) (w : Canon m (swp U) W) : W = T := by
  refine w.uniq h fun c => ?_
  rw [lin_swp, u.lin, lin_swp, ← h.lin]
theorem e01 (c : KY → Rat) (k : KY) : e0 (e1 c) k = e1 (e0 c) k := by
  unfold e0 e1
  by_cases h1 : 0 < k.1 <;> by_cases h2 : 0 < k.2 <;> simp [h1, h2] <;> grind
theorem slsl (r : Rws 3 rows) (h : Canon 24 rows T) (u : Canon n (sl0 T) U) (w : Canon m (sl1 U) W) (u' : Canon n (sl1 T) U') (w' : Canon m (sl0 U') W') : W = W' := by
  have t := h.rws r
  refine w.uniq w' fun c => ?_
  rw [lin_sl1 _ (u.rws t.s0).ok, u.lin, lin_sl0 _ t.ok, lin_sl0 _ (u'.rws t.s1).ok, u'.lin, lin_sl1 _ t.ok]
  exact lin_congr (e01 c) T
theorem turn (h : Canon 24 rows T) (u : Canon n (swp T) U) (w : Canon m (swp rows) Tt) : Tt = U := by
  refine w.uniq u fun c => ?_
  rw [lin_swp, lin_swp, h.lin]
end
/-! ### the heap of the law -/
theorem RowsL.but {H H' : Hp} {b : Addr} {n : Nat} {ts : List Addr} {rows : RW} (h : RowsL H ts rows) (B : BagAt H b n) (f : But b H H') : RowsL H' ts rows := by
  obtain ⟨xs, hb⟩ := B.lst
  exact h.keep fun a ys e => f _ _ e fun z => by rw [z, hb] at e; cases e
theorem RowsL.atL {H : Hp} {D : Addr} {xs : List V} {o : HO} {ts : List Addr} {rows : RW} (h : RowsL H ts rows) (hD : H D = some (.lst xs)) : RowsL (upd H D o) ts rows := h.keep fun a ys e => (upd_ne fun z => by rw [z, hD] at e; cases e).trans e
theorem ShAt.keep {CC CR : Addr} {H H' : Hp} {c L : Addr} {kvs : List (List L2.Key × V)} {T : RW} (h : ShAt CC CR H c L kvs T) (f : ∀ b o, H b = some o → (∀ xs, o ≠ .lst xs) → H' b = some o) : ShAt CC CR H' c L kvs T := by
  obtain ⟨⟨dx, h1⟩, h2, h3⟩ := h
  exact ⟨⟨dx, f _ _ h1 (fun xs z => by cases z)⟩, f _ _ h2 (fun xs z => by cases z), h3.keep f⟩
theorem keep_but {H H' : Hp} {b : Addr} {xs : List V} (hb : H b = some (.lst xs)) (f : But b H H') : ∀ a o, H a = some o → (∀ xs, o ≠ .lst xs) → H' a = some o := fun a o e n => f _ _ e fun z => by rw [z, hb] at e; exact n _ (Option.some.inj e).symm
theorem keep_atL {H : Hp} {D : Addr} {xs : List V} {u : HO} (hD : H D = some (.lst xs)) : ∀ a o, H a = some o → (∀ xs, o ≠ .lst xs) → upd H D u a = some o := fun a o e n => (upd_ne fun z => by rw [z, hD] at e; exact n _ (Option.some.inj e).symm).trans e
theorem RowsAt.keep {CR : Addr} {H H' : Hp} {ts : List Addr} {rows : RW} (h : RowsAt CR H ts rows) (f : ∀ b o, H b = some o → (∀ xs, o ≠ .lst xs) → H' b = some o) : RowsAt CR H' ts rows :=
  ⟨h.len, fun i t e a b => by
    obtain ⟨y, h1, h2⟩ := h.at_ i t e a b
    refine ⟨y, f _ _ h1 (fun xs z => by cases z), ?_⟩
    rcases h2 with ⟨r, e1, dx, hr⟩ | q
    · exact .inl ⟨r, e1, dx, f _ _ hr (fun xs z => by cases z)⟩
    · exact .inr q⟩
theorem RowsAt.snoc {CR : Addr} {H : Hp} {ts : List Addr} {rows : RW} {t : Addr} {y : V} {e : KY × PQ} (h : RowsAt CR H ts rows) (h1 : H t = some (.tup [.int (e.1.1 : Nat), .int (e.1.2 : Nat), y])) (h2 : NumV CR H y e.2.1 e.2.2) : RowsAt CR H (ts ++ [t]) (rows ++ [e]) :=
  ⟨by rw [List.length_append, List.length_append, h.len]; rfl, fun i t' e' a b => by
    by_cases c : i < ts.length
    · rw [List.getElem?_append_left c] at a
      rw [List.getElem?_append_left (by rw [← h.len]; exact c)] at b
      exact h.at_ i t' e' a b
    · rw [List.getElem?_append_right (by omega)] at a
      rw [List.getElem?_append_right (by rw [← h.len]; omega), ← h.len] at b
      generalize i - ts.length = j at a b
      cases j with
      | zero =>
        cases Option.some.inj a
        cases Option.some.inj b
        exact ⟨y, h1, h2⟩
      | succ j => cases a⟩
/-- what stands from the sheet's making on -/
structure Fx (CR CC PT : Addr) (H : Hp) (b : Addr) (n : Nat) (lr : Addr) (tr : List Addr) (rows : RW) (c L : Addr) (kvs : List (List L2.Key × V)) (T : RW) (ld : Addr) (td : List Addr) : Prop where
  B : BagAt H b n
  tab : LamX.Tabs [(PT, qn)] H
  hr : H lr = some (.lst (tr.map V.ref))
  rr : RowsL H tr rows
  sh : ShAt CC CR H c L kvs T
  hd : H ld = some (.lst (td.map V.ref))
  rd : RowsL H td T
section
variable {CR CC PT b lr c L ld : Addr} {H H' : Hp} {n m : Nat} {tr td : List Addr} {rows T : RW} {kvs : List (List L2.Key × V)}
theorem Fx.same (F : Fx CR CC PT H b n lr tr rows c L kvs T ld td) (s : Same H H') : Fx CR CC PT H' b n lr tr rows c L kvs T ld td :=
  ⟨F.B.same s, Tabs.same F.tab s, s _ _ F.hr, F.rr.same s, F.sh.same s, s _ _ F.hd, F.rd.same s⟩
theorem Fx.but (F : Fx CR CC PT H b n lr tr rows c L kvs T ld td) (B : BagAt H' b m) (f : But b H H') : Fx CR CC PT H' b m lr tr rows c L kvs T ld td := by
  obtain ⟨ys, hb⟩ := F.B.lst
  exact ⟨B, Tabs.but F.tab hb f, f _ _ F.hr (bag_ne F.B F.hr), F.rr.but F.B f, F.sh.keep (keep_but hb f), f _ _ F.hd (bag_ne F.B F.hd), F.rd.but F.B f⟩
end
/-- rows of a law as same data -/
theorem like_tup2 {H : Hp} {p q : Addr} {a b : Int} (h1 : TupI H p a b) (h2 : TupI H q a b) : Like H 2 (.ref p) (.ref q) := by
  refine .inr ⟨p, q, _, _, rfl, rfl, .inl ⟨h1, h2⟩, rfl, (by show 2 ≤ 1000; decide), fun k x y hx hy => ?_⟩
  rcases k with _ | _ | k
  · cases Option.some.inj hx
    cases Option.some.inj hy
    exact .inl ⟨rfl, .inr (.inr (.inl ⟨_, rfl⟩))⟩
  · cases Option.some.inj hx
    cases Option.some.inj hy
    exact .inl ⟨rfl, .inr (.inr (.inl ⟨_, rfl⟩))⟩
  · cases hx
theorem like_row {H : Hp} {t u r s : Addr} {e : KY × PQ} (h1 : H t = some (.tup [.int (e.1.1 : Nat), .int (e.1.2 : Nat), .ref r])) (h2 : TupI H r e.2.1 e.2.2) (k1 : H u = some (.tup [.int (e.1.1 : Nat), .int (e.1.2 : Nat), .ref s])) (k2 : TupI H s e.2.1 e.2.2) : Like H 3 (.ref t) (.ref u) := by
  refine .inr ⟨t, u, _, _, rfl, rfl, .inl ⟨h1, k1⟩, rfl, (by show 3 ≤ 1000; decide), fun k x y hx hy => ?_⟩
  rcases k with _ | _ | _ | k
  · cases Option.some.inj hx
    cases Option.some.inj hy
    exact .inl ⟨rfl, .inr (.inr (.inl ⟨_, rfl⟩))⟩
  · cases Option.some.inj hx
    cases Option.some.inj hy
    exact .inl ⟨rfl, .inr (.inr (.inl ⟨_, rfl⟩))⟩
  · cases Option.some.inj hx
    cases Option.some.inj hy
    exact like_tup2 h2 k2
  · cases hx
theorem like_rows {H : Hp} {l1 l2 : Addr} {us ts : List Addr} {T : RW} (h1 : H l1 = some (.lst (us.map V.ref))) (h2 : H l2 = some (.lst (ts.map V.ref))) (a : RowsL H us T) (b : RowsL H ts T) (l : T.length ≤ 1000) : Like H 4 (.ref l1) (.ref l2) := by
  refine .inr ⟨l1, l2, _, _, rfl, rfl, .inr ⟨h1, h2⟩, by rw [List.length_map, List.length_map, a.len, b.len], by rw [List.length_map, a.len]; exact l, fun k x y hx hy => ?_⟩
  obtain ⟨u, eu, rfl⟩ := map_of hx
  obtain ⟨t, et, rfl⟩ := map_of hy
  have hk : k < T.length := by rw [← a.len]; exact (List.getElem?_eq_some_iff.mp eu).1
  have e := List.getElem?_eq_getElem hk
  obtain ⟨r, a1, a2⟩ := a.at_ k u _ eu e
  obtain ⟨s, b1, b2⟩ := b.at_ k t _ et e
  exact like_row a1 a2 b1 b2
theorem like_strs {H : Hp} {l1 l2 : Addr} {x y : Str} (h1 : H l1 = some (.lst [.str x, .str y])) (h2 : H l2 = some (.lst [.str x, .str y])) : Like H 4 (.ref l1) (.ref l2) := by
  refine .inr ⟨l1, l2, _, _, rfl, rfl, .inr ⟨h1, h2⟩, rfl, (by show 2 ≤ 1000; decide), fun k x y hx hy => ?_⟩
  rcases k with _ | _ | k
  · cases Option.some.inj hx
    cases Option.some.inj hy
    exact .inl ⟨rfl, .inr (.inr (.inr ⟨_, rfl⟩))⟩
  · cases Option.some.inj hx
    cases Option.some.inj hy
    exact .inl ⟨rfl, .inr (.inr (.inr ⟨_, rfl⟩))⟩
  · cases hx
end K37

set_option Elab.async false
set_option linter.all false
set_option maxRecDepth 100000
set_option maxHeartbeats 1000000
set_option pp.maxSteps 500
namespace K37
open PySem PySem.Spec PyProof.Rows L2 Ux
theorem pa_asks {X : Cx} {K : PySem.W.Frag} {CR CC CI c PT f hs : Addr} (TB : LamX.TabB X.base X.mg c PT) (hN : X.N = nLaw) (he : X.env = envOfC "law" (defScope sLaw) hs f (.ref c)) :
    PA X es17 (tCons (tLamV [(PT, qn)] X.env.cells (X.env.qual ++ "<lambda>") (d0 K CR CC CI)) (tCons (tLamVE [(PT, qn)] X.env.cells (X.env.qual ++ "<lambda>") (d1 K CR CC CI)) (tCons (tLamVE [(PT, qn)] X.env.cells (X.env.qual ++ "<lambda>") (d2 K CR CC CI)) tNil))) ∧
    PA X es18 (tCons (tLamV [(PT, qn)] X.env.cells (X.env.qual ++ "<lambda>") (d3 K CR CC CI)) tNil) := by
  have hcode : X.env.code = .ref c := by rw [he]; rfl
  have hm : (PT, X.env.qual ++ "<lambda>") ∈ [(PT, qn)] := by rw [he]; exact List.mem_singleton.mpr rfl
  have hu : ∀ p ∈ [(PT, qn)], p.1 = PT → p.2 = X.env.qual ++ "<lambda>" := fun p hp _ => by
    rw [he]
    exact congrArg Prod.snd (List.mem_singleton.mp hp)
  refine ⟨?_, ?_⟩
  · refine pa_cons (pe_lamV (tl0 K CR CC CI) TB hcode hm hu (LamX.lamS_by (by rw [he]; rfl)) rfl) ?_
    refine pa_cons (pe_lamVE (tl1 K CR CC CI) "_law_a" TB hcode hm hu (lamSE_by (by rw [he, hN]; exact sc1)) rfl rfl pe_int) ?_
    refine pa_cons (pe_lamVE (tl2 K CR CC CI) "_law_b" TB hcode hm hu (lamSE_by (by rw [he, hN]; exact sc2)) rfl rfl pe_int) ?_
    exact pa_nil
  · exact pa_cons (pe_lamV (tl3 K CR CC CI) TB hcode hm hu (LamX.lamS_by (by rw [he]; rfl)) rfl) pa_nil
structure Asks (K : PySem.W.Frag) (CR CC CI : Addr) (cl : List (Str × Addr)) (H : Hp) (f0 f1 f2 : Addr) : Prop where
  a0 : ∃ c', LamAt cl qn H (d0 K CR CC CI) f0 c'
  a1 : ∃ c' T, LamAtE cl qn H (d1 K CR CC CI) f1 c' T
  a2 : ∃ c' T, LamAtE cl qn H (d2 K CR CC CI) f2 c' T
def Ask3 (K : PySem.W.Frag) (CR CC CI : Addr) (cl : List (Str × Addr)) (H : Hp) (f3 : Addr) : Prop := ∃ c', LamAt cl qn H (d3 K CR CC CI) f3 c'
section
variable {K : PySem.W.Frag} {CR CC CI PT : Addr} {cl : List (Str × Addr)} {σ : L2.St} {H H' : Hp} {f0 f1 f2 f3 : Addr} {Q : List V → Hp → Prop}
theorem Asks.kp (a : Asks K CR CC CI cl H f0 f1 f2) (k : Kp H H') : Asks K CR CC CI cl H' f0 f1 f2 :=
  ⟨let ⟨c, h⟩ := a.a0; ⟨c, h.kp k⟩, let ⟨c, T, h⟩ := a.a1; ⟨c, T, h.kp k⟩, let ⟨c, T, h⟩ := a.a2; ⟨c, T, h.kp k⟩⟩
theorem Ask3.kp (a : Ask3 K CR CC CI cl H f3) (k : Kp H H') : Ask3 K CR CC CI cl H' f3 := let ⟨c, h⟩ := a; ⟨c, h.kp k⟩
structure ABox (K : PySem.W.Frag) (PT : Addr) (cl : List (Str × Addr)) (CR CC CI : Addr) (σ : L2.St) (H : Hp) (Q : List V → Hp → Prop) : Prop where
  out : tCons (tLamV [(PT, qn)] cl qn (d0 K CR CC CI)) (tCons (tLamVE [(PT, qn)] cl qn (d1 K CR CC CI)) (tCons (tLamVE [(PT, qn)] cl qn (d2 K CR CC CI)) tNil)) σ H Q
structure ABox3 (K : PySem.W.Frag) (PT : Addr) (cl : List (Str × Addr)) (CR CC CI : Addr) (σ : L2.St) (H : Hp) (Q : List V → Hp → Prop) : Prop where
  out : tCons (tLamV [(PT, qn)] cl qn (d3 K CR CC CI)) tNil σ H Q
theorem abox_of (hT : LamX.Tabs [(PT, qn)] H)
    (h : ∀ (H1 : Hp) (f0 f1 f2 : Addr), LamX.ExtN H H1 → LamX.Tabs [(PT, qn)] H1 → Asks K CR CC CI cl H1 f0 f1 f2 → Q [.ref f0, .ref f1, .ref f2] H1) : ABox K PT cl CR CC CI σ H Q :=
  ⟨⟨hT, fun H1 f0 c0 e1 T1 l0 => ⟨T1, fun H2 f1 c1 U1 e2 T2 l1 => ⟨T2, fun H3 f2 c2 U2 e3 T3 l2 => h H3 f0 f1 f2 (e1.trans (e2.trans e3)) T3 ⟨⟨c0, l0.kp ((Kp.ofN e2).trans (Kp.ofN e3))⟩, ⟨c1, U1, l1.kp (Kp.ofN e3)⟩, ⟨c2, U2, l2⟩⟩⟩⟩⟩⟩
theorem abox3_of (hT : LamX.Tabs [(PT, qn)] H) (h : ∀ (H1 : Hp) (f3 : Addr), LamX.ExtN H H1 → LamX.Tabs [(PT, qn)] H1 → Ask3 K CR CC CI cl H1 f3 → Q [.ref f3] H1) : ABox3 K PT cl CR CC CI σ H Q :=
  ⟨⟨hT, fun H1 f3 c0 e1 T1 l0 => h H1 f3 e1 T1 ⟨c0, l0⟩⟩⟩
end
theorem pa_abox {X : Cx} {K : PySem.W.Frag} {CR CC CI c PT f hs : Addr} (TB : LamX.TabB X.base X.mg c PT) (hN : X.N = nLaw) (he : X.env = envOfC "law" (defScope sLaw) hs f (.ref c)) : PA X es17 (ABox K PT X.env.cells CR CC CI) := by
  have eq : X.env.qual ++ "<lambda>" = qn := by rw [he]; rfl
  have z := (pa_asks (K := K) (CR := CR) (CC := CC) (CI := CI) TB hN he).1
  rw [eq] at z
  exact ⟨fun pos pins s σ H Q I h => z.run pos pins s σ H Q I h.out⟩
theorem pa_abox3 {X : Cx} {K : PySem.W.Frag} {CR CC CI c PT f hs : Addr} (TB : LamX.TabB X.base X.mg c PT) (hN : X.N = nLaw) (he : X.env = envOfC "law" (defScope sLaw) hs f (.ref c)) : PA X es18 (ABox3 K PT X.env.cells CR CC CI) := by
  have eq : X.env.qual ++ "<lambda>" = qn := by rw [he]; rfl
  have z := (pa_asks (K := K) (CR := CR) (CC := CC) (CI := CI) TB hN he).2
  rw [eq] at z
  exact ⟨fun pos pins s σ H Q I h => z.run pos pins s σ H Q I h.out⟩
section
variable {K : PySem.W.Frag} {mg : Str → Option Value} {CR CC CI : Addr} {σ : L2.St} {H : Hp} {Q : VK} {E : XK} {c L : Addr} {v u : V}
theorem la0 (x : CxN CC σ H c L v u) (k : RaisesN CI v H E) : (d0 K CR CC CI).t E σ H Q := lr0 x k
theorem la1 (T : RT K mg CR) (x : CxN CC σ H c L v u) (k : RaisesN CI u H E) : (d1 K CR CC CI).t E σ H Q := lr1 T x k
theorem la2 (x : CxN CC σ H c L v u) (k : RaisesN CI u H E) : (d2 K CR CC CI).t E σ H Q := lr2 x k
theorem la3 (T : RT K mg CR) (x : CxN CC σ H c L v u) (k : RaisesN CI .non H E) : (d3 K CR CC CI).t E σ H Q := lr3 T x k
end
end K37

set_option Elab.async false
set_option linter.all false
set_option maxRecDepth 100000
set_option maxHeartbeats 4000000
set_option pp.maxSteps 600
namespace K37
open PySem PySem.Spec PyProof.Rows L2 Ux
abbrev teH (K : PySem.W.Frag) (CR : Addr) : TE := tTup (tCons (tVar 22) (tCons (tVar 23) (tCons (tIf (tTest (tOp RGt (tOp (rIxT K) (tVar 24) (tC (.int 1))) (tC (.int 1)))) (tCall (spMkRatio CR) [] E0 (tCons (tVar 24) tNil)) (tOp (rIxT K) (tVar 24) (tC (.int 0)))) tNil)))
def spLaw (K : PySem.W.Frag) (PT : Addr) : Sp := fun vs H Q _ => ∃ (a : Addr) (ns : List Int), vs = [.ref a] ∧ SqL K H a (ns.map V.int) ∧ ns.length ≤ 63 ∧ H PT = some (.tbl #[]) ∧ ∀ H', Q (.bl true) H'
theorem vAll : bootBuiltins ("all" : Str) = some (.builtin "all") := by decide +kernel
section
variable {P : Program} {w : World} {K : PySem.W.Frag} {mg : Str → Option Value} {base : Heap} {CR CC CI C1 C2 c PT : Addr}
theorem ok_law {f fBg fP fO fS fPr fRt fPt fFr fTb fSh fF gW fi fTo fSw fSc fRc fSl fCl fEc : Addr} {fdBg fdP fdO fdS fdPr fdRt fdPt fdFr fdTb fdSh fdF fdi fdTo fdSw fdSc fdRc fdSl fdCl fdEc : FuncData}
    {oc kV doc pm ct ocW kVW dcW pmW cdW ctW : Value} {od an odW anW : Option Addr} {osl slW : Array (Option Value)}
    (lk : K.lookup f = some ⟨oc, od, .func (PySem.W.fnOf "law" "law" (defArgs sLaw) (defBody sLaw) (defScope sLaw) .none kV doc pm an (.ref c) ct), osl⟩) (hcd : PySem.W.codeIn K (.ref c) "law" = true)
    (lkW : K.lookup gW = some ⟨ocW, odW, .func (PySem.W.fnOf "_law_why" "_law_why" (defArgs sWhy) (defBody sWhy) (defScope sWhy) .none kVW dcW pmW anW cdW ctW), slW⟩) (ccW : PySem.W.codeIn K cdW "_law_why" = true) (DW : Dn K mg "_law_why" gW)
    (bW : Binds K (PySem.W.fnOf "_law_why" "_law_why" (defArgs sWhy) (defBody sWhy) (defScope sWhy) .none kVW dcW pmW anW cdW ctW) ["_law_ask"] [])
    (TB : LamX.TabB base mg c PT) (m1 : mg "SlopeError" = some (.ref C1)) (m2 : mg "Missing" = some (.ref C2)) (DF : Dn K mg "_law_field" fF) (GF : FnQ P w K mg base 2 fF fdF ["_law_e"] (spFieldE K)) (bF : Binds K fdF ["_law_e"] [])
    (B : Bn mg) (T : RT K mg CR) (C : CT K mg CC) (TI : INk K C1 C2 CI)
    (DBg : Dn K mg "_law_bag" fBg) (GBg : FnOk P w K mg base CX0 1 fBg fdBg ["_law_script"] (spBag K)) (bBg : Binds K fdBg ["_law_script"] [])
    (DP : Dn K mg "_law_pull" fP) (GP : FnOk P w K mg base CX0 1 fP fdP ["_law_bag_here", "_law_many"] spPull) (bP : Binds K fdP ["_law_bag_here", "_law_many"] [])
    (DO : Dn K mg "_law_of" fO) (GO : FnOk P w K mg base CX0 2 fO fdO ["_law_bag_here", "_law_things"] spOf) (bO : Binds K fdO ["_law_bag_here", "_law_things"] [])
    (DS : Dn K mg "_law_same" fS) (GS : FnOk P w K mg base CX0 4 fS fdS ["_law_found", "_law_due"] (spSame 4)) (bS : Binds K fdS ["_law_found", "_law_due"] [])
    (DPr : Dn K mg "_law_pair" fPr) (GPr : FnOk P w K mg base CX0 1 fPr fdPr ["_law_found"] (spPair CR)) (bPr : Binds K fdPr ["_law_found"] [])
    (DRt : Dn K mg "_law_ratio" fRt) (GRt : FnOk P w K mg base CX0 4 fRt fdRt ["_law_pair_here"] (spMkRatio CR)) (bRt : Binds K fdRt ["_law_pair_here"] [])
    (DPt : Dn K mg "_law_pair_text" fPt) (GPt : FnOk P w K mg base CX0 1 fPt fdPt ["_law_pair_here"] spPairText) (bPt : Binds K fdPt ["_law_pair_here"] [])
    (DFr : Dn K mg "_law_fraction" fFr) (GFr : FnOk P w K mg base CX0 2 fFr fdFr ["_law_bag_here"] spFrac) (bFr : Binds K fdFr ["_law_bag_here"] [])
    (DTb : Dn K mg "_law_table" fTb) (GTb : FnOk P w K mg base CX0 3 fTb fdTb ["_law_rows"] (spLTab K)) (bTb : Binds K fdTb ["_law_rows"] [])
    (DSh : Dn K mg "_law_sheet_at" fSh) (GSh : FnOk P w K mg base CX0 5 fSh fdSh ["_law_shape", "_law_orders", "_law_one", "_law_other"] (spLSh K)) (bSh : Binds K fdSh ["_law_shape", "_law_orders", "_law_one", "_law_other"] [])
    (MC : Mk K CC fi) (GIc : FnOk P w K mg base (L2.CX P w) 7 fi fdi ["self", "rows"] (spSIn K CR CC CI)) (bC : Binds K fdi ["self", "rows"] [])
    (MTo : Meth K CC "told_rows" fTo) (GTo : FnOk P w K mg base CX0 1 fTo fdTo ["self"] (spSTo CC CR)) (bTo : Binds K fdTo ["self"] [])
    (MSw : Meth K CC "swapped" fSw) (GSw : FnOk P w K mg base CX0 9 fSw fdSw ["self"] (spSSw CC CR)) (bSw : Binds K fdSw ["self"] [])
    (MSc : OwnM K CC "__str__" fSc) (GSc : FnOk P w K mg base CX0 6 fSc fdSc ["self"] (spSStr CC CR tabS)) (bSc : Binds K fdSc ["self"] [])
    (MRc : OwnM K CC "__repr__" fRc) (GRc : FnOk P w K mg base CX0 8 fRc fdRc ["self"] (spSStr CC CR fun T => "Sheet(" ++ tabS T ++ ")")) (bRc : Binds K fdRc ["self"] [])
    (MSl : Meth K CC "slope_sheet" fSl) (GSl : FnOk P w K mg base (L2.CX P w) 9 fSl fdSl ["self", "which"] (spSSl K CC CR CI)) (bSl : Binds K fdSl ["self", "which"] []) (kSl : KBinds K fdSl ["self", "which"] ["which"] g11 g11)
    (CO : StX.CallO K CC fCl) (GCl : FnOk P w K mg base CX0 7 fCl fdCl ["self", "one", "other"] (spSCa CC CR)) (bCl : Binds K fdCl ["self", "one", "other"] [])
    (MEc : OwnM K CC "__eq__" fEc) (NEc : NeO K CC) (GEc : FnOk P w K mg base CX0 5 fEc fdEc ["self", "other"] (spSEq CC CR)) (bEc : Binds K fdEc ["self", "other"] []) (nfS : PySem.W.notFirst K CC (.type "str") = true) :
    FnOk P w K mg base CX0 12 f (PySem.W.fnOf "law" "law" (defArgs sLaw) (defBody sLaw) (defScope sLaw) .none kV doc pm an (.ref c) ct) ["_law_script"] (spLaw K PT) := by
  refine fn_of lk hcd scLaw (fun vs H Q E h => ?_) (fun A outer s H vs Q E hr h => ?_)
  · obtain ⟨a, ns, rfl, _⟩ := h
    rfl
  · obtain ⟨a, ns, rfl, hS, hlen, hP, q⟩ := h
    have r1 : Room 1 _ := hr.mono (by decide)
    have r2 : Room 2 _ := hr.mono (by decide)
    have r3 : Room 3 _ := hr.mono (by decide)
    have r4 : Room 4 _ := hr.mono (by decide)
    have r5 : Room 5 _ := hr.mono (by decide)
    have r6 : Room 6 _ := hr.mono (by decide)
    have r7 : Room 7 _ := hr.mono (by decide)
    have r8 : Room 8 _ := hr.mono (by decide)
    have r9 : Room 9 _ := hr.mono (by decide)
    have GClR := GCl.raw bCl .nil
    simp only [List.append_nil] at GClR
    have LH : LamH (cxOf CX0 P w K mg base nLaw "law" (defScope sLaw) f (.ref c) A outer s H E).nox CR CC CI fi fSl fdi fdSl := ⟨rfl, rfl, C.gl, C.cl, MC, GIc, bC, MSl, GSl, bSl⟩
    refine ⟨_, PSs.nox (pss_cons (ps_set (i := 1) scLaw.nd rfl (Or.inr rfl) (pe_call GBg r1 (by rfl) DBg.gl DBg.kp bBg .nil pass0 (pa_cons (pv 0) pa_nil)))
      (C8.pss_cut (ps_set (i := 2) scLaw.nd rfl (Or.inr rfl) (pe_lc (own := [("_law_k", 21)]) (g := gName 21) (te := tTup (tCons (tCall spPull [] E0 (tCons (tVar 1) (tCons (tC (.int 4)) tNil))) (tCons (tCall spPull [] E0 (tCons (tVar 1) (tCons (tC (.int 4)) tNil))) (tCons (tCall spFrac [] E0 (tCons (tVar 1) tNil)) tNil)))) rfl scLaw.nd (pi_range1 rfl B.frange (pa_cons (pe_call GP r1 (by rfl) DP.gl DP.kp bP .nil pass0 (pa_cons (pv 1) (pa_cons pe_int pa_nil))) pa_nil)) (blkOk_by (own := [("_law_k", 21)]) (N := nLaw) (sc := defScope sLaw) (by decide +kernel)) (fun _ _ _ _ _ => pg_name (i := 21) scLaw.nd rfl (Or.inl rfl) (hf := Or.inr rfl)) (fun _ _ _ _ _ => pts_nil) (fun _ _ _ _ _ => (pe_tup (pa_cons (pe_call GP r1 (by rfl) DP.gl DP.kp bP .nil pass0 (pa_cons (pv 1) (pa_cons pe_int pa_nil))) (pa_cons (pe_call GP r1 (by rfl) DP.gl DP.kp bP .nil pass0 (pa_cons (pv 1) (pa_cons pe_int pa_nil))) (pa_cons (pe_call GFr r2 (by rfl) DFr.gl DFr.kp bFr .nil pass0 (pa_cons (pv 1) pa_nil)) pa_nil)))))))
      (C8.pss_cut (ps_setLc (i := 3) (own := [("_law_one", 22), ("_law_other", 23), ("_law_worth", 24)]) (g := (gTup K 3 (gCons (gName 22) (gCons (gName 23) (gCons (gName 24) gNil))))) (te := (teH K CR)) rfl scLaw.nd rfl rfl (sw_true rfl rfl rfl (by decide +kernel)) (pi_list (pv 2)) (blkOk_by (own := [("_law_one", 22), ("_law_other", 23), ("_law_worth", 24)]) (N := nLaw) (sc := defScope sLaw) (by decide +kernel)) (fun _ _ _ _ _ => pg_tup (n := 3) rfl (pgs_cons (pg_name (i := 22) scLaw.nd rfl (Or.inl rfl) (hf := Or.inr rfl)) (pgs_cons (pg_name (i := 23) scLaw.nd rfl (Or.inl rfl) (hf := Or.inr rfl)) (pgs_cons (pg_name (i := 24) scLaw.nd rfl (Or.inl rfl) (hf := Or.inr rfl)) pgs_nil)))) (fun _ _ _ _ _ => pts_nil) (fun _ _ _ _ _ => (pe_tup (pa_cons (pv 22) (pa_cons (pv 23) (pa_cons (pe_ifExp (pt_cmpR op_gt (pe_ix ix_tup (pv 24) pe_int (fun _ _ => rfl)) pe_int (nomark _)) (pe_call GRt r4 (by rfl) DRt.gl DRt.kp bRt .nil pass0 (pa_cons (pv 24) pa_nil)) (pe_ix ix_tup (pv 24) pe_int (fun _ _ => rfl))) pa_nil))))))
      (C8.pss_cut (ps_asg (pe_tup (pa_cons (pe_make (E := E0) MC GIc r8 (by rfl) C.gl bC .nil passL (pa_cons (pv 3) pa_nil)) (pa_cons (pe_call GTb r3 (by rfl) DTb.gl DTb.kp bTb .nil pass0 (pa_cons (pv 2) pa_nil)) pa_nil))) (pg_tup rfl (pgs_cons (pg_name (i := 4) scLaw.nd rfl (Or.inr rfl)) (pgs_cons (pg_name (i := 5) scLaw.nd rfl (Or.inl rfl)) pgs_nil))))
      (C8.pss_cut (ps_expr (pe_bm PySem.F.plainAttrs_list PySem.F.slot_list_append PySem.F.type_list_append mt_append (pv 3) (pa_cons (pe_tup (pa_cons pe_int (pa_cons pe_int (pa_cons pe_int pa_nil)))) pa_nil)))
      (C8.pss_cut (ps_set (i := 6) scLaw.nd rfl (Or.inl rfl) (pe_join pe_str (pe_lc (own := [("_law_one", 22), ("_law_other", 23), ("_law_worth", 24)]) (g := (gTup K 3 (gCons (gName 22) (gCons (gName 23) (gCons (gName 24) gNil)))))  rfl scLaw.nd (pi_list (pv 5)) (blkOk_by (own := [("_law_one", 22), ("_law_other", 23), ("_law_worth", 24)]) (N := nLaw) (sc := defScope sLaw) (by decide +kernel)) (fun _ _ _ _ _ => pg_tup (n := 3) rfl (pgs_cons (pg_name (i := 22) scLaw.nd rfl (Or.inl rfl) (hf := Or.inr rfl)) (pgs_cons (pg_name (i := 23) scLaw.nd rfl (Or.inl rfl) (hf := Or.inr rfl)) (pgs_cons (pg_name (i := 24) scLaw.nd rfl (Or.inl rfl) (hf := Or.inr rfl)) pgs_nil)))) (fun _ _ _ _ _ => pts_nil) (fun _ _ _ _ _ => (pe_op op_add_str (pe_op op_add_str (pe_op op_add_str (pe_op op_add_str (pe_callTy call_str_int (by rfl) B.tstr (by decide +kernel) (pa_cons (pv 22) pa_nil)) pe_str) (pe_callTy call_str_int (by rfl) B.tstr (by decide +kernel) (pa_cons (pv 23) pa_nil))) pe_str) (pe_call GPt r1 (by rfl) DPt.gl DPt.kp bPt .nil pass0 (pa_cons (pv 24) pa_nil)))))))
      (C8.pss_cut (ps_for PassesOwn.never rfl (pi_range1 rfl B.frange (pa_cons pe_int pa_nil)) (pg_name (i := 7) scLaw.nd rfl (Or.inl rfl)) (C8.pss_cut (ps_set (i := 8) scLaw.nd rfl (Or.inl rfl) (pe_meth0 (E := E0) (pv 4) C.cl MTo GTo r1 bTo .nil pass0))
      (C8.pss_cut (ps_setLc (i := 9) (own := [("_law_one", 22), ("_law_other", 23), ("_law_worth", 24)]) (g := (gTup K 3 (gCons (gName 22) (gCons (gName 23) (gCons (gName 24) gNil))))) (te := (tTup (tCons (tVar 22) (tCons (tVar 23) (tCons (tCall (spPair CR) [] E0 (tCons (tVar 24) tNil)) tNil))))) rfl scLaw.nd rfl rfl (sw_true rfl rfl rfl (by decide +kernel)) (pi_list (pv 8)) (blkOk_by (own := [("_law_one", 22), ("_law_other", 23), ("_law_worth", 24)]) (N := nLaw) (sc := defScope sLaw) (by decide +kernel)) (fun _ _ _ _ _ => pg_tup (n := 3) rfl (pgs_cons (pg_name (i := 22) scLaw.nd rfl (Or.inl rfl) (hf := Or.inr rfl)) (pgs_cons (pg_name (i := 23) scLaw.nd rfl (Or.inl rfl) (hf := Or.inr rfl)) (pgs_cons (pg_name (i := 24) scLaw.nd rfl (Or.inl rfl) (hf := Or.inr rfl)) pgs_nil)))) (fun _ _ _ _ _ => pts_nil) (fun _ _ _ _ _ => (pe_tup (pa_cons (pv 22) (pa_cons (pv 23) (pa_cons (pe_call GPr r1 (by rfl) DPr.gl DPr.kp bPr .nil pass0 (pa_cons (pv 24) pa_nil)) pa_nil))))))
      (C8.pss_cut (ps_if (PW.pt (pw_or (pt_not (pt_val (pe_call GS r4 (by rfl) DS.gl DS.kp bS .nil pass0 (pa_cons (pv 9) (pa_cons (pv 5) pa_nil))))) (pw_or1 (pt_not (pt_val (pe_callB (cr_all rfl) (by rfl) B.fall (by decide +kernel) (pa_cons (pe_lc (own := [("_law_row", 25)]) (g := gName 25) (te := tCB (rIsi K) (tCons (tVar 25) (tCons (tC (.ty "tuple")) tNil))) rfl scLaw.nd (pi_list (pv 8)) (blkOk_by (own := [("_law_row", 25)]) (N := nLaw) (sc := defScope sLaw) (by decide +kernel)) (fun _ _ _ _ _ => pg_name (i := 25) scLaw.nd rfl (Or.inl rfl) (hf := Or.inr rfl)) (fun _ _ _ _ _ => pts_nil) (fun _ _ _ _ _ => (pe_callB (id := "isinstance") (r := rIsi K) call_isi (by rfl) B.isin (by decide +kernel) (pa_cons (pv 25) (pa_cons (pe_bltn (v := .ty "tuple") (by rfl) B.ttuple (by decide +kernel) rfl) pa_nil))))) pa_nil))))))) (pss_one (ps_ret pe_bl)) pss_nil)
      (C8.pss_cut (ps_if (pt_not (pt_val (pe_call GS r4 (by rfl) DS.gl DS.kp bS .nil pass0 (pa_cons (pe_lst (pa_cons (pe_callTy (call_strO MSc GSc bSc r8) (by rfl) B.tstr (by decide +kernel) (pa_cons (pv 4) pa_nil)) (pa_cons (pe_callB (call_reprO MRc GRc bRc r9) (by rfl) B.frepr (by decide +kernel) (pa_cons (pv 4) pa_nil)) pa_nil))) (pa_cons (pe_lst (pa_cons (pv 6) (pa_cons (pe_op op_add_str (pe_op op_add_str pe_str (pv 6)) pe_str) pa_nil))) pa_nil))))) (pss_one (ps_ret pe_bl)) pss_nil)
      (pss_one (ps_expr (pe_bm PySem.F.plainAttrs_list PySem.F.slot_list_append PySem.F.type_list_append mt_append (pv 8) (pa_cons pe_non pa_nil)))))))))
      (C8.pss_cut (ps_asg (pe_tup (pa_cons (pe_call GFr r2 (by rfl) DFr.gl DFr.kp bFr .nil pass0 (pa_cons (pv 1) pa_nil)) (pa_cons (pe_call GFr r2 (by rfl) DFr.gl DFr.kp bFr .nil pass0 (pa_cons (pv 1) pa_nil)) pa_nil))) (pg_tup rfl (pgs_cons (pg_name (i := 10) scLaw.nd rfl (Or.inr rfl)) (pgs_cons (pg_name (i := 11) scLaw.nd rfl (Or.inr rfl)) pgs_nil))))
      (C8.pss_cut (ps_asg (pe_tup (pa_cons (pe_disp1 hr.units0 (pe_tup pa_nil) (pv 10)) (pa_cons (pe_disp1 hr.units0 (pe_tup pa_nil) (pv 11)) pa_nil))) (pg_tup rfl (pgs_cons (pg_name (i := 12) scLaw.nd rfl (Or.inr rfl)) (pgs_cons (pg_name (i := 13) scLaw.nd rfl (Or.inr rfl)) pgs_nil))))
      (C8.pss_cut (ps_setLc (i := 14) (own := [("_law_orders", 26)]) (g := gName 26) (te := tDGet2 (tCall (spLSh K) [] E0 (tCons (tVar 2) (tCons (tVar 26) (tCons (tVar 12) (tCons (tVar 13) tNil))))) (tTup tNil) (tTup (tCons (tC (.int 0)) (tCons (tC (.int 1)) tNil)))) rfl scLaw.nd rfl rfl (sw_true rfl rfl rfl (by decide +kernel)) (pi_list (pe_lst (pa_cons (pe_tup (pa_cons pe_int (pa_cons pe_int pa_nil))) (pa_cons (pe_tup (pa_cons pe_int (pa_cons pe_int pa_nil))) (pa_cons (pe_tup (pa_cons pe_int (pa_cons pe_int pa_nil))) (pa_cons (pe_tup (pa_cons pe_int (pa_cons pe_int pa_nil))) pa_nil)))))) (blkOk_by (own := [("_law_orders", 26)]) (N := nLaw) (sc := defScope sLaw) (by decide +kernel)) (fun _ _ _ _ _ => pg_name (i := 26) scLaw.nd rfl (Or.inl rfl) (hf := Or.inr rfl)) (fun _ _ _ _ _ => pts_nil) (fun _ _ _ _ _ => (pe_dget2 (ru1 hr) (pe_call GSh r5 (by rfl) DSh.gl DSh.kp bSh .nil pass0 (pa_cons (pv 2) (pa_cons (pv 26) (pa_cons (pv 12) (pa_cons (pv 13) pa_nil))))) (pe_tup pa_nil) (pe_tup (pa_cons pe_int (pa_cons pe_int pa_nil))) ⟨rfl, rfl, rfl, rfl⟩)))
      (C8.pss_cut (ps_set (i := 15) scLaw.nd rfl (Or.inl rfl) (pe_lst (pa_cons (pv 4) (pa_cons (pe_meth (E := E0) (pv 4) C.cl MSl GSl r9 bSl .nil passL (pa_cons pe_int pa_nil)) (pa_cons (pe_methK0 (E := E0) (pv 4) C.cl MSl GSl r9 kSl passL (pk_cons pe_int pk_nil)) (pa_cons (pe_meth (E := E0) (pe_meth (E := E0) (pv 4) C.cl MSl GSl r9 bSl .nil passL (pa_cons pe_int pa_nil)) C.cl MSl GSl r9 bSl .nil passL (pa_cons pe_int pa_nil)) pa_nil))))))
      (C8.pss_cut (ps_if (pt_cmpR (op_neD hr.units) (pe_lc (own := [("_law_one", 22)]) (g := gName 22) (te := tCall (spPair CR) [] E0 (tCons (StX.tCallO (cxOf CX0 P w K mg base nLaw "law" (defScope sLaw) f (.ref c) A outer s H E).nox CC (spSCa CC CR) E0 (tVar 22) (tCons (tCall (spMkRatio CR) [] E0 (tCons (tVar 10) tNil)) (tCons (tCall (spMkRatio CR) [] E0 (tCons (tVar 11) tNil)) tNil))) tNil)) rfl scLaw.nd (pi_list (pv 15)) (blkOk_by (own := [("_law_one", 22)]) (N := nLaw) (sc := defScope sLaw) (by decide +kernel)) (fun _ _ _ _ _ => pg_name (i := 22) scLaw.nd rfl (Or.inl rfl) (hf := Or.inr rfl)) (fun _ _ _ _ _ => pts_nil) (fun _ _ _ _ _ => (pe_call GPr r1 (by rfl) DPr.gl DPr.kp bPr .nil pass0 (pa_cons (StX.pe_callO (E := E0) (pv 22) CO GClR r7 pass0 (pa_cons (pe_call GRt r4 (by rfl) DRt.gl DRt.kp bRt .nil pass0 (pa_cons (pv 10) pa_nil)) (pa_cons (pe_call GRt r4 (by rfl) DRt.gl DRt.kp bRt .nil pass0 (pa_cons (pv 11) pa_nil)) pa_nil))) pa_nil)))) (pv 14) (nomark _)) (pss_one (ps_ret pe_bl)) pss_nil)
      (C8.pss_cut (ps_if (PW.pt (pw_or (pt_cmpR (op_neD hr.units) (pe_call GPr r1 (by rfl) DPr.gl DPr.kp bPr .nil pass0 (pa_cons (StX.pe_callO (E := E0) (pe_meth0 (E := E0) (pv 4) C.cl MSw GSw r9 bSw .nil pass0) CO GClR r7 pass0 (pa_cons (pe_call GRt r4 (by rfl) DRt.gl DRt.kp bRt .nil pass0 (pa_cons (pv 11) pa_nil)) (pa_cons (pe_call GRt r4 (by rfl) DRt.gl DRt.kp bRt .nil pass0 (pa_cons (pv 10) pa_nil)) pa_nil))) pa_nil)) (pe_ix ix_list (pv 14) pe_int (fun _ _ => rfl)) (nomark _)) (pw_or1 (pt_cmpR (op_neO MEc NEc GEc bEc r6) (pe_meth0 (E := E0) (pe_meth0 (E := E0) (pv 4) C.cl MSw GSw r9 bSw .nil pass0) C.cl MSw GSw r9 bSw .nil pass0) (pv 4) (nomark _))))) (pss_one (ps_ret pe_bl)) pss_nil)
      (C8.pss_cut (ps_set (i := 16) scLaw.nd rfl (Or.inl rfl) (pe_call GTb r3 (by rfl) DTb.gl DTb.kp bTb .nil pass0 (pa_cons (pe_lc (own := [("_law_one", 22), ("_law_other", 23), ("_law_worth", 24)]) (g := (gTup K 3 (gCons (gName 22) (gCons (gName 23) (gCons (gName 24) gNil))))) (te := tTup (tCons (tVar 23) (tCons (tVar 22) (tCons (tVar 24) tNil)))) rfl scLaw.nd (pi_list (pv 2)) (blkOk_by (own := [("_law_one", 22), ("_law_other", 23), ("_law_worth", 24)]) (N := nLaw) (sc := defScope sLaw) (by decide +kernel)) (fun _ _ _ _ _ => pg_tup (n := 3) rfl (pgs_cons (pg_name (i := 22) scLaw.nd rfl (Or.inl rfl) (hf := Or.inr rfl)) (pgs_cons (pg_name (i := 23) scLaw.nd rfl (Or.inl rfl) (hf := Or.inr rfl)) (pgs_cons (pg_name (i := 24) scLaw.nd rfl (Or.inl rfl) (hf := Or.inr rfl)) pgs_nil)))) (fun _ _ _ _ _ => pts_nil) (fun _ _ _ _ _ => (pe_tup (pa_cons (pv 23) (pa_cons (pv 22) (pa_cons (pv 24) pa_nil)))))) pa_nil)))
      (C8.pss_cut (ps_if (PW.pt (pw_or (pt_cmpR (op_neO MEc NEc GEc bEc r6) (pe_ix ix_list (pv 15) pe_int (fun _ _ => rfl)) (pe_meth (E := E0) (pe_meth (E := E0) (pv 4) C.cl MSl GSl r9 bSl .nil passL (pa_cons pe_int pa_nil)) C.cl MSl GSl r9 bSl .nil passL (pa_cons pe_int pa_nil)) (nomark _)) (pw_or (pt_cmpR (op_eqO MEc GEc bEc r5) (pv 4) (pv 6) (nomark _)) (pw_or1 (pt_cmpR op_ne (pe_cmpR (op_eqO MEc GEc bEc r5) (pv 4) (pe_meth0 (E := E0) (pv 4) C.cl MSw GSw r9 bSw .nil pass0) (nomark _)) (pe_cmpR (op_eqD hr.units) (pv 5) (pv 16) (nomark _)) (nomark _)))))) (pss_one (ps_ret pe_bl)) pss_nil)
      (C8.pss_cut (ps_set (i := 17) scLaw.nd rfl (Or.inr rfl) (pe_call GO r2 (by rfl) DO.gl DO.kp bO .nil pass0 (pa_cons (pv 1) (pa_cons (pe_lst (pa_cons (pe_un un_neg pe_int) (pa_cons pe_non (pa_cons pe_bl (pa_cons pe_str (pa_cons pe_int pa_nil)))))) pa_nil))))
      (C8.pss_cut (ps_set (i := 18) scLaw.nd rfl (Or.inr rfl) (pe_call GO r2 (by rfl) DO.gl DO.kp bO .nil pass0 (pa_cons (pv 1) (pa_cons (pe_lst (pa_cons (pe_un un_neg pe_int) (pa_cons pe_non (pa_cons pe_bl (pa_cons pe_str pa_nil))))) pa_nil))))
      (C8.pss_cut (ps_set (i := 19) scLaw.nd rfl (Or.inl rfl) (pe_lst (pa_abox (K := K) (CR := CR) (CC := CC) (CI := CI) TB rfl rfl)))
      (C8.pss_cut (ps_set (i := 19) scLaw.nd rfl (Or.inl rfl) (pe_op op_cat (pv 19) (pe_lst (pa_abox3 (K := K) (CR := CR) (CC := CC) (CI := CI) TB rfl rfl))))
      (C8.pss_cut (ps_set (i := 20) scLaw.nd rfl (Or.inl rfl) (pe_lst (pa_cons (pe_tup (pa_cons pe_str (pa_cons (pv 17) pa_nil))) (pa_cons (pe_tup (pa_cons pe_str (pa_cons (pv 18) pa_nil))) (pa_cons (pe_tup (pa_cons pe_str (pa_cons (pv 18) pa_nil))) (pa_cons (pe_tup (pa_cons pe_str (pa_cons pe_non pa_nil))) pa_nil))))))
      (pss_one (ps_ret (pe_call GS r4 (by rfl) DS.gl DS.kp bS .nil pass0 (pa_cons (pe_lcI (own := [("_law_ask", 27)]) (g := gName 27) (te := fun σ0 => tLamCallB (envOfC "law" (defScope sLaw) s.heap.objs.size f (.ref c)).cells ((envOfC "law" (defScope sLaw) s.heap.objs.size f (.ref c)).qual ++ "<lambda>") (TTwhy K C1 C2) [d0 K CR CC CI, d3 K CR CC CI] [d1 K CR CC CI, d2 K CR CC CI] (tVar 27) σ0) rfl scLaw.nd (pi_list (pv 19)) (blkOk_by (own := [("_law_ask", 27)]) (N := nLaw) (sc := defScope sLaw) (by decide +kernel)) (fun _ _ _ _ _ => pg_name (i := 27) scLaw.nd rfl (Or.inl rfl) (hf := Or.inr rfl))
          (fun σ0 s0 H0 C0 cl0 fp0 BI => pe_lamvalB (TT := TTwhy K C1 C2) (k := 9) BI (by rfl) DW.gl DW.kp lkW ccW bW scWhy rfl (.inl rfl) (why_gives r3 DF GF bF m1 m2) hr (fun d hd => by
            rcases List.mem_cons.mp hd with rfl | hd
            · exact lo0 LH
            · cases List.mem_singleton.mp hd
              exact lo3 LH) (fun d hd => by
            rcases List.mem_cons.mp hd with rfl | hd
            · exact lo1 LH
            · cases List.mem_singleton.mp hd
              exact lo2 LH) (pv 27))) (pa_cons (pv 20) pa_nil))))))))))))))))))))))))), ?_⟩
    refine ⟨_, rfl, a, ns, rfl, hS, fun b H1 B1 nb s1 => ?_⟩
    have T1 : LamX.Tabs [(PT, qn)] H1 := fun p hp => by
      cases List.mem_singleton.mp hp
      exact LamX.TabS.nil (s1 _ _ hP)
    clear hS hlen hP s1 nb
    refine ⟨fun σ H' => ∃ (lr : Addr) (tr : List Addr) (rows : RW), σ = [some (.ref a), some (.ref b), some (.ref lr), none, none, none, none, none, none, none, none, none, none, none, none, none, none, none, none, none, none, none, none, none, none, none, none, none] ∧ H' lr = some (.lst (tr.map V.ref)) ∧ RowsL H' tr rows ∧ Rws 3 rows ∧ BagAt H' b 100 ∧ LamX.Tabs [(PT, qn)] H', ?_, ?_⟩
    · obtain ⟨l, F1⟩ := B1.fix
      refine ⟨_, rfl, b, 7, 0, rfl, by decide, by decide, B1, by omega, fun r H2 r0 r8 B2 f2 => ⟨_, rfl, by omega, by omega, fun D hD => ?_⟩⟩
      obtain ⟨ys, hb⟩ := B1.lst
      have F2 := F1.bt B2 f2
      have T2 := Tabs.but T1 hb f2.1
      obtain ⟨n1, n2⟩ := F2.new hD
      have sD := same_upd (o := .lst []) hD
      refine lc_range (n := r.toNat) (fun i H' => ∃ rows : RW, (∃ us : List Addr, H' D = some (.lst (us.map V.ref)) ∧ RowsL H' us rows) ∧ rows.length = i ∧ BagF l H' b (1 + 5 * i) ∧ LamX.Tabs [(PT, qn)] H' ∧ ∀ e ∈ rows, Ok 3 e.2 ∧ e.1.1 ≤ 3 ∧ e.1.2 ≤ 3) ⟨[], ⟨[], upd_same, RowsL.nil⟩, rfl, F2.same sD, Tabs.same T2 sD, fun p hp => by cases hp⟩ ?_ ?_
      · rintro i H' hi ⟨rows, ⟨us, hu, ul⟩, ql, Fi, Ti, oi⟩
        refine ⟨rfl, ?_⟩
        refine ⟨_, rfl, b, 4, 1 + 5 * i, rfl, by decide, by decide, Fi.at_, by omega, fun p1 H3 a1 u1 B3 f3 => ⟨_, rfl, b, 4, 1 + 5 * i + 1, rfl, by decide, by decide, B3, by omega, fun p2 H4 a2 u2 B4 f4 => ⟨_, rfl, b, 1 + 5 * i + 1 + 1, rfl, B4, by omega, fun p q0 H5 tp oq B5 f5 => ⟨(by show 3 ≤ sizeLine; decide), fun t ht => ?_⟩⟩⟩⟩
        have ff := (f3.trans f4).trans f5
        obtain ⟨k1, rfl⟩ : ∃ k : Nat, p1 = k := ⟨p1.toNat, by omega⟩
        obtain ⟨k2, rfl⟩ : ∃ k : Nat, p2 = k := ⟨p2.toNat, by omega⟩
        have hu5 := ff.1 _ _ hu (Ne.symm n1)
        obtain ⟨zs, hz⟩ := Fi.at_.lst
        have sT := same_upd (o := .tup [V.int (k1 : Nat), .int (k2 : Nat), .ref p]) ht
        have hut := sT _ _ hu5
        have F5 : BagF l H5 b (1 + 5 * (i + 1)) := (Fi.bt B5 ff).le (by omega)
        refine ⟨_, hut, small1000 (by rw [List.length_map, ul.len]; omega), rows ++ [((k1, k2), q0)], ⟨us ++ [t], by rw [upd_same, List.map_append]; rfl, ?_⟩, by rw [List.length_append, ql]; rfl, (F5.same sT).upd n1 n2, Tabs.but (Tabs.same (Tabs.but Ti hz ff.1) sT) hut (fun b o e n => (upd_ne n).trans e), fun x hx => ?_⟩
        · exact (((ul.but Fi.at_ ff.1).same sT).atL hut).snoc (e := ((k1, k2), q0)) (keep_atL hut _ _ upd_same (fun xs z => by cases z)) (keep_atL hut _ _ (sT _ _ tp) (fun xs z => by cases z))
        · rcases List.mem_append.mp hx with hx | hx
          · exact oi x hx
          · cases List.mem_singleton.mp hx
            exact ⟨oq, by show k1 ≤ 3; omega, by show k2 ≤ 3; omega⟩
      · rintro H' ⟨rows, ⟨us, hu, ul⟩, ql, Fi, Ti, oi⟩
        exact ⟨D, us, rows, rfl, hu, ul, ⟨fun e he => (oi e he).1, fun e he => (oi e he).2.1, fun e he => (oi e he).2.2, by omega⟩, Fi.at_.more (by omega), Ti⟩
    clear B1 T1 H1
    rintro σ H0 ⟨lr, tr, rows, rfl, hr0, rr, rw6, B0, T0⟩
    obtain ⟨l, F0⟩ := B0.fix
    refine ⟨fun σ H' => ∃ (lh : Addr) (us : List Addr), σ = [some (.ref a), some (.ref b), some (.ref lr), some (.ref lh), none, none, none, none, none, none, none, none, none, none, none, none, none, none, none, none, none, none, none, none, none, none, none, none] ∧ H' lh = some (.lst (us.map V.ref)) ∧ RowsAt CR H' us rows ∧ b ≠ lh ∧ l ≠ lh ∧ lr ≠ lh ∧ Same H0 H', ?_, ?_⟩
    · refine ⟨_, rfl, lr, rfl, ⟨_, .of hr0⟩, fun D hD => ?_⟩
      obtain ⟨n1, n2⟩ := F0.new hD
      have n3 : lr ≠ D := ne_of_none hr0 hD
      refine lc_it (walk_list (K := K) (a := lr) (xs := tr.map V.ref)) (fun i H' => ∃ us : List Addr, H' D = some (.lst (us.map V.ref)) ∧ RowsAt CR H' us (rows.take i) ∧ Same H0 H') ⟨[], upd_same, by rw [List.take_zero]; exact ⟨rfl, fun i t e a _ => by cases a⟩, same_upd hD⟩ (fun i H' _ ⟨_, _, _, sx⟩ => .of (sx _ _ hr0)) ?_ ?_
      · rintro i x H2 H2' hi ⟨us, hu, ul, s2⟩ ⟨eH, hx⟩
        rw [eH]
        clear eH H2'
        rw [List.length_map, rr.len] at hi
        obtain ⟨t, et, rfl⟩ := map_of hx
        have eT : rows[i]? = some rows[i] := List.getElem?_eq_getElem hi
        have ow := rw6.ok _ (List.getElem_mem hi)
        have len6 := rw6.len
        obtain ⟨r, ht, hr'⟩ := (rr.same s2).at_ i t _ et eT
        generalize rows[i] = e at eT ow ht hr'
        refine ⟨t, _, rfl, SqT.of ht, rfl, _, _, rfl, _, _, rfl, _, _, rfl, rfl, ?_⟩
        refine ⟨rfl, _, rfl, _, rfl, _, rfl, r, _, _, _, rfl, rfl, .of hr', at1 _ _, _, _, rfl, rfl, _, rfl, ?_⟩
        have fin : ∀ (y : V) (H3 : Hp), Same H2 H3 → NumV CR H3 y e.2.1 e.2.2 → 3 ≤ sizeLine ∧ ∀ t3, H3 t3 = none → ∃ acc, upd H3 t3 (.tup [.int (e.1.1 : Nat), .int (e.1.2 : Nat), y]) D = some (.lst acc) ∧ acc.length < sizeLine ∧ ∃ us : List Addr, upd (upd H3 t3 (.tup [.int (e.1.1 : Nat), .int (e.1.2 : Nat), y])) D (.lst (acc ++ [.ref t3])) D = some (.lst (us.map V.ref)) ∧ RowsAt CR (upd (upd H3 t3 (.tup [.int (e.1.1 : Nat), .int (e.1.2 : Nat), y])) D (.lst (acc ++ [.ref t3]))) us (rows.take (i + 1)) ∧ Same H0 (upd (upd H3 t3 (.tup [.int (e.1.1 : Nat), .int (e.1.2 : Nat), y])) D (.lst (acc ++ [.ref t3]))) := fun y H3 s3 nv => ⟨(by decide), fun t3 ht3 => by
          have sT := same_upd (o := .tup [V.int (e.1.1 : Nat), .int (e.1.2 : Nat), y]) ht3
          have hu3 := sT _ _ (s3 _ _ hu)
          refine ⟨_, hu3, ?_, us ++ [t3], by rw [upd_same, List.map_append]; rfl, ?_, Same.put ((s2.trans s3).trans sT) hD⟩
          · rw [List.length_map, ul.len]
            exact small1000 (by have := List.length_take_le i rows; omega)
          · rw [List.take_add_one, eT]
            refine (((ul.same s3).same sT).keep (keep_atL hu3)).snoc (keep_atL hu3 _ _ upd_same (fun xs z => by cases z)) ?_
            rcases nv with ⟨rr', e1, dx, hr3⟩ | q
            · exact .inl ⟨rr', e1, dx, keep_atL hu3 _ _ (sT _ _ hr3) (fun xs z => by cases z)⟩
            · exact .inr q⟩
        by_cases h1 : 1 < e.2.2
        · rw [decide_eq_true h1]
          refine iteT ⟨_, rfl, r, e.2.1, e.2.2, rfl, hr', ow.ne, ow.b.le (by decide), fun v H3 rv s3 => ?_⟩
          rw [ow.low.1, ow.low.2] at rv
          exact fin _ H3 s3 (.inl ⟨v, rfl, rv⟩)
        · rw [decide_eq_false h1]
          have q2 : e.2.2 = 1 := by have := ow.pos; omega
          exact iteF ⟨_, rfl, r, _, _, _, rfl, rfl, .of hr', at0 _ _, fin _ H2 (fun _ _ e => e) (.inr ⟨rfl, q2⟩)⟩
      · rintro H2 ⟨us, hu, ul, s2⟩
        rw [List.length_map, rr.len, List.take_length] at ul
        exact ⟨D, us, rfl, hu, ul, n1, n2, n3, s2⟩
    rintro σ H1 ⟨lh, us, rfl, hh, ra, nb, nl, nr, s1⟩
    replace F0 := F0.same s1
    replace T0 := Tabs.same T0 s1
    replace hr0 := s1 _ _ hr0
    replace rr := rr.same s1
    clear B0 s1 H0
    refine ⟨fun σ H' => ∃ (cs L : Addr) (kvs : List (List L2.Key × V)) (Tb : RW) (ld : Addr) (td : List Addr), σ = [some (.ref a), some (.ref b), some (.ref lr), some (.ref lh), some (.ref cs), some (.ref ld), none, none, none, none, none, none, none, none, none, none, none, none, none, none, none, none, none, none, none, none, none, none] ∧ Canon 24 rows Tb ∧ ShAt CC CR H' cs L kvs Tb ∧ H' ld = some (.lst (td.map V.ref)) ∧ RowsL H' td Tb ∧ ld ≠ lh ∧ Same H1 H', ?_, ?_⟩
    · have len6 := rw6.len
      have gr : ∀ k, (3 + 1) * cnt rows k ≤ 24 := fun k => grow6 rw6 k
      refine ⟨_, rfl, fun x dx nx nd ne => sheet_made rfl nx nd (.of hh) ra rw6 gr (by decide) fun L kvs Tb H2 sh cn hL s2 => ?_⟩
      refine ⟨_, rfl, lr, tr, rows, 3, 24, rfl, .of (s2 _ _ hr0), rr.same s2, rw6, gr, by decide, fun ld td T2 H3 hd rd cn2 nd2 s3 => ?_⟩
      obtain rfl := cn2.uniq cn fun c => rfl
      refine ⟨(by show 2 ≤ sizeLine; decide), fun p hp => ?_⟩
      have s4 := same_upd (o := .tup [V.ref x, .ref ld]) hp
      exact ⟨p, _, rfl, .of upd_same, rfl, _, _, rfl, _, _, rfl, rfl, x, L, kvs, _, ld, td, rfl, cn, (sh.same s3).same s4, s4 _ _ hd, rd.same s4, Ne.symm (ne_of_none (s2 _ _ hh) nd2), (s2.trans s3).trans s4⟩
    rintro σ H0 ⟨cs, L, kvs, Tb, ld, td, rfl, cn, sh, hd, rd, nd, s1⟩
    have tw := cn.rws rw6
    replace hh := s1 _ _ hh
    replace F0 := F0.same s1
    replace T0 := Tabs.same T0 s1
    replace hr0 := s1 _ _ hr0
    replace rr := rr.same s1
    have lus := ra.len
    clear ra s1 H1
    refine ⟨fun σ H' => σ = [some (.ref a), some (.ref b), some (.ref lr), some (.ref lh), some (.ref cs), some (.ref ld), none, none, none, none, none, none, none, none, none, none, none, none, none, none, none, none, none, none, none, none, none, none] ∧ Fx CR CC PT H' b 100 lr tr rows cs L kvs Tb ld td, ?_, ?_⟩
    · refine ⟨_, rfl, .inl ⟨rfl, _, SqL.of hh⟩, (by show 3 ≤ sizeLine; decide), fun t ht => ?_⟩
      have sT := same_upd (o := .tup [V.int 0, .int 0, .int 9]) ht
      have hh2 := sT _ _ hh
      refine ⟨lh, _, _, rfl, rfl, hh2, small1000 (by rw [List.length_map, lus]; have := rw6.len; omega), rfl, ((F0.same sT).upd nb nl).at_, Tabs.but (Tabs.same T0 sT) hh2 (fun b o e n => (upd_ne n).trans e), (upd_ne nr).trans (sT _ _ hr0), (rr.same sT).atL hh2, (sh.same sT).keep (keep_atL hh2), (upd_ne nd).trans (sT _ _ hd), (rd.same sT).atL hh2⟩
    clear hh F0 T0 hr0 rr sh hd rd H0 nb nl nr nd
    rintro σ H0 ⟨rfl, F0⟩
    refine ⟨fun σ H' => σ = [some (.ref a), some (.ref b), some (.ref lr), some (.ref lh), some (.ref cs), some (.ref ld), some (.str (tabS Tb)), none, none, none, none, none, none, none, none, none, none, none, none, none, none, none, none, none, none, none, none, none] ∧ Same H0 H', ?_, ?_⟩
    · refine ⟨⟨_, rfl⟩, _, rfl, ld, rfl, ⟨_, .of F0.hd⟩, fun D hD => ?_⟩
      refine lc_it (walk_list (K := K) (a := ld) (xs := td.map V.ref)) (fun i H' => H' D = some (.lst (((Tb.take i).map rowS).map V.str)) ∧ Same H0 H') ⟨by rw [List.take_zero]; exact upd_same, same_upd hD⟩ (fun i H' _ ⟨_, sx⟩ => .of (sx _ _ F0.hd)) ?_ ?_
      · rintro i x H2 H2' hi ⟨h1, s2⟩ ⟨eH, hx⟩
        rw [eH]
        clear eH H2'
        rw [List.length_map, F0.rd.len] at hi
        obtain ⟨t, et, rfl⟩ := map_of hx
        have eT : Tb[i]? = some Tb[i] := List.getElem?_eq_getElem hi
        have hm := List.getElem_mem hi
        have p0 := tw.p0 _ hm
        have p1 := tw.p1 _ hm
        have ow := tw.ok _ hm
        obtain ⟨r, ht, hr'⟩ := (F0.rd.same s2).at_ i t _ et eT
        generalize Tb[i] = e at eT hm p0 p1 ow ht hr'
        have l1 := intS_len p0
        have l2 := intS_len p1
        have w1 := w10_of ow.t (by decide : 24 ≤ 33)
        have w2 := w10_of ow.b (by decide : 24 ≤ 33)
        have l3 := ctext_len w1 w2
        have sp := sp_len
        have a1 := app_len l1 sp_len
        have a2 := app_len a1 l2
        have a3 := app_len a2 sp_len
        refine ⟨t, _, rfl, SqT.of ht, rfl, _, _, rfl, _, _, rfl, _, _, rfl, rfl, ?_⟩
        refine ⟨rfl, _, rfl, _, rfl, small_log p0, intS e.1.1, " ", rfl, rfl, fit2 (m := 100) (by omega) (by decide), _, rfl, _, rfl, small_log p1, _, intS e.1.2, rfl, rfl, fit2 (m := 100) (by omega) (by decide), _, " ", rfl, rfl, fit2 (m := 100) (by omega) (by decide), ?_⟩
        refine ⟨_, rfl, r, _, _, rfl, hr', w1, w2, _, _, rfl, rfl, fit2 (m := 100) (by omega) (by decide), _, h1, ?_, ?_, Same.put s2 hD⟩
        · rw [List.length_map, List.length_map]
          exact small1000 (by have := List.length_take_le i Tb; have := tw.len; omega)
        · rw [upd_same, List.take_add_one, eT, List.map_append, List.map_append]
          rfl
      · rintro H2 ⟨h1, s2⟩
        rw [List.length_map, F0.rd.len, List.take_length] at h1
        refine ⟨_, D, _, rfl, rfl, .inl (.of h1), ?_, rfl, s2⟩
        have := tabS_sum tw (by decide : 24 ≤ 33)
        rw [List.length_map]
        exact fit2 this (by decide)
    rintro σ H1 ⟨rfl, s1⟩
    replace F0 := F0.same s1
    clear s1 H0
    refine ⟨fun σ H' => ∃ x7 x8 x9 : Option V, σ = [some (.ref a), some (.ref b), some (.ref lr), some (.ref lh), some (.ref cs), some (.ref ld), some (.str (tabS Tb)), x7, x8, x9, none, none, none, none, none, none, none, none, none, none, none, none, none, none, none, none, none, none] ∧ Same H1 H', ?_, ?_⟩
    · refine ⟨2, rfl, by decide, by decide, for_range (n := 2) (fun i σ H' => ∃ x7 x8 x9 : Option V, σ = [some (.ref a), some (.ref b), some (.ref lr), some (.ref lh), some (.ref cs), some (.ref ld), some (.str (tabS Tb)), x7, x8, x9, none, none, none, none, none, none, none, none, none, none, none, none, none, none, none, none, none, none] ∧ Same H1 H') ⟨none, none, none, rfl, Same.refl _⟩ ?_ fun σ H' z => z⟩
      rintro i σ H2 hi ⟨x7, x8, x9, rfl, s1⟩
      have F2 := F0.same s1
      obtain ⟨dx, hc⟩ := F2.sh.at_
      refine ⟨fun σ H' => ∃ (lf : Addr) (tf : List Addr), σ = [some (.ref a), some (.ref b), some (.ref lr), some (.ref lh), some (.ref cs), some (.ref ld), some (.str (tabS Tb)), some (.int (0 + (i : Int))), some (.ref lf), x9, none, none, none, none, none, none, none, none, none, none, none, none, none, none, none, none, none, none] ∧ H' lf = some (.lst (tf.map V.ref)) ∧ RowsR CR H' tf Tb ∧ H2 lf = none ∧ Same H2 H', ?_, ?_⟩
      · exact ⟨_, rfl, cs, dx, _, rfl, hc, sf_no L (by decide +kernel), cs, L, kvs, Tb, rfl, F2.sh, Nat.le_trans tw.len (by decide), fun l ts H3 hl rt nl s3 => ⟨l, ts, rfl, hl, rt, nl, s3⟩⟩
      rintro σ H3 ⟨lf, tf, rfl, hf, rf, nf, s3⟩
      have F3 := F2.same s3
      have hc3 := s3 _ _ hc
      refine ⟨fun σ H' => ∃ (lt : Addr) (tt : List Addr), σ = [some (.ref a), some (.ref b), some (.ref lr), some (.ref lh), some (.ref cs), some (.ref ld), some (.str (tabS Tb)), some (.int (0 + (i : Int))), some (.ref lf), some (.ref lt), none, none, none, none, none, none, none, none, none, none, none, none, none, none, none, none, none, none] ∧ H' lt = some (.lst (tt.map V.ref)) ∧ RowsL H' tt Tb ∧ Same H3 H', ?_, ?_⟩
      · refine ⟨_, rfl, lf, rfl, ⟨_, .of hf⟩, fun D hD => ?_⟩
        refine lc_it (walk_list (K := K) (a := lf) (xs := tf.map V.ref)) (fun i H' => ∃ us : List Addr, H' D = some (.lst (us.map V.ref)) ∧ RowsL H' us (Tb.take i) ∧ Same H3 H') ⟨[], upd_same, by rw [List.take_zero]; exact RowsL.nil, same_upd hD⟩ (fun i H' _ ⟨_, _, _, sx⟩ => .of (sx _ _ hf)) ?_ ?_
        · rintro j x H4 H4' hj ⟨us, hu, ul, s4⟩ ⟨eH, hx⟩
          rw [eH]
          clear eH H4'
          rw [List.length_map, rf.len] at hj
          obtain ⟨t, et, rfl⟩ := map_of hx
          have eT : Tb[j]? = some Tb[j] := List.getElem?_eq_getElem hj
          obtain ⟨r, ht, hr'⟩ := (rf.same s4).at_ j t _ et eT
          have len6 := tw.len
          generalize Tb[j] = e at eT ht hr'
          refine ⟨t, _, rfl, SqT.of ht, rfl, _, _, rfl, _, _, rfl, _, _, rfl, rfl, ?_⟩
          refine ⟨rfl, _, rfl, _, rfl, _, rfl, r, e.2.1, e.2.2, rfl, hr', fun p H5 tp s5 => ⟨(by show 3 ≤ sizeLine; decide), fun t3 ht3 => ?_⟩⟩
          have sT := same_upd (o := .tup [V.int (e.1.1 : Nat), .int (e.1.2 : Nat), .ref p]) ht3
          have hu5 := sT _ _ (s5 _ _ hu)
          refine ⟨_, hu5, ?_, us ++ [t3], by rw [upd_same, List.map_append]; rfl, ?_, Same.put ((s4.trans s5).trans sT) hD⟩
          · rw [List.length_map, ul.len]
            exact small1000 (by have := List.length_take_le j Tb; omega)
          · rw [List.take_add_one, eT]
            exact (((ul.same s5).same sT).atL hu5).snoc (keep_atL hu5 _ _ upd_same (fun xs z => by cases z)) (keep_atL hu5 _ _ (sT _ _ tp) (fun xs z => by cases z))
        · rintro H4 ⟨us, hu, ul, s4⟩
          rw [List.length_map, rf.len, List.take_length] at ul
          exact ⟨D, us, rfl, hu, ul, s4⟩
      rintro σ H4 ⟨lt, tt, rfl, ht, rt, s4⟩
      have F4 := F3.same s4
      have hc4 := s4 _ _ hc3
      replace rf := rf.same s4
      replace hf := s4 _ _ hf
      refine ⟨fun σ H' => σ = [some (.ref a), some (.ref b), some (.ref lr), some (.ref lh), some (.ref cs), some (.ref ld), some (.str (tabS Tb)), some (.int (0 + (i : Int))), some (.ref lf), some (.ref lt), none, none, none, none, none, none, none, none, none, none, none, none, none, none, none, none, none, none] ∧ Same H4 H', ?_, ?_⟩
      · refine ⟨_, rfl, _, rfl, .ref lt, .ref ld, rfl, like_rows ht F4.hd rt F4.rd (Nat.le_trans tw.len (by decide)), fun H5 s5 => ⟨_, rfl, iteF ?_⟩⟩
        refine ⟨_, rfl, lf, rfl, ⟨_, .of (s5 _ _ hf)⟩, fun D hD => lc_list (xs := tf.map V.ref) (fun i H' => H' D = some (.lst ((List.replicate i true).map V.bl)) ∧ Same H5 H') ⟨upd_same, same_upd hD⟩ (fun i H' _ a => .of (a.2 _ _ (s5 _ _ hf))) ?_ ?_⟩
        · rintro j x H6 hx ⟨h1, s6⟩
          refine ⟨rfl, ?_⟩
          obtain ⟨t, et, rfl⟩ := map_of hx
          have hj := (List.getElem?_eq_some_iff.mp et).1
          have lj := rf.len
          have len6 := tw.len
          obtain ⟨r, htu, _⟩ := rf.at_ j t _ et (List.getElem?_eq_getElem (by omega))
          refine ⟨_, rfl, _, _, _, _, true, rfl, .ty "tuple", .base (.tup (s6 _ _ (s5 _ _ htu))), kit_ty (by decide +kernel), _, h1, ?_, ?_, Same.put s6 hD⟩
          · rw [List.length_map, List.length_replicate]
            exact small1000 (by omega)
          · rw [upd_same, List.replicate_succ', List.map_append]
            rfl
        · rintro H6 ⟨h1, s6⟩
          refine ⟨D, _, rfl, .of h1, ?_⟩
          rw [show (List.replicate (tf.map V.ref).length true).all id = true by rw [List.all_eq_true]; intro x hx; rw [(List.mem_replicate.mp hx).2]; rfl]
          exact ⟨_, rfl, iteF ⟨rfl, s5.trans s6⟩⟩
      rintro σ H5 ⟨rfl, s5⟩
      have F5 := F4.same s5
      have hc5 := s5 _ _ hc4
      replace hf := s5 _ _ hf
      refine ⟨fun σ H' => σ = [some (.ref a), some (.ref b), some (.ref lr), some (.ref lh), some (.ref cs), some (.ref ld), some (.str (tabS Tb)), some (.int (0 + (i : Int))), some (.ref lf), some (.ref lt), none, none, none, none, none, none, none, none, none, none, none, none, none, none, none, none, none, none] ∧ Same H5 H', ?_, ?_⟩
      · have lcT := tabS_len tw (by decide : 24 ≤ 33)
        have l1 : (Str.ofString "Sheet(").length ≤ 6 := by decide
        have l2 : (Str.ofString ")").length ≤ 1 := by decide
        have l3 := app_len l1 lcT
        refine ⟨_, rfl, cs, dx, _, rfl, hc5, cs, L, kvs, Tb, 24, rfl, F5.sh, tw, by decide, fun H6 s6 => ⟨_, rfl, ?_⟩⟩
        refine ⟨_, rfl, cs, dx, _, rfl, s6 _ _ hc5, cs, L, kvs, Tb, 24, rfl, F5.sh.same s6, tw, by decide, fun H7 s7 => ⟨_, rfl, ?_⟩⟩
        refine ⟨(by show 2 ≤ sizeLine; decide), fun p1 hp1 => ?_⟩
        have s8 := same_upd (o := .lst [V.str (tabS Tb), .str ("Sheet(" ++ tabS Tb ++ ")")]) hp1
        refine ⟨_, rfl, _, rfl, _, _, rfl, rfl, fit2 (m := 2000) (by omega) (by decide), _, _, rfl, rfl, fit2 (m := 2000) (by have := app_len l3 l2; omega) (by decide), (by show 2 ≤ sizeLine; decide), fun p2 hp2 => ?_⟩
        exact ⟨.ref p1, .ref p2, rfl, like_strs (same_upd hp2 _ _ upd_same) upd_same, fun H9 s9 => ⟨_, rfl, iteF ⟨rfl, ((s6.trans s7).trans s8).trans ((same_upd hp2).trans s9)⟩⟩⟩
      rintro σ H6 ⟨rfl, s6⟩
      refine ⟨_, rfl, .inl ⟨rfl, _, SqL.of (s6 _ _ hf)⟩, lf, _, .non, rfl, rfl, s6 _ _ hf, small1000 (by rw [List.length_map, rf.len]; have := tw.len; omega), ?_⟩
      exact ⟨_, _, _, rfl, Same.put ((s1.trans s3).trans ((s4.trans s5).trans s6)) (none_of nf s1)⟩
    rintro σ H0 ⟨x7, x8, x9, rfl, s1⟩
    replace F0 := F0.same s1
    clear s1 H1
    refine ⟨fun σ H' => ∃ (pa pb : Addr) (x y : PQ), σ = [some (.ref a), some (.ref b), some (.ref lr), some (.ref lh), some (.ref cs), some (.ref ld), some (.str (tabS Tb)), x7, x8, x9, some (.ref pa), some (.ref pb), none, none, none, none, none, none, none, none, none, none, none, none, none, none, none, none] ∧ TupI H' pa x.1 x.2 ∧ TupI H' pb y.1 y.2 ∧ Ok 3 x ∧ Ok 3 y ∧ Fx CR CC PT H' b 200 lr tr rows cs L kvs Tb ld td, ?_, ?_⟩
    · refine ⟨_, rfl, b, 100, rfl, F0.B, by omega, fun p1 x H1 t1 o1 B1 f1 => ⟨_, rfl, b, 103, rfl, B1, by omega, fun p2 y H2 t2 o2 B2 f2 => ⟨(by show 2 ≤ sizeLine; decide), fun T3 hT => ?_⟩⟩⟩
      have sT := same_upd (o := .tup [V.ref p1, .ref p2]) hT
      obtain ⟨ys1, hb1⟩ := B1.lst
      have m1 : TupI H2 p1 x.1 x.2 := f2.1 _ _ t1 fun z => (by rw [TupI, z, hb1] at t1; cases t1)
      exact ⟨T3, _, rfl, .of upd_same, rfl, _, _, rfl, _, _, rfl, rfl, p1, p2, x, y, rfl, sT _ _ m1, sT _ _ t2, o1, o2, (F0.but (B2.more (by omega)) (f1.trans f2).1).same sT⟩
    clear F0 H0
    rintro σ H0 ⟨pa, pb, x, y, rfl, hx, hy, ox, oy, F0⟩
    refine ⟨fun σ H' => ∃ (da db : Addr), σ = [some (.ref a), some (.ref b), some (.ref lr), some (.ref lh), some (.ref cs), some (.ref ld), some (.str (tabS Tb)), x7, x8, x9, some (.ref pa), some (.ref pb), some (.ref da), some (.ref db), none, none, none, none, none, none, none, none, none, none, none, none, none, none] ∧ DAt H' da (some x) ∧ DAt H' db (some y) ∧ Same H0 H', ?_, ?_⟩
    · refine fun da hda => ⟨Nat.zero_le _, fun k1 hk1 => ⟨_, rfl, (disp_r hx hda hk1).1, k1, [], rfl, upd_same, ?_⟩⟩
      obtain ⟨_, d1, s1⟩ := disp_r hx hda hk1
      generalize upd (upd (upd H0 da (.dT [])) k1 (.tup [])) da (.dT [([], .ref pa)]) = H1 at d1 s1 ⊢
      have hy1 : TupI H1 pb y.1 y.2 := s1 _ _ hy
      refine fun db hdb => ⟨Nat.zero_le _, fun k2 hk2 => ⟨_, rfl, (disp_r hy1 hdb hk2).1, k2, [], rfl, upd_same, ?_⟩⟩
      obtain ⟨_, d2, s2⟩ := disp_r hy1 hdb hk2
      generalize upd (upd (upd H1 db (.dT [])) k2 (.tup [])) db (.dT [([], .ref pb)]) = H2 at d2 s2 ⊢
      refine ⟨(by show 2 ≤ sizeLine; decide), fun T3 hT => ?_⟩
      have s3 := same_upd (o := .tup [V.ref da, .ref db]) hT
      exact ⟨T3, _, rfl, .of upd_same, rfl, _, _, rfl, _, _, rfl, rfl, da, db, rfl, (d1.same s2).same s3, d2.same s3, (s1.trans s2).trans s3⟩
    rintro σ H1 ⟨da, db, rfl, d1, d2, s1⟩
    replace F0 := F0.same s1
    replace hx : TupI H1 pa x.1 x.2 := s1 _ _ hx
    replace hy : TupI H1 pb y.1 y.2 := s1 _ _ hy
    clear s1 H0
    refine ⟨fun σ H' => ∃ (lw : Addr) (rv4 : List Addr), σ = [some (.ref a), some (.ref b), some (.ref lr), some (.ref lh), some (.ref cs), some (.ref ld), some (.str (tabS Tb)), x7, x8, x9, some (.ref pa), some (.ref pb), some (.ref da), some (.ref db), some (.ref lw), none, none, none, none, none, none, none, none, none, none, none, none, none] ∧ H' lw = some (.lst (rv4.map V.ref)) ∧ TupsAt H' rv4 [(lv 0 0 x y rows).getD zz, (lv 1 0 x y rows).getD zz, (lv 0 1 x y rows).getD zz, (lv 1 1 x y rows).getD zz] ∧ Same H1 H', ?_, ?_⟩
    · refine ⟨(by show 2 ≤ sizeLine; decide), fun o1 h1 => ⟨(by show 2 ≤ sizeLine; decide), fun o2 h2 => ⟨(by show 2 ≤ sizeLine; decide), fun o3 h3 => ⟨(by show 2 ≤ sizeLine; decide), fun o4 h4 => ⟨(by show 4 ≤ sizeLine; decide), fun pl hpl => ⟨pl, rfl, ⟨_, .of upd_same⟩, fun D hD => ?_⟩⟩⟩⟩⟩⟩
      have s1 := same_upd (o := .tup [V.int 0, .int 0]) h1
      have s2 := same_upd (o := .tup [V.int 1, .int 0]) h2
      have s3 := same_upd (o := .tup [V.int 0, .int 1]) h3
      have s4 := same_upd (o := .tup [V.int 1, .int 1]) h4
      have s5 := same_upd (o := .lst [V.ref o1, .ref o2, .ref o3, .ref o4]) hpl
      have g1 := (((s2.trans s3).trans s4).trans s5) _ _ upd_same
      have g2 := ((s3.trans s4).trans s5) _ _ upd_same
      have g3 := (s4.trans s5) _ _ upd_same
      have g4 := s5 _ _ upd_same
      have S := (((s1.trans s2).trans s3).trans s4).trans s5
      have gp : (upd (upd (upd (upd (upd H1 o1 (.tup [V.int 0, .int 0])) o2 (.tup [V.int 1, .int 0])) o3 (.tup [V.int 0, .int 1])) o4 (.tup [V.int 1, .int 1])) pl (.lst [V.ref o1, .ref o2, .ref o3, .ref o4])) pl = some (.lst [V.ref o1, .ref o2, .ref o3, .ref o4]) := upd_same
      generalize upd (upd (upd (upd (upd H1 o1 (.tup [V.int 0, .int 0])) o2 (.tup [V.int 1, .int 0])) o3 (.tup [V.int 0, .int 1])) o4 (.tup [V.int 1, .int 1])) pl (.lst [V.ref o1, .ref o2, .ref o3, .ref o4]) = G at g1 g2 g3 g4 S gp hD ⊢
      clear s1 s2 s3 s4 s5 h1 h2 h3 h4 hpl
      have FG := F0.same S
      refine lc_list (xs := [V.ref o1, .ref o2, .ref o3, .ref o4]) (Acc TupP G D [(lv 0 0 x y rows).getD zz, (lv 1 0 x y rows).getD zz, (lv 0 1 x y rows).getD zz, (lv 1 1 x y rows).getD zz]) (.zero hD) (fun i H' _ a => .of (a.sm _ _ gp)) ?_ ?_
      · rintro j v H2 hv ac
        refine ⟨rfl, ?_⟩
        obtain ⟨o, a', b', rfl, ho, ha, hb, ev⟩ : ∃ (o : Addr) (a' b' : Nat), v = .ref o ∧ G o = some (.tup [.int (a' : Nat), .int (b' : Nat)]) ∧ a' ≤ 1 ∧ b' ≤ 1 ∧ [(lv 0 0 x y rows).getD zz, (lv 1 0 x y rows).getD zz, (lv 0 1 x y rows).getD zz, (lv 1 1 x y rows).getD zz][j]? = some ((lv a' b' x y rows).getD zz) := by
          match j, hv with
          | 0, hv => exact ⟨o1, 0, 0, (Option.some.inj hv).symm, g1, by decide, by decide, rfl⟩
          | 1, hv => exact ⟨o2, 1, 0, (Option.some.inj hv).symm, g2, by decide, by decide, rfl⟩
          | 2, hv => exact ⟨o3, 0, 1, (Option.some.inj hv).symm, g3, by decide, by decide, rfl⟩
          | 3, hv => exact ⟨o4, 1, 1, (Option.some.inj hv).symm, g4, by decide, by decide, rfl⟩
        have hj := (List.getElem?_eq_some_iff.mp hv).1
        have FA := FG.same ac.sm
        refine ⟨_, rfl, _, rfl, _, rfl, _, rfl, lr, o, da, db, tr, rows, a', b', x, y, 3, 3, rfl, .of FA.hr, FA.rr, rw6, ac.sm _ _ ho, ha, hb, (d1.same S).same ac.sm, (d2.same S).same ac.sm, ox, oy, by decide, by decide, fun e H3 de s3 => ⟨e, rfl, (dget_r de).1, Nat.zero_le _, fun k0 hk0 => ⟨(by show 2 ≤ sizeLine; decide), fun p0 hp0 => ?_⟩⟩⟩
        obtain ⟨ov, r, gg, er, hr, s4⟩ := (dget_r de).2 k0 p0 hk0 hp0
        refine ⟨ov, gg, ?_⟩
        rw [er]
        exact ac.step hD (s3.trans s4) (p := (lv a' b' x y rows).getD zz) hr ev (by have : j < 4 := hj; omega)
      · rintro H2 ac
        obtain ⟨us, hu, ul⟩ := ac.done (Nat.le_refl _)
        exact ⟨D, us, rfl, hu, ul, S.trans ac.sm⟩
    rintro σ H0 ⟨lw, rv4, rfl, hw, tw4, s1⟩
    replace F0 := F0.same s1
    replace hx : TupI H0 pa x.1 x.2 := s1 _ _ hx
    replace hy : TupI H0 pb y.1 y.2 := s1 _ _ hy
    clear s1 d1 d2 H1
    refine ⟨fun σ H' => ∃ (ls c1 Z1 c2 Z2 c4 Z4 : Addr) (k1 k2 k4 : List (List L2.Key × V)) (U1 U2 U3 U4 : RW), σ = [some (.ref a), some (.ref b), some (.ref lr), some (.ref lh), some (.ref cs), some (.ref ld), some (.str (tabS Tb)), x7, x8, x9, some (.ref pa), some (.ref pb), some (.ref da), some (.ref db), some (.ref lw), some (.ref ls), none, none, none, none, none, none, none, none, none, none, none, none] ∧ H' ls = some (.lst [.ref cs, .ref c1, .ref c2, .ref c4]) ∧ ShAt CC CR H' c1 Z1 k1 U1 ∧ ShAt CC CR H' c2 Z2 k2 U2 ∧ ShAt CC CR H' c4 Z4 k4 U4 ∧ Canon 27 (sl0 Tb) U1 ∧ Canon 27 (sl1 Tb) U2 ∧ Canon 27 (sl0 Tb) U3 ∧ Canon 30 (sl1 U3) U4 ∧ Same H0 H', ?_, ?_⟩
    · obtain ⟨dx, hc⟩ := F0.sh.at_
      refine ⟨_, rfl, _, rfl, cs, dx, _, rfl, hc, sf_no L (by decide +kernel), .inl ⟨cs, L, kvs, Tb, 24, 0, rfl, by decide, F0.sh, tw, cn.srt, by decide, fun c1 Z1 k1 U1 G1 sh1 cn1 n1 s1 => ?_⟩⟩
      refine ⟨_, rfl, cs, dx, _, rfl, s1 _ _ hc, sf_no L (by decide +kernel), .inl ⟨cs, L, kvs, Tb, 24, 1, rfl, by decide, F0.sh.same s1, tw, cn.srt, by decide, fun c2 Z2 k2 U2 G2 sh2 cn2 n2 s2 => ?_⟩⟩
      have S2 := s1.trans s2
      refine ⟨_, rfl, cs, dx, _, rfl, S2 _ _ hc, sf_no L (by decide +kernel), .inl ⟨cs, L, kvs, Tb, 24, 0, rfl, by decide, F0.sh.same S2, tw, cn.srt, by decide, fun c3 Z3 k3 U3 G3 sh3 cn3 n3 s3 => ?_⟩⟩
      rw [if_pos rfl] at cn1 cn3
      rw [if_neg (by decide)] at cn2
      obtain ⟨dx3, hc3⟩ := sh3.at_
      refine ⟨c3, dx3, _, rfl, hc3, sf_no Z3 (by decide +kernel), .inl ⟨c3, Z3, k3, U3, 27, 1, rfl, by decide, sh3, (cn3.rws tw.s0), cn3.srt, by decide, fun c4 Z4 k4 U4 G4 sh4 cn4 n4 s4 => ?_⟩⟩
      rw [if_neg (by decide)] at cn4
      refine ⟨(by show 4 ≤ sizeLine; decide), fun ls hls => ?_⟩
      have s5 := same_upd (o := .lst [V.ref cs, .ref c1, .ref c2, .ref c4]) hls
      exact ⟨ls, c1, Z1, c2, Z2, c4, Z4, k1, k2, k4, U1, U2, U3, U4, rfl, upd_same, sh1.same (((s2.trans s3).trans s4).trans s5), sh2.same ((s3.trans s4).trans s5), sh4.same s5, cn1, cn2, cn3, cn4, ((S2.trans s3).trans s4).trans s5⟩
    rintro σ H1 ⟨ls, c1, Z1, c2, Z2, c4, Z4, k1, k2, k4, U1, U2, U3, U4, rfl, hls, sh1, sh2, sh4, cn1, cn2, cn3, cn4, s1⟩
    replace F0 := F0.same s1
    replace hx : TupI H1 pa x.1 x.2 := s1 _ _ hx
    replace hy : TupI H1 pb y.1 y.2 := s1 _ _ hy
    replace hw := s1 _ _ hw
    replace tw4 := tw4.same s1
    clear s1 H0
    have tw1 := cn1.rws tw.s0
    have tw2 := cn2.rws tw.s1
    have tw3 := cn3.rws tw.s0
    have tw5 := cn4.rws tw3.s1
    refine ⟨fun σ H' => σ = [some (.ref a), some (.ref b), some (.ref lr), some (.ref lh), some (.ref cs), some (.ref ld), some (.str (tabS Tb)), x7, x8, x9, some (.ref pa), some (.ref pb), some (.ref da), some (.ref db), some (.ref lw), some (.ref ls), none, none, none, none, none, none, none, none, none, none, none, none] ∧ Same H1 H', ?_, ?_⟩
    · have sh0 := F0.sh
      refine ⟨_, rfl, ls, rfl, ⟨_, .of hls⟩, fun D hD => ?_⟩
      refine lc_list (xs := [V.ref cs, .ref c1, .ref c2, .ref c4]) (Acc TupP H1 D [(lv 0 0 x y rows).getD zz, (lv 1 0 x y rows).getD zz, (lv 0 1 x y rows).getD zz, (lv 1 1 x y rows).getD zz]) (.zero hD) (fun i H' _ a => .of (a.sm _ _ hls)) ?_ ?_
      · rintro j v H2 hv ac
        refine ⟨rfl, ?_⟩
        obtain ⟨cj, Lj, kj, Uj, nj, rfl, shj, twj, lej, ev⟩ : ∃ (cj Lj : Addr) (kj : List (List L2.Key × V)) (Uj : RW) (nj : Nat), v = .ref cj ∧ ShAt CC CR H1 cj Lj kj Uj ∧ Rws nj Uj ∧ nj ≤ 100 ∧ [(lv 0 0 x y rows).getD zz, (lv 1 0 x y rows).getD zz, (lv 0 1 x y rows).getD zz, (lv 1 1 x y rows).getD zz][j]? = some (vS x y Uj) := by
          match j, hv with
          | 0, hv => exact ⟨cs, L, kvs, Tb, 24, (Option.some.inj hv).symm, sh0, tw, by decide, congrArg some (v00 rw6 cn ox oy).symm⟩
          | 1, hv => exact ⟨c1, Z1, k1, U1, 27, (Option.some.inj hv).symm, sh1, tw1, by decide, congrArg some (v10 rw6 cn cn1 ox oy).symm⟩
          | 2, hv => exact ⟨c2, Z2, k2, U2, 27, (Option.some.inj hv).symm, sh2, tw2, by decide, congrArg some (v01 rw6 cn cn2 ox oy).symm⟩
          | 3, hv => exact ⟨c4, Z4, k4, U4, 30, (Option.some.inj hv).symm, sh4, tw5, by decide, congrArg some (v11 rw6 cn cn3 cn4 ox oy).symm⟩
        have hj := (List.getElem?_eq_some_iff.mp hv).1
        replace shj := shj.same ac.sm
        refine ⟨_, rfl, cj, rfl, _, rfl, pa, x.1, x.2, rfl, ac.sm _ _ hx, ox.ne, ox.b.le (by decide), fun v1 G1 r1 s1 => ⟨_, rfl, pb, y.1, y.2, rfl, s1 _ _ (ac.sm _ _ hy), oy.ne, oy.b.le (by decide), fun v2 G2 r2 s2 => ?_⟩⟩
        rw [ox.low.1, ox.low.2] at r1
        rw [oy.low.1, oy.low.2] at r2
        have S2 := s1.trans s2
        replace shj := shj.same S2
        obtain ⟨dj, hcj⟩ := id shj.at_
        refine ⟨.inr ⟨dj, _, hcj⟩, cj, Lj, kj, Uj, .ref v1, .ref v2, x, y, nj, 3, rfl, shj, twj, .inl ⟨v1, rfl, RatAt.same r1 s2⟩, .inl ⟨v2, rfl, r2⟩, ox, oy, by decide, by omega, fun u G3 ru s3 => ?_⟩
        exact ⟨u, _, _, rfl, ru, fun p G4 tp s4 => ac.step hD ((S2.trans s3).trans s4) (p := vS x y Uj) tp ev (by have : j < 4 := hj; omega)⟩
      · rintro H2 ac
        obtain ⟨us, hu, ul⟩ := ac.done (Nat.le_refl _)
        refine ⟨_, rfl, _, _, .lst (.of hu) (pds_dp ul), .lst (.of (ac.sm _ _ hw)) (pds_dp (tw4.same ac.sm)), pds_shaped _, pds_shaped _, _, rfl, ?_⟩
        rw [pds_self]
        exact iteF ⟨rfl, ac.sm⟩
    rintro σ H0 ⟨rfl, s1⟩
    replace F0 := F0.same s1
    replace hx : TupI H0 pa x.1 x.2 := s1 _ _ hx
    replace hy : TupI H0 pb y.1 y.2 := s1 _ _ hy
    replace hw := s1 _ _ hw
    replace hls := s1 _ _ hls
    replace tw4 := tw4.same s1
    replace sh4 := sh4.same s1
    clear s1 H1 sh1 sh2
    have tyC : ∀ {G : Hp} {z z2 : Addr} {ks : List (List L2.Key × V)} {U : RW}, ShAt CC CR G z z2 ks U → TyX K G (.ref z) (.ref CC) := fun {G z z2 ks U} h => by
      obtain ⟨dz, hz⟩ := h.at_
      exact .base (.ins hz C.cl C.ha C.hn C.ht C.hm)
    refine ⟨fun σ H' => σ = [some (.ref a), some (.ref b), some (.ref lr), some (.ref lh), some (.ref cs), some (.ref ld), some (.str (tabS Tb)), x7, x8, x9, some (.ref pa), some (.ref pb), some (.ref da), some (.ref db), some (.ref lw), some (.ref ls), none, none, none, none, none, none, none, none, none, none, none, none] ∧ Same H0 H', ?_, ?_⟩
    · obtain ⟨dx, hc⟩ := id F0.sh.at_
      refine ⟨_, rfl, cs, dx, _, rfl, hc, sf_no L (by decide +kernel), cs, L, kvs, Tb, 24, rfl, F0.sh, tw, cn.srt, by decide, fun c5 Z5 k5 U5 G1 sh5 cn5 n5 s1 => ?_⟩
      refine ⟨c5, rfl, _, rfl, pb, y.1, y.2, rfl, s1 _ _ hy, oy.ne, oy.b.le (by decide), fun v1 G2 r1 s2 => ⟨_, rfl, pa, x.1, x.2, rfl, s2 _ _ (s1 _ _ hx), ox.ne, ox.b.le (by decide), fun v2 G3 r2 s3 => ?_⟩⟩
      rw [oy.low.1, oy.low.2] at r1
      rw [ox.low.1, ox.low.2] at r2
      have S3 := (s1.trans s2).trans s3
      have sh5' := sh5.same (s2.trans s3)
      obtain ⟨d5, hc5⟩ := id sh5'.at_
      have tw6 := cn5.rws tw.sw
      refine ⟨.inr ⟨d5, _, hc5⟩, c5, Z5, k5, U5, .ref v1, .ref v2, y, x, 25, 3, rfl, sh5', tw6, .inl ⟨v1, rfl, RatAt.same r1 s3⟩, .inl ⟨v2, rfl, r2⟩, oy, ox, by decide, by decide, fun u G4 ru s4 => ?_⟩
      rw [vsw rw6 cn cn5 ox oy] at ru
      refine ⟨u, _, _, rfl, ru, fun p G5 tp s5 => ?_⟩
      have S5 := (S3.trans s4).trans s5
      obtain ⟨q0, e0, hq0⟩ : ∃ q0, rv4[0]? = some q0 ∧ TupI G5 q0 ((lv 0 0 x y rows).getD zz).1 ((lv 0 0 x y rows).getD zz).2 := by
        have l4 : rv4.length = 4 := tw4.len
        have h0 : 0 < rv4.length := by omega
        exact ⟨_, List.getElem?_eq_getElem h0, (tw4.same S5).at_ 0 _ _ (List.getElem?_eq_getElem h0) rfl⟩
      refine ⟨_, rfl, lw, _, 0, .ref q0, rfl, rfl, .of (S5 _ _ hw), atI_nat (map_at e0), ?_⟩
      refine ⟨_, _, .tup (.of tp) (.cons (.int _) (.cons (.int _) .nil)), .tup (.of hq0) (.cons (.int _) (.cons (.int _) .nil)), rfl, rfl, _, rfl, ?_⟩
      rw [SeqAt.eqv_refl _ rfl]
      refine iteF ?_
      refine ⟨_, rfl, cs, dx, _, rfl, S5 _ _ hc, sf_no L (by decide +kernel), cs, L, kvs, Tb, 24, rfl, F0.sh.same S5, tw, cn.srt, by decide, fun c6 Z6 k6 U6 G6 sh6 cn6 n6 s6 => ?_⟩
      obtain ⟨d6, hc6⟩ := id sh6.at_
      have tw7 := cn6.rws tw.sw
      refine ⟨c6, d6, _, rfl, hc6, sf_no Z6 (by decide +kernel), c6, Z6, k6, U6, 25, rfl, sh6, tw7, cn6.srt, by decide, fun c7 Z7 k7 U7 G7 sh7 cn7 n7 s7 => ?_⟩
      obtain rfl := swsw cn cn6 cn7
      obtain ⟨d7, hc7⟩ := id sh7.at_
      have S7 := (S5.trans s6).trans s7
      have shs := F0.sh.same S7
      have ne : Z7 ≠ L := Ne.symm (ne_of_none ((S5.trans s6) _ _ F0.sh.tb) n7)
      refine ⟨_, rfl, c7, d7, _, _, rfl, hc7, tyC shs, C.f1, c7, Z7, .ref cs, k7, _, rfl, sh7, cn7.srt, .inl ⟨cs, L, kvs, _, rfl, shs, cn.srt, ne, fun H' s8 => ⟨_, rfl, ?_⟩⟩⟩
      rw [decide_eq_true rfl]
      exact ⟨_, rfl, iteF ⟨rfl, S7.trans s8⟩⟩
    rintro σ H1 ⟨rfl, s1⟩
    replace F0 := F0.same s1
    replace hls := s1 _ _ hls
    replace sh4 := sh4.same s1
    clear s1 H0 hx hy hw tw4
    refine ⟨fun σ H' => ∃ (lu : Addr) (tu : List Addr) (Tt : RW), σ = [some (.ref a), some (.ref b), some (.ref lr), some (.ref lh), some (.ref cs), some (.ref ld), some (.str (tabS Tb)), x7, x8, x9, some (.ref pa), some (.ref pb), some (.ref da), some (.ref db), some (.ref lw), some (.ref ls), some (.ref lu), none, none, none, none, none, none, none, none, none, none, none] ∧ H' lu = some (.lst (tu.map V.ref)) ∧ RowsL H' tu Tt ∧ Canon 24 (swp rows) Tt ∧ Same H1 H', ?_, ?_⟩
    · refine ⟨_, rfl, lr, rfl, ⟨_, .of F0.hr⟩, fun D hD => ?_⟩
      refine lc_it (walk_list (K := K) (a := lr) (xs := tr.map V.ref)) (fun i H' => ∃ us : List Addr, H' D = some (.lst (us.map V.ref)) ∧ RowsL H' us (swp (rows.take i)) ∧ Same H1 H') ⟨[], upd_same, by rw [List.take_zero]; exact RowsL.nil, same_upd hD⟩ (fun i H' _ ⟨_, _, _, sx⟩ => .of (sx _ _ F0.hr)) ?_ ?_
      · rintro i z H2 H2' hi ⟨us, hu, ul, s2⟩ ⟨eH, hz⟩
        rw [eH]
        clear eH H2'
        rw [List.length_map, F0.rr.len] at hi
        obtain ⟨t, et, rfl⟩ := map_of hz
        have eT : rows[i]? = some rows[i] := List.getElem?_eq_getElem hi
        have len6 := rw6.len
        obtain ⟨r, ht, hr'⟩ := (F0.rr.same s2).at_ i t _ et eT
        generalize rows[i] = e at eT ht hr'
        refine ⟨t, _, rfl, SqT.of ht, rfl, _, _, rfl, _, _, rfl, _, _, rfl, rfl, ?_⟩
        refine ⟨rfl, _, rfl, _, rfl, _, rfl, (by show 3 ≤ sizeLine; decide), fun t3 ht3 => ?_⟩
        have sT := same_upd (o := .tup [V.int (e.1.2 : Nat), .int (e.1.1 : Nat), .ref r]) ht3
        have hu3 := sT _ _ hu
        refine ⟨_, hu3, ?_, us ++ [t3], by rw [upd_same, List.map_append]; rfl, ?_, Same.put (s2.trans sT) hD⟩
        · rw [List.length_map, ul.len]
          unfold swp
          rw [List.length_map]
          exact small1000 (by have := List.length_take_le i rows; omega)
        · have ee : swp (rows.take (i + 1)) = swp (rows.take i) ++ [((e.1.2, e.1.1), e.2)] := by
            unfold swp
            rw [List.take_add_one, eT, List.map_append]
            rfl
          rw [ee]
          exact ((ul.same sT).atL hu3).snoc (e := ((e.1.2, e.1.1), e.2)) (keep_atL hu3 _ _ upd_same (fun xs z => by cases z)) (keep_atL hu3 _ _ (sT _ _ hr') (fun xs z => by cases z))
      · rintro H2 ⟨us, hu, ul, s2⟩
        rw [List.length_map, F0.rr.len, List.take_length] at ul
        refine ⟨D, us, swp rows, 3, 24, rfl, .of hu, ul, rw6.sw, fun k => grow6 rw6.sw k, by decide, fun lu tu Tt H3 h3 r3 cn3' n3 s3 => ?_⟩
        exact ⟨lu, tu, Tt, rfl, h3, r3, cn3', s2.trans s3⟩
    rintro σ H0 ⟨lu, tu, Tt, rfl, hlu, rtu, cnt', s1⟩
    replace F0 := F0.same s1
    replace hls := s1 _ _ hls
    replace sh4 := sh4.same s1
    clear s1 H1
    refine ⟨fun σ H' => σ = [some (.ref a), some (.ref b), some (.ref lr), some (.ref lh), some (.ref cs), some (.ref ld), some (.str (tabS Tb)), x7, x8, x9, some (.ref pa), some (.ref pb), some (.ref da), some (.ref db), some (.ref lw), some (.ref ls), some (.ref lu), none, none, none, none, none, none, none, none, none, none, none] ∧ Same H0 H', ?_, ?_⟩
    · obtain ⟨dx, hc⟩ := id F0.sh.at_
      refine ⟨_, rfl, ls, _, 3, .ref c4, rfl, rfl, .of hls, rfl, ?_⟩
      refine ⟨_, rfl, cs, dx, _, rfl, hc, sf_no L (by decide +kernel), .inl ⟨cs, L, kvs, Tb, 24, 1, rfl, by decide, F0.sh, tw, cn.srt, by decide, fun c5 Z5 k5 U5 G1 sh5 cn5 n5 s1 => ?_⟩⟩
      rw [if_neg (by decide)] at cn5
      obtain ⟨d5, hc5⟩ := id sh5.at_
      have tw6 := cn5.rws tw.s1
      refine ⟨c5, d5, _, rfl, hc5, sf_no Z5 (by decide +kernel), .inl ⟨c5, Z5, k5, U5, 27, 0, rfl, by decide, sh5, tw6, cn5.srt, by decide, fun c6 Z6 k6 U6 G2 sh6 cn6 n6 s2 => ?_⟩⟩
      rw [if_pos rfl] at cn6
      have S2 := s1.trans s2
      obtain rfl := slsl rw6 cn cn3 cn4 cn5 cn6
      have sh4' := sh4.same S2
      obtain ⟨d4, hc4⟩ := id sh4'.at_
      have ne4 : Z4 ≠ Z6 := ne_of_none (s1 _ _ sh4.tb) n6
      refine ⟨c4, d4, _, _, rfl, hc4, tyC sh6, C.f1, c4, Z4, .ref c6, k4, _, rfl, sh4', cn4.srt, .inl ⟨c6, Z6, k6, _, rfl, sh6, cn6.srt, ne4, fun G3 s3 => ⟨_, rfl, ?_⟩⟩⟩
      rw [decide_eq_true rfl]
      refine ⟨_, rfl, iteF ?_⟩
      have S3 := S2.trans s3
      refine ⟨_, rfl, _, rfl, cs, dx, _, _, rfl, S3 _ _ hc, .base (.str _), nfS, cs, L, .str _, kvs, Tb, rfl, F0.sh.same S3, cn.srt, .inr ⟨_, rfl, ⟨_, rfl, _, rfl, iteF ?_⟩⟩⟩
      refine ⟨_, rfl, _, rfl, cs, dx, _, rfl, S3 _ _ hc, sf_no L (by decide +kernel), cs, L, kvs, Tb, 24, rfl, F0.sh.same S3, tw, cn.srt, by decide, fun c7 Z7 k7 U7 G4 sh7 cn7 n7 s4 => ?_⟩
      have S4 := S3.trans s4
      obtain rfl := turn cn cn7 cnt'
      have ne7 : L ≠ Z7 := ne_of_none (S3 _ _ F0.sh.tb) n7
      refine ⟨cs, dx, _, _, rfl, S4 _ _ hc, tyC sh7, C.f1, cs, L, .ref c7, kvs, Tb, rfl, F0.sh.same S4, cn.srt, .inl ⟨c7, Z7, k7, _, rfl, sh7, cn7.srt, ne7, fun G5 s5 => ⟨_, rfl, ?_⟩⟩⟩
      have S5 := S4.trans s5
      refine ⟨_, rfl, _, rfl, _, _, .lst (.of (S5 _ _ F0.hd)) (rds_dp (F0.rd.same S5)), .lst (.of (S5 _ _ hlu)) (rds_dp (rtu.same S5)), rds_shaped _, rds_shaped _, rfl, _, rfl, ?_⟩
      rw [rds_eqv]
      have e9 : ∀ p : Bool, (!decide (V.bl (p != false) = V.bl p)) = false := fun p => by cases p <;> rfl
      rw [e9]
      exact iteF ⟨rfl, S5⟩
    rintro σ H1 ⟨rfl, s1⟩
    replace F0 := F0.same s1
    clear s1 H0 hls sh4 hlu rtu
    refine ⟨fun σ H' => ∃ v : V, σ = [some (.ref a), some (.ref b), some (.ref lr), some (.ref lh), some (.ref cs), some (.ref ld), some (.str (tabS Tb)), x7, x8, x9, some (.ref pa), some (.ref pb), some (.ref da), some (.ref db), some (.ref lw), some (.ref ls), some (.ref lu), some v, none, none, none, none, none, none, none, none, none, none] ∧ (OddV v ∨ v = .int 2) ∧ Fx CR CC PT H' b 201 lr tr rows cs L kvs Tb ld td, ?_, ?_⟩
    · refine ⟨_, rfl, _, rfl, (by show 5 ≤ sizeLine; decide), fun l2 hl2 => ?_⟩
      have F2 := F0.same (same_upd (o := .lst [V.int (-1), .non, .bl true, .str "0", .int 2]) hl2)
      obtain ⟨ys, hb⟩ := F0.B.lst
      have n2 : l2 ≠ b := Ne.symm (ne_of_none hb hl2)
      refine ⟨b, l2, 200, _, rfl, F2.B, by decide, n2, upd_same, by show 0 < 5; decide, by show 5 ≤ 1000; decide, fun i v H3 hv B3 f3 => ⟨v, rfl, ?_, F2.but B3 f3.1⟩⟩
      match i, hv with
      | 0, hv => exact .inl (.inl (Option.some.inj hv).symm)
      | 1, hv => exact .inl (.inr (.inl (Option.some.inj hv).symm))
      | 2, hv => exact .inl (.inr (.inr (.inl (Option.some.inj hv).symm)))
      | 3, hv => exact .inl (.inr (.inr (.inr (Option.some.inj hv).symm)))
      | 4, hv => exact .inr (Option.some.inj hv).symm
    clear F0 H1
    rintro σ H0 ⟨v, rfl, ov, F0⟩
    refine ⟨fun σ H' => ∃ u : V, σ = [some (.ref a), some (.ref b), some (.ref lr), some (.ref lh), some (.ref cs), some (.ref ld), some (.str (tabS Tb)), x7, x8, x9, some (.ref pa), some (.ref pb), some (.ref da), some (.ref db), some (.ref lw), some (.ref ls), some (.ref lu), some v, some u, none, none, none, none, none, none, none, none, none] ∧ OddV u ∧ Fx CR CC PT H' b 202 lr tr rows cs L kvs Tb ld td, ?_, ?_⟩
    · refine ⟨_, rfl, _, rfl, (by show 4 ≤ sizeLine; decide), fun l2 hl2 => ?_⟩
      have F2 := F0.same (same_upd (o := .lst [V.int (-1), .non, .bl true, .str "0"]) hl2)
      obtain ⟨ys, hb⟩ := F0.B.lst
      have n2 : l2 ≠ b := Ne.symm (ne_of_none hb hl2)
      refine ⟨b, l2, 201, _, rfl, F2.B, by decide, n2, upd_same, by show 0 < 4; decide, by show 4 ≤ 1000; decide, fun i u H3 hv B3 f3 => ⟨u, rfl, ?_, F2.but B3 f3.1⟩⟩
      match i, hv with
      | 0, hv => exact .inl (Option.some.inj hv).symm
      | 1, hv => exact .inr (.inl (Option.some.inj hv).symm)
      | 2, hv => exact .inr (.inr (.inl (Option.some.inj hv).symm))
      | 3, hv => exact .inr (.inr (.inr (Option.some.inj hv).symm))
    clear F0 H0
    rintro σ H1 ⟨u, rfl, ou, F0⟩
    obtain ⟨dx, hc⟩ := F0.sh.at_
    have T0 := F0.tab
    clear F0
    refine ⟨fun σ H' => ∃ (La f0 f1 f2 : Addr), σ = [some (.ref a), some (.ref b), some (.ref lr), some (.ref lh), some (.ref cs), some (.ref ld), some (.str (tabS Tb)), x7, x8, x9, some (.ref pa), some (.ref pb), some (.ref da), some (.ref db), some (.ref lw), some (.ref ls), some (.ref lu), some v, some u, some (.ref La), none, none, none, none, none, none, none, none] ∧ H' La = some (.lst [.ref f0, .ref f1, .ref f2]) ∧ Asks K CR CC CI (envOfC "law" (defScope sLaw) s.heap.objs.size f (.ref c)).cells H' f0 f1 f2 ∧ H' cs = some (.ins CC dx (sf L)) ∧ LamX.Tabs [(PT, qn)] H', ?_, ?_⟩
    · refine abox_of T0 fun H3 f0 f1 f2 e3 T3 as => ⟨(by show 3 ≤ sizeLine; decide), fun La hL => ?_⟩
      have sL := same_upd (o := .lst [V.ref f0, .ref f1, .ref f2]) hL
      exact ⟨La, f0, f1, f2, rfl, upd_same, as.kp (Kp.of sL), sL _ _ (e3 _ _ hc fun ps z => by cases z), Tabs.same T3 sL⟩
    clear T0 hc H1
    rintro σ H0 ⟨La, f0, f1, f2, rfl, hLa, as, hc, T0⟩
    refine ⟨fun σ H' => ∃ (Lb f3 : Addr), σ = [some (.ref a), some (.ref b), some (.ref lr), some (.ref lh), some (.ref cs), some (.ref ld), some (.str (tabS Tb)), x7, x8, x9, some (.ref pa), some (.ref pb), some (.ref da), some (.ref db), some (.ref lw), some (.ref ls), some (.ref lu), some v, some u, some (.ref Lb), none, none, none, none, none, none, none, none] ∧ H' Lb = some (.lst [.ref f0, .ref f1, .ref f2, .ref f3]) ∧ Asks K CR CC CI (envOfC "law" (defScope sLaw) s.heap.objs.size f (.ref c)).cells H' f0 f1 f2 ∧ Ask3 K CR CC CI (envOfC "law" (defScope sLaw) s.heap.objs.size f (.ref c)).cells H' f3 ∧ H' cs = some (.ins CC dx (sf L)), ?_, ?_⟩
    · refine ⟨_, rfl, abox3_of T0 fun H3 f3 e3 T3 a3 => ⟨(by show 1 ≤ sizeLine; decide), fun l1 hl1 => ?_⟩⟩
      have s1 := same_upd (o := .lst [V.ref f3]) hl1
      refine ⟨La, l1, _, _, rfl, rfl, s1 _ _ (e3 _ _ hLa fun ps z => by cases z), upd_same, (by show 3 + 1 ≤ sizeLine; decide), fun p hp => ?_⟩
      have s2 := same_upd (o := .lst ([V.ref f0, .ref f1, .ref f2] ++ [V.ref f3])) hp
      have S := s1.trans s2
      exact ⟨p, f3, rfl, upd_same, (as.kp (Kp.ofN e3)).kp (Kp.of S), a3.kp (Kp.of S), S _ _ (e3 _ _ hc fun ps z => by cases z)⟩
    clear T0 hc as hLa H0
    rintro σ H1 ⟨Lb, f3, rfl, hLb, as, a3, hc⟩
    refine ⟨fun σ H' => ∃ (Lf u0 u1 u2 u3 : Addr), σ = [some (.ref a), some (.ref b), some (.ref lr), some (.ref lh), some (.ref cs), some (.ref ld), some (.str (tabS Tb)), x7, x8, x9, some (.ref pa), some (.ref pb), some (.ref da), some (.ref db), some (.ref lw), some (.ref ls), some (.ref lu), some v, some u, some (.ref Lb), some (.ref Lf), none, none, none, none, none, none, none] ∧ H' Lf = some (.lst [.ref u0, .ref u1, .ref u2, .ref u3]) ∧ H' u0 = some (.tup [.str "InvalidNumber", v]) ∧ H' u1 = some (.tup [.str "InvalidNumber", u]) ∧ H' u2 = some (.tup [.str "InvalidNumber", u]) ∧ H' u3 = some (.tup [.str "InvalidNumber", .non]) ∧ Same H1 H', ?_, ?_⟩
    · refine ⟨_, rfl, (by show 2 ≤ sizeLine; decide), fun u0 h0 => ⟨_, rfl, (by show 2 ≤ sizeLine; decide), fun u1 h1 => ⟨_, rfl, (by show 2 ≤ sizeLine; decide), fun u2 h2 => ⟨(by show 2 ≤ sizeLine; decide), fun u3 h3 => ⟨(by show 4 ≤ sizeLine; decide), fun D hD => ?_⟩⟩⟩⟩⟩
      have q0 := same_upd (o := .tup [.str "InvalidNumber", v]) h0
      have q1 := same_upd (o := .tup [.str "InvalidNumber", u]) h1
      have q2 := same_upd (o := .tup [.str "InvalidNumber", u]) h2
      have q3 := same_upd (o := .tup [.str "InvalidNumber", .non]) h3
      have q4 := same_upd (o := .lst [V.ref u0, .ref u1, .ref u2, .ref u3]) hD
      exact ⟨D, u0, u1, u2, u3, rfl, upd_same, (((q1.trans q2).trans q3).trans q4) _ _ upd_same, ((q2.trans q3).trans q4) _ _ upd_same, (q3.trans q4) _ _ upd_same, q4 _ _ upd_same, (((q0.trans q1).trans q2).trans q3).trans q4⟩
    rintro σ H3 ⟨Lf, u0, u1, u2, u3, rfl, hLf, g0, g1, g2, g3, s1⟩
    replace hLb := s1 _ _ hLb
    replace hc := s1 _ _ hc
    replace as := as.kp (Kp.of s1)
    replace a3 := a3.kp (Kp.of s1)
    clear s1 H1
    have tupE : ∀ {Hx : Hp} {t : Addr} {z : V}, Hx t = some (.tup [.str "InvalidNumber", z]) → ∀ {D : Addr} {xs : List V}, Hx D = some (.lst xs) → D ≠ t := fun h1 D xs h2 z => by
      rw [z, h1] at h2
      cases h2
    refine ⟨_, rfl, Lb, rfl, ⟨_, .of hLb⟩, fun D hD => lc_list (xs := [.ref f0, .ref f1, .ref f2, .ref f3]) (fun i H' => Same H3 H' ∧ ∃ t0 t1 t2 t3 : Addr, H' D = some (.lst ([V.ref t0, .ref t1, .ref t2, .ref t3].take i)) ∧ (0 < i → H' t0 = some (.tup [.str "InvalidNumber", v])) ∧ (1 < i → H' t1 = some (.tup [.str "InvalidNumber", u])) ∧ (2 < i → H' t2 = some (.tup [.str "InvalidNumber", u])) ∧ (3 < i → H' t3 = some (.tup [.str "InvalidNumber", .non]))) ⟨same_upd hD, 0, 0, 0, 0, upd_same, fun z => absurd z (by decide), fun z => absurd z (by decide), fun z => absurd z (by decide), fun z => absurd z (by decide)⟩ (fun i H' _ z => .of (z.1 _ _ hLb)) ?_ ?_⟩
    · rintro j z H4 hz ⟨s4, t0, t1, t2, t3, hC4, p0, p1, p2, p3⟩
      refine ⟨rfl, ?_⟩
      have as4 := as.kp (Kp.of s4)
      have a34 := a3.kp (Kp.of s4)
      have hc4 := s4 _ _ hc
      match j, hz, hC4, p0, p1, p2 with
      | 0, hx, hC4, p0, p1, p2 =>
        obtain rfl := Option.some.inj hx
        obtain ⟨c0, la⟩ := as4.a0
        refine ⟨_, rfl, .inl ⟨f0, c0, d0 K CR CC CI, List.mem_cons_self, rfl, la, la.fn, la0 ⟨rfl, rfl, rfl, ⟨dx, hc4⟩, ov, ou⟩ fun d H5 s5 hd => told_in TI s5 hd fun w H6 hu s6 => ?_⟩⟩
        have nu := tupE hu (s6 _ _ hC4)
        exact ⟨_, s6 _ _ hC4, (by show 0 < sizeLine; decide), Same.put (s4.trans s6) hD, w, 0, 0, 0, upd_same, fun _ => (upd_ne nu.symm).trans hu, fun z => absurd z (by omega), fun z => absurd z (by omega), fun z => absurd z (by omega)⟩
      | 1, hx, hC4, p0, p1, p2 =>
        obtain rfl := Option.some.inj hx
        obtain ⟨c0, T', la⟩ := as4.a1
        refine ⟨_, rfl, .inr ⟨f1, c0, T', d1 K CR CC CI, List.mem_cons_self, rfl, la, la, la1 T ⟨rfl, rfl, rfl, ⟨dx, hc4⟩, ov, ou⟩ fun d H5 s5 hd => told_in TI s5 hd fun w H6 hu s6 => ?_⟩⟩
        have nu := tupE hu (s6 _ _ hC4)
        have h0 := s6 _ _ (p0 (by decide))
        exact ⟨_, s6 _ _ hC4, (by show 1 < sizeLine; decide), Same.put (s4.trans s6) hD, t0, w, 0, 0, upd_same, fun _ => (upd_ne (tupE h0 (s6 _ _ hC4)).symm).trans h0, fun _ => (upd_ne nu.symm).trans hu, fun z => absurd z (by omega), fun z => absurd z (by omega)⟩
      | 2, hx, hC4, p0, p1, p2 =>
        obtain rfl := Option.some.inj hx
        obtain ⟨c0, T', la⟩ := as4.a2
        refine ⟨_, rfl, .inr ⟨f2, c0, T', d2 K CR CC CI, List.mem_cons_of_mem _ List.mem_cons_self, rfl, la, la, la2 ⟨rfl, rfl, rfl, ⟨dx, hc4⟩, ov, ou⟩ fun d H5 s5 hd => told_in TI s5 hd fun w H6 hu s6 => ?_⟩⟩
        have nu := tupE hu (s6 _ _ hC4)
        have h0 := s6 _ _ (p0 (by decide))
        have h1 := s6 _ _ (p1 (by decide))
        exact ⟨_, s6 _ _ hC4, (by show 2 < sizeLine; decide), Same.put (s4.trans s6) hD, t0, t1, w, 0, upd_same, fun _ => (upd_ne (tupE h0 (s6 _ _ hC4)).symm).trans h0, fun _ => (upd_ne (tupE h1 (s6 _ _ hC4)).symm).trans h1, fun _ => (upd_ne nu.symm).trans hu, fun z => absurd z (by omega)⟩
      | 3, hx, hC4, p0, p1, p2 =>
        obtain rfl := Option.some.inj hx
        obtain ⟨c0, la⟩ := a34
        refine ⟨_, rfl, .inl ⟨f3, c0, d3 K CR CC CI, List.mem_cons_of_mem _ List.mem_cons_self, rfl, la, la.fn, la3 T ⟨rfl, rfl, rfl, ⟨dx, hc4⟩, ov, ou⟩ fun d H5 s5 hd => told_in TI s5 hd fun w H6 hu s6 => ?_⟩⟩
        have nu := tupE hu (s6 _ _ hC4)
        have h0 := s6 _ _ (p0 (by decide))
        have h1 := s6 _ _ (p1 (by decide))
        have h2 := s6 _ _ (p2 (by decide))
        exact ⟨_, s6 _ _ hC4, (by show 3 < sizeLine; decide), Same.put (s4.trans s6) hD, t0, t1, t2, w, upd_same, fun _ => (upd_ne (tupE h0 (s6 _ _ hC4)).symm).trans h0, fun _ => (upd_ne (tupE h1 (s6 _ _ hC4)).symm).trans h1, fun _ => (upd_ne (tupE h2 (s6 _ _ hC4)).symm).trans h2, fun _ => (upd_ne nu.symm).trans hu⟩
    · rintro H4 ⟨s4, t0, t1, t2, t3, hC4, p0, p1, p2, p3⟩
      have lv' : Like H4 2 v v := by
        rcases ov with h | rfl
        · exact h.like
        · exact .inl ⟨rfl, .inr (.inr (.inl ⟨_, rfl⟩))⟩
      refine ⟨_, rfl, _, _, rfl, .inr ⟨D, Lf, _, _, rfl, rfl, .inr ⟨hC4, s4 _ _ hLf⟩, rfl, (by show 4 ≤ 1000; decide), fun k x y hx hy => ?_⟩, fun H9 s9 => q _⟩
      match k, hx, hy with
      | 0, hx, hy =>
        cases Option.some.inj hx
        cases Option.some.inj hy
        exact like_pair (p0 (show 0 < 4 by decide)) (s4 _ _ g0) lv'
      | 1, hx, hy =>
        cases Option.some.inj hx
        cases Option.some.inj hy
        exact like_pair (p1 (show 1 < 4 by decide)) (s4 _ _ g1) ou.like
      | 2, hx, hy =>
        cases Option.some.inj hx
        cases Option.some.inj hy
        exact like_pair (p2 (show 2 < 4 by decide)) (s4 _ _ g2) ou.like
      | 3, hx, hy =>
        cases Option.some.inj hx
        cases Option.some.inj hy
        exact like_pair (p3 (show 3 < 4 by decide)) (s4 _ _ g3) (.inl ⟨rfl, .inl rfl⟩)
end
end K37

set_option Elab.async false
set_option linter.all false
set_option maxRecDepth 100000
set_option maxHeartbeats 8000000
set_option pp.maxSteps 400
namespace K37
open PySem PySem.Spec PyProof.Rows L2 Ux
def isB (a : Option (Option Value)) (v : Value) : Bool := decide (a = some (some v))
def isN (a : Option (Option Value)) : Bool := decide (a = some none)
theorem isB_of {a : Option (Option Value)} {v : Value} (h : isB a v = true) : a = some (some v) := of_decide_eq_true h
theorem isN_of {a : Option (Option Value)} (h : isN a = true) : a = some none := of_decide_eq_true h
/-- what every class of the text has -/
def chC (K : PySem.W.Frag) (C f : Addr) : Bool := PySem.W.plainGet K C Str.empty && (PySem.W.hasDictIn K C && (PySem.W.plainOver K C && (isB (PySem.W.findIn K (.ref C) "__setattr__") (.builtin "object.__setattr__") &&
  (isB (PySem.W.findIn K (.ref C) "__class__") (.builtin "object.__class__") && (decide (PySem.W.mroIn K C (.type "object") = some true) && (decide (PySem.W.kitOne K (.ref C) (.ref C) = some true) &&
  (PySem.W.makesIn K C && (isB (PySem.W.findIn K (.ref C) "__init__") (.ref f) && (PySem.W.isFn K (.ref f) && PySem.W.keepIn K (.ref C))))))))))
def chM (K : PySem.W.Frag) (C : Addr) (m : Str) (f : Addr) : Bool := isB (PySem.W.findIn K (.ref C) m) (.ref f) && PySem.W.isFn K (.ref f)
def chG (K : PySem.W.Frag) : Bool := isB (PySem.W.specialIn K (.builtin "object.__class__") "__get__") (.builtin "getset_descriptor.__get__") && decide (PySem.W.takesIn K (.builtin "object.__class__") = some true)
theorem cls_of {K : PySem.W.Frag} {C f : Addr} (h : chC K C f = true) : Cls K C ∧ PySem.W.findIn K (.ref C) "__class__" = some (some (.builtin "object.__class__")) ∧ PySem.W.mroIn K C (.type "object") = some true ∧ PySem.W.kitOne K (.ref C) (.ref C) = some true ∧ Mk K C f := by
  simp only [chC, Bool.and_eq_true] at h
  obtain ⟨h1, h2, h3, h4, h5, h6, h7, h8, h9, h10, h11⟩ := h
  exact ⟨⟨h1, h2, h3, isB_of h4⟩, isB_of h5, of_decide_eq_true h6, of_decide_eq_true h7, ⟨h8, isB_of h9, h10, h11⟩⟩
theorem own_of {K : PySem.W.Frag} {C : Addr} {m : Str} {f : Addr} (h : chM K C m f = true) : OwnM K C m f := ⟨isB_of (Bool.and_eq_true_iff.mp h).1, (Bool.and_eq_true_iff.mp h).2⟩
theorem same_zero {P : Program} {w : World} {K : PySem.W.Frag} {mg : Str → Option Value} {base : Heap} {f : Addr} {fd : FuncData} : FnOk P w K mg base CX0 0 f fd ["_law_found", "_law_due"] (spSame 0) :=
  ⟨fun _ _ _ _ h => by obtain ⟨_, _, rfl, z, _⟩ := h; exact z.elim, fun _ _ _ _ _ _ _ _ _ _ _ _ _ h => by obtain ⟨_, _, _, z, _⟩ := h; exact z.elim⟩
abbrev pR3 : List Str := ["self", "top", "bottom"]
theorem r_binds2 {K : PySem.W.Frag} {f : Addr} {fd : FuncData} (F : FunD K "__init__" "Ratio.__init__" (defArgs sRInit) (defBody sRInit) (defScope sRInit) [.int 1] [] f fd) : ∃ ds, Vals [V.int 1] ds ∧ Binds K fd ["self", "top", "bottom"] ds :=
  F.binds1 2 0 (by simp) rfl fun T kV doc pm an cdv ct us its h1 h2 => match us, its, h1, h2 with | [_, _], [_], _, _ => ⟨_, rfl, rfl⟩
theorem r_binds3 {K : PySem.W.Frag} {f : Addr} {fd : FuncData} (F : FunD K "__init__" "Ratio.__init__" (defArgs sRInit) (defBody sRInit) (defScope sRInit) [.int 1] [] f fd) : Binds K fd ["self", "top", "bottom"] [] := by
  obtain ⟨ds, v, b⟩ := F.binds1 (ps := ["self", "top", "bottom"]) 3 1 (by simp) rfl fun T kV doc pm an cdv ct us its h1 h2 => match us, its, h1, h2 with | [_, _, _], [_], _, _ => ⟨_, rfl, rfl⟩
  cases v
  exact b
def chR (K : PySem.W.Frag) (C fi fe fs : Addr) : Bool := chC K C fi && (isN (PySem.W.findIn K (.ref C) "top") && (isN (PySem.W.findIn K (.ref C) "bottom") && (decide (PySem.W.kitOne K (.type "int") (.ref C) = some false) && (decide (PySem.W.kitOne K (.type "NoneType") (.ref C) = some false) &&
  (decide (PySem.W.kitOne K (.type "str") (.ref C) = some false) && (decide (PySem.W.kitOne K (.type "bool") (.ref C) = some false) && (decide (PySem.W.kitOne K (.ref C) (.type "str") = some false) && (decide (PySem.W.kitOne K (.ref C) (.type "int") = some false) &&
  (PySem.W.notFirst K C (.ref C) && (chM K C "__eq__" fe && (chM K C "__str__" fs && isB (PySem.W.findIn K (.ref C) "__format__") (.builtin "object.__format__"))))))))))))
def chO (K : PySem.W.Frag) (C f1 f3 g3 : Addr) : Bool := PySem.W.selfFirst K C && (chM K C (PySem.dunder "add") f1 && (chM K C (PySem.dunder "mul") f3 && (isB (PySem.W.findIn K (.ref C) (dunderR "mul")) (.ref g3) &&
  ((PySem.W.findIn K (.type "int") (PySem.dunder "mul")).isSome && ((PySem.W.findIn K (.type "int") (dunderR "mul")).isSome && decide (PySem.W.subIn K (.type "int") (.ref C) = some false))))))
theorem op_of {K : PySem.W.Frag} {C f1 f3 g3 : Addr} (h : chO K C f1 f3 g3 = true) : BinM K C "add" f1 ∧ BinM K C "mul" f3 ∧ BinI K C "mul" := by
  simp only [chO, Bool.and_eq_true] at h
  obtain ⟨h1, h2, h3, h4, h6, h7, h8⟩ := h
  exact ⟨⟨h1, (own_of h2).at_, (own_of h2).fn⟩, ⟨h1, (own_of h3).at_, (own_of h3).fn⟩, ⟨⟨_, isB_of h4⟩, Option.isSome_iff_exists.mp h6, Option.isSome_iff_exists.mp h7, of_decide_eq_true h8⟩⟩
def chSh (K : PySem.W.Frag) (C fi fe fs fr ft fl fw fc : Addr) : Bool := chC K C fi && (isN (PySem.W.findIn K (.ref C) "_table") && (decide (PySem.W.kitOne K (.type "str") (.ref C) = some false) && (PySem.W.notFirst K C (.ref C) && (PySem.W.notFirst K C (.type "str") && (chM K C "__eq__" fe &&
  (isB (PySem.W.findIn K (.ref C) "__ne__") (.builtin "object.__ne__") && (chM K C "__str__" fs && (chM K C "__repr__" fr && (isB (PySem.W.findIn K (.ref C) "__format__") (.builtin "object.__format__") && (chM K C "told_rows" ft && (PySem.W.keepIn K (.ref ft) && (chM K C "slope_sheet" fl && (PySem.W.keepIn K (.ref fl) &&
  (chM K C "swapped" fw && (PySem.W.keepIn K (.ref fw) && (chM K C "__call__" fc && PySem.W.fnIn K fc))))))))))))))))
def chB (K : PySem.W.Frag) (C : Addr) (ini : String) : Bool :=
  isB (PySem.W.specialIn K (.ref C) "__getattribute__") (.builtin "type.__getattribute__") && (PySem.W.readsIn K C (.type "type") && PySem.W.handedIn (.builtin ini))
abbrev veB : List Value := [.type "ValueError", .type "Exception", .type "BaseException", .type "object"]
def chI (K : PySem.W.Frag) (C CS CM f : Addr) : Bool :=
  PySem.W.excInitIn K C veB "ValueError.__new__" && (PySem.W.excOver K C veB && (PySem.W.hasDictIn K C && (isB (PySem.W.findIn K (.ref C) "__setattr__") (.builtin "object.__setattr__") && (PySem.W.keepIn K (.ref C) && (isB (PySem.W.findIn K (.ref C) "__getattribute__") (.builtin "BaseException.__getattribute__") &&
  (isN (PySem.W.findIn K (.ref C) "__getattr__") && (decide (PySem.W.subIn K (.ref C) (.type "BaseException") = some true) && (fieldNames.all (fun x => isN (PySem.W.findIn K (.ref C) x)) && decide (PySem.W.exmAny K (.ref C) [.ref CS, .ref CM] = some true)))))))))
theorem rt_of {K : PySem.W.Frag} {mg : Str → Option Value} {C fi fe fs : Addr} (h : chR K C fi fe fs = true) (g : chG K = true) (gl : mg "Ratio" = some (.ref C)) : RT K mg C ∧ Mk K C fi ∧ OwnM K C "__eq__" fe ∧ OwnM K C "__str__" fs ∧ FmO K C := by
  simp only [chR, Bool.and_eq_true] at h
  obtain ⟨h0, n1, n2, h1, h2, h3, h4, h5, h6, h7, h8, h9, h10⟩ := h
  obtain ⟨c1, c2, c3, c4, c5⟩ := cls_of h0
  obtain ⟨g1, g2⟩ := Bool.and_eq_true_iff.mp g
  exact ⟨⟨c1, isN_of n1, isN_of n2, gl, c2, isB_of g1, of_decide_eq_true g2, c3, c4, of_decide_eq_true h1, of_decide_eq_true h2, of_decide_eq_true h3, of_decide_eq_true h4, of_decide_eq_true h5, of_decide_eq_true h6, h7⟩, c5, own_of h8, own_of h9, ⟨isB_of h10, c3⟩⟩
theorem ct_of {K : PySem.W.Frag} {mg : Str → Option Value} {C fi fe fs fr ft fl fw fc : Addr} (h : chSh K C fi fe fs fr ft fl fw fc = true) (g : chG K = true) (gl : mg "Sheet" = some (.ref C)) : CT K mg C ∧ Mk K C fi ∧ OwnM K C "__eq__" fe ∧ NeO K C ∧ OwnM K C "__str__" fs ∧ OwnM K C "__repr__" fr ∧ FmO K C ∧ Meth K C "told_rows" ft ∧
    Meth K C "slope_sheet" fl ∧ Meth K C "swapped" fw ∧ StX.CallO K C fc := by
  simp only [chSh, Bool.and_eq_true] at h
  obtain ⟨h0, n1, h1, h2, h3, h4, h5, h6, h7, h8, h9, h10, h11, h12, h13, h14, h15, h16⟩ := h
  obtain ⟨c1, c2, c3, c4, c5⟩ := cls_of h0
  obtain ⟨g1, g2⟩ := Bool.and_eq_true_iff.mp g
  exact ⟨⟨c1, isN_of n1, gl, c2, isB_of g1, of_decide_eq_true g2, c3, c4, of_decide_eq_true h1, h2, h3⟩, c5, own_of h4, ⟨isB_of h5, c3⟩, own_of h6, own_of h7, ⟨isB_of h8, c3⟩, ⟨(own_of h9).at_, (own_of h9).fn, h10⟩, ⟨(own_of h11).at_, (own_of h11).fn, h12⟩, ⟨(own_of h13).at_, (own_of h13).fn, h14⟩,
    ⟨(own_of h15).at_, (own_of h15).fn, h16⟩⟩
theorem all_mk {l : PySem.W.OpenLaw} {w : World} {K : PySem.W.Frag} {h : Heap} {mg : Str → Option Value} {fa CR CC CI CS CM cL PT g_sho g_isi g_isn g_rof g_itx g_rtx g_ipw g_chk g_tab g_pwt g_bag g_pul g_lof g_sam g_lfi g_lot g_why g_low g_plu g_cro g_par g_lra g_ptx g_fra g_sum g_tim g_lpo g_lsh g_ltb g_law g_req g_add g_mul g_rst g_sin g_sto g_ssl g_ssw g_sca g_seq g_sst g_sre g_rmu g_iin T_rin g_rin : Addr} (X : K.In h) (G : h.Ns mainGlobals mg) (hfa : mg "law" = some (.ref fa)) (hPT : h.get? PT = some { cls := .none, data := .fields #[] }) (nPT : K.lookup PT = none) (hCH : PySem.W.CodeHd h cL PT)
    {tC : Tok}
    {od_sho an_sho : Option Addr} {sl_sho : Array (Option Value)} {oc_sho kV_sho dc_sho pm_sho cd_sho ct_sho : Value}
    {od_isi an_isi : Option Addr} {sl_isi : Array (Option Value)} {oc_isi kV_isi dc_isi pm_isi cd_isi ct_isi : Value}
    {od_isn an_isn : Option Addr} {sl_isn : Array (Option Value)} {oc_isn kV_isn dc_isn pm_isn cd_isn ct_isn : Value}
    {od_rof an_rof : Option Addr} {sl_rof : Array (Option Value)} {oc_rof kV_rof dc_rof pm_rof cd_rof ct_rof : Value}
    {od_itx an_itx : Option Addr} {sl_itx : Array (Option Value)} {oc_itx kV_itx dc_itx pm_itx cd_itx ct_itx : Value}
    {od_rtx an_rtx : Option Addr} {sl_rtx : Array (Option Value)} {oc_rtx kV_rtx dc_rtx pm_rtx cd_rtx ct_rtx : Value}
    {od_ipw an_ipw : Option Addr} {sl_ipw : Array (Option Value)} {oc_ipw kV_ipw dc_ipw pm_ipw cd_ipw ct_ipw : Value}
    {od_chk an_chk : Option Addr} {sl_chk : Array (Option Value)} {oc_chk kV_chk dc_chk pm_chk cd_chk ct_chk : Value}
    {od_tab an_tab : Option Addr} {sl_tab : Array (Option Value)} {oc_tab kV_tab dc_tab pm_tab cd_tab ct_tab : Value}
    {od_pwt an_pwt : Option Addr} {sl_pwt : Array (Option Value)} {oc_pwt kV_pwt dc_pwt pm_pwt cd_pwt ct_pwt : Value}
    {od_bag an_bag : Option Addr} {sl_bag : Array (Option Value)} {oc_bag kV_bag dc_bag pm_bag cd_bag ct_bag : Value}
    {od_pul an_pul : Option Addr} {sl_pul : Array (Option Value)} {oc_pul kV_pul dc_pul pm_pul cd_pul ct_pul : Value}
    {od_lof an_lof : Option Addr} {sl_lof : Array (Option Value)} {oc_lof kV_lof dc_lof pm_lof cd_lof ct_lof : Value}
    {od_sam an_sam : Option Addr} {sl_sam : Array (Option Value)} {oc_sam kV_sam dc_sam pm_sam cd_sam ct_sam : Value}
    {od_lfi an_lfi : Option Addr} {sl_lfi : Array (Option Value)} {oc_lfi kV_lfi dc_lfi pm_lfi cd_lfi ct_lfi : Value}
    {od_lot an_lot : Option Addr} {sl_lot : Array (Option Value)} {oc_lot kV_lot dc_lot pm_lot cd_lot ct_lot : Value}
    {od_why an_why : Option Addr} {sl_why : Array (Option Value)} {oc_why kV_why dc_why pm_why cd_why ct_why : Value}
    {od_low an_low : Option Addr} {sl_low : Array (Option Value)} {oc_low kV_low dc_low pm_low cd_low ct_low : Value}
    {od_plu an_plu : Option Addr} {sl_plu : Array (Option Value)} {oc_plu kV_plu dc_plu pm_plu cd_plu ct_plu : Value}
    {od_cro an_cro : Option Addr} {sl_cro : Array (Option Value)} {oc_cro kV_cro dc_cro pm_cro cd_cro ct_cro : Value}
    {od_par an_par : Option Addr} {sl_par : Array (Option Value)} {oc_par kV_par dc_par pm_par cd_par ct_par : Value}
    {od_lra an_lra : Option Addr} {sl_lra : Array (Option Value)} {oc_lra kV_lra dc_lra pm_lra cd_lra ct_lra : Value}
    {od_ptx an_ptx : Option Addr} {sl_ptx : Array (Option Value)} {oc_ptx kV_ptx dc_ptx pm_ptx cd_ptx ct_ptx : Value}
    {od_fra an_fra : Option Addr} {sl_fra : Array (Option Value)} {oc_fra kV_fra dc_fra pm_fra cd_fra ct_fra : Value}
    {od_sum an_sum : Option Addr} {sl_sum : Array (Option Value)} {oc_sum kV_sum dc_sum pm_sum cd_sum ct_sum : Value}
    {od_tim an_tim : Option Addr} {sl_tim : Array (Option Value)} {oc_tim kV_tim dc_tim pm_tim cd_tim ct_tim : Value}
    {od_lpo an_lpo : Option Addr} {sl_lpo : Array (Option Value)} {oc_lpo kV_lpo dc_lpo pm_lpo cd_lpo ct_lpo : Value}
    {od_lsh an_lsh : Option Addr} {sl_lsh : Array (Option Value)} {oc_lsh kV_lsh dc_lsh pm_lsh cd_lsh ct_lsh : Value}
    {od_ltb an_ltb : Option Addr} {sl_ltb : Array (Option Value)} {oc_ltb kV_ltb dc_ltb pm_ltb cd_ltb ct_ltb : Value}
    {od_law an_law : Option Addr} {sl_law : Array (Option Value)} {oc_law kV_law dc_law pm_law ct_law : Value}
    {od_req an_req : Option Addr} {sl_req : Array (Option Value)} {oc_req kV_req dc_req pm_req cd_req ct_req : Value}
    {od_add an_add : Option Addr} {sl_add : Array (Option Value)} {oc_add kV_add dc_add pm_add cd_add ct_add : Value}
    {od_mul an_mul : Option Addr} {sl_mul : Array (Option Value)} {oc_mul kV_mul dc_mul pm_mul cd_mul ct_mul : Value}
    {od_rst an_rst : Option Addr} {sl_rst : Array (Option Value)} {oc_rst kV_rst dc_rst pm_rst cd_rst ct_rst : Value}
    {od_sin an_sin : Option Addr} {sl_sin : Array (Option Value)} {oc_sin kV_sin dc_sin pm_sin cd_sin ct_sin : Value}
    {od_sto an_sto : Option Addr} {sl_sto : Array (Option Value)} {oc_sto kV_sto dc_sto pm_sto cd_sto ct_sto : Value}
    {od_ssl an_ssl : Option Addr} {sl_ssl : Array (Option Value)} {oc_ssl kV_ssl dc_ssl pm_ssl cd_ssl ct_ssl : Value}
    {od_ssw an_ssw : Option Addr} {sl_ssw : Array (Option Value)} {oc_ssw kV_ssw dc_ssw pm_ssw cd_ssw ct_ssw : Value}
    {od_sca an_sca : Option Addr} {sl_sca : Array (Option Value)} {oc_sca kV_sca dc_sca pm_sca cd_sca ct_sca : Value}
    {od_seq an_seq : Option Addr} {sl_seq : Array (Option Value)} {oc_seq kV_seq dc_seq pm_seq cd_seq ct_seq : Value}
    {od_sst an_sst : Option Addr} {sl_sst : Array (Option Value)} {oc_sst kV_sst dc_sst pm_sst cd_sst ct_sst : Value}
    {od_sre an_sre : Option Addr} {sl_sre : Array (Option Value)} {oc_sre kV_sre dc_sre pm_sre cd_sre ct_sre : Value}
    {od_iin an_iin : Option Addr} {sl_iin : Array (Option Value)} {oc_iin kV_iin dc_iin pm_iin cd_iin ct_iin : Value}
    {od_rin an_rin : Option Addr} {sl_rin : Array (Option Value)} {oc_rin kV_rin dc_rin pm_rin cd_rin ct_rin : Value}
    {oT_rin : Value} {oD_rin : Option Addr} {nT_rin : Nat} {tk_rin : Tok} {sT_rin : Array (Option Value)}
    {nmI qI : Str} {NI : Addr} {bsI bmI : List Value} {snI : List Str} {subI : List Value} {abI : Bool} {colI : Option Bool} {ddI : Option Addr} {kI0 kI1 kI2 kI3 kI5 : Option Value}
    (aR : PySem.W.nsIn K mainGlobals "Ratio" = some (some (.ref CR))) (aC : PySem.W.nsIn K mainGlobals "Sheet" = some (some (.ref CC))) (aI : PySem.W.nsIn K mainGlobals "InvalidNumber" = some (some (.ref CI))) (aS : PySem.W.nsIn K mainGlobals "SlopeError" = some (some (.ref CS))) (aM : PySem.W.nsIn K mainGlobals "Missing" = some (some (.ref CM))) (aGc : PySem.W.nsIn K mainGlobals "gcd" = some (some (.builtin "math.gcd"))) (aCb : PySem.W.nsIn K mainGlobals "CHUNK_BASE" = some (some (.int 1000000000000000000000000000000000000000000000000000000000000 tC)))
    (a_sho : PySem.W.nsIn K mainGlobals "shown" = some (some (.ref g_sho)))
    (l_sho : K.lookup g_sho = some ⟨oc_sho, od_sho, .func (PySem.W.fnOf "shown" "shown" (defArgs sShown) (defBody sShown) (defScope sShown) .none kV_sho dc_sho pm_sho an_sho cd_sho ct_sho), sl_sho⟩) (c_sho : PySem.W.codeIn K cd_sho "shown" = true) (k_sho : PySem.W.keepIn K (.ref g_sho) = true)
    (a_isi : PySem.W.nsIn K mainGlobals "is_integer" = some (some (.ref g_isi)))
    (l_isi : K.lookup g_isi = some ⟨oc_isi, od_isi, .func (PySem.W.fnOf "is_integer" "is_integer" (defArgs sIsInt) (defBody sIsInt) (defScope sIsInt) .none kV_isi dc_isi pm_isi an_isi cd_isi ct_isi), sl_isi⟩) (c_isi : PySem.W.codeIn K cd_isi "is_integer" = true) (k_isi : PySem.W.keepIn K (.ref g_isi) = true)
    (a_isn : PySem.W.nsIn K mainGlobals "is_number" = some (some (.ref g_isn)))
    (l_isn : K.lookup g_isn = some ⟨oc_isn, od_isn, .func (PySem.W.fnOf "is_number" "is_number" (defArgs sIsNum) (defBody sIsNum) (defScope sIsNum) .none kV_isn dc_isn pm_isn an_isn cd_isn ct_isn), sl_isn⟩) (c_isn : PySem.W.codeIn K cd_isn "is_number" = true) (k_isn : PySem.W.keepIn K (.ref g_isn) = true)
    (a_rof : PySem.W.nsIn K mainGlobals "ratio_of" = some (some (.ref g_rof)))
    (l_rof : K.lookup g_rof = some ⟨oc_rof, od_rof, .func (PySem.W.fnOf "ratio_of" "ratio_of" (defArgs sRatioOf) (defBody sRatioOf) (defScope sRatioOf) .none kV_rof dc_rof pm_rof an_rof cd_rof ct_rof), sl_rof⟩) (c_rof : PySem.W.codeIn K cd_rof "ratio_of" = true) (k_rof : PySem.W.keepIn K (.ref g_rof) = true)
    (a_itx : PySem.W.nsIn K mainGlobals "integer_text" = some (some (.ref g_itx)))
    (l_itx : K.lookup g_itx = some ⟨oc_itx, od_itx, .func (PySem.W.fnOf "integer_text" "integer_text" (defArgs sIntText) (defBody sIntText) (defScope sIntText) .none kV_itx dc_itx pm_itx an_itx cd_itx ct_itx), sl_itx⟩) (c_itx : PySem.W.codeIn K cd_itx "integer_text" = true) (k_itx : PySem.W.keepIn K (.ref g_itx) = true)
    (a_rtx : PySem.W.nsIn K mainGlobals "ratio_text" = some (some (.ref g_rtx)))
    (l_rtx : K.lookup g_rtx = some ⟨oc_rtx, od_rtx, .func (PySem.W.fnOf "ratio_text" "ratio_text" (defArgs sRatText) (defBody sRatText) (defScope sRatText) .none kV_rtx dc_rtx pm_rtx an_rtx cd_rtx ct_rtx), sl_rtx⟩) (c_rtx : PySem.W.codeIn K cd_rtx "ratio_text" = true) (k_rtx : PySem.W.keepIn K (.ref g_rtx) = true)
    (a_ipw : PySem.W.nsIn K mainGlobals "is_power" = some (some (.ref g_ipw)))
    (l_ipw : K.lookup g_ipw = some ⟨oc_ipw, od_ipw, .func (PySem.W.fnOf "is_power" "is_power" (defArgs sIsPow) (defBody sIsPow) (defScope sIsPow) .none kV_ipw dc_ipw pm_ipw an_ipw cd_ipw ct_ipw), sl_ipw⟩) (c_ipw : PySem.W.codeIn K cd_ipw "is_power" = true) (k_ipw : PySem.W.keepIn K (.ref g_ipw) = true)
    (a_chk : PySem.W.nsIn K mainGlobals "check_row" = some (some (.ref g_chk)))
    (l_chk : K.lookup g_chk = some ⟨oc_chk, od_chk, .func (PySem.W.fnOf "check_row" "check_row" (defArgs sChk) (defBody sChk) (defScope sChk) .none kV_chk dc_chk pm_chk an_chk cd_chk ct_chk), sl_chk⟩) (c_chk : PySem.W.codeIn K cd_chk "check_row" = true) (k_chk : PySem.W.keepIn K (.ref g_chk) = true)
    (a_tab : PySem.W.nsIn K mainGlobals "table_of" = some (some (.ref g_tab)))
    (l_tab : K.lookup g_tab = some ⟨oc_tab, od_tab, .func (PySem.W.fnOf "table_of" "table_of" (defArgs sTab) (defBody sTab) (defScope sTab) .none kV_tab dc_tab pm_tab an_tab cd_tab ct_tab), sl_tab⟩) (c_tab : PySem.W.codeIn K cd_tab "table_of" = true) (k_tab : PySem.W.keepIn K (.ref g_tab) = true)
    (a_pwt : PySem.W.nsIn K mainGlobals "powers_to" = some (some (.ref g_pwt)))
    (l_pwt : K.lookup g_pwt = some ⟨oc_pwt, od_pwt, .func (PySem.W.fnOf "powers_to" "powers_to" (defArgs sPwT) (defBody sPwT) (defScope sPwT) .none kV_pwt dc_pwt pm_pwt an_pwt cd_pwt ct_pwt), sl_pwt⟩) (c_pwt : PySem.W.codeIn K cd_pwt "powers_to" = true) (k_pwt : PySem.W.keepIn K (.ref g_pwt) = true)
    (a_bag : PySem.W.nsIn K mainGlobals "_law_bag" = some (some (.ref g_bag)))
    (l_bag : K.lookup g_bag = some ⟨oc_bag, od_bag, .func (PySem.W.fnOf "_law_bag" "_law_bag" (defArgs sBag) (defBody sBag) (defScope sBag) .none kV_bag dc_bag pm_bag an_bag cd_bag ct_bag), sl_bag⟩) (c_bag : PySem.W.codeIn K cd_bag "_law_bag" = true) (k_bag : PySem.W.keepIn K (.ref g_bag) = true)
    (a_pul : PySem.W.nsIn K mainGlobals "_law_pull" = some (some (.ref g_pul)))
    (l_pul : K.lookup g_pul = some ⟨oc_pul, od_pul, .func (PySem.W.fnOf "_law_pull" "_law_pull" (defArgs sPull) (defBody sPull) (defScope sPull) .none kV_pul dc_pul pm_pul an_pul cd_pul ct_pul), sl_pul⟩) (c_pul : PySem.W.codeIn K cd_pul "_law_pull" = true) (k_pul : PySem.W.keepIn K (.ref g_pul) = true)
    (a_lof : PySem.W.nsIn K mainGlobals "_law_of" = some (some (.ref g_lof)))
    (l_lof : K.lookup g_lof = some ⟨oc_lof, od_lof, .func (PySem.W.fnOf "_law_of" "_law_of" (defArgs sOf) (defBody sOf) (defScope sOf) .none kV_lof dc_lof pm_lof an_lof cd_lof ct_lof), sl_lof⟩) (c_lof : PySem.W.codeIn K cd_lof "_law_of" = true) (k_lof : PySem.W.keepIn K (.ref g_lof) = true)
    (a_sam : PySem.W.nsIn K mainGlobals "_law_same" = some (some (.ref g_sam)))
    (l_sam : K.lookup g_sam = some ⟨oc_sam, od_sam, .func (PySem.W.fnOf "_law_same" "_law_same" (defArgs sSame) (defBody sSame) (defScope sSame) .none kV_sam dc_sam pm_sam an_sam cd_sam ct_sam), sl_sam⟩) (c_sam : PySem.W.codeIn K cd_sam "_law_same" = true) (k_sam : PySem.W.keepIn K (.ref g_sam) = true)
    (a_lfi : PySem.W.nsIn K mainGlobals "_law_field" = some (some (.ref g_lfi)))
    (l_lfi : K.lookup g_lfi = some ⟨oc_lfi, od_lfi, .func (PySem.W.fnOf "_law_field" "_law_field" (defArgs sField) (defBody sField) (defScope sField) .none kV_lfi dc_lfi pm_lfi an_lfi cd_lfi ct_lfi), sl_lfi⟩) (c_lfi : PySem.W.codeIn K cd_lfi "_law_field" = true) (k_lfi : PySem.W.keepIn K (.ref g_lfi) = true)
    (a_lot : PySem.W.nsIn K mainGlobals "_law_other_field" = some (some (.ref g_lot)))
    (l_lot : K.lookup g_lot = some ⟨oc_lot, od_lot, .func (PySem.W.fnOf "_law_other_field" "_law_other_field" (defArgs sOtherField) (defBody sOtherField) (defScope sOtherField) .none kV_lot dc_lot pm_lot an_lot cd_lot ct_lot), sl_lot⟩) (c_lot : PySem.W.codeIn K cd_lot "_law_other_field" = true) (k_lot : PySem.W.keepIn K (.ref g_lot) = true)
    (a_why : PySem.W.nsIn K mainGlobals "_law_why" = some (some (.ref g_why)))
    (l_why : K.lookup g_why = some ⟨oc_why, od_why, .func (PySem.W.fnOf "_law_why" "_law_why" (defArgs sWhy) (defBody sWhy) (defScope sWhy) .none kV_why dc_why pm_why an_why cd_why ct_why), sl_why⟩) (c_why : PySem.W.codeIn K cd_why "_law_why" = true) (k_why : PySem.W.keepIn K (.ref g_why) = true)
    (a_low : PySem.W.nsIn K mainGlobals "_law_low" = some (some (.ref g_low)))
    (l_low : K.lookup g_low = some ⟨oc_low, od_low, .func (PySem.W.fnOf "_law_low" "_law_low" (defArgs sLow) (defBody sLow) (defScope sLow) .none kV_low dc_low pm_low an_low cd_low ct_low), sl_low⟩) (c_low : PySem.W.codeIn K cd_low "_law_low" = true) (k_low : PySem.W.keepIn K (.ref g_low) = true)
    (a_plu : PySem.W.nsIn K mainGlobals "_law_plus" = some (some (.ref g_plu)))
    (l_plu : K.lookup g_plu = some ⟨oc_plu, od_plu, .func (PySem.W.fnOf "_law_plus" "_law_plus" (defArgs sPlus) (defBody sPlus) (defScope sPlus) .none kV_plu dc_plu pm_plu an_plu cd_plu ct_plu), sl_plu⟩) (c_plu : PySem.W.codeIn K cd_plu "_law_plus" = true) (k_plu : PySem.W.keepIn K (.ref g_plu) = true)
    (a_cro : PySem.W.nsIn K mainGlobals "_law_cross" = some (some (.ref g_cro)))
    (l_cro : K.lookup g_cro = some ⟨oc_cro, od_cro, .func (PySem.W.fnOf "_law_cross" "_law_cross" (defArgs sCross) (defBody sCross) (defScope sCross) .none kV_cro dc_cro pm_cro an_cro cd_cro ct_cro), sl_cro⟩) (c_cro : PySem.W.codeIn K cd_cro "_law_cross" = true) (k_cro : PySem.W.keepIn K (.ref g_cro) = true)
    (a_par : PySem.W.nsIn K mainGlobals "_law_pair" = some (some (.ref g_par)))
    (l_par : K.lookup g_par = some ⟨oc_par, od_par, .func (PySem.W.fnOf "_law_pair" "_law_pair" (defArgs sPair) (defBody sPair) (defScope sPair) .none kV_par dc_par pm_par an_par cd_par ct_par), sl_par⟩) (c_par : PySem.W.codeIn K cd_par "_law_pair" = true) (k_par : PySem.W.keepIn K (.ref g_par) = true)
    (a_lra : PySem.W.nsIn K mainGlobals "_law_ratio" = some (some (.ref g_lra)))
    (l_lra : K.lookup g_lra = some ⟨oc_lra, od_lra, .func (PySem.W.fnOf "_law_ratio" "_law_ratio" (defArgs sRatio) (defBody sRatio) (defScope sRatio) .none kV_lra dc_lra pm_lra an_lra cd_lra ct_lra), sl_lra⟩) (c_lra : PySem.W.codeIn K cd_lra "_law_ratio" = true) (k_lra : PySem.W.keepIn K (.ref g_lra) = true)
    (a_ptx : PySem.W.nsIn K mainGlobals "_law_pair_text" = some (some (.ref g_ptx)))
    (l_ptx : K.lookup g_ptx = some ⟨oc_ptx, od_ptx, .func (PySem.W.fnOf "_law_pair_text" "_law_pair_text" (defArgs sPairText) (defBody sPairText) (defScope sPairText) .none kV_ptx dc_ptx pm_ptx an_ptx cd_ptx ct_ptx), sl_ptx⟩) (c_ptx : PySem.W.codeIn K cd_ptx "_law_pair_text" = true) (k_ptx : PySem.W.keepIn K (.ref g_ptx) = true)
    (a_fra : PySem.W.nsIn K mainGlobals "_law_fraction" = some (some (.ref g_fra)))
    (l_fra : K.lookup g_fra = some ⟨oc_fra, od_fra, .func (PySem.W.fnOf "_law_fraction" "_law_fraction" (defArgs sFrac) (defBody sFrac) (defScope sFrac) .none kV_fra dc_fra pm_fra an_fra cd_fra ct_fra), sl_fra⟩) (c_fra : PySem.W.codeIn K cd_fra "_law_fraction" = true) (k_fra : PySem.W.keepIn K (.ref g_fra) = true)
    (a_sum : PySem.W.nsIn K mainGlobals "_law_sum" = some (some (.ref g_sum)))
    (l_sum : K.lookup g_sum = some ⟨oc_sum, od_sum, .func (PySem.W.fnOf "_law_sum" "_law_sum" (defArgs sSum) (defBody sSum) (defScope sSum) .none kV_sum dc_sum pm_sum an_sum cd_sum ct_sum), sl_sum⟩) (c_sum : PySem.W.codeIn K cd_sum "_law_sum" = true) (k_sum : PySem.W.keepIn K (.ref g_sum) = true)
    (a_tim : PySem.W.nsIn K mainGlobals "_law_times" = some (some (.ref g_tim)))
    (l_tim : K.lookup g_tim = some ⟨oc_tim, od_tim, .func (PySem.W.fnOf "_law_times" "_law_times" (defArgs sTimes) (defBody sTimes) (defScope sTimes) .none kV_tim dc_tim pm_tim an_tim cd_tim ct_tim), sl_tim⟩) (c_tim : PySem.W.codeIn K cd_tim "_law_times" = true) (k_tim : PySem.W.keepIn K (.ref g_tim) = true)
    (a_lpo : PySem.W.nsIn K mainGlobals "_law_powers" = some (some (.ref g_lpo)))
    (l_lpo : K.lookup g_lpo = some ⟨oc_lpo, od_lpo, .func (PySem.W.fnOf "_law_powers" "_law_powers" (defArgs sPow) (defBody sPow) (defScope sPow) .none kV_lpo dc_lpo pm_lpo an_lpo cd_lpo ct_lpo), sl_lpo⟩) (c_lpo : PySem.W.codeIn K cd_lpo "_law_powers" = true) (k_lpo : PySem.W.keepIn K (.ref g_lpo) = true)
    (a_lsh : PySem.W.nsIn K mainGlobals "_law_sheet_at" = some (some (.ref g_lsh)))
    (l_lsh : K.lookup g_lsh = some ⟨oc_lsh, od_lsh, .func (PySem.W.fnOf "_law_sheet_at" "_law_sheet_at" (defArgs sLSh) (defBody sLSh) (defScope sLSh) .none kV_lsh dc_lsh pm_lsh an_lsh cd_lsh ct_lsh), sl_lsh⟩) (c_lsh : PySem.W.codeIn K cd_lsh "_law_sheet_at" = true) (k_lsh : PySem.W.keepIn K (.ref g_lsh) = true)
    (a_ltb : PySem.W.nsIn K mainGlobals "_law_table" = some (some (.ref g_ltb)))
    (l_ltb : K.lookup g_ltb = some ⟨oc_ltb, od_ltb, .func (PySem.W.fnOf "_law_table" "_law_table" (defArgs sLTb) (defBody sLTb) (defScope sLTb) .none kV_ltb dc_ltb pm_ltb an_ltb cd_ltb ct_ltb), sl_ltb⟩) (c_ltb : PySem.W.codeIn K cd_ltb "_law_table" = true) (k_ltb : PySem.W.keepIn K (.ref g_ltb) = true)
    (a_law : PySem.W.nsIn K mainGlobals "law" = some (some (.ref g_law)))
    (l_law : K.lookup g_law = some ⟨oc_law, od_law, .func (PySem.W.fnOf "law" "law" (defArgs sLaw) (defBody sLaw) (defScope sLaw) .none kV_law dc_law pm_law an_law (.ref cL) ct_law), sl_law⟩) (c_law : PySem.W.codeIn K (.ref cL) "law" = true) (k_law : PySem.W.keepIn K (.ref g_law) = true)
    (i_req : PySem.W.findIn K (.ref CR) "__eq__" = some (some (.ref g_req)))
    (l_req : K.lookup g_req = some ⟨oc_req, od_req, .func (PySem.W.fnOf "__eq__" "Ratio.__eq__" (defArgs sREq) (defBody sREq) (defScope sREq) .none kV_req dc_req pm_req an_req cd_req ct_req), sl_req⟩) (c_req : PySem.W.codeIn K cd_req "Ratio.__eq__" = true) (k_req : PySem.W.keepIn K (.ref g_req) = true)
    (i_add : PySem.W.findIn K (.ref CR) "__add__" = some (some (.ref g_add)))
    (l_add : K.lookup g_add = some ⟨oc_add, od_add, .func (PySem.W.fnOf "__add__" "Ratio.__add__" (defArgs sAdd) (defBody sAdd) (defScope sAdd) .none kV_add dc_add pm_add an_add cd_add ct_add), sl_add⟩) (c_add : PySem.W.codeIn K cd_add "Ratio.__add__" = true) (k_add : PySem.W.keepIn K (.ref g_add) = true)
    (i_mul : PySem.W.findIn K (.ref CR) "__mul__" = some (some (.ref g_mul)))
    (l_mul : K.lookup g_mul = some ⟨oc_mul, od_mul, .func (PySem.W.fnOf "__mul__" "Ratio.__mul__" (defArgs sMul) (defBody sMul) (defScope sMul) .none kV_mul dc_mul pm_mul an_mul cd_mul ct_mul), sl_mul⟩) (c_mul : PySem.W.codeIn K cd_mul "Ratio.__mul__" = true) (k_mul : PySem.W.keepIn K (.ref g_mul) = true)
    (i_rst : PySem.W.findIn K (.ref CR) "__str__" = some (some (.ref g_rst)))
    (l_rst : K.lookup g_rst = some ⟨oc_rst, od_rst, .func (PySem.W.fnOf "__str__" "Ratio.__str__" (defArgs sRStr) (defBody sRStr) (defScope sRStr) .none kV_rst dc_rst pm_rst an_rst cd_rst ct_rst), sl_rst⟩) (c_rst : PySem.W.codeIn K cd_rst "Ratio.__str__" = true) (k_rst : PySem.W.keepIn K (.ref g_rst) = true)
    (i_sin : PySem.W.findIn K (.ref CC) "__init__" = some (some (.ref g_sin)))
    (l_sin : K.lookup g_sin = some ⟨oc_sin, od_sin, .func (PySem.W.fnOf "__init__" "Sheet.__init__" (defArgs sSIn) (defBody sSIn) (defScope sSIn) .none kV_sin dc_sin pm_sin an_sin cd_sin ct_sin), sl_sin⟩) (c_sin : PySem.W.codeIn K cd_sin "Sheet.__init__" = true) (k_sin : PySem.W.keepIn K (.ref g_sin) = true)
    (i_sto : PySem.W.findIn K (.ref CC) "told_rows" = some (some (.ref g_sto)))
    (l_sto : K.lookup g_sto = some ⟨oc_sto, od_sto, .func (PySem.W.fnOf "told_rows" "Sheet.told_rows" (defArgs sSTo) (defBody sSTo) (defScope sSTo) .none kV_sto dc_sto pm_sto an_sto cd_sto ct_sto), sl_sto⟩) (c_sto : PySem.W.codeIn K cd_sto "Sheet.told_rows" = true) (k_sto : PySem.W.keepIn K (.ref g_sto) = true)
    (i_ssl : PySem.W.findIn K (.ref CC) "slope_sheet" = some (some (.ref g_ssl)))
    (l_ssl : K.lookup g_ssl = some ⟨oc_ssl, od_ssl, .func (PySem.W.fnOf "slope_sheet" "Sheet.slope_sheet" (defArgs sSSl) (defBody sSSl) (defScope sSSl) .none kV_ssl dc_ssl pm_ssl an_ssl cd_ssl ct_ssl), sl_ssl⟩) (c_ssl : PySem.W.codeIn K cd_ssl "Sheet.slope_sheet" = true) (k_ssl : PySem.W.keepIn K (.ref g_ssl) = true)
    (i_ssw : PySem.W.findIn K (.ref CC) "swapped" = some (some (.ref g_ssw)))
    (l_ssw : K.lookup g_ssw = some ⟨oc_ssw, od_ssw, .func (PySem.W.fnOf "swapped" "Sheet.swapped" (defArgs sSSw) (defBody sSSw) (defScope sSSw) .none kV_ssw dc_ssw pm_ssw an_ssw cd_ssw ct_ssw), sl_ssw⟩) (c_ssw : PySem.W.codeIn K cd_ssw "Sheet.swapped" = true) (k_ssw : PySem.W.keepIn K (.ref g_ssw) = true)
    (i_sca : PySem.W.findIn K (.ref CC) "__call__" = some (some (.ref g_sca)))
    (l_sca : K.lookup g_sca = some ⟨oc_sca, od_sca, .func (PySem.W.fnOf "__call__" "Sheet.__call__" (defArgs sSCa) (defBody sSCa) (defScope sSCa) .none kV_sca dc_sca pm_sca an_sca cd_sca ct_sca), sl_sca⟩) (c_sca : PySem.W.codeIn K cd_sca "Sheet.__call__" = true) (k_sca : PySem.W.keepIn K (.ref g_sca) = true)
    (i_seq : PySem.W.findIn K (.ref CC) "__eq__" = some (some (.ref g_seq)))
    (l_seq : K.lookup g_seq = some ⟨oc_seq, od_seq, .func (PySem.W.fnOf "__eq__" "Sheet.__eq__" (defArgs sSEq) (defBody sSEq) (defScope sSEq) .none kV_seq dc_seq pm_seq an_seq cd_seq ct_seq), sl_seq⟩) (c_seq : PySem.W.codeIn K cd_seq "Sheet.__eq__" = true) (k_seq : PySem.W.keepIn K (.ref g_seq) = true)
    (i_sst : PySem.W.findIn K (.ref CC) "__str__" = some (some (.ref g_sst)))
    (l_sst : K.lookup g_sst = some ⟨oc_sst, od_sst, .func (PySem.W.fnOf "__str__" "Sheet.__str__" (defArgs sSSt) (defBody sSSt) (defScope sSSt) .none kV_sst dc_sst pm_sst an_sst cd_sst ct_sst), sl_sst⟩) (c_sst : PySem.W.codeIn K cd_sst "Sheet.__str__" = true) (k_sst : PySem.W.keepIn K (.ref g_sst) = true)
    (i_sre : PySem.W.findIn K (.ref CC) "__repr__" = some (some (.ref g_sre)))
    (l_sre : K.lookup g_sre = some ⟨oc_sre, od_sre, .func (PySem.W.fnOf "__repr__" "Sheet.__repr__" (defArgs sSRe) (defBody sSRe) (defScope sSRe) .none kV_sre dc_sre pm_sre an_sre cd_sre ct_sre), sl_sre⟩) (c_sre : PySem.W.codeIn K cd_sre "Sheet.__repr__" = true) (k_sre : PySem.W.keepIn K (.ref g_sre) = true)
    (i_rmu : PySem.W.findIn K (.ref CR) "__rmul__" = some (some (.ref g_rmu)))
    (i_iin : PySem.W.findIn K (.ref CI) "__init__" = some (some (.ref g_iin)))
    (l_iin : K.lookup g_iin = some ⟨oc_iin, od_iin, .func (PySem.W.fnOf "__init__" "InvalidNumber.__init__" (defArgs sI_InvalidNumber) (defBody sI_InvalidNumber) (defScope sI_InvalidNumber) .none kV_iin dc_iin pm_iin an_iin cd_iin ct_iin), sl_iin⟩) (c_iin : PySem.W.codeIn K cd_iin "InvalidNumber.__init__" = true) (k_iin : PySem.W.keepIn K (.ref g_iin) = true)
    (i_rin : PySem.W.findIn K (.ref CR) "__init__" = some (some (.ref g_rin)))
    (l_rin : K.lookup g_rin = some ⟨oc_rin, od_rin, .func (PySem.W.fnOf "__init__" "Ratio.__init__" (defArgs sRInit) (defBody sRInit) (defScope sRInit) (.ref T_rin) kV_rin dc_rin pm_rin an_rin cd_rin ct_rin), sl_rin⟩) (c_rin : PySem.W.codeIn K cd_rin "Ratio.__init__" = true) (k_rin : PySem.W.keepIn K (.ref g_rin) = true)
    (t_rin : K.lookup T_rin = some ⟨oT_rin, oD_rin, .seq [Value.int 1 tk_rin].toArray nT_rin, sT_rin⟩)
    (z_isin : PySem.W.nsIn K mainGlobals "isinstance" = some none)
    (z_tstr : PySem.W.nsIn K mainGlobals "str" = some none)
    (z_tint : PySem.W.nsIn K mainGlobals "int" = some none)
    (z_tlist : PySem.W.nsIn K mainGlobals "list" = some none)
    (z_ttuple : PySem.W.nsIn K mainGlobals "tuple" = some none)
    (z_tbool : PySem.W.nsIn K mainGlobals "bool" = some none)
    (z_fabs : PySem.W.nsIn K mainGlobals "abs" = some none)
    (z_frepr : PySem.W.nsIn K mainGlobals "repr" = some none)
    (z_flen : PySem.W.nsIn K mainGlobals "len" = some none)
    (z_frange : PySem.W.nsIn K mainGlobals "range" = some none)
    (z_fzip : PySem.W.nsIn K mainGlobals "zip" = some none)
    (z_fall : PySem.W.nsIn K mainGlobals "all" = some none)
    (z_tve : PySem.W.nsIn K mainGlobals "ValueError" = some none)
    (z_tle : PySem.W.nsIn K mainGlobals "LookupError" = some none)
    (z_fenum : PySem.W.nsIn K mainGlobals "enumerate" = some none)
    (z_fmax : PySem.W.nsIn K mainGlobals "max" = some none)
    (z_fsorted : PySem.W.nsIn K mainGlobals "sorted" = some none)
    (z_tdict : PySem.W.nsIn K mainGlobals "dict" = some none)
    (lCI : K.lookup CI = some (excClassObj nmI qI CI NI bsI bmI true snI subI abI colI ddI kI0 kI1 kI2 kI3 kI5 "ValueError.__new__")) (tyI : PySem.W.typeIn K (.ref CI) = some (.type "type")) (tyF : PySem.W.typeIn K (.ref g_iin) = some (.type "function")) (vS : PySem.W.findCls K (.ref CS) (.type "type") "__init__" = some (.val (.builtin "ValueError.__init__")))
    (hRv : PySem.HandSPX.refsVE bmI = true) (hR : chR K CR g_rin g_req g_rst = true) (hO : chO K CR g_add g_mul g_rmu = true) (hC : chSh K CC g_sin g_seq g_sst g_sre g_sto g_ssl g_ssw g_sca = true) (hG : chG K = true) (hS : chB K CS "ValueError.__init__" = true) (hI : chI K CI CS CM g_iin = true) :
    LamX.LawAtS l w K CX0 12 63 "_law_script" mg fa h := by
  have e := hfa.symm.trans (PySem.W.mg_of X G a_law)
  cases e
  have gl : ∀ x v, PySem.W.nsIn K mainGlobals x = some (some v) → mg x = some v := fun x v z => PySem.W.mg_of X G z
  have B : Bn mg := ⟨PySem.W.mg_none_of X G z_isin, PySem.W.mg_none_of X G z_tstr, PySem.W.mg_none_of X G z_tint, PySem.W.mg_none_of X G z_tlist, PySem.W.mg_none_of X G z_ttuple, PySem.W.mg_none_of X G z_tbool, PySem.W.mg_none_of X G z_fabs, PySem.W.mg_none_of X G z_frepr, PySem.W.mg_none_of X G z_flen, PySem.W.mg_none_of X G z_frange, PySem.W.mg_none_of X G z_fzip, PySem.W.mg_none_of X G z_fall, PySem.W.mg_none_of X G z_tve, PySem.W.mg_none_of X G z_tle⟩
  have B2 : Bk mg := ⟨PySem.W.mg_none_of X G z_fenum, PySem.W.mg_none_of X G z_fmax, PySem.W.mg_none_of X G z_fsorted, PySem.W.mg_none_of X G z_tdict⟩
  obtain ⟨RTT, MkR, MEq, MSt, MFr⟩ := rt_of hR hG (gl _ _ aR)
  obtain ⟨MA, MU, NU⟩ := op_of hO
  obtain ⟨CTT, MkC, MEc, MNc, MSc, MRc, MFc, MTo, MSl, MSw, MCl⟩ := ct_of hC hG (gl _ _ aC)
  simp only [chI, Bool.and_eq_true] at hI
  obtain ⟨i1, i2, i3, i4, i5, i6, i7, i8, i9, i10⟩ := hI
  have noI : ∀ f ∈ fieldNames, PySem.W.findIn K (.ref CI) f = some none := fun f hf => isN_of (List.all_eq_true.mp i9 f hf)
  have EC : EcI K "ValueError.__init__" CI := ⟨_, _, _, ⟨PySem.F.excBase_ValueError, PySem.F.store_ValueError, i1, i2, i3, isB_of i4, i5, isB_of i6, isN_of i7, of_decide_eq_true i8⟩⟩
  have OX : OexC K CI := ⟨⟨_, _, _, _, _, _, _, _, _, _, _, _, _, _, _, lCI, hRv⟩, isB_of i4, of_decide_eq_true i8, tyI, i5⟩
  have ITT : IN K mg CI g_iin := ⟨gl _ _ aI, OX, EC, noI _ (by decide +kernel), noI _ (by decide +kernel), i_iin, tyF⟩
  have TKK : INk K CS CM CI := ⟨of_decide_eq_true i10, ⟨isB_of i6, isN_of i7, of_decide_eq_true i8, i3⟩, noI⟩
  obtain ⟨s1, s2, s3⟩ : PySem.W.specialIn K (.ref CS) "__getattribute__" = some (some (.builtin "type.__getattribute__")) ∧ PySem.W.readsIn K CS (.type "type") = true ∧ PySem.W.handedIn (.builtin "ValueError.__init__") = true := by
    simp only [chB, Bool.and_eq_true] at hS
    exact ⟨isB_of hS.1, hS.2.1, hS.2.2⟩
  have BSS : Bs K mg "SlopeError" "ValueError.__init__" CS := ⟨gl _ _ aS, s1, s2, vS, s3⟩
  have F_sho := fun_mk (st := sShown) l_sho c_sho k_sho
  have D_sho : Dn K mg "shown" g_sho := ⟨gl _ _ a_sho, k_sho⟩
  have b_sho := F_sho.binds (ps := ["value"]) fun _ _ _ _ _ _ us hl => match us, hl with | [_], _ => rfl
  have F_isi := fun_mk (st := sIsInt) l_isi c_isi k_isi
  have D_isi : Dn K mg "is_integer" g_isi := ⟨gl _ _ a_isi, k_isi⟩
  have b_isi := F_isi.binds (ps := ["value"]) fun _ _ _ _ _ _ us hl => match us, hl with | [_], _ => rfl
  have F_isn := fun_mk (st := sIsNum) l_isn c_isn k_isn
  have D_isn : Dn K mg "is_number" g_isn := ⟨gl _ _ a_isn, k_isn⟩
  have b_isn := F_isn.binds (ps := ["value"]) fun _ _ _ _ _ _ us hl => match us, hl with | [_], _ => rfl
  have F_rof := fun_mk (st := sRatioOf) l_rof c_rof k_rof
  have D_rof : Dn K mg "ratio_of" g_rof := ⟨gl _ _ a_rof, k_rof⟩
  have b_rof := F_rof.binds (ps := ["number"]) fun _ _ _ _ _ _ us hl => match us, hl with | [_], _ => rfl
  have F_itx := fun_mk (st := sIntText) l_itx c_itx k_itx
  have D_itx : Dn K mg "integer_text" g_itx := ⟨gl _ _ a_itx, k_itx⟩
  have b_itx := F_itx.binds (ps := ["number"]) fun _ _ _ _ _ _ us hl => match us, hl with | [_], _ => rfl
  have F_rtx := fun_mk (st := sRatText) l_rtx c_rtx k_rtx
  have D_rtx : Dn K mg "ratio_text" g_rtx := ⟨gl _ _ a_rtx, k_rtx⟩
  have b_rtx := F_rtx.binds (ps := ["ratio"]) fun _ _ _ _ _ _ us hl => match us, hl with | [_], _ => rfl
  have F_ipw := fun_mk (st := sIsPow) l_ipw c_ipw k_ipw
  have D_ipw : Dn K mg "is_power" g_ipw := ⟨gl _ _ a_ipw, k_ipw⟩
  have b_ipw := F_ipw.binds (ps := ["value"]) fun _ _ _ _ _ _ us hl => match us, hl with | [_], _ => rfl
  have F_chk := fun_mk (st := sChk) l_chk c_chk k_chk
  have D_chk : Dn K mg "check_row" g_chk := ⟨gl _ _ a_chk, k_chk⟩
  have b_chk := F_chk.binds (ps := ["row"]) fun _ _ _ _ _ _ us hl => match us, hl with | [_], _ => rfl
  have F_tab := fun_mk (st := sTab) l_tab c_tab k_tab
  have D_tab : Dn K mg "table_of" g_tab := ⟨gl _ _ a_tab, k_tab⟩
  have b_tab := F_tab.binds (ps := ["rows"]) fun _ _ _ _ _ _ us hl => match us, hl with | [_], _ => rfl
  have F_pwt := fun_mk (st := sPwT) l_pwt c_pwt k_pwt
  have D_pwt : Dn K mg "powers_to" g_pwt := ⟨gl _ _ a_pwt, k_pwt⟩
  have b_pwt := F_pwt.binds (ps := ["place", "most"]) fun _ _ _ _ _ _ us hl => match us, hl with | [_, _], _ => rfl
  have F_bag := fun_mk (st := sBag) l_bag c_bag k_bag
  have D_bag : Dn K mg "_law_bag" g_bag := ⟨gl _ _ a_bag, k_bag⟩
  have b_bag := F_bag.binds (ps := ["_law_script"]) fun _ _ _ _ _ _ us hl => match us, hl with | [_], _ => rfl
  have F_pul := fun_mk (st := sPull) l_pul c_pul k_pul
  have D_pul : Dn K mg "_law_pull" g_pul := ⟨gl _ _ a_pul, k_pul⟩
  have b_pul := F_pul.binds (ps := ["_law_bag_here", "_law_many"]) fun _ _ _ _ _ _ us hl => match us, hl with | [_, _], _ => rfl
  have F_lof := fun_mk (st := sOf) l_lof c_lof k_lof
  have D_lof : Dn K mg "_law_of" g_lof := ⟨gl _ _ a_lof, k_lof⟩
  have b_lof := F_lof.binds (ps := ["_law_bag_here", "_law_things"]) fun _ _ _ _ _ _ us hl => match us, hl with | [_, _], _ => rfl
  have F_sam := fun_mk (st := sSame) l_sam c_sam k_sam
  have D_sam : Dn K mg "_law_same" g_sam := ⟨gl _ _ a_sam, k_sam⟩
  have b_sam := F_sam.binds (ps := ["_law_found", "_law_due"]) fun _ _ _ _ _ _ us hl => match us, hl with | [_, _], _ => rfl
  have F_lfi := fun_mk (st := sField) l_lfi c_lfi k_lfi
  have D_lfi : Dn K mg "_law_field" g_lfi := ⟨gl _ _ a_lfi, k_lfi⟩
  have b_lfi := F_lfi.binds (ps := ["_law_e"]) fun _ _ _ _ _ _ us hl => match us, hl with | [_], _ => rfl
  have F_lot := fun_mk (st := sOtherField) l_lot c_lot k_lot
  have D_lot : Dn K mg "_law_other_field" g_lot := ⟨gl _ _ a_lot, k_lot⟩
  have b_lot := F_lot.binds (ps := ["_law_e"]) fun _ _ _ _ _ _ us hl => match us, hl with | [_], _ => rfl
  have F_why := fun_mk (st := sWhy) l_why c_why k_why
  have D_why : Dn K mg "_law_why" g_why := ⟨gl _ _ a_why, k_why⟩
  have b_why := F_why.binds (ps := ["_law_ask"]) fun _ _ _ _ _ _ us hl => match us, hl with | [_], _ => rfl
  have F_low := fun_mk (st := sLow) l_low c_low k_low
  have D_low : Dn K mg "_law_low" g_low := ⟨gl _ _ a_low, k_low⟩
  have b_low := F_low.binds (ps := ["_law_top", "_law_bottom"]) fun _ _ _ _ _ _ us hl => match us, hl with | [_, _], _ => rfl
  have F_plu := fun_mk (st := sPlus) l_plu c_plu k_plu
  have D_plu : Dn K mg "_law_plus" g_plu := ⟨gl _ _ a_plu, k_plu⟩
  have b_plu := F_plu.binds (ps := ["_law_one", "_law_other"]) fun _ _ _ _ _ _ us hl => match us, hl with | [_, _], _ => rfl
  have F_cro := fun_mk (st := sCross) l_cro c_cro k_cro
  have D_cro : Dn K mg "_law_cross" g_cro := ⟨gl _ _ a_cro, k_cro⟩
  have b_cro := F_cro.binds (ps := ["_law_one", "_law_other"]) fun _ _ _ _ _ _ us hl => match us, hl with | [_, _], _ => rfl
  have F_par := fun_mk (st := sPair) l_par c_par k_par
  have D_par : Dn K mg "_law_pair" g_par := ⟨gl _ _ a_par, k_par⟩
  have b_par := F_par.binds (ps := ["_law_found"]) fun _ _ _ _ _ _ us hl => match us, hl with | [_], _ => rfl
  have F_lra := fun_mk (st := sRatio) l_lra c_lra k_lra
  have D_lra : Dn K mg "_law_ratio" g_lra := ⟨gl _ _ a_lra, k_lra⟩
  have b_lra := F_lra.binds (ps := ["_law_pair_here"]) fun _ _ _ _ _ _ us hl => match us, hl with | [_], _ => rfl
  have F_ptx := fun_mk (st := sPairText) l_ptx c_ptx k_ptx
  have D_ptx : Dn K mg "_law_pair_text" g_ptx := ⟨gl _ _ a_ptx, k_ptx⟩
  have b_ptx := F_ptx.binds (ps := ["_law_pair_here"]) fun _ _ _ _ _ _ us hl => match us, hl with | [_], _ => rfl
  have F_fra := fun_mk (st := sFrac) l_fra c_fra k_fra
  have D_fra : Dn K mg "_law_fraction" g_fra := ⟨gl _ _ a_fra, k_fra⟩
  have b_fra := F_fra.binds (ps := ["_law_bag_here"]) fun _ _ _ _ _ _ us hl => match us, hl with | [_], _ => rfl
  have F_sum := fun_mk (st := sSum) l_sum c_sum k_sum
  have D_sum : Dn K mg "_law_sum" g_sum := ⟨gl _ _ a_sum, k_sum⟩
  have b_sum := F_sum.binds (ps := ["_law_one", "_law_other"]) fun _ _ _ _ _ _ us hl => match us, hl with | [_, _], _ => rfl
  have F_tim := fun_mk (st := sTimes) l_tim c_tim k_tim
  have D_tim : Dn K mg "_law_times" g_tim := ⟨gl _ _ a_tim, k_tim⟩
  have b_tim := F_tim.binds (ps := ["_law_one", "_law_other"]) fun _ _ _ _ _ _ us hl => match us, hl with | [_, _], _ => rfl
  have F_lpo := fun_mk (st := sPow) l_lpo c_lpo k_lpo
  have D_lpo : Dn K mg "_law_powers" g_lpo := ⟨gl _ _ a_lpo, k_lpo⟩
  have b_lpo := F_lpo.binds (ps := ["_law_place", "_law_many"]) fun _ _ _ _ _ _ us hl => match us, hl with | [_, _], _ => rfl
  have F_lsh := fun_mk (st := sLSh) l_lsh c_lsh k_lsh
  have D_lsh : Dn K mg "_law_sheet_at" g_lsh := ⟨gl _ _ a_lsh, k_lsh⟩
  have b_lsh := F_lsh.binds (ps := ["_law_shape", "_law_orders", "_law_one", "_law_other"]) fun _ _ _ _ _ _ us hl => match us, hl with | [_, _, _, _], _ => rfl
  have F_ltb := fun_mk (st := sLTb) l_ltb c_ltb k_ltb
  have D_ltb : Dn K mg "_law_table" g_ltb := ⟨gl _ _ a_ltb, k_ltb⟩
  have b_ltb := F_ltb.binds (ps := ["_law_rows"]) fun _ _ _ _ _ _ us hl => match us, hl with | [_], _ => rfl
  have F_req := fun_mk (st := sREq) l_req c_req k_req
  have b_req := F_req.binds (ps := ["self", "other"]) fun _ _ _ _ _ _ us hl => match us, hl with | [_, _], _ => rfl
  have F_add := fun_mk (st := sAdd) l_add c_add k_add
  have b_add := F_add.binds (ps := ["self", "other"]) fun _ _ _ _ _ _ us hl => match us, hl with | [_, _], _ => rfl
  have F_mul := fun_mk (st := sMul) l_mul c_mul k_mul
  have b_mul := F_mul.binds (ps := ["self", "other"]) fun _ _ _ _ _ _ us hl => match us, hl with | [_, _], _ => rfl
  have F_rst := fun_mk (st := sRStr) l_rst c_rst k_rst
  have b_rst := F_rst.binds (ps := ["self"]) fun _ _ _ _ _ _ us hl => match us, hl with | [_], _ => rfl
  have F_sin := fun_mk (st := sSIn) l_sin c_sin k_sin
  have b_sin := F_sin.binds (ps := ["self", "rows"]) fun _ _ _ _ _ _ us hl => match us, hl with | [_, _], _ => rfl
  have F_sto := fun_mk (st := sSTo) l_sto c_sto k_sto
  have b_sto := F_sto.binds (ps := ["self"]) fun _ _ _ _ _ _ us hl => match us, hl with | [_], _ => rfl
  have F_ssl := fun_mk (st := sSSl) l_ssl c_ssl k_ssl
  have b_ssl := F_ssl.binds (ps := ["self", "which"]) fun _ _ _ _ _ _ us hl => match us, hl with | [_, _], _ => rfl
  have F_ssw := fun_mk (st := sSSw) l_ssw c_ssw k_ssw
  have b_ssw := F_ssw.binds (ps := ["self"]) fun _ _ _ _ _ _ us hl => match us, hl with | [_], _ => rfl
  have F_sca := fun_mk (st := sSCa) l_sca c_sca k_sca
  have b_sca := F_sca.binds (ps := ["self", "one", "other"]) fun _ _ _ _ _ _ us hl => match us, hl with | [_, _, _], _ => rfl
  have F_seq := fun_mk (st := sSEq) l_seq c_seq k_seq
  have b_seq := F_seq.binds (ps := ["self", "other"]) fun _ _ _ _ _ _ us hl => match us, hl with | [_, _], _ => rfl
  have F_sst := fun_mk (st := sSSt) l_sst c_sst k_sst
  have b_sst := F_sst.binds (ps := ["self"]) fun _ _ _ _ _ _ us hl => match us, hl with | [_], _ => rfl
  have F_sre := fun_mk (st := sSRe) l_sre c_sre k_sre
  have b_sre := F_sre.binds (ps := ["self"]) fun _ _ _ _ _ _ us hl => match us, hl with | [_], _ => rfl
  have F_iin := fun_mk (st := sI_InvalidNumber) l_iin c_iin k_iin
  have b_iin := F_iin.binds (ps := ["self", "given"]) fun _ _ _ _ _ _ us hl => match us, hl with | [_, _], _ => rfl
  have I_rin : FunD K "__init__" "Ratio.__init__" (defArgs sRInit) (defBody sRInit) (defScope sRInit) [.int 1] [] g_rin (PySem.W.fnOf "__init__" "Ratio.__init__" (defArgs sRInit) (defBody sRInit) (defScope sRInit) (.ref T_rin) kV_rin dc_rin pm_rin an_rin cd_rin ct_rin) :=
    ⟨⟨_, _, _, _, _, _, _, _, _, _, rfl, l_rin, c_rin, .inr ⟨by simp, T_rin, _, [Value.int 1 tk_rin], _, rfl, t_rin, rfl, .cons ⟨_, rfl⟩ .nil⟩, .inl rfl⟩, k_rin⟩
  obtain ⟨dR, vR, bR⟩ := r_binds2 I_rin
  have bR3 := r_binds3 I_rin
  have kSl : KBinds K (PySem.W.fnOf "slope_sheet" "Sheet.slope_sheet" (defArgs sSSl) (defBody sSSl) (defScope sSSl) .none kV_ssl dc_ssl pm_ssl an_ssl cd_ssl ct_ssl) ["self", "which"] ["which"] g11 g11 := kb11 fun s a b => .of_eq rfl
  refine ⟨PySem.W.fnOf "law" "law" (defArgs sLaw) (defBody sLaw) (defScope sLaw) .none kV_law dc_law pm_law an_law (.ref cL) ct_law, [(cL, PT)], spLaw K PT, fun p hp => by cases List.mem_singleton.mp hp; exact hPT, fun p hp => by cases List.mem_singleton.mp hp; exact nPT, fun p hp => by cases List.mem_singleton.mp hp; exact hCH, fun s v => .of_eq rfl,
    fun H a ns hl _ hT hS => ⟨a, ns, rfl, hS, hl, hT _ (List.mem_singleton.mpr rfl), fun _ => rfl⟩, fun base _ _ hTB => ?_⟩
  have G_sho : FnOk l.prog w K mg base CX0 1 g_sho _ ["value"] (spShown K) := ok_shown F_sho B
  have G_iin : FnOk l.prog w K mg base CX0 2 g_iin _ ["self", "given"] (spI_InvalidNumber K) := okI_InvalidNumber F_iin BSS D_sho G_sho b_sho
  have G_isi : FnOk l.prog w K mg base CX0 1 g_isi _ ["value"] (spIsInt K) := ok_isInt F_isi B
  have G_isn : FnOk l.prog w K mg base CX0 2 g_isn _ ["value"] (spIsNum K CR) := ok_isNum F_isn B RTT D_isi G_isi b_isi
  have G_rin : FnOk l.prog w K mg base CX0 2 g_rin _ ["self", "top", "bottom"] (spRInit CR) := ok_rinit I_rin RTT (gl _ _ aGc) D_isi G_isi b_isi
  have G_rof : FnOk l.prog w K mg base CX0 4 g_rof _ ["number"] (spRatioOf CR) := ok_ratioOf F_rof B RTT MkR G_rin vR bR
  have G_add : FnOk l.prog w K mg base CX0 5 g_add _ ["self", "other"] (spBin CR fAdd gMul) := ok_add F_add RTT D_isn G_isn b_isn D_rof G_rof b_rof MkR G_rin bR3
  have G_mul : FnOk l.prog w K mg base CX0 5 g_mul _ ["self", "other"] (spBin CR fMul gMul) := ok_mul F_mul RTT D_isn G_isn b_isn D_rof G_rof b_rof MkR G_rin bR3
  have G_req : FnOk l.prog w K mg base CX0 2 g_req _ ["self", "other"] (spREq CR) := ok_req F_req B RTT D_isi G_isi b_isi
  have G_itx : FnOk l.prog w K mg base CX0 1 g_itx _ ["number"] spIntText := ok_intText F_itx B ⟨_, gl _ _ aCb⟩
  have G_rtx : FnOk l.prog w K mg base CX0 2 g_rtx _ ["ratio"] (spRatText CR) := ok_ratText F_rtx RTT D_itx G_itx b_itx
  have G_rst : FnOk l.prog w K mg base CX0 3 g_rst _ ["self"] (spRatText CR) := ok_rstr F_rst D_rtx G_rtx b_rtx
  have G_ipw : FnOk l.prog w K mg base CX0 2 g_ipw _ ["value"] (spIsPow K) := ok_isPow F_ipw D_isi G_isi b_isi
  have G_chk : FnOk l.prog w K mg base (L2.CX l.prog w) 4 g_chk _ ["row"] (spChk K CR CI) := ok_chk F_chk D_ipw G_ipw b_ipw D_isn G_isn b_isn ITT G_iin b_iin
  have G_tab : FnOk l.prog w K mg base CX0 6 g_tab _ ["rows"] (spTab K CR) := ok_tab F_tab B B2 RTT D_rof G_rof b_rof MA G_add b_add
  have G_pwt : FnOk l.prog w K mg base CX0 6 g_pwt _ ["place", "most"] (spPwT CR) := ok_pwT F_pwt B RTT MkR G_rin bR vR MU NU G_mul b_mul
  have G_sin : FnOk l.prog w K mg base (L2.CX l.prog w) 7 g_sin _ ["self", "rows"] (spSIn K CR CC CI) := ok_sin F_sin CTT D_chk G_chk b_chk D_tab G_tab b_tab
  have G_sto : FnOk l.prog w K mg base CX0 1 g_sto _ ["self"] (spSTo CC CR) := ok_sto F_sto CTT
  have G_ssw : FnOk l.prog w K mg base CX0 9 g_ssw _ ["self"] (spSSw CC CR) := ok_ssw F_ssw CTT MTo G_sto b_sto MkC G_sin b_sin
  have G_ssl : FnOk l.prog w K mg base (L2.CX l.prog w) 9 g_ssl _ ["self", "which"] (spSSl K CC CR CI) := ok_ssl F_ssl CTT D_isi G_isi b_isi MTo G_sto b_sto MU NU G_mul b_mul ITT G_iin b_iin MkC G_sin b_sin
  have G_sca : FnOk l.prog w K mg base CX0 7 g_sca _ ["self", "one", "other"] (spSCa CC CR) := ok_sca F_sca B B2 CTT RTT D_pwt G_pwt b_pwt MTo G_sto b_sto MkR G_rin bR vR MA G_add b_add MU G_mul b_mul
  have G_seq : FnOk l.prog w K mg base CX0 5 g_seq _ ["self", "other"] (spSEq CC CR) := ok_seq F_seq B CTT RTT MEq G_req b_req
  have G_sst : FnOk l.prog w K mg base CX0 6 g_sst _ ["self"] (spSStr CC CR tabS) := ok_sst F_sst B CTT MTo G_sto b_sto MSt MFr G_rst b_rst
  have G_sre : FnOk l.prog w K mg base CX0 8 g_sre _ ["self"] (spSStr CC CR fun T => "Sheet(" ++ tabS T ++ ")") := ok_sre F_sre MSc MFc G_sst b_sst
  have S0 : FnOk l.prog w K mg base CX0 0 g_sam (PySem.W.fnOf "_law_same" "_law_same" (defArgs sSame) (defBody sSame) (defScope sSame) .none kV_sam dc_sam pm_sam an_sam cd_sam ct_sam) ["_law_found", "_law_due"] (spSame 0) := same_zero
  have S1 := ok_same_step F_sam B D_sam S0 b_sam
  have S2 := ok_same_step F_sam B D_sam S1 b_sam
  have S3 := ok_same_step F_sam B D_sam S2 b_sam
  have S4 := ok_same_step F_sam B D_sam S3 b_sam
  have G_bag : FnOk l.prog w K mg base CX0 1 g_bag _ ["_law_script"] (spBag K) := ok_bag F_bag B
  have G_pul : FnOk l.prog w K mg base CX0 1 g_pul _ ["_law_bag_here", "_law_many"] spPull := ok_pull F_pul B
  have G_lof : FnOk l.prog w K mg base CX0 2 g_lof _ ["_law_bag_here", "_law_things"] spOf := ok_of F_lof B D_pul G_pul b_pul
  have G_lot : FnQ l.prog w K mg base 1 g_lot _ ["_law_e"] (spOtherF K) := ok_otherField F_lot
  have G_lfi : FnQ l.prog w K mg base 2 g_lfi _ ["_law_e"] (spFieldE K) := ok_field F_lfi D_lot G_lot b_lot
  have G_low : FnOk l.prog w K mg base CX0 1 g_low _ ["_law_top", "_law_bottom"] spLow := ok_low F_low B
  have G_plu : FnOk l.prog w K mg base CX0 2 g_plu _ ["_law_one", "_law_other"] (spTwo fAdd gMul) := ok_plus F_plu D_low G_low b_low
  have G_cro : FnOk l.prog w K mg base CX0 2 g_cro _ ["_law_one", "_law_other"] (spTwo fMul gMul) := ok_cross F_cro D_low G_low b_low
  have G_par : FnOk l.prog w K mg base CX0 1 g_par _ ["_law_found"] (spPair CR) := ok_pair F_par B RTT
  have G_lra : FnOk l.prog w K mg base CX0 4 g_lra _ ["_law_pair_here"] (spMkRatio CR) := ok_ratio F_lra RTT MkR G_rin bR3
  have G_ptx : FnOk l.prog w K mg base CX0 1 g_ptx _ ["_law_pair_here"] spPairText := ok_pairText F_ptx B
  have G_fra : FnOk l.prog w K mg base CX0 2 g_fra _ ["_law_bag_here"] spFrac := ok_frac F_fra D_pul G_pul b_pul D_low G_low b_low
  have G_sum : FnOk l.prog w K mg base CX0 3 g_sum _ ["_law_one", "_law_other"] spSum := ok_sum F_sum B B2 D_plu G_plu b_plu
  have G_tim : FnOk l.prog w K mg base CX0 3 g_tim _ ["_law_one", "_law_other"] spTimes := ok_times F_tim B B2 D_plu G_plu b_plu D_cro G_cro b_cro
  have G_lpo : FnOk l.prog w K mg base CX0 4 g_lpo _ ["_law_place", "_law_many"] spLPow := ok_lpow F_lpo B D_tim G_tim b_tim
  have G_lsh : FnOk l.prog w K mg base CX0 5 g_lsh _ ["_law_shape", "_law_orders", "_law_one", "_law_other"] (spLSh K) := ok_lsh F_lsh B B2 D_sum G_sum b_sum D_tim G_tim b_tim D_lpo G_lpo b_lpo D_cro G_cro b_cro
  have G_ltb : FnOk l.prog w K mg base CX0 3 g_ltb _ ["_law_rows"] (spLTab K) := ok_ltab F_ltb B B2 D_plu G_plu b_plu
  exact ok_law l_law c_law l_why c_why D_why b_why (hTB _ (List.mem_singleton.mpr rfl)) (gl _ _ aS) (gl _ _ aM) D_lfi G_lfi b_lfi B RTT CTT TKK D_bag G_bag b_bag D_pul G_pul b_pul D_lof G_lof b_lof D_sam S4 b_sam D_par G_par b_par D_lra G_lra b_lra D_ptx G_ptx b_ptx D_fra G_fra b_fra D_ltb G_ltb b_ltb D_lsh G_lsh b_lsh
    MkC G_sin b_sin MTo G_sto b_sto MSw G_ssw b_ssw MSc G_sst b_sst MRc G_sre b_sre MSl G_ssl b_ssl kSl MCl G_sca b_sca MEc MNc G_seq b_seq CTT.fS
end K37

set_option Elab.async false
open PySem PySem.W PyProof.Rows
set_option maxRecDepth 100000 in
set_option maxHeartbeats 0 in
theorem PySem.Challenge.cw_unseenslopes_k37_sheets_made_holds : PySem.Challenge.rw_unseenslopes_k37_sheets_made.Holds := by
  w_on; o_law; k_head; (case hw => w_witness2)
  k_fill
  refine LamX.walk_ofTsE (l := PySem.Challenge.rw_unseenslopes_k37_sheets_made) (n := 63) (k := 12) (x := "_law_script") (CX := fun _ => L2.CX0) rfl (by decide) rfl ⟨rfl, by decide, by decide⟩ ?F (fun _ _ _ _ _ z => z)
  case F =>
    intro w mg fa h Y G hmg
    have KX := PySem.W.km_in_of Y
    refine' ⟨_, KX, K37.all_mk (PT := 502) KX G hmg (PySem.W.km_tabs_of Y 502 (List.mem_singleton.mpr rfl)) ?np (PySem.W.codeHd_of_K KX ?ch) ?aR ?aC ?aI ?aS ?aM ?aGc ?aCb ?a_sho ?l_sho ?c_sho ?k_sho ?a_isi ?l_isi ?c_isi ?k_isi ?a_isn ?l_isn ?c_isn ?k_isn ?a_rof ?l_rof ?c_rof ?k_rof ?a_itx ?l_itx ?c_itx ?k_itx ?a_rtx ?l_rtx ?c_rtx ?k_rtx ?a_ipw ?l_ipw ?c_ipw ?k_ipw ?a_chk ?l_chk ?c_chk ?k_chk ?a_tab ?l_tab ?c_tab ?k_tab ?a_pwt ?l_pwt ?c_pwt ?k_pwt ?a_bag ?l_bag ?c_bag ?k_bag ?a_pul ?l_pul ?c_pul ?k_pul ?a_lof ?l_lof ?c_lof ?k_lof ?a_sam ?l_sam ?c_sam ?k_sam ?a_lfi ?l_lfi ?c_lfi ?k_lfi ?a_lot ?l_lot ?c_lot ?k_lot ?a_why ?l_why ?c_why ?k_why ?a_low ?l_low ?c_low ?k_low ?a_plu ?l_plu ?c_plu ?k_plu ?a_cro ?l_cro ?c_cro ?k_cro ?a_par ?l_par ?c_par ?k_par ?a_lra ?l_lra ?c_lra ?k_lra ?a_ptx ?l_ptx ?c_ptx ?k_ptx ?a_fra ?l_fra ?c_fra ?k_fra ?a_sum ?l_sum ?c_sum ?k_sum ?a_tim ?l_tim ?c_tim ?k_tim ?a_lpo ?l_lpo ?c_lpo ?k_lpo ?a_lsh ?l_lsh ?c_lsh ?k_lsh ?a_ltb ?l_ltb ?c_ltb ?k_ltb ?a_law ?l_law ?c_law ?k_law ?i_req ?l_req ?c_req ?k_req ?i_add ?l_add ?c_add ?k_add ?i_mul ?l_mul ?c_mul ?k_mul ?i_rst ?l_rst ?c_rst ?k_rst ?i_sin ?l_sin ?c_sin ?k_sin ?i_sto ?l_sto ?c_sto ?k_sto ?i_ssl ?l_ssl ?c_ssl ?k_ssl ?i_ssw ?l_ssw ?c_ssw ?k_ssw ?i_sca ?l_sca ?c_sca ?k_sca ?i_seq ?l_seq ?c_seq ?k_seq ?i_sst ?l_sst ?c_sst ?k_sst ?i_sre ?l_sre ?c_sre ?k_sre ?i_rmu ?i_iin ?l_iin ?c_iin ?k_iin ?i_rin ?l_rin ?c_rin ?k_rin ?t_rin ?z_isin ?z_tstr ?z_tint ?z_tlist ?z_ttuple ?z_tbool ?z_fabs ?z_frepr ?z_flen ?z_frange ?z_fzip ?z_fall ?z_tve ?z_tle ?z_fenum ?z_fmax ?z_fsorted ?z_tdict ?lCI ?tyI ?tyF ?vS ?hRv ?hR ?hO ?hC ?hG ?hS ?hI⟩
    (case aR => k_is); (case aC => k_is); (case aI => k_is); (case aS => k_is); (case aM => k_is); (case aGc => k_is); (case aCb => k_is); (case a_sho => k_is); (case l_sho => k_is); (case c_sho => k_is); (case k_sho => k_is); (case a_isi => k_is); (case l_isi => k_is); (case c_isi => k_is); (case k_isi => k_is); (case a_isn => k_is); (case l_isn => k_is); (case c_isn => k_is); (case k_isn => k_is); (case a_rof => k_is); (case l_rof => k_is); (case c_rof => k_is); (case k_rof => k_is); (case a_itx => k_is); (case l_itx => k_is); (case c_itx => k_is); (case k_itx => k_is); (case a_rtx => k_is); (case l_rtx => k_is); (case c_rtx => k_is); (case k_rtx => k_is); (case a_ipw => k_is); (case l_ipw => k_is); (case c_ipw => k_is); (case k_ipw => k_is); (case a_chk => k_is); (case l_chk => k_is); (case c_chk => k_is); (case k_chk => k_is); (case a_tab => k_is); (case l_tab => k_is); (case c_tab => k_is); (case k_tab => k_is); (case a_pwt => k_is); (case l_pwt => k_is); (case c_pwt => k_is); (case k_pwt => k_is); (case a_bag => k_is); (case l_bag => k_is); (case c_bag => k_is); (case k_bag => k_is); (case a_pul => k_is); (case l_pul => k_is); (case c_pul => k_is); (case k_pul => k_is); (case a_lof => k_is); (case l_lof => k_is); (case c_lof => k_is); (case k_lof => k_is); (case a_sam => k_is); (case l_sam => k_is); (case c_sam => k_is); (case k_sam => k_is); (case a_lfi => k_is); (case l_lfi => k_is); (case c_lfi => k_is); (case k_lfi => k_is); (case a_lot => k_is); (case l_lot => k_is); (case c_lot => k_is); (case k_lot => k_is); (case a_why => k_is); (case l_why => k_is); (case c_why => k_is); (case k_why => k_is); (case a_low => k_is); (case l_low => k_is); (case c_low => k_is); (case k_low => k_is); (case a_plu => k_is); (case l_plu => k_is); (case c_plu => k_is); (case k_plu => k_is); (case a_cro => k_is); (case l_cro => k_is); (case c_cro => k_is); (case k_cro => k_is); (case a_par => k_is); (case l_par => k_is); (case c_par => k_is); (case k_par => k_is); (case a_lra => k_is); (case l_lra => k_is); (case c_lra => k_is); (case k_lra => k_is); (case a_ptx => k_is); (case l_ptx => k_is); (case c_ptx => k_is); (case k_ptx => k_is); (case a_fra => k_is); (case l_fra => k_is); (case c_fra => k_is); (case k_fra => k_is); (case a_sum => k_is); (case l_sum => k_is); (case c_sum => k_is); (case k_sum => k_is); (case a_tim => k_is); (case l_tim => k_is); (case c_tim => k_is); (case k_tim => k_is); (case a_lpo => k_is); (case l_lpo => k_is); (case c_lpo => k_is); (case k_lpo => k_is); (case a_lsh => k_is); (case l_lsh => k_is); (case c_lsh => k_is); (case k_lsh => k_is); (case a_ltb => k_is); (case l_ltb => k_is); (case c_ltb => k_is); (case k_ltb => k_is); (case a_law => k_is); (case l_law => k_is); (case c_law => k_is); (case k_law => k_is); (case i_req => k_is); (case l_req => k_is); (case c_req => k_is); (case k_req => k_is); (case i_add => k_is); (case l_add => k_is); (case c_add => k_is); (case k_add => k_is); (case i_mul => k_is); (case l_mul => k_is); (case c_mul => k_is); (case k_mul => k_is); (case i_rst => k_is); (case l_rst => k_is); (case c_rst => k_is); (case k_rst => k_is); (case i_sin => k_is); (case l_sin => k_is); (case c_sin => k_is); (case k_sin => k_is); (case i_sto => k_is); (case l_sto => k_is); (case c_sto => k_is); (case k_sto => k_is); (case i_ssl => k_is); (case l_ssl => k_is); (case c_ssl => k_is); (case k_ssl => k_is); (case i_ssw => k_is); (case l_ssw => k_is); (case c_ssw => k_is); (case k_ssw => k_is); (case i_sca => k_is); (case l_sca => k_is); (case c_sca => k_is); (case k_sca => k_is); (case i_seq => k_is); (case l_seq => k_is); (case c_seq => k_is); (case k_seq => k_is); (case i_sst => k_is); (case l_sst => k_is); (case c_sst => k_is); (case k_sst => k_is); (case i_sre => k_is); (case l_sre => k_is); (case c_sre => k_is); (case k_sre => k_is); (case i_rmu => k_is); (case i_iin => k_is); (case l_iin => k_is); (case c_iin => k_is); (case k_iin => k_is); (case i_rin => k_is); (case l_rin => k_is); (case c_rin => k_is); (case k_rin => k_is); (case t_rin => k_is); (case z_isin => k_is); (case z_tstr => k_is); (case z_tint => k_is); (case z_tlist => k_is); (case z_ttuple => k_is); (case z_tbool => k_is); (case z_fabs => k_is); (case z_frepr => k_is); (case z_flen => k_is); (case z_frange => k_is); (case z_fzip => k_is); (case z_fall => k_is); (case z_tve => k_is); (case z_tle => k_is); (case z_fenum => k_is); (case z_fmax => k_is); (case z_fsorted => k_is); (case z_tdict => k_is); (case lCI => k_is); (case tyI => k_is); (case tyF => k_is); (case vS => k_is)
    (case np => kernel_rfl); (case ch => kernel_rfl)
    (case hRv => kernel_rfl); (case hR => kernel_rfl); (case hO => kernel_rfl); (case hC => kernel_rfl); (case hG => kernel_rfl); (case hS => kernel_rfl); (case hI => kernel_rfl)
