import PyProof.Rows.All
import Wide.All
import OpenK.AllK
import Wide.FinOn
import PyProof.Rows.NestShow
import HandS.ForMost
import HandS.ForExc
import HandS.Ends
import HandS.ExcInit
import HandS.ExcIs
import HandS.IsInst
import HandS.ExcField
import HandS.MakeKw
import HandS.MakeKwOnly
import KE.KExcInit
import KE.KExcIs
import KE.KOpsOwn
import HandS.Wide
import HandS.Flow
import HandS.Star
import HandS.ClsMeth
import HandS.Deep
import HandS.OwnEq
import HandS.TupAny
import HandS.More
import HandS.WrittenGet
import KE.GoesMore
import KE.GoesEnum
import KE.KRevSl
import HandS.SetTxt0
import HandS.Set
import HandS.SetBool
import PyProof.StrOps2
import HandS.SetFor
import HandS.Strs
import PySem.Challenge.RW_takendown_k10_whole_rows
set_option Elab.async false
set_option linter.all false
set_option maxRecDepth 100000
set_option maxHeartbeats 4000000
/-! E1 -/
/-! ### own error classes with an __init__ of their own, over any built-in base; made by position and by keywords -/
namespace PySem
namespace LwX
open PySem.HandSPX Builtin Builtin.ObjectAttr
section
variable {M : Model} {A : Around} {E : Value → Shared → Prop} {h : Heap} {g : Array GenState} {d : Drawn} {t : Nat} {os : OsState}
variable {nm q : Str} {C N : Addr} {bs bm bmB : List Value} {hdct : Bool} {sn : List Str} {sub : List Value} {ab : Bool} {col : Option Bool} {dd : Option Addr} {k0 k1 k2 k3 k5 : Option Value} {B newId initId : String}
theorem check_new_kw (F : ExcBaseFacts B newId initId bmB) (hT : ∀ X : String, bm.contains (.type X) = bmB.contains (.type X)) {rest : List Value} {kw : List (Str × Value)} {Q : Unit → Shared → Prop}
    (hC : h.get? C = some (excClassObj nm q C N bs bm hdct sn sub ab col dd k0 k1 k2 k3 k5 newId)) (hq : Q () ⟨h, g, d, t, os⟩) : wpAny M A (checkBuiltinCall newId ⟨.ref C :: rest, kw⟩) Q E ⟨h, g, d, t, os⟩ := by
  have hcont : (Value.ref C :: bm).contains (.type B) = true := by rw [List.contains_cons, hT, F.hasB, Bool.or_true]
  have hstar := F.noStar
  simp only [checkBuiltinCall, F.newKind, F.newSplit, F.newRow]
  repeat (first | refine wpAny_loadPart_at hC ?_ | (refine wpAny_isSubtype_exc hC ?_; rw [hcont]) | refine wpAny_staticBase_exc hC ?_ | refine wpAny_madeBy_exc hC ?_ | simp only [bne_self_eq_false, Bool.false_eq_true, if_false] | wp_step)
  exact hq
end
section
variable {prog : Program} {w : World} {A : Around} {E : Value → Shared → Prop} {R : Result → Shared → Prop} {h : Heap} {g : Array GenState} {d : Drawn} {t : Nat} {os : OsState}
variable {nm q : Str} {C N : Addr} {bs bm bmB : List Value} {hdct : Bool} {sn : List Str} {sub : List Value} {ab : Bool} {col : Option Bool} {dd : Option Addr} {k0 k1 k2 k3 k5 : Option Value} {B newId initId : String}
theorem new_kw (F : ExcBaseFacts B newId initId bmB) (hT : ∀ X : String, bm.contains (.type X) = bmB.contains (.type X)) {rest : List Value} {kw : List (Str × Value)}
    (hC : h.get? C = some (excClassObj nm q C N bs bm hdct sn sub ab col dd k0 k1 k2 k3 k5 newId))
    (hq : R (.ok (.ret (.ref (h.objs.size + 1)))) ⟨(h.push { cls := .type "tuple", data := .seq rest.toArray }).push
      { cls := .ref C, data := .fields #[.ref h.objs.size, .none, .none, .none, .bool false, .none] }, g, d, t, os⟩) (hrest : rest.length ≤ sizeLine) :
    codeAny (model prog w) A (.builtin newId ⟨.ref C :: rest, kw⟩) R ⟨h, g, d, t, os⟩ := by
  have hends := F.ends
  have hcB : (Value.ref C :: bm).contains (.type B) = true := by rw [List.contains_cons, hT, F.hasB, Bool.or_true]
  have hcA : (Value.ref C :: bm).contains (.type "AttributeError") = false := by rw [List.contains_cons, hT, F.noAttr]; rfl
  have hcN : (Value.ref C :: bm).contains (.type "NameError") = false := by rw [List.contains_cons, hT, F.noName]; rfl
  refine codeAny_builtinAt F.entry ?_
  unfold Builtin.«BaseException.__new__»
  refine wpAt_bind ?_
  show wpAt _ _ _ (stack >>= _) _ _ _
  refine wpAt_bind (wpAt_stack fun p below => wpAt_of_wpAny ?_)
  wp_walk
  refine wpAt_of_wpAny ?_
  rw [F.owner]
  repeat (first | with_reducible refine wpAny_madeHere_exc F.canon hC ?_ | with_reducible refine wpAny_loadPart_at hC ?_ | (with_reducible refine wpAny_isSubtype_exc hC ?_; first | rw [hcB] | rw [hcA] | rw [hcN]) | wp_step)
  show R _ _
  rw [Heap.size_push]
  exact hq
theorem type_call_kw (F : ExcBaseFacts B newId initId bmB) (hT : ∀ X : String, bm.contains (.type X) = bmB.contains (.type X)) {rest : List Value} {kw : List (Str × Value)} {fI : Addr} {Q : Fin → Shared → Prop}
    (hC : h.get? C = some (excClassObj nm q C N bs bm hdct sn sub ab col dd k0 k1 k2 k3 k5 newId))
    (hi : W.Looks (model prog w) h (typeLookup (.ref C) "__init__") (some (.ref fI))) (hb : ∀ self, W.Looks (model prog w) h (bindSpecial (.ref fI) self) (.ref fI, [self])) (hrest : rest.length ≤ sizeLine)
    (hq : codeAny (model prog w) A (.call (.ref fI) ⟨.ref (h.objs.size + 1) :: rest, kw⟩)
      (fun r s' => match r with | .ok (.ret v) => v = .none ∧ Q (.done (.ret (.ref (h.objs.size + 1)))) s' | .ok _ => False | .error e => E e s')
      ⟨(h.push (W.kdv_tup rest)).push (excO C h.objs.size), g, d, t, os⟩) :
    wpAny (model prog w) A (Builtin.«type.__call__» ⟨.ref C :: rest, kw⟩) Q E ⟨h, g, d, t, os⟩ := by
  repeat (first | with_reducible refine wpAny_loadPart_at hC ?_ | with_reducible refine wpAny_madeBy_exc hC ?_ | wp_step)
  refine codeAny_call_builtin_code (Code.quiet_builtin _ F.quiet) (check_new_kw F hT hC ?_)
  refine new_kw F hT hC ?_ hrest
  show wpAny _ _ _ _ _ _
  have k : ∀ b o, h.get? b = some o → ((h.push (W.kdv_tup rest)).push (excO C h.objs.size)).get? b = some o := fun b o e => Heap.get?_push_of_some _ (Heap.get?_push_of_some _ e)
  have hC₁ := k _ _ hC
  have hget : ((h.push (W.kdv_tup rest)).push (excO C h.objs.size)).get? (h.objs.size + 1) = some (excO C h.objs.size) := by heap_get
  have hcC : (Value.ref C :: bm).contains (.ref C) = true := by simp
  have i1 := hi.keeps k
  have b1 := (hb (.ref (h.objs.size + 1))).keeps k
  unfold isInstance
  repeat (first | with_reducible refine wpAny_loadPart_at hget ?_ | (with_reducible refine wpAny_isSubtype_exc hC₁ ?_; rw [hcC]) | wp_step)
  show wpAny _ _ (typeLookup (.ref C) _) _ _ _
  refine i1.at ?_
  refine wpAny_holding (wpAny_bind (b1.at ?_))
  refine wpAny_bind (wpAny_call (codeAny_mono hq fun r s' z => ?_))
  rcases r with e | (v | _ | _ | _) <;> first | exact z | exact z.elim | skip
  obtain ⟨rfl, z⟩ := z
  first
    | exact wpAny_pure (wpAny_pure z)
    | (wp_walk; exact z)
theorem check_type_call_kw {M : Model} {rest : List Value} {kw : List (Str × Value)} {Q : Unit → Shared → Prop} (hC : h.get? C = some (excClassObj nm q C N bs bm hdct sn sub ab col dd k0 k1 k2 k3 k5 newId)) (hq : Q () ⟨h, g, d, t, os⟩) :
    wpAny M A (checkBuiltinCall "type.__call__" ⟨.ref C :: rest, kw⟩) Q E ⟨h, g, d, t, os⟩ := by
  have f3 := tc_sub
  have hT : (⟨h, g, d, t, os⟩ : Shared).TypeIs (.ref C) "type" := ⟨_, hC, rfl⟩
  simp only [checkBuiltinCall, tc_kind, tc_split]
  repeat (any_goals (first | assumption | with_reducible refine wpAny_loadPart_at hC ?_ | with_reducible refine wpAny_onRaise ?_ | with_reducible refine wpAny_map ?_ | wp_step))
theorem call_kw (F : ExcBaseFacts B newId initId bmB) (hT : ∀ X : String, bm.contains (.type X) = bmB.contains (.type X)) {rest : List Value} {kw : List (Str × Value)} {fI : Addr}
    (hC : h.get? C = some (excClassObj nm q C N bs bm hdct sn sub ab col dd k0 k1 k2 k3 k5 newId))
    (hi : W.Looks (model prog w) h (typeLookup (.ref C) "__init__") (some (.ref fI))) (hb : ∀ self, W.Looks (model prog w) h (bindSpecial (.ref fI) self) (.ref fI, [self])) (hrest : rest.length ≤ sizeLine)
    (hq : codeAny (model prog w) (A.under (.builtin "type.__call__" ⟨.ref C :: rest, kw⟩)) (.call (.ref fI) ⟨.ref (h.objs.size + 1) :: rest, kw⟩) (W.InitBack (h.objs.size + 1) R)
      ⟨(h.push (W.kdv_tup rest)).push (excO C h.objs.size), g, d, t, os⟩) :
    codeAny (model prog w) A (.call (.ref C) ⟨rest, kw⟩) R ⟨h, g, d, t, os⟩ := by
  have f1 := tc_lookup
  have f2 := tc_bind (.ref C)
  have hTy : (⟨h, g, d, t, os⟩ : Shared).TypeIs (.ref C) "type" := ⟨_, hC, rfl⟩
  refine codeAny_of_tree ?_
  show wpAny _ _ (callAny (.ref C) _) _ _ _
  repeat (any_goals (first | assumption | with_reducible refine wpAny_loadPart_at hC ?_ | wp_step))
  refine ⟨rfl, ?_⟩
  refine codeAny_call_builtin_at (Code.quiet_builtin _ (by decide +kernel)) entry_typeCall (check_type_call_kw hC (type_call_kw F hT hC hi hb hrest ?_))
  refine codeAny_mono hq fun r s' z => ?_
  rcases r with e | (v | _ | _ | _) <;> exact z
end
section
variable {prog : Program} {w : World} {A : Around} {E : Value → Shared → Prop} {R : Result → Shared → Prop} {hp : Heap} {g : Array GenState} {d : Drawn} {t : Nat} {os : OsState} {B : String} {bmB : List Value}
/-- self.name = v, the first field -/
theorem osa_first {K : W.Frag} {name : Str} {tk : Tok} {v : Value} {x C : Addr} {fv : Array Value} {cd : ClassData} (SB : StoreFacts B bmB "object.__setattr__" "object")
    (X : K.In hp) (hx : hp.get? x = some { cls := .ref C, data := .fields fv }) (hcd : W.clsIn K C = some cd) (hm : W.excTail bmB cd.mro = true) (hh : cd.hasDict = true) (ha : W.findIn K (.ref C) name = some none)
    (hq : ∀ h' tk' dx, (∀ b o, b ≠ x → hp.get? b = some o → h'.get? b = some o) → hp.objs.size ≤ dx → dx ≠ x → h'.get? x = some { cls := .ref C, dict := some dx, data := .fields fv } →
      h'.Ns1 dx (fun y => if y = name then some v else none) → R (.ok (.ret .none)) ⟨h', g, d, tk', os⟩) :
    codeAny (model prog w) A (.call (.builtin "object.__setattr__") ⟨[.ref x, .str name tk, v], []⟩) R ⟨hp, g, d, t, os⟩ := by
  have I : W.InstAt hp x { cls := .ref C, data := .fields fv } C none := ⟨hx, rfl, rfl, trivial⟩
  have SF := F.store_object
  have hob : cd.mro.contains (.type "object") = true := (W.excTail_contains "object" _ hm).trans SB.hasOwner
  have ne : cd.mro.isEmpty = false := by
    cases e : cd.mro with
    | nil =>
      rw [e] at hob
      cases hob
    | cons _ _ => rfl
  have hxs : x ≠ hp.objs.size := Nat.ne_of_lt (Heap.lt_size hx)
  have sub : W.Looks (model prog w) hp (isInstance (.ref x) (.type "object")) true := I.type.andThen (W.looks_mroIn X (by unfold W.mroIn; rw [hcd, Option.bind_some, if_neg (by rw [ne]; decide), hob]))
  refine codeAny_call_builtin SF.slot.plain SF.entry (@W.check_slot (model prog w) _ _ ⟨hp, g, d, t, os⟩ "object.__setattr__" "object" "__setattr__" (.ref x) [.str name tk, v] [] _ SF.kind SF.split sub (SF.args (.ref x) (.str name tk) v) ?_)
  have hmr : W.Looks (model prog w) hp (mroOf (.ref C)) cd.mro := (W.looks_clsIn X hcd).andThen .now
  have L3 : W.Looks (model prog w) hp (storeTaker? none) none := .now
  have hcls : W.Looks (model prog w) hp (classData C) cd := W.looks_clsIn X hcd
  rw [W.osa_eq, refuse_eq]
  refine wpAny_bind (wpAny_bind (I.type.at (wpAny_bind (hmr.at ?_))))
  rw [W.excTail_pass _ (SB.passes _) _ hm]
  refine wpAny_pure (wpAny_bind (I.type.at (wpAny_bind ((W.looks_findIn X ha).at (wpAny_bind (L3.at ?_))))))
  show wpAny _ _ (storeInOwnDict (.ref x) (.ref C) (.str name tk) name v false) _ _ _
  obtain ⟨nm, bs, mro, ns, qn, hd, sn, sb, ab, col, del⟩ := cd
  dsimp only at hh
  subst hh
  unfold storeInOwnDict ownDictForStores
  repeat (first | with_reducible refine store_in_new ?_ ?_ | with_reducible refine wpAny_loadPart_at hx ?_ | with_reducible refine hcls.at ?_ | wp_step)
  · exact ⟨_, #[], _, (Heap.get?_update_ne _ _ _ _ hxs.symm).trans (Heap.get?_push_at rfl rfl), rfl, fun e he => absurd he (by simp), fun _ => rfl⟩
  · intro h' tk' hn' hs
    have hx₁ : (hp.push { cls := .type "dict", data := .dict #[] }).get? x = some { cls := .ref C, data := .fields fv } := Heap.get?_push_of_some _ hx
    refine hq h' tk' hp.objs.size (fun b o hb ho => ?_) (Nat.le_refl _) hxs.symm ?_ hn'
    · exact (hs.2 b (Nat.ne_of_lt (Heap.lt_size ho))).trans ((Heap.get?_update_ne _ _ _ _ hb).trans (Heap.get?_push_of_some _ ho))
    · exact (hs.2 x hxs).trans (Heap.get?_update_self _ hx₁ rfl)
/-- a further field -/
theorem osa_further {K : W.Frag} {name : Str} {tk : Tok} {v : Value} {x C dx : Addr} {fv : Array Value} {cd : ClassData} {m0 : Str → Option Value} {nl : List Str} (SB : StoreFacts B bmB "object.__setattr__" "object")
    (X : K.In hp) (hx : hp.get? x = some { cls := .ref C, dict := some dx, data := .fields fv }) (hns : hp.Ns1 dx m0) (hw : Within m0 nl) (hz : nl.length ≤ 1000) (hcd : W.clsIn K C = some cd) (hm : W.excTail bmB cd.mro = true) (hh : cd.hasDict = true)
    (ha : W.findIn K (.ref C) name = some none)
    (hq : ∀ h' tk', (∀ b o, b ≠ dx → hp.get? b = some o → h'.get? b = some o) → h'.Ns1 dx (fun y => if y = name then some v else m0 y) → R (.ok (.ret .none)) ⟨h', g, d, tk', os⟩) :
    codeAny (model prog w) A (.call (.builtin "object.__setattr__") ⟨[.ref x, .str name tk, v], []⟩) R ⟨hp, g, d, t, os⟩ := by
  obtain ⟨oD, esD, epD, hoD, hdD, _⟩ := hns.count hw
  have I : W.InstAt hp x { cls := .ref C, dict := some dx, data := .fields fv } C (some oD) := ⟨hx, rfl, rfl, hoD⟩
  have SF := F.store_object
  have hob : cd.mro.contains (.type "object") = true := (W.excTail_contains "object" _ hm).trans SB.hasOwner
  have ne : cd.mro.isEmpty = false := by
    cases e : cd.mro with
    | nil =>
      rw [e] at hob
      cases hob
    | cons _ _ => rfl
  have sub : W.Looks (model prog w) hp (isInstance (.ref x) (.type "object")) true := I.type.andThen (W.looks_mroIn X (by unfold W.mroIn; rw [hcd, Option.bind_some, if_neg (by rw [ne]; decide), hob]))
  refine codeAny_call_builtin SF.slot.plain SF.entry (@W.check_slot (model prog w) _ _ ⟨hp, g, d, t, os⟩ "object.__setattr__" "object" "__setattr__" (.ref x) [.str name tk, v] [] _ SF.kind SF.split sub (SF.args (.ref x) (.str name tk) v) ?_)
  have hmr : W.Looks (model prog w) hp (mroOf (.ref C)) cd.mro := (W.looks_clsIn X hcd).andThen .now
  have L3 : W.Looks (model prog w) hp (storeTaker? none) none := .now
  have hcls : W.Looks (model prog w) hp (classData C) cd := W.looks_clsIn X hcd
  rw [W.osa_eq, refuse_eq]
  refine wpAny_bind (wpAny_bind (I.type.at (wpAny_bind (hmr.at ?_))))
  rw [W.excTail_pass _ (SB.passes _) _ hm]
  refine wpAny_pure (wpAny_bind (I.type.at (wpAny_bind ((W.looks_findIn X ha).at (wpAny_bind (L3.at ?_))))))
  show wpAny _ _ (storeInOwnDict (.ref x) (.ref C) (.str name tk) name v false) _ _ _
  obtain ⟨nm, bs, mro, ns, qn, hd, sn, sb, ab, col, del⟩ := cd
  dsimp only at hh
  subst hh
  unfold storeInOwnDict ownDictForStores
  repeat (first | with_reducible refine PySem.OEX.store_in_old hns hw hz ?_ | with_reducible refine wpAny_loadPart_at hx ?_ | with_reducible refine hcls.at ?_ | wp_step)
  intro h' tk' hn' hs
  exact hq h' tk' (fun b o hb ho => (hs.2 b hb).trans ho) hn'
end
end LwX
end PySem

/-! E2 -/
/-! ### the same over the layer -/
namespace L2
open PySem PySem.Spec PyProof.Rows
/-- what the written part says of an own error class at C whose __init__ is the def at fI -/
structure OexG (K : PySem.W.Frag) (C fI : Addr) : Prop where
  base : ∃ (B newId initId : String) (bmB : List Value), ExcBaseFacts B newId initId bmB ∧ StoreFacts B bmB "object.__setattr__" "object" ∧
    ∃ nm q N bs bm sn sub ab col dd k0 k1 k2 k3 k5, K.lookup C = some (excClassObj nm q C N bs bm true sn sub ab col dd k0 k1 k2 k3 k5 newId) ∧ PySem.W.excTail bmB bm = true
  sa : PySem.W.findIn K (.ref C) "__setattr__" = some (some (.builtin "object.__setattr__"))
  ga : PySem.W.findIn K (.ref C) "__getattribute__" = some (some (.builtin "BaseException.__getattribute__"))
  gg : PySem.W.findIn K (.ref C) "__getattr__" = some none
  exC : PySem.W.subIn K (.ref C) (.type "BaseException") = some true
  tyC : PySem.W.typeIn K (.ref C) = some (.type "type")
  kC : PySem.W.keepIn K (.ref C) = true
  hdC : PySem.W.hasDictIn K C = true
  iC : PySem.W.findIn K (.ref C) "__init__" = some (some (.ref fI))
  tI : PySem.W.typeIn K (.ref fI) = some (.type "function")
  ha : PySem.W.findIn K (.ref C) "__class__" = some (some (.builtin "object.__class__"))
  hn : PySem.W.specialIn K (.builtin "object.__class__") "__get__" = some (some (.builtin "getset_descriptor.__get__"))
  ht : PySem.W.takesIn K (.builtin "object.__class__") = some true
  hm : PySem.W.mroIn K C (.type "object") = some true
section
variable {X : Cx} {pins : List (Addr × Obj)} {σ : St} {H : Hp} {s : Shared} {a C fI dx : Addr} {f : Str} {y : V} {u : Value} {fs : List (Str × V)} {Q : Unit → Shared → Prop} {E : Value → Shared → Prop} {A : Around}
theorem ost_first (T : OexG X.K C fI) (I : Inv X pins σ H s) (e : H a = some (exo a C none)) (hno : PySem.W.findIn X.K (.ref C) f = some none) (ry : RelV y u)
    (h : ∀ dx s', H dx = none → dx ≠ a → Inv X pins σ (upd (upd H dx (exd dx [(f, y)])) a (exo a C (some dx))) s' → Q () s') : wpAny (model X.prog X.w) A (setAttr (.ref a) f u) Q E s := by
  obtain ⟨B, newId, initId, bmB, FB, SB, nm, q, N, bs, bm, sn, sub, ab, col, dd, k0, k1, k2, k3, k5, hC, hbm⟩ := T.base
  have hcl : PySem.W.clsIn X.K C = some { name := nm, bases := bs, mro := .ref C :: bm, ns := N, qualname := q, hasDict := true, slotNames := sn, subclasses := sub, abstract := ab, collection := col, hasDel := false } := by unfold PySem.W.clsIn; rw [hC] <;> rfl
  obtain ⟨t1, ho⟩ := exo_at I.hok e
  obtain ⟨hp, g, d, t, os⟩ := s
  refine PySem.W.set_plain I.kIn (ox := { cls := .ref C, dict := none, data := .fields #[.ref t1, .none, .none, .none, .bool false, .none] }) (od := none) ⟨ho, rfl, rfl, trivial⟩ T.sa ?_
  refine PySem.LwX.osa_first SB I.kIn ho hcl (show PySem.W.excTail bmB (.ref C :: bm) = true from hbm) rfl hno (fun h' tk' dx k dn dne hx hn => ?_)
  have hnd : H dx = none := I.hok.fresh dn
  have nd : ∀ {b : Addr} {o : Obj}, hp.get? b = some o → b ≠ dx := fun {b o} q => Nat.ne_of_lt (Nat.lt_of_lt_of_le (Heap.lt_size q) dn)
  have na : ∀ {b : Addr}, H b = none → b ≠ a := fun {b} n z => by
    rw [z, e] at n
    cases n
  have Un1 : Un X.fs [] H (upd (upd H dx (exd dx [(f, y)])) a (exo a C (some dx))) hp h' := {
    keep := fun b o q n _ _ => k b o (na n) q
    slot := fun b o q n _ _ => ⟨o.slots, k b o (na n) q⟩
    free := fun b o q n _ => by rw [upd_ne (na n), upd_ne (nd q)]; exact n
    there := fun b o q _ => by
      by_cases hb : b = a
      · exact ⟨_, by rw [hb]; exact hx⟩
      · exact ⟨o, k b o hb q⟩
    tups := fun b xs q => by rw [upd_ne (at_ne e q exo_tup), upd_ne (ne_of_none q hnd)]; exact q
    frzs := fun b o v q => by rw [upd_ne (at_ne e q exo_frz), upd_ne (ne_of_none q hnd)]; exact q
    tbls := fun b ps q => ⟨#[], by rw [upd_ne (at_ne e q exo_tbl), upd_ne (ne_of_none q hnd), q]; simp⟩ }
  refine h dx _ hnd dne (I.un (t' := tk') Un1 fun b o q => ?_)
  by_cases hb : b = a
  · subst hb
    rw [upd_same] at q
    cases q
    exact exo_ok hx
  · rw [upd_ne hb] at q
    by_cases hd : b = dx
    · subst hd
      rw [upd_same] at q
      cases q
      exact exd_ok hn (relO_put (fs := []) ry fun g => True.intro)
    · rw [upd_ne hd] at q
      exact (I.hok b o q).stay (fun c v hc z => k c v (by
          rcases hc with hc | hc
          · rw [hc]
            exact hb
          · exact at_ne e hc exo_own) z)
        (fun c hc => by rw [upd_ne (at_ne e hc exo_own), upd_ne (ne_of_none hc hnd)]; exact hc) (fun c xs hc => by rw [upd_ne (at_ne e hc exo_tup), upd_ne (ne_of_none hc hnd)]; exact hc)
theorem ost_further (T : OexG X.K C fI) (I : Inv X pins σ H s) (e : H a = some (exo a C (some dx))) (ed : H dx = some (exd dx fs)) (hl : fs.length ≤ 900) (hno : PySem.W.findIn X.K (.ref C) f = some none) (ry : RelV y u)
    (h : ∀ s', Inv X pins σ (upd H dx (exd dx ((f, y) :: fs))) s' → Q () s') : wpAny (model X.prog X.w) A (setAttr (.ref a) f u) Q E s := by
  obtain ⟨B, newId, initId, bmB, FB, SB, nm, q, N, bs, bm, sn, sub, ab, col, dd, k0, k1, k2, k3, k5, hC, hbm⟩ := T.base
  have hcl : PySem.W.clsIn X.K C = some { name := nm, bases := bs, mro := .ref C :: bm, ns := N, qualname := q, hasDict := true, slotNames := sn, subclasses := sub, abstract := ab, collection := col, hasDel := false } := by unfold PySem.W.clsIn; rw [hC] <;> rfl
  obtain ⟨t1, ho⟩ := exo_at I.hok e
  obtain ⟨mA, hns, rel⟩ := exd_at I.hok ed
  have hw := within_of rel
  obtain ⟨hp, g, d, t, os⟩ := s
  obtain ⟨oD, _, _, hoD, _, _⟩ := hns.count hw
  refine PySem.W.set_plain I.kIn (ox := { cls := .ref C, dict := some dx, data := .fields #[.ref t1, .none, .none, .none, .bool false, .none] }) (od := some oD) ⟨ho, rfl, rfl, hoD⟩ T.sa ?_
  refine PySem.LwX.osa_further SB I.kIn ho hns hw (by rw [List.length_map]; omega) hcl (show PySem.W.excTail bmB (.ref C :: bm) = true from hbm) rfl hno (fun h' tk' k hn => ?_)
  have hd : ∃ o, h'.get? dx = some o := by
    obtain ⟨o, _, _, e', _⟩ := hn
    exact ⟨o, e'⟩
  exact h _ (I.write (t' := tk') (x := dx) (e := dx) (o := exd dx ((f, y) :: fs)) (by rw [ed]; exact True.intro) (.inl rfl) k hd (exd_ok hn (relO_put ry rel)))
end
/-- self.f = e -/
def tOstG (K : PySem.W.Frag) (f : Str) (to te : TE) : TS := fun D σ H => te σ H fun y H1 => to σ H1 fun x H2 => ∃ a C fI : Addr, x = .ref a ∧ OexG K C fI ∧ PySem.W.findIn K (.ref C) f = some none ∧
  ((H2 a = some (exo a C none) ∧ ∀ dx, H2 dx = none → dx ≠ a → D.nx σ (upd (upd H2 dx (exd dx [(f, y)])) a (exo a C (some dx)))) ∨
    ∃ (dx : Addr) (fs : List (Str × V)), H2 a = some (exo a C (some dx)) ∧ H2 dx = some (exd dx fs) ∧ fs.length ≤ 900 ∧ D.nx σ (upd H2 dx (exd dx ((f, y) :: fs))))
/-- C(e, ..), C(k = e, ..): a new error, its __init__ keeping sp -/
def tMkG (C fI : Addr) (K : PySem.W.Frag) (sp : Sp) (ta : TA) : TE := fun σ H Q => ta σ H fun vs H1 => vs.length ≤ 1000 ∧ ∀ a, H1 a = none → sp (.ref a :: vs) (upd H1 a (exo a C none)) (fun v H2 => v = .non ∧ Q (.ref a) H2) (fun _ _ _ => False)
def tMkGK (C fI : Addr) (n : Nat) (sp : Sp) (gV : List V → List V → List V) (tk : TA) : TE := fun σ H Q => tk σ H fun zs H1 => zs.length = n ∧ ∀ a, H1 a = none → sp (gV [.ref a] zs) (upd H1 a (exo a C none)) (fun v H2 => v = .non ∧ Q (.ref a) H2) (fun _ _ _ => False)
/-- e.f of such an error -/
def tXg (K : PySem.W.Frag) (f : Str) (te : TE) : TE := fun σ H Q => te σ H fun x H1 => ∃ (a C fI d : Addr) (fs : List (Str × V)) (v : V), x = .ref a ∧ OexG K C fI ∧ PySem.W.findIn K (.ref C) f = some none ∧ H1 a = some (exo a C (some d)) ∧ H1 d = some (exd d fs) ∧ fs.lookup f = some v ∧ Q v H1
/-- isinstance(e, c) of such an error -/
def rIsG (K : PySem.W.Frag) : List V → Hp → VK → Prop := fun xs H Q => ∃ (a C fI d : Addr) (fs : List (Str × V)) (c : V) (u : Value) (b : Bool), xs = [.ref a, c] ∧ ClsV c u ∧ OexG K C fI ∧ H a = some (exo a C (some d)) ∧ H d = some (exd d fs) ∧
  PySem.W.kitOne K (.ref C) u = some b ∧ Q (.bl b) H
section
variable {X : Cx} {o e : Expr} {es : List Expr} {to te : TE} {ta tk : TA} {f x : Str} {p p' p1 p2 pos : Pos} {CX : CXT} {C fI : Addr} {k : Nat} {fd : FuncData} {ps ks : List Str} {sp : Sp} {kws : List Keyword} {g : List Value → List Value → List Value} {gV : List V → List V → List V}
theorem ps_ostG (ho : PE X o to) (he : PE X e te) (hs : swapsWith e (some (.Attribute o f p')) pos.line X.env = pure false := by rfl) : PS X (.Assign [.Attribute o f p'] e pos) (tOstG X.K f to te) := by
  refine ⟨fun pins s σ H D I h => ?_⟩
  refine plainObj_wpAny_Assign_Attribute (thn (he.run pins s σ H _ I h) fun v s1 ⟨y, H1, I1, r1, q1⟩ => thn (ho.run pins s1 σ H1 _ I1 q1) fun u s2 ⟨x, H2, I2, r2, a, C, fI, ex, T, hno, q⟩ => ?_) hs
  subst ex
  obtain rfl : u = Value.ref a := r2
  rcases q with ⟨ea, q⟩ | ⟨dx, fs, ea, ed, hl, q⟩
  · exact ost_first T I2 ea hno r1 fun dx s' n ne J => ⟨σ, _, J, q dx n ne⟩
  · exact ost_further T I2 ea ed hl hno r1 fun s' J => ⟨σ, _, J, q⟩
theorem run_mkG {pins : List (Addr × Obj)} {σ : St} {H1 : Hp} {s1 : Shared} {Q : VK} {us : List Value} {bV : Addr → List V} {bv : Addr → List Value} {kw : List (Str × Value)} (T : OexG X.K C fI) (F1 : FnOk X.prog X.w X.K X.mg X.base CX k fI fd ps sp) (hr : Room (k + 1) X.A)
    (hx : Passes CX X (fun _ _ _ => False)) (I1 : Inv X pins σ H1 s1) (hz : us.length ≤ sizeLine)
    (hbt : ∀ (a : Addr) (s : Shared), X.K.In s.heap → BindsTo s fd ⟨.ref a :: us, kw⟩ (ps.zip (bv a))) (r3 : ∀ a, Vals (bV a) (bv a))
    (h : ∀ a, H1 a = none → sp (bV a) (upd H1 a (exo a C none)) (fun v H2 => v = .non ∧ Q (.ref a) H2) (fun _ _ _ => False)) :
    wpAny (model X.prog X.w) X.A (call (.ref C) us kw) (EP X pins σ Q) X.xe s1 := by
  obtain ⟨B, newId, initId, bmB, FB, SB, nm, q, N, bs, bm, sn, sub, ab, col, dd, k0, k1, k2, k3, k5, hC, hbm⟩ := T.base
  obtain ⟨hp, g, dr, tk, os⟩ := s1
  have hsz : hp.objs.size ≤ hp.objs.size + 1 := Nat.le_succ _
  have hn : H1 (hp.objs.size + 1) = none := I1.hok.fresh hsz
  have hq := h (hp.objs.size + 1) hn
  have kk : ∀ b o, hp.get? b = some o → ((hp.push (PySem.W.kdv_tup us)).push (PySem.HandSPX.excO C hp.objs.size)).get? b = some o := fun b o e => Heap.get?_push_of_some _ (Heap.get?_push_of_some _ e)
  have hget : ((hp.push (PySem.W.kdv_tup us)).push (PySem.HandSPX.excO C hp.objs.size)).get? (hp.objs.size + 1) = some (PySem.HandSPX.excO C hp.objs.size) := by heap_get
  have I2 : Inv X pins σ (upd H1 (hp.objs.size + 1) (exo (hp.objs.size + 1) C none)) ⟨(hp.push (PySem.W.kdv_tup us)).push (PySem.HandSPX.excO C hp.objs.size), g, dr, tk, os⟩ :=
    I1.laid (t' := tk) (a := hp.objs.size + 1) (o := exo (hp.objs.size + 1) C none) (h' := (hp.push (PySem.W.kdv_tup us)).push (PySem.HandSPX.excO C hp.objs.size)) kk hsz (exo_ok hget)
  refine wpAny_call (PySem.LwX.call_kw FB (fun Y => PySem.W.excTail_contains Y bm hbm) (I1.kIn _ _ hC) (PySem.W.looks_findIn I1.kIn T.iC) (fun self => PySem.W.bind_fn I1.kIn self T.tI) hz
    (codeAny_mono (F1.run _ X.stack _ _ ⟨Value.ref (hp.objs.size + 1) :: us, kw⟩ (bv (hp.objs.size + 1)) _ _ (fun _ _ _ => False) (hr.make C us kw) (I2.env0.make C us kw) (hbt _ _ I2.kIn) (r3 _) hq) fun r s' hq' => ?_))
  cases r with
  | error er => exact hx pins σ _ _ er s' I2 hq'
  | ok fl =>
    cases fl with
    | ret u =>
      obtain ⟨v, H', I3, rv, ev, q3⟩ := I2.after hq'
      subst ev
      exact ⟨rv, ⟨V.ref (hp.objs.size + 1), H', I3, rfl, q3⟩⟩
    | next => exact False.elim hq'
    | brk => exact False.elim hq'
    | cont => exact False.elim hq'
theorem pe_mkG (T : OexG X.K C fI) (F1 : FnOk X.prog X.w X.K X.mg X.base CX k fI fd ps sp) (hr : Room (k + 1) X.A) (hb : Binds X.K fd ps []) (hx : Passes CX X (fun _ _ _ => False)) (hg : Gl X x) (hm : X.mg x = some (.ref C)) (ha : PA X (e :: es) ta)
    (hdb : (x == ("__debug__" : Str)) = false := by decide) (he : starEach (e :: es) X.env = (false, eval e X.env) :: starEach es X.env := by rfl) (hpl : (backTo pos (starEach es X.env)).any (·.1) = false := by rfl) :
    PE X (.Call (.Name x p) (e :: es) [] pos) (tMkG C fI X.K sp ta) := by
  refine ⟨fun pins s σ H Q I h => ?_⟩
  refine wpAny_Call_Name_kw (ld_glob I hg hm ?_ hdb)
  refine PySem.W.callWith_K (h₀ := X.base) I.ok.mod.kin T.kC (thn (ha.run pos pins s σ H _ I h) fun us s1 ⟨vs, H1, I1, r1, hz, q1⟩ => ⟨I1.kIn, ?_⟩) he hpl
  show wpAny _ _ (call (.ref C) us) _ _ _
  refine run_mkG (bv := fun a => .ref a :: us) (bV := fun a => .ref a :: vs) (kw := []) T F1 hr hx I1 (by rw [← Paired.length r1, sizeLine_eq]; omega) (fun a s hk => ?_) (fun a => .cons rfl r1) q1
  have hl : (Value.ref a :: us).length = ps.length := by
    obtain ⟨b, hb0⟩ : ∃ b, H1 b = none := ⟨_, I1.hok.fresh (Nat.le_refl _)⟩
    have z := F1.len _ _ _ _ (q1 b hb0)
    rw [List.length_cons, ← Paired.length r1]
    exact z
  have z := hb s (Value.ref a :: us) hk (by rw [List.append_nil]; exact hl)
  rw [List.append_nil] at z
  exact z
theorem pe_mkGK (T : OexG X.K C fI) (F1 : FnOk X.prog X.w X.K X.mg X.base CX k fI fd ps sp) (hr : Room (k + 1) X.A) (hb : KBn X.K fd ps 1 ks g gV) (hx : Passes CX X (fun _ _ _ => False)) (hg : Gl X x) (hm : X.mg x = some (.ref C)) (hkw : PK X kws tk)
    (hall : (backToKw pos (keywordEach kws X.env)).all (·.1.isSome) = true := by rfl) (hks : (backToKw pos (keywordEach kws X.env)).filterMap (·.1) = ks := by rfl) (hdb : (x == ("__debug__" : Str)) = false := by decide)
    (hpl : ((backTo pos (starEach [] X.env)).any (·.1) || (backToKw pos (keywordEach kws X.env)).any (·.1.isNone)) = false := by rfl) :
    PE X (.Call (.Name x p) [] kws pos) (tMkGK C fI ks.length sp gV tk) := by
  refine ⟨fun pins s σ H Q I h => ?_⟩
  refine wpAny_Call_Name_kw (ld_glob I hg hm ?_ hdb)
  refine PySem.W.callWith_KW0 (h₀ := X.base) I.ok.mod.kin T.kC hall ?_ hpl
  refine thn (hkw.run pos pins s σ H _ I h) fun ws s2 ⟨zs, H2, I2, rz, l2, q2⟩ => ⟨I2.kIn, ?_⟩
  rw [hks]
  exact run_mkG (us := []) (bv := fun a => g [.ref a] ws) (bV := fun a => gV [.ref a] zs) T F1 hr hx I2 (Nat.zero_le _) (fun a s hk => hb.to s [.ref a] ws hk rfl (rz.length.symm.trans l2)) (fun a => hb.rel (.cons rfl .nil) rz) q2
theorem pe_xg (he : PE X e te) (hb : attributeBase e f X.env (eval e X.env) = eval e X.env := by rfl) : PE X (.Attribute e f pos) (tXg X.K f te) := by
  refine ⟨fun pins s σ H Q I h => ?_⟩
  refine attr_of hb (thn (he.run pins s σ H _ I h) fun u s1 hh => ?_)
  obtain ⟨x, H1, I1, rx, a, C, fI, d, fs, v, ex, T, hno, ea, ed, l, q⟩ := hh
  subst ex
  obtain rfl : u = Value.ref a := rx
  obtain ⟨t1, ho⟩ := exo_at I1.hok ea
  obtain ⟨mA, hns, hr⟩ := exd_at I1.hok ed
  obtain ⟨od, hod, hl⟩ := lookIn_ns hns
  obtain ⟨u, hu, ru⟩ := RelO.some_of (v := v) (o := mA f) (by rw [← l]; exact hr f)
  have J : PySem.W.InstAt s1.heap a { cls := .ref C, dict := some d, data := .fields #[.ref t1, .none, .none, .none, .bool false, .none] } C (some od) := ⟨ho, rfl, rfl, hod⟩
  exact HandSPX.exc_get I1.kIn J T.ga T.gg T.exC (PySem.W.findObj_own T.hdC hno rfl (by rw [hl, hu])) (handed_of ru) ⟨v, H1, I1.tok _, ru, q⟩
theorem call_isG : CallR X (.builtin "isinstance") (rIsG X.K) := by
  intro pins s σ H xs us Q I r h
  obtain ⟨a, C, fI, d, fs, c, u, b, rfl, k, T, ea, ed, e, q⟩ := h
  obtain ⟨u1, u2, rfl, r1, r2⟩ := vals2 r
  have e2 := k.eq r2
  subst e2
  cases (show u1 = Value.ref a from r1)
  obtain ⟨t1, ho⟩ := exo_at I.hok ea
  obtain ⟨mA, hns, hr⟩ := exd_at I.hok ed
  obtain ⟨od, hod, hl⟩ := lookIn_ns hns
  have J : PySem.W.InstAt s.heap a { cls := .ref C, dict := some d, data := .fields #[.ref t1, .none, .none, .none, .bool false, .none] } C (some od) := ⟨ho, rfl, rfl, hod⟩
  have hcl : (PySem.W.clsIn X.K C).isSome = true := by
    obtain ⟨cdD, hcD, _⟩ := PySem.W.any_some T.hdC
    rw [hcD]
    rfl
  exact PySem.W.kia_one (PySem.W.kitx_exc hcl T.ga T.gg T.exC T.ha T.hn T.ht T.hm) I.kIn J e (fun z => nomatch z) fun tk => ⟨.bl b, H, I.tok tk, rfl, q⟩
end
end L2

/-! E3 -/
/-! ### repr of nested data, an empty dict among it, where no repr is under way -/
namespace L2
open PySem PySem.Spec PyProof.Rows
mutual
inductive Dq (K : PySem.W.Frag) (H : Hp) : V → PyData → Prop
  | non : Dq K H .non .none
  | bl (b : Bool) : Dq K H (.bl b) (.bool b)
  | int (i : Int) : Dq K H (.int i) (.int i)
  | str (x : Str) : Dq K H (.str x) (.str x)
  | lst {a : Addr} {xs : List V} {ds : List PyData} : SqL K H a xs → DqAll K H xs ds → Dq K H (.ref a) (.list ds)
  | tup {a : Addr} {xs : List V} {ds : List PyData} : SqT K H a xs → DqAll K H xs ds → Dq K H (.ref a) (.tuple ds)
  | dic {a : Addr} : H a = some (.dK []) → Dq K H (.ref a) (.dict [])
inductive DqAll (K : PySem.W.Frag) (H : Hp) : List V → List PyData → Prop
  | nil : DqAll K H [] []
  | cons {v : V} {vs : List V} {d : PyData} {ds : List PyData} : Dq K H v d → DqAll K H vs ds → DqAll K H (v :: vs) (d :: ds)
end
section
variable {X : Cx} {pins : List (Addr × Obj)} {σ : St} {H : Hp} {s : Shared}
mutual
theorem Dq.reprs (I : Inv X pins σ H s) : ∀ (d : PyData) (v : V) (u : Value), Dq X.K H v d → RelV v u → d.showable = true → d.shown.length ≤ sizeLine →
    ∃ as bs, Reads s.heap u d as ∧ ReadAtMost s.heap d.depth bs ∧ ReprK X.prog X.w bs s.heap d.depth u d.shown
  | .none, _, _, h, r, _, _ => by
    cases h
    cases r
    exact ⟨_, [], Reads.none, (fun _ h => nomatch h), by simp only [PyData.shown]; exact .of_is ReprIs.none _ _ _⟩
  | .bool b, _, _, h, r, _, _ => by
    cases h
    cases r
    exact ⟨_, [], Reads.bool b, (fun _ h => nomatch h), by simp only [PyData.shown]; exact .of_is (ReprIs.bool b) _ _ _⟩
  | .int i, _, _, h, r, hs, _ => by
    cases h
    obtain ⟨t, rfl⟩ := r
    exact ⟨_, [], Reads.int i t, (fun _ h => nomatch h), by simp only [PyData.shown]; exact .of_is (ReprIs.int t (by simpa [PyData.showable] using hs)) _ _ _⟩
  | .str x, _, _, h, r, _, hz => by
    cases h
    obtain ⟨t, rfl⟩ := r
    exact ⟨_, [], Reads.str x t, (fun _ h => nomatch h), by simp only [PyData.shown]; exact .of_is (ReprIs.str x t (by simpa only [PyData.shown] using hz)) _ _ _⟩
  | .list ds, _, _, h, r, hs, hz => by
    cases h with
    | @lst a xs _ hq ha =>
      cases r
      obtain ⟨its, rv, ⟨o, n, ho, hc, _, hd⟩, _⟩ := I.list hq
      have hz' : (listText (PyData.shownAll ds)).length ≤ sizeLine := by simpa only [PyData.shown] using hz
      obtain ⟨as, bs, hr, hb, hk⟩ := Dq.reprsAll I ds _ its ha rv (by simpa [PyData.showable] using hs) (fun t ht => Nat.le_trans (listText_mem_le ht) hz')
      have rr : Reads s.heap (.ref a) (.list ds) _ := Reads.list ho hc hd hr
      have hna : a ∉ bs := not_mem_of_deeper rr (by simp only [PyData.depth]; omega) hb
      refine ⟨_, a :: bs, rr, ReadAtMost.cons rr (by simp only [PyData.depth]; omega) hb, ?_⟩
      simp only [PyData.depth, PyData.shown]
      cases its with
      | nil =>
        have h4' : ReadsAll s.heap [] ds _ := hr
        cases h4'
        simp only [PyData.shownAll, listText_nil]
        exact ReprK.listEmpty ho hc hd
      | cons x l => exact ReprK.list ho hc hd hna (by simpa using hk.length_eq) (fun i y e => hk.item i y (by simpa using e))
  | .tuple ds, _, _, h, r, hs, hz => by
    cases h with
    | @tup a xs _ hq ha =>
      cases r
      obtain ⟨its, rv, ⟨o, ho, hc, n, hd⟩, _⟩ := I.tuple hq
      have hz' : (tupleText (PyData.shownAll ds)).length ≤ sizeLine := by simpa only [PyData.shown] using hz
      obtain ⟨as, bs, hr, hb, hk⟩ := Dq.reprsAll I ds _ its ha rv (by simpa [PyData.showable] using hs) (fun t ht => Nat.le_trans (tupleText_mem_le ht) hz')
      have rr : Reads s.heap (.ref a) (.tuple ds) _ := Reads.tuple ho hc hd hr
      have hna : a ∉ bs := not_mem_of_deeper rr (by simp only [PyData.depth]; omega) hb
      refine ⟨_, a :: bs, rr, ReadAtMost.cons rr (by simp only [PyData.depth]; omega) hb, ?_⟩
      simp only [PyData.depth, PyData.shown]
      exact ReprK.tuple ho hc hd hna hk
  | .dict kvs, _, _, h, r, hs, hz => by
    cases h with
    | @dic a ea =>
      cases r
      obtain ⟨_, hsys, vs, kv, o, es, ep, h1, h2, h3⟩ := (show ObjOk X.prog X.w H s.heap a (.dK []) from I.hok a _ ea)
      cases kv
      have hes : es.toList = [] := List.eq_nil_of_length_eq_zero (by rw [PySem.Pairs.length h3.2.2.1]; rfl)
      have e1 : ReadsAll s.heap (es.toList.map (·.key)) (([] : List (PyData × PyData)).map (·.1)) [] := by rw [hes]; exact .nil
      have e2 : ReadsAll s.heap (es.toList.map (·.val)) (([] : List (PyData × PyData)).map (·.2)) [] := by rw [hes]; exact .nil
      have rr : Reads s.heap (.ref a) (.dict []) _ := Reads.dict h1 h2.1 h3.1 e1 e2
      refine ⟨_, [a], rr, ReadAtMost.cons rr (Nat.zero_le (PyData.dict []).depth) (fun _ h => nomatch h), ?_⟩
      simp only [PyData.depth, PyData.shown, PyData.shownKv]
      exact ReprK.dict h1 h2.1 h3.1 hsys (List.not_mem_nil) (by rw [hes]; exact .nil)
theorem Dq.reprsAll (I : Inv X pins σ H s) : ∀ (ds : List PyData) (vs : List V) (us : List Value), DqAll X.K H vs ds → Vals vs us → PyData.showableAll ds = true → (∀ t ∈ PyData.shownAll ds, t.length ≤ sizeLine) →
    ∃ as bs, ReadsAll s.heap us ds as ∧ ReadAtMost s.heap (PyData.depthAll ds) bs ∧ ReprAllK X.prog X.w bs s.heap (PyData.depthAll ds) us (PyData.shownAll ds)
  | [], _, _, h, r, _, _ => by
    cases h
    cases r
    exact ⟨_, [], ReadsAll.nil, (fun _ h => nomatch h), by simp only [PyData.shownAll]; exact .nil⟩
  | d :: ds, _, _, h, r, hs, hz => by
    cases h with
    | cons h1 h2 =>
      cases r with
      | cons r1 r2 =>
        have hs' : d.showable = true ∧ PyData.showableAll ds = true := by simpa [PyData.showableAll] using hs
        obtain ⟨as, b1, q1, hb1, k1⟩ := Dq.reprs I d _ _ h1 r1 hs'.1 (hz _ (by simp only [PyData.shownAll]; exact List.mem_cons_self ..))
        obtain ⟨bs, b2, q2, hb2, k2⟩ := Dq.reprsAll I ds _ _ h2 r2 hs'.2 (fun t ht => hz t (by simp only [PyData.shownAll]; exact List.mem_cons_of_mem _ ht))
        refine ⟨_, b1 ++ b2, ReadsAll.cons q1 q2, ?_, ?_⟩
        · intro b hm
          simp only [PyData.depthAll]
          rcases List.mem_append.mp hm with hm | hm
          · obtain ⟨d', as', r', hd'⟩ := hb1 b hm
            exact ⟨d', as', r', Nat.le_trans hd' (Nat.le_max_left _ _)⟩
          · obtain ⟨d', as', r', hd'⟩ := hb2 b hm
            exact ⟨d', as', r', Nat.le_trans hd' (Nat.le_max_right _ _)⟩
        · simp only [PyData.depthAll, PyData.shownAll]
          exact .cons ((k1.more fun b hb => List.mem_append_left _ hb).level_le (Nat.le_max_left _ _)) (k2.more_le (fun b hb => List.mem_append_right _ hb) (Nat.le_max_right _ _))
end
end
/-- repr of a list -/
def rRepr (K : PySem.W.Frag) : List V → Hp → VK → Prop := fun xs H Q => ∃ (a : Addr) (ds : List PyData), xs = [.ref a] ∧ Dq K H (.ref a) (.list ds) ∧ ds ≠ [] ∧ PyData.showableAll ds = true ∧ PyData.depthAll ds ≤ 40 ∧ (PyData.list ds).shown.length ≤ sizeLine ∧ Q (.str (PyData.list ds).shown) H
theorem call_reprL {X : Cx} (hg : X.A.guards = some []) (hu : X.A.units + 64 < cLine) : CallR X (.builtin "repr") (rRepr X.K) := by
  intro pins s σ H xs us Q I r h
  obtain ⟨a, ds, rfl, hd, hne, hs, hdep, hz, q⟩ := h
  obtain ⟨u, rfl, hu1⟩ := vals1 r
  cases (show u = Value.ref a from hu1)
  cases hd with
  | @lst _ xs _ hq ha =>
    obtain ⟨its, rv, ⟨o, n, ho, hc, _, hd⟩, _⟩ := I.list hq
    have hz' : (listText (PyData.shownAll ds)).length ≤ sizeLine := by simpa only [PyData.shown] using hz
    obtain ⟨as, bs, hr, hb, hk⟩ := Dq.reprsAll I ds _ its ha rv hs (fun t ht => Nat.le_trans (listText_mem_le ht) hz')
    have rr : Reads s.heap (.ref a) (.list ds) _ := Reads.list ho hc hd hr
    have hna : a ∉ bs := not_mem_of_deeper rr (by simp only [PyData.depth]; omega) hb
    cases its with
    | nil =>
      have h4' : ReadsAll s.heap [] ds _ := hr
      cases h4'
      exact absurd rfl hne
    | cons x l =>
      refine call_repr_slot (T := "list") (idr := "list.__repr__") (by omega) ⟨o, ho, hc⟩ F.slot_list_repr.toG ?_
      refine call_list_reprK ho hc hd hna (by simpa using hk.length_eq) (fun i y e => hk.item i y (by simpa using e)) (show X.A.in1.guards = some [] from hg) (fun b _ => Clear.nil b) (by show X.A.units + 1 + (PyData.depthAll ds + 1) < cLine; omega) (fun _ _ e => e) (fun h' u tk hk => ?_) hz'
      simp only [PyData.shown] at q
      exact ⟨_, _, rfl, ⟨.str (listText (PyData.shownAll ds)), H, I.kept hk, ⟨_, rfl⟩, q⟩⟩
end L2

/-! ### a def that is called where no repr is under way, and the law's own end -/
namespace L2
open PySem PySem.Spec PyProof.Rows
structure FnOkG (P : Program) (w : World) (K : PySem.W.Frag) (mg : Str → Option Value) (base : Heap) (CX : CXT) (k : Nat) (f : Addr) (fd : FuncData) (ps : List Str) (sp : Sp) : Prop where
  len : ∀ vs H Q E, sp vs H Q E → vs.length = ps.length
  run : ∀ (A : Around) (outer : List Env) (s : Shared) (H : Hp) (args : Args) (us : List Value) (vs : List V) (Q : VK) (E : XK), A.guards = some [] → Room k A → Env0 P w K mg base A outer s H → BindsTo s fd args (ps.zip us) → Vals vs us → sp vs H Q E →
    codeAny (model P w) A (.call (.ref f) args) (CR CX outer P w H s Q E) s
theorem fn_ofG {CX : CXT} {P : Program} {w : World} {K : PySem.W.Frag} {mg : Str → Option Value} {base : Heap} {k : Nat} {f : Addr} {name qual : Str} {params : Arguments} {body : List Stmt} {scope : Scope} {dV kV doc pm cdv ct oc : Value} {an od : Option Addr}
    {osl : Array (Option Value)} {N ps : List Str} {sp : Sp} (lk : K.lookup f = some ⟨oc, od, .func (PySem.W.fnOf name qual params body scope dV kV doc pm an cdv ct), osl⟩) (hcd : PySem.W.codeIn K cdv qual = true) (S : FnScope N ps scope)
    (len : ∀ vs H Q E, sp vs H Q E → vs.length = ps.length)
    (hbody : ∀ (A : Around) (outer : List Env) (s : Shared) (H : Hp) (vs : List V) (Q : VK) (E : XK), A.guards = some [] → Room k (A.deeper (envOfC qual scope s.heap.objs.size f cdv)) → sp vs H Q E →
      ∃ t, PSs (cxOf CX P w K mg base N qual scope f cdv A outer s H E) body t ∧ t { nx := fun _ H' => Q .non H', rt := Q } (start N vs) H) :
    FnOkG P w K mg base CX (k + 1) f (PySem.W.fnOf name qual params body scope dV kV doc pm an cdv ct) ps sp := by
  refine ⟨len, fun A outer s H args us vs Q E hgd hr e0 hb r hsp => ?_⟩
  have hl := len _ _ _ _ hsp
  have KX : K.In s.heap := e0.mod.kin.keeps fun b o e => (e0.bs b o e).1
  have lim : s.heap.NoLimit := e0.mod.nolimit.keeps fun b o e => (e0.bs b o e).1
  have hkind : ∀ y ∈ ps.zip us, scope.names.lookup y.1 = some .local ∨ (scope.names.lookup y.1 = some .cell ∧ ((cellsFrom (s.heap.objs.size + 1) scope.names []).lookup y.1).isSome = true) := fun ⟨n, v⟩ hy => by
    rcases S.par n (List.of_mem_zip hy).1 with q | q
    · exact .inl q
    · exact .inr ⟨q, PySem.W.cellsFrom_some _ _ _ (.inl q)⟩
  refine codeAny_call_function hr.depth (KX _ _ lk) rfl S.co S.gen rfl (PySem.W.codeRec_of KX hcd) (hb _ _ _ _ ?_)
  refine wpAny_newFunctionEnv_cells S.kind hkind fun env he s1 x => ?_
  subst he
  refine ⟨lim.keeps x.toInCall.keep, codeAny_func ?_⟩
  obtain ⟨t, ht, hq⟩ := hbody A outer s H vs Q E hgd (hr.deeper _) hsp
  have I : Inv (cxOf CX P w K mg base N qual scope f cdv A outer s H E) [] (start N vs) H s1 := inv_start S hr.hd e0 hl r x
  refine wpAny_mono (ht.run [] s1 (start N vs) H _ I hq) (fun fl s' hs => ?_) fun e s' hs => hs
  have fin : ∀ {σ' : St} {H' : Hp} {v : V} {u : Value}, Inv (cxOf CX P w K mg base N qual scope f cdv A outer s H E) [] σ' H' s' → RelV v u → Q v H' → CE outer P w H s Q u s' :=
    fun {σ' H' v u} J rv q => ⟨v, H', J.os, J.bare, J.base, J.hok, rv, q⟩
  cases fl with
  | ret u =>
    obtain ⟨v, σ', H', J, rv, q⟩ := hs
    exact fin J rv q
  | next =>
    obtain ⟨σ', H', J, q⟩ := hs
    exact fin (v := V.non) (u := Value.none) J rfl q
  | brk =>
    obtain ⟨_, _, _, q⟩ := hs
    exact False.elim q
  | cont =>
    obtain ⟨_, _, _, q⟩ := hs
    exact False.elim q
theorem Fun.okG {P : Program} {w : World} {K : PySem.W.Frag} {mg : Str → Option Value} {base : Heap} {x qual : Str} {st : Stmt} {f : Addr} {fd : FuncData} {N ps : List Str} {k : Nat} {sp : Sp} (F : Fun K x qual st f fd) (S : FnScope N ps (defScope st)) (len : ∀ vs H Q E, sp vs H Q E → vs.length = ps.length)
    (hbody : ∀ (cdv : Value) (A : Around) (outer : List Env) (s : Shared) (H : Hp) (vs : List V) (Q : VK) (E : XK), A.guards = some [] → Room k (A.deeper (envOfC qual (defScope st) s.heap.objs.size f cdv)) → sp vs H Q E →
      ∃ t, PSs (cxOf CX0 P w K mg base N qual (defScope st) f cdv A outer s H E).nox (defBody st) t ∧ t { nx := fun _ H' => Q .non H', rt := Q } (start N vs) H) : FnOkG P w K mg base CX0 (k + 1) f fd ps sp := by
  obtain ⟨oc, od, kV, doc, pm, an, cdv, ct, osl, rfl, lk, hcd⟩ := F.ex
  refine fn_ofG lk hcd S len fun A outer s H vs Q E hgd hr hsp => ?_
  obtain ⟨t, h, q⟩ := hbody cdv A outer s H vs Q E hgd hr hsp
  exact ⟨t, h.nox, q⟩
theorem law_callG {P : Program} {w : World} {K : PySem.W.Frag} {mg mb : Str → Option Value} {CX : CXT} {k : Nat} {fa a : Addr} {fd : FuncData} {x : Str} {sp : Sp} {s₁ : Shared} {vs : List Value} {ns : List Int}
    (KX : K.In s₁.heap) (hns : s₁.heap.Ns mainGlobals mg) (hb : s₁.heap.Ns builtinsNs mb) (hbb : ∀ x : Str, x ≠ "__name__" → mb x = bootBuiltins x) (hlim : s₁.heap.NoLimit) (hg : s₁.gens = #[])
    (ha : s₁.heap.get? a = some { cls := .type "list", data := .seq vs.toArray }) (hi : IntsAre vs ns) (hl : ns.length ≤ sizeLine) (hr : Room k callerA)
    (F : ∀ base : Heap, K.In base → base.Ns mainGlobals mg → FnOkG P w K mg base CX k fa fd [x] sp) (hbind : ∀ (s : Shared) (u : Value), BindsTo s fd ⟨[u], []⟩ [(x, u)])
    (hsp : ∀ H : Hp, Only H → SqL K H a (ns.map V.int) → sp [.ref a] H (fun v _ => v = .bl true) fun _ _ _ => False)
    (hCX : ∀ H e s', CX [] H s₁ (fun _ _ _ => False) e s' → False) :
    codeAny (model P w) callerA (.call (.ref fa) ⟨[.ref a], []⟩) (fun r s' => r = .ok (.ret (.bool true)) ∧ OldK s₁.heap s'.heap ∧ s'.os = s₁.os ∧ AllBare s'.gens) s₁ := by
  have rv := vals_ints hi
  have lenV := hi.length
  -- from an abstract heap in which nothing but the script may be tracked
  have core : ∀ H : Hp, Only H → SqL K H a (ns.map V.int) → HOk P w H s₁.heap → (∀ b, H b ≠ none → b = a) → (H a ≠ none → K.lookup a = none) →
      codeAny (model P w) callerA (.call (.ref fa) ⟨[.ref a], []⟩) (fun r s' => r = .ok (.ret (.bool true)) ∧ OldK s₁.heap s'.heap ∧ s'.os = s₁.os ∧ AllBare s'.gens) s₁ := by
    intro H hO hS hok hA hK
    have base_of : ∀ {b : Addr} {o : Obj}, s₁.heap.get? b = some o → H b = none → (hidT s₁.heap H).get? b = some o := fun e n => hidT_get e n
    have noA : ∀ {b : Addr} {o : Obj} {es : Array DictEntry} {ep : Nat}, s₁.heap.get? b = some o → o.data = .dict es ep → H b = none := fun {b o es ep} e d => by
      cases q : H b with
      | none => rfl
      | some u =>
        have e' : b = a := hA b (by rw [q]; simp)
        subst e'
        rw [ha] at e; cases e
        have d' : Data.seq vs.toArray _ = Data.dict es ep := d
        cases d'
    have nsK : ∀ {b : Addr} {m : Str → Option Value}, s₁.heap.Ns b m → (hidT s₁.heap H).Ns b m := fun {b m} ⟨o, es, ep, e, d, r⟩ => ⟨o, es, ep, base_of e (noA e d), d, r⟩
    have hKb : K.In (hidT s₁.heap H) := fun b o e => base_of (KX b o e) (by
      cases q : H b with
      | none => rfl
      | some u =>
        have e' : b = a := hA b (by rw [q]; simp)
        subst e'
        rw [hK (by rw [q]; simp)] at e; cases e)
    have hM : Mod K mg (hidT s₁.heap H) := ⟨hKb, nsK hns, ⟨mb, nsK hb, hbb⟩, let ⟨mc, h1, h2⟩ := hlim; ⟨mc, nsK h1, h2⟩⟩
    have e0 : Env0 P w K mg (hidT s₁.heap H) callerA [] s₁ H := ⟨rfl, hM, fun b o e => of_hidT e, Nat.le_of_eq (hidT_size _ _), trivial, fun b hb => absurd (show b ∈ ([] : List Addr) from hb) (by simp), hok, .of_eq hg⟩
    refine codeAny_mono ((F _ hKb (nsK hns)).run callerA [] s₁ H ⟨[.ref a], []⟩ [.ref a] [.ref a] _ _ rfl hr e0 (hbind s₁ (.ref a)) (.cons rfl .nil) (hsp H hO hS)) fun r s' h => ?_
    cases r with
    | error e => exact (hCX H e s' h).elim
    | ok fl =>
      cases fl with
      | next => exact False.elim h
      | brk => exact False.elim h
      | cont => exact False.elim h
      | ret u =>
        obtain ⟨v, H', os, bare, un, hok', r', q⟩ := h
        have q' : v = .bl true := q
        subst q'
        obtain rfl : u = Value.bool true := r'
        refine ⟨rfl, OldK.of_keep fun b o e => ?_, os, bare⟩
        cases q : H b with
        | none => exact un.keep b o e q (by intro z; exact absurd (show b ∈ ([] : List Addr) from z) (by simp)) (by simp)
        | some u =>
          rcases hO b with z | ⟨ob, xs, z⟩
          · rw [q] at z; cases z
          · have z2 := un.frzs b ob _ z
            obtain ⟨e1, _⟩ := hok b _ z
            obtain ⟨e2, _⟩ := hok' b _ z2
            rw [e] at e1; cases e1
            exact e2
  cases hk : K.lookup a with
  | some o =>
    -- the script is one of the module's own objects
    have e := KX a o hk
    rw [ha] at e
    cases e
    refine core (fun _ => none) (fun _ => .inl rfl) (.inr ⟨_, vs.toArray, _, hk, rfl, rfl, rfl, by rw [List.size_toArray, lenV]; exact hl, by simpa using rv⟩) (fun b u z => by have z' : (none : Option HO) = some u := z; cases z') (fun b z => absurd rfl z) fun z => absurd rfl z
  | none =>
    refine core (fun b => if b = a then some (.frz { cls := .type "list", data := .seq vs.toArray } (.lst (ns.map V.int))) else none) (fun b => ?_) (.inl (.inr ⟨{ cls := .type "list", data := .seq vs.toArray }, if_pos rfl⟩)) (fun b u z => ?_) (fun b z => ?_) fun _ => hk
    · by_cases hb : b = a
      · exact .inr ⟨_, _, if_pos hb⟩
      · exact .inl (if_neg hb)
    · by_cases hb : b = a
      · have z' := (if_pos hb).symm.trans z
        cases z'
        subst hb
        exact ⟨ha, by rw [List.length_map]; exact hl, vs, _, rv, ha⟩
      · have z' := (if_neg hb).symm.trans z
        cases z'
    · by_cases hb : b = a
      · exact hb
      · exact absurd (if_neg hb) z
theorem walk_ofG {l : PySem.W.OpenLaw} {n k : Nat} {q : Program} {loose : List Str} {XP : (Str → Option Value) → Heap → Prop} {YP : World → Heap → Prop} {d : DefRec} {K : Params → PySem.W.Frag} {CX : World → CXT} {sp : World → Sp} {x : Str}
    (hn : l.most = some n) (hn2 : n ≤ sizeLine) (hdf : d.params.defaults = []) (hr : Room k callerA)
    (hY : ∀ (w : World) (h : Heap), YP w h → (K w.params).In h)
    (F : ∀ (w : World) (mg : Str → Option Value) (fa : Addr) (h : Heap), (K w.params).In h → h.Ns mainGlobals mg → mg d.name = some (.ref fa) →
      ∃ fd : FuncData, (∀ (s : Shared) (u : Value), BindsTo s fd ⟨[u], []⟩ [(x, u)]) ∧
        ∀ base : Heap, (K w.params).In base → base.Ns mainGlobals mg → FnOkG l.prog w (K w.params) mg base (CX w) k fa fd [x] (sp w))
    (hsp : ∀ (w : World) (H : Hp) (a : Addr) (ns : List Int), ns.length ≤ n → Only H → SqL (K w.params) H a (ns.map V.int) → sp w [.ref a] H (fun v _ => v = .bl true) fun _ _ _ => False)
    (hCX : ∀ (w : World) (H : Hp) (s : Shared) (e : Value) (s' : Shared), CX w [] H s (fun _ _ _ => False) e s' → False) :
    PySem.W.WalkO q loose XP YP l.row.toRowW d [] (fun f vs => PySem.call f vs) := by
  refine Att.attach_call hn hdf fun w s₀ s₁ mg mb fa o pm cd doc a vs ns G Y ho hd hcd hmg hobj hints hlen hg => ?_
  have KX := hY w _ Y
  obtain ⟨fd, hb, hF⟩ := F w mg fa _ KX G.T.g hmg
  exact law_callG KX G.T.g G.T.b G.T.builtins G.T.nolimit hg hobj hints (Nat.le_trans hlen hn2) hr hF hb (fun H hO hS => hsp w H a ns hlen hO hS) fun H e s' => hCX w H s₁ e s'
end L2
/-! ### own __add__ and __radd__ -/
namespace PySem
namespace LwX
open PySem.W PySem.Calls
section
variable {prog : Program} {w : World} {A : Around} {E : Value → Shared → Prop} {s : Shared} {K : Frag} {x C f : Addr} {ox : Obj} {od : Option Obj} {T : String}
/-- x + b, b of a built-in type -/
theorem add_own {b : Value} {fo ro rc : Option Value} {Q : Value → Shared → Prop} (X : K.In s.heap) (I : InstAt s.heap x ox C od) (hb : ∀ M, Looks M s.heap (typeOf b) (.type T)) (hc : selfFirst K C = true)
    (hs : findIn K (.ref C) "__add__" = some (some (.ref f))) (hf : isFn K (.ref f) = true) (hr : findIn K (.ref C) "__radd__" = some rc) (hp : rc = none ∨ ∃ g : Addr, rc = some (.ref g))
    (h1 : findIn K (.type T) "__add__" = some fo) (h2 : findIn K (.type T) "__radd__" = some ro) (hsub : subIn K (.type T) (.ref C) = some false)
    (h : wpAny (model prog w) A (call (.ref f) [.ref x, b]) (CmpBack Q) E s) : wpAny (model prog w) A (binaryOp .Add (.ref x) b) Q E s := by
  obtain ⟨cd, rest, hcd, hm⟩ := ksp_first hc
  have one := ksp_try X I hs hf h
  obtain ⟨hh, g, d, tt, os⟩ := s
  have L1 : Looks (model prog w) hh (typeOf (.ref x)) (.ref C) := I.type
  have L2 : Looks (model prog w) hh (typeOf b) (.type T) := hb _
  have L3 : Looks (model prog w) hh (fillsNumberSlot (.ref C) "add") true := fills_K X hcd hm hs
  have L4 : Looks (model prog w) hh (fillsNumberSlot (.type T) "add") ((fo.isSome && !isSeqSlot fo) || (ro.isSome && !isSeqSlot ro)) := ksp_fillsT X h1 h2
  have L5 : Looks (model prog w) hh (isSubtype (.type T) (.ref C)) false := looks_subIn X hsub
  have L6 : Looks (model prog w) hh (numberSlotInPython (.ref C) "add") true := ksp_inPy X hs hr hp
  have L7 : Looks (model prog w) hh (numberSlotInPython (.type T) "add") false := Looks.of_pure rfl
  have L8 : Looks (model prog w) hh (typeLookup (.type T) (dunderR "add")) ro := looks_findIn X h2
  generalize ((fo.isSome && !isSeqSlot fo) || (ro.isSome && !isSeqSlot ro)) = right at L4
  have hne : (Value.ref C == Value.type T) = false := Bool.eq_false_iff.mpr fun q => by cases beq_iff_eq.mp q
  have hi : Operator.info .Add = ("+", "add") := rfl
  simp only [binaryOp, hi]
  refine wpAny_holding (wpAny_bind ?_)
  unfold binaryOp1
  refine wpAny_bind (L1.at (wpAny_bind (L2.at (wpAny_bind (L3.at ?_)))))
  simp only [hne, Bool.false_eq_true, if_false]
  cases right with
  | false =>
    ksp_lk
    refine wpAny_mono one (fun r s' hr' => ?_) fun _ _ e => e
    obtain ⟨v, rfl, hq⟩ := hr'
    ksp_lk
    exact hq
  | true =>
    ksp_lk
    refine wpAny_mono one (fun r s' hr' => ?_) fun _ _ e => e
    obtain ⟨v, rfl, hq⟩ := hr'
    ksp_lk
    exact hq
/-- x + y, both of the class at C -/
theorem add_same {y : Addr} {oy : Obj} {oyd : Option Obj} {Q : Value → Shared → Prop} (X : K.In s.heap) (I : InstAt s.heap x ox C od) (J : InstAt s.heap y oy C oyd) (hc : selfFirst K C = true)
    (hs : findIn K (.ref C) "__add__" = some (some (.ref f))) (hf : isFn K (.ref f) = true)
    (h : wpAny (model prog w) A (call (.ref f) [.ref x, .ref y]) (CmpBack Q) E s) : wpAny (model prog w) A (binaryOp .Add (.ref x) (.ref y)) Q E s := by
  obtain ⟨cd, rest, hcd, hm⟩ := ksp_first hc
  have one := ksp_try X I hs hf h
  obtain ⟨hh, g, d, tt, os⟩ := s
  have L1 : Looks (model prog w) hh (typeOf (.ref x)) (.ref C) := I.type
  have L2 : Looks (model prog w) hh (typeOf (.ref y)) (.ref C) := J.type
  have L3 : Looks (model prog w) hh (fillsNumberSlot (.ref C) "add") true := fills_K X hcd hm hs
  have hi : Operator.info .Add = ("+", "add") := rfl
  simp only [binaryOp, hi]
  refine wpAny_holding (wpAny_bind ?_)
  unfold binaryOp1
  refine wpAny_bind (L1.at (wpAny_bind (L2.at (wpAny_bind (L3.at ?_)))))
  simp only [beq_self_eq_true, if_true]
  ksp_lk
  refine wpAny_mono one (fun r s' hr' => ?_) fun _ _ e => e
  obtain ⟨v, rfl, hq⟩ := hr'
  ksp_lk
  exact hq
/-- a + x, a of a built-in type whose + is a sequence's -/
theorem radd_own {a : Value} {fa : Addr} {fo ro : Option Value} {Q : Value → Shared → Prop} (X : K.In s.heap) (I : InstAt s.heap x ox C od) (ha : ∀ M, Looks M s.heap (typeOf a) (.type T)) (hc : selfFirst K C = true)
    (hs0 : findIn K (.ref C) "__add__" = some (some (.ref fa))) (hs : findIn K (.ref C) "__radd__" = some (some (.ref f))) (hf : isFn K (.ref f) = true)
    (h1 : findIn K (.type T) "__add__" = some fo) (h2 : findIn K (.type T) "__radd__" = some ro) (hseq : ((fo.isSome && !isSeqSlot fo) || (ro.isSome && !isSeqSlot ro)) = false)
    (h : wpAny (model prog w) A (call (.ref f) [.ref x, a]) (CmpBack Q) E s) : wpAny (model prog w) A (binaryOp .Add a (.ref x)) Q E s := by
  obtain ⟨cd, rest, hcd, hm⟩ := ksp_first hc
  have one := ksp_try X I hs hf h
  obtain ⟨hh, g, d, tt, os⟩ := s
  have L1 : Looks (model prog w) hh (typeOf (.ref x)) (.ref C) := I.type
  have L2 : Looks (model prog w) hh (typeOf a) (.type T) := ha _
  have L3 : Looks (model prog w) hh (fillsNumberSlot (.ref C) "add") true := fills_K X hcd hm hs0
  have L4 : Looks (model prog w) hh (fillsNumberSlot (.type T) "add") false := by
    rw [← hseq]
    exact ksp_fillsT X h1 h2
  have hne : (Value.type T == Value.ref C) = false := Bool.eq_false_iff.mpr fun q => by cases beq_iff_eq.mp q
  have hi : Operator.info .Add = ("+", "add") := rfl
  simp only [binaryOp, hi]
  refine wpAny_holding (wpAny_bind ?_)
  unfold binaryOp1
  refine wpAny_bind (L2.at (wpAny_bind (L1.at (wpAny_bind (L4.at ?_)))))
  simp only [hne, Bool.false_eq_true, if_false]
  refine wpAny_bind (L3.at ?_)
  ksp_lk
  refine wpAny_mono one (fun r s' hr' => ?_) fun _ _ e => e
  obtain ⟨v, rfl, hq⟩ := hr'
  ksp_lk
  exact hq
end
end LwX
end PySem

/-! R2 -/
/-! ### enumerate over a tuple -/
namespace PySem
namespace LwX
open Sem (wp)
theorem meets_enumT (l : Addr) (items : Array Value) :
    Meets (Builtin.«enumerate.__new__» ⟨[.type "enumerate", .ref l], []⟩) (fun _ R s => s.heap.IsTuple l items ∧
      R (.ok (.ret (.ref (s.heap.push { cls := .type "tuple_iterator", data := .fields #[.ref l, .int 0 0] }).objs.size)))
        { s with heap := (s.heap.push { cls := .type "tuple_iterator", data := .fields #[.ref l, .int 0 0] }).push { cls := .type "enumerate", data := .fields #[.none, .bool false, .ref s.heap.objs.size, rawInt 0, .none, .none] } }) :=
  .of_wp fun prog w A R s h => by
    obtain ⟨hp, g, d, tk, os⟩ := s
    obtain ⟨hL, h⟩ := h
    have hsub := sub_enumerate
    have q1 : ∀ {A' : Around} {E : Value → Shared → Prop} {Q : Value → Shared → Prop}, Q (.ref hp.objs.size) ⟨hp.push { cls := .type "tuple_iterator", data := .fields #[.ref l, .int 0 0] }, g, d, tk, os⟩ → wpAny (model prog w) A' (pyIter (.ref l)) Q E ⟨hp, g, d, tk, os⟩ :=
      fun q => wpAny_pyIter_tuple (s := ⟨hp, g, d, tk, os⟩) hL q
    wp_walk using q1
    refine wpAny_stack_any fun st => wpAny_pure ?_
    split
    · rename_i c _ _ _ _ _
      cases (c == Value.type "enumerate") <;> (wp_walk using q1; exact ⟨_, rfl, h⟩)
    · wp_walk using q1
      exact ⟨_, rfl, h⟩
theorem call_enumT {prog : Program} {w : World} {A : Around} {E : Value → Shared → Prop} {s : Shared} {l : Addr} {items : Array Value} {Q : Value → Shared → Prop} (hL : s.heap.IsTuple l items)
    (h : ∀ h', IsEnum h' (s.heap.objs.size + 1) s.heap.objs.size 0 .none → h'.IsTupleIter s.heap.objs.size l 0 → h'.objs.size = s.heap.objs.size + 2 →
      (∀ b o, s.heap.get? b = some o → h'.get? b = some o) → Q (.ref (s.heap.objs.size + 1)) { s with heap := h' }) :
    wpAny (model prog w) A (call (.type "enumerate") [.ref l]) Q E s := by
  refine callType_new F.called_enumerate (by decide) (F.typeCall_enumerate_1 _) (F.newCall_enumerate_1 _) (fun obj => F.args_object_init_2 obj _) F.entry_enumerate_new (meets_enumT l items) ⟨hL, ?_⟩
  have hz : (s.heap.push { cls := .type "tuple_iterator", data := .fields #[.ref l, .int 0 0] }).objs.size = s.heap.objs.size + 1 := Heap.size_push ..
  show _ ∧ _
  rw [hz]
  have he : IsEnum ((s.heap.push { cls := .type "tuple_iterator", data := .fields #[.ref l, .int 0 0] }).push
      { cls := .type "enumerate", data := .fields #[.none, .bool false, .ref s.heap.objs.size, rawInt 0, .none, .none] }) (s.heap.objs.size + 1) s.heap.objs.size 0 .none := by
    have z := Heap.get?_push_size (s.heap.push { cls := .type "tuple_iterator", data := .fields #[.ref l, .int 0 0] })
      (o := { cls := .type "enumerate", data := .fields #[.none, .bool false, .ref s.heap.objs.size, rawInt 0, .none, .none] }) rfl
    rw [hz] at z
    exact z
  exact ⟨⟨_, he, rfl⟩, h _ he ⟨_, Heap.get?_push_of_some _ (Heap.get?_push_size _ rfl), rfl, rfl⟩ (by rw [Heap.size_push, hz]) fun b o x => Heap.get?_push_of_some _ (Heap.get?_push_of_some _ x)⟩
end LwX
end PySem
namespace L2
open PySem PySem.Spec PyProof.Rows
/-- the tuple at a, each item in a new pair -/
def IteT (K : PySem.W.Frag) (a : Addr) : It :=
  ⟨fun i H => ∃ (xs : List V) (x : V), SqT K H a xs ∧ xs[i]? = some x, fun i H v H' => ∃ T x, v = .ref T ∧ H T = none ∧ H' = upd H T (.tup [.int (i : Nat), x]) ∧ ∀ xs, SqT K H a xs → xs[i]? = some x, fun i H => ∃ xs : List V, SqT K H a xs ∧ xs.length = i⟩
theorem turn_enumT {P : Program} {w : World} {K : PySem.W.Frag} {elts : List Expr} {kk : Nat} {tpos : Pos} (a e it : Addr) :
    Turn P w K (.Tuple elts kk tpos) (IteT K a) [e, it] e (fun i h => (∃ old, IsEnum h e it ((i : Nat) : Int) old) ∧ h.IsTupleIter it a i ∧ e ≠ it) where
  mem := by simp
  obj := fun i h st b hb => by
    obtain ⟨⟨old, he⟩, ⟨o, ho, hc, hd⟩, _⟩ := st
    have e' : b = e ∨ b = it := by simpa using hb
    rcases e' with z | z
    · rw [z]; exact ⟨_, he, fun v q => nomatch q⟩
    · rw [z]; exact ⟨o, ho, fun v q => by rw [hd] at q; cases q⟩
  keep := fun i h h' st k => let ⟨⟨old, he⟩, hi, hne⟩ := st; ⟨⟨old, k e (by simp) _ he⟩, hi.at fun o q => k it (by simp) o q, hne⟩
  item := by
    intro X hP hw hK hc i pins s σ H E I hf st hg
    subst hP hw hK
    obtain ⟨⟨old, he⟩, hit, hne⟩ := st
    obtain ⟨xs, x, hq, hx⟩ := hg
    obtain ⟨its, rv, p, hz⟩ := I.tuple hq
    obtain ⟨u, hu, ru⟩ := rv.get hx
    have p' : s.heap.IsTuple a its.toArray := p
    have hel : e < s.heap.objs.size := Heap.lt_size he
    have hil : it < s.heap.objs.size := by obtain ⟨_, q, _⟩ := hit; exact Heap.lt_size q
    have hai : a ≠ it := by
      rintro rfl
      obtain ⟨o1, e1, c1, _⟩ := p'
      obtain ⟨o2, e2, c2, _⟩ := hit
      rw [e1] at e2
      cases e2
      rw [c1] at c2
      exact absurd (Value.type.inj c2) (by decide)
    have hae : e ∉ [it, a] := by
      intro z
      rcases List.mem_cons.mp z with z | z
      · exact hne z
      · rcases List.mem_cons.mp z with z | z
        · obtain ⟨o1, e1, c1, _⟩ := p'
          rw [← z, he] at e1
          cases e1
          exact absurd (Value.type.inj c1) (by decide)
        · cases z
    have hlt : i < its.toArray.size := by
      have z := (List.getElem?_eq_some_iff.mp hu).1
      simpa using z
    refine wpAny_pyNext_enum_itemD (Draws.tuple (A := X.A.in1) (show X.A.in1.handled = none from I.ok.hd hc) it a hai its.toArray) he ⟨hit, p'⟩ hlt hne hae fun x' h' tk hP ho hst hT hsz hk => ?_
    have ex : x' = u := by
      have z : its[i]? = some x' := by simpa using hP
      rw [hu] at z
      exact (Option.some.inj z).symm
    subst ex
    refine ⟨_, rfl, wpAny_letOwnedTupleGo_enum (s := { s with heap := h', toks := tk + 1 }) ho fun h'' he' sb => ?_⟩
    have hT2 : h''.get? s.heap.objs.size = some { cls := .type "tuple", data := .seq #[.int i tk, x'] } := (sb.2 _ (Nat.ne_of_gt hel)).trans hT
    have new : ObjOk X.prog X.w (upd H s.heap.objs.size (.tup [.int (i : Nat), x])) h'' s.heap.objs.size (.tup [.int (i : Nat), x]) :=
      ⟨by show 2 ≤ sizeLine; decide, [.int i tk, x'], .cons ⟨_, rfl⟩ (.cons ru .nil), ⟨_, hT2, rfl, _, rfl⟩⟩
    have I1 : Inv X pins σ (upd H s.heap.objs.size (.tup [.int (i : Nat), x])) { s with heap := h'', toks := tk + 1 } :=
      I.turnedNew (ch := [e, it]) (fun b ob hb q => (sb.2 b (fun z => hb (by simp [z]))).trans (hk b ob (fun z => hb (by simp [z])) (fun z => hb (by simp [z])) q)) hf (Nat.le_refl _) new
    refine ⟨.ref s.heap.objs.size, _, I1, rfl, ⟨_, x, rfl, I.hok.fresh (Nat.le_refl _), rfl, fun ys hy => by rw [I.tuple_inj hy hq]; exact hx⟩, ⟨⟨x', ?_⟩, hst.1.at fun o q => (sb.2 it (Ne.symm hne)).trans q, hne⟩, fun b hb => ?_⟩
    · have e1 : ((i + 1 : Nat) : Int) = (i : Int) + 1 := by omega
      rw [e1]; exact he'
    · have hb' : b < s.heap.objs.size := by
        have e' : b = e ∨ b = it := by simpa using hb
        rcases e' with z | z
        · rw [z]; exact hel
        · rw [z]; exact hil
      rw [upd_ne (Nat.ne_of_lt hb')]
      exact (hf b hb).1
  done := by
    intro X hP hw hK hc i pins s σ H E I hf st hg
    subst hP hw hK
    obtain ⟨⟨old, he⟩, hit, hne⟩ := st
    obtain ⟨xs, hq, hx⟩ := hg
    obtain ⟨its, rv, p, hz⟩ := I.tuple hq
    have p' : s.heap.IsTuple a its.toArray := p
    obtain ⟨f0, f1, f2, f3, f4, f5⟩ := hf it (by simp)
    have hl := rv.length
    have hai : a ≠ it := by
      rintro rfl
      obtain ⟨o1, e1, c1, _⟩ := p'
      obtain ⟨o2, e2, c2, _⟩ := hit
      rw [e1] at e2
      cases e2
      rw [c1] at c2
      exact absurd (Value.type.inj c2) (by decide)
    have en : i = its.toArray.size := by simp; omega
    rw [en] at hit
    exact wpAny_pyNext_enum_endD (Draws.tuple (A := X.A.in1) (show X.A.in1.handled = none from I.ok.hd hc) it a hai its.toArray) he ⟨hit, p'⟩ fun h' eb => ⟨rfl, I.turned (t' := s.toks) (fun b o hb q => eb b o hb q) f0 f1 f3 f4 f5⟩
  self := fun A i s Q E st h => let ⟨⟨_, he⟩, _⟩ := st; wpAny_pyIter_enum he h
def iEnumT (K : PySem.W.Frag) (ta : TA) : TI := fun σ H R => ta σ H fun vs H1 => ∃ a xs, vs = [.ref a] ∧ SqT K H1 a xs ∧ R (IteT K a) H1
theorem pi_enumT {X : Cx} {e : Expr} {ta : TA} {p pos tpos : Pos} {elts : List Expr} {kk : Nat} (hg : Gl X "enumerate") (hm : X.mg "enumerate" = none) (ha : PA X [e] ta) (hs : starEach [e] X.env = [(false, eval e X.env)] := by rfl) :
    PI X (.Tuple elts kk tpos) (.Call (.Name "enumerate" p) [e] [] pos) (iEnumT X.K ta) := by
  refine ⟨fun pins s σ H R I h => ?_⟩
  refine Call_ (ld_blt I hg hm boot_enumerate (PyProof.Rows.callWith_type1 (thn (ha.run pos pins s σ H _ I h) fun us s1 ⟨vs, H1, I1, r1, q1⟩ => ?_) hs rfl))
  obtain ⟨a, xs, ex, hq, q⟩ := q1
  subst ex
  cases r1 with
  | cons r rr =>
    cases rr
    cases r
    obtain ⟨its, rv, p', hz⟩ := I1.tuple hq
    refine PySem.LwX.call_enumT (items := its.toArray) p' fun h' he hit hsz hk => wpAny_pyIter_enum he ?_
    have I2 : Inv X pins σ H1 { s1 with heap := h' } := I1.kept (t' := s1.toks) hk
    refine ⟨s1.heap.objs.size + 1, [s1.heap.objs.size + 1, s1.heap.objs.size], _, _, H1, rfl, I2, turn_enumT a (s1.heap.objs.size + 1) s1.heap.objs.size, ⟨⟨.none, he⟩, hit, Nat.succ_ne_self _⟩, fun b hb => ?_, q⟩
    have e' : b = s1.heap.objs.size + 1 ∨ b = s1.heap.objs.size := by simpa using hb
    have hle : s1.heap.objs.size ≤ b := by
      rcases e' with z | z
      · rw [z]; exact Nat.le_add_right _ _
      · rw [z]; exact Nat.le_refl _
    exact I1.fpOk hle (I1.hok.fresh hle)
end L2

/-! R3 -/
/-! ### star calls of a class, own operators, static methods, raising, text * int -/
namespace L2
open PySem PySem.Spec PyProof.Rows StX
/-- the facts of a class with its own + from both sides -/
structure AddC (K : PySem.W.Frag) (C f g : Addr) : Prop where
  hc : PySem.W.selfFirst K C = true
  hs : PySem.W.findIn K (.ref C) "__add__" = some (some (.ref f))
  hf : PySem.W.isFn K (.ref f) = true
  hr : PySem.W.findIn K (.ref C) "__radd__" = some (some (.ref g))
  hg : PySem.W.isFn K (.ref g) = true
/-- what is asked of a built-in type beside it -/
structure AddT (K : PySem.W.Frag) (C : Addr) (T : String) : Prop where
  ex : ∃ fo ro, PySem.W.findIn K (.type T) "__add__" = some fo ∧ PySem.W.findIn K (.type T) "__radd__" = some ro
  sub : PySem.W.subIn K (.type T) (.ref C) = some false
structure RaddT (K : PySem.W.Frag) (T : String) : Prop where
  ex : ∃ fo ro, PySem.W.findIn K (.type T) "__add__" = some fo ∧ PySem.W.findIn K (.type T) "__radd__" = some ro ∧ ((fo.isSome && !isSeqSlot fo) || (ro.isSome && !isSeqSlot ro)) = false
def rAddT (K : PySem.W.Frag) (C : Addr) (sp : Sp) (E : XK) : R2 := fun x y H Q => ∃ (a dx : Addr) (fs : List (Str × V)) (T : String), x = .ref a ∧ H a = some (.ins C dx fs) ∧ TyX K H y (.type T) ∧ AddT K C T ∧ sp [.ref a, y] H (fun v H' => (∃ p, v = .ref p) ∧ Q v H') E
def rAddS (C : Addr) (sp : Sp) (E : XK) : R2 := fun x y H Q => ∃ (a b dx dy : Addr) (fs gs : List (Str × V)), x = .ref a ∧ y = .ref b ∧ H a = some (.ins C dx fs) ∧ H b = some (.ins C dy gs) ∧ sp [.ref a, .ref b] H (fun v H' => (∃ p, v = .ref p) ∧ Q v H') E
def rRaddT (K : PySem.W.Frag) (C : Addr) (sp : Sp) (E : XK) : R2 := fun x y H Q => ∃ (a dx : Addr) (fs : List (Str × V)) (T : String), y = .ref a ∧ H a = some (.ins C dx fs) ∧ TyX K H x (.type T) ∧ RaddT K T ∧ sp [.ref a, x] H (fun v H' => (∃ p, v = .ref p) ∧ Q v H') E
section
variable {X : Cx} {CX : CXT} {k : Nat} {f g C : Addr} {fd : FuncData} {ps : List Str} {sp : Sp} {E : XK} {x : Str} {e : Expr} {es : List Expr} {te : TE} {t : TA} {p sp_ pos : Pos}
theorem back_ref {pins : List (Addr × Obj)} {σ : St} {Q : VK} {u : Value} {s' : Shared} (h : EP X pins σ (fun v H' => (∃ p, v = .ref p) ∧ Q v H') u s') : PySem.W.CmpBack (fun u s' => EP X pins σ Q u s') u s' := by
  obtain ⟨v, H', I, r, ⟨p, rfl⟩, q⟩ := h
  cases (show u = Value.ref p from r)
  exact ⟨V.ref p, H', I, rfl, q⟩
theorem op_addT (A : AddC X.K C f g) (F : FnOk X.prog X.w X.K X.mg X.base CX k f fd ps sp) (hr : Room k X.A) (hb : Binds X.K fd ps []) (hx : Passes CX X E) : OpR X (binaryOp .Add) (rAddT X.K C sp E) := by
  intro pins s σ H x y v u Q I rx ry h
  obtain ⟨a, dx, fs, T, rfl, ha, ty, ⟨⟨fo, ro, h1, h2⟩, hsub⟩, q⟩ := h
  cases (show v = Value.ref a from rx)
  obtain ⟨P, Z, pz, hne⟩ := kit_of I ry ty
  obtain ⟨mA, O, _⟩ := ins_get I.hok ha
  obtain ⟨od, J, _⟩ := O.look
  refine PySem.LwX.add_own I.kIn J (fun M => Z.ty M _ I.kIn pz) A.hc A.hs A.hf A.hr (.inr ⟨_, rfl⟩) h1 h2 hsub ?_
  exact thn (run_fn (us := [.ref a, u]) (vs := [.ref a, y]) F hr hb .nil hx I (.cons rfl (.cons ry .nil)) q) fun _ _ z => back_ref z
theorem op_addS (A : AddC X.K C f g) (F : FnOk X.prog X.w X.K X.mg X.base CX k f fd ps sp) (hr : Room k X.A) (hb : Binds X.K fd ps []) (hx : Passes CX X E) : OpR X (binaryOp .Add) (rAddS C sp E) := by
  intro pins s σ H x y v u Q I rx ry h
  obtain ⟨a, b, dx, dy, fs, gs, rfl, rfl, ha, hb', q⟩ := h
  cases (show v = Value.ref a from rx)
  cases (show u = Value.ref b from ry)
  obtain ⟨mA, O, _⟩ := ins_get I.hok ha
  obtain ⟨od, J, _⟩ := O.look
  obtain ⟨mB, O2, _⟩ := ins_get I.hok hb'
  obtain ⟨od2, J2, _⟩ := O2.look
  refine PySem.LwX.add_same I.kIn J J2 A.hc A.hs A.hf ?_
  exact thn (run_fn (us := [.ref a, .ref b]) (vs := [.ref a, .ref b]) F hr hb .nil hx I (.cons rfl (.cons rfl .nil)) q) fun _ _ z => back_ref z
theorem op_raddT (A : AddC X.K C f g) (F : FnOk X.prog X.w X.K X.mg X.base CX k g fd ps sp) (hr : Room k X.A) (hb : Binds X.K fd ps []) (hx : Passes CX X E) : OpR X (binaryOp .Add) (rRaddT X.K C sp E) := by
  intro pins s σ H x y v u Q I rx ry h
  obtain ⟨a, dx, fs, T, rfl, ha, ty, ⟨fo, ro, h1, h2, h3⟩, q⟩ := h
  cases (show u = Value.ref a from ry)
  obtain ⟨P, Z, pz, hne⟩ := kit_of I rx ty
  obtain ⟨mA, O, _⟩ := ins_get I.hok ha
  obtain ⟨od, J, _⟩ := O.look
  refine PySem.LwX.radd_own I.kIn J (fun M => Z.ty M _ I.kIn pz) A.hc A.hs A.hr A.hg h1 h2 h3 ?_
  exact thn (run_fn (us := [.ref a, v]) (vs := [.ref a, x]) F hr hb .nil hx I (.cons rfl (.cons rx .nil)) q) fun _ _ z => back_ref z
/-- C(*y) -/
theorem pe_makeS1 (M : Mk X.K C f) (F : FnR X.prog X.w X.K X.mg X.base CX k f sp) (hr : Room (k + 1) X.A) (hg : Gl X x) (hm : X.mg x = some (.ref C)) (hx : Passes CX X E) (he : PE X e te) (hd : (x == ("__debug__" : Str)) = false := by decide)
    (hst : starEach [.Starred e sp_] X.env = [(true, eval e X.env)] := by rfl) :
    PE X (.Call (.Name x p) [.Starred e sp_] [] pos) (fun σ H Q => te σ H fun y H1 => ∃ a xs, y = V.ref a ∧ (SqT X.K H1 a xs ∨ SqL X.K H1 a xs) ∧ ∀ x dx, H1 x = Option.none → H1 dx = Option.none → dx ≠ x →
      sp (V.ref x :: xs) (upd (upd H1 dx (.own x)) x (.ins C dx [])) (fun v H2 => v = .non ∧ Q (.ref x) H2) E) := by
  refine ⟨fun pins s σ H Q I h => ?_⟩
  refine wpAny_Call_Name_kw (ld_glob I hg hm ?_ hd)
  refine PySem.W.callWith_S (h₀ := X.base) I.ok.mod.kin M.kp (thn (he.run pins s σ H _ I h) fun v s1 ⟨y, H1, I1, ry, a, xs, ey, hxs, q⟩ => ?_) hst
  subst ey
  obtain rfl : v = Value.ref a := ry
  exact star_any I1 hxs fun us s2 I2 rv => ⟨I2.kIn, run_makeR M F hr hx I2 rv q⟩
/-- C(e, .., *y, ..) -/
theorem pe_makeS2 (M : Mk X.K C f) (F : FnR X.prog X.w X.K X.mg X.base CX k f sp) (hr : Room (k + 1) X.A) (hg : Gl X x) (hm : X.mg x = some (.ref C)) (hx : Passes CX X E) (ha : PA X (e :: es) t) (hd : (x == ("__debug__" : Str)) = false := by decide)
    (he : starEach (e :: es) X.env = (false, eval e X.env) :: starEach es X.env := by rfl) (hst : (backTo pos (starEach es X.env)).any (·.1) = true := by rfl) : PE X (.Call (.Name x p) (e :: es) [] pos) (tMakeR C sp E t) := by
  refine ⟨fun pins s σ H Q I h => ?_⟩
  refine wpAny_Call_Name_kw (ld_glob I hg hm ?_ hd)
  refine PySem.W.callWith_S2 (h₀ := X.base) I.ok.mod.kin M.kp (thn (ha.run pos pins s σ H _ I h) fun us s1 ⟨vs, H1, I1, r, q⟩ => ⟨I1.kIn, ?_⟩) he hst
  exact run_makeR M F hr hx I1 r q
/-- C() -/
theorem pe_makeR0 (M : Mk X.K C f) (F : FnR X.prog X.w X.K X.mg X.base CX k f sp) (hr : Room (k + 1) X.A) (hg : Gl X x) (hm : X.mg x = some (.ref C)) (hx : Passes CX X E) (hd : (x == ("__debug__" : Str)) = false := by decide) : PE X (.Call (.Name x p) [] [] pos) (tMakeR C sp E tNil) := by
  refine ⟨fun pins s σ H Q I h => ?_⟩
  refine wpAny_Call_Name_kw (ld_glob I hg hm ?_ hd)
  exact PySem.W.callWith_K0 I.kIn M.kp (run_makeR (us := []) M F hr hx I .nil h)
end
/-! ### raising an own error with an __init__ of its own -/
def tMkX (C : Addr) (sp : Sp) (ta : TA) : St → Hp → XK → Prop := fun σ H Q => ta σ H fun vs H1 => vs.length ≤ 1000 ∧ ∀ a, H1 a = none → sp (.ref a :: vs) (upd H1 a (exo a C none))
  (fun v H2 => v = .non ∧ ∃ (d : Addr) (fs : List (Str × V)), H2 a = some (exo a C (some d)) ∧ H2 d = some (exd d fs) ∧ H1 d = none ∧ Q (.ref C) (some d) (upd (del H2 a) d (.xd fs))) (fun _ _ _ => False)
section
variable {X : Cx} {e : Expr} {es : List Expr} {ta : TA} {p pos : Pos}
theorem pmk_G {CX : CXT} {x : Str} {C fI : Addr} {k : Nat} {fd : FuncData} {ps : List Str} {sp : Sp} (T : OexG X.K C fI)
    (F1 : FnOk X.prog X.w X.K X.mg X.base CX k fI fd ps sp) (hr : Room (k + 1) X.A) (hb : Binds X.K fd ps []) (hx : Passes CX X (fun _ _ _ => False)) (hg : Gl X x) (hm : X.mg x = some (.ref C)) (ha : PA X (e :: es) ta)
    (hdb : (x == ("__debug__" : Str)) = false := by decide) (he : starEach (e :: es) X.env = (false, eval e X.env) :: starEach es X.env := by rfl) (hpl : (backTo pos (starEach es X.env)).any (·.1) = false := by rfl) :
    PMk X (.Call (.Name x p) (e :: es) [] pos) (tMkX C sp ta) := by
  intro pins s σ H Q I h
  obtain ⟨B, newId, initId, bmB, FB, SB, nm, q, N, bs, bm, sn, sub, ab, col, dd, k0, k1, k2, k3, k5, hC, hbm⟩ := T.base
  refine wpAny_Call_Name_kw (ld_glob I hg hm ?_ hdb)
  refine PySem.W.callWith_K (h₀ := X.base) I.ok.mod.kin T.kC (thn (ha.run pos pins s σ H _ I h) fun us s1 ⟨vs, H1, I1, r1, hz, q1⟩ => ⟨I1.kIn, ?_⟩) he hpl
  show wpAny _ _ (call (.ref C) us) _ _ _
  obtain ⟨hp, g, dr, tk, os⟩ := s1
  have hsz : hp.objs.size ≤ hp.objs.size + 1 := Nat.le_succ _
  have hn : H1 (hp.objs.size + 1) = none := I1.hok.fresh hsz
  have hq := q1 (hp.objs.size + 1) hn
  have kk : ∀ b o, hp.get? b = some o → ((hp.push (PySem.W.kdv_tup us)).push (PySem.HandSPX.excO C hp.objs.size)).get? b = some o := fun b o e => Heap.get?_push_of_some _ (Heap.get?_push_of_some _ e)
  have hget : ((hp.push (PySem.W.kdv_tup us)).push (PySem.HandSPX.excO C hp.objs.size)).get? (hp.objs.size + 1) = some (PySem.HandSPX.excO C hp.objs.size) := by heap_get
  have I2 : Inv X pins σ (upd H1 (hp.objs.size + 1) (exo (hp.objs.size + 1) C none)) ⟨(hp.push (PySem.W.kdv_tup us)).push (PySem.HandSPX.excO C hp.objs.size), g, dr, tk, os⟩ :=
    I1.laid (t' := tk) (a := hp.objs.size + 1) (o := exo (hp.objs.size + 1) C none) (h' := (hp.push (PySem.W.kdv_tup us)).push (PySem.HandSPX.excO C hp.objs.size)) kk hsz (exo_ok hget)
  have r2 : Vals (V.ref (hp.objs.size + 1) :: vs) (Value.ref (hp.objs.size + 1) :: us) := .cons rfl r1
  have hl : (Value.ref (hp.objs.size + 1) :: us).length = ps.length := by
    have z := F1.len _ _ _ _ hq
    rw [← z, r2.length]
  have hbt := hb ⟨(hp.push (PySem.W.kdv_tup us)).push (PySem.HandSPX.excO C hp.objs.size), g, dr, tk, os⟩ (Value.ref (hp.objs.size + 1) :: us) I2.kIn (by rw [List.append_nil]; exact hl)
  rw [List.append_nil] at hbt
  have hus : us.length ≤ sizeLine := by
    rw [← Paired.length r1, sizeLine_eq]
    omega
  refine wpAny_call (PySem.LwX.call_kw FB (fun Y => PySem.W.excTail_contains Y bm hbm) (I1.kIn _ _ hC) (PySem.W.looks_findIn I1.kIn T.iC) (fun self => PySem.W.bind_fn I1.kIn self T.tI) hus
    (codeAny_mono (F1.run _ X.stack _ _ ⟨Value.ref (hp.objs.size + 1) :: us, []⟩ (Value.ref (hp.objs.size + 1) :: us) _ _ (fun _ _ _ => False) (hr.make C us []) (I2.env0.make C us []) hbt r2 hq) fun r s' hq' => ?_))
  cases r with
  | error er => exact hx pins σ _ _ er s' I2 hq'
  | ok fl =>
    cases fl with
    | ret u =>
      obtain ⟨v, H2, os2, bare2, un2, hok2, rv, ev, d, fs, ea, ed, hd1, q2⟩ := hq'
      subst ev
      obtain ⟨h2, g2, d2, t2, os'⟩ := s'
      exact ⟨rv, mk_end (raises_own T.exC T.tyC) I1 hsz kk un2 hok2 os2 bare2 ea ed hd1 q2⟩
    | next => exact False.elim hq'
    | brk => exact False.elim hq'
    | cont => exact False.elim hq'
end
end L2

/-! R4 -/
/-! ### names and steps -/
namespace Rw
open PySem PySem.Spec PyProof.Rows L2
def top (i : Nat) : Stmt := PySem.Challenge.pw_takendown_k10_whole_rows.main.body.getD i (.Pass ⟨0, 0, 0, 0⟩)
theorem same_upd {H : Hp} {p : Addr} {o : HO} (h : H p = none) : Same H (upd H p o) := fun b x e => by
  rw [upd_ne (ne_of_none e h)]
  exact e
/-- for i, x in enumerate(tuple) -/
theorem for_enumT {K : PySem.W.Frag} {a : Addr} {xs : List V} {g : TG} {tb : TS} {D : Ends} {σ : L2.St} {H : Hp} (Pv : Nat → L2.St → Hp → Prop) (h0 : Pv 0 σ H) (hl : ∀ i σ H, i ≤ xs.length → Pv i σ H → SqT K H a xs)
    (hs : ∀ i x σ H T, xs[i]? = some x → Pv i σ H → H T = none → g (.ref T) σ (upd H T (.tup [.int (i : Nat), x])) fun σ2 H2 => tb { D with nx := Pv (i + 1), ct := Pv (i + 1), bk := D.nx } σ2 H2) (hd : ∀ σ H, Pv xs.length σ H → D.nx σ H) :
    ∃ W : Nat → Nat → L2.St → Hp → Prop, (∃ m, W 0 m σ H) ∧ ∀ i m σ H, W i m σ H →
      ((IteT K a).stop i H ∧ D.nx σ H) ∨ ((IteT K a).go i H ∧ ∃ N : L2.St → Hp → Prop, (∀ σ' H', N σ' H' → ∃ m', m' < m ∧ W (i + 1) m' σ' H') ∧ ∀ x H', (IteT K a).yld i H x H' → g x σ H' fun σ2 H2 => tb { D with nx := N, ct := N, bk := D.nx } σ2 H2) := by
  refine ⟨fun i m σ H => m = xs.length - i ∧ i ≤ xs.length ∧ Pv i σ H, ⟨xs.length, by simp, Nat.zero_le _, h0⟩, ?_⟩
  rintro i m σ H ⟨rfl, hi, p⟩
  have q := hl i σ H hi p
  by_cases hlt : i < xs.length
  · refine .inr ⟨⟨xs, xs[i], q, by simp [hlt]⟩, Pv (i + 1), fun σ' H' p' => ⟨xs.length - (i + 1), by omega, rfl, hlt, p'⟩, fun v H' y => ?_⟩
    obtain ⟨T, x, rfl, nT, rfl, hx⟩ := y
    exact hs i x σ H T (hx xs q) p nT
  · have e : i = xs.length := by omega
    subst e
    exact .inl ⟨⟨xs, q, rfl⟩, hd σ H p⟩
/-- [.. for c in text] -/
theorem lc_text {z : Str} {g : TG} {tt : TT} {te : TE} {vs : List Nat} {σ : L2.St} {H1 : Hp} {D : Addr} {Qd : Hp → Prop} (Pv : Nat → Hp → Prop) (h0 : Pv 0 (upd H1 D (.lst [])))
    (hs : ∀ i c H, z.cps[i]? = some c → Pv i H → g (.str ⟨#[c]⟩) (wipe σ vs) H fun σ2 H2 => wipe σ2 vs = wipe σ vs ∧ tt σ2 H2 fun b H3 =>
      if b = true then te σ2 H3 fun y H4 => ∃ acc, H4 D = some (.lst acc) ∧ acc.length < sizeLine ∧ Pv (i + 1) (upd H4 D (.lst (acc ++ [y]))) else Pv (i + 1) H3) (hd : ∀ H, Pv z.cps.size H → Qd H) :
    ∃ W : Nat → Nat → Hp → Prop, (∃ m, W 0 m (upd H1 D (.lst []))) ∧ ∀ i m H, W i m H →
      ((Its z).stop i H ∧ Qd H) ∨ ((Its z).go i H ∧ ∃ Nx : Hp → Prop, (∀ H', Nx H' → ∃ m', m' < m ∧ W (i + 1) m' H') ∧ ∀ x H', (Its z).yld i H x H' → g x (wipe σ vs) H' fun σ2 H2 => wipe σ2 vs = wipe σ vs ∧ tt σ2 H2 fun b H3 =>
        if b = true then te σ2 H3 fun y H4 => ∃ acc, H4 D = some (.lst acc) ∧ acc.length < sizeLine ∧ Nx (upd H4 D (.lst (acc ++ [y]))) else Nx H3) := by
  refine ⟨fun i m H => m = z.cps.size - i ∧ i ≤ z.cps.size ∧ Pv i H, ⟨z.cps.size, by simp, Nat.zero_le _, h0⟩, ?_⟩
  rintro i m H ⟨rfl, hi, p⟩
  by_cases hlt : i < z.cps.size
  · refine .inr ⟨hlt, Pv (i + 1), fun H' p' => ⟨z.cps.size - (i + 1), by omega, rfl, hlt, p'⟩, fun x H' y => ?_⟩
    obtain ⟨rfl, c, hc, rfl⟩ := y
    exact hs i c _ hc p
  · have e : i = z.cps.size := by omega
    subst e
    exact .inl ⟨Nat.le_refl _, hd H p⟩
/-- a sign from a to z -/
def letB (c : Nat) : Bool := if (!decide ([c] < [97])) = true then !decide ([122] < [c]) else false
def nameB (z : Str) : Bool := decide (1 ≤ z.length) && decide (z.length ≤ 8) && (z.cps.toList.map letB).all id
abbrev oddTys : List String := ["NoneType", "bool", "int", "list", "tuple", "dict"]
/-- any value, and whether it is a name -/
inductive NV (K : PySem.W.Frag) (H : Hp) : V → Bool → Prop
  | str (z : Str) : z.length ≤ 1000000 → NV K H (.str z) (nameB z)
  | other {v : V} {T : String} : TyX K H v (.type T) → T ∈ oddTys → NV K H v false
def spName (K : PySem.W.Frag) : Sp := fun vs H Q _ => ∃ (v : V) (b : Bool), vs = [v] ∧ NV K H v b ∧ ∀ H', Same H H' → Q (.bl b) H'
theorem len_codes (z : Str) : z.length = z.cps.size := rfl
section
variable {P : Program} {w : World} {K : PySem.W.Frag} {mg : Str → Option Value} {base : Heap}
abbrev sName : Stmt := top 9
theorem scName : FnScope ["value", "letter"] ["value"] (defScope sName) := ⟨rfl, rfl, rfl, by decide +kernel, rfl, by decide +kernel, by decide +kernel⟩
theorem ok_name {f : Addr} {fd : FuncData} (F : Fun K "is_name" "is_name" sName f fd) (m_isinstance : mg "isinstance" = none) (m_str : mg "str" = none) (m_len : mg "len" = none) (m_all : mg "all" = none) {tM : Tok} (mM : mg "MOST_LETTERS" = some (.int 8 tM)) :
    FnOk P w K mg base CX0 1 f fd ["value"] (spName K) := by
  refine F.ok scName (fun vs H Q E h => ?_) (fun cdv A outer s H vs Q E hr h => ?_)
  · obtain ⟨v, b, rfl, _⟩ := h
    rfl
  · obtain ⟨v, b, rfl, hv, q⟩ := h
    refine ⟨_, (pss_cons (ps_if (PW.pt (pw_or (pt_not (pt_val (pe_callB call_isi (by rfl) m_isinstance (by decide +kernel) (pa_cons (pv 0) (pa_cons (pe_bltn (v := .ty "str") (by rfl) m_str (by decide +kernel) rfl) pa_nil))))) (pw_or1 (pt_not (pt_chain op_le op_le pe_int (pe_callB call_len_str (by rfl) m_len PySem.boot_len (pa_cons (pv 0) pa_nil)) (pe_glob (v := .int 8) rfl mM ⟨_, rfl⟩))))))
       (pss_one (ps_ret pe_bl))
       pss_nil)
       (pss_one (ps_ret (pe_callB (cr_all rfl) (by rfl) m_all (by decide +kernel) (pa_cons (pe_lc (own := [("letter", 1)]) (g := gName 1) (tt := tYes) rfl scName.nd (pi_str (pv 0)) (blkOk_by (N := ["value", "letter"]) (sc := defScope sName) (by decide +kernel)) (fun _ _ _ _ _ => pg_name (i := 1) scName.nd rfl (Or.inl rfl)) (fun _ _ _ _ _ => pts_nil) (fun _ _ _ _ _ => (pe_chain op_le_str op_le_str pe_str (pv 1) pe_str))) pa_nil))))), ?_⟩
    cases hv with
    | @other _ T ty hT =>
      have kt : PySem.W.kitOne K (.type T) (.type "str") = some false := by
        simp only [oddTys, List.mem_cons, List.mem_nil_iff, or_false] at hT
        rcases hT with rfl | rfl | rfl | rfl | rfl | rfl <;> exact kit_ty (by decide +kernel)
      exact ⟨_, rfl, _, _, _, _, _, rfl, .ty _, ty, kt, _, rfl, iteT (iteT (q H (Same.refl H)))⟩
    | str z hz =>
      have kt : PySem.W.kitOne K (.type "str") (.type "str") = some true := kit_ty (by decide +kernel)
      have hz2 : z.length ≤ sizeLine := by
        rw [sizeLine_eq]
        omega
      refine ⟨_, rfl, _, _, _, _, _, rfl, .ty _, .base (.str z), kt, _, rfl, iteF ?_⟩
      refine ⟨_, rfl, z, rfl, hz2, _, _, rfl, rfl, _, rfl, ?_⟩
      refine ite2 (fun h1 => ?_) (fun h1 => ?_)
      · have h1' : (1 : Int) ≤ (z.length : Int) := of_decide_eq_true h1
        refine ⟨_, _, rfl, rfl, _, rfl, ?_⟩
        by_cases h2 : (z.length : Int) ≤ 8
        · refine iteNS h2 ?_
          refine ⟨_, rfl, z, rfl, fun D nD => lc_text (fun i H' => Same H H' ∧ H' D = some (.lst (((z.cps.toList.take i).map letB).map V.bl))) ⟨same_upd nD, upd_same⟩ ?_ ?_⟩
          · rintro i c H1 hc ⟨s1, e1⟩
            have hi : i < z.cps.size := (Array.getElem?_eq_some_iff.mp hc).1
            refine ⟨rfl, ?_⟩
            dsimp only [tYes]
            rw [if_pos rfl]
            have fin : ∀ y, y = V.bl (letB c) → ∃ acc, H1 D = some (.lst acc) ∧ acc.length < sizeLine ∧ Same H (upd H1 D (.lst (acc ++ [y]))) ∧ (upd H1 D (.lst (acc ++ [y]))) D = some (.lst (((z.cps.toList.take (i + 1)).map letB).map V.bl)) := by
              rintro y rfl
              refine ⟨_, e1, ?_, fun b o e => ?_, ?_⟩
              · rw [List.length_map, List.length_map, List.length_take, sizeLine_eq]
                have z1 : z.cps.toList.length = z.cps.size := Array.length_toList
                have z2 : z.length = z.cps.size := rfl
                omega
              · rw [upd_ne (ne_of_none e nD)]
                exact s1 b o e
              · have e3 : z.cps.toList[i]? = some c := by rw [Array.getElem?_toList]; exact hc
                rw [upd_same, List.take_add_one, e3, List.map_append, List.map_append]
                rfl
            refine ⟨_, rfl, _, _, rfl, rfl, _, rfl, ?_⟩
            by_cases h3 : (!decide ([c] < [97])) = true
            · refine (if_pos h3).mpr ?_
              refine ⟨_, _, rfl, rfl, fin _ ?_⟩
              unfold letB
              rw [if_pos h3]
              rfl
            · refine (if_neg h3).mpr ?_
              refine fin _ ?_
              unfold letB
              rw [if_neg h3]
          · rintro H1 ⟨s1, e1⟩
            have e2 : z.cps.toList.take z.cps.size = z.cps.toList := by
              rw [List.take_of_length_le]
              rw [Array.length_toList]
              exact Nat.le_refl _
            rw [e2] at e1
            refine ⟨D, _, rfl, .inl (.inl e1), ?_⟩
            have e3 : (z.cps.toList.map letB).all id = nameB z := by
              unfold nameB
              rw [decide_eq_true (show 1 ≤ z.length by omega), decide_eq_true (show z.length ≤ 8 by omega)]
              rfl
            rw [e3]
            exact q H1 s1
        · have e3 : nameB z = false := by
            unfold nameB
            rw [decide_eq_false (show ¬ z.length ≤ 8 by omega), Bool.and_false, Bool.false_and]
          have z := q H (Same.refl H)
          rw [e3] at z
          rw [decide_eq_false h2]
          exact iteT z
      · have h1' : ¬ (1 : Int) ≤ (z.length : Int) := fun e => h1 (decide_eq_true e)
        have e3 : nameB z = false := by
          unfold nameB
          rw [decide_eq_false (show ¬ 1 ≤ z.length by omega), Bool.false_and, Bool.false_and]
        have y := q H (Same.refl H)
        rw [e3] at y
        exact ⟨_, rfl, iteT y⟩
end
end Rw

/-! R5 -/
/-! ### is_step -/
namespace Rw
open PySem PySem.Spec PyProof.Rows L2
theorem tyx_tup {K : PySem.W.Frag} {H : Hp} {p : Addr} {xs : List V} (h : SqT K H p xs) : TyX K H (.ref p) (.type "tuple") := by
  rcases h with (h | ⟨o, h⟩) | ⟨o, its, n, hl, hc, r⟩
  · exact .base (.tup h)
  · exact .fTuple h
  · exact .kTuple hl hc
abbrev noTup : List String := ["NoneType", "bool", "int", "list", "str", "dict"]
/-- any value, and whether it is a step -/
inductive SV (K : PySem.W.Frag) (d : Addr) (H : Hp) : V → Option (Str × Str) → Prop
  | good {p : Addr} {w n : Str} {u : Value} : SqT K H p [.str w, .str n] → PySem.W.nsIn K d w = some (some u) → n.length ≤ 1000000 → nameB n = true → SV K d H (.ref p) (some (w, n))
  | name {p : Addr} {w : Str} {b : V} {u : Value} : SqT K H p [.str w, b] → PySem.W.nsIn K d w = some (some u) → NV K H b false → SV K d H (.ref p) none
  | word {p : Addr} {w : Str} {b : V} : SqT K H p [.str w, b] → PySem.W.nsIn K d w = some none → SV K d H (.ref p) none
  | first {p : Addr} {a b : V} {T : String} : SqT K H p [a, b] → TyX K H a (.type T) → T ∈ oddTys → SV K d H (.ref p) none
  | len {p : Addr} {xs : List V} : SqT K H p xs → xs.length ≠ 2 → SV K d H (.ref p) none
  | other {v : V} {T : String} : TyX K H v (.type T) → T ∈ noTup → SV K d H v none
def spStep (K : PySem.W.Frag) (d : Addr) : Sp := fun vs H Q _ => ∃ (v : V) (r : Option (Str × Str)), vs = [v] ∧ SV K d H v r ∧ ∀ H', Same H H' → Q (.bl r.isSome) H'
/-- a def as it is called -/
def Called (K : PySem.W.Frag) (mg : Str → Option Value) (x : Str) (ps : List Str) (f : Addr) (fd : FuncData) : Prop := mg x = some (.ref f) ∧ PySem.W.keepIn K (.ref f) = true ∧ Binds K fd ps []
section
variable {P : Program} {w : World} {K : PySem.W.Frag} {mg : Str → Option Value} {base : Heap}
abbrev sStep : Stmt := top 10
theorem scStep : FnScope ["value"] ["value"] (defScope sStep) := ⟨rfl, rfl, rfl, by decide +kernel, rfl, by decide +kernel, by decide +kernel⟩
theorem ok_step {f fN d : Addr} {fd fdN : FuncData} {es : Array DictEntry} {n : Nat} (F : Fun K "is_step" "is_step" sStep f fd) (GN : FnOk P w K mg base CX0 1 fN fdN ["value"] (spName K)) (TN : Called K mg "is_name" ["value"] fN fdN)
    (m_isinstance : mg "isinstance" = none) (m_str : mg "str" = none) (m_tuple : mg "tuple" = none) (m_len : mg "len" = none) (gK : mg "STEP_KINDS" = some (.ref d)) (DK : KDict K w d es n) :
    FnOk P w K mg base CX0 2 f fd ["value"] (spStep K d) := by
  refine F.ok scStep (fun vs H Q E h => ?_) (fun cdv A outer s H vs Q E hr h => ?_)
  · obtain ⟨v, b, rfl, _⟩ := h
    rfl
  · obtain ⟨v, r, rfl, hv, q⟩ := h
    refine ⟨_, (pss_cons (ps_if (PW.pt (pw_or (pt_not (pt_val (pe_callB call_isi (by rfl) m_isinstance (by decide +kernel) (pa_cons (pv 0) (pa_cons (pe_bltn (v := .ty "tuple") (by rfl) m_tuple (by decide +kernel) rfl) pa_nil))))) (pw_or1 (pt_cmpR op_ne (pe_callB call_len_seq (by rfl) m_len PySem.boot_len (pa_cons (pv 0) pa_nil)) pe_int (nomark _)))))
       (pss_one (ps_ret pe_bl))
       pss_nil)
       (pss_one (ps_ret (pe_and (pe_callB call_isi (by rfl) m_isinstance (by decide +kernel) (pa_cons (pe_ix ix_tup (pv 0) pe_int (fun _ _ => rfl)) (pa_cons (pe_bltn (v := .ty "str") (by rfl) m_str (by decide +kernel) rfl) pa_nil))) (pe_and (pe_cmpR (op_in_kd DK) (pe_ix ix_tup (pv 0) pe_int (fun _ _ => rfl)) (pe_glob (v := .ref d) rfl gK rfl) (by rfl)) (pe_one (pe_call GN (hr.mono (by decide)) rfl TN.1 TN.2.1 TN.2.2 .nil pass0 (pa_cons (pe_ix ix_tup (pv 0) pe_int (fun _ _ => rfl)) pa_nil)))))))), ?_⟩
    have tup : PySem.W.kitOne K (.type "tuple") (.type "tuple") = some true := kit_ty (by decide +kernel)
    have str1 : PySem.W.kitOne K (.type "str") (.type "str") = some true := kit_ty (by decide +kernel)
    cases hv with
    | @other _ T ty hT =>
      have kt : PySem.W.kitOne K (.type T) (.type "tuple") = some false := by
        simp only [noTup, List.mem_cons, List.mem_nil_iff, or_false] at hT
        rcases hT with rfl | rfl | rfl | rfl | rfl | rfl <;> exact kit_ty (by decide +kernel)
      exact ⟨_, rfl, _, _, _, _, _, rfl, .ty _, ty, kt, _, rfl, iteT (iteT (q H (Same.refl H)))⟩
    | @len p xs hs hl =>
      refine ⟨_, rfl, _, _, _, _, _, rfl, .ty _, tyx_tup hs, tup, _, rfl, iteF ?_⟩
      refine ⟨_, rfl, p, xs, rfl, .inr hs, rfl, _, rfl, ?_⟩
      have e : (!decide (V.int (xs.length : Nat) = V.int 2)) = true := by
        rw [decide_eq_false]
        · rfl
        · intro z
          have z2 := V.int.inj z
          omega
      rw [e]
      exact iteT (q H (Same.refl H))
    | @first p a b T hs ty hT =>
      have kt : PySem.W.kitOne K (.type T) (.type "str") = some false := by
        simp only [oddTys, List.mem_cons, List.mem_nil_iff, or_false] at hT
        rcases hT with rfl | rfl | rfl | rfl | rfl | rfl <;> exact kit_ty (by decide +kernel)
      refine ⟨_, rfl, _, _, _, _, _, rfl, .ty _, tyx_tup hs, tup, _, rfl, iteF ?_⟩
      refine ⟨_, rfl, p, _, rfl, .inr hs, rfl, _, rfl, iteF ?_⟩
      refine ⟨_, rfl, p, _, _, _, rfl, rfl, hs, rfl, _, _, _, _, _, rfl, .ty _, ty, kt, _, rfl, ?_⟩
      exact iteF (q H (Same.refl H))
    | @word p wd b hs hw =>
      refine ⟨_, rfl, _, _, _, _, _, rfl, .ty _, tyx_tup hs, tup, _, rfl, iteF ?_⟩
      refine ⟨_, rfl, p, _, rfl, .inr hs, rfl, _, rfl, iteF ?_⟩
      refine ⟨_, rfl, p, _, _, _, rfl, rfl, hs, rfl, _, _, _, _, _, rfl, .ty _, .base (.str _), str1, _, rfl, iteT ?_⟩
      refine ⟨_, rfl, p, _, _, _, rfl, rfl, hs, rfl, _, _, rfl, rfl, hw, _, rfl, ?_⟩
      exact iteF (q H (Same.refl H))
    | @name p wd b u hs hw hb =>
      refine ⟨_, rfl, _, _, _, _, _, rfl, .ty _, tyx_tup hs, tup, _, rfl, iteF ?_⟩
      refine ⟨_, rfl, p, _, rfl, .inr hs, rfl, _, rfl, iteF ?_⟩
      refine ⟨_, rfl, p, _, _, _, rfl, rfl, hs, rfl, _, _, _, _, _, rfl, .ty _, .base (.str _), str1, _, rfl, iteT ?_⟩
      refine ⟨_, rfl, p, _, _, _, rfl, rfl, hs, rfl, _, _, rfl, rfl, hw, _, rfl, iteT ?_⟩
      exact ⟨_, rfl, p, _, _, _, rfl, rfl, hs, rfl, _, _, rfl, hb, q⟩
    | @good p wd nm u hs hw hl hb =>
      refine ⟨_, rfl, _, _, _, _, _, rfl, .ty _, tyx_tup hs, tup, _, rfl, iteF ?_⟩
      refine ⟨_, rfl, p, _, rfl, .inr hs, rfl, _, rfl, iteF ?_⟩
      refine ⟨_, rfl, p, _, _, _, rfl, rfl, hs, rfl, _, _, _, _, _, rfl, .ty _, .base (.str _), str1, _, rfl, iteT ?_⟩
      refine ⟨_, rfl, p, _, _, _, rfl, rfl, hs, rfl, _, _, rfl, rfl, hw, _, rfl, iteT ?_⟩
      refine ⟨_, rfl, p, _, _, _, rfl, rfl, hs, rfl, _, _, rfl, .str nm hl, ?_⟩
      rw [hb]
      exact q
end
end Rw

/-! R6 -/
/-! ### what is never come to; not in a tuple of data -/
namespace L2
open PySem PySem.Spec PyProof.Rows
def tDead : TE := fun _ _ _ => False
def sDead : TS := fun _ _ _ => False
theorem pe_dead {X : Cx} {e : Expr} : PE X e tDead := ⟨fun _ _ _ _ _ _ h => False.elim h⟩
theorem ps_dead {X : Cx} {st : Stmt} : PS X st sDead := ⟨fun _ _ _ _ _ _ h => False.elim h⟩
theorem pss_dead {X : Cx} {st : List Stmt} : PSs X st sDead := ⟨fun _ _ _ _ _ _ h => False.elim h⟩
def rNotInTD (K : PySem.W.Frag) : R2 := fun x y H Q => ∃ d ds, Dp K H x d ∧ Dp K H y (.tuple ds) ∧ SeqAt.shaped d = true ∧ SeqAt.shaped (.tuple ds) = true ∧ Q (.bl (!ds.any fun z => PyData.eqv z d)) H
theorem op_notInTD {X : Cx} (hu : X.A.units + 65 < cLine) : OpR X (compareOp .NotIn) (rNotInTD X.K) := by
  intro pins s σ H x y v u Q I rx ry h
  obtain ⟨d, ds, hd, he, sd, se, q⟩ := h
  obtain ⟨as, r1⟩ := Dp.reads I d x v hd rx
  obtain ⟨bs, r2⟩ := Dp.reads I (.tuple ds) y u he ry
  exact SeqAt.notIn_tuple_reads r2 r1 (SeqAt.canLay_of_shaped se) (SeqAt.canLay_of_shaped sd) (room_in_shaped sd hu) ⟨.bl _, H, I, rfl, q⟩
theorem Room.units65 {k : Nat} {A : Around} (r : Room k A) : A.units + 65 < cLine := by have := r.un; omega
theorem Same.tupS {K : PySem.W.Frag} {H H' : Hp} {a : Addr} {xs : List V} (e : Same H H') (h : SqT K H a xs) : SqT K H' a xs := h.ext e
end L2
/-! ### steps, and the locks behind them -/
namespace Rw
open PySem PySem.Spec PyProof.Rows L2
abbrev Step := Str × Str
inductive All2 {α β : Type} (R : α → β → Prop) : List α → List β → Prop
  | nil : All2 R [] []
  | cons {a : α} {b : β} {as : List α} {bs : List β} : R a b → All2 R as bs → All2 R (a :: as) (b :: bs)
theorem All2.length {α β : Type} {R : α → β → Prop} {as : List α} {bs : List β} (h : All2 R as bs) : as.length = bs.length := by
  induction h with
  | nil => rfl
  | cons _ _ ih => exact congrArg (· + 1) ih
theorem All2.get {α β : Type} {R : α → β → Prop} {as : List α} {bs : List β} (h : All2 R as bs) : ∀ {i : Nat} {a : α}, as[i]? = some a → ∃ b, bs[i]? = some b ∧ R a b := by
  induction h with
  | nil => intro i a e; cases e
  | cons r _ ih =>
    intro i a e
    cases i with
    | zero => cases e; exact ⟨_, rfl, r⟩
    | succ i => exact ih e
theorem All2.mono {α β : Type} {R S : α → β → Prop} (f : ∀ a b, R a b → S a b) {as : List α} {bs : List β} (h : All2 R as bs) : All2 S as bs := by
  induction h with
  | nil => exact .nil
  | cons r _ ih => exact .cons (f _ _ r) ih
theorem All2.append {α β : Type} {R : α → β → Prop} {as as' : List α} {bs bs' : List β} (h : All2 R as bs) (h' : All2 R as' bs') : All2 R (as ++ as') (bs ++ bs') := by
  induction h with
  | nil => exact h'
  | cons r _ ih => exact .cons r ih
theorem All2.drop {α β : Type} {R : α → β → Prop} {as : List α} {bs : List β} (h : All2 R as bs) : ∀ n, All2 R (as.drop n) (bs.drop n) := by
  induction h with
  | nil => intro n; simp only [List.drop_nil]; exact .nil
  | cons r t ih =>
    intro n
    cases n with
    | zero => exact .cons r t
    | succ n => exact ih n
theorem All2.take {α β : Type} {R : α → β → Prop} {as : List α} {bs : List β} (h : All2 R as bs) : ∀ n, All2 R (as.take n) (bs.take n) := by
  induction h with
  | nil => intro n; simp only [List.take_nil]; exact .nil
  | cons r t ih =>
    intro n
    cases n with
    | zero => exact .nil
    | succ n => exact .cons r (ih n)
def StepAt (K : PySem.W.Frag) (H : Hp) (v : V) (s : Step) : Prop := ∃ p, v = .ref p ∧ SqT K H p [.str s.1, .str s.2]
def StepsAt (K : PySem.W.Frag) (H : Hp) : List V → List Step → Prop := All2 (StepAt K H)
def TxtT (K : PySem.W.Frag) (H : Hp) (v : V) (ns : List Str) : Prop := ∃ p, v = .ref p ∧ SqT K H p (ns.map V.str)
theorem StepAt.same {K : PySem.W.Frag} {H H' : Hp} (e : Same H H') {v : V} {s : Step} (h : StepAt K H v s) : StepAt K H' v s := let ⟨p, q, r⟩ := h; ⟨p, q, e.tupS r⟩
theorem StepsAt.same {K : PySem.W.Frag} {H H' : Hp} (e : Same H H') {vs : List V} {ss : List Step} (h : StepsAt K H vs ss) : StepsAt K H' vs ss := by
  exact h.mono fun _ _ a => a.same e
theorem TxtT.same {K : PySem.W.Frag} {H H' : Hp} (e : Same H H') {v : V} {s : List Str} (h : TxtT K H v s) : TxtT K H' v s := let ⟨p, q, r⟩ := h; ⟨p, q, e.tupS r⟩
/-- no word of a test or choose -/
def plainW (w : Str) : Prop := w ≠ "test" ∧ w ≠ "choose" ∧ w ≠ "piece"
def behind (s : Step) (h : List Str) : List Str := if s.1 = "take" then h ++ [s.2] else if s.1 = "give" then h.dropLast else h
theorem dec_str {a b : Str} : decide (V.str a = V.str b) = decide (a = b) := by
  by_cases h : a = b
  · rw [h, decide_eq_true rfl, decide_eq_true rfl]
  · rw [decide_eq_false h, decide_eq_false (fun e => h (V.str.inj e))]
theorem sIx_m1 (n d : Nat) : HT.sIx n d (some (-1)) = n - 1 := by
  show (if (-1 : Int) < 0 then ((-1 : Int) + (n : Int)).toNat else min (-1 : Int).toNat n) = n - 1
  rw [if_pos (by decide)]
  omega
theorem cut_m1 (xs : List V) : cutV xs none (some (-1)) = xs.dropLast := by
  show (xs.drop (HT.sIx xs.length 0 none)).take (HT.sIx xs.length xs.length (some (-1)) - HT.sIx xs.length 0 none) = xs.dropLast
  rw [sIx_m1]
  show (xs.drop 0).take (xs.length - 1 - 0) = _
  rw [List.drop_zero, Nat.sub_zero, List.dropLast_eq_take]
def spBr (K : PySem.W.Frag) : Sp := fun vs H Q _ => ∃ (v : V) (s : Step), vs = [v] ∧ StepAt K H v s ∧ plainW s.1 ∧ ∀ H' p, Same H H' → SqT K H' p [] → Q (.ref p) H'
def spBeh (K : PySem.W.Frag) : Sp := fun vs H Q _ => ∃ (v h : V) (s : Step) (ns : List Str), vs = [v, h] ∧ StepAt K H v s ∧ TxtT K H h ns ∧ ns.length ≤ 1000 ∧ ∀ H' u, Same H H' → TxtT K H' u (behind s ns) → Q u H'
section
variable {P : Program} {w : World} {K : PySem.W.Frag} {mg : Str → Option Value} {base : Heap}
abbrev sBr : Stmt := top 11
theorem scBr : FnScope ["item"] ["item"] (defScope sBr) := ⟨rfl, rfl, rfl, by decide +kernel, rfl, by decide +kernel, by decide +kernel⟩
theorem ok_br {f : Addr} {fd : FuncData} (F : Fun K "branches" "branches" sBr f fd) : FnOk P w K mg base CX0 1 f fd ["item"] (spBr K) := by
  refine F.ok scBr (fun vs H Q E h => ?_) (fun cdv A outer s H vs Q E hr h => ?_)
  · obtain ⟨v, s, rfl, _⟩ := h
    rfl
  · obtain ⟨v, st, rfl, ⟨p, rfl, hp⟩, ⟨n1, n2, _⟩, q⟩ := h
    refine ⟨_, (pss_cons (ps_if (pt_cmpR op_eq (pe_ix ix_tup (pv 0) pe_int (fun _ _ => rfl)) pe_str (nomark _))
       (pss_one (ps_ret (pe_slice sl_tupA (pv 0) (po_some pe_int) po_none)))
       pss_nil)
       (pss_cons (ps_if (pt_cmpR op_eq (pe_ix ix_tup (pv 0) pe_int (fun _ _ => rfl)) pe_str (nomark _))
       (pss_one (ps_ret (pe_slice sl_tupA (pv 0) (po_some pe_int) po_none)))
       pss_nil)
       (pss_one (ps_ret (pe_tup pa_nil))))), ?_⟩
    refine ⟨_, rfl, p, _, _, _, rfl, rfl, hp, rfl, rfl, _, rfl, ?_⟩
    rw [dec_str, decide_eq_false n1]
    refine iteF ?_
    refine ⟨_, rfl, p, _, _, _, rfl, rfl, hp, rfl, rfl, _, rfl, ?_⟩
    rw [dec_str, decide_eq_false n2]
    refine iteF ?_
    exact ⟨Nat.zero_le _, fun t nt => q _ t (same_upd nt) (SqT.of upd_same)⟩
abbrev sBeh : Stmt := top 14
theorem scBeh : FnScope ["item", "held"] ["item", "held"] (defScope sBeh) := ⟨rfl, rfl, rfl, by decide +kernel, rfl, by decide +kernel, by decide +kernel⟩
theorem ok_beh {f : Addr} {fd : FuncData} (F : Fun K "locks_behind" "locks_behind" sBeh f fd) : FnOk P w K mg base CX0 1 f fd ["item", "held"] (spBeh K) := by
  refine F.ok scBeh (fun vs H Q E h => ?_) (fun cdv A outer s H vs Q E hr h => ?_)
  · obtain ⟨v, h', s, ns, rfl, _⟩ := h
    rfl
  · obtain ⟨v, h', st, ns, rfl, ⟨p, rfl, hp⟩, ⟨t, rfl, ht⟩, hz, q⟩ := h
    refine ⟨_, (pss_cons (ps_if (pt_cmpR op_eq (pe_ix ix_tup (pv 0) pe_int (fun _ _ => rfl)) pe_str (nomark _))
       (pss_one (ps_ret (pe_op op_catA (pv 1) (pe_tup (pa_cons (pe_ix ix_tup (pv 0) pe_int (fun _ _ => rfl)) pa_nil)))))
       pss_nil)
       (pss_cons (ps_if (pt_cmpR op_eq (pe_ix ix_tup (pv 0) pe_int (fun _ _ => rfl)) pe_str (nomark _))
       (pss_one (ps_ret (pe_slice sl_tupA (pv 1) po_none (po_some (pe_un un_neg pe_int)))))
       pss_nil)
       (pss_one (ps_ret (pv 1))))), ?_⟩
    refine ⟨_, rfl, p, _, _, _, rfl, rfl, hp, rfl, rfl, _, rfl, ?_⟩
    rw [dec_str]
    by_cases h1 : st.1 = "take"
    · rw [decide_eq_true h1]
      refine iteT ?_
      have e : behind st ns = ns ++ [st.2] := if_pos h1
      rw [e] at q
      refine ⟨_, rfl, _, rfl, p, _, _, _, rfl, rfl, hp, rfl, by show 1 ≤ sizeLine; decide, fun y ny => ?_⟩
      have s1 := same_upd (o := HO.tup [V.str st.2]) ny
      have hy : SqT K (upd H y (.tup [V.str st.2])) y [V.str st.2] := SqT.of upd_same
      refine ⟨t, y, _, _, rfl, rfl, s1.tupS ht, hy, ?_, fun en => ?_, fun _ z => absurd z (List.cons_ne_nil _ _), fun _ _ u nu => ?_⟩
      · rw [List.length_map, sizeLine_eq]
        show ns.length + 1 ≤ _
        omega
      · have en2 : ns = [] := List.map_eq_nil_iff.mp en
        rw [en2] at q
        exact q _ _ s1 ⟨y, rfl, hy⟩
      · refine q _ _ (s1.trans (same_upd nu)) ⟨u, rfl, SqT.of ?_⟩
        rw [upd_same, List.map_append]
        rfl
    · rw [decide_eq_false h1]
      refine iteF ?_
      refine ⟨_, rfl, p, _, _, _, rfl, rfl, hp, rfl, rfl, _, rfl, ?_⟩
      rw [dec_str]
      by_cases h2 : st.1 = "give"
      · rw [decide_eq_true h2]
        refine iteT ?_
        have e : behind st ns = ns.dropLast := by
          unfold behind
          rw [if_neg h1, if_pos h2]
        rw [e] at q
        refine ⟨_, rfl, _, rfl, _, rfl, ?_⟩
        refine ⟨t, _, rfl, ht, fun c => ?_, fun c u nu => ?_⟩
        · have e1 : HT.sIx (ns.map V.str).length (ns.map V.str).length (some (-1)) = ns.length - 1 := by rw [List.length_map]; exact sIx_m1 _ _
          have c2 := c.2
          rw [e1, List.length_map] at c2
          have e2 : ns = [] := List.eq_nil_of_length_eq_zero (by omega)
          rw [e2] at q ht
          exact q H _ (Same.refl H) ⟨t, rfl, ht⟩
        · refine q _ _ (same_upd nu) ⟨u, rfl, SqT.of ?_⟩
          rw [upd_same, cut_m1, List.map_dropLast]
      · rw [decide_eq_false h2]
        refine iteF ?_
        have e : behind st ns = ns := by
          unfold behind
          rw [if_neg h1, if_neg h2]
        rw [e] at q
        exact ⟨_, rfl, q H _ (Same.refl H) ⟨t, rfl, ht⟩⟩
end
end Rw

/-! R7 -/
/-! ### the locks along the steps -/
namespace Rw
open PySem PySem.Spec PyProof.Rows L2
def after (ss : List Step) (h : List Str) : List Str := ss.foldl (fun h s => behind s h) h
def helds : List Step → List Str → List (List Str)
  | [], _ => []
  | s :: ss, h => h :: helds ss (behind s h)
theorem after_snoc (ss : List Step) (s : Step) (h : List Str) : after (ss ++ [s]) h = behind s (after ss h) := by
  unfold after
  rw [List.foldl_append]
  rfl
theorem helds_snoc : ∀ (ss : List Step) (s : Step) (h : List Str), helds (ss ++ [s]) h = helds ss h ++ [after ss h]
  | [], _, _ => rfl
  | x :: ss, s, h => by
    show h :: helds (ss ++ [s]) (behind x h) = h :: (helds ss (behind x h) ++ [after ss (behind x h)])
    rw [helds_snoc ss s]
theorem behind_len (s : Step) (h : List Str) : (behind s h).length ≤ h.length + 1 := by
  unfold behind
  split
  · rw [List.length_append]; exact Nat.le_refl _
  · split
    · rw [List.length_dropLast]; omega
    · omega
theorem after_len : ∀ (ss : List Step) (h : List Str), (after ss h).length ≤ h.length + ss.length
  | [], _ => Nat.le_refl _
  | s :: ss, h => by
    have h1 := after_len ss (behind s h)
    have h2 := behind_len s h
    show (after ss (behind s h)).length ≤ h.length + (ss.length + 1)
    omega
theorem sqT_updL {K : PySem.W.Frag} {H : Hp} {o a : Addr} {ys xs : List V} {u : HO} (ho : H o = some (.lst ys)) (h : SqT K H a xs) : SqT K (upd H o u) a xs := by
  rcases h with (h | ⟨ob, h⟩) | h
  · exact .inl (.inl (by rw [upd_ne (fun e => by rw [e, ho] at h; cases h)]; exact h))
  · exact .inl (.inr ⟨ob, by rw [upd_ne (fun e => by rw [e, ho] at h; cases h)]; exact h⟩)
  · exact .inr h
theorem TxtT.updL {K : PySem.W.Frag} {H : Hp} {o : Addr} {ys : List V} {v : V} {ns : List Str} {u : HO} (ho : H o = some (.lst ys)) (h : TxtT K H v ns) : TxtT K (upd H o u) v ns := let ⟨p, e, q⟩ := h; ⟨p, e, sqT_updL ho q⟩
theorem same_updN {H H' : Hp} {o : Addr} {u : HO} (no : H o = none) (s : Same H H') : Same H (upd H' o u) := fun b z e => by
  rw [upd_ne (ne_of_none e no)]
  exact s b z e
theorem take_snoc {α : Type} {xs : List α} {i : Nat} {x : α} (h : xs[i]? = some x) : xs.take (i + 1) = xs.take i ++ [x] := by
  rw [List.take_add_one, h]
  rfl
def spHeld (K : PySem.W.Frag) : Sp := fun vs H Q _ => ∃ (a : Addr) (hv : V) (xs : List V) (ss : List Step) (h0 : List Str), vs = [.ref a, hv] ∧ SqT K H a xs ∧ StepsAt K H xs ss ∧ (∀ s ∈ ss, plainW s.1) ∧ TxtT K H hv h0 ∧ h0.length + ss.length ≤ 900 ∧
  ∀ H' p ys, Same H H' → H p = none → H' p = some (.lst ys) → All2 (TxtT K H') ys (helds ss h0) → Q (.ref p) H'
section
variable {P : Program} {w : World} {K : PySem.W.Frag} {mg : Str → Option Value} {base : Heap}
abbrev sHeld : Stmt := top 15
theorem scHeld : FnScope ["items", "around", "found", "held", "item", "inner"] ["items", "around"] (defScope sHeld) := ⟨rfl, rfl, rfl, by decide +kernel, rfl, by decide +kernel, by decide +kernel⟩
theorem ok_held {f fB fL : Addr} {fd fdB fdL : FuncData} (F : Fun K "held_along" "held_along" sHeld f fd) (GB : FnOk P w K mg base CX0 1 fB fdB ["item"] (spBr K)) (TB : Called K mg "branches" ["item"] fB fdB)
    (GL : FnOk P w K mg base CX0 1 fL fdL ["item", "held"] (spBeh K)) (TL : Called K mg "locks_behind" ["item", "held"] fL fdL) : FnOk P w K mg base CX0 2 f fd ["items", "around"] (spHeld K) := by
  refine F.ok scHeld (fun vs H Q E h => ?_) (fun cdv A outer s H vs Q E hr h => ?_)
  · obtain ⟨a, hv, xs, ss, h0, rfl, _⟩ := h
    rfl
  · obtain ⟨a, hv, xs, ss, h0, rfl, hx, hss, hp, hh, hz, q⟩ := h
    refine ⟨_, (pss_cons (ps_set (i := 2) scHeld.nd rfl (.inl rfl) (pe_lst pa_nil))
       (pss_cons (ps_set (i := 3) scHeld.nd rfl (.inl rfl) (pv 1))
       (pss_cons (ps_for PassesOwn.never rfl (pi_tup (pv 0)) (pg_name (i := 4) scHeld.nd rfl (.inl rfl))
       (pss_cons (ps_expr (pe_bm PySem.F.plainAttrs_list PySem.F.slot_list_append PySem.F.type_list_append mt_append (pv 2) (pa_cons (pv 3) pa_nil)))
       (pss_cons (ps_for PassesOwn.never rfl (pi_tup (pe_call GB (hr.mono (by decide)) rfl TB.1 TB.2.1 TB.2.2 .nil pass0 (pa_cons (pv 4) pa_nil))) (pg_name (i := 5) scHeld.nd rfl (.inl rfl))
       (pss_one ps_dead))
       (pss_one (ps_set (i := 3) scHeld.nd rfl (.inl rfl) (pe_call GL (hr.mono (by decide)) rfl TL.1 TL.2.1 TL.2.2 .nil pass0 (pa_cons (pv 4) (pa_cons (pv 3) pa_nil))))))))
       (pss_one (ps_ret (pv 2)))))), ?_⟩
    refine ⟨Nat.zero_le _, fun o no => ?_⟩
    have s1 : Same H (upd H o (.lst [])) := same_upd no
    have len := hss.length
    refine ⟨_, rfl, _, rfl, a, rfl, ⟨_, s1.tupS hx⟩, for_tup (xs := xs)
      (fun i σ H' => ∃ (ys : List V) (u : V) (v4 v5 : Option V), σ = [some (.ref a), some hv, some (.ref o), some u, v4, v5] ∧ Same H H' ∧ H' o = some (.lst ys) ∧ All2 (TxtT K H') ys (helds (ss.take i) h0) ∧ TxtT K H' u (after (ss.take i) h0))
      ⟨[], hv, none, none, rfl, s1, upd_same, .nil, hh.same s1⟩ ?_ ?_ ?_⟩
    · rintro i σ H' hi ⟨ys, u, v4, v5, rfl, sm, _⟩
      exact sm.tupS hx
    · rintro i x σ H' hxi ⟨ys, u, v4, v5, rfl, sm, ho, hy, hu⟩
      obtain ⟨st, hst, sa⟩ := hss.get hxi
      have pw := hp st (List.mem_of_getElem? hst)
      have hi : i < ss.length := (List.getElem?_eq_some_iff.mp hst).1
      have yl : ys.length = i := by
        rw [hy.length]
        have z : ∀ (ss : List Step) (h : List Str), (helds ss h).length = ss.length := by
          intro ss
          induction ss with
          | nil => intro h; rfl
          | cons s ss ih => intro h; exact congrArg (· + 1) (ih _)
        rw [z, List.length_take]
        omega
      -- found.append(held)
      refine ⟨_, rfl, .inl ⟨rfl, _, SqL.of ho⟩, _, rfl, o, _, _, rfl, rfl, ho, small1000 (by omega), ?_⟩
      have s2 : Same H (upd H' o (.lst (ys ++ [u]))) := same_updN no sm
      -- branches(item)
      refine ⟨_, rfl, _, _, rfl, sa.same s2, pw, fun H3 p3 s3 e3 => ?_⟩
      refine ⟨p3, rfl, ⟨_, e3⟩, for_tup (xs := []) (fun _ σ H' => σ = [some (.ref a), some hv, some (.ref o), some u, some x, v5] ∧ H' = H3) ⟨rfl, rfl⟩ ?_ ?_ ?_⟩
      · rintro _ _ _ _ ⟨_, rfl⟩
        exact e3
      · rintro _ _ _ _ h
        cases h
      · rintro _ _ ⟨rfl, rfl⟩
        have al := after_len (ss.take i) h0
        rw [List.length_take] at al
        refine ⟨_, rfl, _, rfl, _, _, st, _, rfl, sa.same (s2.trans s3), (hu.updL ho).same s3, by omega, fun H4 u4 s4 hu4 => ?_⟩
        refine ⟨ys ++ [u], u4, some x, v5, rfl, (s2.trans s3).trans s4, s4 _ _ (s3 _ _ upd_same), ?_, ?_⟩
        · rw [take_snoc hst, helds_snoc]
          exact ((hy.mono fun _ _ t => t.updL ho).append (.cons (hu.updL ho) .nil)).mono fun _ _ t => (t.same s3).same s4
        · rw [take_snoc hst, after_snoc]
          exact hu4
    · rintro σ H' ⟨ys, u, v4, v5, rfl, sm, ho, hy, hu⟩
      rw [len, List.take_length] at hy
      exact ⟨_, rfl, q H' o ys sm no ho hy⟩
end
end Rw

/-! R8 -/
/-! ### which step takes or gives wrongly -/
namespace Rw
open PySem PySem.Spec PyProof.Rows L2
def txtD (ns : List Str) : PyData := .tuple (ns.map PyData.str)
def stepD (s : Step) : PyData := .tuple [.str s.1, .str s.2]
theorem eqvAll_txt : ∀ as bs : List Str, PyData.eqvAll (as.map PyData.str) (bs.map PyData.str) = decide (as = bs)
  | [], [] => rfl
  | [], b :: bs => by rw [decide_eq_false (by simp)]; rfl
  | a :: as, [] => by rw [decide_eq_false (by simp)]; rfl
  | a :: as, b :: bs => by
    show (a == b && PyData.eqvAll (as.map PyData.str) (bs.map PyData.str)) = _
    rw [eqvAll_txt as bs]
    by_cases h : a = b
    · subst h
      rw [beq_self_eq_true, Bool.true_and]
      by_cases h2 : as = bs
      · subst h2
        rw [decide_eq_true rfl, decide_eq_true rfl]
      · rw [decide_eq_false h2, decide_eq_false (fun e => h2 (List.cons.inj e).2)]
    · rw [beq_eq_false_iff_ne.mpr h, Bool.false_and, decide_eq_false (fun e => h (List.cons.inj e).1)]
theorem eqv_txt (as bs : List Str) : PyData.eqv (txtD as) (txtD bs) = decide (as = bs) := by
  unfold txtD
  rw [show PyData.eqv (.tuple (as.map PyData.str)) (.tuple (bs.map PyData.str)) = PyData.eqvAll (as.map PyData.str) (bs.map PyData.str) by simp only [PyData.eqv]]
  exact eqvAll_txt as bs
theorem stepD_txt (s : Step) : stepD s = txtD [s.1, s.2] := rfl
theorem eqv_step (s t : Step) : PyData.eqv (stepD s) (stepD t) = decide (s = t) := by
  rw [stepD_txt, stepD_txt, eqv_txt]
  by_cases h : s = t
  · subst h
    rw [decide_eq_true rfl, decide_eq_true rfl]
  · rw [decide_eq_false h, decide_eq_false]
    intro e
    have e1 := (List.cons.inj e).1
    have e2 := (List.cons.inj (List.cons.inj e).2).1
    exact h (Prod.ext e1 e2)
theorem any_step (ss : List Step) (t : Step) : (ss.map stepD).any (fun z => PyData.eqv z (stepD t)) = decide (t ∈ ss) := by
  induction ss with
  | nil => rw [decide_eq_false (by simp)]; rfl
  | cons s ss ih =>
    rw [List.map_cons, List.any_cons, ih, eqv_step]
    by_cases h : s = t
    · subst h
      rw [decide_eq_true rfl, decide_eq_true List.mem_cons_self, Bool.true_or]
    · rw [decide_eq_false h, Bool.false_or]
      by_cases h2 : t ∈ ss
      · rw [decide_eq_true h2, decide_eq_true (List.mem_cons_of_mem _ h2)]
      · rw [decide_eq_false h2, decide_eq_false]
        intro e
        rcases List.mem_cons.mp e with e | e
        · exact h e.symm
        · exact h2 e
abbrev sOk (n : Str) : Prop := PyData.strOk n = true
theorem txt_lay : ∀ ns : List Str, (∀ n ∈ ns, sOk n) → PyData.canLayAll0 (ns.map PyData.str) = true ∧ PyData.depthAll (ns.map PyData.str) = 0
  | [], _ => ⟨rfl, rfl⟩
  | n :: ns, h => by
    obtain ⟨a, b⟩ := txt_lay ns (fun x hx => h x (List.mem_cons_of_mem _ hx))
    refine ⟨?_, ?_⟩
    · show (PyData.canLay0 (.str n) && PyData.canLayAll0 (ns.map PyData.str)) = true
      rw [a, Bool.and_true]
      have e : PyData.canLay0 (.str n) = PyData.strOk n := by simp only [PyData.canLay0]
      rw [e]
      exact h n List.mem_cons_self
    · show max (PyData.depth (.str n)) (PyData.depthAll (ns.map PyData.str)) = 0
      have e : PyData.depth (.str n) = 0 := by simp only [PyData.depth]
      rw [b, e]
      rfl
theorem shaped_of {d : PyData} (h1 : d.canLay0 = true) (h2 : d.depth ≤ 64) : SeqAt.shaped d = true := by
  show (d.canLay0 && decide (d.depth ≤ 64)) = true
  rw [h1, decide_eq_true h2]
  rfl
theorem txtD_lay {ns : List Str} (h : ∀ n ∈ ns, sOk n) : (txtD ns).canLay0 = true ∧ (txtD ns).depth = 1 := by
  obtain ⟨a, b⟩ := txt_lay ns h
  unfold txtD
  simp only [PyData.canLay0, PyData.depth]
  rw [a, b]
  exact ⟨rfl, rfl⟩
theorem txtD_shaped {ns : List Str} (h : ∀ n ∈ ns, sOk n) : SeqAt.shaped (txtD ns) = true := by
  obtain ⟨a, b⟩ := txtD_lay h
  exact shaped_of a (by omega)
/-- a step that a row may have, by its signs -/
structure GoodS (s : Step) : Prop where
  pl : plainW s.1
  ok1 : sOk s.1
  ok2 : sOk s.2
theorem GoodS.all {s : Step} (h : GoodS s) : ∀ n ∈ [s.1, s.2], sOk n := by
  intro n hn
  rcases List.mem_cons.mp hn with rfl | hn
  · exact h.ok1
  · rcases List.mem_cons.mp hn with rfl | hn
    · exact h.ok2
    · cases hn
theorem stepsD_lay : ∀ ss : List Step, (∀ s ∈ ss, GoodS s) → PyData.canLayAll0 (ss.map stepD) = true ∧ PyData.depthAll (ss.map stepD) ≤ 1
  | [], _ => ⟨rfl, Nat.zero_le _⟩
  | s :: ss, h => by
    obtain ⟨a, b⟩ := stepsD_lay ss (fun x hx => h x (List.mem_cons_of_mem _ hx))
    obtain ⟨c, d⟩ := txtD_lay (h s List.mem_cons_self).all
    refine ⟨?_, ?_⟩
    · show (PyData.canLay0 (stepD s) && PyData.canLayAll0 (ss.map stepD)) = true
      rw [a, Bool.and_true]
      exact c
    · show max (PyData.depth (stepD s)) (PyData.depthAll (ss.map stepD)) ≤ 1
      have e : PyData.depth (stepD s) = 1 := d
      omega
theorem stepsD_shaped {ss : List Step} (h : ∀ s ∈ ss, GoodS s) : SeqAt.shaped (.tuple (ss.map stepD)) = true := by
  obtain ⟨a, b⟩ := stepsD_lay ss h
  refine shaped_of (by simp only [PyData.canLay0]; exact a) ?_
  simp only [PyData.depth]
  omega
theorem dp_txts {K : PySem.W.Frag} {H : Hp} : ∀ ns : List Str, DpAll K H (ns.map V.str) (ns.map PyData.str)
  | [] => .nil
  | n :: ns => .cons (.str n) (dp_txts ns)
theorem TxtT.dp {K : PySem.W.Frag} {H : Hp} {v : V} {ns : List Str} (h : TxtT K H v ns) : Dp K H v (txtD ns) := by
  obtain ⟨p, rfl, q⟩ := h
  exact .tup q (dp_txts ns)
theorem StepAt.dp {K : PySem.W.Frag} {H : Hp} {v : V} {s : Step} (h : StepAt K H v s) : Dp K H v (stepD s) := by
  obtain ⟨p, rfl, q⟩ := h
  exact .tup q (dp_txts [s.1, s.2])
theorem StepsAt.dp {K : PySem.W.Frag} {H : Hp} {xs : List V} {ss : List Step} (h : StepsAt K H xs ss) : DpAll K H xs (ss.map stepD) := by
  unfold StepsAt at h
  induction h with
  | nil => exact .nil
  | cons a _ ih => exact .cons a.dp ih
theorem inV_txt (n : Str) : ∀ ns : List Str, inV (.str n) (ns.map V.str) = decide (n ∈ ns)
  | [] => by rw [decide_eq_false (by simp)]; rfl
  | m :: ns => by
    have e : inV (.str n) ((m :: ns).map V.str) = ((m == n) || inV (.str n) (ns.map V.str)) := rfl
    rw [e, inV_txt n ns]
    by_cases h : m = n
    · subst h
      rw [beq_self_eq_true, Bool.true_or, decide_eq_true List.mem_cons_self]
    · rw [beq_eq_false_iff_ne.mpr h, Bool.false_or]
      by_cases h2 : n ∈ ns
      · rw [decide_eq_true h2, decide_eq_true (List.mem_cons_of_mem _ h2)]
      · rw [decide_eq_false h2, decide_eq_false]
        intro z
        rcases List.mem_cons.mp z with z | z
        · exact h z.symm
        · exact h2 z
theorem flat_txt : ∀ ns : List Str, (ns.map V.str).all flatV = true
  | [] => rfl
  | n :: ns => by
    show (flatV (.str n) && (ns.map V.str).all flatV) = true
    rw [flat_txt ns]
    rfl
/-- a + b of tuples of texts -/
theorem cat_txt {K : PySem.W.Frag} {H : Hp} {u v : V} {as bs : List Str} {Q : VK} (ha : TxtT K H u as) (hb : TxtT K H v bs) (hl : as.length + bs.length ≤ 1000) (q : ∀ H' u, Same H H' → TxtT K H' u (as ++ bs) → Q u H') : rCatA K u v H Q := by
  obtain ⟨a, rfl, ha⟩ := ha
  obtain ⟨b, rfl, hb⟩ := hb
  refine ⟨a, b, _, _, rfl, rfl, ha, hb, ?_, fun e => ?_, fun _ e => ?_, fun _ _ p np => ?_⟩
  · rw [List.length_map, List.length_map, sizeLine_eq]
    omega
  · have e2 : as = [] := List.map_eq_nil_iff.mp e
    subst e2
    exact q H _ (Same.refl H) ⟨b, rfl, hb⟩
  · have e2 : bs = [] := List.map_eq_nil_iff.mp e
    subst e2
    rw [List.append_nil] at q
    exact q H _ (Same.refl H) ⟨a, rfl, ha⟩
  · refine q _ _ (same_upd np) ⟨p, rfl, SqT.of ?_⟩
    rw [upd_same, List.map_append]
/-- t[-1:] of a tuple of texts -/
theorem last_txt {K : PySem.W.Frag} {H : Hp} {u : V} {ns : List Str} {Q : VK} (h : TxtT K H u ns) (q : ∀ H' u, Same H H' → TxtT K H' u (ns.drop (ns.length - 1)) → Q u H') : rSlA K u (some (-1)) none H Q := by
  obtain ⟨a, rfl, h⟩ := h
  have e1 : HT.sIx (ns.map V.str).length 0 (some (-1)) = ns.length - 1 := by rw [List.length_map]; exact sIx_m1 _ _
  refine ⟨a, _, rfl, h, fun c => ?_, fun c u nu => ?_⟩
  · have c1 := c.1
    rw [e1] at c1
    rw [c1, List.drop_zero] at q
    exact q H _ (Same.refl H) ⟨a, rfl, h⟩
  · refine q _ _ (same_upd nu) ⟨u, rfl, SqT.of ?_⟩
    rw [upd_same]
    have e2 : cutV (ns.map V.str) (some (-1)) none = (ns.drop (ns.length - 1)).map V.str := by
      show ((ns.map V.str).drop (HT.sIx (ns.map V.str).length 0 (some (-1)))).take (HT.sIx (ns.map V.str).length (ns.map V.str).length none - HT.sIx (ns.map V.str).length 0 (some (-1))) = _
      rw [e1, List.map_drop]
      show ((ns.map V.str).drop (ns.length - 1)).take ((ns.map V.str).length - (ns.length - 1)) = _
      rw [List.take_of_length_le]
      rw [List.length_drop]
      exact Nat.le_refl _
    rw [e2]
def wrongS (s : Step) (later : List Step) (around taken : List Str) : Bool :=
  if s.1 = "give" then !decide (taken.drop (taken.length - 1) = [s.2]) else if s.1 = "take" then (if s.2 ∈ around ++ taken then true else !decide ((("give" : Str), s.2) ∈ later)) else false
def spWrong (K : PySem.W.Frag) : Sp := fun vs H Q _ => ∃ (v l ar tk : V) (s : Step) (xs : List V) (p : Addr) (later : List Step) (around taken : List Str), vs = [v, l, ar, tk] ∧ StepAt K H v s ∧ l = .ref p ∧ SqT K H p xs ∧ StepsAt K H xs later ∧ TxtT K H ar around ∧ TxtT K H tk taken ∧
  GoodS s ∧ (∀ s ∈ later, GoodS s) ∧ (∀ n ∈ taken, sOk n) ∧ around.length + taken.length ≤ 1000 ∧ ∀ H', Same H H' → Q (.bl (wrongS s later around taken)) H'
theorem give_plain : plainW "give" := by refine ⟨?_, ?_, ?_⟩ <;> decide +kernel
theorem give_sok : sOk "give" := by decide +kernel
theorem give_good {n : Str} (h : sOk n) : GoodS (("give" : Str), n) := ⟨give_plain, give_sok, h⟩
section
variable {P : Program} {w : World} {K : PySem.W.Frag} {mg : Str → Option Value} {base : Heap}
abbrev sWr : Stmt := top 13
theorem scWr : FnScope ["item", "later", "around", "taken"] ["item", "later", "around", "taken"] (defScope sWr) := ⟨rfl, rfl, rfl, by decide +kernel, rfl, by decide +kernel, by decide +kernel⟩
theorem ok_wr {f : Addr} {fd : FuncData} (F : Fun K "is_wrong" "is_wrong" sWr f fd) : FnOk P w K mg base CX0 1 f fd ["item", "later", "around", "taken"] (spWrong K) := by
  refine F.ok scWr (fun vs H Q E h => ?_) (fun cdv A outer s H vs Q E hr h => ?_)
  · obtain ⟨v, l, ar, tk, s, xs, p, later, around, taken, rfl, _⟩ := h
    rfl
  · obtain ⟨v, l, ar, tk, st, xs, pl, later, around, taken, rfl, ⟨p, rfl, hp⟩, rfl, hl, hls, har, htk, gs, gl, gt, hz, q⟩ := h
    refine ⟨_, (pss_cons (ps_if (pt_cmpR op_eq (pe_ix ix_tup (pv 0) pe_int (fun _ _ => rfl)) pe_str (nomark _))
       (pss_one (ps_ret (pe_cmpR (op_neD hr.units) (pe_slice sl_tupA (pv 3) (po_some (pe_un un_neg pe_int)) po_none) (pe_tup (pa_cons (pe_ix ix_tup (pv 0) pe_int (fun _ _ => rfl)) pa_nil)) (nomark _))))
       pss_nil)
       (pss_cons (ps_if (pt_cmpR op_eq (pe_ix ix_tup (pv 0) pe_int (fun _ _ => rfl)) pe_str (nomark _))
       (pss_one (ps_ret (pe_or (pe_cmpR op_in_seq (pe_ix ix_tup (pv 0) pe_int (fun _ _ => rfl)) (pe_op op_catA (pv 2) (pv 3)) (by rfl)) (pe_one (pe_cmpR (op_notInTD hr.units65) (pe_tup (pa_cons pe_str (pa_cons (pe_ix ix_tup (pv 0) pe_int (fun _ _ => rfl)) pa_nil))) (pv 1) (by rfl))))))
       pss_nil)
       (pss_one (ps_ret (pe_and (pe_cmpR op_eq (pe_ix ix_tup (pv 0) pe_int (fun _ _ => rfl)) pe_str (nomark _)) (pe_one (pe_cmpR op_in_seq (pe_ix ix_tup (pv 0) pe_int (fun _ _ => rfl)) (pe_op op_catA (pv 2) (pv 3)) (by rfl)))))))), ?_⟩
    refine ⟨_, rfl, p, _, _, _, rfl, rfl, hp, rfl, rfl, _, rfl, ?_⟩
    rw [dec_str]
    unfold wrongS at q
    by_cases h1 : st.1 = "give"
    · rw [decide_eq_true h1]
      rw [if_pos h1] at q
      refine iteT ?_
      refine ⟨_, rfl, _, rfl, _, rfl, ?_⟩
      dsimp only [tNoPart]
      refine last_txt htk fun H1 u s1 hu => ?_
      refine ⟨_, rfl, p, _, _, _, rfl, rfl, s1.tupS hp, rfl, by show 1 ≤ sizeLine; decide, fun y ny => ?_⟩
      have s2 := same_upd (o := HO.tup [V.str st.2]) ny
      have hy : TxtT K (upd H1 y (.tup [V.str st.2])) (.ref y) [st.2] := ⟨y, rfl, SqT.of upd_same⟩
      refine ⟨_, _, (hu.same s2).dp, hy.dp, txtD_shaped fun n hn => gt n (List.mem_of_mem_drop hn), txtD_shaped fun n hn => ?_, ?_⟩
      · rcases List.mem_cons.mp hn with rfl | hn
        · exact gs.ok2
        · cases hn
      · rw [eqv_txt]
        exact q _ (s1.trans s2)
    · rw [decide_eq_false h1]
      rw [if_neg h1] at q
      refine iteF ?_
      refine ⟨_, rfl, p, _, _, _, rfl, rfl, hp, rfl, rfl, _, rfl, ?_⟩
      rw [dec_str]
      by_cases h2 : st.1 = "take"
      · rw [decide_eq_true h2]
        rw [if_pos h2] at q
        refine iteT ?_
        refine ⟨_, rfl, p, _, _, _, rfl, rfl, hp, rfl, _, rfl, _, rfl, cat_txt har htk hz fun H1 u s1 hu => ?_⟩
        obtain ⟨pu, rfl, hu⟩ := hu
        refine ⟨pu, _, rfl, .inr hu, rfl, flat_txt _, _, rfl, ?_⟩
        show if inV (.str st.2) ((around ++ taken).map V.str) = true then _ else _
        rw [inV_txt]
        by_cases h3 : st.2 ∈ around ++ taken
        · rw [decide_eq_true h3]
          rw [if_pos h3] at q
          exact iteT (q _ s1)
        · rw [decide_eq_false h3]
          rw [if_neg h3] at q
          refine iteF ?_
          refine ⟨_, rfl, p, _, _, _, rfl, rfl, s1.tupS hp, rfl, by show 2 ≤ sizeLine; decide, fun y ny => ?_⟩
          have s2 := same_upd (o := HO.tup [V.str "give", V.str st.2]) ny
          have hy : StepAt K (upd H1 y (.tup [V.str "give", V.str st.2])) (.ref y) (("give" : Str), st.2) := ⟨y, rfl, SqT.of upd_same⟩
          refine ⟨_, rfl, stepD (("give" : Str), st.2), later.map stepD, hy.dp, .tup ((s1.trans s2).tupS hl) (hls.same (s1.trans s2)).dp, txtD_shaped (give_good gs.ok2).all, stepsD_shaped gl, ?_⟩
          rw [any_step]
          exact q _ (s1.trans s2)
      · rw [decide_eq_false h2]
        rw [if_neg h2] at q
        refine iteF ?_
        refine ⟨_, rfl, p, _, _, _, rfl, rfl, hp, rfl, rfl, _, rfl, ?_⟩
        rw [dec_str, decide_eq_false gs.pl.2.2]
        exact iteF (q H (Same.refl H))
end
end Rw

/-! R9 -/
/-! ### the steps that take or give wrongly -/
namespace Rw
open PySem PySem.Spec PyProof.Rows L2
def wrongs : List Step → List Str → List Str → List Bool
  | [], _, _ => []
  | s :: ss, t, ar => wrongS s ss ar t :: wrongs ss (behind s t) ar
theorem wrongs_len : ∀ (ss : List Step) (t ar : List Str), (wrongs ss t ar).length = ss.length
  | [], _, _ => rfl
  | s :: ss, t, ar => congrArg (· + 1) (wrongs_len ss _ ar)
theorem wrongs_get : ∀ (ss : List Step) (t ar : List Str) (i : Nat) (s : Step), ss[i]? = some s → (wrongs ss t ar)[i]? = some (wrongS s (ss.drop (i + 1)) ar (after (ss.take i) t))
  | [], _, _, _, _, h => by cases h
  | x :: ss, t, ar, 0, s, h => by cases h; rfl
  | x :: ss, t, ar, i + 1, s, h => wrongs_get ss (behind x t) ar i s h
theorem behind_ok {s : Step} {t : List Str} (h : ∀ n ∈ t, sOk n) (hs : sOk s.2) : ∀ n ∈ behind s t, sOk n := by
  intro n hn
  unfold behind at hn
  split at hn
  · rcases List.mem_append.mp hn with hn | hn
    · exact h n hn
    · rcases List.mem_cons.mp hn with rfl | hn
      · exact hs
      · cases hn
  · split at hn
    · exact h n (List.dropLast_subset _ hn)
    · exact h n hn
theorem after_ok : ∀ (ss : List Step) (t : List Str), (∀ n ∈ t, sOk n) → (∀ s ∈ ss, sOk s.2) → ∀ n ∈ after ss t, sOk n
  | [], t, h, _ => h
  | s :: ss, t, h, hs => after_ok ss (behind s t) (behind_ok h (hs s List.mem_cons_self)) (fun x hx => hs x (List.mem_cons_of_mem _ hx))
/-- t[i + 1:] -/
theorem tail_tup {K : PySem.W.Frag} {H : Hp} {p : Addr} {xs : List V} {i : Nat} {Q : VK} (h : SqT K H p xs) (hi : i < xs.length) (q : ∀ H' u, Same H H' → SqT K H' u (xs.drop (i + 1)) → Q (.ref u) H') : rSlA K (.ref p) (some ((i : Int) + 1)) none H Q := by
  have e1 : HT.sIx xs.length 0 (some ((i : Int) + 1)) = i + 1 := by
    have z := HT.sIx_nat xs.length 0 (i + 1)
    rw [show (((i + 1 : Nat) : Int)) = (i : Int) + 1 by omega] at z
    rw [z]
    omega
  refine ⟨p, _, rfl, h, fun c => ?_, fun c u nu => ?_⟩
  · have c1 := c.1
    rw [e1] at c1
    omega
  · refine q _ _ (same_upd nu) (SqT.of ?_)
    rw [upd_same]
    have e2 : cutV xs (some ((i : Int) + 1)) none = xs.drop (i + 1) := by
      show (xs.drop (HT.sIx xs.length 0 (some ((i : Int) + 1)))).take (HT.sIx xs.length xs.length none - HT.sIx xs.length 0 (some ((i : Int) + 1))) = _
      rw [e1]
      show (xs.drop (i + 1)).take (xs.length - (i + 1)) = _
      rw [List.take_of_length_le]
      rw [List.length_drop]
      exact Nat.le_refl _
    rw [e2]
def spWL (K : PySem.W.Frag) : Sp := fun vs H Q _ => ∃ (a : Addr) (ar : V) (xs : List V) (ss : List Step) (around : List Str), vs = [.ref a, ar] ∧ SqT K H a xs ∧ StepsAt K H xs ss ∧ (∀ s ∈ ss, GoodS s) ∧ TxtT K H ar around ∧ around.length + ss.length ≤ 900 ∧
  ∀ H' p, Same H H' → H p = none → H' p = some (.lst ((wrongs ss [] around).map V.bl)) → Q (.ref p) H'
section
variable {P : Program} {w : World} {K : PySem.W.Frag} {mg : Str → Option Value} {base : Heap}
abbrev sWL : Stmt := top 12
theorem scWL : FnScope ["items", "around", "found", "taken", "at", "item", "inner"] ["items", "around"] (defScope sWL) := ⟨rfl, rfl, rfl, by decide +kernel, rfl, by decide +kernel, by decide +kernel⟩
theorem ok_wl {f fB fL fW : Addr} {fd fdB fdL fdW : FuncData} (F : Fun K "wrong_locks" "wrong_locks" sWL f fd) (GB : FnOk P w K mg base CX0 1 fB fdB ["item"] (spBr K)) (TB : Called K mg "branches" ["item"] fB fdB)
    (GL : FnOk P w K mg base CX0 1 fL fdL ["item", "held"] (spBeh K)) (TL : Called K mg "locks_behind" ["item", "held"] fL fdL) (GW : FnOk P w K mg base CX0 1 fW fdW ["item", "later", "around", "taken"] (spWrong K)) (TW : Called K mg "is_wrong" ["item", "later", "around", "taken"] fW fdW)
    (m_enumerate : mg "enumerate" = none) : FnOk P w K mg base CX0 2 f fd ["items", "around"] (spWL K) := by
  refine F.ok scWL (fun vs H Q E h => ?_) (fun cdv A outer s H vs Q E hr h => ?_)
  · obtain ⟨a, ar, xs, ss, around, rfl, _⟩ := h
    rfl
  · obtain ⟨a, ar, xs, ss, around, rfl, hx, hss, hg, har, hz, q⟩ := h
    refine ⟨_, (pss_cons (ps_set (i := 2) scWL.nd rfl (.inl rfl) (pe_lst pa_nil))
       (pss_cons (ps_set (i := 3) scWL.nd rfl (.inl rfl) (pe_tup pa_nil))
       (pss_cons (ps_for PassesOwn.never rfl (pi_enumT rfl m_enumerate (pa_cons (pv 0) pa_nil)) (pg_tup rfl (pgs_cons (pg_name (i := 4) scWL.nd rfl (.inl rfl)) (pgs_cons (pg_name (i := 5) scWL.nd rfl (.inl rfl)) pgs_nil)))
       (pss_cons (ps_expr (pe_bm PySem.F.plainAttrs_list PySem.F.slot_list_append PySem.F.type_list_append mt_append (pv 2) (pa_cons (pe_call GW (hr.mono (by decide)) rfl TW.1 TW.2.1 TW.2.2 .nil pass0 (pa_cons (pv 5) (pa_cons (pe_slice sl_tupA (pv 0) (po_some (pe_op op_add (pv 4) pe_int)) po_none) (pa_cons (pv 1) (pa_cons (pv 3) pa_nil))))) pa_nil)))
       (pss_cons (ps_set (i := 3) scWL.nd rfl (.inl rfl) (pe_call GL (hr.mono (by decide)) rfl TL.1 TL.2.1 TL.2.2 .nil pass0 (pa_cons (pv 5) (pa_cons (pv 3) pa_nil))))
       (pss_one (ps_for PassesOwn.never rfl (pi_tup (pe_call GB (hr.mono (by decide)) rfl TB.1 TB.2.1 TB.2.2 .nil pass0 (pa_cons (pv 5) pa_nil))) (pg_name (i := 6) scWL.nd rfl (.inl rfl))
       (pss_one ps_dead))))))
       (pss_one (ps_ret (pv 2)))))), ?_⟩
    refine ⟨Nat.zero_le _, fun o no => ?_⟩
    have s1 : Same H (upd H o (.lst [])) := same_upd no
    have len := hss.length
    refine ⟨Nat.zero_le _, fun t0 nt0 => ?_⟩
    have s2 := same_upd (o := HO.tup []) nt0
    refine ⟨_, rfl, a, _, rfl, (s1.trans s2).tupS hx, for_enumT (K := K) (a := a) (xs := xs)
      (fun i σ H' => ∃ (u : V) (v4 v5 v6 : Option V), σ = [some (.ref a), some ar, some (.ref o), some u, v4, v5, v6] ∧ Same H H' ∧ H' o = some (.lst (((wrongs ss [] around).take i).map V.bl)) ∧ TxtT K H' u (after (ss.take i) []))
      ⟨.ref t0, none, none, none, rfl, s1.trans s2, s2 _ _ upd_same, ⟨t0, rfl, SqT.of upd_same⟩⟩ ?_ ?_ ?_⟩
    · rintro i σ H' hi ⟨u, v4, v5, v6, rfl, sm, _⟩
      exact sm.tupS hx
    · rintro i x σ H1 T1 hxi ⟨u, v4, v5, v6, rfl, sm, ho, hu⟩ nT
      obtain ⟨st, hst, sa⟩ := hss.get hxi
      have gs := hg st (List.mem_of_getElem? hst)
      have hi : i < ss.length := (List.getElem?_eq_some_iff.mp hst).1
      have u0 := same_upd (o := .tup [.int (i : Nat), x]) nT
      have al := after_len (ss.take i) []
      rw [List.length_take, List.length_nil] at al
      refine ⟨T1, _, rfl, SqT.of upd_same, rfl, _, _, rfl, _, _, rfl, rfl, ?_⟩
      have sm0 := sm.trans u0
      -- is_wrong(item, items[at + 1:], around, taken)
      refine ⟨_, rfl, .inl ⟨rfl, _, SqL.of (u0 _ _ ho)⟩, _, rfl, _, rfl, _, rfl, _, _, rfl, rfl, _, rfl, ?_⟩
      dsimp only [tNoPart]
      refine tail_tup (sm0.tupS hx) (by omega) fun H2 u2 s3 hu2 => ?_
      have sm2 := sm0.trans s3
      refine ⟨_, rfl, _, rfl, _, _, _, _, st, _, u2, ss.drop (i + 1), around, after (ss.take i) [], rfl, sa.same sm2, rfl, hu2, StepsAt.same sm2 (hss.drop (i + 1)), har.same sm2, hu.same (u0.trans s3), gs, fun z hz => hg z (List.mem_of_mem_drop hz), ?_, by omega, fun H3 s4 => ?_⟩
      · refine after_ok _ _ (fun n hn => by cases hn) fun z hz => (hg z (List.mem_of_mem_take hz)).ok2
      have sm3 := sm2.trans s4
      have ho3 := s4 _ _ (s3 _ _ (u0 _ _ ho))
      have hu3 := hu.same (u0.trans (s3.trans s4))
      refine ⟨o, _, _, rfl, rfl, ho3, ?_, ?_⟩
      · rw [List.length_map, List.length_take, wrongs_len, sizeLine_eq]
        omega
      generalize hH4 : upd H3 o _ = H4
      have sm4 : Same H H4 := by
        rw [← hH4]
        exact same_updN no sm3
      have hu4 : TxtT K H4 u (after (ss.take i) []) := by
        rw [← hH4]
        exact hu3.updL ho3
      have ho4 : H4 o = some (.lst (((wrongs ss [] around).take (i + 1)).map V.bl)) := by
        rw [← hH4, upd_same, take_snoc (wrongs_get ss [] around i st hst), List.map_append]
        rfl
      clear hH4
      refine ⟨_, rfl, _, rfl, _, _, st, _, rfl, sa.same sm4, hu4, by omega, fun H5 u5 s6 hu5 => ?_⟩
      refine ⟨_, rfl, _, _, rfl, sa.same (sm4.trans s6), gs.pl, fun H6 p6 s7 e6 => ?_⟩
      refine ⟨p6, rfl, ⟨_, e6⟩, for_tup (xs := []) (fun _ σ H' => σ = [some (.ref a), some ar, some (.ref o), some u5, some (.int (i : Nat)), some x, v6] ∧ H' = H6) ⟨rfl, rfl⟩ ?_ ?_ ?_⟩
      · rintro _ _ _ _ ⟨_, rfl⟩
        exact e6
      · rintro _ _ _ _ h
        cases h
      · rintro _ _ ⟨rfl, rfl⟩
        refine ⟨u5, _, _, _, rfl, (sm4.trans s6).trans s7, s7 _ _ (s6 _ _ ho4), ?_⟩
        rw [take_snoc hst, after_snoc]
        exact hu5.same s7
    · rintro σ H' ⟨u, v4, v5, v6, rfl, sm, ho, hu⟩
      rw [len, ← wrongs_len ss [] around, List.take_length] at ho
      exact ⟨_, rfl, q H' o sm no ho⟩
end
end Rw

/-! R10 -/
/-! ### values that stay what they are; an own error raised -/
namespace Rw
open PySem PySem.Spec PyProof.Rows L2
theorem TyX_same {K : PySem.W.Frag} {H H' : Hp} (e : Same H H') {v : V} {t : Value} (h : TyX K H v t) : TyX K H' v t := by
  cases h with
  | base h =>
    cases h with
    | non => exact .base .non
    | bl x => exact .base (.bl x)
    | int i => exact .base (.int i)
    | str x => exact .base (.str x)
    | flt x => exact .base (.flt x)
    | lst h => exact .base (.lst (e _ _ h))
    | frz h => exact .base (.frz (e _ _ h))
    | tup h => exact .base (.tup (e _ _ h))
    | dK h => exact .base (.dK (e _ _ h))
    | dT h => exact .base (.dT (e _ _ h))
    | ins h a b c d f => exact .base (.ins (e _ _ h) a b c d f)
  | byt b => exact .byt b
  | set h => exact .set (e _ _ h)
  | kList h c => exact .kList h c
  | kTuple h c => exact .kTuple h c
  | kDict h c => exact .kDict h c
  | fTuple h => exact .fTuple (e _ _ h)
  | fDict h => exact .fDict (e _ _ h)
theorem NV.same {K : PySem.W.Frag} {H H' : Hp} (e : Same H H') {v : V} {b : Bool} (h : NV K H v b) : NV K H' v b := by
  cases h with
  | str z hz => exact .str z hz
  | other t m => exact .other (TyX_same e t) m
theorem SV.same {K : PySem.W.Frag} {d : Addr} {H H' : Hp} (e : Same H H') {v : V} {r : Option Step} (h : SV K d H v r) : SV K d H' v r := by
  cases h with
  | good a b c f => exact .good (e.tupS a) b c f
  | name a b c => exact .name (e.tupS a) b (c.same e)
  | word a b => exact .word (e.tupS a) b
  | first a b c => exact .first (e.tupS a) (TyX_same e b) c
  | len a b => exact .len (e.tupS a) b
  | other a b => exact .other (TyX_same e a) b
theorem SV.step {K : PySem.W.Frag} {d : Addr} {H : Hp} {v : V} {s : Step} (h : SV K d H v (some s)) : StepAt K H v s := by
  cases h with
  | good a b c f => exact ⟨_, rfl, a⟩
/-- for i, x in enumerate(list) -/
theorem for_enum {K : PySem.W.Frag} {a : Addr} {xs : List V} {g : TG} {tb : TS} {D : Ends} {σ : L2.St} {H : Hp} (Pv : Nat → L2.St → Hp → Prop) (h0 : Pv 0 σ H) (hl : ∀ i σ H, i ≤ xs.length → Pv i σ H → SqL K H a xs)
    (hs : ∀ i x σ H T, xs[i]? = some x → Pv i σ H → H T = none → g (.ref T) σ (upd H T (.tup [.int (i : Nat), x])) fun σ2 H2 => tb { D with nx := Pv (i + 1), ct := Pv (i + 1), bk := D.nx } σ2 H2) (hd : ∀ σ H, Pv xs.length σ H → D.nx σ H) :
    ∃ W : Nat → Nat → L2.St → Hp → Prop, (∃ m, W 0 m σ H) ∧ ∀ i m σ H, W i m σ H →
      ((Ite K a).stop i H ∧ D.nx σ H) ∨ ((Ite K a).go i H ∧ ∃ N : L2.St → Hp → Prop, (∀ σ' H', N σ' H' → ∃ m', m' < m ∧ W (i + 1) m' σ' H') ∧ ∀ x H', (Ite K a).yld i H x H' → g x σ H' fun σ2 H2 => tb { D with nx := N, ct := N, bk := D.nx } σ2 H2) := by
  refine ⟨fun i m σ H => m = xs.length - i ∧ i ≤ xs.length ∧ Pv i σ H, ⟨xs.length, by simp, Nat.zero_le _, h0⟩, ?_⟩
  rintro i m σ H ⟨rfl, hi, p⟩
  have q := hl i σ H hi p
  by_cases hlt : i < xs.length
  · refine .inr ⟨⟨xs, xs[i], q, by simp [hlt]⟩, Pv (i + 1), fun σ' H' p' => ⟨xs.length - (i + 1), by omega, rfl, hlt, p'⟩, fun v H' y => ?_⟩
    obtain ⟨T, x, rfl, nT, rfl, hx⟩ := y
    exact hs i x σ H T (hx xs q) p nT
  · have e : i = xs.length := by omega
    subst e
    exact .inl ⟨⟨xs, q, Nat.le_refl _⟩, hd σ H p⟩
def SameBut (a : Addr) (H H' : Hp) : Prop := ∀ b o, b ≠ a → H b = some o → H' b = some o
def spR1 (K : PySem.W.Frag) (n : Str) : Sp := fun vs H Q _ => ∃ (a C fI : Addr) (v : V), vs = [.ref a, v] ∧ OexG K C fI ∧ PySem.W.findIn K (.ref C) n = some none ∧ H a = some (exo a C none) ∧
  ∀ H' d, SameBut a H H' → H' a = some (exo a C (some d)) → H' d = some (exd d [(n, v)]) → H d = none → d ≠ a → Q .non H'
/-- what a raise of it leaves -/
def Left (H : Hp) (n : Str) (v : V) (d : Addr) (H' : Hp) : Prop := Same H H' ∧ H d = none ∧ H' d = some (.xd [(n, v)])
theorem Left.before {H0 H H' : Hp} {n : Str} {v : V} {d : Addr} (s : Same H0 H) (h : Left H n v d H') : Left H0 n v d H' := ⟨s.trans h.1, s.free h.2.1, h.2.2⟩
theorem raise1 {K : PySem.W.Frag} {C fI a : Addr} {H : Hp} {n : Str} {v : V} {Q : XK} (T : OexG K C fI) (no : PySem.W.findIn K (.ref C) n = some none) (na : H a = none) (q : ∀ d H', Left H n v d H' → Q (.ref C) (some d) H') :
    spR1 K n [.ref a, v] (upd H a (exo a C none)) (fun u H2 => u = .non ∧ ∃ (d : Addr) (fs : List (Str × V)), H2 a = some (exo a C (some d)) ∧ H2 d = some (exd d fs) ∧ H d = none ∧ Q (.ref C) (some d) (upd (del H2 a) d (.xd fs))) (fun _ _ _ => False) := by
  refine ⟨a, C, fI, v, rfl, T, no, upd_same, fun H' d sb e1 e2 nd ne => ⟨rfl, d, _, e1, e2, ?_, q _ _ ⟨fun b o hb => ?_, ?_, upd_same⟩⟩⟩
  · rw [upd_ne ne] at nd
    exact nd
  · have hb1 : b ≠ a := ne_of_none hb na
    rw [upd_ne ne] at nd
    rw [upd_ne (ne_of_none hb nd), del_ne hb1]
    exact sb b o hb1 (by rw [upd_ne hb1]; exact hb)
  · rw [upd_ne ne] at nd
    exact nd
structure Er (P : Program) (w : World) (K : PySem.W.Frag) (mg : Str → Option Value) (base : Heap) (x n : Str) (C fI : Addr) (fd : FuncData) : Prop where
  g : mg x = some (.ref C)
  o : OexG K C fI
  no : PySem.W.findIn K (.ref C) n = some none
  F : FnOk P w K mg base CX0 1 fI fd ["self", n] (spR1 K n)
  b : Binds K fd ["self", n] []
theorem all_some {α : Type} : ∀ rs : List (Option α), (∀ j, j < rs.length → ∃ s, rs[j]? = some (some s)) → ∃ ss : List α, rs = ss.map some
  | [], _ => ⟨[], rfl⟩
  | r :: rs, h => by
    obtain ⟨s, e⟩ := h 0 (Nat.zero_lt_succ _)
    obtain ⟨ss, rfl⟩ := all_some rs fun j hj => h (j + 1) (Nat.succ_lt_succ hj)
    cases e
    exact ⟨s :: ss, rfl⟩
section
variable {P : Program} {w : World} {K : PySem.W.Frag} {mg : Str → Option Value} {base : Heap}
abbrev sIS : Stmt := inClass (top 2) 0
theorem scIS : FnScope ["self", "index"] ["self", "index"] (defScope sIS) := ⟨rfl, rfl, rfl, by decide +kernel, rfl, by decide +kernel, by decide +kernel⟩
theorem ok_IS {f : Addr} {fd : FuncData} (F : Fun K "__init__" "InvalidStep.__init__" sIS f fd) : FnOk P w K mg base CX0 1 f fd ["self", "index"] (spR1 K "index") := by
  refine F.ok scIS (fun vs H Q E h => ?_) (fun cdv A outer s H vs Q E hr h => ?_)
  · obtain ⟨a, C, fI, v, rfl, _⟩ := h
    rfl
  · obtain ⟨a, C, fI, v, rfl, T, hn, ea, q⟩ := h
    refine ⟨_, pss_one (ps_ostG (pv 0) (pv 1)), ?_⟩
    refine ⟨_, rfl, _, rfl, a, C, fI, rfl, T, hn, .inl ⟨ea, fun dx n ne => ?_⟩⟩
    refine q _ dx (fun b o hb e => ?_) upd_same (by rw [upd_ne ne, upd_same]) n ne
    rw [upd_ne hb, upd_ne (ne_of_none e n)]
    exact e
theorem er_IS {x : Str} {C f : Addr} {fd : FuncData} (F : Fun K "__init__" "InvalidStep.__init__" sIS f fd) (g : mg x = some (.ref C)) (o : OexG K C f) (no : PySem.W.findIn K (.ref C) "index" = some none) : Er P w K mg base x "index" C f fd :=
  ⟨g, o, no, ok_IS F, F.binds (ps := ["self", "index"]) fun _ _ _ _ _ _ us hl => match us, hl with | [_, _], _ => rfl⟩
/-- where a row's first fault lies -/
def fault (rs : List (Option Step)) : Option V :=
  match rs.findIdx? Option.isNone with
  | some i => some (.int (i : Nat))
  | none => if rs.length > 8 then some .non else
    match (wrongs (rs.filterMap id) [] []).findIdx? id with
    | some i => some (.int (i : Nat))
    | none => none
/-- any value, and the step that it is -/
def SVG (K : PySem.W.Frag) (d : Addr) (H : Hp) (v : V) (r : Option Step) : Prop := SV K d H v r ∧ ∀ s, r = some s → GoodS s
theorem SVG.same {K : PySem.W.Frag} {d : Addr} {H H' : Hp} (e : Same H H') {v : V} {r : Option Step} (h : SVG K d H v r) : SVG K d H' v r := ⟨h.1.same e, h.2⟩
theorem steps_of {K : PySem.W.Frag} {d : Addr} {H : Hp} : ∀ {xs : List V} {ss : List Step}, All2 (SVG K d H) xs (ss.map some) → StepsAt K H xs ss
  | [], [], _ => .nil
  | x :: xs, s :: ss, .cons h t => .cons h.1.step (steps_of t)
theorem good_of {K : PySem.W.Frag} {d : Addr} {H : Hp} : ∀ {xs : List V} {ss : List Step}, All2 (SVG K d H) xs (ss.map some) → ∀ s ∈ ss, GoodS s
  | [], [], _ => fun s hs => by cases hs
  | x :: xs, s :: ss, .cons h t => fun s' hs => by
    rcases List.mem_cons.mp hs with rfl | hs
    · exact h.2 _ rfl
    · exact good_of t s' hs
def spCheck (K : PySem.W.Frag) (d CI : Addr) : Sp := fun vs H Q E => ∃ (a : Addr) (xs : List V) (rs : List (Option Step)), vs = [.ref a] ∧ SqT K H a xs ∧ All2 (SVG K d H) xs rs ∧ rs.length ≤ 800 ∧
  (fault rs = none → ∀ H', Same H H' → Q .non H') ∧ (∀ v, fault rs = some v → ∀ t H', Left H "index" v t H' → E (.ref CI) (some t) H')
abbrev sCh : Stmt := top 21
theorem scCh : FnScope ["steps", "index", "step", "wrong"] ["steps"] (defScope sCh) := ⟨rfl, rfl, rfl, by decide +kernel, rfl, by decide +kernel, by decide +kernel⟩
theorem ok_check {f fS fW d CI fI : Addr} {fd fdS fdW fdI : FuncData} (F : Fun K "check_steps" "check_steps" sCh f fd) (GS : FnOk P w K mg base CX0 2 fS fdS ["value"] (spStep K d)) (TS : Called K mg "is_step" ["value"] fS fdS)
    (GW : FnOk P w K mg base CX0 2 fW fdW ["items", "around"] (spWL K)) (TW : Called K mg "wrong_locks" ["items", "around"] fW fdW) (T : Er P w K mg base "InvalidStep" "index" CI fI fdI) {tM : Tok} (mM : mg "MOST_STEPS" = some (.int 8 tM))
    (m_enumerate : mg "enumerate" = none) (m_len : mg "len" = none) : FnOk P w K mg base (L2.CX P w) 3 f fd ["steps"] (spCheck K d CI) := by
  refine F.okX scCh (fun vs H Q E h => ?_) (fun cdv A outer s H vs Q E hr h => ?_)
  · obtain ⟨a, xs, rs, rfl, _⟩ := h
    rfl
  · obtain ⟨a, xs, rs, rfl, hx, hrs, hz, q, qE⟩ := h
    refine ⟨_, (pss_cons (ps_for (passes_of rfl) rfl (pi_enumT rfl m_enumerate (pa_cons (pv 0) pa_nil)) (pg_tup rfl (pgs_cons (pg_name (i := 1) scCh.nd rfl (.inl rfl)) (pgs_cons (pg_name (i := 2) scCh.nd rfl (.inl rfl)) pgs_nil)))
       (pss_one (ps_if (pt_not (pt_val (pe_call GS (hr.mono (by decide)) rfl TS.1 TS.2.1 TS.2.2 .nil pass0 (pa_cons (pv 2) pa_nil))))
       (pss_one (ps_raise rfl (takes_of rfl rfl rfl rfl) (pmk_G T.o T.F (hr.mono (by decide)) T.b pass0 rfl T.g (pa_cons (pv 1) pa_nil))))
       pss_nil)))
       (pss_cons (ps_if (pt_cmpR op_gt (pe_callB call_len_seq (by rfl) m_len PySem.boot_len (pa_cons (pv 0) pa_nil)) (pe_glob (v := .int 8) rfl mM ⟨_, rfl⟩) (nomark _))
       (pss_one (ps_raise rfl (takes_of rfl rfl rfl rfl) (pmk_G T.o T.F (hr.mono (by decide)) T.b pass0 rfl T.g (pa_cons pe_non pa_nil))))
       pss_nil)
       (pss_one (ps_for (passes_of rfl) rfl (pi_enum rfl m_enumerate (pa_cons (pe_call GW (hr.mono (by decide)) rfl TW.1 TW.2.1 TW.2.2 .nil pass0 (pa_cons (pv 0) (pa_cons (pe_tup pa_nil) pa_nil))) pa_nil)) (pg_tup rfl (pgs_cons (pg_name (i := 1) scCh.nd rfl (.inl rfl)) (pgs_cons (pg_name (i := 3) scCh.nd rfl (.inl rfl)) pgs_nil)))
       (pss_one (ps_if (pt_val (pv 3))
       (pss_one (ps_raise rfl (takes_of rfl rfl rfl rfl) (pmk_G T.o T.F (hr.mono (by decide)) T.b pass0 rfl T.g (pa_cons (pv 1) pa_nil))))
       pss_nil)))))), ?_⟩
    have len := hrs.length
    refine ⟨_, rfl, a, _, rfl, hx, for_enumT (K := K) (a := a) (xs := xs)
      (fun i σ H' => ∃ v1 v2 : Option V, σ = [some (.ref a), v1, v2, none] ∧ Same H H' ∧ ∀ j, j < i → ∃ s, rs[j]? = some (some s))
      ⟨none, none, rfl, Same.refl H, fun j hj => absurd hj (Nat.not_lt_zero j)⟩ ?_ ?_ ?_⟩
    · rintro i σ H' hi ⟨v1, v2, rfl, sm, _⟩
      exact sm.tupS hx
    · rintro i x σ H1 T1 hxi ⟨v1, v2, rfl, sm, al⟩ nT
      obtain ⟨r, hr1, hv⟩ := hrs.get hxi
      have u0 := same_upd (o := .tup [.int (i : Nat), x]) nT
      refine ⟨T1, _, rfl, SqT.of upd_same, rfl, _, _, rfl, _, _, rfl, rfl, ?_⟩
      refine ⟨_, rfl, x, r, rfl, hv.1.same (sm.trans u0), fun H2 s2 => ⟨_, rfl, ?_⟩⟩
      have sm2 := (sm.trans u0).trans s2
      cases r with
      | none =>
        refine iteT ⟨_, rfl, Nat.le_of_ble_eq_true rfl, fun e ne => raise1 T.o T.no ne fun t H' l => qE _ ?_ t H' (l.before sm2)⟩
        have e1 : rs.findIdx? Option.isNone = some i := by
          rw [List.findIdx?_eq_some_iff_getElem]
          obtain ⟨hi, he⟩ := List.getElem?_eq_some_iff.mp hr1
          refine ⟨hi, by rw [he]; rfl, fun j hj => ?_⟩
          obtain ⟨s', hs'⟩ := al j hj
          obtain ⟨hj2, he2⟩ := List.getElem?_eq_some_iff.mp hs'
          rw [he2]
          exact Bool.false_ne_true
        unfold fault
        rw [e1]
      | some st =>
        refine iteF ⟨_, _, rfl, sm2, fun j hj => ?_⟩
        by_cases e : j = i
        · exact ⟨st, by rw [e]; exact hr1⟩
        · exact al j (by omega)
    · rintro σ H1 ⟨v1, v2, rfl, sm, al⟩
      obtain ⟨ss, rfl⟩ := all_some rs fun j hj => al j (by omega)
      have e0 : (ss.map some).findIdx? Option.isNone = none := by
        rw [List.findIdx?_eq_none_iff]
        intro x hx
        obtain ⟨s', _, rfl⟩ := List.mem_map.mp hx
        rfl
      have e1 : (ss.map some).filterMap id = ss := by
        rw [List.filterMap_map]
        exact List.filterMap_some
      have hss : StepsAt K H xs ss := steps_of hrs
      have hg : ∀ s ∈ ss, GoodS s := good_of hrs
      rw [List.length_map] at hz len
      unfold fault at q qE
      rw [e0, e1, List.length_map] at q qE
      refine ⟨_, rfl, a, _, rfl, .inr (sm.tupS hx), _, _, rfl, rfl, _, rfl, ?_⟩
      by_cases h8 : (8 : Int) < (xs.length : Nat)
      · rw [decide_eq_true h8]
        have h9 : ss.length > 8 := by omega
        exact iteT ⟨Nat.le_of_ble_eq_true rfl, fun e ne => raise1 T.o T.no ne fun t H' l => qE _ (if_pos h9) t H' (l.before sm)⟩
      · rw [decide_eq_false h8]
        have h9 : ¬ ss.length > 8 := by omega
        rw [if_neg h9] at q qE
        refine iteF ?_
        refine ⟨_, rfl, Nat.zero_le _, fun z nz => ?_⟩
        have s3 := same_upd (o := HO.tup []) nz
        refine ⟨a, .ref z, xs, ss, [], rfl, (sm.trans s3).tupS hx, hss.same (sm.trans s3), hg, ⟨z, rfl, SqT.of upd_same⟩, by rw [List.length_nil]; omega, fun H3 p s4 _ hp => ?_⟩
        have sm3 := (sm.trans s3).trans s4
        refine ⟨p, _, rfl, SqL.of hp, for_enum (K := K) (a := p) (xs := (wrongs ss [] []).map V.bl)
          (fun i σ H' => ∃ v1 v3 : Option V, σ = [some (.ref a), v1, v2, v3] ∧ Same H3 H' ∧ ∀ j, j < i → (wrongs ss [] [])[j]? = some false)
          ⟨v1, none, rfl, Same.refl _, fun j hj => absurd hj (Nat.not_lt_zero j)⟩ (fun i σ H' _ ⟨_, _, _, s5, _⟩ => s5.seq (SqL.of hp)) ?_ ?_⟩
        · rintro i x σ H4 T4 hxi ⟨w1, w3, rfl, s5, al2⟩ nT4
          obtain ⟨b, hb, rfl⟩ : ∃ b, (wrongs ss [] [])[i]? = some b ∧ x = V.bl b := by
            rw [List.getElem?_map] at hxi
            cases e : (wrongs ss [] [])[i]? with
            | none => rw [e] at hxi; cases hxi
            | some z => rw [e] at hxi; exact ⟨z, rfl, (Option.some.inj hxi).symm⟩
          have u4 := same_upd (o := .tup [.int (i : Nat), .bl b]) nT4
          refine ⟨T4, _, rfl, .inl (.inl upd_same), rfl, _, _, rfl, _, _, rfl, rfl, ?_⟩
          refine ⟨_, rfl, _, rfl, ?_⟩
          cases b with
          | true =>
            refine iteT ⟨_, rfl, Nat.le_of_ble_eq_true rfl, fun e ne => raise1 T.o T.no ne fun t H' l => qE _ ?_ t H' (l.before ((sm3.trans s5).trans u4))⟩
            have e2 : (wrongs ss [] []).findIdx? id = some i := by
              rw [List.findIdx?_eq_some_iff_getElem]
              obtain ⟨hi, he⟩ := List.getElem?_eq_some_iff.mp hb
              refine ⟨hi, by rw [he]; rfl, fun j hj => ?_⟩
              obtain ⟨hj2, he2⟩ := List.getElem?_eq_some_iff.mp (al2 j hj)
              rw [he2]
              exact Bool.false_ne_true
            rw [e2]
          | false =>
            refine iteF ⟨_, _, rfl, s5.trans u4, fun j hj => ?_⟩
            by_cases e : j = i
            · rw [e]; exact hb
            · exact al2 j (by omega)
        · rintro σ H4 ⟨w1, w3, rfl, s5, al2⟩
          refine q ?_ _ (sm3.trans s5)
          have e2 : (wrongs ss [] []).findIdx? id = none := by
            rw [List.findIdx?_eq_none_iff]
            intro x hx
            obtain ⟨j, hj⟩ := List.getElem?_of_mem hx
            have hj2 : j < ((wrongs ss [] []).map V.bl).length := by
              rw [List.length_map]
              exact (List.getElem?_eq_some_iff.mp hj).1
            have z := al2 j hj2
            rw [hj] at z
            exact Option.some.inj z
          rw [e2]
end
end Rw

/-! R11 -/
/-! ### rows made, added, listed -/
namespace Rw
open PySem PySem.Spec PyProof.Rows L2
theorem passX {P : Program} {w : World} {K : PySem.W.Frag} {mg : Str → Option Value} {base : Heap} {N : List Str} {q : Str} {sc : Scope} {f : Addr} {cdv : Value} {A : Around} {outer : List Env} {s : Shared} {H : Hp} {E : XK} :
    Passes (L2.CX P w) (cxOf (L2.CX P w) P w K mg base N q sc f cdv A outer s H E) E := passes_call (takes_of rfl rfl rfl rfl) fun _ _ _ _ h => h
/-- what the top has written of the class Row -/
structure RowC (K : PySem.W.Frag) (mg : Str → Option Value) (C fI fA fR : Addr) : Prop where
  g : mg "Row" = some (.ref C)
  cl : Cls K C
  nS : NoAttr K C "_steps"
  nH : NoAttr K C "_held"
  mkC : Mk K C fI
  add : AddC K C fA fR
  ha : PySem.W.findIn K (.ref C) "__class__" = some (some (.builtin "object.__class__"))
  hn : PySem.W.specialIn K (.builtin "object.__class__") "__get__" = some (some (.builtin "getset_descriptor.__get__"))
  htk : PySem.W.takesIn K (.builtin "object.__class__") = some true
  hm : PySem.W.mroIn K C (.type "object") = some true
  kRow : PySem.W.kitOne K (.ref C) (.ref C) = some true
  kT : ∀ T ∈ ["NoneType", "bool", "int", "list", "str", "dict", "tuple"], PySem.W.kitOne K (.type T) (.ref C) = some false
  aT : ∀ T ∈ ["NoneType", "bool", "int", "list", "str", "dict", "tuple"], AddT K C T
  rT : RaddT K "tuple"
/-- what a row's steps are -/
def RowAt (K : PySem.W.Frag) (d : Addr) (H : Hp) : List V → List Step → Prop := All2 fun v s => SVG K d H v (some s)
theorem RowAt.same {K : PySem.W.Frag} {d : Addr} {H H' : Hp} (e : Same H H') {xs : List V} {ss : List Step} (h : RowAt K d H xs ss) : RowAt K d H' xs ss := All2.mono (fun _ _ t => SVG.same e t) h
theorem rowAt_of {K : PySem.W.Frag} {d : Addr} {H : Hp} : ∀ {xs : List V} {ss : List Step}, All2 (SVG K d H) xs (ss.map some) → RowAt K d H xs ss
  | [], [], _ => .nil
  | x :: xs, s :: ss, .cons h t => .cons h (rowAt_of t)
theorem of_rowAt {K : PySem.W.Frag} {d : Addr} {H : Hp} : ∀ {xs : List V} {ss : List Step}, RowAt K d H xs ss → All2 (SVG K d H) xs (ss.map some)
  | [], [], _ => .nil
  | x :: xs, s :: ss, .cons h t => .cons h (of_rowAt t)
/-- the row of the steps ss stands at a -/
def IsRow (K : PySem.W.Frag) (C d : Addr) (H : Hp) (a : Addr) (ss : List Step) : Prop := ∃ (dx p h : Addr) (xs ys : List V), H a = some (.ins C dx [("_steps", .ref p), ("_held", .ref h)]) ∧ SqT K H p xs ∧ RowAt K d H xs ss ∧ SqL K H h ys ∧ All2 (TxtT K H) ys (helds ss [] ++ [[], []])
theorem IsRow.same {K : PySem.W.Frag} {C d : Addr} {H H' : Hp} (e : Same H H') {a : Addr} {ss : List Step} (h : IsRow K C d H a ss) : IsRow K C d H' a ss := by
  obtain ⟨dx, p, hh, xs, ys, h1, h2, h3, h5, h6⟩ := h
  exact ⟨dx, p, hh, xs, ys, e _ _ h1, e.tupS h2, h3.same e, e.seq h5, h6.mono fun _ _ t => t.same e⟩
theorem but_of {x : Addr} {H H' : Hp} (s : Same H H') : SameBut x H H' := fun b o _ e => s b o e
theorem SameBut.trans {x : Addr} {H H1 H2 : Hp} (a : SameBut x H H1) (b : SameBut x H1 H2) : SameBut x H H2 := fun c o n e => b c o n (a c o n e)
theorem but_upd {x : Addr} {H : Hp} {u : HO} : SameBut x H (upd H x u) := fun b o n e => by
  rw [upd_ne n]
  exact e
theorem ne_of_ins {H : Hp} {x C dx a : Addr} {fs : List (Str × V)} {ys : List V} (hx : H x = some (.ins C dx fs)) (ha : H a = some (.lst ys)) : a ≠ x := fun e => by
  rw [e, hx] at ha
  cases ha
theorem sqT_but {K : PySem.W.Frag} {H H' : Hp} {x C dx a : Addr} {fs : List (Str × V)} {xs : List V} (b : SameBut x H H') (hx : H x = some (.ins C dx fs)) (h : SqT K H a xs) : SqT K H' a xs := by
  rcases h with (h | ⟨ob, h⟩) | h
  · exact .inl (.inl (b _ _ (fun e => by rw [e, hx] at h; cases h) h))
  · exact .inl (.inr ⟨ob, b _ _ (fun e => by rw [e, hx] at h; cases h) h⟩)
  · exact .inr h
theorem StepAt.but {K : PySem.W.Frag} {H H' : Hp} {x C dx : Addr} {fs : List (Str × V)} (b : SameBut x H H') (hx : H x = some (.ins C dx fs)) {v : V} {s : Step} (h : StepAt K H v s) : StepAt K H' v s := let ⟨p, e, q⟩ := h; ⟨p, e, sqT_but b hx q⟩
theorem SVG.but {K : PySem.W.Frag} {d : Addr} {H H' : Hp} {x C dx : Addr} {fs : List (Str × V)} (b : SameBut x H H') (hx : H x = some (.ins C dx fs)) {v : V} {s : Step} (h : SVG K d H v (some s)) : SVG K d H' v (some s) := by
  obtain ⟨h, g⟩ := h
  cases h with
  | good a c e f => exact ⟨.good (sqT_but b hx a) c e f, g⟩
theorem TxtT.but {K : PySem.W.Frag} {H H' : Hp} {x C dx : Addr} {fs : List (Str × V)} (b : SameBut x H H') (hx : H x = some (.ins C dx fs)) {v : V} {s : List Str} (h : TxtT K H v s) : TxtT K H' v s := let ⟨p, e, q⟩ := h; ⟨p, e, sqT_but b hx q⟩
theorem helds_len : ∀ (ss : List Step) (h : List Str), (helds ss h).length = ss.length
  | [], _ => rfl
  | s :: ss, h => congrArg (· + 1) (helds_len ss _)
theorem fault_none {rs : List (Option Step)} (h : fault rs = none) : ∃ ss : List Step, rs = ss.map some := by
  refine all_some rs fun j hj => ?_
  unfold fault at h
  split at h
  · cases h
  · rename_i e
    rw [List.findIdx?_eq_none_iff] at e
    have z := e _ (List.getElem_mem hj)
    rw [List.getElem?_eq_getElem hj]
    cases q : rs[j] with
    | none => rw [q] at z; cases z
    | some s => exact ⟨s, rfl⟩
/-- the row of some values, or what is raised for them -/
def Made (C CI d : Addr) (K : PySem.W.Frag) (H : Hp) (rs : List (Option Step)) (Q : VK) (E : XK) : Prop :=
  (fault rs = none → ∀ ss, rs = ss.map some → ∀ x H', Same H H' → IsRow K C d H' x ss → Q (.ref x) H') ∧ (∀ v, fault rs = some v → ∀ t H', Left H "index" v t H' → E (.ref CI) (some t) H')
def spRI (K : PySem.W.Frag) (d C CI : Addr) : Sp := fun vs H Q E => ∃ (x dx p : Addr) (xs : List V) (rs : List (Option Step)), vs = [.ref x, .ref p] ∧ H x = some (.ins C dx []) ∧ SqT K H p xs ∧ All2 (SVG K d H) xs rs ∧ rs.length ≤ 800 ∧
  (fault rs = none → ∀ ss, rs = ss.map some → ∀ H', SameBut x H H' → IsRow K C d H' x ss → Q .non H') ∧ (∀ v, fault rs = some v → ∀ t H', Left H "index" v t H' → E (.ref CI) (some t) H')
abbrev spStar (sp : Sp) : Sp := fun vs H Q E => ∃ ws rest, vs = ws ++ rest ∧ ws.length = 1 ∧ rest.length ≤ sizeLine ∧ ∀ p, H p = Option.none → sp (ws ++ [V.ref p]) (upd H p (.tup rest)) Q E
section
variable {P : Program} {w : World} {K : PySem.W.Frag} {mg : Str → Option Value} {base : Heap}
abbrev sRI : Stmt := inClass (top 23) 0
theorem scRI : FnScope ["self", "steps"] ["self", "steps"] (defScope sRI) := ⟨rfl, rfl, rfl, by decide +kernel, rfl, by decide +kernel, by decide +kernel⟩
theorem ok_RI {f fC fH d C CI fI fA fR : Addr} {fd fdC fdH : FuncData} (F : Fun K "__init__" "Row.__init__" sRI f fd) (T : RowC K mg C fI fA fR)
    (GC : FnOk P w K mg base (L2.CX P w) 3 fC fdC ["steps"] (spCheck K d CI)) (TC : Called K mg "check_steps" ["steps"] fC fdC)
    (GH : FnOk P w K mg base CX0 2 fH fdH ["items", "around"] (spHeld K)) (TH : Called K mg "held_along" ["items", "around"] fH fdH) : FnR P w K mg base (L2.CX P w) 4 f (spStar (spRI K d C CI)) := by
  obtain ⟨oc, od, kV, doc, pm, an, cdv, ct, osl, rfl, lk, hcd⟩ := F.ex
  refine StX.fn_star (ps := ["self"]) (pv := "steps") (N := ["self", "steps"]) lk hcd scRI StX.cxUp (fun us rest hl => match us, rest, hl with | [u], [], _ => rfl | [u], a :: r, _ => rfl) fun A outer s H vs Q E hr h => ?_
  obtain ⟨x, dx, p, xs, rs, rfl, hx, hp, hrs, hz, q, qE⟩ := h
  refine ⟨_, (pss_cons (ps_expr (pe_call GC (hr.mono (by decide)) rfl TC.1 TC.2.1 TC.2.2 .nil passX (pa_cons (pv 1) pa_nil)))
       (pss_cons (ps_fld (pv 0) (pv 1) rfl)
       (pss_one (ps_fld (pv 0) (pe_op op_cat (pe_call GH (hr.mono (by decide)) rfl TH.1 TH.2.1 TH.2.2 .nil pass0 (pa_cons (pv 1) (pa_cons (pe_tup pa_nil) pa_nil))) (pe_lst (pa_cons (pe_tup pa_nil) (pa_cons (pe_tup pa_nil) pa_nil)))) rfl)))), ?_⟩
  refine ⟨_, rfl, p, xs, rs, rfl, hp, hrs, hz, fun hf H1 s1 => ?_, fun v hv t H' l => qE v hv t H' l⟩
  obtain ⟨ss, rfl⟩ := fault_none hf
  have hss : StepsAt K H xs ss := steps_of hrs
  have hg : ∀ s ∈ ss, GoodS s := good_of hrs
  rw [List.length_map] at hz
  have hx1 := s1 _ _ hx
  refine ⟨_, rfl, _, rfl, x, C, dx, [], rfl, hx1, T.cl, T.nS, by decide, ?_⟩
  have b1 : SameBut x H (upd H1 x (.ins C dx (putF "_steps" (.ref p) []))) := (but_of s1).trans but_upd
  have hx2 : (upd H1 x (.ins C dx (putF "_steps" (.ref p) []))) x = some (.ins C dx [("_steps", .ref p)]) := upd_same
  generalize upd H1 x (.ins C dx (putF "_steps" (.ref p) [])) = H2 at b1 hx2
  refine ⟨_, rfl, Nat.zero_le _, fun z nz => ?_⟩
  have s3 := same_upd (o := HO.tup []) nz
  have hss2 : StepsAt K H2 xs ss := hss.mono fun _ _ t => StepAt.but b1 hx t
  refine ⟨p, .ref z, xs, ss, [], rfl, s3.tupS (sqT_but b1 hx hp), hss2.same s3, fun s hs => (hg s hs).pl, ⟨z, rfl, SqT.of upd_same⟩, by rw [List.length_nil]; omega, fun H3 l ys s4 nl hl hys => ?_⟩
  refine ⟨Nat.zero_le _, fun z1 nz1 => ⟨Nat.zero_le _, fun z2 nz2 => ⟨by show 2 ≤ sizeLine; decide, fun l2 nl2 => ?_⟩⟩⟩
  have s5 := same_upd (o := HO.tup []) nz1
  have s6 := same_upd (o := HO.tup []) nz2
  have s7 := same_upd (o := HO.lst [V.ref z1, V.ref z2]) nl2
  have t1 : TxtT K (upd (upd (upd H3 z1 (HO.tup [])) z2 (HO.tup [])) l2 (HO.lst [V.ref z1, V.ref z2])) (.ref z1) [] := ⟨z1, rfl, SqT.of (s7 _ _ (s6 _ _ upd_same))⟩
  have t2 : TxtT K (upd (upd (upd H3 z1 (HO.tup [])) z2 (HO.tup [])) l2 (HO.lst [V.ref z1, V.ref z2])) (.ref z2) [] := ⟨z2, rfl, SqT.of (s7 _ _ upd_same)⟩
  have e7 : (upd (upd (upd H3 z1 (HO.tup [])) z2 (HO.tup [])) l2 (HO.lst [V.ref z1, V.ref z2])) l2 = some (.lst [V.ref z1, V.ref z2]) := upd_same
  have s37 := (s5.trans s6).trans s7
  generalize upd (upd (upd H3 z1 (HO.tup [])) z2 (HO.tup [])) l2 (HO.lst [V.ref z1, V.ref z2]) = H7 at s37 t1 t2 e7 s7
  have yl := hys.length
  rw [helds_len] at yl
  refine ⟨l, l2, ys, _, rfl, rfl, s37 _ _ hl, e7, ?_, fun l3 nl3 => ?_⟩
  · rw [sizeLine_eq]
    show ys.length + 2 ≤ _
    omega
  have s8 := same_upd (o := HO.lst (ys ++ [V.ref z1, V.ref z2])) nl3
  have e8 : (upd H7 l3 (.lst (ys ++ [V.ref z1, V.ref z2]))) l3 = some (.lst (ys ++ [V.ref z1, V.ref z2])) := upd_same
  generalize upd H7 l3 (.lst (ys ++ [V.ref z1, V.ref z2])) = H8 at s8 e8
  have s38 := s37.trans s8
  have s28 := (s3.trans s4).trans s38
  have hx8 := s28 _ _ hx2
  refine ⟨_, rfl, x, C, dx, [("_steps", .ref p)], rfl, hx8, T.cl, T.nH, by show 1 < 1000; decide, ?_⟩
  have b9 : SameBut x H8 (upd H8 x (.ins C dx (putF "_held" (.ref l3) [("_steps", .ref p)]))) := but_upd
  have b : SameBut x H (upd H8 x (.ins C dx (putF "_held" (.ref l3) [("_steps", .ref p)]))) := (b1.trans (but_of s28)).trans b9
  refine q hf ss rfl _ b ⟨dx, p, l3, xs, ys ++ [V.ref z1, V.ref z2], upd_same, sqT_but b hx hp, All2.mono (fun _ _ t => SVG.but b hx t) (rowAt_of hrs), ?_, ?_⟩
  · exact SqL.of (by rw [upd_ne (ne_of_ins hx8 e8)]; exact e8)
  · refine ((hys.mono fun _ _ t => t.same s38).append (.cons (t1.same s8) (.cons (t2.same s8) .nil))).mono fun _ _ t => TxtT.but b9 hx8 t
end
end Rw

/-! R12 -/
/-! ### rows made of tuples, added, listed -/
namespace Rw
open PySem PySem.Spec PyProof.Rows L2
theorem made_of {K : PySem.W.Frag} {d C CI : Addr} {H : Hp} {xs : List V} {rs : List (Option Step)} {Q : VK} {E : XK} (hrs : All2 (SVG K d H) xs rs) (hz : rs.length ≤ 800) (m : Made C CI d K H rs Q E) {x dx : Addr} (nx : H x = none) (nd : H dx = none) (ne : dx ≠ x) :
    spStar (spRI K d C CI) (.ref x :: xs) (upd (upd H dx (.own x)) x (.ins C dx [])) (fun v H2 => v = .non ∧ Q (.ref x) H2) E := by
  refine ⟨[.ref x], xs, rfl, rfl, by rw [hrs.length, sizeLine_eq]; omega, fun p np => ?_⟩
  have s0 : Same H (upd (upd H dx (.own x)) x (.ins C dx [])) := fun b o e => by
    rw [upd_ne (ne_of_none e nx), upd_ne (ne_of_none e nd)]
    exact e
  have e0 : (upd (upd H dx (.own x)) x (.ins C dx [])) x = some (.ins C dx []) := upd_same
  generalize upd (upd H dx (.own x)) x (.ins C dx []) = H1 at np s0 e0
  have s1 := same_upd (o := HO.tup xs) np
  refine ⟨x, dx, p, xs, rs, rfl, s1 _ _ e0, SqT.of upd_same, hrs.mono fun _ _ t => t.same (s0.trans s1), hz, fun hf ss e H' b r => ⟨rfl, m.1 hf ss e x H' (fun b' o hb => ?_) r⟩, fun v hv t H' l => m.2 v hv t H' (l.before (s0.trans s1))⟩
  exact b b' o (ne_of_none hb nx) ((s0.trans s1) b' o hb)
theorem cat_any {K : PySem.W.Frag} {H : Hp} {a b : Addr} {xs ys : List V} {Q : VK} (ha : SqT K H a xs) (hb : SqT K H b ys) (hl : xs.length + ys.length ≤ 1000) (q : ∀ H' p, Same H H' → SqT K H' p (xs ++ ys) → Q (.ref p) H') : rCatA K (.ref a) (.ref b) H Q := by
  refine ⟨a, b, _, _, rfl, rfl, ha, hb, ?_, fun e => ?_, fun _ e => ?_, fun _ _ p np => ?_⟩
  · rw [sizeLine_eq]
    omega
  · subst e
    exact q H _ (Same.refl H) hb
  · subst e
    rw [List.append_nil] at q
    exact q H _ (Same.refl H) ha
  · exact q _ _ (same_upd np) (SqT.of upd_same)
/-- what is added to a row: a row, a tuple, any other thing -/
inductive Src (K : PySem.W.Frag) (C d : Addr) (H : Hp) : V → Option (List (Option Step)) → Prop
  | row {a : Addr} {ss : List Step} : IsRow K C d H a ss → Src K C d H (.ref a) (some (ss.map some))
  | tup {p : Addr} {xs : List V} {rs : List (Option Step)} : SqT K H p xs → All2 (SVG K d H) xs rs → Src K C d H (.ref p) (some rs)
  | other {v : V} {T : String} : TyX K H v (.type T) → T ∈ noTup → Src K C d H v none
theorem Src.same {K : PySem.W.Frag} {C d : Addr} {H H' : Hp} (e : Same H H') {v : V} {r : Option (List (Option Step))} (h : Src K C d H v r) : Src K C d H' v r := by
  cases h with
  | row h => exact .row (h.same e)
  | tup h g => exact .tup (e.tupS h) (g.mono fun _ _ t => t.same e)
  | other h g => exact .other (TyX_same e h) g
def spIn (K : PySem.W.Frag) (C d CI : Addr) : Sp := fun vs H Q E => ∃ (v : V) (r : Option (List (Option Step))), vs = [v] ∧ Src K C d H v r ∧ (∀ rs, r = some rs → ∀ p xs H', Same H H' → SqT K H' p xs → All2 (SVG K d H') xs rs → Q (.ref p) H') ∧ (r = none → ∀ t H', Left H "index" .non t H' → E (.ref CI) (some t) H')
/-- what comes of it -/
def Added (C CI d : Addr) (K : PySem.W.Frag) (H : Hp) (f : List (Option Step) → List (Option Step)) (r : Option (List (Option Step))) (Q : VK) (E : XK) : Prop :=
  (∀ rs, r = some rs → Made C CI d K H (f rs) Q E) ∧ (r = none → ∀ t H', Left H "index" .non t H' → E (.ref CI) (some t) H')
theorem Made.before {C CI d : Addr} {K : PySem.W.Frag} {H H' : Hp} {rs : List (Option Step)} {Q : VK} {E : XK} (s : Same H H') (m : Made C CI d K H rs Q E) : Made C CI d K H' rs Q E :=
  ⟨fun hf ss e x H2 s2 => m.1 hf ss e x H2 (s.trans s2), fun v hv t H2 l => m.2 v hv t H2 (l.before s)⟩
def spAdd (K : PySem.W.Frag) (C d CI : Addr) : Sp := fun vs H Q E => ∃ (a : Addr) (v : V) (ss : List Step) (r : Option (List (Option Step))), vs = [.ref a, v] ∧ IsRow K C d H a ss ∧ Src K C d H v r ∧ ss.length ≤ 300 ∧ (∀ rs, r = some rs → rs.length ≤ 300) ∧ Added C CI d K H (fun rs => ss.map some ++ rs) r Q E
def spRadd (K : PySem.W.Frag) (C d CI : Addr) : Sp := fun vs H Q E => ∃ (a : Addr) (v : V) (ss : List Step) (r : Option (List (Option Step))), vs = [.ref a, v] ∧ IsRow K C d H a ss ∧ Src K C d H v r ∧ ss.length ≤ 300 ∧ (∀ rs, r = some rs → rs.length ≤ 300) ∧ Added C CI d K H (fun rs => rs ++ ss.map some) r Q E
def spSteps (K : PySem.W.Frag) (C d : Addr) : Sp := fun vs H Q _ => ∃ (a : Addr) (ss : List Step), vs = [.ref a] ∧ IsRow K C d H a ss ∧ ∀ H' l xs, Same H H' → H l = none → H' l = some (.lst xs) → RowAt K d H' xs ss → Q (.ref l) H'
section
variable {P : Program} {w : World} {K : PySem.W.Frag} {mg : Str → Option Value} {base : Heap}
theorem row_ty {C d fI fA fR : Addr} (T : RowC K mg C fI fA fR) {H : Hp} {a : Addr} {ss : List Step} (h : IsRow K C d H a ss) : TyX K H (.ref a) (.ref C) := by
  obtain ⟨dx, p, hh, xs, ys, h1, _⟩ := h
  exact .base (.ins h1 T.cl T.ha T.hn T.htk T.hm)
abbrev sIn : Stmt := top 22
theorem scIn : FnScope ["value"] ["value"] (defScope sIn) := ⟨rfl, rfl, rfl, by decide +kernel, rfl, by decide +kernel, by decide +kernel⟩
theorem ok_in {f d C CI fI fA fR fE : Addr} {fd fdE : FuncData} (F : Fun K "steps_in" "steps_in" sIn f fd) (R : RowC K mg C fI fA fR) (T : Er P w K mg base "InvalidStep" "index" CI fE fdE) (m_isinstance : mg "isinstance" = none) (m_tuple : mg "tuple" = none) : FnOk P w K mg base (L2.CX P w) 3 f fd ["value"] (spIn K C d CI) := by
  refine F.okX scIn (fun vs H Q E h => ?_) (fun cdv A outer s H vs Q E hr h => ?_)
  · obtain ⟨v, r, rfl, _⟩ := h
    rfl
  · obtain ⟨v, r, rfl, hs, q, qE⟩ := h
    refine ⟨_, (pss_cons (ps_if (pt_val (pe_callB call_isi (by rfl) m_isinstance (by decide +kernel) (pa_cons (pv 0) (pa_cons (pe_glob (v := .ref C) rfl R.g rfl) pa_nil))))
       (pss_one (ps_ret (pe_fld (pv 0) rfl)))
       pss_nil)
       (pss_cons (ps_if (pt_not (pt_val (pe_callB call_isi (by rfl) m_isinstance (by decide +kernel) (pa_cons (pv 0) (pa_cons (pe_bltn (v := .ty "tuple") (by rfl) m_tuple (by decide +kernel) rfl) pa_nil)))))
       (pss_one (ps_raise rfl (takes_of rfl rfl rfl rfl) (pmk_G T.o T.F (hr.mono (by decide)) T.b pass0 rfl T.g (pa_cons pe_non pa_nil))))
       pss_nil)
       (pss_one (ps_ret (pv 0))))), ?_⟩
    have tup : PySem.W.kitOne K (.type "tuple") (.type "tuple") = some true := kit_ty (by decide +kernel)
    cases hs with
    | @row a ss h =>
      have ty := row_ty R h
      obtain ⟨dx, p, hh, xs, ys, h1, h2, h3, h5, h6⟩ := h
      exact ⟨_, rfl, _, _, _, _, _, rfl, .own _, ty, R.kRow, _, rfl, iteT ⟨_, rfl, a, C, dx, _, _, rfl, h1, R.cl, R.nS, rfl, q _ rfl p xs H (Same.refl H) h2 (of_rowAt h3)⟩⟩
    | @tup p xs rs h g =>
      refine ⟨_, rfl, _, _, _, _, _, rfl, .own _, tyx_tup h, R.kT "tuple" (by decide), _, rfl, iteF ?_⟩
      refine ⟨_, rfl, _, _, _, _, _, rfl, .ty _, tyx_tup h, tup, _, rfl, iteF ?_⟩
      exact ⟨_, rfl, q _ rfl p xs H (Same.refl H) h g⟩
    | @other _ T' ty hT =>
      have hT2 : T' ∈ ["NoneType", "bool", "int", "list", "str", "dict", "tuple"] := by
        simp only [noTup, List.mem_cons, List.mem_nil_iff, or_false] at hT ⊢
        rcases hT with rfl | rfl | rfl | rfl | rfl | rfl <;> simp
      have kt : PySem.W.kitOne K (.type T') (.type "tuple") = some false := by
        simp only [noTup, List.mem_cons, List.mem_nil_iff, or_false] at hT
        rcases hT with rfl | rfl | rfl | rfl | rfl | rfl <;> exact kit_ty (by decide +kernel)
      refine ⟨_, rfl, _, _, _, _, _, rfl, .own _, ty, R.kT T' hT2, _, rfl, iteF ?_⟩
      refine ⟨_, rfl, _, _, _, _, _, rfl, .ty _, ty, kt, _, rfl, iteT ?_⟩
      exact ⟨Nat.le_of_ble_eq_true rfl, fun e ne => raise1 T.o T.no ne fun t H' l => qE rfl t H' l⟩
abbrev sAdd : Stmt := inClass (top 23) 3
theorem scAdd : FnScope ["self", "other", "steps"] ["self", "other"] (defScope sAdd) := ⟨rfl, rfl, rfl, by decide +kernel, rfl, by decide +kernel, by decide +kernel⟩
theorem ok_add {f fN d C CI fI fR : Addr} {fd fdN : FuncData} (F : Fun K "__add__" "Row.__add__" sAdd f fd) (R : RowC K mg C fI f fR) (GI : FnR P w K mg base (L2.CX P w) 4 fI (spStar (spRI K d C CI)))
    (GN : FnOk P w K mg base (L2.CX P w) 3 fN fdN ["value"] (spIn K C d CI)) (TN : Called K mg "steps_in" ["value"] fN fdN) : FnOk P w K mg base (L2.CX P w) 6 f fd ["self", "other"] (spAdd K C d CI) := by
  refine F.okX scAdd (fun vs H Q E h => ?_) (fun cdv A outer s H vs Q E hr h => ?_)
  · obtain ⟨a, v, ss, r, rfl, _⟩ := h
    rfl
  · obtain ⟨a, v, ss, r, rfl, h, hs, l1, l2, q, qE⟩ := h
    refine ⟨_, (pss_cons (ps_set (i := 2) scAdd.nd rfl (.inl rfl) (pe_op op_catA (pe_fld (pv 0) rfl) (pe_call GN (hr.mono (by decide)) rfl TN.1 TN.2.1 TN.2.2 .nil passX (pa_cons (pv 1) pa_nil))))
       (pss_one (ps_ret (pe_makeS1 R.mkC GI hr rfl R.g passX (pv 2))))), ?_⟩
    obtain ⟨dx, p, hh, xs, ys, h1, h2, h3, h5, h6⟩ := h
    refine ⟨_, rfl, a, C, dx, _, _, rfl, h1, R.cl, R.nS, rfl, _, rfl, v, r, rfl, hs, fun rs hr p2 xs2 H2 s2 h2' g2 => ?_, fun hn t H' l => qE hn t H' l⟩
    have xl := h3.length
    have yl := g2.length
    have rl := l2 rs hr
    refine cat_any (s2.tupS h2) h2' (by omega) fun H3 p3 s3 h3' => ?_
    refine ⟨_, rfl, p3, _, rfl, .inl h3', fun x dx nx nd ne => ?_⟩
    refine made_of ((of_rowAt (h3.same (s2.trans s3))).append (g2.mono fun _ _ t => t.same s3)) ?_ ((q rs hr).before (s2.trans s3)) nx nd ne
    rw [List.length_append, List.length_map]
    omega
abbrev sRadd : Stmt := inClass (top 23) 4
theorem scRadd : FnScope ["self", "other", "steps"] ["self", "other"] (defScope sRadd) := ⟨rfl, rfl, rfl, by decide +kernel, rfl, by decide +kernel, by decide +kernel⟩
theorem ok_radd {f fN d C CI fI fA : Addr} {fd fdN : FuncData} (F : Fun K "__radd__" "Row.__radd__" sRadd f fd) (R : RowC K mg C fI fA f) (GI : FnR P w K mg base (L2.CX P w) 4 fI (spStar (spRI K d C CI)))
    (GN : FnOk P w K mg base (L2.CX P w) 3 fN fdN ["value"] (spIn K C d CI)) (TN : Called K mg "steps_in" ["value"] fN fdN) : FnOk P w K mg base (L2.CX P w) 6 f fd ["self", "other"] (spRadd K C d CI) := by
  refine F.okX scRadd (fun vs H Q E h => ?_) (fun cdv A outer s H vs Q E hr h => ?_)
  · obtain ⟨a, v, ss, r, rfl, _⟩ := h
    rfl
  · obtain ⟨a, v, ss, r, rfl, h, hs, l1, l2, q, qE⟩ := h
    refine ⟨_, (pss_cons (ps_set (i := 2) scRadd.nd rfl (.inl rfl) (pe_op op_catA (pe_call GN (hr.mono (by decide)) rfl TN.1 TN.2.1 TN.2.2 .nil passX (pa_cons (pv 1) pa_nil)) (pe_fld (pv 0) rfl)))
       (pss_one (ps_ret (pe_makeS1 R.mkC GI hr rfl R.g passX (pv 2))))), ?_⟩
    obtain ⟨dx, p, hh, xs, ys, h1, h2, h3, h5, h6⟩ := h
    refine ⟨_, rfl, v, r, rfl, hs, fun rs hr p2 xs2 H2 s2 h2' g2 => ?_, fun hn t H' l => qE hn t H' l⟩
    have xl := h3.length
    have yl := g2.length
    have rl := l2 rs hr
    refine ⟨_, rfl, a, C, dx, _, _, rfl, s2 _ _ h1, R.cl, R.nS, rfl, ?_⟩
    refine cat_any h2' (s2.tupS h2) (by omega) fun H3 p3 s3 h3' => ?_
    refine ⟨_, rfl, p3, _, rfl, .inl h3', fun x dx nx nd ne => ?_⟩
    refine made_of ((g2.mono fun _ _ t => t.same s3).append (of_rowAt (h3.same (s2.trans s3)))) ?_ ((q rs hr).before (s2.trans s3)) nx nd ne
    rw [List.length_append, List.length_map]
    omega
abbrev sSt : Stmt := inClass (top 23) 10
theorem scSt : FnScope ["self"] ["self"] (defScope sSt) := ⟨rfl, rfl, rfl, by decide +kernel, rfl, by decide +kernel, by decide +kernel⟩
theorem ok_steps {f d C fI fA fR : Addr} {fd : FuncData} (F : Fun K "steps" "Row.steps" sSt f fd) (R : RowC K mg C fI fA fR) (m_list : mg "list" = none) : FnOk P w K mg base CX0 1 f fd ["self"] (spSteps K C d) := by
  refine F.ok scSt (fun vs H Q E h => ?_) (fun cdv A outer s H vs Q E hr h => ?_)
  · obtain ⟨a, ss, rfl, _⟩ := h
    rfl
  · obtain ⟨a, ss, rfl, h, q⟩ := h
    refine ⟨_, (pss_one (ps_ret (pe_callTy call_list_of (by rfl) m_list (by decide +kernel) (pa_cons (pe_fld (pv 0) rfl) pa_nil)))), ?_⟩
    obtain ⟨dx, p, hh, xs, ys, h1, h2, h3, h5, h6⟩ := h
    refine ⟨_, rfl, a, C, dx, _, _, rfl, h1, R.cl, R.nS, rfl, p, _, rfl, .inr h2, fun l nl => ?_⟩
    exact q _ l xs (same_upd nl) nl upd_same (h3.same (same_upd nl))
end
end Rw

/-! R13 -/
namespace Rw
open PySem PySem.Spec PyProof.Rows L2
abbrev sNum : Stmt := top 25
theorem scN : FnScope ["_law_cell", "_law_salt", "_law_sizes", "_law_whole", "_law_left", "_law_result", "_law_k", "_law_one"] ["_law_cell", "_law_salt", "_law_sizes"] (defScope sNum) := ⟨rfl, rfl, rfl, by decide +kernel, rfl, by decide +kernel, by decide +kernel⟩
/-- what the numbers are: as many as the sizes, each below its size -/
def Drawn (sz ns : List Int) : Prop := ns.length = sz.length ∧ ∀ (i : Nat) (n : Int), sz[i]? = some n → ∃ x : Int, ns[i]? = some x ∧ 0 ≤ x ∧ x < n
def spNum (K : PySem.W.Frag) : Sp := fun vs H Q _ => ∃ (cell salt : Int) (a : Addr) (sz : List Int), vs = [.int cell, .int salt, .ref a] ∧ SqL K H a (sz.map V.int) ∧ sz.length ≤ 400 ∧ (∀ n ∈ sz, 1 ≤ n ∧ n < 2 ^ 200) ∧ 0 ≤ salt ∧ salt ≤ 1000000 ∧
  ∀ H' p ns, Same H H' → H p = none → H' p = some (.lst (ns.map V.int)) → Drawn sz ns → Q (.ref p) H'
theorem map_more (ns : List Int) (x : Int) : some (HO.lst (ns.map V.int ++ [V.int x])) = some (HO.lst ((ns ++ [x]).map V.int)) := by
  rw [List.map_append]
  rfl
theorem drawn_more {sz ns : List Int} {i : Nat} {n x : Int} (h : Drawn (sz.take i) ns) (hn : sz[i]? = some n) (x0 : 0 ≤ x) (x1 : x < n) : Drawn (sz.take (i + 1)) (ns ++ [x]) := by
  obtain ⟨h1, h2⟩ := h
  have hi : i < sz.length := by
    obtain ⟨z, _⟩ := List.getElem?_eq_some_iff.mp hn
    exact z
  have e : sz.take (i + 1) = sz.take i ++ [n] := by
    rw [List.take_add_one, hn]
    rfl
  have l1 : (sz.take i).length = i := by
    rw [List.length_take]
    omega
  rw [e]
  refine ⟨by rw [List.length_append, List.length_append, h1]; rfl, fun j m hm => ?_⟩
  by_cases hj : j < i
  · rw [List.getElem?_append_left (by omega)] at hm
    obtain ⟨y, y1, y2⟩ := h2 j m hm
    exact ⟨y, by rw [List.getElem?_append_left (by omega)]; exact y1, y2⟩
  · rw [List.getElem?_append_right (by omega), l1] at hm
    have ej : j = i := by
      obtain ⟨z, _⟩ := List.getElem?_eq_some_iff.mp hm
      simp at z
      omega
    subst ej
    rw [Nat.sub_self] at hm
    have em : n = m := Option.some.inj hm
    subst em
    exact ⟨x, by rw [List.getElem?_append_right (by omega), h1, l1, Nat.sub_self]; rfl, x0, x1⟩
section
variable {P : Program} {w : World} {K : PySem.W.Frag} {mg : Str → Option Value} {base : Heap}
theorem ok_num {f : Addr} {fd : FuncData} {k : Nat} (F : Fun K "_law_numbers" "_law_numbers" sNum f fd) (m_max : mg "max" = none) (m_range : mg "range" = none) (m_len : mg "len" = none) :
    FnOk P w K mg base CX0 (k + 1) f fd ["_law_cell", "_law_salt", "_law_sizes"] (spNum K) := by
  refine F.ok scN (fun vs H Q E h => ?_) (fun cdv A outer s H vs Q E hr h => ?_)
  · obtain ⟨c, s, a, sz, rfl, _⟩ := h
    rfl
  · obtain ⟨cell, salt, a, sz, rfl, hS, hlen, hsz, hs0, hs1, q⟩ := h
    refine ⟨_, (pss_cons (ps_set (i := 3) scN.nd rfl (.inl rfl) (pe_callB (call_max2 rfl) (by rfl) m_max (by decide +kernel) (pa_cons (pv 0) (pa_cons (pe_op op_sub (pe_un un_neg pe_int) (pv 0)) pa_nil))))
       (pss_cons (ps_set (i := 4) scN.nd rfl (.inl rfl) (pv 3))
       (pss_cons (ps_set (i := 5) scN.nd rfl (.inl rfl) (pe_lst pa_nil))
       (pss_cons (ps_for PassesOwn.never rfl (pi_range1 rfl m_range (pa_cons (pe_callB call_len_seq (by rfl) m_len PySem.boot_len (pa_cons (pv 2) pa_nil)) pa_nil)) (pg_name (i := 6) scN.nd rfl (.inl rfl))
       (pss_one (ps_if (PW.pt (pw_and (pt_cmpR op_ge (pv 3) (pe_op op_pow pe_int pe_int) (nomark _)) (pw_and1 (pt_cmpR op_gt (pv 4) pe_int (nomark _)))))
       (pss_cons (ps_expr (pe_bm PySem.F.plainAttrs_list PySem.F.slot_list_append PySem.F.type_list_append mt_append (pv 5) (pa_cons (pe_op op_modN (pv 4) (pe_ix ix_list (pv 2) (pv 6) (fun _ _ => rfl))) pa_nil)))
       (pss_one (ps_set (i := 4) scN.nd rfl (.inl rfl) (pe_op op_fdivW (pv 4) (pe_ix ix_list (pv 2) (pv 6) (fun _ _ => rfl))))))
       (pss_cons (ps_set (i := 7) scN.nd rfl (.inl rfl) (pe_op op_mod (pe_op op_pow (pe_op op_add (pe_op op_add (pe_op op_mod (pv 3) pe_int) (pe_op op_mul pe_int (pv 1))) pe_int) pe_int) pe_int))
       (pss_cons (ps_set (i := 7) scN.nd rfl (.inl rfl) (pe_op op_mod (pe_op op_mul (pe_op op_add (pv 7) (pe_op op_mul pe_int (pe_op op_add (pv 6) pe_int))) (pe_op op_add (pv 6) pe_int)) pe_int))
       (pss_cons (ps_set (i := 7) scN.nd rfl (.inl rfl) (pe_op op_mod (pe_op op_mul (pe_op op_mod (pe_op op_pow (pv 7) pe_int) pe_int) pe_int) pe_int))
       (pss_one (ps_expr (pe_bm PySem.F.plainAttrs_list PySem.F.slot_list_append PySem.F.type_list_append mt_append (pv 5) (pa_cons (pe_op op_modN (pe_op op_fdiv (pv 7) pe_int) (pe_ix ix_list (pv 2) (pv 6) (fun _ _ => rfl))) pa_nil))))))))))
       (pss_one (ps_ret (pv 5))))))), ?_⟩
    -- whole
    refine ⟨_, rfl, _, rfl, _, rfl, _, _, rfl, rfl, _, _, rfl, ?_⟩
    generalize hwh : (if -1 - cell > cell then -1 - cell else cell) = whole
    -- left
    refine ⟨_, rfl, ?_⟩
    -- result
    refine ⟨Nat.zero_le _, fun o no => ?_⟩
    have s1 : Same H (upd H o (.lst [])) := same_upd no
    -- range(len(sizes))
    refine ⟨_, rfl, a, _, rfl, .inl (s1.seq hS), _, rfl, ?_, ?_, ?_⟩
    · omega
    · rw [List.length_map]; omega
    have hw : 0 ≤ whole := by
      rw [← hwh]
      split <;> omega
    refine for_range (lo := 0) (n := (((sz.map V.int).length : Nat) : Int).toNat)
      (fun i σ H' => ∃ (left : Int) (ns : List Int) (v6 v7 : Option V), σ = [some (.int cell), some (.int salt), some (.ref a), some (.int whole), some (.int left), some (.ref o), v6, v7] ∧ 0 ≤ left ∧ Same H H' ∧
        H' o = some (.lst (ns.map V.int)) ∧ Drawn (sz.take i) ns)
      ⟨whole, [], none, none, rfl, hw, s1, upd_same, rfl, fun i n e => by simp at e⟩ ?_ ?_
    · rintro i σ H' hi ⟨left, ns, v6, v7, rfl, hl, sm, ho, hd⟩
      have hi' : i < sz.length := by
        rw [List.length_map] at hi
        omega
      have hSi : SqL K H' a (sz.map V.int) := sm.seq hS
      obtain ⟨n, hn⟩ : ∃ n, sz[i]? = some n := ⟨_, List.getElem?_eq_getElem hi'⟩
      obtain ⟨n1, n2⟩ := hsz n (List.mem_of_getElem? hn)
      have hat : atI (sz.map V.int) ((0 : Int) + i) = some (V.int n) := by
        rw [Int.zero_add]
        refine atI_nat ?_
        rw [List.getElem?_map, hn]
        rfl
      have more : ∀ x, 0 ≤ x → x < n → Drawn (sz.take (i + 1)) (ns ++ [x]) := fun x x0 x1 => drawn_more hd hn x0 x1
      have nsl : ns.length = i := by
        have z := hd.1
        rw [List.length_take] at z
        omega
      have room : (ns.map V.int).length < sizeLine := by
        rw [List.length_map]
        exact small1000 (by omega)
      have stay : ∀ u, Same H (upd H' o u) := fun u b z e => by
        rw [upd_ne (ne_of_none e no)]
        exact sm b z e
      -- whole >= 10 ** 18 and left > 0
      refine ⟨_, rfl, _, _, rfl, rfl, ⟨by decide, by decide, by decide⟩, _, _, rfl, rfl, _, rfl, ?_⟩
      refine ite2 (fun c1 => ?_) (fun c1 => ?_)
      · refine ⟨_, rfl, _, _, rfl, rfl, _, rfl, ite2 (fun c2 => ?_) (fun c2 => ?_)⟩
        · refine ⟨_, rfl, .inl ⟨rfl, _, .inl (.inl ho)⟩, _, rfl, _, rfl, _, rfl, a, _, _, _, rfl, rfl, hSi, hat, _, _, rfl, rfl, (by omega), o, _, _, rfl, rfl, ho, room, ?_⟩
          refine ⟨_, rfl, _, rfl, _, rfl, a, _, _, _, rfl, rfl, (stay _).seq hS, hat, _, _, rfl, rfl, wide_div (by omega) (b := 200) (by omega) (by decide) (by decide), ?_⟩
          exact ⟨left / n, _, _, _, rfl, Int.ediv_nonneg hl (by omega), stay _, by rw [upd_same, map_more], more _ (Int.fmod_nonneg_of_pos _ (by omega)) (Int.fmod_lt_of_pos _ (by omega))⟩
        · refine ⟨_, rfl, _, _, rfl, rfl, (by show (0 : Int) < 2147483629; decide), _, rfl, _, _, rfl, rfl, .inl ⟨by decide, by decide⟩, _, _, rfl, rfl, _, _, rfl, rfl, _, _, rfl, rfl, ⟨by decide, by decide, by omega⟩, _, _, rfl, rfl, (by show (0 : Int) < 2147483647; decide), ?_⟩
          refine ⟨_, rfl, _, rfl, _, _, rfl, rfl, _, _, rfl, rfl, .inl ⟨by decide, by decide⟩, _, _, rfl, rfl, _, rfl, _, _, rfl, rfl, _, _, rfl, rfl, .inr ⟨by omega, by omega⟩, _, _, rfl, rfl, (by show (0 : Int) < 2147483629; decide), ?_⟩
          refine ⟨_, rfl, _, _, rfl, rfl, ⟨by decide, by decide, by omega⟩, _, _, rfl, rfl, (by show (0 : Int) < 2147483647; decide), _, _, rfl, rfl, .inr ⟨by decide, by decide⟩, _, _, rfl, rfl, (by show (0 : Int) < 2147483629; decide), ?_⟩
          refine ⟨_, rfl, .inl ⟨rfl, _, .inl (.inl ho)⟩, _, rfl, _, _, rfl, rfl, ⟨by decide, by decide⟩, _, rfl, _, rfl, a, _, _, _, rfl, rfl, hSi, hat, _, _, rfl, rfl, (by omega), o, _, _, rfl, rfl, ho, room, ?_⟩
          exact ⟨left, _, _, _, rfl, hl, stay _, by rw [upd_same, map_more], more _ (Int.fmod_nonneg_of_pos _ (by omega)) (Int.fmod_lt_of_pos _ (by omega))⟩
      · refine ⟨_, rfl, _, _, rfl, rfl, (by show (0 : Int) < 2147483629; decide), _, rfl, _, _, rfl, rfl, .inl ⟨by decide, by decide⟩, _, _, rfl, rfl, _, _, rfl, rfl, _, _, rfl, rfl, ⟨by decide, by decide, by omega⟩, _, _, rfl, rfl, (by show (0 : Int) < 2147483647; decide), ?_⟩
        refine ⟨_, rfl, _, rfl, _, _, rfl, rfl, _, _, rfl, rfl, .inl ⟨by decide, by decide⟩, _, _, rfl, rfl, _, rfl, _, _, rfl, rfl, _, _, rfl, rfl, .inr ⟨by omega, by omega⟩, _, _, rfl, rfl, (by show (0 : Int) < 2147483629; decide), ?_⟩
        refine ⟨_, rfl, _, _, rfl, rfl, ⟨by decide, by decide, by omega⟩, _, _, rfl, rfl, (by show (0 : Int) < 2147483647; decide), _, _, rfl, rfl, .inr ⟨by decide, by decide⟩, _, _, rfl, rfl, (by show (0 : Int) < 2147483629; decide), ?_⟩
        refine ⟨_, rfl, .inl ⟨rfl, _, .inl (.inl ho)⟩, _, rfl, _, _, rfl, rfl, ⟨by decide, by decide⟩, _, rfl, _, rfl, a, _, _, _, rfl, rfl, hSi, hat, _, _, rfl, rfl, (by omega), o, _, _, rfl, rfl, ho, room, ?_⟩
        exact ⟨left, _, _, _, rfl, hl, stay _, by rw [upd_same, map_more], more _ (Int.fmod_nonneg_of_pos _ (by omega)) (Int.fmod_lt_of_pos _ (by omega))⟩
    · rintro σ H' ⟨left, ns, v6, v7, rfl, hl, sm, ho, hd⟩
      have e : (((sz.map V.int).length : Nat) : Int).toNat = sz.length := by
        rw [List.length_map]
        omega
      rw [e, List.take_length] at hd
      exact ⟨_, rfl, q H' o ns sm no ho hd⟩
end

end Rw

/-! W0 -/
/-! ### sets of texts, as they can be walked -/
namespace Tx
open PySem PySem.Spec PyProof.Rows L2
open PySem.Froz (SD sObj TxOk addTx tailTx)
/-- the table rises, and its order is told or led -/
def Wk (w : World) (D : SD) : Prop := Ris D.2.2.place.toList ∧ (w.params.followText "set-order" = true ∨ D.2.2.led = true)
theorem wk_tail {w : World} {es : Array (Int × Value)} {ep : Nat} {t : SetTable} {d : Bool} (h : Wk w (es, ep, t)) : Wk w (tailTx ep es t d) := by
  unfold tailTx
  by_cases c : (!d && t.tooFull) = true
  · rw [if_pos c]; exact ⟨relayAll_ris _ _ _, h.2.imp id fun z => (relayAll_led t es (SetTable.grown es.size)).trans z⟩
  · rw [if_neg c]; exact h
theorem wk_add {w : World} {D : SD} {hh : Int} {v : Value} (h : Wk w D) : Wk w (addTx hh v D) := by
  obtain ⟨es, ep, t⟩ := D
  unfold addTx
  refine wk_tail ?_
  have a := layNew_ris t es hh v h.1
  have b := h.2.imp id fun z => (layNew_led t es hh v).trans z
  dsimp only
  by_cases c : (layNew t es hh v).2.1.plain = true
  · rw [if_pos c]; exact ⟨a, b⟩
  · rw [if_neg c]; exact ⟨a, b⟩
/-- the set at a holds the texts l -/
def SetTx (P : Program) (w : World) (h : Heap) (a : Addr) (l : List Str) : Prop := ∃ D : SD, h.get? a = some (sObj "set" D) ∧ TxOk P w D l ∧ l.Nodup ∧ l.length < scanBound ∧ Wk w D
def ins (k : Str) (l : List Str) : List Str := if k ∈ l then l else k :: l
theorem ins_len (k : Str) (l : List Str) : (ins k l).length ≤ l.length + 1 := by
  unfold ins
  split
  · omega
  · exact Nat.le_refl _
theorem SetTx.at {P : Program} {w : World} {h h' : Heap} {a : Addr} {l : List Str} (R : SetTx P w h a l) (k : ∀ o, h.get? a = some o → h'.get? a = some o) : SetTx P w h' a l :=
  let ⟨D, e, r⟩ := R
  ⟨D, k _ e, r⟩
section
variable {P : Program} {w : World} {A : Around} {E : Value → Shared → Prop} {s : Shared} {a : Addr} {l : List Str} {k : Str} {u : Tok}
theorem found_x {D : SD} {Q : Bool → Shared → Prop} (at_ : s.heap.get? a = some (sObj "set" D)) (F : TxOk P w D l) (small : l.length < scanBound) (there : k ∈ l) (fin : Q false s) :
    wpAny (model P w) A (setAddHashed a (.str k u) (hashStr w k)) Q E s := by
  obtain ⟨es, ep, t⟩ := D
  have same : (strKind P w).is k (.str k u) = true := PySem.Froz.is_str k u
  have few : es.size < scanBound := by
    have many : es.size = l.length := F.sz
    omega
  have elems : ElemsOf (strKind P w) es.toList := F.el
  obtain ⟨j, hj⟩ : ∃ j, es.toList.findIdx? (fun e => (strKind P w).is k e.2) = some j := by
    cases q : es.toList.findIdx? (fun e => (strKind P w).is k e.2) with
    | some j => exact ⟨j, rfl⟩
    | none =>
      obtain ⟨e, he, z⟩ := (F.mem k).mp there
      have none_of := List.findIdx?_eq_none_iff.mp q e he
      rw [z] at none_of
      exact absurd none_of (by decide)
  unfold setAddHashed setAddHashedIn
  refine wpAny_holding (wpAny_bind (wpAny_setState_of at_ rfl (show t.fits es.size = true from F.fit) ?_))
  dsimp only
  rw [byScan_of rfl few elems]
  simp only [↓reduceIte]
  unfold setAddByScan
  refine wpAny_bind (wpAny_bind (wpAny_rule (wpAny_bind (wpAny_setScan_of same at_ rfl F.fit elems ?_))))
  rw [hj]
  exact wpAny_pure (wpAny_pure fin)
theorem add_hashed {Q : Bool → Shared → Prop} (R : SetTx P w s.heap a l) (room : l.length + 1 < scanBound)
    (fin : ∀ h' b, Heap.SameBut a s.heap h' → SetTx P w h' a (ins k l) → Q b { s with heap := h' }) : wpAny (model P w) A (setAddHashed a (.str k u) (hashStr w k)) Q E s := by
  obtain ⟨D, at_, F, nd, small, wk⟩ := R
  by_cases there : k ∈ l
  · refine found_x at_ F small there ?_
    refine fin s.heap false (Heap.SameBut.refl a s.heap) ?_
    rw [show ins k l = l from if_pos there]
    exact ⟨D, at_, F, nd, small, wk⟩
  · refine PySem.Froz.add_x at_ F there room ?_
    refine fin _ true (Heap.SameBut.update s.heap a _) ?_
    rw [show ins k l = k :: l from if_neg there]
    exact ⟨_, PySem.Froz.get_upd _ at_ rfl, PySem.Froz.add_ok u F, List.nodup_cons.mpr ⟨there, nd⟩, room, wk_add wk⟩
theorem add_text {Q : Value → Shared → Prop} (R : SetTx P w s.heap a l) (room : l.length + 1 < scanBound)
    (fin : ∀ h' tk, Heap.SameBut a s.heap h' → SetTx P w h' a (ins k l) → Q .none { s with heap := h', toks := tk }) : wpAny (model P w) A (call (.builtin "set.add") [.ref a, .str k u]) Q E s := by
  obtain ⟨D, at_, r⟩ := id R
  refine wpAny_call_entry F.slot_set_add (T := "set") ⟨_, at_, rfl⟩ F.entry_set_add ?_ (F.args_set_add_2 _ _)
  unfold Builtin.«set.add» Builtin.Frozenset.oneOther
  simp only [List.isEmpty_nil, bind_assoc]
  unfold Builtin.Frozenset.addrOf setAdd
  refine wpAny_bind (wpAny_pure ?_)
  try dsimp only
  refine wpAny_bind (wpAny_pure ?_)
  try dsimp only
  refine wpAny_bind (wpAny_holding (wpAny_bind ((strKind P w).pyHash (PySem.Froz.is_str k u) ?_)))
  refine add_hashed (s := { s with toks := s.toks + 1 }) R room fun h' b sb r => ?_
  exact wpAny_pure ⟨_, rfl, fin h' _ sb r⟩
end
end Tx
/-! ### sorted of such a set -/
namespace Tx
open PySem PySem.Spec PyProof.Rows L2
open PySem.Froz (SD sObj TxOk addTx tailTx)
theorem fresh_tx {P : Program} {w : World} {h : Heap} : SetTx P w (h.push { cls := .type "set", dict := none, data := .set #[] 0 (.fresh 0 0 (!w.params.followText "set-order")) }) h.objs.size [] := by
  refine ⟨(#[], 0, .fresh 0 0 (!w.params.followText "set-order")), Heap.get?_push_size _ rfl, PySem.Froz.TxOk.nil rfl, List.nodup_nil, by decide, List.Pairwise.nil, ?_⟩
  cases w.params.followText "set-order" with
  | true => exact .inl rfl
  | false => exact .inr rfl
def SetTO (P : Program) (w : World) (a : Addr) (l : List Str) : HO := .ext fun h => SetTx P w h a l
theorem setTO_new {w : World} {P P' : Program} {w' : World} {H : Hp} {h : Heap} {a : Addr} {l : List Str} (R : SetTx P w h a l) : ObjOk P' w' H h a (SetTO P w a l) := by
  obtain ⟨D, at_, _⟩ := id R
  exact ⟨R, ⟨_, at_⟩, fun _ _ p k => SetTx.at p k⟩
theorem setTO_get {X : Cx} {pins : List (Addr × Obj)} {σ : L2.St} {H : Hp} {s : Shared} {a : Addr} {l : List Str} (I : Inv X pins σ H s) (at_ : H a = some (SetTO X.prog X.w a l)) : SetTx X.prog X.w s.heap a l := (I.hok a _ at_).1
def txOf : Value → Str
  | .str k _ => k
  | _ => Str.empty
theorem are_of : ∀ vs : List Value, (∀ v ∈ vs, ∃ k tk, v = Value.str k tk) → StrsAre vs (vs.map txOf)
  | [], _ => .nil
  | v :: vs, all => by
    obtain ⟨k, tk, e⟩ := all v List.mem_cons_self
    subst e
    exact .cons k tk (are_of vs fun u hu => all u (List.mem_cons_of_mem _ hu))
theorem perm_of_all : ∀ (l m : List Str), l.Nodup → (∀ x ∈ l, x ∈ m) → m.length = l.length → m.Perm l
  | [], m, _, _, len => by
    rw [List.length_eq_zero_iff.mp len]
  | x :: l, m, nd, sub, len => by
    have hx : x ∈ m := sub x List.mem_cons_self
    have nx := (List.nodup_cons.mp nd).1
    have back := List.perm_cons_erase hx
    refine back.trans (List.Perm.cons x (perm_of_all l (m.erase x) (List.nodup_cons.mp nd).2 (fun y hy => ?_) ?_))
    · exact (List.mem_erase_of_ne (fun e => nx (by rw [← e]; exact hy))).mpr (sub y (List.mem_cons_of_mem _ hy))
    · have z := back.length_eq
      simp only [List.length_cons] at z len
      omega
theorem str_of_is {P : Program} {w : World} {k : Str} {v : Value} (h : (strKind P w).is k v = true) : ∃ tk, v = .str k tk := by
  have h' : Value.isStrOf k v = true := h
  cases v <;> first
    | (simp only [Value.isStrOf, beq_iff_eq] at h'; exact ⟨_, by rw [h']⟩)
    | exact absurd h' Bool.false_ne_true
section
variable {P : Program} {w : World} {A : Around} {E : Value → Shared → Prop} {s : Shared} {a : Addr} {l : List Str}
theorem sorted_tx {Q : Value → Shared → Prop} (R : SetTx P w s.heap a l) (hh : A.handled = none) (few : l.length < 64)
    (fin : ∀ s' p (out : Array Value) (c : Nat) (ys : List Str), (∀ b o, s.heap.get? b = some o → s'.heap.get? b = some o) → s'.gens = s.gens → s'.os = s.os → s.heap.objs.size ≤ p →
      s'.heap.get? p = some (seqObj "list" out c) → StrsAre out.toList ys → ys.Perm l → sortedS ys = true → Q (.ref p) s') : wpAny (model P w) A (call (.builtin "sorted") [.ref a]) Q E s := by
  obtain ⟨⟨es, ep, t⟩, at_, F, nd, small, ris, led⟩ := R
  have many : es.size = l.length := F.sz
  have elems : ElemsOf (strKind P w) es.toList := F.el
  refine Calls.call_function_entry kind_sorted plain_sorted entry_sorted (args_sorted1 _) ?_
  unfold Builtin.«sorted»
  refine wpAny_bind (m := checkCount "sorted" 1 1 _) (wpAny_pure (wpAny_bind (collect_set (A := A.in1) (ep := ep) hh ⟨_, at_, rfl, rfl⟩ F.fit (by show es.size < scanBound; omega) ris led fun s1 vs keep size gens os pm => ?_)))
  have lenV : vs.length = l.length := by rw [pm.length_eq, List.length_map, Array.length_toList, many]
  have texts : ∀ e ∈ es.toList, ∃ tk, e.2 = Value.str (txOf e.2) tk := fun e he => by
    obtain ⟨⟨k, hk, _⟩, _⟩ := elems e he
    obtain ⟨tk, z⟩ := str_of_is hk
    exact ⟨tk, by rw [z]; rfl⟩
  have are : StrsAre vs (vs.map txOf) := are_of vs fun v hv => by
    obtain ⟨e, he, q⟩ := List.mem_map.mp (pm.mem_iff.mp hv)
    obtain ⟨tk, z⟩ := texts e he
    exact ⟨_, tk, by rw [← q]; exact z⟩
  have pl : (vs.map txOf).Perm l := perm_of_all l _ nd (fun k hk => by
    obtain ⟨e, he, z⟩ := (F.mem k).mp hk
    obtain ⟨tk, z2⟩ := str_of_is z
    exact List.mem_map.mpr ⟨e.2, pm.mem_iff.mpr (List.mem_map.mpr ⟨e, he, rfl⟩), by rw [z2]; rfl⟩) (by rw [List.length_map, lenV])
  refine wpAny_bind (wpAny_newList ?_ (by rw [lenV, sizeLine_eq]; omega))
  have new : (s1.heap.push (seqObj "list" vs.toArray 0)).get? s1.heap.objs.size = some (seqObj "list" vs.toArray 0) := Heap.get?_push_size _ rfl
  refine wpAny_bind (wpAny_holding (wpAny_call_entry slot_list_sort ⟨_, new, rfl⟩ entry_list_sort
    (list_sort_treeK strKind_oneLt new are.keysOf (fun _ _ _ e => keyKind_strs (by rw [← e]; exact are)) (by rw [lenV]; exact few) fun st' hp hs => ⟨_, rfl, ?_⟩) (args_list_sort _)))
  obtain ⟨ys, g1, g2, g3⟩ := sorted_out_str are hp hs
  obtain ⟨c, hc⟩ := sortedHeap_at (vs := vs) (out := (arrOf st').map (·.2)) new
  refine wpAny_pure ⟨_, rfl, fin _ s1.heap.objs.size _ c ys (fun b u e => ?_) gens os size hc g1 (g2.trans pl) g3⟩
  have old := keep b u e
  have lt := Heap.lt_size old
  refine (show (sortedHeap (s1.heap.push (seqObj "list" vs.toArray 0)) s1.heap.objs.size vs _).get? b = some u from ?_)
  rw [sortedHeap_old (Nat.ne_of_lt lt) (by rw [size_push']; exact Nat.lt_succ_of_lt lt)]
  exact Heap.get?_push_of_some _ old
end
section
variable {X : Cx}
/-- sorted of a set of fewer than 64 texts -/
def rSortTx (P : Program) (w : World) : List V → Hp → VK → Prop := fun vs H Q => ∃ (a : Addr) (l : List Str), vs = [.ref a] ∧ H a = some (SetTO P w a l) ∧ l.length < 64 ∧
  ∀ (ys : List Str) (p : Addr), ys.Perm l → sortedS ys = true → H p = none → Q (.ref p) (upd H p (.lst (ys.map V.str)))
theorem cr_sortTx (calm : X.calm = true) : CallR X (.builtin "sorted") (rSortTx X.prog X.w) := by
  intro pins s σ H vs us Q I r want
  obtain ⟨a, l, e, at_, few, q⟩ := want
  subst e
  rw [Vals.ref1 r]
  refine sorted_tx (setTO_get I at_) (I.ok.hd calm) few fun s' p out c ys k gn os hp hg are pl so => ?_
  have short : (ys.map V.str).length ≤ sizeLine := by
    rw [List.length_map, pl.length_eq, sizeLine_eq]
    omega
  have np : H p = none := I.hok.fresh hp
  have e : s' = { s with heap := s'.heap, gens := s'.gens, drawn := s'.drawn, toks := s'.toks } := by
    cases s'
    cases s
    cases os
    rfl
  rw [e]
  refine ⟨.ref p, upd H p (.lst (ys.map V.str)), ?_, rfl, q ys p pl so np⟩
  exact I.call (ch := []) (Un.laid k hp np) (I.hok.laid k hp ⟨short, out.toList, c, vals_of_strs are, hg⟩) (by rw [gn]; exact I.bare) fun _ z => nomatch z
end
end Tx
/-! ### a set comprehension of texts -/
namespace Tx
open PySem PySem.Spec PyProof.Rows L2
open PySem.Froz (SD sObj TxOk addTx tailTx)
section
variable {X : Cx}
theorem addT_ok {pins : List (Addr × Obj)} {σ : L2.St} {H : Hp} {s : Shared} {E : Value → Shared → Prop} {D : Addr} {l : List Str} {k : Str} {u : Tok} {Q : Value → Shared → Prop} (I : Inv X pins σ H s) (at_ : H D = some (SetTO X.prog X.w D l)) (room : l.length + 1 < scanBound)
    (fin : ∀ s', Inv X pins σ (upd H D (SetTO X.prog X.w D (ins k l))) s' → Q .none s') : wpAny (model X.prog X.w) X.A (call (.builtin "set.add") [.ref D, .str k u]) Q E s := by
  refine add_text (setTO_get I at_) room fun h' tk sb R => fin _ ?_
  obtain ⟨D', e', _⟩ := id R
  exact I.write (e := D) (t' := tk) (by rw [at_]; trivial) (.inl rfl) (fun b u hb hu => (sb.2 b hb).trans hu) ⟨_, e'⟩ (setTO_new R)
/-- what {elt for target in iter if ..} asks, elt a text: D is the new set -/
def tScT (P : Program) (w : World) (wi : TI) (g : TG) (tt : TT) (te : TE) (vs : List Nat) : TE := fun σ H Q => wi σ H fun J H1 => ∀ D, H1 D = none → ∃ W : Nat → Nat → Hp → Prop, (∃ m, W 0 m (upd H1 D (SetTO P w D []))) ∧ ∀ i m H, W i m H →
  (J.stop i H ∧ Q (.ref D) H) ∨ (J.go i H ∧ ∃ Nx : Hp → Prop, (∀ H', Nx H' → ∃ m', m' < m ∧ W (i + 1) m' H') ∧ ∀ x H', J.yld i H x H' → g x (wipe σ vs) H' fun σ2 H2 => wipe σ2 vs = wipe σ vs ∧ tt σ2 H2 fun b H3 =>
    if b = true then te σ2 H3 fun y H4 => ∃ (c : Str) (l : List Str), y = .str c ∧ H4 D = some (SetTO P w D l) ∧ l.length + 1 < scanBound ∧ Nx (upd H4 D (SetTO P w D (ins c l))) else Nx H3)
theorem pe_scT {elt tg iter : Expr} {ifs : List Expr} {scope : Scope} {own : List (PySem.Str × Nat)} {pos : Pos} {wi : TI} {g : TG} {tt : TT} {te : TE} (calm : X.calm = true) (nd : X.N.Nodup) (pi : PI X tg iter wi) (ok : BlkOk X.N X.env.scope scope own)
    (gg : ∀ (s : Shared) (H : Hp) (C : Addr) (cl : List (PySem.Str × Addr)) (fp : List Addr), PG (X.blk s H scope (compEnvC scope cl C X.env) fp) tg g)
    (gt : ∀ (s : Shared) (H : Hp) (C : Addr) (cl : List (PySem.Str × Addr)) (fp : List Addr), PTs (X.blk s H scope (compEnvC scope cl C X.env) fp) ifs tt)
    (ge : ∀ (s : Shared) (H : Hp) (C : Addr) (cl : List (PySem.Str × Addr)) (fp : List Addr), PE (X.blk s H scope (compEnvC scope cl C X.env) fp) elt te) (plain : ∀ x, foldedSetIterable iter X.env x = pure x := by intro _; rfl) :
    PE X (.SetComp elt [⟨tg, iter, ifs, 0⟩] scope pos) (tScT X.prog X.w wi g tt te (own.map (·.2))) := by
  refine ⟨fun pins s0 σ H Q I want => ?_⟩
  rw [PpSet.eval_SetComp]
  have caught : ∀ y ∈ scope.names, y.2 = .free → ∃ c, X.env.cells.lookup y.1 = some c := fun y hy e => (ok.free y hy e).elim (fun z => I.ok.has _ (.inl z)) fun z => I.ok.has _ (.inr z)
  refine wpAny_comprehension_free (use := none) rfl plain (closure_ok caught) ok.kind (fun y hy e => by rw [ok.uniq y hy, e]) (thn (pi.run pins s0 σ H _ I want) fun xv s1 hx => thn hx fun itv s2 ⟨it, fp, tn, J, H2, e2, I2, T, st2, f2, q⟩ => ?_)
  subst e2
  refine PpSet.newSet_ok (newEnv_comp ?_)
  have free2 : H2 s2.heap.objs.size = none := I2.hok.fresh (Nat.le_refl _)
  obtain ⟨W, ⟨m0, w0⟩, turn⟩ := q s2.heap.objs.size free2
  -- the new set stands at D
  have I3 := I2.laid (t' := s2.toks) (a := s2.heap.objs.size) (o := SetTO X.prog X.w s2.heap.objs.size []) (fun b o e => Heap.get?_push_of_some { cls := .type "set", dict := none, data := .set #[] 0 (.fresh 0 0 (!X.w.params.followText "set-order")) } e) (Nat.le_refl _) (setTO_new fresh_tx)
  have below : ∀ b ∈ fp, b < s2.heap.objs.size := fun b hb => let ⟨o, e, _⟩ := T.obj _ _ st2 b hb; Heap.lt_size e
  have st3 := T.keep _ _ (s2.heap.push { cls := .type "set", dict := none, data := .set #[] 0 (.fresh 0 0 (!X.w.params.followText "set-order")) }) st2 fun b _ o e => Heap.get?_push_of_some _ e
  have sz3 : (s2.heap.push { cls := .type "set", dict := none, data := .set #[] 0 (.fresh 0 0 (!X.w.params.followText "set-order")) }).objs.size = s2.heap.objs.size + 1 := size_push' _ _
  have f3 : ∀ b ∈ fp, FpOk X pins (upd H2 s2.heap.objs.size (SetTO X.prog X.w s2.heap.objs.size [])) b ∧ b < s2.heap.objs.size + 1 := fun b hb =>
    ⟨⟨by rw [upd_ne (Nat.ne_of_lt (below b hb))]; exact (f2 b hb).1, (f2 b hb).2⟩, Nat.lt_succ_of_lt (below b hb)⟩
  generalize s2.heap.objs.size = D at w0 turn I3 f3 sz3 ⊢
  generalize upd H2 D (SetTO X.prog X.w D []) = H3 at w0 I3 f3
  obtain ⟨s3, e3⟩ : ∃ s3 : Shared, s3 = { s2 with heap := s2.heap.push { cls := .type "set", dict := none, data := .set #[] 0 (.fresh 0 0 (!X.w.params.followText "set-order")) } } := ⟨_, rfl⟩
  have I3' : Inv X pins σ H3 s3 := by rw [e3]; exact I3
  have st3' : tn 0 s3.heap := by rw [e3]; exact st3
  have f3' : ∀ b ∈ fp, FpOk X pins H3 b ∧ b < s3.heap.objs.size := fun b hb => ⟨(f3 b hb).1, by rw [e3]; show b < _; rw [sz3]; exact (f3 b hb).2⟩
  rw [← e3]
  clear e3 I3 st3 f3 sz3
  -- the block's own environment
  show codeAny _ _ (.compStart (.SetComp elt [⟨tg, iter, ifs, 0⟩] scope pos) 0 (.ref it) (.ref D) (compEnvC scope (cellsFrom (s3.heap.objs.size + 1) scope.names (cloFrom X.env.cells scope.names [])) s3.heap.objs.size X.env)) _ { s3 with heap := pushCells (s3.heap.push { cls := .type "dict", data := .dict #[] }) scope.names }
  have I4 := block_start I3' ok nd f3'
  have st4 : tn 0 (pushCells (s3.heap.push { cls := .type "dict", data := .dict #[] }) scope.names) := T.keep _ _ _ st3' fun b _ o e => pushCells_keeps _ _ _ _ (Heap.get?_push_of_some _ e)
  generalize cellsFrom (s3.heap.objs.size + 1) scope.names (cloFrom X.env.cells scope.names []) = cells at I4 ⊢
  have pg := gg s3 H3 s3.heap.objs.size cells fp
  have pt := gt s3 H3 s3.heap.objs.size cells fp
  have pe := ge s3 H3 s3.heap.objs.size cells fp
  have free3 : ∀ b ∈ fp, H3 b = none := fun b hb => (f3' b hb).1.1
  generalize hce : compEnvC scope cells s3.heap.objs.size X.env = ce at I4 pg pt pe ⊢
  have cL : ce.locals = s3.heap.objs.size := by rw [← hce]; rfl
  generalize hs4 : ({ s3 with heap := pushCells (s3.heap.push { cls := .type "dict", data := .dict #[] }) scope.names } : Shared) = s4 at I4 ⊢
  have st4' : tn 0 s4.heap := by rw [← hs4]; exact st4
  let B := X.blk s3 H3 scope ce fp
  -- what the loop keeps
  let Kp : Nat → Shared → Prop := fun n s' => ∃ i H', Inv B [] (wipe σ (own.map (·.2))) H' s' ∧ tn i s'.heap ∧ (∀ b ∈ fp, H' b = none) ∧ W i n H'
  have held : ∀ {σ' : L2.St} {H' : Hp} {s' : Shared}, Inv B [] σ' H' s' → (∀ b ∈ fp, H' b = none) → ∀ b ∈ fp, FpOk B [] H' b := fun J n b hb => ⟨n b hb, (J.ok.exf b hb).1, J.ok.exfs b hb, .inl hb, fun x c e => (J.ok.exf b hb).2 x c e, fun p hp => (List.not_mem_nil hp).elim⟩
  refine PpSet.codeAny_compStart_set (?loop) (T.self X.A 0 _ _ _ st4' ?loop)
  refine PpSet.compLoopS_any Kp ?_ m0 ⟨0, H3, I4, st4', free3, w0⟩
  rintro n s5 ⟨i, H5, I5, st5, n5, w5⟩
  rcases turn i n H5 w5 with ⟨stop, fin⟩ | ⟨go, Nx, less, step⟩
  · refine thnF (T.done B rfl rfl rfl calm i [] s5 _ H5 (fun _ _ => False) I5 (held I5 n5) st5 stop) fun r s6 ⟨hr, I6⟩ => ?_
    subst hr
    have I7 : Inv X pins σ H5 s6 := I3'.call' (ch := fp) I6.os I6.base I6.hok I6.bare fun b hb => ⟨(f3' b hb).1.2.2.2.1, (f3' b hb).1.2.1, (f3' b hb).1.2.2.2.2.1, (f3' b hb).1.2.2.2.2.2⟩
    obtain ⟨m, hn, _⟩ := I6.loc
    have hn' : s6.heap.Ns ce.locals m := hn
    have nC : H5 ce.locals = none := I6.free
    rw [cL] at hn' nC
    obtain ⟨f0, f1, f2, f3, f4, f5⟩ := I3'.fpOk (Nat.le_refl _) nC
    exact ⟨m, hn', fun h'' sb => ⟨.ref D, H5, I7.turned (t' := s6.toks) (fun b o hb e => (sb.2 b hb).trans e) f0 f1 f3 f4 f5, rfl, fin⟩⟩
  · refine thnF (T.item B rfl rfl rfl calm i [] s5 _ H5 (fun _ _ => False) I5 (held I5 n5) st5 go) fun r s6 ⟨u, hr, h6⟩ => ?_
    subst hr
    refine thnF h6 fun _ s7 ⟨x, H7, I7, r7, y7, st7, n7⟩ => ?_
    have pinned := I7.pinned (held I7 n7) (T.obj _ _ st7)
    refine thnF (pg.run _ s7 _ H7 x u _ pinned r7 (step x H7 y7)) fun _ s8 ⟨σ8, H8, I8, hw8, q8⟩ => thnF (pt.run _ s8 σ8 H8 _ I8 q8) fun b s9 ⟨H9, I9, q9⟩ => ?_
    -- the end of a turn
    have ends : ∀ {s' : Shared} {H' : Hp}, Inv B ([] ++ pinsAt fp s7.heap) σ8 H' s' → Nx H' → ∃ m, m < n ∧ Kp m s' := fun {s' H'} J nx => by
      obtain ⟨m', hm, w'⟩ := less H' nx
      have at7 : ∀ b ∈ fp, ∀ o, s7.heap.get? b = some o → s'.heap.get? b = some o ∧ H' b = none := fun b hb o e => by
        obtain ⟨z1, z2, _⟩ := J.pin (b, o) (List.mem_append_right _ (List.mem_append_right _ (mem_pinsAt hb e)))
        exact ⟨z1, z2⟩
      refine ⟨m', hm, i + 1, H', (J.unpinned (pins := [])).weak (by rw [← hw8, wipe_length]) (fun j v e => ?_), T.keep _ _ _ st7 fun b hb o e => (at7 b hb o e).1, fun b hb => ?_, w'⟩
      · rw [← hw8] at e
        exact (wipe_some e).1
      · obtain ⟨o, e, _⟩ := T.obj _ _ st7 b hb
        exact (at7 b hb o e).2
    cases b with
    | false =>
      simp only [Bool.false_eq_true, if_false] at q9 ⊢
      exact ends I9 q9
    | true =>
      simp only [if_true] at q9 ⊢
      refine thnF (pe.run _ s9 σ8 H9 _ I9 q9) fun z s10 ⟨yv, H10, I10, r10, c, l, ey, at10, room, nx⟩ => ?_
      subst ey
      obtain ⟨tk, rfl⟩ := r10
      exact addT_ok (X := B) I10 at10 room fun s11 I11 => ends I11 nx
end
end Tx
/-! ### such a comprehension over a tuple, over a list -/
namespace Tx
open PySem PySem.Spec PyProof.Rows L2
theorem scT_any {P : Program} {w : World} {J : It} {xs : List V} {g : TG} {tt : TT} {te : TE} {vs : List Nat} {σ : L2.St} {H1 : Hp} {D : Addr} {Qd : Hp → Prop} {Sq : Hp → Prop} (go : ∀ i H, Sq H → i < xs.length → J.go i H) (stop : ∀ H, Sq H → J.stop xs.length H)
    (yld : ∀ i H x H', Sq H → i < xs.length → J.yld i H x H' → H' = H ∧ xs[i]? = some x) (Pv : Nat → Hp → Prop) (h0 : Pv 0 (upd H1 D (SetTO P w D []))) (hl : ∀ i H, i ≤ xs.length → Pv i H → Sq H)
    (hs : ∀ i x H, xs[i]? = some x → Pv i H → g x (wipe σ vs) H fun σ2 H2 => wipe σ2 vs = wipe σ vs ∧ tt σ2 H2 fun b H3 =>
      if b = true then te σ2 H3 fun y H4 => ∃ (c : Str) (l : List Str), y = .str c ∧ H4 D = some (SetTO P w D l) ∧ l.length + 1 < scanBound ∧ Pv (i + 1) (upd H4 D (SetTO P w D (ins c l))) else Pv (i + 1) H3) (hd : ∀ H, Pv xs.length H → Qd H) :
    ∃ W : Nat → Nat → Hp → Prop, (∃ m, W 0 m (upd H1 D (SetTO P w D []))) ∧ ∀ i m H, W i m H → (J.stop i H ∧ Qd H) ∨ (J.go i H ∧ ∃ Nx : Hp → Prop, (∀ H', Nx H' → ∃ m', m' < m ∧ W (i + 1) m' H') ∧ ∀ x H', J.yld i H x H' → g x (wipe σ vs) H' fun σ2 H2 => wipe σ2 vs = wipe σ vs ∧ tt σ2 H2 fun b H3 =>
      if b = true then te σ2 H3 fun y H4 => ∃ (c : Str) (l : List Str), y = .str c ∧ H4 D = some (SetTO P w D l) ∧ l.length + 1 < scanBound ∧ Nx (upd H4 D (SetTO P w D (ins c l))) else Nx H3) := by
  refine ⟨fun i m H => m + i = xs.length ∧ Pv i H, ⟨xs.length, rfl, h0⟩, fun i m H ⟨len, pv⟩ => ?_⟩
  have sq := hl i H (by omega) pv
  by_cases more : i < xs.length
  · refine .inr ⟨go i H sq more, Pv (i + 1), fun H' p' => ⟨m - 1, by omega, by omega, p'⟩, fun x H' y => ?_⟩
    obtain ⟨e, hx⟩ := yld i H x H' sq more y
    subst e
    exact hs i x _ hx pv
  · have e : i = xs.length := by omega
    subst e
    exact .inl ⟨stop H sq, hd H pv⟩
theorem itt_go {K : PySem.W.Frag} {a : Addr} {xs : List V} : ∀ i H, SqT K H a xs → i < xs.length → (Itt K a).go i H := fun i H q lt => ⟨xs, xs[i], q, by simp [lt]⟩
theorem itt_stop {K : PySem.W.Frag} {a : Addr} {xs : List V} : ∀ H, SqT K H a xs → (Itt K a).stop xs.length H := fun H q => ⟨xs, q, Nat.le_refl _⟩
theorem itt_yld {K : PySem.W.Frag} {a : Addr} {xs : List V} : ∀ i H x H', SqT K H a xs → i < xs.length → (Itt K a).yld i H x H' → H' = H ∧ xs[i]? = some x := fun i H x H' q _ y => ⟨y.1, y.2 xs q⟩
theorem itl_go {K : PySem.W.Frag} {a : Addr} {xs : List V} : ∀ i H, SqL K H a xs → i < xs.length → (Itl K a).go i H := fun i H q lt => ⟨xs, xs[i], q, by simp [lt]⟩
theorem itl_stop {K : PySem.W.Frag} {a : Addr} {xs : List V} : ∀ H, SqL K H a xs → (Itl K a).stop xs.length H := fun H q => ⟨xs, q, Nat.le_refl _⟩
theorem itl_yld {K : PySem.W.Frag} {a : Addr} {xs : List V} : ∀ i H x H', SqL K H a xs → i < xs.length → (Itl K a).yld i H x H' → H' = H ∧ xs[i]? = some x := fun i H x H' q _ y => ⟨y.1, y.2 xs q⟩
end Tx

/-! W1 -/
/-! ### repr of any data, where no repr is under way -/
namespace L2
open PySem PySem.Spec PyProof.Rows
/-- what repr(x) asks -/
def rReprD (K : PySem.W.Frag) : List V → Hp → VK → Prop := fun xs H Q => ∃ (x : V) (d : PyData), xs = [x] ∧ Dq K H x d ∧ (d.hasDict = false ∨ d = .dict []) ∧ d.showable = true ∧ d.depth ≤ 40 ∧ d.shown.length ≤ sizeLine ∧ Q (.str d.shown) H
theorem call_reprD {X : Cx} (hg : X.A.guards = some []) (hu : X.A.units + 64 < cLine) : CallR X (.builtin "repr") (rReprD X.K) := by
  intro pins s σ H xs us Q I r h
  obtain ⟨x, d, rfl, hd, hk, hs, hdep, hz, q⟩ := h
  obtain ⟨u, rfl, ru⟩ := vals1 r
  have last : ∀ {a : Addr} {as : List Addr}, u = .ref a → Reads s.heap (.ref a) d as → (d.hasDict = true → sysModules ∉ as) → wpAny (model X.prog X.w) X.A (call (.builtin "repr") [u]) (fun v s' => EP X pins σ Q v s') X.xe s := fun e rd no => by
    subst e
    exact PySem.repr_of_reads' rd hs no hg (by omega) (fun _ _ z => z) (fun h' t tk kk => ⟨.str d.shown, H, I.kept kk, ⟨_, rfl⟩, q⟩) hz
  cases hd with
  | non =>
    cases ru
    simp only [PyData.shown] at q
    exact PySem.P.repr_of_none ⟨.str _, H, I.tok _, ⟨_, rfl⟩, q⟩
  | bl b =>
    cases ru
    simp only [PyData.shown] at q
    refine PySem.P.repr_of_bool ⟨.str _, H, I.tok _, ⟨_, rfl⟩, ?_⟩
    cases b <;> exact q
  | int i =>
    obtain ⟨t, rfl⟩ := ru
    simp only [PyData.shown] at q
    exact PySem.P.repr_of_int (by simpa [PyData.showable] using hs) ⟨.str _, H, I.tok _, ⟨_, rfl⟩, q⟩
  | str y =>
    obtain ⟨t, rfl⟩ := ru
    simp only [PyData.shown] at q
    exact PySem.P.repr_of_str ⟨.str _, H, I.tok _, ⟨_, rfl⟩, q⟩ (by simpa only [PyData.shown] using hz)
  | lst hq ha =>
    have hz2 : ∀ t ∈ PyData.shownAll _, t.length ≤ sizeLine := fun t ht => Nat.le_trans (listText_mem_le ht) (by simpa only [PyData.shown] using hz)
    cases ru
    obtain ⟨its, rv, ⟨o, n, ho, hc, _, hd⟩, _⟩ := I.list hq
    obtain ⟨as, bs, hr, _⟩ := Dq.reprsAll I _ _ its ha rv (by simpa [PyData.showable] using hs) hz2
    exact last rfl (Reads.list ho hc hd hr) fun z => by
      rcases hk with k | k
      · rw [k] at z; cases z
      · cases k
  | tup hq ha =>
    have hz2 : ∀ t ∈ PyData.shownAll _, t.length ≤ sizeLine := fun t ht => Nat.le_trans (tupleText_mem_le ht) (by simpa only [PyData.shown] using hz)
    cases ru
    obtain ⟨its, rv, ⟨o, ho, hc, n, hd⟩, _⟩ := I.tuple hq
    obtain ⟨as, bs, hr, _⟩ := Dq.reprsAll I _ _ its ha rv (by simpa [PyData.showable] using hs) hz2
    exact last rfl (Reads.tuple ho hc hd hr) fun z => by
      rcases hk with k | k
      · rw [k] at z; cases z
      · cases k
  | @dic a ea =>
    cases ru
    obtain ⟨_, hsys, vs, kv, o, es, ep, h1, h2, h3⟩ := (show ObjOk X.prog X.w H s.heap a (.dK []) from I.hok a _ ea)
    cases kv
    have hes : es.toList = [] := List.eq_nil_of_length_eq_zero (by rw [PySem.Pairs.length h3.2.2.1]; rfl)
    refine last rfl (Reads.dict (kvs := []) h1 h2.1 h3.1 (by rw [hes]; exact .nil) (by rw [hes]; exact .nil)) fun _ z => ?_
    rcases List.mem_cons.mp z with z | z
    · rw [← z] at hsys
      simp at hsys
    · exact absurd z List.not_mem_nil
end L2
/-! ### static methods off their class -/
namespace L2
open PySem PySem.Spec PyProof.Rows
/-- C.m is a staticmethod: its record at p, its def at g -/
structure SMet (K : PySem.W.Frag) (C : Addr) (m : Str) (p g : Addr) : Prop where
  rd : PySem.W.readsIn K C (.type "type") = true
  ga : PySem.W.specialIn K (.ref C) "__getattribute__" = some (some (.builtin "type.__getattribute__"))
  at_ : PySem.W.findCls K (.ref C) (.type "type") m = some (.get (.builtin "staticmethod.__get__") (.ref p) .none (.ref C))
  rc : ∃ rest, PySem.W.recIn K p "staticmethod" = some (.ref g :: rest)
  kp : PySem.W.keepIn K (.ref g) = true
def tSMeth (C : Addr) (sp : Sp) (E : St → XK) (ta : TE) (t : TA) : TE := fun σ H Q => ta σ H fun x H1 => x = .ref C ∧ t σ H1 fun vs H2 => sp vs H2 Q (E σ)
section
variable {X : Cx} {pins : List (Addr × Obj)} {σ : St} {H : Hp} {s : Shared} {C p g : Addr} {m : Str} {pl : Sem Bool}
theorem getmethsm_ok {Q : Value × List Value → Shared → Prop} {A : Around} {E : Value → Shared → Prop} (I : Inv X pins σ H s) (k : SMet X.K C m p g) (h : ∀ s', Inv X pins σ H s' → Q (.ref g, []) s') : wpAny (model X.prog X.w) A (getMethod (.ref C) m pl) Q E s := by
  obtain ⟨rest, hp⟩ := k.rc
  refine PySem.W.method_cls I.kIn k.ga (PySem.W.cls_bind I.kIn k.rd k.at_ (wpAny_call (PySem.W.sm_get (s := { s with toks := s.toks + 1 }) I.kIn hp (PySem.W.handed_on rfl ?_))))
  exact h _ (I.tok _)
theorem run_fnRS {CX : CXT} {k : Nat} {sp : Sp} {E : XK} {Q : VK} {us : List Value} {vs : List V} (F : FnR X.prog X.w X.K X.mg X.base CX k g sp) (hr : Room k X.A) (hx : PassesAt CX X σ E) (I : Inv X pins σ H s) (r : Vals vs us) (h : sp vs H Q E) :
    wpAny (model X.prog X.w) X.A (call (.ref g) us) (EP X pins σ Q) X.xe s := by
  refine wpAny_call (codeAny_mono (F X.A X.stack s H us vs Q E hr I.env0 r h) fun r s' hq => ?_)
  cases r with
  | error e => exact hx pins H s e s' I hq
  | ok fl =>
    cases fl with
    | ret u => exact I.after hq
    | next => exact False.elim hq
    | brk => exact False.elim hq
    | cont => exact False.elim hq
variable {CX : CXT} {k : Nat} {sp : Sp} {E : St → XK} {o e : Expr} {es : List Expr} {ta : TE} {t : TA} {pos apos : Pos}
theorem pe_smeth (he : PE X o ta) (c : SMet X.K C m p g) (F : FnR X.prog X.w X.K X.mg X.base CX k g sp) (hr : Room k X.A) (hx : ∀ σ, PassesAt CX X σ (E σ)) (ha : PA X (e :: es) t)
    (hst : starEach (e :: es) X.env = (false, eval e X.env) :: starEach es X.env := by rfl) (hpl : (backTo pos (starEach es X.env)).any (·.1) = false := by rfl)
    (ht : eval (.Call (.Attribute o m apos) (e :: es) [] pos) X.env = (do
      let v ← eval o X.env
      standAt apos.atName
      let (f, first) ← holding [v] (getMethod v m pl)
      callWith pos f first (backTo pos (starEach (e :: es) X.env)) (backToKw pos (keywordEach [] X.env))) := by rfl) :
    PE X (.Call (.Attribute o m apos) (e :: es) [] pos) (tSMeth C sp E ta t) := by
  refine ⟨fun pins s σ H Q I h => ?_⟩
  refine PySem.W.methodCall_KW (pl := pl) (thn (he.run pins s σ H _ I h) fun u s1 ⟨x, H1, I1, rx, ex, q⟩ => ?_) ht
  subst ex
  obtain rfl : u = Value.ref C := rx
  refine getmethsm_ok I1 c fun s2 I2 => ?_
  exact PySem.W.callWith_K (h₀ := X.base) I2.ok.mod.kin c.kp (thn (ha.run pos pins s2 σ H1 _ I2 q) fun us s3 ⟨vs, H2, I3, rv, q2⟩ => ⟨I3.kIn, run_fnRS F hr (hx σ) I3 rv q2⟩) hst hpl
end
/-! ### a def that is called where no repr is under way -/
section
variable {X : Cx} {CX : CXT} {k : Nat} {f : Addr} {fd : FuncData} {ps : List Str} {sp : Sp} {E : XK} {x : Str} {e : Expr} {es : List Expr} {t : TA} {p pos : Pos}
theorem pe_callG (F : FnOkG X.prog X.w X.K X.mg X.base CX k f fd ps sp) (free : X.A.guards = some []) (hr : Room k X.A) (hg : Gl X x) (hm : X.mg x = some (.ref f)) (hk : PySem.W.keepIn X.K (.ref f) = true) (hb : Binds X.K fd ps []) (hx : Passes CX X E)
    (ha : PA X (e :: es) t) (hdb : (x == ("__debug__" : Str)) = false := by decide) (he : starEach (e :: es) X.env = (false, eval e X.env) :: starEach es X.env := by rfl) (hpl : (backTo pos (starEach es X.env)).any (·.1) = false := by rfl) :
    PE X (.Call (.Name x p) (e :: es) [] pos) (tCall sp [] E t) := by
  refine ⟨fun pins s σ H Q I h => ?_⟩
  refine wpAny_Call_Name_kw (ld_glob I hg hm ?_ hdb)
  refine PySem.W.callWith_K (h₀ := X.base) I.ok.mod.kin hk (thn (ha.run pos pins s σ H _ I h) fun us s1 ⟨vs, H1, I1, r, q⟩ => ⟨I1.kIn, ?_⟩) he hpl
  have q2 : sp (vs ++ []) H1 Q E := q
  rw [List.append_nil] at q2
  have many : (us ++ []).length = ps.length := by rw [List.append_nil, ← r.length]; exact F.len _ _ _ _ q2
  have bind := hb s1 us I1.kIn many
  rw [List.append_nil] at bind
  refine wpAny_call (codeAny_mono (F.run X.A X.stack s1 H1 ⟨us, []⟩ us vs Q E free hr I1.env0 bind r q2) fun r s' hq => ?_)
  cases r with
  | error er => exact hx pins σ H1 s1 er s' I1 hq
  | ok fl =>
    cases fl with
    | ret u => exact I1.after hq
    | next => exact False.elim hq
    | brk => exact False.elim hq
    | cont => exact False.elim hq
end
end L2

/-! W2 -/
/-! ### the law's own look at a step -/
namespace Rw
open PySem PySem.Spec PyProof.Rows L2
def W10 : List Str := ["cancel", "bar", "halt", "settle", "close", "drain", "set", "clear", "take", "give"]
/-- any value beside a word, and whether it is a name -/
inductive FN (K : PySem.W.Frag) (H : Hp) : V → Bool → Prop
  | str (z : Str) : z.length ≤ 1000 → sOk z → FN K H (.str z) (nameB z)
  | other {v : V} {T : String} : TyX K H v (.type T) → T ∈ oddTys → FN K H v false
theorem FN.nv {K : PySem.W.Frag} {H : Hp} {v : V} {b : Bool} (h : FN K H v b) : NV K H v b := by
  cases h with
  | str z a b => exact .str z (by omega)
  | other a b => exact .other a b
theorem FN.same {K : PySem.W.Frag} {H H' : Hp} (e : Same H H') {v : V} {b : Bool} (h : FN K H v b) : FN K H' v b := by
  cases h with
  | str z a b => exact .str z a b
  | other a b => exact .other (TyX_same e a) b
/-- any value that the law draws, and the step that it is -/
inductive FV (K : PySem.W.Frag) (d : Addr) (H : Hp) : V → Option Step → Prop
  | good {p : Addr} {w n : Str} : SqT K H p [.str w, .str n] → w ∈ W10 → n.length ≤ 1000 → sOk n → nameB n = true → FV K d H (.ref p) (some (w, n))
  | name {p : Addr} {w : Str} {b : V} : SqT K H p [.str w, b] → w ∈ W10 → FN K H b false → FV K d H (.ref p) none
  | word {p : Addr} {w : Str} {b : V} : SqT K H p [.str w, b] → w ∉ W10 → PySem.W.nsIn K d w = some none → FV K d H (.ref p) none
  | first {p : Addr} {a b : V} {T : String} : SqT K H p [a, b] → TyX K H a (.type T) → T ∈ oddTys → flatV a = true → inV a (W10.map V.str) = false → FV K d H (.ref p) none
  | len {p : Addr} {xs : List V} : SqT K H p xs → xs.length ≠ 2 → FV K d H (.ref p) none
  | other {v : V} {T : String} : TyX K H v (.type T) → T ∈ noTup → FV K d H v none
theorem FV.same {K : PySem.W.Frag} {d : Addr} {H H' : Hp} (e : Same H H') {v : V} {r : Option Step} (h : FV K d H v r) : FV K d H' v r := by
  cases h with
  | good a b c f g => exact .good (e.tupS a) b c f g
  | name a b c => exact .name (e.tupS a) b (c.same e)
  | word a b c => exact .word (e.tupS a) b c
  | first a b c f g => exact .first (e.tupS a) (TyX_same e b) c f g
  | len a b => exact .len (e.tupS a) b
  | other a b => exact .other (TyX_same e a) b
theorem w10_good : ∀ w ∈ W10, plainW w ∧ sOk w := by
  intro w h
  simp only [W10, List.mem_cons, List.mem_nil_iff, or_false] at h
  rcases h with rfl | rfl | rfl | rfl | rfl | rfl | rfl | rfl | rfl | rfl <;> exact ⟨⟨by decide +kernel, by decide +kernel, by decide +kernel⟩, by decide +kernel⟩
theorem FV.svg {K : PySem.W.Frag} {d : Addr} {H : Hp} (hW : ∀ w ∈ W10, ∃ u, PySem.W.nsIn K d w = some (some u)) {v : V} {r : Option Step} (h : FV K d H v r) : SVG K d H v r := by
  cases h with
  | good a b c f g =>
    obtain ⟨u, hu⟩ := hW _ b
    exact ⟨.good a hu (by omega) g, fun s e => by cases e; exact ⟨(w10_good _ b).1, (w10_good _ b).2, f⟩⟩
  | name a b c =>
    obtain ⟨u, hu⟩ := hW _ b
    exact ⟨.name a hu c.nv, fun s e => nomatch e⟩
  | word a b c => exact ⟨.word a c, fun s e => nomatch e⟩
  | first a b c f g => exact ⟨.first a b c, fun s e => nomatch e⟩
  | len a b => exact ⟨.len a b, fun s e => nomatch e⟩
  | other a b => exact ⟨.other a b, fun s e => nomatch e⟩
theorem az_list : (("abcdefghijklmnopqrstuvwxyz" : Str).cps.toList : List Nat) = List.range' 97 26 := by decide +kernel
theorem lt1 (a b : Nat) : ([a] < [b]) ↔ a < b := by
  constructor
  · intro h
    rcases List.cons_lt_cons_iff.mp h with h | ⟨_, h⟩
    · exact h
    · exact absurd h (List.lt_irrefl _)
  · intro h
    exact List.cons_lt_cons_iff.mpr (.inl h)
theorem letB_az (c : Nat) : letB c = decide (c ∈ (("abcdefghijklmnopqrstuvwxyz" : Str).cps.toList : List Nat)) := by
  rw [az_list]
  unfold letB
  by_cases h1 : c < 97
  · rw [decide_eq_true ((lt1 c 97).mpr h1), if_neg (by decide), decide_eq_false]
    rw [List.mem_range'_1]
    omega
  · rw [decide_eq_false (fun e => h1 ((lt1 c 97).mp e)), if_pos (by rfl)]
    by_cases h2 : 122 < c
    · rw [decide_eq_true ((lt1 122 c).mpr h2), decide_eq_false]
      · rfl
      · rw [List.mem_range'_1]
        omega
    · rw [decide_eq_false (fun e => h2 ((lt1 122 c).mp e)), decide_eq_true]
      · rfl
      · rw [List.mem_range'_1]
        omega
/-- the signs that are no letters -/
def oddS (cs : List Nat) : List Str := (cs.filter fun c => !letB c).map fun c => ⟨#[c]⟩
theorem oddS_nil (cs : List Nat) : decide (oddS cs = []) = (cs.map letB).all id := by
  unfold oddS
  induction cs with
  | nil => rfl
  | cons c cs ih =>
    rw [List.map_cons, List.all_cons, ← ih, List.filter_cons]
    cases h : letB c with
    | true => rfl
    | false =>
      show decide ((c :: cs.filter _).map _ = []) = (false && _)
      rw [Bool.false_and, decide_eq_false]
      rw [List.map_cons]
      exact List.cons_ne_nil _ _
theorem oddS_snoc (cs : List Nat) (c : Nat) : oddS (cs ++ [c]) = if letB c = true then oddS cs else oddS cs ++ [⟨#[c]⟩] := by
  unfold oddS
  rw [List.filter_append, List.map_append]
  cases h : letB c with
  | true =>
    rw [if_pos rfl]
    have e : [c].filter (fun c => !letB c) = [] := by
      rw [List.filter_cons, h]
      rfl
    rw [e, List.map_nil, List.append_nil]
  | false =>
    rw [if_neg Bool.false_ne_true]
    have e : [c].filter (fun c => !letB c) = [c] := by
      rw [List.filter_cons, h]
      rfl
    rw [e]
    rfl
theorem oddS_len (cs : List Nat) : (oddS cs).length ≤ cs.length := by
  unfold oddS
  rw [List.length_map]
  exact List.length_filter_le _ _
theorem sOk_at {z : Str} (h : sOk z) : ∀ c ∈ z.cps.toList, c < 0x110000 := by
  intro c hc
  have h1 : z.cps.all (fun x => decide (x < 0x110000)) = true := h
  rw [← Array.all_toList] at h1
  exact of_decide_eq_true (List.all_eq_true.mp h1 c hc)
theorem sOk_one {c : Nat} (h : c < 0x110000) : sOk ⟨#[c]⟩ := by
  show (#[c] : Array Nat).all (fun x => decide (x < 0x110000)) = true
  rw [← Array.all_toList]
  exact List.all_eq_true.mpr fun x hx => by
    rcases List.mem_cons.mp hx with rfl | hx
    · exact decide_eq_true h
    · cases hx
theorem oddS_ok {z : Str} (h : sOk z) : ∀ n ∈ oddS z.cps.toList, sOk n := by
  intro n hn
  obtain ⟨c, hc, rfl⟩ := List.mem_map.mp hn
  exact sOk_one (sOk_at h c (List.mem_filter.mp hc).1)
theorem listD_shaped {ns : List Str} (h : ∀ n ∈ ns, sOk n) : SeqAt.shaped (.list (ns.map PyData.str)) = true := by
  obtain ⟨a, b⟩ := txt_lay ns h
  refine shaped_of (by simp only [PyData.canLay0]; exact a) ?_
  simp only [PyData.depth]
  omega
end Rw


/-! W3 -/
/-! ### rows by one word, and under a lock -/
namespace Rw
open PySem PySem.Spec PyProof.Rows L2
/-- a value where a name is asked, and the name that it is -/
def IsNm (K : PySem.W.Frag) (H : Hp) (v : V) (nm : Option Str) : Prop := (∃ n, v = .str n ∧ nm = some n ∧ n.length ≤ 1000 ∧ sOk n ∧ nameB n = true) ∨ (nm = none ∧ NV K H v false)
theorem IsNm.same {K : PySem.W.Frag} {H H' : Hp} (e : Same H H') {v : V} {nm : Option Str} (h : IsNm K H v nm) : IsNm K H' v nm := h.imp id fun z => ⟨z.1, z.2.same e⟩
def of_nm (w : Str) (nm : Option Str) : Option Step := nm.map fun n => (w, n)
theorem IsNm.svg {K : PySem.W.Frag} {d : Addr} {H : Hp} (hW : ∀ w ∈ W10, ∃ u, PySem.W.nsIn K d w = some (some u)) {v : V} {nm : Option Str} {w : Str} {p : Addr} (h : IsNm K H v nm) (hw : w ∈ W10) (hp : SqT K H p [.str w, v]) : SVG K d H (.ref p) (of_nm w nm) := by
  obtain ⟨u, hu⟩ := hW _ hw
  rcases h with ⟨n, rfl, rfl, a, b, c⟩ | ⟨rfl, z⟩
  · exact ⟨.good hp hu (by omega) c, fun s e => by cases e; exact ⟨(w10_good _ hw).1, (w10_good _ hw).2, b⟩⟩
  · exact ⟨.name hp hu z, fun s e => nomatch e⟩
theorem take_10 : ("take" : Str) ∈ W10 := by decide +kernel
theorem give_10 : ("give" : Str) ∈ W10 := by decide +kernel
theorem bar_10 : ("bar" : Str) ∈ W10 := by decide +kernel
theorem halt_10 : ("halt" : Str) ∈ W10 := by decide +kernel
def spShut (K : PySem.W.Frag) (C d CI : Addr) : Sp := fun vs H Q E => ∃ (v : V) (nm : Option Str), vs = [v] ∧ IsNm K H v nm ∧ Made C CI d K H [of_nm "bar" nm, of_nm "halt" nm] Q E
def lockedR (nm : Option Str) (rs : List (Option Step)) : List (Option Step) := of_nm "take" nm :: (rs ++ [of_nm "give" nm])
def spLocked (K : PySem.W.Frag) (C d CI : Addr) : Sp := fun vs H Q E => ∃ (v : V) (nm : Option Str) (p : Addr) (xs : List V) (rs : List (Option Step)), vs = [v, .ref p] ∧ IsNm K H v nm ∧ SqT K H p xs ∧ All2 (SVG K d H) xs rs ∧ rs.length ≤ 300 ∧ Made C CI d K H (lockedR nm rs) Q E
section
variable {P : Program} {w : World} {K : PySem.W.Frag} {mg : Str → Option Value} {base : Heap}
abbrev sShut : Stmt := inClass (top 23) 1
theorem scShut : FnScope ["work"] ["work"] (defScope sShut) := ⟨rfl, rfl, rfl, by decide +kernel, rfl, by decide +kernel, by decide +kernel⟩
theorem ok_shut {f d C CI fI fA fR : Addr} {fd : FuncData} (F : Fun K "shut" "Row.shut" sShut f fd) (R : RowC K mg C fI fA fR) (hW : ∀ w ∈ W10, ∃ u, PySem.W.nsIn K d w = some (some u)) (GI : FnR P w K mg base (L2.CX P w) 4 fI (spStar (spRI K d C CI))) :
    FnOk P w K mg base (L2.CX P w) 6 f fd ["work"] (spShut K C d CI) := by
  refine F.okX scShut (fun vs H Q E h => ?_) (fun cdv A outer s H vs Q E hr h => ?_)
  · obtain ⟨v, nm, rfl, _⟩ := h
    rfl
  · obtain ⟨v, nm, rfl, hv, m⟩ := h
    refine ⟨_, (pss_one (ps_ret (StX.pe_makeR R.mkC GI hr rfl R.g passX (pa_cons (pe_tup (pa_cons pe_str (pa_cons (pv 0) pa_nil))) (pa_cons (pe_tup (pa_cons pe_str (pa_cons (pv 0) pa_nil))) pa_nil))))), ?_⟩
    refine ⟨_, rfl, by show 2 ≤ sizeLine; decide, fun p0 np0 => ?_⟩
    have s0 := same_upd (o := HO.tup [V.str "bar", v]) np0
    have z0 : SqT K (upd H p0 (.tup [V.str "bar", v])) p0 [V.str "bar", v] := SqT.of upd_same
    generalize upd H p0 (.tup [V.str "bar", v]) = H1 at s0 z0
    refine ⟨_, rfl, by show 2 ≤ sizeLine; decide, fun p1 np1 => ?_⟩
    have s1 := same_upd (o := HO.tup [V.str "halt", v]) np1
    have z1 : SqT K (upd H1 p1 (.tup [V.str "halt", v])) p1 [V.str "halt", v] := SqT.of upd_same
    generalize upd H1 p1 (.tup [V.str "halt", v]) = H2 at s1 z1
    intro x dx nx nd ne
    exact made_of (.cons ((hv.same (s0.trans s1)).svg hW bar_10 (s1.tupS z0)) (.cons ((hv.same (s0.trans s1)).svg hW halt_10 z1) .nil)) (by show 2 ≤ 800; decide) (m.before (s0.trans s1)) nx nd ne
abbrev sLocked : Stmt := inClass (top 23) 2
theorem scLocked : FnScope ["lock", "steps"] ["lock", "steps"] (defScope sLocked) := ⟨rfl, rfl, rfl, by decide +kernel, rfl, by decide +kernel, by decide +kernel⟩
theorem ok_locked {f d C CI fI fA fR : Addr} {fd : FuncData} (F : Fun K "locked" "Row.locked" sLocked f fd) (R : RowC K mg C fI fA fR) (hW : ∀ w ∈ W10, ∃ u, PySem.W.nsIn K d w = some (some u)) (GI : FnR P w K mg base (L2.CX P w) 4 fI (spStar (spRI K d C CI))) :
    FnR P w K mg base (L2.CX P w) 6 f (spStar (spLocked K C d CI)) := by
  obtain ⟨oc, od, kV, doc, pm, an, cdv, ct, osl, rfl, lk, hcd⟩ := F.ex
  refine StX.fn_star (ps := ["lock"]) (pv := "steps") (N := ["lock", "steps"]) lk hcd scLocked StX.cxUp (fun us rest hl => match us, rest, hl with | [u], [], _ => rfl | [u], a :: r, _ => rfl) fun A outer s H vs Q E hr h => ?_
  obtain ⟨v, nm, p, xs, rs, rfl, hv, hp, hrs, hz, m⟩ := h
  refine ⟨_, (pss_one (ps_ret (pe_makeS2 R.mkC GI hr rfl R.g passX (pa_cons (pe_tup (pa_cons pe_str (pa_cons (pv 0) pa_nil))) (StX.pa_star (pv 1) (pa_cons (pe_tup (pa_cons pe_str (pa_cons (pv 0) pa_nil))) pa_nil)))))), ?_⟩
  refine ⟨_, rfl, by show 2 ≤ sizeLine; decide, fun p0 np0 => ?_⟩
  have s0 := same_upd (o := HO.tup [V.str "take", v]) np0
  have z0 : SqT K (upd H p0 (.tup [V.str "take", v])) p0 [V.str "take", v] := SqT.of upd_same
  generalize upd H p0 (.tup [V.str "take", v]) = H1 at s0 z0
  refine ⟨_, rfl, p, xs, rfl, .inl (s0.tupS hp), ?_⟩
  refine ⟨_, rfl, by show 2 ≤ sizeLine; decide, fun p1 np1 => ?_⟩
  have s1 := same_upd (o := HO.tup [V.str "give", v]) np1
  have z1 : SqT K (upd H1 p1 (.tup [V.str "give", v])) p1 [V.str "give", v] := SqT.of upd_same
  generalize upd H1 p1 (.tup [V.str "give", v]) = H2 at s1 z1
  intro x dx nx nd ne
  have s01 := s0.trans s1
  have all : All2 (SVG K d H2) (.ref p0 :: (xs ++ [.ref p1])) (lockedR nm rs) := .cons ((hv.same s01).svg hW take_10 (s1.tupS z0)) ((hrs.mono fun _ _ t => t.same s01).append (.cons ((hv.same s01).svg hW give_10 z1) .nil))
  refine made_of all ?_ (m.before s01) nx nd ne
  show (rs ++ _).length + 1 ≤ 800
  rw [List.length_append]
  show rs.length + 1 + 1 ≤ 800
  omega
end
end Rw

/-! W4 -/
/-! ### names of one kind -/
namespace L2
open PySem PySem.Spec PyProof.Rows
theorem ix_tupK {X : Cx} {K : PySem.W.Frag} (hK : X.K = K) : IxR X (rIxT K) := by
  subst hK
  exact ix_tup
theorem ix_listK {X : Cx} {K : PySem.W.Frag} (hK : X.K = K) : IxR X (rIxL K) := by
  subst hK
  exact ix_list
theorem ix_kdictK {X : Cx} {K : PySem.W.Frag} {w : World} (hK : X.K = K) (hw : X.w = w) : IxR X (rIxD K w) := by
  subst hK hw
  exact ix_kdict
end L2
namespace Rw
open PySem PySem.Spec PyProof.Rows L2
def kindOf (w : Str) : Str := if w ∈ (["cancel", "bar", "halt", "settle"] : List Str) then "works" else if w ∈ (["close", "drain"] : List Str) then "gates" else if w ∈ (["set", "clear"] : List Str) then "flags" else "locks"
def kinds4 : List Str := ["works", "gates", "flags", "locks"]
/-- any value, and the kind that it is -/
def IsKd (K : PySem.W.Frag) (H : Hp) (v : V) (kd : Option Str) : Prop := (∃ z, v = .str z ∧ kd = if z ∈ kinds4 then some z else none) ∨ (kd = none ∧ ∃ T : String, TyX K H v (.type T) ∧ T ∈ oddTys)
def namesIn (kd : Str) (ss : List Step) : List Str := ss.foldl (fun l s => if kindOf s.1 = kd then Tx.ins s.2 l else l) []
theorem namesIn_len (kd : Str) (ss : List Step) : (namesIn kd ss).length ≤ ss.length := by
  have z : ∀ (ss : List Step) (l : List Str), (ss.foldl (fun l s => if kindOf s.1 = kd then Tx.ins s.2 l else l) l).length ≤ l.length + ss.length := by
    intro ss
    induction ss with
    | nil => exact fun l => Nat.le_refl _
    | cons s ss ih =>
      intro l
      rw [List.foldl_cons]
      refine Nat.le_trans (ih _) ?_
      have t := Tx.ins_len s.2 l
      rw [List.length_cons]
      split <;> omega
  have y := z ss []
  rw [List.length_nil, Nat.zero_add] at y
  exact y
theorem namesIn_snoc (kd : Str) (ss : List Step) (s : Step) : namesIn kd (ss ++ [s]) = if kindOf s.1 = kd then Tx.ins s.2 (namesIn kd ss) else namesIn kd ss := by
  unfold namesIn
  rw [List.foldl_append]
  rfl
def spNames (K : PySem.W.Frag) (C d CU : Addr) : Sp := fun vs H Q E => ∃ (a : Addr) (v : V) (ss : List Step) (kd : Option Str), vs = [.ref a, v] ∧ IsRow K C d H a ss ∧ ss.length ≤ 60 ∧ (∀ s ∈ ss, s.1 ∈ W10) ∧ IsKd K H v kd ∧
  (∀ z, kd = some z → ∀ H' p ys, Same H H' → H p = none → H' p = some (.lst (ys.map V.str)) → ys.Perm (namesIn z ss) → sortedS ys = true → Q (.ref p) H') ∧ (kd = none → ∀ t H', Left H "name" v t H' → E (.ref CU) (some t) H')
section
variable {P : Program} {w : World} {K : PySem.W.Frag} {mg : Str → Option Value} {base : Heap}
abbrev sUN : Stmt := inClass (top 4) 0
theorem scUN : FnScope ["self", "name"] ["self", "name"] (defScope sUN) := ⟨rfl, rfl, rfl, by decide +kernel, rfl, by decide +kernel, by decide +kernel⟩
theorem ok_UN {f : Addr} {fd : FuncData} (F : Fun K "__init__" "UnknownName.__init__" sUN f fd) : FnOk P w K mg base CX0 1 f fd ["self", "name"] (spR1 K "name") := by
  refine F.ok scUN (fun vs H Q E h => ?_) (fun cdv A outer s H vs Q E hr h => ?_)
  · obtain ⟨a, C, fI, v, rfl, _⟩ := h
    rfl
  · obtain ⟨a, C, fI, v, rfl, T, hn, ea, q⟩ := h
    refine ⟨_, pss_one (ps_ostG (pv 0) (pv 1)), ?_⟩
    refine ⟨_, rfl, _, rfl, a, C, fI, rfl, T, hn, .inl ⟨ea, fun dx n ne => ?_⟩⟩
    refine q _ dx (fun b o hb e => ?_) upd_same (by rw [upd_ne ne, upd_same]) n ne
    rw [upd_ne hb, upd_ne (ne_of_none e n)]
    exact e
abbrev sNames : Stmt := inClass (top 23) 14
theorem scNames : FnScope ["self", "kind", "step"] ["self", "kind"] (defScope sNames) := ⟨rfl, rfl, rfl, by decide +kernel, rfl, by decide +kernel, by decide +kernel⟩
theorem ok_names {f d C CU fI fA fR fE aK : Addr} {fd fdE : FuncData} (F : Fun K "names" "Row.names" sNames f fd) (R : RowC K mg C fI fA fR) (T : Er P w K mg base "UnknownName" "name" CU fE fdE)
    (hKd : ∀ x ∈ W10, KDct K w d x (.str (kindOf x))) (gK : mg "STEP_KINDS" = some (.ref d)) (gKs : mg "KINDS" = some (.ref aK)) (hKs : ∀ H : Hp, SqT K H aK (kinds4.map V.str))
    (m_isinstance : mg "isinstance" = none) (m_str : mg "str" = none) (m_sorted : mg "sorted" = none) : FnOk P w K mg base (L2.CX P w) 3 f fd ["self", "kind"] (spNames K C d CU) := by
  refine F.okX scNames (fun vs H Q E h => ?_) (fun cdv A outer s H vs Q E hr h => ?_)
  · obtain ⟨a, v, ss, kd, rfl, _⟩ := h
    rfl
  · obtain ⟨a, v, ss, kd, rfl, hrow, hz, h10, hkd, q, qE⟩ := h
    refine ⟨_, (pss_cons (ps_if (PW.pt (pw_or (pt_not (pt_val (pe_callB call_isi (by rfl) m_isinstance (by decide +kernel) (pa_cons (pv 1) (pa_cons (pe_bltn (v := .ty "str") (by rfl) m_str (by decide +kernel) rfl) pa_nil))))) (pw_or1 (pt_cmpR op_notIn_seq (pv 1) (pe_glob (v := .ref aK) rfl gKs rfl) (by rfl)))))
       (pss_one (ps_raise rfl (takes_of rfl rfl rfl rfl) (pmk_G T.o T.F (hr.mono (by decide)) T.b pass0 rfl T.g (pa_cons (pv 1) pa_nil))))
       pss_nil)
       (pss_one (ps_ret (pe_callB (Tx.cr_sortTx rfl) (by rfl) m_sorted (by decide +kernel) (pa_cons (Tx.pe_scT (own := [("step", 2)]) (g := gName 2) rfl scNames.nd (pi_tup (pe_fld (pv 0) rfl)) (blkOk_by (own := [("step", 2)]) (N := ["self", "kind", "step"]) (sc := defScope sNames) (by decide +kernel)) (fun _ _ _ _ _ => pg_name (i := 2) scNames.nd rfl (Or.inl rfl)) (fun _ _ _ _ _ => pts_one (pt_cmpR op_eq (pe_ix (ix_kdictK (K := K) (w := w) rfl rfl) (pe_glob (v := .ref d) rfl gK rfl) (pe_ix (ix_tupK (K := K) rfl) (pv 2) pe_int (fun _ _ => rfl)) (fun _ _ => rfl)) (pv 1) (nomark _))) (fun _ _ _ _ _ => (pe_ix (ix_tupK (K := K) rfl) (pv 2) pe_int (fun _ _ => rfl)))) pa_nil))))), ?_⟩
    obtain ⟨dx, p, hh, xs, ys, h1, h2, h3, _⟩ := hrow
    have str1 : PySem.W.kitOne K (.type "str") (.type "str") = some true := kit_ty (by decide +kernel)
    have fails : kd = none → ∀ a, H a = none → spR1 K "name" [.ref a, v] (upd H a (exo a CU none)) (fun u H2 => u = .non ∧ ∃ (d : Addr) (fs : List (Str × V)), H2 a = some (exo a CU (some d)) ∧ H2 d = some (exd d fs) ∧ H d = none ∧ E (.ref CU) (some d) (upd (del H2 a) d (.xd fs))) (fun _ _ _ => False) := fun no a na => raise1 T.o T.no na fun t H' l => qE no t H' l
    rcases hkd with ⟨z, rfl, hk⟩ | ⟨no, T', ty, hT⟩
    · refine ⟨_, rfl, _, _, _, _, _, rfl, .ty _, .base (.str z), str1, _, rfl, ?_⟩
      refine iteF ?_
      refine ⟨_, rfl, aK, _, rfl, .inr (hKs _), rfl, flat_txt _, _, rfl, ?_⟩
      by_cases hz4 : z ∈ kinds4
      · rw [if_pos hz4] at hk
        have e0 : (if true = true then !inV (.str z) (kinds4.map V.str) else inV (.str z) (kinds4.map V.str)) = false := by
          rw [if_pos rfl, inV_txt, decide_eq_true hz4]
          rfl
        rw [e0]
        refine iteF ?_
        refine ⟨_, rfl, a, C, dx, _, _, rfl, h1, R.cl, R.nS, rfl, p, rfl, ⟨xs, h2⟩, fun D nD => Tx.scT_any (J := Itt K p) (Sq := fun H => SqT K H p xs) Tx.itt_go Tx.itt_stop Tx.itt_yld
          (fun i H' => Same H H' ∧ H' D = some (Tx.SetTO P w D (namesIn z (ss.take i)))) ⟨same_upd nD, upd_same⟩ (fun i H' _ h => h.1.tupS h2) ?_ ?_⟩
        · rintro i x H' hx ⟨s1, hD⟩
          obtain ⟨st, hst, hv⟩ := h3.get hx
          obtain ⟨r, rfl, hr⟩ := hv.1.step
          have hr2 := s1.tupS hr
          have mem : st ∈ ss := List.mem_of_getElem? hst
          have lt : i < ss.length := (List.getElem?_eq_some_iff.mp hst).1
          refine ⟨rfl, ?_⟩
          refine ⟨_, rfl, r, _, 0, .str st.1, rfl, rfl, hr2, rfl, d, st.1, _, rfl, rfl, hKd _ (h10 st mem), _, rfl, rfl, _, rfl, ?_⟩
          rw [dec_str]
          have nxt := namesIn_snoc z (ss.take i) st
          rw [← take_snoc hst] at nxt
          by_cases hkz : kindOf st.1 = z
          · rw [decide_eq_true hkz]
            rw [if_pos hkz] at nxt
            refine iteT ⟨_, rfl, r, _, 1, .str st.2, rfl, rfl, hr2, rfl, st.2, _, rfl, hD, ?_, same_updN nD s1, ?_⟩
            · have l1 := namesIn_len z (ss.take i)
              rw [List.length_take] at l1
              show _ < 4096
              omega
            · rw [upd_same, nxt]
              rfl
          · rw [decide_eq_false hkz]
            rw [if_neg hkz] at nxt
            exact iteF ⟨s1, by rw [hD, nxt]⟩
        · rintro H' ⟨s1, hD⟩
          have len := h3.length
          rw [len, List.take_length] at hD
          have l1 := namesIn_len z ss
          refine ⟨D, _, rfl, hD, by omega, fun ys' p' pm so np' => ?_⟩
          exact q z (by rw [hk]) _ p' ys' (s1.trans (same_upd np')) (s1.free np') upd_same pm so
      · rw [if_neg hz4] at hk
        have e0 : (if true = true then !inV (.str z) (kinds4.map V.str) else inV (.str z) (kinds4.map V.str)) = true := by
          rw [if_pos rfl, inV_txt, decide_eq_false hz4]
          rfl
        rw [e0]
        exact iteT ⟨_, rfl, Nat.le_of_ble_eq_true rfl, fun a na => fails hk a na⟩
    · have kt : PySem.W.kitOne K (.type T') (.type "str") = some false := by
        simp only [oddTys, List.mem_cons, List.mem_nil_iff, or_false] at hT
        rcases hT with rfl | rfl | rfl | rfl | rfl | rfl <;> exact kit_ty (by decide +kernel)
      refine ⟨_, rfl, _, _, _, _, _, rfl, .ty _, ty, kt, _, rfl, ?_⟩
      exact iteT (iteT ⟨_, rfl, Nat.le_of_ble_eq_true rfl, fun a na => fails no a na⟩)
end
end Rw

/-! X1 -/
/-! ### an own class: in, an index, len -/
namespace L2
open PySem PySem.Spec PyProof.Rows
section
variable {X : Cx} {CX : CXT} {k : Nat} {f C : Addr} {fd : FuncData} {ps : List Str} {sp : Sp} {pins : List (Addr × Obj)} {σ : St} {H : Hp} {s : Shared}
/-- a def that is run one level deeper -/
theorem run_in1 {E : XK} {Q : VK} {us : List Value} {vs : List V} (F : FnOk X.prog X.w X.K X.mg X.base CX k f fd ps sp) (hr : Room (k + 1) X.A) (hb : Binds X.K fd ps []) (hx : PassesAt CX X σ E) (I : Inv X pins σ H s) (r : Vals vs us) (h : sp vs H Q E) :
    wpAny (model X.prog X.w) X.A.in1 (call (.ref f) us) (EP X pins σ Q) X.xe s := by
  have env : Env0 X.prog X.w X.K X.mg X.base X.A.in1 X.stack s H := by
    have e := I.env0
    exact ⟨e.frames, e.mod, e.bs, e.bsz, e.funs, e.frf, e.hok, e.bare⟩
  have many : (us ++ []).length = ps.length := by rw [List.append_nil, ← r.length]; exact F.len _ _ _ _ h
  have bind := hb s us I.kIn many
  rw [List.append_nil] at bind
  refine wpAny_call (codeAny_mono (F.run X.A.in1 X.stack s H ⟨us, []⟩ us vs Q E hr.in1 env bind r h) fun r s' hq => ?_)
  cases r with
  | error e => exact hx pins H s e s' I hq
  | ok fl =>
    cases fl with
    | ret u => exact I.after hq
    | next => exact False.elim hq
    | brk => exact False.elim hq
    | cont => exact False.elim hq
/-- x in obj, by an own __contains__ that gives a truth value -/
def rInOwn (C : Addr) (sp : Sp) (E : XK) (neg : Bool) : R2 := fun x y H Q => ∃ (a dx : Addr) (fs : List (Str × V)), y = .ref a ∧ H a = some (.ins C dx fs) ∧ sp [.ref a, x] H (fun v H' => ∃ b : Bool, v = .bl b ∧ Q (.bl (if neg then !b else b)) H') E
theorem truthy_bl {A : Around} {E : Value → Shared → Prop} {b : Bool} {Q : Bool → Shared → Prop} (h : Q b s) : wpAny (model X.prog X.w) A (truthy (.bool b)) Q E s := wpAny_truthy_bool h
theorem op_inOwn {E : XK} (hs : PySem.W.findIn X.K (.ref C) "__contains__" = some (some (.ref f))) (hf : PySem.W.isFn X.K (.ref f) = true) (F : FnOk X.prog X.w X.K X.mg X.base CX k f fd ps sp) (hr : Room k X.A) (hb : Binds X.K fd ps []) (hx : Passes CX X E) : OpR X (compareOp .In) (rInOwn C sp E false) := by
  intro pins s σ H x y v u Q I rx ry h
  obtain ⟨a, dx, fs, rfl, ha, q⟩ := h
  cases ry
  obtain ⟨mA, J, _⟩ := ins_get I.hok ha
  obtain ⟨od, J, _⟩ := J.look
  obtain ⟨m, hF⟩ := I.fr
  refine PySem.W.in_K hF I.ok.mod.kin J hs hf (thn (run_fn (us := [.ref a, v]) (vs := [.ref a, x]) F hr hb .nil hx I (.cons rfl (.cons rx .nil)) q) fun r s' ⟨z, H', I', rz, b, ez, q'⟩ => ?_)
  subst ez
  cases rz
  exact truthy_bl ⟨.bl b, H', I', rfl, q'⟩
theorem op_notInOwn {E : XK} (hs : PySem.W.findIn X.K (.ref C) "__contains__" = some (some (.ref f))) (hf : PySem.W.isFn X.K (.ref f) = true) (F : FnOk X.prog X.w X.K X.mg X.base CX k f fd ps sp) (hr : Room k X.A) (hb : Binds X.K fd ps []) (hx : Passes CX X E) : OpR X (compareOp .NotIn) (rInOwn C sp E true) := by
  intro pins s σ H x y v u Q I rx ry h
  obtain ⟨a, dx, fs, rfl, ha, q⟩ := h
  cases ry
  obtain ⟨mA, J, _⟩ := ins_get I.hok ha
  obtain ⟨od, J, _⟩ := J.look
  obtain ⟨m, hF⟩ := I.fr
  refine PySem.W.notIn_K hF I.ok.mod.kin J hs hf (thn (run_fn (us := [.ref a, v]) (vs := [.ref a, x]) F hr hb .nil hx I (.cons rfl (.cons rx .nil)) q) fun r s' ⟨z, H', I', rz, b, ez, q'⟩ => ?_)
  subst ez
  cases rz
  exact truthy_bl ⟨.bl (!b), H', I', rfl, q'⟩
/-- len(obj), by an own __len__ -/
theorem call_lenOwn {E : XK} (hs : PySem.W.findIn X.K (.ref C) "__len__" = some (some (.ref f))) (hf : PySem.W.isFn X.K (.ref f) = true) (F : FnOk X.prog X.w X.K X.mg X.base CX k f fd ps sp) (hr : Room (k + 1) X.A) (hb : Binds X.K fd ps []) (hx : Passes CX X E) :
    CallR X (.builtin "len") (fun xs H Q => ∃ (a dx : Addr) (fs : List (Str × V)), xs = [.ref a] ∧ H a = some (.ins C dx fs) ∧ sp [.ref a] H (fun v H' => ∃ n : Int, v = .int n ∧ 0 ≤ n ∧ n < 2 ^ 63 ∧ Q (.int n) H') E) := by
  intro pins s σ H xs us Q I r h
  obtain ⟨a, dx, fs, rfl, ha, q⟩ := h
  rw [Vals.ref1 r]
  obtain ⟨mA, J, _⟩ := ins_get I.hok ha
  obtain ⟨od, J, _⟩ := J.look
  obtain ⟨m, hF⟩ := I.fr
  refine PySem.W.len_K hF I.ok.mod.kin J hs hf (thn (run_in1 (us := [.ref a]) (vs := [.ref a]) F hr hb (fun pins H s e s' I c => hx pins _ H s e s' I c) I (.cons rfl .nil) q) fun r s' ⟨z, H', I', rz, n, ez, h0, h1, q'⟩ => ?_)
  subst ez
  obtain ⟨t, rfl⟩ := rz
  exact ⟨⟨h0, h1⟩, ⟨.int n, H', I'.tok _, ⟨_, rfl⟩, q'⟩⟩
/-- obj[i], by an own __getitem__, that may raise -/
def rIxOwn (C : Addr) (sp : Sp) (E : XK) : R2 := fun x y H Q => ∃ (a dx : Addr) (fs : List (Str × V)), x = .ref a ∧ H a = some (.ins C dx fs) ∧ sp [.ref a, y] H Q E
/-- obj[i] within a try -/
theorem pe_ixTS {E : St → XK} {a b : Expr} {ta tb : TE} {pos : Pos} {K : PySem.W.Frag} (hK : X.K = K) (hs : PySem.W.findIn K (.ref C) "__getitem__" = some (some (.ref f))) (hn : PySem.W.fnIn K f = true) (hf : PySem.W.isFn K (.ref f) = true) (F : FnOk X.prog X.w X.K X.mg X.base CX k f fd ps sp) (hr : Room (k + 1) X.A) (hb : Binds X.K fd ps []) (hx : ∀ σ, PassesAt CX X σ (E σ)) (ha : PE X a ta) (hb' : PE X b tb)
    (hsl : ∀ (x i : Value), subscripted b true x i = runValue (.builtin "lifetime.subscript" ⟨[x, i], []⟩)) : PE X (.Subscript a b pos) (fun σ H Q => ta σ H fun x H1 => tb σ H1 fun y H2 => rIxOwn C sp (E σ) x y H2 Q) := by
  subst hK
  refine ⟨fun pins s σ H Q I h => ?_⟩
  refine Subscript_ (binT (R := fun x y H2 => rIxOwn C sp (E σ) x y H2 Q) ha hb' I h fun v u s2 x y H2 I2 rx ry q => ?_)
  obtain ⟨o, dx, fs, rfl, ho, q⟩ := q
  cases (show v = Value.ref o from rx)
  obtain ⟨mA, J, _⟩ := ins_get I2.hok ho
  obtain ⟨od, J, _⟩ := J.look
  obtain ⟨m, hF⟩ := I2.fr
  exact PySem.W.sub_K hF I2.ok.mod.kin J hs hn hf (run_in1 (us := [.ref o, u]) (vs := [.ref o, y]) F hr hb (hx σ) I2 (.cons rfl (.cons ry .nil)) q) (hsl _ _)
end
end L2

/-! X2 -/
/-! ### a class whose name is kept: what the first reading of its name leaves -/
namespace Nm
open PySem PySem.Spec PyProof.Rows L2
def nmO (v : Value) (o : Obj) : Obj := { o with slots := (o.slots ++ Array.replicate (2 + 1 - o.slots.size) none).setIfInBounds 2 (some v) }
def hN (h : Heap) (C : Addr) (v : Value) : Heap := h.update C (nmO v)
def kN (K : PySem.W.Frag) (C : Addr) (v : Value) : PySem.W.Frag := K.map fun p => (p.1, if p.1 = C then nmO v p.2 else p.2)
theorem kN_lookup (K : PySem.W.Frag) (C : Addr) (v : Value) (a : Addr) : (kN K C v).lookup a = (K.lookup a).map fun o => if a = C then nmO v o else o := by
  induction K with
  | nil => rfl
  | cons p K ih =>
    obtain ⟨b, o⟩ := p
    unfold kN at ih ⊢
    rw [List.map_cons, List.lookup_cons, List.lookup_cons]
    by_cases hb : a = b
    · subst hb
      simp
    · have e : (a == b) = false := beq_eq_false_iff_ne.mpr hb
      simp only [e]
      exact ih
theorem nmO_freed {v : Value} {o : Obj} : (nmO v o).isFreed = o.isFreed := PySem.W.kts_isFreed o _
section
variable {h h' : Heap} {C b : Addr} {v : Value} {o oC : Obj}
theorem hN_self (e : h.get? C = some o) : (hN h C v).get? C = some (nmO v o) := Heap.get?_update_self _ e (nmO_freed.trans (Heap.get?_some_iff.mp e).2)
theorem hN_ne (hb : b ≠ C) : (hN h C v).get? b = h.get? b := Heap.get?_update_other _ _ (Ne.symm hb)
theorem hN_size : (hN h C v).objs.size = h.objs.size := by
  cases h
  simp [hN, Heap.update]
theorem hN_inv (eC : h.get? C = some oC) (e : (hN h C v).get? b = some o) : ∃ o0, h.get? b = some o0 ∧ ((b = C ∧ o = nmO v o0) ∨ (b ≠ C ∧ o = o0)) := by
  by_cases hb : b = C
  · subst hb
    rw [hN_self eC] at e
    exact ⟨oC, eC, .inl ⟨rfl, (Option.some.inj e).symm⟩⟩
  · rw [hN_ne hb] at e
    exact ⟨o, e, .inr ⟨hb, rfl⟩⟩
/-- it is a class -/
def IsClsO (o : Obj) : Prop := ∃ cd, o.data = .cls cd
theorem ns_nm {m : Str → Option Value} {a : Addr} (eC : h.get? C = some oC) (hc : IsClsO oC) (n : h.Ns a m) : (hN h C v).Ns a m := by
  obtain ⟨o, es, ep, ho, hd, r⟩ := n
  have hb : a ≠ C := by
    rintro rfl
    rw [eC] at ho
    cases ho
    obtain ⟨cd, e⟩ := hc
    rw [e] at hd
    cases hd
  exact ⟨o, es, ep, (hN_ne hb).trans ho, hd, r⟩
theorem cell_nm {c : Addr} {x : Option Value} (eC : h.get? C = some oC) (hc : IsClsO oC) (n : h.IsCell c x) : (hN h C v).IsCell c x := by
  obtain ⟨o, ho, hd⟩ := n
  have hb : c ≠ C := by
    rintro rfl
    rw [eC] at ho
    cases ho
    obtain ⟨cd, e⟩ := hc
    rw [e] at hd
    cases hd
  exact ⟨o, (hN_ne hb).trans ho, hd⟩
theorem in_nm {K : PySem.W.Frag} (eC : h.get? C = some oC) (i : K.In h) : (kN K C v).In (hN h C v) := by
  intro a o e
  rw [kN_lookup] at e
  cases q : K.lookup a with
  | none => rw [q] at e; cases e
  | some u =>
    rw [q] at e
    have e' : (if a = C then nmO v u else u) = o := Option.some.inj e
    have g := i a u q
    by_cases ha : a = C
    · subst ha
      rw [if_pos rfl] at e'
      rw [← e']
      exact hN_self g
    · rw [if_neg ha] at e'
      rw [← e']
      exact (hN_ne ha).trans g
theorem hok_nm {P : Program} {w : World} {H : Hp} (hC : H C = none) (x : HOk P w H h) : HOk P w H (hN h C v) := fun a o e =>
  (x a o e).stay (fun b u hb q => (hN_ne (by
    rintro rfl
    rcases hb with rfl | hb
    · rw [hC] at e; cases e
    · rw [hC] at hb; cases hb)).trans q) (fun _ q => q) fun _ _ q => q
theorem frames_nm {base : Heap} {l : List Env} (eC : h.get? C = some oC) (bC : ∃ o, base.get? C = some o) (f : h.FunFrames base l) : (hN h C v).FunFrames (hN base C v) l := by
  induction l with
  | nil => trivial
  | cons env l ih =>
    obtain ⟨k, ⟨L, o, e1, e2, e3, e4⟩, r⟩ := f
    have hL : L ≠ C := by
      rintro rfl
      obtain ⟨o', e'⟩ := bC
      rw [e'] at e2
      cases e2
    exact ⟨k, ⟨L, o, e1, (hN_ne hL).trans e2, (hN_ne hL).trans e3, e4⟩, ih r⟩
end
def sN (s : Shared) (C : Addr) (v : Value) : Shared := { s with heap := hN s.heap C v }
def xN (X : Cx) (C : Addr) (v : Value) : Cx := { X with K := kN X.K C v, base := hN X.base C v, s_0 := sN X.s_0 C v }
theorem un_nm {fs ex : List Addr} {H H' : Hp} {h h' : Heap} {C : Addr} {v : Value} {oC : Obj} (u : Un fs ex H H' h h') (eC : h.get? C = some oC) (eC' : h'.get? C = some oC) (n : H C = none) (n' : H' C = none) (hf : C ∉ fs) (hx : C ∉ ex) : Un fs ex H H' (hN h C v) (hN h' C v) where
  keep := fun b o e a1 a2 a3 => by
    obtain ⟨o0, e0, ⟨rfl, rfl⟩ | ⟨hb, rfl⟩⟩ := hN_inv eC e
    · have g := u.keep _ _ e0 a1 a2 a3
      exact hN_self g
    · exact (hN_ne hb).trans (u.keep _ _ e0 a1 a2 a3)
  slot := fun b o e a1 a2 a3 => by
    obtain ⟨o0, e0, ⟨rfl, rfl⟩ | ⟨hb, rfl⟩⟩ := hN_inv eC e
    · exact absurd a2 hf
    · obtain ⟨sl, g⟩ := u.slot _ _ e0 a1 a2 a3
      exact ⟨sl, (hN_ne hb).trans g⟩
  free := fun b o e a1 a2 => by
    obtain ⟨o0, e0, _⟩ := hN_inv eC e
    exact u.free _ _ e0 a1 a2
  there := fun b o e a1 => by
    obtain ⟨o0, e0, _⟩ := hN_inv eC e
    obtain ⟨o', g⟩ := u.there _ _ e0 a1
    by_cases hb : b = C
    · subst hb
      exact ⟨_, hN_self g⟩
    · exact ⟨o', (hN_ne hb).trans g⟩
  tups := u.tups
  frzs := u.frzs
  tbls := u.tbls
/-- the class stands in the base -/
structure AtC (X : Cx) (C : Addr) (oC : Obj) : Prop where
  bas : X.base.get? C = some oC
  cls : IsClsO oC
section
variable {X : Cx} {pins : List (Addr × Obj)} {σ : L2.St} {H : Hp} {s : Shared} {C : Addr} {oC : Obj} {v : Value}
theorem ok_nm (k : X.Ok) (c : AtC X C oC) : (xN X C v).Ok := by
  have sC := (k.bs _ _ c.bas).1
  have hC := (k.bs _ _ c.bas).2
  refine ⟨⟨in_nm c.bas k.mod.kin, ns_nm c.bas c.cls k.mod.glob, ?_, ?_⟩, k.kind, k.glob, k.blt, ?_, k.inj, k.has, ?_, k.hd, k.frames, k.stk, k.exf, ?_, ?_, ?_, k.exfs, frames_nm sC ⟨_, c.bas⟩ k.funs, k.frf⟩
  · obtain ⟨mb, n, h⟩ := k.mod.blt
    exact ⟨mb, ns_nm c.bas c.cls n, h⟩
  · obtain ⟨mc, n, h⟩ := k.mod.nolimit
    exact ⟨mc, ns_nm c.bas c.cls n, h⟩
  · show (hN X.s_0.heap C v).objs.size ≤ _
    rw [hN_size]
    exact k.above
  · intro x c' a b
    show (hN X.s_0.heap C v).objs.size ≤ _
    rw [hN_size]
    exact k.cab x c' a b
  · intro b o e
    obtain ⟨o0, e0, ⟨rfl, rfl⟩ | ⟨hb, rfl⟩⟩ := hN_inv c.bas e
    · have g := k.bs _ _ e0
      exact ⟨hN_self g.1, g.2⟩
    · have g := k.bs _ _ e0
      exact ⟨(hN_ne hb).trans g.1, g.2⟩
  · show (hN X.base C v).objs.size ≤ (hN X.s_0.heap C v).objs.size
    rw [hN_size, hN_size]
    exact k.bsz
  · intro b o e
    obtain ⟨o0, e0, _⟩ := hN_inv c.bas e
    exact k.noex b o0 e0
theorem inv_nm (I : Inv X pins σ H s) (c : AtC X C oC) (hp : ∀ p ∈ X.pn ++ pins, p.1 ≠ C) : Inv (xN X C v) pins σ H (sN s C v) := by
  have k := I.ok
  have sC := (k.bs _ _ c.bas).1
  have hC := (k.bs _ _ c.bas).2
  have nf := k.nofr c.bas
  have nx := k.noex _ _ c.bas
  have eC : s.heap.get? C = some oC := I.base.keep _ _ sC hC nf nx
  have hC' : H C = none := I.base.free _ _ sC hC nx
  obtain ⟨m, n, l⟩ := I.loc
  refine ⟨ok_nm k c, I.os, I.bare, un_nm I.base sC eC hC hC' nf nx, ⟨m, ns_nm eC c.cls n, fun i x v' a b d => ?_⟩, fun x c' e => ?_, I.free, I.freeC, fun p hpp => ?_, hok_nm hC' I.hok, I.len⟩
  · obtain ⟨u, ru, lu⟩ := l i x v' a b d
    refine ⟨u, ru, lu.imp id fun z => ⟨z.1, ?_⟩⟩
    obtain ⟨c', h1, h2⟩ := z.2
    exact ⟨c', h1, cell_nm eC c.cls h2⟩
  · obtain ⟨v', e'⟩ := I.cell x c' e
    exact ⟨v', cell_nm eC c.cls e'⟩
  · obtain ⟨e, r⟩ := I.pin p hpp
    exact ⟨(hN_ne (hp p hpp)).trans e, r⟩
end
end Nm

/-! X3 -/
/-! ### the name of an own class -/
namespace Nm
section
open PySem PySem.W PySem.Calls PyProof.Rows Builtin Builtin.ObjectAttr Builtin.Getset_descriptor
variable {prog : Program} {w : World} {A : Around} {E : Value → Shared → Prop} {s : Shared} {K : Frag} {R : Result → Shared → Prop} {C : Addr} {n : Str} {o : Obj} {cd : ClassData}
theorem name_new {tp : Value} (ho : s.heap.get? C = some o) (hc : o.cls = .type "type") (hd : o.data = .cls cd) (hs : (o.slots[2]?).join = none) (hn : Str.ofString cd.name.toString = n) (hz : n.length ≤ sizeLine)
    (h : R (.ok (.ret (.str n s.toks))) { sN s C (.str n s.toks) with toks := s.toks + 1 }) :
    codeAny (model prog w) A (.call (.builtin "getset_descriptor.__get__") ⟨[.builtin "type.__name__", .ref C, tp], []⟩) R s := by
  obtain ⟨hh, g, dr, t, os⟩ := s
  have L0 : Looks (model prog w) hh (typeOf (.ref C)) (.type "type") := by
    have := (Looks.ld (M := model prog w) (part := none) ho).andThen (f := fun o => pure o.cls) .now
    rw [hc] at this
    exact this
  have L1 : Looks (model prog w) hh (isSubtype (.type "type") (.type "type")) true := Looks.of_pure (by rw [isSubtype_type]; kernel_rfl)
  have L2 : Looks (model prog w) hh (classData C) cd := by
    have := (Looks.ld (M := model prog w) (part := none) ho)
    exact this.andThen (by rw [hd]; exact .now)
  refine codeAny_call_builtin KF.slot_gs.plain KF.entry_gs (KF.slot_gs.check _ _ _ _ _ _ _ _ ktyn_type (KF.args_gs _ _ _) ?_)
  unfold Builtin.«getset_descriptor.__get__» descrGet
  rw [dga_obj]
  refine wpAny_bind (wpAny_pure ?_)
  unfold descrGetter descrCheckInstance descrNameAndClass isInstance
  simp only [ktyn_owner]
  repeat lk
  refine ⟨Code.quiet_builtin _ (by decide +kernel), codeAny_builtin ktyn_entry ?_⟩
  unfold Builtin.«type.__name__»
  dsimp only
  unfold keptObject
  dsimp only
  unfold slotAt
  refine wpAny_bind (wpAny_bind (wpAny_loadPart (o := o) ho (wpAny_pure ?_)))
  rw [hs]
  dsimp only
  refine wpAny_bind (wpAny_bind ?_)
  unfold typeNameWhole
  refine wpAny_bind (L2.here (wpAny_pure ?_))
  rw [hn]
  refine wpAny_mkStr ?_ hz
  unfold setSlotAt
  refine wpAny_bind ?_
  rw [if_neg (by rw [sizeLine_eq]; omega)]
  refine wpAny_bind (wpAny_pure ?_)
  refine wpAny_updatePart ho ?_
  exact wpAny_pure h
theorem name_kept {tp x : Value} (ho : s.heap.get? C = some o) (hc : o.cls = .type "type") (hs : (o.slots[2]?).join = some x)
    (h : R (.ok (.ret x)) s) :
    codeAny (model prog w) A (.call (.builtin "getset_descriptor.__get__") ⟨[.builtin "type.__name__", .ref C, tp], []⟩) R s := by
  obtain ⟨hh, g, dr, t, os⟩ := s
  have L0 : Looks (model prog w) hh (typeOf (.ref C)) (.type "type") := by
    have := (Looks.ld (M := model prog w) (part := none) ho).andThen (f := fun o => pure o.cls) .now
    rw [hc] at this
    exact this
  have L1 : Looks (model prog w) hh (isSubtype (.type "type") (.type "type")) true := Looks.of_pure (by rw [isSubtype_type]; kernel_rfl)
  refine codeAny_call_builtin KF.slot_gs.plain KF.entry_gs (KF.slot_gs.check _ _ _ _ _ _ _ _ ktyn_type (KF.args_gs _ _ _) ?_)
  unfold Builtin.«getset_descriptor.__get__» descrGet
  rw [dga_obj]
  refine wpAny_bind (wpAny_pure ?_)
  unfold descrGetter descrCheckInstance descrNameAndClass isInstance
  simp only [ktyn_owner]
  repeat lk
  refine ⟨Code.quiet_builtin _ (by decide +kernel), codeAny_builtin ktyn_entry ?_⟩
  unfold Builtin.«type.__name__»
  dsimp only
  unfold keptObject
  dsimp only
  unfold slotAt
  refine wpAny_bind (wpAny_bind (wpAny_loadPart (o := o) ho (wpAny_pure ?_)))
  rw [hs]
  exact wpAny_pure h
end
end Nm

/-! X4 -/
/-! ### readings through the first look at a class's name -/
namespace Nm
open PySem PySem.Spec PyProof.Rows L2
abbrev LSt := L2.St
/-- what is known of the class at C, whose name is n -/
structure NmC (K : PySem.W.Frag) (C : Addr) (n : Str) : Prop where
  rd : PySem.W.readsIn K C (.type "type") = true
  at_ : PySem.W.findCls K (.ref C) (.type "type") "__name__" = some (.get (.builtin "getset_descriptor.__get__") (.builtin "type.__name__") (.ref C) (.type "type"))
  ob : ∃ (o : Obj) (cd : ClassData), K.lookup C = some o ∧ o.cls = .type "type" ∧ o.data = .cls cd ∧ Str.ofString cd.name.toString = n
  pg : PySem.W.plainGet K C "__class__" = true
  hd : PySem.W.hasDictIn K C = true
  ha : PySem.W.findIn K (.ref C) "__class__" = some (some (.builtin "object.__class__"))
  hn : PySem.W.specialIn K (.builtin "object.__class__") "__get__" = some (some (.builtin "getset_descriptor.__get__"))
  ht : PySem.W.takesIn K (.builtin "object.__class__") = some true
  hm : PySem.W.mroIn K C (.type "object") = some true
  sz : n.length ≤ sizeLine
/-- it hasn't been asked yet -/
def Fresh (K : PySem.W.Frag) (C : Addr) : Prop := ∀ o, K.lookup C = some o → (o.slots[2]?).join = none
def Kept (K : PySem.W.Frag) (C : Addr) (v : Value) : Prop := ∀ o, K.lookup C = some o → (o.slots[2]?).join = some v
section
variable {X : Cx} {C : Addr} {n : Str} {pins : List (Addr × Obj)} {σ : LSt} {H : Hp} {s : Shared}
/-- o.__class__ -/
def tClassOf (C : Addr) (ta : TE) : TE := fun σ H Q => ta σ H fun x H1 => ∃ (a dx : Addr) (fs : List (Str × V)), x = .ref a ∧ H1 a = some (.ins C dx fs) ∧ Q (.ref C) H1
theorem pe_class {K : PySem.W.Frag} {e : Expr} {ta : TE} {pos : Pos} (hK : X.K = K) (c : NmC K C n) (he : PE X e ta) (hb : attributeBase e "__class__" X.env (eval e X.env) = eval e X.env) : PE X (.Attribute e "__class__" pos) (tClassOf C ta) := by
  subst hK
  refine ⟨fun pins s σ H Q I h => ?_⟩
  refine attr_of hb (thn (he.run pins s σ H _ I h) fun u s1 ⟨x, H1, I1, rx, a, dx, fs, ex, ea, q⟩ => ?_)
  subst ex
  obtain rfl : u = Value.ref a := rx
  obtain ⟨mA, J, _⟩ := ins_get I1.hok ea
  obtain ⟨od, J, _⟩ := J.look
  obtain ⟨m, hF⟩ := I1.fr
  exact PySem.W.get_class hF I1.ok.mod.kin J c.pg c.hd c.ha c.hn c.ht c.hm ⟨.ref C, H1, I1.tok _, rfl, q⟩
theorem at_of (c : NmC X.K C n) (k : X.Ok) : ∃ (o : Obj) (cd : ClassData), X.K.lookup C = some o ∧ AtC X C o ∧ o.cls = .type "type" ∧ o.data = .cls cd ∧ Str.ofString cd.name.toString = n := by
  obtain ⟨o, cd, h1, h2, h3, h4⟩ := c.ob
  exact ⟨o, cd, h1, ⟨k.mod.kin _ _ h1, _, h3⟩, h2, h3, h4⟩
/-- C.__name__, once it is kept -/
def tNameOf (C : Addr) (v : V) (ta : TE) : TE := fun σ H Q => ta σ H fun x H1 => x = .ref C ∧ Q v H1
theorem pe_nameK {K : PySem.W.Frag} {e : Expr} {ta : TE} {pos : Pos} {tk : Tok} (hK : X.K = K) (c : NmC K C n) (f : Kept K C (.str n tk)) (he : PE X e ta) (hb : attributeBase e "__name__" X.env (eval e X.env) = eval e X.env) : PE X (.Attribute e "__name__" pos) (tNameOf C (.str n) ta) := by
  subst hK
  refine ⟨fun pins s σ H Q I h => ?_⟩
  refine attr_of hb (thn (he.run pins s σ H _ I h) fun u s1 ⟨x, H1, I1, rx, ex, q⟩ => ?_)
  subst ex
  obtain rfl : u = Value.ref C := rx
  obtain ⟨o, cd, h1, h2, h3, h4, h5⟩ := at_of c I1.ok
  have ho := I1.kIn _ _ h1
  refine PySem.W.cls_bind I1.kIn c.rd c.at_ (wpAny_call (name_kept (s := { s1 with toks := s1.toks + 1 }) ho h3 (f _ h1) (PySem.W.handed_on rfl ?_)))
  exact ⟨.str n, H1, I1.tok _, ⟨_, rfl⟩, q⟩
/-- what is wanted behind it: the name is kept -/
def EPN (X : Cx) (C : Addr) (n : Str) (pins : List (Addr × Obj)) (σ : LSt) (Q : VK) (u : Value) (s' : Shared) : Prop := ∃ tk : Tok, EP (xN X C (.str n tk)) pins σ Q u s'
structure PEN (X : Cx) (C : Addr) (n : Str) (e : Expr) (t : TE) : Prop where
  run : ∀ (pins : List (Addr × Obj)) (s : Shared) (σ : LSt) (H : Hp) (Q : VK), (∀ p ∈ X.pn ++ pins, p.1 ≠ C) → Inv X pins σ H s → t σ H Q → wpAny (model X.prog X.w) X.A (eval e X.env) (EPN X C n pins σ Q) X.xe s
/-- C.__name__, asked first -/
theorem pen_name {K : PySem.W.Frag} {e : Expr} {ta : TE} {pos : Pos} (hK : X.K = K) (c : NmC K C n) (f : Fresh K C) (he : PE X e ta) (hb : attributeBase e "__name__" X.env (eval e X.env) = eval e X.env) : PEN X C n (.Attribute e "__name__" pos) (tNameOf C (.str n) ta) := by
  subst hK
  refine ⟨fun pins s σ H Q hp I h => ?_⟩
  refine attr_of hb (thn (he.run pins s σ H _ I h) fun u s1 ⟨x, H1, I1, rx, ex, q⟩ => ?_)
  subst ex
  obtain rfl : u = Value.ref C := rx
  obtain ⟨o, cd, h1, h2, h3, h4, h5⟩ := at_of c I1.ok
  have ho := I1.kIn _ _ h1
  refine PySem.W.cls_bind I1.kIn c.rd c.at_ (wpAny_call (name_new (s := { s1 with toks := s1.toks + 1 }) ho h3 h4 (f _ h1) h5 c.sz (PySem.W.handed_on rfl ?_)))
  exact ⟨_, .str n, H1, (inv_nm (I1.tok _) h2 hp).tok _, ⟨_, rfl⟩, q⟩
/-- a op b, the first one through it -/
theorem pen_cmpR {a b : Expr} {ta : TE} {tb : Tok → TE} {op : CmpOp} {r : Tok → R2} {pos : Pos} (ho : ∀ tk, OpR (xN X C (.str n tk)) (compareOp op) (r tk)) (ha : PEN X C n a ta) (hb : ∀ tk, PE (xN X C (.str n tk)) b (tb tk)) (hm : behindInMarks op b = false) :
    PEN X C n (.Compare a [op] [b] pos) (fun σ H Q => ta σ H fun x H1 => ∀ tk, tb tk σ H1 fun y H2 => r tk x y H2 Q) := by
  refine ⟨fun pins s σ H Q hp I h => ?_⟩
  refine wpAny_Compare1 (thn (ha.run pins s σ H _ hp I h) fun v s1 ⟨tk, x, H1, I1, r1, q1⟩ => ?_) hm
  refine thn ((hb tk).run pins s1 σ H1 _ I1 (q1 tk)) fun u s2 ⟨y, H2, I2, r2, q2⟩ => ?_
  exact thn (ho tk pins s2 σ H2 x y v u Q I2 r1 r2 q2) fun _ _ z => ⟨tk, z⟩
/-- a and b, the second one through it -/
theorem pen_and {a b : Expr} {rest : List Expr} {ta tb : TE} {pos : Pos} (ha : PE X a ta) (hb : PEN X C n (.BoolOp .And (b :: rest) pos) tb) : PEN X C n (.BoolOp .And (a :: b :: rest) pos) (fun σ H Q => ta σ H fun x H1 => x = .bl true ∧ tb σ H1 Q) := by
  refine ⟨fun pins s σ H Q hp I h => ?_⟩
  refine BoolOp_and (thn (ha.run pins s σ H _ I h) fun v s1 ⟨x, H1, I1, r1, ex, q1⟩ => ?_)
  subst ex
  cases r1
  exact wpAny_truthy_bool (hb.run pins s1 σ H1 Q hp I1 q1)
/-- a and b, the first one through it -/
theorem pen_andN {a b : Expr} {rest : List Expr} {ta : TE} {tb : Tok → TE} {pos : Pos} (ha : PEN X C n a ta) (hb : ∀ tk, PE (xN X C (.str n tk)) (.BoolOp .And (b :: rest) pos) (tb tk)) : PEN X C n (.BoolOp .And (a :: b :: rest) pos) (fun σ H Q => ta σ H fun x H1 => x = .bl true ∧ ∀ tk, tb tk σ H1 Q) := by
  refine ⟨fun pins s σ H Q hp I h => ?_⟩
  refine BoolOp_and (thn (ha.run pins s σ H _ hp I h) fun v s1 ⟨tk, x, H1, I1, r1, ex, q1⟩ => ?_)
  subst ex
  cases r1
  exact wpAny_truthy_bool (thn ((hb tk).run pins s1 σ H1 Q I1 (q1 tk)) fun _ _ z => ⟨tk, z⟩)
/-! blocks -/
def SPN (X : Cx) (C : Addr) (n : Str) (pins : List (Addr × Obj)) (D : Ends) (f : Flow) (s' : Shared) : Prop := ∃ tk : Tok, SP (xN X C (.str n tk)) pins D f s'
structure PSN (X : Cx) (C : Addr) (n : Str) (st : Stmt) (t : TS) : Prop where
  run : ∀ (pins : List (Addr × Obj)) (s : Shared) (σ : LSt) (H : Hp) (D : Ends), (∀ p ∈ X.pn ++ pins, p.1 ≠ C) → Inv X pins σ H s → t D σ H → wpAny (model X.prog X.w) X.A (exec st X.env) (SPN X C n pins D) X.xe s
structure PSsN (X : Cx) (C : Addr) (n : Str) (st : List Stmt) (t : TS) : Prop where
  run : ∀ (pins : List (Addr × Obj)) (s : Shared) (σ : LSt) (H : Hp) (D : Ends), (∀ p ∈ X.pn ++ pins, p.1 ≠ C) → Inv X pins σ H s → t D σ H → wpAny (model X.prog X.w) X.A (execs st X.env) (SPN X C n pins D) X.xe s
theorem psn_ret {e : Expr} {te : TE} {pos : Pos} (he : PEN X C n e te) : PSN X C n (.Return (some e) pos) (tRet te) := by
  refine ⟨fun pins s σ H D hp I h => ?_⟩
  exact wpAny_Return_some (thn (he.run pins s σ H _ hp I h) fun v s1 ⟨tk, x, H1, I1, r1, q1⟩ => ⟨tk, x, σ, H1, I1, r1, q1⟩)
theorem pssn_one {st : Stmt} {t : TS} (h1 : PSN X C n st t) : PSsN X C n [st] t := by
  refine ⟨fun pins s σ H D hp I h => ?_⟩
  refine wpAny_execs_cons (thn (h1.run pins s σ H D hp I h) fun f s1 q => ?_)
  cases f with
  | next => exact wpAny_execs_nil q
  | ret v => exact q
  | brk => exact q
  | cont => exact q
/-- a block's first part is ahead of it -/
def tSeqN (t u : TS) : TS := fun D σ H => t { nx := u D, bk := fun _ _ => False, ct := fun _ _ => False, rt := fun _ _ => False } σ H
theorem pssn_cons {st : Stmt} {rest : List Stmt} {t u : TS} (h1 : PS X st t) (h2 : PSsN X C n rest u) : PSsN X C n (st :: rest) (tSeqN t u) := by
  refine ⟨fun pins s σ H D hp I h => ?_⟩
  refine wpAny_execs_cons (thn (h1.run pins s σ H _ I h) fun f s1 q => ?_)
  cases f with
  | next =>
    obtain ⟨σ', H', I', q⟩ := q
    exact h2.run pins s1 σ' H' D hp I' q
  | ret v => obtain ⟨_, _, _, _, _, z⟩ := q; exact False.elim z
  | brk => obtain ⟨_, _, _, z⟩ := q; exact False.elim z
  | cont => obtain ⟨_, _, _, z⟩ := q; exact False.elim z
/-- a block goes through it, and on -/
theorem pssn_consN {st : Stmt} {rest : List Stmt} {t : TS} {u : Tok → TS} (h1 : PSN X C n st t) (h2 : ∀ tk, PSs (xN X C (.str n tk)) rest (u tk)) : PSsN X C n (st :: rest) (fun D σ H => t { D with nx := fun σ H => ∀ tk, u tk D σ H } σ H) := by
  refine ⟨fun pins s σ H D hp I h => ?_⟩
  refine wpAny_execs_cons (thn (h1.run pins s σ H _ hp I h) fun f s1 q => ?_)
  obtain ⟨tk, q⟩ := q
  cases f with
  | next =>
    obtain ⟨σ', H', I', q⟩ := q
    exact thn ((h2 tk).run pins s1 σ' H' D I' (q tk)) fun _ _ z => ⟨tk, z⟩
  | ret v => exact ⟨tk, q⟩
  | brk => exact ⟨tk, q⟩
  | cont => exact ⟨tk, q⟩
/-- a test through it -/
structure PTN (X : Cx) (C : Addr) (n : Str) (e : Expr) (t : TT) : Prop where
  run : ∀ (whole : Sem Value) (pins : List (Addr × Obj)) (s : Shared) (σ : LSt) (H : Hp) (Q : Bool → Hp → Prop), (∀ p ∈ X.pn ++ pins, p.1 ≠ C) → Inv X pins σ H s → t σ H Q → wpAny (model X.prog X.w) X.A (isTrue e X.env whole) (fun b s' => ∃ tk : Tok, TP (xN X C (.str n tk)) pins σ Q b s') X.xe s
theorem ptn_cmpR {a b : Expr} {ta : TE} {tb : Tok → TE} {op : CmpOp} {r : Tok → R2} {pos : Pos} (ho : ∀ tk, OpR (xN X C (.str n tk)) (compareOp op) (r tk)) (ha : PEN X C n a ta) (hb : ∀ tk, PE (xN X C (.str n tk)) b (tb tk)) (hm : behindInMarks op b = false) :
    PTN X C n (.Compare a [op] [b] pos) (fun σ H Q => ta σ H fun x H1 => ∀ tk, tb tk σ H1 fun y H2 => r tk x y H2 fun z H3 => ∃ k, z = .bl k ∧ Q k H3) := by
  refine ⟨fun wh pins s σ H Q hp I h => ?_⟩
  refine wpAny_isTrue_Compare1 (thn (ha.run pins s σ H _ hp I h) fun v s1 ⟨tk, x, H1, I1, r1, q1⟩ => ?_) hm
  refine thn ((hb tk).run pins s1 σ H1 _ I1 (q1 tk)) fun u s2 ⟨y, H2, I2, r2, q2⟩ => ?_
  refine thn (ho tk pins s2 σ H2 x y v u _ I2 r1 r2 q2) fun c s3 ⟨z, H3, I3, r3, k, e, q3⟩ => ?_
  subst e
  cases r3
  exact wpAny_truthy_bool ⟨tk, H3, I3, q3⟩
theorem ptn_or {a b : Expr} {rest : List Expr} {ta : TT} {tb : Tok → TT} {pos : Pos} (ha : PTN X C n a ta) (hb : ∀ tk, PW (xN X C (.str n tk)) (.BoolOp .Or (b :: rest) pos) (tb tk)) : PTN X C n (.BoolOp .Or (a :: b :: rest) pos) (fun σ H Q => ta σ H fun c H1 => if c = true then Q true H1 else ∀ tk, tb tk σ H1 Q) := by
  refine ⟨fun wh pins s σ H Q hp I h => ?_⟩
  refine isTrue_or (thn (ha.run _ pins s σ H _ hp I h) fun c s1 ⟨tk, H1, I1, q1⟩ => ?_)
  cases c with
  | true => exact ⟨tk, H1, I1, q1⟩
  | false => exact thn ((hb tk).run wh pins s1 σ H1 Q I1 (q1 tk)) fun _ _ z => ⟨tk, z⟩
theorem psn_if {c : Expr} {a b : List Stmt} {tc : TT} {t u : Tok → TS} {pos : Pos} (hc : PTN X C n c tc) (ha : ∀ tk, PSs (xN X C (.str n tk)) a (t tk)) (hb : ∀ tk, PSs (xN X C (.str n tk)) b (u tk)) : PSN X C n (.If c a b pos) (fun D σ H => tc σ H fun k H1 => ∀ tk, if k = true then t tk D σ H1 else u tk D σ H1) := by
  refine ⟨fun pins s σ H D hp I h => ?_⟩
  refine wpAny_If (thn (hc.run _ pins s σ H _ hp I h) fun d s1 ⟨tk, H1, I1, q1⟩ => ?_)
  have q2 := q1 tk
  cases d with
  | true => exact thn ((ha tk).run pins s1 σ H1 D I1 q2) fun _ _ z => ⟨tk, z⟩
  | false => exact thn ((hb tk).run pins s1 σ H1 D I1 q2) fun _ _ z => ⟨tk, z⟩
end
end Nm

/-! X5 -/
/-! ### defs that ask a class's name first -/
namespace Nm
open PySem PySem.Spec PyProof.Rows L2
def CRN (outer : List Env) (P : Program) (w : World) (C : Addr) (n : Str) (H : Hp) (s : Shared) (Q : VK) (r : Result) (s' : Shared) : Prop :=
  match r with
  | .ok (.ret u) => ∃ tk : Tok, CE outer P w H (sN s C (.str n tk)) Q u s'
  | .ok _ => False
  | .error _ => False
structure FnOkN (P : Program) (w : World) (K : PySem.W.Frag) (mg : Str → Option Value) (base : Heap) (C : Addr) (n : Str) (k : Nat) (f : Addr) (fd : FuncData) (ps : List Str) (sp : Sp) : Prop where
  len : ∀ vs H Q E, sp vs H Q E → vs.length = ps.length
  run : ∀ (A : Around) (outer : List Env) (s : Shared) (H : Hp) (args : Args) (us : List Value) (vs : List V) (Q : VK) (E : XK), Room k A → Env0 P w K mg base A outer s H → BindsTo s fd args (ps.zip us) → Vals vs us → sp vs H Q E →
    codeAny (model P w) A (.call (.ref f) args) (CRN outer P w C n H s Q) s
theorem Fun.okN {P : Program} {w : World} {K : PySem.W.Frag} {mg : Str → Option Value} {base : Heap} {C : Addr} {n : Str} {x qual : Str} {st : Stmt} {f : Addr} {fd : FuncData} {N ps : List Str} {k : Nat} {sp : Sp} (F : Fun K x qual st f fd) (S : FnScope N ps (defScope st)) (len : ∀ vs H Q E, sp vs H Q E → vs.length = ps.length)
    (hbody : ∀ (cdv : Value) (A : Around) (outer : List Env) (s : Shared) (H : Hp) (vs : List V) (Q : VK) (E : XK), Room k (A.deeper (envOfC qual (defScope st) s.heap.objs.size f cdv)) → sp vs H Q E →
      ∃ t, PSsN (cxOf CX0 P w K mg base N qual (defScope st) f cdv A outer s H E).nox C n (defBody st) t ∧ t { nx := fun _ H' => Q .non H', rt := Q } (start N vs) H) : FnOkN P w K mg base C n (k + 1) f fd ps sp := by
  obtain ⟨oc, od, kV, doc, pm, an, cdv, ct, osl, rfl, lk, hcd⟩ := F.ex
  refine ⟨len, fun A outer s H args us vs Q E hr e0 hb r hsp => ?_⟩
  have hl := len _ _ _ _ hsp
  have KX : K.In s.heap := e0.mod.kin.keeps fun b o e => (e0.bs b o e).1
  have lim : s.heap.NoLimit := e0.mod.nolimit.keeps fun b o e => (e0.bs b o e).1
  have hkind : ∀ y ∈ ps.zip us, (defScope st).names.lookup y.1 = some .local ∨ ((defScope st).names.lookup y.1 = some .cell ∧ ((cellsFrom (s.heap.objs.size + 1) (defScope st).names []).lookup y.1).isSome = true) := fun ⟨n, v⟩ hy => by
    rcases S.par n (List.of_mem_zip hy).1 with q | q
    · exact .inl q
    · exact .inr ⟨q, PySem.W.cellsFrom_some _ _ _ (.inl q)⟩
  refine codeAny_call_function hr.depth (KX _ _ lk) rfl S.co S.gen rfl (PySem.W.codeRec_of KX hcd) (hb _ _ _ _ ?_)
  refine wpAny_newFunctionEnv_cells S.kind hkind fun env he s1 x => ?_
  subst he
  refine ⟨lim.keeps x.toInCall.keep, codeAny_func ?_⟩
  obtain ⟨t, ht, hq⟩ := hbody cdv A outer s H vs Q E (hr.deeper _) hsp
  have I : Inv (cxOf CX0 P w K mg base N qual (defScope st) f cdv A outer s H E) [] (start N vs) H s1 := inv_start S hr.hd e0 hl r x
  refine wpAny_mono (ht.run [] s1 (start N vs) H _ (fun p hp => nomatch hp) (I.wish _) hq) (fun fl s' hs => ?_) fun e s' hs => False.elim hs
  obtain ⟨tk, hs⟩ := hs
  have fin : ∀ {σ' : LSt} {H' : Hp} {v : V} {u : Value}, Inv (xN (cxOf CX0 P w K mg base N qual (defScope st) f cdv A outer s H E).nox C (.str n tk)) [] σ' H' s' → RelV v u → Q v H' → CE outer P w H (sN s C (.str n tk)) Q u s' :=
    fun {σ' H' v u} J rv q => ⟨v, H', J.os, J.bare, J.base, J.hok, rv, q⟩
  cases fl with
  | ret u =>
    obtain ⟨v, σ', H', J, rv, q⟩ := hs
    exact ⟨tk, fin J rv q⟩
  | next =>
    obtain ⟨σ', H', J, q⟩ := hs
    exact ⟨tk, fin (v := V.non) (u := Value.none) J rfl q⟩
  | brk =>
    obtain ⟨_, _, _, q⟩ := hs
    exact False.elim q
  | cont =>
    obtain ⟨_, _, _, q⟩ := hs
    exact False.elim q
section
variable {X : Cx} {C : Addr} {n : Str} {pins : List (Addr × Obj)} {σ : LSt} {H : Hp} {s : Shared} {k : Nat} {f : Addr} {fd : FuncData} {ps : List Str} {sp : Sp} {Q : VK} {E : XK}
theorem run_fnN {us : List Value} {vs : List V} (F : FnOkN X.prog X.w X.K X.mg X.base C n k f fd ps sp) (c : NmC X.K C n) (hr : Room k X.A) (hb : Binds X.K fd ps []) (hp : ∀ p ∈ X.pn ++ pins, p.1 ≠ C) (I : Inv X pins σ H s) (r : Vals vs us) (h : sp vs H Q E) :
    wpAny (model X.prog X.w) X.A (call (.ref f) us) (EPN X C n pins σ Q) X.xe s := by
  have many : (us ++ []).length = ps.length := by rw [List.append_nil, ← r.length]; exact F.len _ _ _ _ h
  have bind := hb s us I.kIn many
  rw [List.append_nil] at bind
  refine wpAny_call (codeAny_mono (F.run X.A X.stack s H ⟨us, []⟩ us vs Q E hr I.env0 bind r h) fun r s' hq => ?_)
  obtain ⟨o, cd, h1, h2, _⟩ := at_of c I.ok
  cases r with
  | error e => exact False.elim hq
  | ok fl =>
    cases fl with
    | ret u =>
      obtain ⟨tk, hq⟩ := hq
      exact ⟨tk, (inv_nm I h2 hp).after hq⟩
    | next => exact False.elim hq
    | brk => exact False.elim hq
    | cont => exact False.elim hq
theorem pen_call {K : PySem.W.Frag} (hK : X.K = K) {x : Str} {e : Expr} {es : List Expr} {t : TA} {p pos : Pos} (F : FnOkN X.prog X.w K X.mg X.base C n k f fd ps sp) (c : NmC K C n) (hr : Room k X.A) (hg : Gl X x) (hm : X.mg x = some (.ref f)) (hk : PySem.W.keepIn K (.ref f) = true) (hb : Binds K fd ps [])
    (ha : PA X (e :: es) t) (hdb : (x == ("__debug__" : Str)) = false := by decide) (he : starEach (e :: es) X.env = (false, eval e X.env) :: starEach es X.env := by rfl) (hpl : (backTo pos (starEach es X.env)).any (·.1) = false := by rfl) :
    PEN X C n (.Call (.Name x p) (e :: es) [] pos) (fun σ H Q => t σ H fun vs H1 => sp vs H1 Q E) := by
  subst hK
  refine ⟨fun pins s σ H Q hp I h => ?_⟩
  refine wpAny_Call_Name_kw (ld_glob I hg hm ?_ hdb)
  refine PySem.W.callWith_K (h₀ := X.base) I.ok.mod.kin hk (thn (ha.run pos pins s σ H _ I h) fun us s1 ⟨vs, H1, I1, r, q⟩ => ⟨I1.kIn, ?_⟩) he hpl
  exact run_fnN F c hr hb hp I1 r q
/-- x == y by an own __eq__, of two of the class -/
theorem cmpBack_ref {u : Value} {s' : Shared} {Q : Value → Shared → Prop} (h : Q u s') (nn : u ≠ .notImplemented) : PySem.W.CmpBack Q u s' := by
  cases u <;> first | exact h | exact (nn rfl).elim
theorem rel_nni {v : V} {u : Value} (r : RelV v u) : u ≠ .notImplemented := by
  rintro rfl
  cases v <;> first | (obtain ⟨_, e⟩ := r; cases e; done) | (cases r; done)
theorem pen_eqOwn {K : PySem.W.Frag} (hK : X.K = K) {a b : Expr} {ta tb : TE} {pos : Pos} (hn : PySem.W.notFirst K C (.ref C) = true) (hs : PySem.W.findIn K (.ref C) "__eq__" = some (some (.ref f))) (hf : PySem.W.isFn K (.ref f) = true) (F : FnOkN X.prog X.w K X.mg X.base C n k f fd ps sp) (c : NmC K C n) (hr : Room k X.A) (hb : Binds K fd ps [])
    (ha : PE X a ta) (hb' : PE X b tb) (hm : behindInMarks .Eq b = false) : PEN X C n (.Compare a [.Eq] [b] pos) (fun σ H Q => ta σ H fun x H1 => tb σ H1 fun y H2 => ∃ (p q dp dq : Addr) (fs gs : List (Str × V)), x = .ref p ∧ y = .ref q ∧ H2 p = some (.ins C dp fs) ∧ H2 q = some (.ins C dq gs) ∧ sp [.ref p, .ref q] H2 Q E) := by
  subst hK
  refine ⟨fun pins s σ H Q hp I h => ?_⟩
  refine wpAny_Compare1 (thn (ha.run pins s σ H _ I h) fun v s1 ⟨x, H1, I1, r1, q1⟩ => ?_) hm
  refine thn (hb'.run pins s1 σ H1 _ I1 q1) fun u s2 ⟨y, H2, I2, r2, q2⟩ => ?_
  obtain ⟨p, q, dp, dq, fs, gs, rfl, rfl, hpp, hqq, q3⟩ := q2
  obtain rfl : v = Value.ref p := r1
  obtain rfl : u = Value.ref q := r2
  obtain ⟨mA, J, _⟩ := ins_get I2.hok hpp
  obtain ⟨od, J, _⟩ := J.look
  obtain ⟨mB, J2, _⟩ := ins_get I2.hok hqq
  obtain ⟨od2, J2, _⟩ := J2.look
  obtain ⟨m, hF⟩ := I2.fr
  have un : X.A.units < cLine := by have := hr.un; omega
  show wpAny _ _ (richCompare .Eq _ _) _ _ _
  refine PySem.W.cmp_K un hF I2.ok.mod.kin J J2.type hn hs hf (thn (run_fnN (us := [.ref p, .ref q]) (vs := [.ref p, .ref q]) F c hr hb hp I2 (.cons rfl (.cons rfl .nil)) q3) fun r s' z => ?_)
  obtain ⟨tk, v', H', I', rv, qv⟩ := z
  exact cmpBack_ref ⟨tk, v', H', I', rv, qv⟩ (rel_nni rv)
/-- x == y by an own __eq__ -/
def rEqOwn (K : PySem.W.Frag) (C : Addr) (sp : Sp) (E : XK) : R2 := fun x y H Q => ∃ (a dx : Addr) (fs : List (Str × V)) (T : Value), x = .ref a ∧ H a = some (.ins C dx fs) ∧ TyX K H y T ∧ PySem.W.notFirst K C T = true ∧ sp [.ref a, y] H Q E
theorem op_eqOwn {CX : CXT} {K : PySem.W.Frag} (hK : X.K = K) (hs : PySem.W.findIn K (.ref C) "__eq__" = some (some (.ref f))) (hf : PySem.W.isFn K (.ref f) = true) (F : FnOk X.prog X.w K X.mg X.base CX k f fd ps sp) (hr : Room k X.A) (hb : Binds K fd ps []) (hx : Passes CX X E) : OpR X (compareOp .Eq) (rEqOwn K C sp E) := by
  subst hK
  intro pins s σ H x y v u Q I rx ry h
  obtain ⟨a, dx, fs, T, rfl, ha, ty, hn, q⟩ := h
  obtain rfl : v = Value.ref a := rx
  obtain ⟨P, Z, pz, hne⟩ := kit_of I ry ty
  obtain ⟨mA, J, _⟩ := ins_get I.hok ha
  obtain ⟨od, J, _⟩ := J.look
  obtain ⟨m, hF⟩ := I.fr
  have un : X.A.units < cLine := by have := hr.un; omega
  show wpAny _ _ (richCompare .Eq _ _) _ _ _
  refine PySem.W.cmp_K un hF I.ok.mod.kin J (Z.ty _ _ I.kIn pz) hn hs hf (thn (run_fn (us := [.ref a, u]) (vs := [.ref a, y]) F hr hb .nil hx I (.cons rfl (.cons ry .nil)) q) fun r s' z => ?_)
  obtain ⟨v', H', I', rv, qv⟩ := z
  exact cmpBack_ref ⟨v', H', I', rv, qv⟩ (rel_nni rv)
end
end Nm

/-! X6 -/
/-! ### x in a tuple of data -/
namespace L2
open PySem PySem.Spec PyProof.Rows
def rInTD (K : PySem.W.Frag) : R2 := fun x y H Q => ∃ d ds, Dp K H x d ∧ Dp K H y (.tuple ds) ∧ SeqAt.shaped d = true ∧ SeqAt.shaped (.tuple ds) = true ∧ Q (.bl (ds.any fun z => PyData.eqv z d)) H
theorem op_inTD {X : Cx} {K : PySem.W.Frag} (hK : X.K = K) (hu : X.A.units + 65 < cLine) : OpR X (compareOp .In) (rInTD K) := by
  subst hK
  intro pins s σ H x y v u Q I rx ry h
  obtain ⟨d, ds, hd, he, sd, se, q⟩ := h
  obtain ⟨as, r1⟩ := Dp.reads I d x v hd rx
  obtain ⟨bs, r2⟩ := Dp.reads I (.tuple ds) y u he ry
  exact SeqAt.in_tuple_reads r2 r1 (SeqAt.canLay_of_shaped se) (SeqAt.canLay_of_shaped sd) (room_in_shaped sd hu) ⟨.bl _, H, I, rfl, q⟩
end L2
/-! ### a row's own operators -/
namespace Rw
open PySem PySem.Spec PyProof.Rows L2
def oddI : List String := ["NoneType", "str", "tuple", "list", "dict"]
/-- whether a value is an index below m -/
inductive IxV (K : PySem.W.Frag) (H : Hp) (m : Int) : V → Bool → Prop
  | int (i : Int) : IxV K H m (.int i) (decide (0 ≤ i) && decide (i < m))
  | bl (b : Bool) : IxV K H m (.bl b) false
  | other {v : V} {T : String} : TyX K H v (.type T) → T ∈ oddI → IxV K H m v false
theorem IxV.same {K : PySem.W.Frag} {H H' : Hp} (e : Same H H') {m : Int} {v : V} {b : Bool} (h : IxV K H m v b) : IxV K H' m v b := by
  cases h with
  | int i => exact .int i
  | bl b => exact .bl b
  | other t m => exact .other (TyX_same e t) m
theorem stepD_shaped {s : Step} (h : GoodS s) : SeqAt.shaped (stepD s) = true := by
  rw [stepD_txt]
  exact txtD_shaped h.all
def spIx (K : PySem.W.Frag) : Sp := fun vs H Q _ => ∃ (v : V) (m : Int) (b : Bool), vs = [v, .int m] ∧ IxV K H m v b ∧ Q (.bl b) H
def spLenR (K : PySem.W.Frag) (C d : Addr) : Sp := fun vs H Q _ => ∃ (a : Addr) (ss : List Step), vs = [.ref a] ∧ IsRow K C d H a ss ∧ Q (.int (ss.length : Nat)) H
def spCon (K : PySem.W.Frag) (C d : Addr) : Sp := fun vs H Q _ => ∃ (a : Addr) (x : V) (ss : List Step) (r : Option Step), vs = [.ref a, x] ∧ IsRow K C d H a ss ∧ SVG K d H x r ∧ ∀ H', Same H H' → Q (.bl (match r with | some s => decide (s ∈ ss) | none => false)) H'
def spGet (K : PySem.W.Frag) (C d CN : Addr) : Sp := fun vs H Q E => ∃ (a : Addr) (v : V) (ss : List Step) (b : Bool), vs = [.ref a, v] ∧ IsRow K C d H a ss ∧ ss.length ≤ 1000 ∧ IxV K H (ss.length : Nat) v b ∧
  (b = true → ∀ (i : Nat) (s : Step) (u : V), v = .int (i : Nat) → ss[i]? = some s → SVG K d H u (some s) → Q u H) ∧ (b = false → ∀ t H', Left H "value" v t H' → E (.ref CN) (some t) H')
def spHeldR (K : PySem.W.Frag) (C d CN : Addr) : Sp := fun vs H Q E => ∃ (a : Addr) (v : V) (ss : List Step) (b : Bool), vs = [.ref a, v] ∧ IsRow K C d H a ss ∧ ss.length ≤ 1000 ∧ IxV K H ((ss.length + 2 : Nat) : Nat) v b ∧
  (b = true → ∀ (i : Nat) (ns : List Str) (u : V), v = .int (i : Nat) → (helds ss [] ++ [[], []])[i]? = some ns → TxtT K H u ns → Q u H) ∧ (b = false → ∀ t H', Left H "value" v t H' → E (.ref CN) (some t) H')
def spWithout (K : PySem.W.Frag) (C d CI CN : Addr) : Sp := fun vs H Q E => ∃ (a : Addr) (v : V) (ss : List Step) (b : Bool), vs = [.ref a, v] ∧ IsRow K C d H a ss ∧ ss.length ≤ 300 ∧ IxV K H (ss.length : Nat) v b ∧
  (b = true → ∀ (i : Nat), v = .int (i : Nat) → i < ss.length → Made C CI d K H ((ss.take i ++ ss.drop (i + 1)).map some) Q E) ∧ (b = false → ∀ t H', Left H "value" v t H' → E (.ref CN) (some t) H')
def spBegins (K : PySem.W.Frag) (C d : Addr) : Sp := fun vs H Q _ => ∃ (a b : Addr) (ss ts : List Step), vs = [.ref a, .ref b] ∧ IsRow K C d H a ss ∧ IsRow K C d H b ts ∧ ss.length ≤ 300 ∧ ts.length ≤ 300 ∧ ∀ H', Same H H' → Q (.bl (decide (ts.take ss.length = ss))) H'
/-- one == other, for two of the class -/
def spAl (C : Addr) : Sp := fun vs H Q _ => ∃ (a b dx dy : Addr) (fs gs : List (Str × V)), vs = [.ref a, .ref b] ∧ H a = some (.ins C dx fs) ∧ H b = some (.ins C dy gs) ∧ Q (.bl true) H
def spEqR (K : PySem.W.Frag) (C d : Addr) : Sp := fun vs H Q _ => ∃ (a b : Addr) (ss ts : List Step), vs = [.ref a, .ref b] ∧ IsRow K C d H a ss ∧ IsRow K C d H b ts ∧ Q (.bl (decide (ss = ts))) H
/-- a row == what is no row -/
def spNeR (K : PySem.W.Frag) (C d : Addr) : Sp := fun vs H Q _ => ∃ (a : Addr) (v : V) (T : String), vs = [.ref a, v] ∧ TyX K H v (.type T) ∧ T ∈ ["NoneType", "bool", "int", "list", "str", "dict", "tuple"] ∧ Q (.bl false) H
section
variable {P : Program} {w : World} {K : PySem.W.Frag} {mg : Str → Option Value} {base : Heap}
abbrev sIxF : Stmt := top 8
theorem scIxF : FnScope ["value", "many"] ["value", "many"] (defScope sIxF) := ⟨rfl, rfl, rfl, by decide +kernel, rfl, by decide +kernel, by decide +kernel⟩
theorem ok_ix {f : Addr} {fd : FuncData} (F : Fun K "is_index" "is_index" sIxF f fd) (m_isinstance : mg "isinstance" = none) (m_int : mg "int" = none) (m_bool : mg "bool" = none) : FnOk P w K mg base CX0 1 f fd ["value", "many"] (spIx K) := by
  refine F.ok scIxF (fun vs H Q E h => ?_) (fun cdv A outer s H vs Q E hr h => ?_)
  · obtain ⟨v, m, b, rfl, _⟩ := h
    rfl
  · obtain ⟨v, m, b, rfl, hv, q⟩ := h
    refine ⟨_, (pss_one (ps_ret (pe_and (pe_callB call_isi (by rfl) m_isinstance (by decide +kernel) (pa_cons (pv 0) (pa_cons (pe_bltn (v := .ty "int") (by rfl) m_int (by decide +kernel) rfl) pa_nil))) (pe_and (pe_not (pe_callB call_isi (by rfl) m_isinstance (by decide +kernel) (pa_cons (pv 0) (pa_cons (pe_bltn (v := .ty "bool") (by rfl) m_bool (by decide +kernel) rfl) pa_nil)))) (pe_one (pe_chain op_le op_lt pe_int (pv 0) (pv 1))))))), ?_⟩
    cases hv with
    | int i =>
      have k1 : PySem.W.kitOne K (.type "int") (.type "int") = some true := kit_ty (by decide +kernel)
      have k2 : PySem.W.kitOne K (.type "int") (.type "bool") = some false := kit_ty (by decide +kernel)
      refine ⟨_, rfl, _, _, _, _, _, rfl, .ty _, .base (.int i), k1, _, rfl, ?_⟩
      refine iteT ?_
      refine ⟨_, rfl, _, _, _, _, _, rfl, .ty _, .base (.int i), k2, _, rfl, ?_⟩
      refine ⟨_, rfl, ?_⟩
      refine iteT ⟨_, rfl, (0 : Int), i, rfl, rfl, _, rfl, ?_⟩
      by_cases h0 : 0 ≤ i
      · rw [decide_eq_true h0] at q ⊢
        exact iteT ⟨_, rfl, i, m, rfl, rfl, q⟩
      · rw [decide_eq_false h0] at q ⊢
        exact iteF q
    | bl b =>
      have k1 : PySem.W.kitOne K (.type "bool") (.type "int") = some true := kit_ty (by decide +kernel)
      have k2 : PySem.W.kitOne K (.type "bool") (.type "bool") = some true := kit_ty (by decide +kernel)
      refine ⟨_, rfl, _, _, _, _, _, rfl, .ty _, .base (.bl b), k1, _, rfl, ?_⟩
      refine iteT ?_
      refine ⟨_, rfl, _, _, _, _, _, rfl, .ty _, .base (.bl b), k2, _, rfl, ?_⟩
      exact ⟨_, rfl, iteF q⟩
    | @other v T ty hT =>
      have kt : PySem.W.kitOne K (.type T) (.type "int") = some false := by
        simp only [oddI, List.mem_cons, List.mem_nil_iff, or_false] at hT
        rcases hT with rfl | rfl | rfl | rfl | rfl <;> exact kit_ty (by decide +kernel)
      refine ⟨_, rfl, _, _, _, _, _, rfl, .ty _, ty, kt, _, rfl, ?_⟩
      exact iteF q
abbrev sINum : Stmt := inClass (top 3) 0
theorem scINum : FnScope ["self", "value"] ["self", "value"] (defScope sINum) := ⟨rfl, rfl, rfl, by decide +kernel, rfl, by decide +kernel, by decide +kernel⟩
theorem ok_INum {f : Addr} {fd : FuncData} (F : Fun K "__init__" "InvalidNumber.__init__" sINum f fd) : FnOk P w K mg base CX0 1 f fd ["self", "value"] (spR1 K "value") := by
  refine F.ok scINum (fun vs H Q E h => ?_) (fun cdv A outer s H vs Q E hr h => ?_)
  · obtain ⟨a, C, fI, v, rfl, _⟩ := h
    rfl
  · obtain ⟨a, C, fI, v, rfl, T, hn, ea, q⟩ := h
    refine ⟨_, pss_one (ps_ostG (pv 0) (pv 1)), ?_⟩
    refine ⟨_, rfl, _, rfl, a, C, fI, rfl, T, hn, .inl ⟨ea, fun dx n ne => ?_⟩⟩
    refine q _ dx (fun b o hb e => ?_) upd_same (by rw [upd_ne ne, upd_same]) n ne
    rw [upd_ne hb, upd_ne (ne_of_none e n)]
    exact e
abbrev sLenR : Stmt := inClass (top 23) 8
theorem scLenR : FnScope ["self"] ["self"] (defScope sLenR) := ⟨rfl, rfl, rfl, by decide +kernel, rfl, by decide +kernel, by decide +kernel⟩
theorem ok_lenR {f d C fI fA fR : Addr} {fd : FuncData} (F : Fun K "__len__" "Row.__len__" sLenR f fd) (R : RowC K mg C fI fA fR) (m_len : mg "len" = none) : FnOk P w K mg base CX0 1 f fd ["self"] (spLenR K C d) := by
  refine F.ok scLenR (fun vs H Q E h => ?_) (fun cdv A outer s H vs Q E hr h => ?_)
  · obtain ⟨a, ss, rfl, _⟩ := h
    rfl
  · obtain ⟨a, ss, rfl, ⟨dx, p, hh, xs, ys, h1, h2, h3, _⟩, q⟩ := h
    refine ⟨_, (pss_one (ps_ret (pe_callB call_len_seq (by rfl) m_len PySem.boot_len (pa_cons (pe_fld (pv 0) rfl) pa_nil)))), ?_⟩
    refine ⟨_, rfl, a, C, dx, _, _, rfl, h1, R.cl, R.nS, rfl, p, xs, rfl, .inr h2, ?_⟩
    rw [h3.length]
    exact q
abbrev sCon : Stmt := inClass (top 23) 5
theorem scCon : FnScope ["self", "x"] ["self", "x"] (defScope sCon) := ⟨rfl, rfl, rfl, by decide +kernel, rfl, by decide +kernel, by decide +kernel⟩
theorem ok_con {f d C fI fA fR fS : Addr} {fd fdS : FuncData} (F : Fun K "__contains__" "Row.__contains__" sCon f fd) (R : RowC K mg C fI fA fR) (GS : FnOk P w K mg base CX0 2 fS fdS ["value"] (spStep K d)) (TS : Called K mg "is_step" ["value"] fS fdS) : FnOk P w K mg base CX0 3 f fd ["self", "x"] (spCon K C d) := by
  refine F.ok scCon (fun vs H Q E h => ?_) (fun cdv A outer s H vs Q E hr h => ?_)
  · obtain ⟨a, x, ss, r, rfl, _⟩ := h
    rfl
  · obtain ⟨a, x, ss, r, rfl, ⟨dx, p, hh, xs, ys, h1, h2, h3, _⟩, hx, q⟩ := h
    refine ⟨_, (pss_one (ps_ret (pe_and (pe_call GS (hr.mono (by decide)) rfl TS.1 TS.2.1 TS.2.2 .nil pass0 (pa_cons (pv 1) pa_nil)) (pe_one (pe_cmpR (op_inTD rfl hr.units65) (pv 1) (pe_fld (pv 0) rfl) (by rfl)))))), ?_⟩
    refine ⟨_, rfl, x, r, rfl, hx.1, fun H' s1 => ⟨_, rfl, ?_⟩⟩
    cases r with
    | none => exact iteF (q _ s1)
    | some st =>
      refine iteT ?_
      have rd : Dp K H' (V.ref p) (.tuple (ss.map stepD)) := .tup (s1.tupS h2) ((steps_of (of_rowAt h3)).same s1).dp
      obtain ⟨pp, rfl, hp⟩ := hx.1.step
      have xd : Dp K H' (V.ref pp) (stepD st) := StepAt.dp ⟨pp, rfl, s1.tupS hp⟩
      refine ⟨_, rfl, _, rfl, a, C, dx, _, _, rfl, s1 _ _ h1, R.cl, R.nS, rfl, _, _, xd, rd, stepD_shaped (hx.2 _ rfl), stepsD_shaped (good_of (of_rowAt h3)), ?_⟩
      rw [any_step]
      exact q _ s1
theorem ixv_true {H : Hp} {m : Nat} {v : V} {b : Bool} (h : IxV K H (m : Nat) v b) (e : b = true) : ∃ i : Nat, v = .int (i : Nat) ∧ i < m := by
  cases h with
  | int i =>
    simp only [Bool.and_eq_true, decide_eq_true_eq] at e
    exact ⟨i.toNat, by rw [Int.toNat_of_nonneg e.1], by omega⟩
  | bl b => cases e
  | other => cases e
abbrev sGet : Stmt := inClass (top 23) 6
theorem scGet : FnScope ["self", "at"] ["self", "at"] (defScope sGet) := ⟨rfl, rfl, rfl, by decide +kernel, rfl, by decide +kernel, by decide +kernel⟩
theorem ok_get {f d C CN fI fA fR fE fX : Addr} {fd fdE fdX : FuncData} (F : Fun K "__getitem__" "Row.__getitem__" sGet f fd) (R : RowC K mg C fI fA fR) (T : Er P w K mg base "InvalidNumber" "value" CN fE fdE)
    (GX : FnOk P w K mg base CX0 1 fX fdX ["value", "many"] (spIx K)) (TX : Called K mg "is_index" ["value", "many"] fX fdX) (m_len : mg "len" = none) : FnOk P w K mg base (L2.CX P w) 3 f fd ["self", "at"] (spGet K C d CN) := by
  refine F.okX scGet (fun vs H Q E h => ?_) (fun cdv A outer s H vs Q E hr h => ?_)
  · obtain ⟨a, v, ss, b, rfl, _⟩ := h
    rfl
  · obtain ⟨a, v, ss, b, rfl, ⟨dx, p, hh, xs, ys, h1, h2, h3, _⟩, hz, hv, q, qE⟩ := h
    refine ⟨_, (pss_cons (ps_if (pt_not (pt_val (pe_call GX (hr.mono (by decide)) rfl TX.1 TX.2.1 TX.2.2 .nil pass0 (pa_cons (pv 1) (pa_cons (pe_callB call_len_seq (by rfl) m_len PySem.boot_len (pa_cons (pe_fld (pv 0) rfl) pa_nil)) pa_nil)))))
       (pss_one (ps_raise rfl (takes_of rfl rfl rfl rfl) (pmk_G T.o T.F (hr.mono (by decide)) T.b pass0 rfl T.g (pa_cons (pv 1) pa_nil))))
       pss_nil)
       (pss_one (ps_ret (pe_ix (ix_tupK (K := K) rfl) (pe_fld (pv 0) rfl) (pv 1) (fun _ _ => rfl))))), ?_⟩
    have len := h3.length
    refine ⟨_, rfl, _, rfl, a, C, dx, _, _, rfl, h1, R.cl, R.nS, rfl, p, xs, rfl, .inr h2, ?_⟩
    rw [len]
    refine ⟨v, _, b, rfl, hv, ?_⟩
    cases b with
    | false =>
      refine ⟨_, rfl, ?_⟩
      exact iteT ⟨_, rfl, Nat.le_of_ble_eq_true rfl, fun a na => raise1 T.o T.no na fun t H' l => qE rfl t H' l⟩
    | true =>
      refine ⟨_, rfl, ?_⟩
      refine iteF ?_
      obtain ⟨i, rfl, hi⟩ := ixv_true hv rfl
      have hx : xs[i]? = some xs[i] := List.getElem?_eq_getElem (by omega)
      obtain ⟨st, hst, hu⟩ := h3.get hx
      exact ⟨_, rfl, a, C, dx, _, _, rfl, h1, R.cl, R.nS, rfl, _, rfl, p, _, _, _, rfl, rfl, h2, atI_nat hx, q rfl i st _ rfl hst hu⟩
abbrev sHeldF : Stmt := inClass (top 23) 13
theorem scHeldF : FnScope ["self", "done"] ["self", "done"] (defScope sHeldF) := ⟨rfl, rfl, rfl, by decide +kernel, rfl, by decide +kernel, by decide +kernel⟩
theorem ok_heldR {f d C CN fI fA fR fE fX : Addr} {fd fdE fdX : FuncData} (F : Fun K "held" "Row.held" sHeldF f fd) (R : RowC K mg C fI fA fR) (T : Er P w K mg base "InvalidNumber" "value" CN fE fdE)
    (GX : FnOk P w K mg base CX0 1 fX fdX ["value", "many"] (spIx K)) (TX : Called K mg "is_index" ["value", "many"] fX fdX) (m_len : mg "len" = none) : FnOk P w K mg base (L2.CX P w) 3 f fd ["self", "done"] (spHeldR K C d CN) := by
  refine F.okX scHeldF (fun vs H Q E h => ?_) (fun cdv A outer s H vs Q E hr h => ?_)
  · obtain ⟨a, v, ss, b, rfl, _⟩ := h
    rfl
  · obtain ⟨a, v, ss, b, rfl, ⟨dx, p, hh, xs, ys, h1, h2, h3, h4, h5⟩, hz, hv, q, qE⟩ := h
    refine ⟨_, (pss_cons (ps_if (pt_not (pt_val (pe_call GX (hr.mono (by decide)) rfl TX.1 TX.2.1 TX.2.2 .nil pass0 (pa_cons (pv 1) (pa_cons (pe_callB call_len_seq (by rfl) m_len PySem.boot_len (pa_cons (pe_fld (pv 0) rfl) pa_nil)) pa_nil)))))
       (pss_one (ps_raise rfl (takes_of rfl rfl rfl rfl) (pmk_G T.o T.F (hr.mono (by decide)) T.b pass0 rfl T.g (pa_cons (pv 1) pa_nil))))
       pss_nil)
       (pss_one (ps_ret (pe_ix (ix_listK (K := K) rfl) (pe_fld (pv 0) rfl) (pv 1) (fun _ _ => rfl))))), ?_⟩
    have len := h5.length
    have lh : (helds ss [] ++ [[], []]).length = ss.length + 2 := by rw [List.length_append, helds_len]; rfl
    rw [lh] at len
    refine ⟨_, rfl, _, rfl, a, C, dx, _, _, rfl, h1, R.cl, R.nH, rfl, hh, ys, rfl, .inl h4, ?_⟩
    rw [len]
    refine ⟨v, _, b, rfl, hv, ?_⟩
    cases b with
    | false =>
      refine ⟨_, rfl, ?_⟩
      exact iteT ⟨_, rfl, Nat.le_of_ble_eq_true rfl, fun a na => raise1 T.o T.no na fun t H' l => qE rfl t H' l⟩
    | true =>
      refine ⟨_, rfl, ?_⟩
      refine iteF ?_
      obtain ⟨i, rfl, hi⟩ := ixv_true hv rfl
      have hx : ys[i]? = some ys[i] := List.getElem?_eq_getElem (by omega)
      obtain ⟨st, hst, hu⟩ := h5.get hx
      exact ⟨_, rfl, a, C, dx, _, _, rfl, h1, R.cl, R.nH, rfl, _, rfl, hh, _, _, _, rfl, rfl, h4, atI_nat hx, q rfl i st _ rfl hst hu⟩
end
end Rw

/-! X7 -/
/-! ### a row without a step, beginnings, equal rows -/
namespace Rw
open PySem PySem.Spec PyProof.Rows L2
theorem cut_head (xs : List V) (i : Nat) (hi : i ≤ xs.length) : cutV xs none (some (i : Int)) = xs.take i := by
  show (xs.drop 0).take (HT.sIx xs.length xs.length (some (i : Int)) - 0) = _
  rw [HT.sIx_nat, List.drop_zero, Nat.min_eq_left hi]
  rfl
/-- t[:i] -/
theorem head_tup {K : PySem.W.Frag} {H : Hp} {p : Addr} {xs : List V} {i : Nat} {Q : VK} (h : SqT K H p xs) (q : ∀ H' u, Same H H' → SqT K H' u (xs.take i) → Q (.ref u) H') : rSlA K (.ref p) none (some (i : Int)) H Q := by
  refine ⟨p, _, rfl, h, fun c => ?_, fun c u nu => ?_⟩
  · have c2 := c.2
    rw [HT.sIx_nat] at c2
    have z := q H p (Same.refl H)
    rw [List.take_of_length_le (by omega)] at z
    exact z h
  · refine q _ _ (same_upd nu) (SqT.of ?_)
    rw [upd_same]
    show some (HO.tup ((xs.drop 0).take (HT.sIx xs.length xs.length (some (i : Int)) - 0))) = _
    rw [HT.sIx_nat, List.drop_zero, Nat.sub_zero]
    congr 2
    by_cases hi : i ≤ xs.length
    · rw [Nat.min_eq_left hi]
    · rw [Nat.min_eq_right (by omega), List.take_of_length_le (Nat.le_refl _), List.take_of_length_le (by omega)]
theorem eqvAll_steps : ∀ as bs : List Step, PyData.eqvAll (as.map stepD) (bs.map stepD) = decide (as = bs)
  | [], [] => rfl
  | [], _ :: _ => rfl
  | _ :: _, [] => rfl
  | a :: as, b :: bs => by
    show (PyData.eqv (stepD a) (stepD b) && PyData.eqvAll (as.map stepD) (bs.map stepD)) = _
    rw [eqvAll_steps as bs, eqv_step]
    by_cases h1 : a = b
    · subst h1
      by_cases h2 : as = bs
      · subst h2
        rw [decide_eq_true rfl, decide_eq_true rfl, decide_eq_true rfl]; rfl
      · rw [decide_eq_true rfl, decide_eq_false h2, decide_eq_false (fun z => h2 (List.cons.inj z).2)]; rfl
    · rw [decide_eq_false h1, decide_eq_false (fun z => h1 (List.cons.inj z).1)]; rfl
theorem eqv_stepsT (as bs : List Step) : PyData.eqv (.tuple (as.map stepD)) (.tuple (bs.map stepD)) = decide (as = bs) := by
  rw [show PyData.eqv (.tuple (as.map stepD)) (.tuple (bs.map stepD)) = PyData.eqvAll (as.map stepD) (bs.map stepD) by simp only [PyData.eqv]]
  exact eqvAll_steps as bs
theorem eqv_stepsL (as bs : List Step) : PyData.eqv (.list (as.map stepD)) (.list (bs.map stepD)) = decide (as = bs) := by
  rw [show PyData.eqv (.list (as.map stepD)) (.list (bs.map stepD)) = PyData.eqvAll (as.map stepD) (bs.map stepD) by simp only [PyData.eqv]]
  exact eqvAll_steps as bs
section
variable {P : Program} {w : World} {K : PySem.W.Frag} {mg : Str → Option Value} {base : Heap}
abbrev sWo : Stmt := inClass (top 23) 12
theorem scWo : FnScope ["self", "index", "steps"] ["self", "index"] (defScope sWo) := ⟨rfl, rfl, rfl, by decide +kernel, rfl, by decide +kernel, by decide +kernel⟩
theorem ok_without {f d C CI CN fI fA fR fE fX : Addr} {fd fdE fdX : FuncData} (F : Fun K "without" "Row.without" sWo f fd) (R : RowC K mg C fI fA fR) (T : Er P w K mg base "InvalidNumber" "value" CN fE fdE)
    (GI : FnR P w K mg base (L2.CX P w) 4 fI (spStar (spRI K d C CI)))
    (GX : FnOk P w K mg base CX0 1 fX fdX ["value", "many"] (spIx K)) (TX : Called K mg "is_index" ["value", "many"] fX fdX) (m_len : mg "len" = none) : FnOk P w K mg base (L2.CX P w) 6 f fd ["self", "index"] (spWithout K C d CI CN) := by
  refine F.okX scWo (fun vs H Q E h => ?_) (fun cdv A outer s H vs Q E hr h => ?_)
  · obtain ⟨a, v, ss, b, rfl, _⟩ := h
    rfl
  · obtain ⟨a, v, ss, b, rfl, ⟨dx, p, hh, xs, ys, h1, h2, h3, _⟩, hz, hv, q, qE⟩ := h
    refine ⟨_, (pss_cons (ps_if (pt_not (pt_val (pe_call GX (hr.mono (by decide)) rfl TX.1 TX.2.1 TX.2.2 .nil pass0 (pa_cons (pv 1) (pa_cons (pe_callB call_len_seq (by rfl) m_len PySem.boot_len (pa_cons (pe_fld (pv 0) rfl) pa_nil)) pa_nil)))))
       (pss_one (ps_raise rfl (takes_of rfl rfl rfl rfl) (pmk_G T.o T.F (hr.mono (by decide)) T.b pass0 rfl T.g (pa_cons (pv 1) pa_nil))))
       pss_nil)
       (pss_cons (ps_set (i := 2) scWo.nd rfl (.inl rfl) (pe_op op_catA (pe_slice sl_tupA (pe_fld (pv 0) rfl) po_none (po_some (pv 1))) (pe_slice sl_tupA (pe_fld (pv 0) rfl) (po_some (pe_op op_add (pv 1) pe_int)) po_none)))
       (pss_one (ps_ret (pe_makeS1 R.mkC GI hr rfl R.g passX (pv 2)))))), ?_⟩
    have len := h3.length
    refine ⟨_, rfl, _, rfl, a, C, dx, _, _, rfl, h1, R.cl, R.nS, rfl, p, xs, rfl, .inr h2, ?_⟩
    rw [len]
    refine ⟨v, _, b, rfl, hv, ?_⟩
    cases b with
    | false =>
      refine ⟨_, rfl, ?_⟩
      exact iteT ⟨_, rfl, Nat.le_of_ble_eq_true rfl, fun a na => raise1 T.o T.no na fun t H' l => qE rfl t H' l⟩
    | true =>
      refine ⟨_, rfl, ?_⟩
      refine iteF ?_
      obtain ⟨i, rfl, hi⟩ := ixv_true hv rfl
      dsimp only [tNext]
      refine ⟨_, rfl, a, C, dx, _, _, rfl, h1, R.cl, R.nS, rfl, ?_⟩
      dsimp only [tNoPart]
      refine ⟨_, rfl, _, rfl, ?_⟩
      refine head_tup h2 fun H2 u2 s2 hu2 => ?_
      refine ⟨_, rfl, a, C, dx, _, _, rfl, s2 _ _ h1, R.cl, R.nS, rfl, ?_⟩
      refine ⟨_, rfl, (i : Int), (1 : Int), rfl, rfl, _, rfl, ?_⟩
      dsimp only [tNoPart]
      refine tail_tup (s2.tupS h2) (by omega) fun H3 u3 s3 hu3 => ?_
      refine cat_any (s3.tupS hu2) hu3 (by rw [List.length_take, List.length_drop]; omega) fun H4 p4 s4 h4 => ?_
      have s24 := (s2.trans s3).trans s4
      refine ⟨_, rfl, p4, _, rfl, .inl h4, fun x dx nx nd ne => ?_⟩
      have rr := of_rowAt (h3.same s24)
      have all := (rr.take i).append (rr.drop (i + 1))
      rw [← List.map_take, ← List.map_drop, ← List.map_append] at all
      refine made_of all ?_ ((q rfl i rfl hi).before s24) nx nd ne
      rw [List.length_map, List.length_append, List.length_take, List.length_drop]
      omega
abbrev sBeg : Stmt := inClass (top 23) 11
theorem scBeg : FnScope ["self", "other"] ["self", "other"] (defScope sBeg) := ⟨rfl, rfl, rfl, by decide +kernel, rfl, by decide +kernel, by decide +kernel⟩
theorem ok_begins {f d C fI fA fR : Addr} {fd : FuncData} (F : Fun K "begins" "Row.begins" sBeg f fd) (R : RowC K mg C fI fA fR) (m_len : mg "len" = none) : FnOk P w K mg base CX0 1 f fd ["self", "other"] (spBegins K C d) := by
  refine F.ok scBeg (fun vs H Q E h => ?_) (fun cdv A outer s H vs Q E hr h => ?_)
  · obtain ⟨a, b, ss, ts, rfl, _⟩ := h
    rfl
  · obtain ⟨a, b, ss, ts, rfl, ⟨dx, p, hh, xs, ys, h1, h2, h3, _⟩, ⟨dy, p2, hh2, xs2, ys2, g1, g2, g3, _⟩, l1, l2, q⟩ := h
    refine ⟨_, (pss_one (ps_ret (pe_cmpR (op_eqD hr.units) (pe_fld (pv 0) rfl) (pe_slice sl_tupA (pe_fld (pv 1) rfl) po_none (po_some (pe_callB call_len_seq (by rfl) m_len PySem.boot_len (pa_cons (pe_fld (pv 0) rfl) pa_nil)))) (nomark _)))), ?_⟩
    have len := h3.length
    refine ⟨_, rfl, a, C, dx, _, _, rfl, h1, R.cl, R.nS, rfl, ?_⟩
    refine ⟨_, rfl, b, C, dy, _, _, rfl, g1, R.cl, R.nS, rfl, ?_⟩
    dsimp only [tNoPart]
    refine ⟨_, rfl, a, C, dx, _, _, rfl, h1, R.cl, R.nS, rfl, p, xs, rfl, .inr h2, _, rfl, ?_⟩
    rw [len]
    refine head_tup g2 fun H2 u2 s2 hu2 => ?_
    have r1 := (steps_of (of_rowAt h3)).same s2
    have gg := of_rowAt (g3.same s2)
    have r2 := gg.take ss.length
    rw [← List.map_take] at r2
    have d1 : Dp K H2 (V.ref p) (.tuple (ss.map stepD)) := .tup (s2.tupS h2) r1.dp
    have d2 : Dp K H2 (V.ref u2) (.tuple ((ts.take ss.length).map stepD)) := .tup hu2 (steps_of r2).dp
    refine ⟨_, _, d1, d2, stepsD_shaped (good_of (of_rowAt h3)), stepsD_shaped fun z hz => good_of (of_rowAt g3) z (List.mem_of_mem_take hz), ?_⟩
    rw [eqv_stepsT]
    have e : decide (ss = ts.take ss.length) = decide (ts.take ss.length = ss) := by
      by_cases h : ss = ts.take ss.length
      · rw [decide_eq_true h, decide_eq_true h.symm]
      · rw [decide_eq_false h, decide_eq_false fun z => h z.symm]
    rw [e]
    exact q _ s2
end
/-! two rows -/
section
variable {P : Program} {w : World} {K : PySem.W.Frag} {mg : Str → Option Value} {base : Heap}
abbrev sAl : Stmt := top 17
theorem scAl : FnScope ["one", "other"] ["one", "other"] (defScope sAl) := ⟨rfl, rfl, rfl, by decide +kernel, rfl, by decide +kernel, by decide +kernel⟩
theorem kept_kN {K : PySem.W.Frag} {C : Addr} {n : Str} (c : Nm.NmC K C n) (v : Value) : Nm.Kept (Nm.kN K C v) C v := by
  intro o e
  rw [Nm.kN_lookup] at e
  obtain ⟨o0, cd, h1, _⟩ := c.ob
  rw [h1] at e
  have e' : (if C = C then Nm.nmO v o0 else o0) = o := Option.some.inj e
  rw [if_pos rfl] at e'
  subst e'
  show (((o0.slots ++ Array.replicate (2 + 1 - o0.slots.size) none).setIfInBounds 2 (some v))[2]?).join = some v
  rw [Array.getElem?_setIfInBounds_self_of_lt (by rw [Array.size_append, Array.size_replicate]; omega)]
  rfl
theorem ok_alN {f C : Addr} {fd : FuncData} {n : Str} (F : Fun K "are_alike" "are_alike" sAl f fd) (c : Nm.NmC K C n) (fr : Nm.Fresh K C) (c' : ∀ tk, Nm.NmC (Nm.kN K C (.str n tk)) C n) : Nm.FnOkN P w K mg base C n 1 f fd ["one", "other"] (spAl C) := by
  refine Nm.Fun.okN F scAl (fun vs H Q E h => ?_) (fun cdv A outer s H vs Q E hr h => ?_)
  · obtain ⟨a, b, dx, dy, fs, gs, rfl, _⟩ := h
    rfl
  · obtain ⟨a, b, dx, dy, fs, gs, rfl, h1, h2, q⟩ := h
    refine ⟨_, Nm.pssn_one (Nm.psn_ret (Nm.pen_cmpR (fun tk => op_eq) (Nm.pen_name rfl c fr (Nm.pe_class rfl c (pv 0) rfl) rfl) (fun tk => Nm.pe_nameK rfl (c' tk) (kept_kN c _) (Nm.pe_class rfl (c' tk) (pv 1) rfl) rfl) (nomark _))), ?_⟩
    refine ⟨_, rfl, a, dx, fs, rfl, h1, rfl, fun tk => ?_⟩
    refine ⟨_, rfl, b, dy, gs, rfl, h2, rfl, rfl, ?_⟩
    rw [decide_eq_true rfl]
    exact q
theorem ok_alK {f C : Addr} {fd : FuncData} {n : Str} {tk : Tok} (F : Fun K "are_alike" "are_alike" sAl f fd) (c : Nm.NmC K C n) (kp : Nm.Kept K C (.str n tk)) : FnOk P w K mg base CX0 1 f fd ["one", "other"] (spAl C) := by
  refine F.ok scAl (fun vs H Q E h => ?_) (fun cdv A outer s H vs Q E hr h => ?_)
  · obtain ⟨a, b, dx, dy, fs, gs, rfl, _⟩ := h
    rfl
  · obtain ⟨a, b, dx, dy, fs, gs, rfl, h1, h2, q⟩ := h
    refine ⟨_, pss_one (ps_ret (pe_cmpR op_eq (Nm.pe_nameK rfl c kp (Nm.pe_class rfl c (pv 0) rfl) rfl) (Nm.pe_nameK rfl c kp (Nm.pe_class rfl c (pv 1) rfl) rfl) (nomark _))), ?_⟩
    refine ⟨_, rfl, a, dx, fs, rfl, h1, rfl, ?_⟩
    refine ⟨_, rfl, b, dy, gs, rfl, h2, rfl, rfl, ?_⟩
    rw [decide_eq_true rfl]
    exact q
end
end Rw

/-! X8 -/
/-! ### what stands, stands behind the first look at a name -/
namespace Nm
open PySem PySem.Spec PyProof.Rows L2
section
variable {K : PySem.W.Frag} {C : Addr} {n : Str} {v : Value} {H : Hp}
theorem ne_seq (c : NmC K C n) {a : Addr} {o : Obj} {its : Array Value} {k : Nat} (e : K.lookup a = some o) (d : o.data = .seq its k) : a ≠ C := by
  rintro rfl
  obtain ⟨o0, cd, h1, _, h3, _⟩ := c.ob
  rw [h1] at e
  cases e
  rw [h3] at d
  cases d
theorem lookup_ne {a : Addr} (h : a ≠ C) : (kN K C v).lookup a = K.lookup a := by
  rw [kN_lookup]
  cases K.lookup a with
  | none => rfl
  | some o =>
    show some (if a = C then nmO v o else o) = _
    rw [if_neg h]
theorem sqT_nm (c : NmC K C n) {a : Addr} {xs : List V} (h : SqT K H a xs) : SqT (kN K C v) H a xs := by
  rcases h with h | ⟨o, its, k, e, h1, h2, h3⟩
  · exact .inl h
  · exact .inr ⟨o, its, k, (lookup_ne (ne_seq c e h2)).trans e, h1, h2, h3⟩
theorem sqL_nm (c : NmC K C n) {a : Addr} {xs : List V} (h : SqL K H a xs) : SqL (kN K C v) H a xs := by
  rcases h with h | ⟨o, its, k, e, h1, h1b, h2, h3⟩
  · exact .inl h
  · exact .inr ⟨o, its, k, (lookup_ne (ne_seq c e h2)).trans e, h1, h1b, h2, h3⟩
end
theorem op_eqDK {X : Cx} {K : PySem.W.Frag} (hK : X.K = K) (hu : X.A.units + 64 < cLine) : OpR X (compareOp .Eq) (rEqD K) := by
  subst hK
  exact op_eqD hu
theorem op_neDK {X : Cx} {K : PySem.W.Frag} (hK : X.K = K) (hu : X.A.units + 64 < cLine) : OpR X (compareOp .NotEq) (rNeD K) := by
  subst hK
  exact op_neD hu
theorem pe_fldK {X : Cx} {K : PySem.W.Frag} (hK : X.K = K) {e : Expr} {f : Str} {pos : Pos} {ta : TE} (he : PE X e ta) (hb : attributeBase e f X.env (eval e X.env) = eval e X.env) : PE X (.Attribute e f pos) (tFld K ta f) := by
  subst hK
  exact pe_fld he hb
end Nm
/-! ### a row's own == -/
namespace Rw
open PySem PySem.Spec PyProof.Rows L2
theorem stepsAt_nm {K : PySem.W.Frag} {C : Addr} {n : Str} {v : Value} {H : Hp} (c : Nm.NmC K C n) {xs : List V} {ss : List Step} (h : StepsAt K H xs ss) : StepsAt (Nm.kN K C v) H xs ss :=
  h.mono fun _ _ ⟨p, q, r⟩ => ⟨p, q, Nm.sqT_nm c r⟩
section
variable {P : Program} {w : World} {K : PySem.W.Frag} {mg : Str → Option Value} {base : Heap}
abbrev sEqR : Stmt := inClass (top 23) 9
theorem scEqR : FnScope ["self", "other"] ["self", "other"] (defScope sEqR) := ⟨rfl, rfl, rfl, by decide +kernel, rfl, by decide +kernel, by decide +kernel⟩
/-- what is known of == of the class -/
structure EqC (K : PySem.W.Frag) (C fE : Addr) : Prop where
  hs : PySem.W.findIn K (.ref C) "__eq__" = some (some (.ref fE))
  hf : PySem.W.isFn K (.ref fE) = true
  nf : PySem.W.notFirst K C (.ref C) = true
  nt : ∀ T ∈ ["NoneType", "bool", "int", "list", "str", "dict", "tuple"], PySem.W.notFirst K C (.type T) = true
theorem ok_eqN {f d C fI fA fR fL : Addr} {fd fdL : FuncData} {n : Str} (F : Fun K "__eq__" "Row.__eq__" sEqR f fd) (R : RowC K mg C fI fA fR) (c : Nm.NmC K C n) (R' : ∀ tk, RowC (Nm.kN K C (.str n tk)) mg C fI fA fR)
    (GL : ∀ base, Nm.FnOkN P w K mg base C n 1 fL fdL ["one", "other"] (spAl C)) (TL : Called K mg "are_alike" ["one", "other"] fL fdL) (m_isinstance : mg "isinstance" = none) : Nm.FnOkN P w K mg base C n 2 f fd ["self", "other"] (spEqR K C d) := by
  refine Nm.Fun.okN F scEqR (fun vs H Q E h => ?_) (fun cdv A outer s H vs Q E hr h => ?_)
  · obtain ⟨a, b, ss, ts, rfl, _⟩ := h
    rfl
  · obtain ⟨a, b, ss, ts, rfl, ha, hb, q⟩ := h
    refine ⟨_, Nm.pssn_one (Nm.psn_ret (Nm.pen_and (pe_callB call_isi (by rfl) m_isinstance (by decide +kernel) (pa_cons (pv 1) (pa_cons (pe_glob (v := .ref C) rfl R.g rfl) pa_nil)))
      (Nm.pen_andN (Nm.pen_call (E := E0) rfl (GL _) c (hr.mono (by decide)) rfl TL.1 TL.2.1 TL.2.2 (pa_cons (pv 0) (pa_cons (pv 1) pa_nil)))
        (fun tk => pe_one (pe_cmpR (Nm.op_eqDK (K := Nm.kN K C (.str n tk)) rfl hr.units) (Nm.pe_fldK (K := Nm.kN K C (.str n tk)) rfl (pv 0) rfl) (Nm.pe_fldK (K := Nm.kN K C (.str n tk)) rfl (pv 1) rfl) (nomark _)))))), ?_⟩
    have ty := row_ty R hb
    obtain ⟨dx, p, hh, xs, ys, h1, h2, h3, _⟩ := ha
    obtain ⟨dy, p2, hh2, xs2, ys2, g1, g2, g3, _⟩ := hb
    refine ⟨_, rfl, _, _, _, _, _, rfl, .own _, ty, R.kRow, rfl, ?_⟩
    refine ⟨_, rfl, _, rfl, a, b, dx, dy, _, _, rfl, h1, g1, rfl, fun tk => ?_⟩
    have R2 := R' tk
    have d1 : Dp (Nm.kN K C (.str n tk)) H (V.ref p) (.tuple (ss.map stepD)) := .tup (Nm.sqT_nm c h2) (stepsAt_nm c (steps_of (of_rowAt h3))).dp
    have d2 : Dp (Nm.kN K C (.str n tk)) H (V.ref p2) (.tuple (ts.map stepD)) := .tup (Nm.sqT_nm c g2) (stepsAt_nm c (steps_of (of_rowAt g3))).dp
    refine ⟨_, rfl, a, C, dx, _, _, rfl, h1, R2.cl, R2.nS, rfl, _, rfl, b, C, dy, _, _, rfl, g1, R2.cl, R2.nS, rfl, _, _, d1, d2, stepsD_shaped (good_of (of_rowAt h3)), stepsD_shaped (good_of (of_rowAt g3)), ?_⟩
    rw [eqv_stepsT]
    exact q
theorem ok_eqK {f d C fI fA fR fL : Addr} {fd fdL : FuncData} (F : Fun K "__eq__" "Row.__eq__" sEqR f fd) (R : RowC K mg C fI fA fR)
    (GL : ∀ base, FnOk P w K mg base CX0 1 fL fdL ["one", "other"] (spAl C)) (TL : Called K mg "are_alike" ["one", "other"] fL fdL) (m_isinstance : mg "isinstance" = none) : FnOk P w K mg base CX0 2 f fd ["self", "other"] (spEqR K C d) := by
  refine F.ok scEqR (fun vs H Q E h => ?_) (fun cdv A outer s H vs Q E hr h => ?_)
  · obtain ⟨a, b, ss, ts, rfl, _⟩ := h
    rfl
  · obtain ⟨a, b, ss, ts, rfl, ha, hb, q⟩ := h
    refine ⟨_, pss_one (ps_ret (pe_and (pe_callB call_isi (by rfl) m_isinstance (by decide +kernel) (pa_cons (pv 1) (pa_cons (pe_glob (v := .ref C) rfl R.g rfl) pa_nil)))
      (pe_and (pe_call (E := E0) (GL _) (hr.mono (by decide)) rfl TL.1 TL.2.1 TL.2.2 .nil pass0 (pa_cons (pv 0) (pa_cons (pv 1) pa_nil)))
        (pe_one (pe_cmpR (Nm.op_eqDK (K := K) rfl hr.units) (Nm.pe_fldK (K := K) rfl (pv 0) rfl) (Nm.pe_fldK (K := K) rfl (pv 1) rfl) (nomark _)))))), ?_⟩
    have ty := row_ty R hb
    obtain ⟨dx, p, hh, xs, ys, h1, h2, h3, _⟩ := ha
    obtain ⟨dy, p2, hh2, xs2, ys2, g1, g2, g3, _⟩ := hb
    refine ⟨_, rfl, _, _, _, _, _, rfl, .own _, ty, R.kRow, _, rfl, iteT ?_⟩
    refine ⟨_, rfl, _, rfl, a, b, dx, dy, _, _, rfl, h1, g1, _, rfl, iteT ?_⟩
    have d1 : Dp K H (V.ref p) (.tuple (ss.map stepD)) := .tup h2 (steps_of (of_rowAt h3)).dp
    have d2 : Dp K H (V.ref p2) (.tuple (ts.map stepD)) := .tup g2 (steps_of (of_rowAt g3)).dp
    refine ⟨_, rfl, a, C, dx, _, _, rfl, h1, R.cl, R.nS, rfl, _, rfl, b, C, dy, _, _, rfl, g1, R.cl, R.nS, rfl, _, _, d1, d2, stepsD_shaped (good_of (of_rowAt h3)), stepsD_shaped (good_of (of_rowAt g3)), ?_⟩
    rw [eqv_stepsT]
    exact q
theorem ok_neR {f d C fI fA fR : Addr} {fd : FuncData} (F : Fun K "__eq__" "Row.__eq__" sEqR f fd) (R : RowC K mg C fI fA fR) (m_isinstance : mg "isinstance" = none) : FnOk P w K mg base CX0 2 f fd ["self", "other"] (spNeR K C d) := by
  refine F.ok scEqR (fun vs H Q E h => ?_) (fun cdv A outer s H vs Q E hr h => ?_)
  · obtain ⟨a, v, T, rfl, _⟩ := h
    rfl
  · obtain ⟨a, v, T, rfl, ty, hT, q⟩ := h
    refine ⟨_, pss_one (ps_ret (pe_and (pe_callB call_isi (by rfl) m_isinstance (by decide +kernel) (pa_cons (pv 1) (pa_cons (pe_glob (v := .ref C) rfl R.g rfl) pa_nil))) (PE.nox pe_dead))), ?_⟩
    exact ⟨_, rfl, _, _, _, _, _, rfl, .own _, ty, R.kT T hT, _, rfl, iteF q⟩
end
end Rw

/-! X9 -/
/-! ### what the law draws -/
namespace Rw
open PySem PySem.Spec PyProof.Rows L2
/-- the pool at o -/
def PoolAt (H : Hp) (o q : Addr) : Prop := ∃ (at_ : Nat) (ns : List Int), H o = some (.lst [.ref q, .int (at_ : Nat)]) ∧ q ≠ o ∧ H q = some (.lst (ns.map V.int)) ∧ ns.length ≤ 1000 ∧ ∀ n ∈ ns, 0 ≤ n ∧ n < 1000
theorem PoolAt.same {H H' : Hp} {o q : Addr} (e : Same H H') (h : PoolAt H o q) : PoolAt H' o q := let ⟨a, ns, h1, h2, h3, h4⟩ := h; ⟨a, ns, e _ _ h1, h2, e _ _ h3, h4⟩
def spPool (K : PySem.W.Frag) : Sp := fun vs H Q _ => ∃ (cell salt many : Int), vs = [.int cell, .int salt, .int many] ∧ 0 ≤ salt ∧ salt ≤ 1000000 ∧ 0 ≤ many ∧ many ≤ 400 ∧ ∀ H' o q, Same H H' → H o = none → PoolAt H' o q → Q (.ref o) H'
def spDraw (K : PySem.W.Frag) : Sp := fun vs H Q _ => ∃ (o q : Addr) (many : Int), vs = [.ref o, .int many] ∧ PoolAt H o q ∧ 1 ≤ many ∧ many ≤ 1000 ∧ ∀ H' n, SameBut o H H' → PoolAt H' o q → 0 ≤ n → n < many → Q (.int n) H'
def spPick (K : PySem.W.Frag) : Sp := fun vs H Q _ => ∃ (o q l : Addr) (xs : List V), vs = [.ref o, .ref l] ∧ PoolAt H o q ∧ l ≠ o ∧ SqL K H l xs ∧ xs ≠ [] ∧ xs.length ≤ 1000 ∧ ∀ H' x, SameBut o H H' → PoolAt H' o q → x ∈ xs → Q x H'
def spTruth (K : PySem.W.Frag) : Sp := fun vs H Q _ => ∃ a b : Bool, vs = [.bl a, .bl b] ∧ ∀ H', Same H H' → Q (.bl (decide (a = b))) H'
theorem sqL_but {K : PySem.W.Frag} {H H' : Hp} {x a : Addr} {xs : List V} (b : SameBut x H H') (n : a ≠ x) (h : SqL K H a xs) : SqL K H' a xs := by
  rcases h with (h | ⟨ob, h⟩) | h
  · exact .inl (.inl (b _ _ n h))
  · exact .inl (.inr ⟨ob, b _ _ n h⟩)
  · exact .inr h
section
variable {P : Program} {w : World} {K : PySem.W.Frag} {mg : Str → Option Value} {base : Heap}
abbrev sPool : Stmt := top 26
theorem scPool : FnScope ["_law_cell", "_law_salt", "_law_many"] ["_law_cell", "_law_salt", "_law_many"] (defScope sPool) := ⟨rfl, rfl, rfl, by decide +kernel, rfl, by decide +kernel, by decide +kernel⟩
theorem ok_pool {f fN : Addr} {fd fdN : FuncData} (F : Fun K "_law_pool" "_law_pool" sPool f fd) (GN : FnOk P w K mg base CX0 1 fN fdN ["_law_cell", "_law_salt", "_law_sizes"] (spNum K)) (TN : Called K mg "_law_numbers" ["_law_cell", "_law_salt", "_law_sizes"] fN fdN) :
    FnOk P w K mg base CX0 2 f fd ["_law_cell", "_law_salt", "_law_many"] (spPool K) := by
  refine F.ok scPool (fun vs H Q E h => ?_) (fun cdv A outer s H vs Q E hr h => ?_)
  · obtain ⟨cell, salt, many, rfl, _⟩ := h
    rfl
  · obtain ⟨cell, salt, many, rfl, h1, h2, h3, h4, q⟩ := h
    refine ⟨_, (pss_one (ps_ret (pe_lst (pa_cons (pe_call GN (hr.mono (by decide)) rfl TN.1 TN.2.1 TN.2.2 .nil pass0 (pa_cons (pv 0) (pa_cons (pv 1) (pa_cons (pe_op op_rep (pe_lst (pa_cons pe_int pa_nil)) (pv 2)) pa_nil)))) (pa_cons pe_int pa_nil))))), ?_⟩
    refine ⟨_, rfl, _, rfl, by show 1 ≤ sizeLine; decide, fun z nz => ?_⟩
    have s1 := same_upd (o := HO.lst [V.int 420]) nz
    refine ⟨_, rfl, z, many, _, rfl, rfl, upd_same, by omega, by omega, ?_, fun y ny => ?_⟩
    · rw [sizeLine_eq]
      show 1 * many.toNat ≤ _
      omega
    have e0 : (List.replicate many.toNat [V.int 420]).flatten = (List.replicate many.toNat (420 : Int)).map V.int := by
      rw [List.map_replicate]
      induction many.toNat with
      | zero => rfl
      | succ n ih => rw [List.replicate_succ, List.replicate_succ, List.flatten_cons, ih]; rfl
    rw [e0]
    have s2 := same_upd (o := HO.lst ((List.replicate many.toNat (420 : Int)).map V.int)) ny
    refine ⟨cell, salt, y, _, rfl, SqL.of upd_same, by rw [List.length_replicate]; omega, fun n hn => ?_, h1, h2, fun H' p ns s3 _ hp dr => ?_⟩
    · rw [List.eq_of_mem_replicate hn]
      exact ⟨by decide, by decide⟩
    refine ⟨by show 2 ≤ sizeLine; decide, fun o no => ?_⟩
    have s4 := same_upd (o := HO.lst [V.ref p, V.int 0]) no
    have st := ((s1.trans s2).trans s3)
    have np : p ≠ o := ne_of_none hp no
    refine q _ o p (st.trans s4) (st.free no) ⟨0, ns, upd_same, np, s4 _ _ hp, ?_, fun n hn => ?_⟩
    · rw [dr.1, List.length_replicate]
      omega
    · obtain ⟨i, hi⟩ := List.getElem?_of_mem hn
      have hi2 : i < ns.length := (List.getElem?_eq_some_iff.mp hi).1
      have hi3 : i < (List.replicate many.toNat (420 : Int)).length := by rw [← dr.1]; exact hi2
      obtain ⟨x, x1, x2, x3⟩ := dr.2 i 420 (by rw [List.getElem?_eq_getElem hi3, List.getElem_replicate])
      rw [hi] at x1
      cases x1
      exact ⟨x2, by omega⟩
abbrev sDraw : Stmt := top 27
theorem scDraw : FnScope ["_law_pool_here", "_law_many", "_law_at"] ["_law_pool_here", "_law_many"] (defScope sDraw) := ⟨rfl, rfl, rfl, by decide +kernel, rfl, by decide +kernel, by decide +kernel⟩
theorem ok_draw {f : Addr} {fd : FuncData} (F : Fun K "_law_draw" "_law_draw" sDraw f fd) (m_len : mg "len" = none) (m_int : mg "int" = none) : FnOk P w K mg base CX0 1 f fd ["_law_pool_here", "_law_many"] (spDraw K) := by
  refine F.ok scDraw (fun vs H Q E h => ?_) (fun cdv A outer s H vs Q E hr h => ?_)
  · obtain ⟨o, q, many, rfl, _⟩ := h
    rfl
  · obtain ⟨o, p, many, rfl, ⟨at_, ns, ho, np, hp, hl, hn⟩, m1, m2, q⟩ := h
    refine ⟨_, (pss_cons (ps_set (i := 2) scDraw.nd rfl (.inl rfl) (pe_ix ix_list (pv 0) pe_int (fun _ _ => rfl)))
       (pss_cons (ps_asg (pe_op op_add (pv 2) pe_int) (pg_sub (pv 0) pe_int set_list))
       (pss_one (ps_ret (pe_ifExp (pt_cmpR op_lt (pv 2) (pe_callB call_len_seq (by rfl) m_len PySem.boot_len (pa_cons (pe_ix ix_list (pv 0) pe_int (fun _ _ => rfl)) pa_nil)) (nomark _))
       (pe_op op_modN (pe_callTy call_int1 (by rfl) m_int (by decide +kernel) (pa_cons (pe_ix ix_list (pe_ix ix_list (pv 0) pe_int (fun _ _ => rfl)) (pv 2) (fun _ _ => rfl)) pa_nil)) (pv 1))
       pe_int))))), ?_⟩
    refine ⟨_, rfl, o, _, _, _, rfl, rfl, SqL.of ho, rfl, ?_⟩
    refine ⟨_, rfl, _, _, rfl, rfl, _, rfl, o, _, 1, 1, rfl, rfl, ho, rfl, ?_⟩
    have e1 : (upd H o (.lst ([V.ref p, V.int (at_ : Nat)].set 1 (.int ((at_ : Int) + 1))))) o = some (.lst [.ref p, .int ((at_ + 1 : Nat) : Int)]) := upd_same
    have b1 : SameBut o H (upd H o (.lst ([V.ref p, V.int (at_ : Nat)].set 1 (.int ((at_ : Int) + 1))))) := but_upd
    generalize upd H o (.lst ([V.ref p, V.int (at_ : Nat)].set 1 (.int ((at_ : Int) + 1)))) = H1 at e1 b1
    have hp1 := b1 _ _ np hp
    have P1 : PoolAt H1 o p := ⟨at_ + 1, ns, e1, np, hp1, hl, hn⟩
    refine ⟨_, rfl, _, rfl, o, _, _, _, rfl, rfl, SqL.of e1, rfl, p, _, rfl, .inl (SqL.of hp1), _, _, rfl, rfl, _, rfl, ?_⟩
    by_cases h : ((at_ : Nat) : Int) < ((ns.map V.int).length : Nat)
    · rw [decide_eq_true h]
      refine iteT ?_
      rw [List.length_map] at h
      have hi : at_ < ns.length := by omega
      have hx : (ns.map V.int)[at_]? = some (V.int ns[at_]) := by rw [List.getElem?_map, List.getElem?_eq_getElem hi]; rfl
      refine ⟨_, rfl, o, _, _, _, rfl, rfl, SqL.of e1, rfl, _, rfl, p, _, _, _, rfl, rfl, SqL.of hp1, atI_nat hx, ?_⟩
      refine .inl ⟨_, rfl, _, rfl, _, _, rfl, rfl, by omega, ?_⟩
      exact q H1 _ b1 P1 (Int.fmod_nonneg_of_pos _ (by omega)) (Int.fmod_lt_of_pos _ (by omega))
    · rw [decide_eq_false h]
      exact iteF (q H1 0 b1 P1 (Int.le_refl _) (by omega))
abbrev sPick : Stmt := top 28
theorem scPick : FnScope ["_law_pool_here", "_law_some"] ["_law_pool_here", "_law_some"] (defScope sPick) := ⟨rfl, rfl, rfl, by decide +kernel, rfl, by decide +kernel, by decide +kernel⟩
theorem ok_pick {f fD : Addr} {fd fdD : FuncData} (F : Fun K "_law_pick" "_law_pick" sPick f fd) (GD : FnOk P w K mg base CX0 1 fD fdD ["_law_pool_here", "_law_many"] (spDraw K)) (TD : Called K mg "_law_draw" ["_law_pool_here", "_law_many"] fD fdD) (m_len : mg "len" = none) : FnOk P w K mg base CX0 2 f fd ["_law_pool_here", "_law_some"] (spPick K) := by
  refine F.ok scPick (fun vs H Q E h => ?_) (fun cdv A outer s H vs Q E hr h => ?_)
  · obtain ⟨o, q, l, xs, rfl, _⟩ := h
    rfl
  · obtain ⟨o, pq, l, xs, rfl, hp, n, hx, ne, hz, q⟩ := h
    refine ⟨_, (pss_one (ps_ret (pe_ix ix_list (pv 1) (pe_call GD (hr.mono (by decide)) rfl TD.1 TD.2.1 TD.2.2 .nil pass0 (pa_cons (pv 0) (pa_cons (pe_callB call_len_seq (by rfl) m_len PySem.boot_len (pa_cons (pv 1) pa_nil)) pa_nil))) (fun _ _ => rfl)))), ?_⟩
    have hpos : 0 < xs.length := List.length_pos_iff.mpr ne
    refine ⟨_, rfl, _, rfl, _, rfl, l, xs, rfl, .inl hx, o, pq, _, rfl, hp, by omega, by omega, fun H' i b hp' i0 i1 => ?_⟩
    have hi : i.toNat < xs.length := by omega
    refine ⟨l, xs, i, xs[i.toNat], rfl, rfl, sqL_but b n hx, ?_, q H' _ b hp' (List.getElem_mem hi)⟩
    have e : i = ((i.toNat : Nat) : Int) := by omega
    have z := atI_nat (xs := xs) (List.getElem?_eq_getElem hi)
    rw [← e] at z
    exact z
abbrev sTruth : Stmt := top 29
theorem scTruth : FnScope ["_law_found", "_law_due"] ["_law_found", "_law_due"] (defScope sTruth) := ⟨rfl, rfl, rfl, by decide +kernel, rfl, by decide +kernel, by decide +kernel⟩
theorem ok_truth {f : Addr} {fd : FuncData} (F : Fun K "_law_truth" "_law_truth" sTruth f fd) (m_isinstance : mg "isinstance" = none) (m_bool : mg "bool" = none) : FnOk P w K mg base CX0 1 f fd ["_law_found", "_law_due"] (spTruth K) := by
  refine F.ok scTruth (fun vs H Q E h => ?_) (fun cdv A outer s H vs Q E hr h => ?_)
  · obtain ⟨a, b, rfl, _⟩ := h
    rfl
  · obtain ⟨a, b, rfl, q⟩ := h
    refine ⟨_, (pss_one (ps_ret (pe_and (pe_callB call_isi (by rfl) m_isinstance (by decide +kernel) (pa_cons (pv 0) (pa_cons (pe_bltn (v := .ty "bool") (by rfl) m_bool (by decide +kernel) rfl) pa_nil))) (pe_one (pe_cmpR op_eq (pv 0) (pv 1) (nomark _)))))), ?_⟩
    have kt : PySem.W.kitOne K (.type "bool") (.type "bool") = some true := kit_ty (by decide +kernel)
    refine ⟨_, rfl, _, _, _, _, _, rfl, .ty _, .base (.bl a), kt, _, rfl, iteT ?_⟩
    refine ⟨_, rfl, _, rfl, rfl, ?_⟩
    have e : decide (V.bl a = V.bl b) = decide (a = b) := by
      by_cases h : a = b
      · rw [h, decide_eq_true rfl, decide_eq_true rfl]
      · rw [decide_eq_false h, decide_eq_false (fun e => h (V.bl.inj e))]
    rw [e]
    exact q H (Same.refl H)
end
end Rw

/-! X10 -/
/-! ### the law's own look at the locks -/
namespace Rw
open PySem PySem.Spec PyProof.Rows L2
def optV : Option Nat → V
  | none => .non
  | some i => .int (i : Nat)
def spFault (K : PySem.W.Frag) : Sp := fun vs H Q _ => ∃ (l : Addr) (xs : List V) (ss : List Step), vs = [.ref l] ∧ SqL K H l xs ∧ StepsAt K H xs ss ∧ (∀ s ∈ ss, GoodS s) ∧ ss.length ≤ 200 ∧ ∀ H', Same H H' → Q (optV ((wrongs ss [] []).findIdx? id)) H'
theorem eqv_list_txt (as bs : List Str) : PyData.eqv (.list (as.map PyData.str)) (.list (bs.map PyData.str)) = decide (as = bs) := by
  rw [show PyData.eqv (.list (as.map PyData.str)) (.list (bs.map PyData.str)) = PyData.eqvAll (as.map PyData.str) (bs.map PyData.str) by simp only [PyData.eqv]]
  exact eqvAll_txt as bs
theorem stepsL_shaped {ss : List Step} (h : ∀ s ∈ ss, GoodS s) : SeqAt.shaped (.list (ss.map stepD)) = true := by
  obtain ⟨a, b⟩ := stepsD_lay ss h
  refine shaped_of (by simp only [PyData.canLay0]; exact a) ?_
  simp only [PyData.depth]
  omega
theorem cut_tail (xs : List V) (i : Nat) (hi : i < xs.length) : cutV xs (some ((i : Int) + 1)) none = xs.drop (i + 1) := by
  have e1 : HT.sIx xs.length 0 (some ((i : Int) + 1)) = i + 1 := by
    have z := HT.sIx_nat xs.length 0 (i + 1)
    rw [show (((i + 1 : Nat) : Int)) = (i : Int) + 1 by omega] at z
    rw [z]
    omega
  show (xs.drop (HT.sIx xs.length 0 (some ((i : Int) + 1)))).take (HT.sIx xs.length xs.length none - HT.sIx xs.length 0 (some ((i : Int) + 1))) = _
  rw [e1]
  show (xs.drop (i + 1)).take (xs.length - (i + 1)) = _
  rw [List.take_of_length_le]
  rw [List.length_drop]
  exact Nat.le_refl _
section
variable {P : Program} {w : World} {K : PySem.W.Frag} {mg : Str → Option Value} {base : Heap}
abbrev sFault : Stmt := top 33
theorem scFault : FnScope ["_law_steps", "_law_own", "_law_at", "_law_word", "_law_name"] ["_law_steps"] (defScope sFault) := ⟨rfl, rfl, rfl, by decide +kernel, rfl, by decide +kernel, by decide +kernel⟩
theorem ok_fault {f : Addr} {fd : FuncData} (F : Fun K "_law_fault" "_law_fault" sFault f fd) (m_enumerate : mg "enumerate" = none) : FnOk P w K mg base CX0 1 f fd ["_law_steps"] (spFault K) := by
  refine F.ok scFault (fun vs H Q E h => ?_) (fun cdv A outer s H vs Q E hr h => ?_)
  · obtain ⟨l, xs, ss, rfl, _⟩ := h
    rfl
  · obtain ⟨l, xs, ss, rfl, hx, hss, hg, hz, q⟩ := h
    refine ⟨_, (pss_cons (ps_set (i := 1) scFault.nd rfl (.inl rfl) (pe_lst pa_nil))
       (pss_cons (ps_for PassesOwn.never rfl (pi_enum rfl m_enumerate (pa_cons (pv 0) pa_nil)) (pg_tup rfl (pgs_cons (pg_name (i := 2) scFault.nd rfl (.inl rfl)) (pgs_cons (pg_tup rfl (pgs_cons (pg_name (i := 3) scFault.nd rfl (.inl rfl)) (pgs_cons (pg_name (i := 4) scFault.nd rfl (.inl rfl)) pgs_nil))) pgs_nil)))
       (pss_cons (ps_if (PW.pt (pw_and (pt_cmpR op_eq (pv 3) pe_str (nomark _)) (pw_and1 (PW.pt (pw_or (pt_cmpR op_in_seq (pv 4) (pv 1) (by rfl)) (pw_or1 (pt_cmpR (op_notInD hr.units65) (pe_tup (pa_cons pe_str (pa_cons (pv 4) pa_nil))) (pe_slice sl_list (pv 0) (po_some (pe_op op_add (pv 2) pe_int)) po_none) (by rfl))))))))
       (pss_one (ps_ret (pv 2)))
       pss_nil)
       (pss_cons (ps_if (PW.pt (pw_and (pt_cmpR op_eq (pv 3) pe_str (nomark _)) (pw_and1 (PW.pt (pw_or (pt_cmpR (op_eqD hr.units) (pv 1) (pe_lst pa_nil) (nomark _)) (pw_or1 (pt_cmpR op_ne (pe_ix ix_list (pv 1) (pe_un un_neg pe_int) (fun _ _ => rfl)) (pv 4) (nomark _))))))))
       (pss_one (ps_ret (pv 2)))
       pss_nil)
       (pss_one (ps_set (i := 1) scFault.nd rfl (.inl rfl) (pe_ifExp (pt_cmpR op_eq (pv 3) pe_str (nomark _))
       (pe_op op_cat (pv 1) (pe_lst (pa_cons (pv 4) pa_nil)))
       (pe_ifExp (pt_cmpR op_eq (pv 3) pe_str (nomark _))
       (pe_slice sl_list (pv 1) po_none (po_some (pe_un un_neg pe_int)))
       (pv 1))))))))
       (pss_one (ps_ret pe_non)))), ?_⟩
    refine ⟨Nat.zero_le _, fun o0 no0 => ?_⟩
    have s1 := same_upd (o := HO.lst []) no0
    have len := hss.length
    refine ⟨_, rfl, l, _, rfl, s1.seq hx, for_enum (K := K) (a := l) (xs := xs)
      (fun i σ H' => ∃ (u : Addr) (v2 v3 v4 : Option V), σ = [some (.ref l), some (.ref u), v2, v3, v4] ∧ Same H H' ∧ H' u = some (.lst ((after (ss.take i) []).map V.str)) ∧ ∀ j, j < i → (wrongs ss [] [])[j]? = some false)
      ⟨o0, none, none, none, rfl, s1, upd_same, fun j hj => absurd hj (Nat.not_lt_zero j)⟩ ?_ ?_ ?_⟩
    · rintro i σ H' hi ⟨u, v2, v3, v4, rfl, sm, _⟩
      exact sm.seq hx
    · rintro i x σ H1 T1 hxi ⟨u, v2, v3, v4, rfl, sm, hu, al⟩ nT
      obtain ⟨st, hst, p, rfl, sa⟩ := hss.get hxi
      have gs := hg st (List.mem_of_getElem? hst)
      have hi : i < ss.length := (List.getElem?_eq_some_iff.mp hst).1
      have u0 := same_upd (o := .tup [.int (i : Nat), .ref p]) nT
      have e0 : (upd H1 T1 (.tup [.int (i : Nat), .ref p])) T1 = some (.tup [.int (i : Nat), .ref p]) := upd_same
      generalize upd H1 T1 (.tup [.int (i : Nat), .ref p]) = H2 at u0 e0
      have sm2 := sm.trans u0
      have hu2 := u0 _ _ hu
      have ol := after_len (ss.take i) []
      rw [List.length_take, List.length_nil] at ol
      have wg := wrongs_get ss [] [] i st hst
      have own_ok : ∀ n ∈ after (ss.take i) [], sOk n := after_ok _ _ (fun n hn => nomatch hn) fun z hz => (hg z (List.mem_of_mem_take hz)).ok2
      have nxt : after (ss.take (i + 1)) [] = behind st (after (ss.take i) []) := by rw [take_snoc hst, after_snoc]
      generalize after (ss.take i) [] = own at hu2 ol wg own_ok nxt
      have found : wrongS st (ss.drop (i + 1)) [] own = true → (wrongs ss [] []).findIdx? id = some i := fun ht => by
        rw [ht] at wg
        rw [List.findIdx?_eq_some_iff_getElem]
        obtain ⟨hi, he⟩ := List.getElem?_eq_some_iff.mp wg
        refine ⟨hi, by rw [he]; rfl, fun j hj => ?_⟩
        obtain ⟨hj2, he2⟩ := List.getElem?_eq_some_iff.mp (al j hj)
        rw [he2]
        exact Bool.false_ne_true
      have going : wrongS st (ss.drop (i + 1)) [] own = false → ∀ j, j < i + 1 → (wrongs ss [] [])[j]? = some false := fun hf j hj => by
        by_cases e : j = i
        · rw [e, wg, hf]
        · exact al j (by omega)
      refine ⟨T1, _, rfl, SqT.of e0, rfl, _, _, rfl, _, _, rfl, p, _, rfl, sm2.tupS sa, rfl, _, _, rfl, _, _, rfl, rfl, rfl, ?_⟩
      refine ⟨_, rfl, rfl, _, rfl, ?_⟩
      rw [dec_str]
      by_cases h1 : st.1 = "take"
      · have h2 : st.1 ≠ "give" := by rw [h1]; decide +kernel
        have hw : wrongS st (ss.drop (i + 1)) [] own = if st.2 ∈ own then true else !decide ((("give" : Str), st.2) ∈ ss.drop (i + 1)) := by
          unfold wrongS
          rw [if_neg h2, if_pos h1]
          rfl
        have hb : behind st own = own ++ [st.2] := if_pos h1
        rw [decide_eq_true h1]
        refine iteT ⟨_, rfl, _, rfl, u, _, rfl, .inl (SqL.of hu2), rfl, flat_txt _, _, rfl, ?_⟩
        show if inV (.str st.2) (own.map V.str) = true then _ else _
        rw [inV_txt]
        by_cases h3 : st.2 ∈ own
        · rw [decide_eq_true h3]
          have q2 := q H2 sm2
          rw [found (by rw [hw, if_pos h3])] at q2
          exact iteT (iteT ⟨_, rfl, q2⟩)
        · rw [decide_eq_false h3]
          rw [if_neg h3] at hw
          refine iteF ?_
          refine ⟨_, rfl, by show 2 ≤ sizeLine; decide, fun y ny => ?_⟩
          have s3 := same_upd (o := HO.tup [V.str "give", V.str st.2]) ny
          have hy : StepAt K (upd H2 y (.tup [V.str "give", V.str st.2])) (.ref y) (("give" : Str), st.2) := ⟨y, rfl, SqT.of upd_same⟩
          refine ⟨_, rfl, _, rfl, _, _, rfl, rfl, _, rfl, ?_⟩
          dsimp only [tNoPart]
          refine ⟨l, xs, rfl, (sm2.trans s3).seq hx, fun z nz => ?_⟩
          rw [cut_tail xs i (by omega)]
          have s4 := same_upd (o := HO.lst (xs.drop (i + 1))) nz
          have s34 := s3.trans s4
          have hz2 : SqL K (upd (upd H2 y (.tup [V.str "give", V.str st.2])) z (.lst (xs.drop (i + 1)))) z (xs.drop (i + 1)) := SqL.of upd_same
          have hy2 := hy.same s4
          generalize upd (upd H2 y (.tup [V.str "give", V.str st.2])) z (.lst (xs.drop (i + 1))) = H4 at s4 s34 hz2 hy2
          refine ⟨stepD (("give" : Str), st.2), (ss.drop (i + 1)).map stepD, hy2.dp, .lst hz2 (StepsAt.same (sm2.trans s34) (hss.drop (i + 1))).dp, txtD_shaped (give_good gs.ok2).all, stepsL_shaped (fun z hz => hg z (List.mem_of_mem_drop hz)), _, rfl, ?_⟩
          rw [any_step]
          cases h4 : (!decide ((("give" : Str), st.2) ∈ ss.drop (i + 1))) with
          | true =>
            have q2 := q H4 (sm2.trans s34)
            rw [found (by rw [hw, h4])] at q2
            exact iteT ⟨_, rfl, q2⟩
          | false =>
            refine iteF ?_
            refine ⟨_, rfl, rfl, _, rfl, ?_⟩
            rw [dec_str, decide_eq_false h2]
            refine iteF (iteF ?_)
            refine ⟨_, rfl, rfl, _, rfl, ?_⟩
            rw [dec_str, decide_eq_true h1]
            refine iteT ?_
            refine ⟨_, rfl, _, rfl, by show 1 ≤ sizeLine; decide, fun o1 no1 => ?_⟩
            have s5 := same_upd (o := HO.lst [V.str st.2]) no1
            refine ⟨u, o1, _, _, rfl, rfl, s5 _ _ (s34 _ _ hu2), upd_same, ?_, fun o2 no2 => ?_⟩
            · rw [List.length_map, sizeLine_eq]
              show own.length + 1 ≤ _
              omega
            have s6 := same_upd (o := HO.lst (own.map V.str ++ [V.str st.2])) no2
            refine ⟨o2, _, _, _, rfl, (sm2.trans s34).trans (s5.trans s6), ?_, going (by rw [hw, h4])⟩
            rw [upd_same, nxt, hb, List.map_append]
            rfl
      · rw [decide_eq_false h1]
        refine iteF (iteF ?_)
        refine ⟨_, rfl, rfl, _, rfl, ?_⟩
        rw [dec_str]
        by_cases h2 : st.1 = "give"
        · have hw : wrongS st (ss.drop (i + 1)) [] own = !decide (own.drop (own.length - 1) = [st.2]) := by
            unfold wrongS
            rw [if_pos h2]
          have hb : behind st own = own.dropLast := by
            unfold behind
            rw [if_neg h1, if_pos h2]
          rw [decide_eq_true h2]
          refine iteT ⟨_, rfl, Nat.zero_le _, fun t nt => ?_⟩
          have s3 := same_upd (o := HO.lst []) nt
          have ht : SqL K (upd H2 t (.lst [])) t [] := SqL.of upd_same
          have hu3 := s3 _ _ hu2
          generalize upd H2 t (.lst []) = H3 at s3 ht hu3
          refine ⟨.list (own.map PyData.str), .list (([] : List Str).map PyData.str), .lst (SqL.of hu3) (dp_txts _), .lst ht .nil, listD_shaped own_ok, listD_shaped (fun n hn => nomatch hn), _, rfl, ?_⟩
          rw [eqv_list_txt]
          rcases List.eq_nil_or_concat own with e | ⟨L, b, e⟩
          · rw [decide_eq_true e]
            have q2 := q H3 (sm2.trans s3)
            rw [found (by rw [hw, e]; rfl)] at q2
            exact iteT (iteT ⟨_, rfl, q2⟩)
          · have e' : own = L ++ [b] := by simpa using e
            have ne : own ≠ [] := by
              rw [e']
              simp
            rw [decide_eq_false ne]
            refine iteF ?_
            have dl : own.drop (own.length - 1) = [b] := by
              rw [e', List.length_append]
              show (L ++ [b]).drop (L.length + 1 - 1) = [b]
              rw [Nat.add_sub_cancel, List.drop_left]
            rw [dl] at hw
            have lst : atI (own.map V.str) (-1) = some (V.str b) := by
              rw [e', List.map_append]
              exact atI_last _ _
            refine ⟨_, rfl, _, rfl, u, _, _, _, rfl, rfl, SqL.of hu3, lst, _, rfl, rfl, _, rfl, ?_⟩
            rw [dec_str]
            by_cases h3 : b = st.2
            · rw [decide_eq_true h3]
              refine iteF ?_
              refine ⟨_, rfl, rfl, _, rfl, ?_⟩
              rw [dec_str, decide_eq_false h1]
              refine iteF ?_
              refine ⟨_, rfl, rfl, _, rfl, ?_⟩
              rw [dec_str, decide_eq_true h2]
              refine iteT ⟨_, rfl, _, rfl, _, rfl, ?_⟩
              dsimp only [tNoPart]
              refine ⟨u, _, rfl, SqL.of hu3, fun o2 no2 => ?_⟩
              have s6 := same_upd (o := HO.lst (cutV (own.map V.str) none (some (-1)))) no2
              refine ⟨o2, _, _, _, rfl, (sm2.trans s3).trans s6, ?_, going (by rw [hw, h3]; simp)⟩
              rw [upd_same, nxt, hb, cut_m1, List.map_dropLast]
            · rw [decide_eq_false h3]
              have q2 := q H3 (sm2.trans s3)
              rw [found (by rw [hw, decide_eq_false]; rfl; intro z; exact h3 (List.cons.inj z).1)] at q2
              exact iteT ⟨_, rfl, q2⟩
        · have hw : wrongS st (ss.drop (i + 1)) [] own = false := by
            unfold wrongS
            rw [if_neg h2, if_neg h1]
          have hb : behind st own = own := by
            unfold behind
            rw [if_neg h1, if_neg h2]
          rw [decide_eq_false h2]
          refine iteF (iteF ?_)
          refine ⟨_, rfl, rfl, _, rfl, ?_⟩
          rw [dec_str, decide_eq_false h1]
          refine iteF ?_
          refine ⟨_, rfl, rfl, _, rfl, ?_⟩
          rw [dec_str, decide_eq_false h2]
          refine iteF ⟨_, rfl, u, _, _, _, rfl, sm2, ?_, going hw⟩
          rw [nxt, hb]
          exact hu2
    · rintro σ H1 ⟨u, v2, v3, v4, rfl, sm, hu, al⟩
      have e2 : (wrongs ss [] []).findIdx? id = none := by
        rw [List.findIdx?_eq_none_iff]
        intro x hx
        obtain ⟨j, hj⟩ := List.getElem?_of_mem hx
        have hj2 : j < xs.length := by
          rw [len, ← wrongs_len ss [] []]
          exact (List.getElem?_eq_some_iff.mp hj).1
        have z := al j hj2
        rw [hj] at z
        exact Option.some.inj z
      have q2 := q H1 sm
      rw [e2] at q2
      exact q2
end
end Rw

/-! X11 -/
/-! ### the law's kinds, and what it takes as held -/
namespace Rw
open PySem PySem.Spec PyProof.Rows L2
/-- behind a row without faults nothing is held -/
theorem after_from : ∀ (ss : List Step) (t : List Str) (n : Str), (∀ b ∈ wrongs ss t [], b = false) → n ∈ after ss t → n ∈ t ∨ (("give" : Str), n) ∈ ss
  | [], t, n, _, h => .inl h
  | s :: ss, t, n, hw, h => by
    have w0 : wrongS s ss [] t = false := hw _ List.mem_cons_self
    have h' : n ∈ after ss (behind s t) := h
    rcases after_from ss (behind s t) n (fun b hb => hw b (List.mem_cons_of_mem _ hb)) h' with h1 | h1
    · unfold behind at h1
      by_cases e1 : s.1 = "take"
      · rw [if_pos e1] at h1
        rcases List.mem_append.mp h1 with h1 | h1
        · exact .inl h1
        · have en : n = s.2 := List.mem_singleton.mp h1
          have e2 : s.1 ≠ "give" := by rw [e1]; decide +kernel
          unfold wrongS at w0
          rw [if_neg e2, if_pos e1] at w0
          subst en
          refine .inr (List.mem_cons_of_mem _ ?_)
          by_cases e3 : s.2 ∈ [] ++ t
          · simp [e3] at w0
            simp at e3
            exact absurd e3 w0.1
          · simp at w0
            exact w0.2
      · rw [if_neg e1] at h1
        by_cases e2 : s.1 = "give"
        · rw [if_pos e2] at h1
          exact .inl (List.dropLast_subset _ h1)
        · rw [if_neg e2] at h1
          exact .inl h1
    · exact .inr (List.mem_cons_of_mem _ h1)
theorem after_no : ∀ (ss : List Step) (t : List Str) (n : Str), (∀ b ∈ wrongs ss t [], b = false) → t.Nodup → n ∈ after ss t → (("give" : Str), n) ∉ ss
  | [], _, _, _, _, _ => List.not_mem_nil
  | s :: ss, t, n, hw, nd, h => by
    have w0 : wrongS s ss [] t = false := hw _ List.mem_cons_self
    have hw' : ∀ b ∈ wrongs ss (behind s t) [], b = false := fun b hb => hw b (List.mem_cons_of_mem _ hb)
    have h' : n ∈ after ss (behind s t) := h
    have nd' : (behind s t).Nodup := by
      unfold behind
      by_cases e1 : s.1 = "take"
      · rw [if_pos e1]
        have e2 : s.1 ≠ "give" := by rw [e1]; decide +kernel
        unfold wrongS at w0
        rw [if_neg e2, if_pos e1] at w0
        have ni : s.2 ∉ t := by
          intro z
          simp [z] at w0
        exact List.nodup_append.mpr ⟨nd, by simp, fun a ha b hb => by rw [List.mem_singleton.mp hb]; rintro rfl; exact ni ha⟩
      · rw [if_neg e1]
        by_cases e2 : s.1 = "give"
        · rw [if_pos e2]
          exact nd.sublist (List.dropLast_sublist _)
        · rw [if_neg e2]
          exact nd
    have no := after_no ss (behind s t) n hw' nd' h'
    intro z
    rcases List.mem_cons.mp z with z | z
    · subst z
      have e1 : ("give" : Str) ≠ "take" := by decide +kernel
      rcases after_from ss _ n hw' h' with h1 | h1
      · unfold behind at h1
        rw [if_neg e1, if_pos rfl] at h1
        unfold wrongS at w0
        rw [if_pos rfl] at w0
        have e3 : t.drop (t.length - 1) = [n] := by simpa using w0
        have e4 : t = t.dropLast ++ [n] := by
          have := List.take_append_drop (t.length - 1) t
          rw [e3, ← List.dropLast_eq_take] at this
          exact this.symm
        rw [e4] at nd
        exact (List.nodup_append.mp nd).2.2 n h1 n (List.mem_singleton.mpr rfl) rfl
      · exact no h1
    · exact no z
theorem after_nil {ss : List Step} (hw : ∀ b ∈ wrongs ss [] [], b = false) : after ss [] = [] := by
  rw [List.eq_nil_iff_forall_not_mem]
  intro n h
  rcases after_from ss [] n hw h with z | z
  · cases z
  · exact after_no ss [] n hw List.nodup_nil h z
end Rw

/-! X12 -/
namespace Nm
open PySem PySem.Spec PyProof.Rows L2
theorem call_tuple_KK {X : Cx} {K : PySem.W.Frag} (hK : X.K = K) : CallR X (.type "tuple") (fun xs H Q => ∃ p ys, xs = [.ref p] ∧ (SqL K H p ys ∧ (∀ l, H l = none → Q (.ref l) (upd H l (.tup ys))) ∨ SqT K H p ys ∧ Q (.ref p) H)) := by
  subst hK
  exact call_tuple_of
end Nm
namespace L2
open PySem PySem.Spec PyProof.Rows
theorem sl_listK {X : Cx} {K : PySem.W.Frag} (hK : X.K = K) : SlR X (rSlL K) := by
  subst hK
  exact sl_list
theorem op_in_seqKK {X : Cx} {K : PySem.W.Frag} (hK : X.K = K) : OpR X (compareOp .In) (rIn K false) := by
  subst hK
  exact op_in_seq
end L2
/-! ### the law's kinds, and what it takes as held -/
namespace Rw
open PySem PySem.Spec PyProof.Rows L2
def spKindL : Sp := fun vs H Q _ => ∃ z : Str, vs = [.str z] ∧ ∀ H', Same H H' → Q (.str (kindOf z)) H'
def spKeptL (K : PySem.W.Frag) : Sp := fun vs H Q _ => ∃ (l : Addr) (xs : List V) (ss : List Step), vs = [.ref l] ∧ SqL K H l xs ∧ StepsAt K H xs ss ∧ ss.length ≤ 300 ∧ ∀ H' u, Same H H' → TxtT K H' u (after ss []) → Q u H'
def spHeldrows (K : PySem.W.Frag) : Sp := fun vs H Q _ => ∃ (l : Addr) (xs : List V) (ss : List Step), vs = [.ref l] ∧ SqL K H l xs ∧ StepsAt K H xs ss ∧ ss.length ≤ 300 ∧ ∀ H' p ys, Same H H' → H p = none → H' p = some (.lst ys) → All2 (TxtT K H') ys ((List.range (ss.length + 2)).map fun i => after (ss.take i) []) → Q (.ref p) H'
theorem sqT_upd {K : PySem.W.Frag} {H : Hp} {D p : Addr} {as xs : List V} {u : HO} (e : H D = some (.lst as)) (h : SqT K H p xs) : SqT K (upd H D u) p xs := by
  rcases h with (h | ⟨o, h⟩) | h
  · refine .inl (.inl ?_)
    rw [upd_ne]
    · exact h
    · rintro rfl
      rw [e] at h
      cases h
  · refine .inl (.inr ⟨o, ?_⟩)
    rw [upd_ne]
    · exact h
    · rintro rfl
      rw [e] at h
      cases h
  · exact .inr h
section
variable {P : Program} {w : World} {K : PySem.W.Frag} {mg : Str → Option Value} {base : Heap}
abbrev sKindL : Stmt := top 30
theorem scKindL : FnScope ["_law_word"] ["_law_word"] (defScope sKindL) := ⟨rfl, rfl, rfl, by decide +kernel, rfl, by decide +kernel, by decide +kernel⟩
theorem ok_kindL {f : Addr} {fd : FuncData} (F : Fun K "_law_kind" "_law_kind" sKindL f fd) : FnOk P w K mg base CX0 1 f fd ["_law_word"] spKindL := by
  refine F.ok scKindL (fun vs H Q E h => ?_) (fun cdv A outer s H vs Q E hr h => ?_)
  · obtain ⟨z, rfl, _⟩ := h
    rfl
  · obtain ⟨z, rfl, q⟩ := h
    refine ⟨_, (pss_cons (ps_if (pt_cmpR op_in_seq (pv 0) (pe_lst (pa_cons pe_str (pa_cons pe_str (pa_cons pe_str (pa_cons pe_str pa_nil))))) (by rfl))
       (pss_one (ps_ret pe_str))
       pss_nil)
       (pss_cons (ps_if (pt_cmpR op_in_seq (pv 0) (pe_lst (pa_cons pe_str (pa_cons pe_str pa_nil))) (by rfl))
       (pss_one (ps_ret pe_str))
       pss_nil)
       (pss_one (ps_ret (pe_ifExp (pt_cmpR op_in_seq (pv 0) (pe_lst (pa_cons pe_str (pa_cons pe_str pa_nil))) (by rfl))
       pe_str
       pe_str))))), ?_⟩
    unfold kindOf at q
    refine ⟨_, rfl, by show 4 ≤ sizeLine; decide, fun a na => ?_⟩
    have s1 := same_upd (o := HO.lst ((["cancel", "bar", "halt", "settle"] : List Str).map V.str)) na
    refine ⟨a, _, rfl, .inl (SqL.of upd_same), rfl, flat_txt ["cancel", "bar", "halt", "settle"], _, rfl, ?_⟩
    show if inV (.str z) ((["cancel", "bar", "halt", "settle"] : List Str).map V.str) = true then _ else _
    rw [inV_txt]
    by_cases h1 : z ∈ (["cancel", "bar", "halt", "settle"] : List Str)
    · rw [decide_eq_true h1]
      refine iteT ?_
      have q2 := q _ s1
      rw [if_pos h1] at q2
      exact q2
    rw [decide_eq_false h1]
    refine iteF ?_
    dsimp only [tNext]
    refine ⟨_, rfl, by show 2 ≤ sizeLine; decide, fun a2 na2 => ?_⟩
    have s2 := same_upd (o := HO.lst ((["close", "drain"] : List Str).map V.str)) na2
    refine ⟨a2, _, rfl, .inl (SqL.of upd_same), rfl, flat_txt ["close", "drain"], _, rfl, ?_⟩
    show if inV (.str z) ((["close", "drain"] : List Str).map V.str) = true then _ else _
    rw [inV_txt]
    by_cases h2 : z ∈ (["close", "drain"] : List Str)
    · rw [decide_eq_true h2]
      refine iteT ?_
      have q2 := q _ (s1.trans s2)
      rw [if_neg h1, if_pos h2] at q2
      exact q2
    rw [decide_eq_false h2]
    refine iteF ?_
    dsimp only [tNext]
    refine ⟨_, rfl, by show 2 ≤ sizeLine; decide, fun a3 na3 => ?_⟩
    have s3 := same_upd (o := HO.lst ((["set", "clear"] : List Str).map V.str)) na3
    refine ⟨a3, _, rfl, .inl (SqL.of upd_same), rfl, flat_txt ["set", "clear"], _, rfl, ?_⟩
    show if inV (.str z) ((["set", "clear"] : List Str).map V.str) = true then _ else _
    rw [inV_txt]
    have q2 := q _ ((s1.trans s2).trans s3)
    by_cases h3 : z ∈ (["set", "clear"] : List Str)
    · rw [decide_eq_true h3]
      rw [if_neg h1, if_neg h2, if_pos h3] at q2
      exact iteT q2
    · rw [decide_eq_false h3]
      rw [if_neg h1, if_neg h2, if_neg h3] at q2
      exact iteF q2
abbrev sKept : Stmt := top 32
theorem scKept : FnScope ["_law_steps", "_law_own", "_law_word", "_law_name"] ["_law_steps"] (defScope sKept) := ⟨rfl, rfl, rfl, by decide +kernel, rfl, by decide +kernel, by decide +kernel⟩
theorem ok_kept {f : Addr} {fd : FuncData} (F : Fun K "_law_kept" "_law_kept" sKept f fd) (m_tuple : mg "tuple" = none) : FnOk P w K mg base CX0 1 f fd ["_law_steps"] (spKeptL K) := by
  refine F.ok scKept (fun vs H Q E h => ?_) (fun cdv A outer s H vs Q E hr h => ?_)
  · obtain ⟨l, xs, ss, rfl, _⟩ := h
    rfl
  · obtain ⟨l, xs, ss, rfl, hx, hss, hz, q⟩ := h
    refine ⟨_, (pss_cons (ps_set (i := 1) scKept.nd rfl (.inl rfl) (pe_lst pa_nil))
       (pss_cons (ps_for PassesOwn.never rfl (pi_list (pv 0)) (pg_tup rfl (pgs_cons (pg_name (i := 2) scKept.nd rfl (.inl rfl)) (pgs_cons (pg_name (i := 3) scKept.nd rfl (.inl rfl)) pgs_nil)))
       (pss_cons (ps_if (pt_cmpR op_eq (pv 2) pe_str (nomark _))
       (pss_one (ps_set (i := 1) scKept.nd rfl (.inl rfl) (pe_op op_cat (pv 1) (pe_lst (pa_cons (pv 3) pa_nil)))))
       pss_nil)
       (pss_one (ps_if (pt_cmpR op_eq (pv 2) pe_str (nomark _))
       (pss_one (ps_set (i := 1) scKept.nd rfl (.inl rfl) (pe_slice sl_list (pv 1) po_none (po_some (pe_un un_neg pe_int)))))
       pss_nil))))
       (pss_one (ps_ret (pe_callTy (Nm.call_tuple_KK (K := K) rfl) (by rfl) m_tuple (by decide +kernel) (pa_cons (pv 1) pa_nil)))))), ?_⟩
    refine ⟨Nat.zero_le _, fun o0 no0 => ?_⟩
    have s1 := same_upd (o := HO.lst []) no0
    have len := hss.length
    refine ⟨_, rfl, l, rfl, ⟨_, s1.seq hx⟩, for_list (K := K) (a := l) (xs := xs)
      (fun i σ H' => ∃ (u : Addr) (v2 v3 : Option V), σ = [some (.ref l), some (.ref u), v2, v3] ∧ Same H H' ∧ H' u = some (.lst ((after (ss.take i) []).map V.str)))
      ⟨o0, none, none, rfl, s1, upd_same⟩ ?_ ?_ ?_⟩
    · rintro i σ H' hi ⟨u, v2, v3, rfl, sm, _⟩
      exact sm.seq hx
    · rintro i x σ H1 hxi ⟨u, v2, v3, rfl, sm, hu⟩
      obtain ⟨st, hst, p, rfl, sa⟩ := hss.get hxi
      have hi : i < ss.length := (List.getElem?_eq_some_iff.mp hst).1
      have nxt : after (ss.take (i + 1)) [] = behind st (after (ss.take i) []) := by rw [take_snoc hst, after_snoc]
      have ol := after_len (ss.take i) []
      rw [List.length_take, List.length_nil] at ol
      generalize after (ss.take i) [] = own at hu ol nxt
      refine ⟨p, _, rfl, sm.tupS sa, rfl, ?_⟩
      refine ⟨_, _, rfl, _, _, rfl, rfl, ?_⟩
      refine ⟨_, rfl, rfl, _, rfl, ?_⟩
      rw [dec_str]
      by_cases h1 : st.1 = "take"
      · have h2 : st.1 ≠ "give" := by rw [h1]; decide +kernel
        have hb : behind st own = own ++ [st.2] := if_pos h1
        rw [decide_eq_true h1]
        refine iteT ?_
        refine ⟨_, rfl, _, rfl, by show 1 ≤ sizeLine; decide, fun o1 no1 => ?_⟩
        have s5 := same_upd (o := HO.lst [V.str st.2]) no1
        refine ⟨u, o1, _, _, rfl, rfl, s5 _ _ hu, upd_same, ?_, fun o2 no2 => ?_⟩
        · rw [List.length_map, sizeLine_eq]
          show own.length + 1 ≤ _
          omega
        have s6 := same_upd (o := HO.lst (own.map V.str ++ [V.str st.2])) no2
        refine ⟨_, rfl, rfl, _, rfl, ?_⟩
        rw [dec_str, decide_eq_false h2]
        refine iteF ?_
        dsimp only [tNext]
        refine ⟨o2, _, _, rfl, sm.trans (s5.trans s6), ?_⟩
        rw [upd_same, nxt, hb, List.map_append]
        rfl
      · rw [decide_eq_false h1]
        refine iteF ?_
        dsimp only [tNext]
        refine ⟨_, rfl, rfl, _, rfl, ?_⟩
        rw [dec_str]
        by_cases h2 : st.1 = "give"
        · have hb : behind st own = own.dropLast := by
            unfold behind
            rw [if_neg h1, if_pos h2]
          rw [decide_eq_true h2]
          refine iteT ⟨_, rfl, _, rfl, _, rfl, ?_⟩
          dsimp only [tNoPart]
          refine ⟨u, _, rfl, SqL.of hu, fun o2 no2 => ?_⟩
          have s6 := same_upd (o := HO.lst (cutV (own.map V.str) none (some (-1)))) no2
          refine ⟨o2, _, _, rfl, sm.trans s6, ?_⟩
          rw [upd_same, nxt, hb, cut_m1, List.map_dropLast]
        · have hb : behind st own = own := by
            unfold behind
            rw [if_neg h1, if_neg h2]
          rw [decide_eq_false h2]
          refine iteF ?_
          dsimp only [tNext]
          exact ⟨u, _, _, rfl, sm, by rw [nxt, hb]; exact hu⟩
    · rintro σ H1 ⟨u, v2, v3, rfl, sm, hu⟩
      rw [len, List.take_length] at hu
      exact ⟨_, rfl, u, _, rfl, .inl ⟨SqL.of hu, fun z nz => q _ _ (sm.trans (same_upd nz)) ⟨z, rfl, SqT.of upd_same⟩⟩⟩
abbrev sHr : Stmt := top 36
theorem scHr : FnScope ["_law_steps", "_law_many"] ["_law_steps"] (defScope sHr) := ⟨rfl, rfl, rfl, by decide +kernel, rfl, by decide +kernel, by decide +kernel⟩
theorem ok_heldrows {f fK : Addr} {fd fdK : FuncData} (F : Fun K "_law_heldrows" "_law_heldrows" sHr f fd) (GK : FnOk P w K mg base CX0 1 fK fdK ["_law_steps"] (spKeptL K)) (TK : Called K mg "_law_kept" ["_law_steps"] fK fdK) (m_range : mg "range" = none) (m_len : mg "len" = none) : FnOk P w K mg base CX0 2 f fd ["_law_steps"] (spHeldrows K) := by
  refine F.ok scHr (fun vs H Q E h => ?_) (fun cdv A outer s H vs Q E hr h => ?_)
  · obtain ⟨l, xs, ss, rfl, _⟩ := h
    rfl
  · obtain ⟨l, xs, ss, rfl, hx, hss, hz, q⟩ := h
    refine ⟨_, (pss_one (ps_ret (pe_lc (own := [("_law_many", 1)]) (g := gName 1) (tt := tYes) (by rfl) scHr.nd (pi_range1 rfl m_range (pa_cons (pe_op op_add (pe_callB call_len_seq (by rfl) m_len PySem.boot_len (pa_cons (pv 0) pa_nil)) pe_int) pa_nil)) (blkOk_by (own := [("_law_many", 1)]) (N := ["_law_steps", "_law_many"]) (sc := defScope sHr) (by decide +kernel)) (fun _ _ _ _ _ => pg_name (i := 1) scHr.nd rfl (Or.inl rfl)) (fun _ _ _ _ _ => pts_nil) (fun _ _ _ _ _ => (pe_call GK (hr.mono (by decide)) rfl TK.1 TK.2.1 TK.2.2 .nil pass0 (pa_cons (pe_slice (sl_listK (K := K) rfl) (pv 0) po_none (po_some (pv 1))) pa_nil)))))), ?_⟩
    have len := hss.length
    refine ⟨_, rfl, l, xs, rfl, .inl hx, _, (2 : Int), rfl, rfl, _, rfl, by rw [len]; omega, by rw [len]; omega, fun D nD => ?_⟩
    have en : ((xs.length : Nat) : Int) + 2 = ((ss.length + 2 : Nat) : Int) := by rw [len]; omega
    rw [en, Int.toNat_natCast]
    refine lc_range (lo := 0) (n := ss.length + 2) (fun i H' => Same H H' ∧ ∃ ys, H' D = some (.lst ys) ∧ All2 (TxtT K H') ys ((List.range i).map fun i => after (ss.take i) []))
      ⟨same_upd nD, [], upd_same, .nil⟩ ?_ ?_
    · rintro i H1 hi ⟨sm, ys, hD, al⟩
      refine ⟨rfl, ?_⟩
      dsimp only [tYes]
      rw [if_pos rfl]
      have yl := al.length
      rw [List.length_map, List.length_range] at yl
      refine ⟨_, rfl, ?_⟩
      dsimp only [tNoPart]
      refine ⟨_, rfl, _, rfl, l, xs, rfl, sm.seq hx, fun z nz => ?_⟩
      have s2 := same_upd (o := HO.lst (cutV xs none (some (0 + (i : Int))))) nz
      have cz : SqL K (upd H1 z (.lst (cutV xs none (some (0 + (i : Int)))))) z (xs.take i) := by
        refine SqL.of ?_
        rw [upd_same, Int.zero_add]
        by_cases hl : i ≤ xs.length
        · rw [cut_head xs i hl]
        · show some (HO.lst ((xs.drop 0).take (HT.sIx xs.length xs.length (some (i : Int)) - 0))) = _
          rw [HT.sIx_nat, List.drop_zero, Nat.sub_zero, Nat.min_eq_right (by omega), List.take_of_length_le (Nat.le_refl _), List.take_of_length_le (by omega)]
      generalize upd H1 z (.lst (cutV xs none (some (0 + (i : Int))))) = H2 at s2 cz
      refine ⟨z, xs.take i, ss.take i, rfl, cz, (hss.same (sm.trans s2)).take i, by rw [List.length_take]; omega, fun H3 u s3 hu => ?_⟩
      have s13 := s2.trans s3
      refine ⟨ys, s13 _ _ hD, by rw [yl, sizeLine_eq]; omega, same_updN nD (sm.trans s13), ys ++ [u], upd_same, ?_⟩
      rw [List.range_succ, List.map_append]
      have s4 : ∀ v ns, TxtT K H3 v ns → TxtT K (upd H3 D (.lst (ys ++ [u]))) v ns := fun v ns ⟨p, e, t⟩ => ⟨p, e, sqT_upd (s13 _ _ hD) t⟩
      exact ((al.mono fun _ _ t => s4 _ _ (t.same s13))).append (.cons (s4 _ _ hu) .nil)
    · rintro H1 ⟨sm, ys, hD, al⟩
      exact q H1 D ys sm nD hD al
end
end Rw

/-! X13 -/
/-! ### the rows that the law draws -/
namespace L2
open PySem PySem.Spec PyProof.Rows
theorem op_notIn_seqKK {X : Cx} {K : PySem.W.Frag} (hK : X.K = K) : OpR X (compareOp .NotIn) (rIn K true) := by
  subst hK
  exact op_notIn_seq
end L2
namespace Rw
open PySem PySem.Spec PyProof.Rows L2
structure NmOk (n : Str) : Prop where
  len : n.length ≤ 1000
  ok : sOk n
  nm : nameB n = true
theorem NmOk.is {K : PySem.W.Frag} {H : Hp} {n : Str} (h : NmOk n) : IsNm K H (.str n) (some n) := .inl ⟨n, rfl, rfl, h.len, h.ok, h.nm⟩
theorem NmOk.svg {K : PySem.W.Frag} {d : Addr} {H : Hp} (hW : ∀ w ∈ W10, ∃ u, PySem.W.nsIn K d w = some (some u)) {n w : Str} {p : Addr} (h : NmOk n) (hw : w ∈ W10) (hp : SqT K H p [.str w, .str n]) : SVG K d H (.ref p) (some (w, n)) := (h.is (K := K) (H := H)).svg hW hw hp
theorem NmOk.good {n w : Str} (h : NmOk n) (hw : w ∈ W10) : GoodS (w, n) := ⟨(w10_good _ hw).1, (w10_good _ hw).2, h.ok⟩
theorem get_pool {H H' : Hp} {o qq a : Addr} {u : HO} (b : SameBut o H H') (h : PoolAt H o qq) (e : H a = some u) (hu : ∀ ys, u ≠ .lst ys) : H' a = some u := by
  refine b a u (fun ea => ?_) e
  obtain ⟨at_, ns, h1, _⟩ := h
  rw [ea, h1] at e
  exact hu _ (Option.some.inj e).symm
theorem sqT_pool {K : PySem.W.Frag} {H H' : Hp} {o qq a : Addr} {xs : List V} (b : SameBut o H H') (p : PoolAt H o qq) (h : SqT K H a xs) : SqT K H' a xs := by
  rcases h with (h | ⟨ob, h⟩) | h
  · exact .inl (.inl (get_pool b p h fun _ z => by cases z))
  · exact .inl (.inr ⟨ob, get_pool b p h fun _ z => by cases z⟩)
  · exact .inr h
theorem TyX_pool {K : PySem.W.Frag} {H H' : Hp} {o qq : Addr} (b : SameBut o H H') (p : PoolAt H o qq) (p' : PoolAt H' o qq) {v : V} {t : Value} (h : TyX K H v t) : TyX K H' v t := by
  cases h with
  | base h =>
    cases h with
    | non => exact .base .non
    | bl x => exact .base (.bl x)
    | int i => exact .base (.int i)
    | str x => exact .base (.str x)
    | flt x => exact .base (.flt x)
    | @lst a xs h =>
      by_cases e : a = o
      · subst e
        obtain ⟨at_, ns, h1, _⟩ := p'
        exact .base (.lst h1)
      · exact .base (.lst (b _ _ e h))
    | frz h => exact .base (.frz (get_pool b p h fun _ z => by cases z))
    | tup h => exact .base (.tup (get_pool b p h fun _ z => by cases z))
    | dK h => exact .base (.dK (get_pool b p h fun _ z => by cases z))
    | dT h => exact .base (.dT (get_pool b p h fun _ z => by cases z))
    | ins h a c d e f => exact .base (.ins (get_pool b p h fun _ z => by cases z) a c d e f)
  | byt b => exact .byt b
  | set h => exact .set (get_pool b p h fun _ z => by cases z)
  | kList h c => exact .kList h c
  | kTuple h c => exact .kTuple h c
  | kDict h c => exact .kDict h c
  | fTuple h => exact .fTuple (get_pool b p h fun _ z => by cases z)
  | fDict h => exact .fDict (get_pool b p h fun _ z => by cases z)

def W8 : List Str := ["cancel", "bar", "halt", "settle", "close", "drain", "set", "clear"]
theorem w8_10 : ∀ w ∈ W8, w ∈ W10 ∧ w ≠ "take" ∧ w ≠ "give" := by decide +kernel
/-- each step is right where it stands, but that what is taken may not be given -/
def localOk : List Step → List Str → Prop
  | [], _ => True
  | s :: ss, t => (s.1 = "take" → s.2 ∉ t) ∧ (s.1 = "give" → t.drop (t.length - 1) = [s.2]) ∧ localOk ss (behind s t)
theorem localOk_snoc : ∀ (ss : List Step) (t : List Str) (s : Step), localOk ss t → (s.1 = "take" → s.2 ∉ after ss t) → (s.1 = "give" → (after ss t).drop ((after ss t).length - 1) = [s.2]) → localOk (ss ++ [s]) t
  | [], _, _, _, h1, h2 => ⟨h1, h2, trivial⟩
  | x :: ss, t, s, h, h1, h2 => ⟨h.1, h.2.1, localOk_snoc ss (behind x t) s h.2.2 h1 h2⟩
theorem stays : ∀ (ss : List Step) (t : List Str) (n : Str), localOk ss t → n ∈ t → (("give" : Str), n) ∉ ss → n ∈ after ss t
  | [], _, _, _, h, _ => h
  | s :: ss, t, n, lo, h, no => by
    refine stays ss (behind s t) n lo.2.2 ?_ fun z => no (List.mem_cons_of_mem _ z)
    unfold behind
    by_cases e1 : s.1 = "take"
    · rw [if_pos e1]
      exact List.mem_append_left _ h
    · rw [if_neg e1]
      by_cases e2 : s.1 = "give"
      · rw [if_pos e2]
        have e3 := lo.2.1 e2
        have ne : n ≠ s.2 := by
          rintro rfl
          apply no
          have : s = (("give" : Str), s.2) := by rw [← e2]
          rw [← this]
          exact List.mem_cons_self
        have e4 : t = t.dropLast ++ [s.2] := by
          have := List.take_append_drop (t.length - 1) t
          rw [e3, ← List.dropLast_eq_take] at this
          exact this.symm
        rw [e4] at h
        rcases List.mem_append.mp h with h | h
        · exact h
        · exact absurd (List.mem_singleton.mp h) ne
      · rw [if_neg e2]
        exact h
theorem no_wrongs : ∀ (ss : List Step) (t : List Str), localOk ss t → after ss t = [] → ∀ b ∈ wrongs ss t [], b = false
  | [], _, _, _, _, hb => nomatch hb
  | s :: ss, t, lo, e, b, hb => by
    rcases List.mem_cons.mp hb with hb | hb
    · subst hb
      unfold wrongS
      by_cases e2 : s.1 = "give"
      · rw [if_pos e2, lo.2.1 e2, decide_eq_true rfl]
        rfl
      · rw [if_neg e2]
        by_cases e1 : s.1 = "take"
        · rw [if_pos e1, if_neg (by rw [List.nil_append]; exact lo.1 e1)]
          rw [decide_eq_true]
          · rfl
          · by_cases z : (("give" : Str), s.2) ∈ ss
            · exact z
            · have y := stays ss (behind s t) s.2 lo.2.2 (by unfold behind; rw [if_pos e1]; exact List.mem_append_right _ (List.mem_singleton.mpr rfl)) z
              have e' : after ss (behind s t) = [] := e
              rw [e'] at y
              cases y
        · rw [if_neg e1]
    · exact no_wrongs ss (behind s t) lo.2.2 e b hb
/-- a good step of a row -/
structure StOk (s : Step) : Prop where
  w : s.1 ∈ W10
  n : NmOk s.2
/-- what the law drew stands -/
structure RowL (K : PySem.W.Frag) (d : Addr) (H : Hp) (l : Addr) (xs : List V) (ss : List Step) : Prop where
  at_ : H l = some (.lst xs)
  row : RowAt K d H xs ss
  ok : ∀ s ∈ ss, StOk s
theorem svg_pool {K : PySem.W.Frag} {d : Addr} {H H' : Hp} {o q : Addr} (b : SameBut o H H') (p : PoolAt H o q) {v : V} {s : Step} (h : SVG K d H v (some s)) : SVG K d H' v (some s) := by
  refine ⟨?_, h.2⟩
  obtain ⟨h, _⟩ := h
  generalize hs : some s = r at h
  cases h with
  | good a b1 c e =>
    cases hs
    exact .good (sqT_pool b p a) b1 c e
  | _ => cases hs
theorem rowAt_pool {K : PySem.W.Frag} {d : Addr} {H H' : Hp} {o q : Addr} (b : SameBut o H H') (p : PoolAt H o q) {xs : List V} {ss : List Step} (h : RowAt K d H xs ss) : RowAt K d H' xs ss := All2.mono (fun _ _ t => svg_pool b p t) h
theorem svg_upd {K : PySem.W.Frag} {d : Addr} {H : Hp} {D : Addr} {as : List V} {u : HO} (e : H D = some (.lst as)) {v : V} {s : Step} (h : SVG K d H v (some s)) : SVG K d (upd H D u) v (some s) := by
  refine ⟨?_, h.2⟩
  obtain ⟨h, _⟩ := h
  generalize hs : some s = r at h
  cases h with
  | good a b1 c e1 =>
    cases hs
    exact .good (sqT_upd e a) b1 c e1
  | _ => cases hs
/-- where the drawing stands: H0 at its beginning -/
structure ChS (K : PySem.W.Frag) (d o q : Addr) (H0 : Hp) (wl fl : Addr) (xs : List V) (ss : List Step) (H : Hp) : Prop where
  but : SameBut o H0 H
  pool : PoolAt H o q
  hw : H wl = some (.lst (W8.map V.str))
  wo : wl ≠ o
  wf : wl ≠ fl
  fd : H fl = some (.lst xs)
  fo : fl ≠ o
  fn : H0 fl = none
  row : RowAt K d H xs ss
section
variable {K : PySem.W.Frag} {d o q : Addr} {H0 : Hp} {wl fl : Addr} {xs : List V} {ss : List Step} {H H' : Hp}
theorem ChS.same (c : ChS K d o q H0 wl fl xs ss H) (s : Same H H') : ChS K d o q H0 wl fl xs ss H' :=
  ⟨c.but.trans (but_of s), c.pool.same s, s _ _ c.hw, c.wo, c.wf, s _ _ c.fd, c.fo, c.fn, c.row.same s⟩
theorem ChS.draw (c : ChS K d o q H0 wl fl xs ss H) (b : SameBut o H H') (p : PoolAt H' o q) : ChS K d o q H0 wl fl xs ss H' :=
  ⟨c.but.trans b, p, b _ _ c.wo c.hw, c.wo, c.wf, b _ _ c.fo c.fd, c.fo, c.fn, rowAt_pool b c.pool c.row⟩
theorem ChS.put (c : ChS K d o q H0 wl fl xs ss H) (p0 : PoolAt H0 o q) {v : V} {s : Step} (h : SVG K d H v (some s)) : ChS K d o q H0 wl fl (xs ++ [v]) (ss ++ [s]) (upd H fl (.lst (xs ++ [v]))) := by
  obtain ⟨a', n', h1, h2, h3, h4⟩ := c.pool
  obtain ⟨a'', n'', k1, k2, k3, k4⟩ := p0
  refine ⟨fun b x nb e => by rw [upd_ne (ne_of_none e c.fn)]; exact c.but b x nb e, ⟨a', n', ?_, h2, ?_, h4⟩, ?_, c.wo, c.wf, upd_same, c.fo, c.fn, ?_⟩
  · rw [upd_ne (Ne.symm c.fo)]
    exact h1
  · rw [upd_ne (ne_of_none k3 c.fn)]
    exact h3
  · rw [upd_ne c.wf]
    exact c.hw
  · exact (All2.mono (fun _ _ t => svg_upd c.fd t) c.row).append (.cons (svg_upd c.fd h) .nil)
end
end Rw

/-! X14 -/
/-! ### readings from the head -/
namespace Rw
open PySem PySem.Spec PyProof.Rows L2
theorem name_in {i : Nat} {v : V} {σ : L2.St} {H : Hp} {Q : L2.St → Hp → Prop} (h : Q (σ.set i (some v)) H) : gName i v σ H Q := h
end Rw
/-! ### the rows that the law draws: the def -/
namespace Rw
open PySem PySem.Spec PyProof.Rows L2

theorem ifS_via {tc : TT} {t u : TS} {D : Ends} {σ : L2.St} {H : Hp} (F : Bool → Hp → Prop) (hc : ∀ Q : Bool → Hp → Prop, (∀ b H2, F b H2 → Q b H2) → tc σ H Q) (h : ∀ b H2, F b H2 → if b = true then t D σ H2 else u D σ H2) : tIfS tc t u D σ H := hc _ h
theorem seqS_in {t u : TS} {D : Ends} {σ : L2.St} {H : Hp} (h : t { D with nx := u D } σ H) : tSeq t u D σ H := h
def spChosen (K : PySem.W.Frag) (d : Addr) : Sp := fun vs H Q _ => ∃ (o qq nl : Addr) (ns : List Str) (most : Nat), vs = [.ref o, .ref nl, .int (most : Nat)] ∧ PoolAt H o qq ∧ SqL K H nl (ns.map V.str) ∧ nl ≠ o ∧ ns ≠ [] ∧ ns.length ≤ 10 ∧ (∀ n ∈ ns, NmOk n) ∧ most ≤ 8 ∧
  ∀ H' l xs ss, SameBut o H H' → PoolAt H' o qq → H l = none → RowL K d H' l xs ss → (∀ b ∈ wrongs ss [] [], b = false) → ss.length ≤ 8 → Q (.ref l) H'
section
variable {P : Program} {w : World} {K : PySem.W.Frag} {mg : Str → Option Value} {base : Heap}
abbrev sChz : Stmt := top 31
theorem scChz : FnScope ["_law_pool_here", "_law_names", "_law_most", "_law_words", "_law_found", "_law_own", "_law_turn", "_law_free", "_law_name"] ["_law_pool_here", "_law_names", "_law_most"] (defScope sChz) := ⟨rfl, rfl, rfl, by decide +kernel, rfl, by decide +kernel, by decide +kernel⟩
theorem ok_chosen {f fD fP d : Addr} {fd fdD fdP : FuncData} (F : Fun K "_law_chosen" "_law_chosen" sChz f fd) (hW : ∀ w ∈ W10, ∃ u, PySem.W.nsIn K d w = some (some u))
    (GD : FnOk P w K mg base CX0 1 fD fdD ["_law_pool_here", "_law_many"] (spDraw K)) (TD : Called K mg "_law_draw" ["_law_pool_here", "_law_many"] fD fdD)
    (GP : FnOk P w K mg base CX0 2 fP fdP ["_law_pool_here", "_law_some"] (spPick K)) (TP : Called K mg "_law_pick" ["_law_pool_here", "_law_some"] fP fdP)
    (m_len : mg "len" = none) (m_range : mg "range" = none) : FnOk P w K mg base CX0 3 f fd ["_law_pool_here", "_law_names", "_law_most"] (spChosen K d) := by
  refine F.ok scChz (fun vs H Q E h => ?_) (fun cdv A outer s H vs Q E hr h => ?_)
  · obtain ⟨o, qq, nl, ns, most, rfl, _⟩ := h
    rfl
  · obtain ⟨o, qq, nl, ns, most, rfl, hp, hns, nn, ne, hz, hok, hm, q⟩ := h
    refine ⟨_, (pss_cons (ps_asg (pe_tup (pa_cons (pe_lst (pa_cons pe_str (pa_cons pe_str (pa_cons pe_str (pa_cons pe_str (pa_cons pe_str (pa_cons pe_str (pa_cons pe_str (pa_cons pe_str pa_nil))))))))) (pa_cons (pe_lst pa_nil) (pa_cons (pe_lst pa_nil) pa_nil)))) (pg_tup rfl (pgs_cons (pg_name (i := 3) scChz.nd rfl (.inl rfl)) (pgs_cons (pg_name (i := 4) scChz.nd rfl (.inl rfl)) (pgs_cons (pg_name (i := 5) scChz.nd rfl (.inr rfl)) pgs_nil)))))
       (pss_cons (ps_for PassesOwn.never rfl (pi_range1 rfl m_range (pa_cons (pv 2) pa_nil)) (pg_name (i := 6) scChz.nd rfl (.inl rfl))
       (pss_cons (ps_setLc (i := 7) (own := [("_law_name", 8)]) (g := gName 8) (by rfl) scChz.nd rfl rfl (sw_true rfl rfl rfl (by decide +kernel)) (pi_list (pv 1)) (blkOk_by (own := [("_law_name", 8)]) (N := ["_law_pool_here", "_law_names", "_law_most", "_law_words", "_law_found", "_law_own", "_law_turn", "_law_free", "_law_name"]) (sc := defScope sChz) (by decide +kernel)) (fun _ _ _ _ _ => pg_name (i := 8) scChz.nd rfl (Or.inl rfl)) (fun _ _ _ _ _ => pts_one (pt_cmpR (op_notIn_seqKK (K := K) rfl) (pv 8) (pv 5) (by rfl))) (fun _ _ _ _ _ => (pv 8)))
       (pss_one (ps_if (PW.pt (pw_and (pt_cmpR (op_neD hr.units) (pv 5) (pe_lst pa_nil) (nomark _)) (pw_and1 (PW.pt (pw_or (pt_cmpR op_le (pe_op op_sub (pv 2) (pe_callB call_len_seq (by rfl) m_len PySem.boot_len (pa_cons (pv 4) pa_nil))) (pe_callB call_len_seq (by rfl) m_len PySem.boot_len (pa_cons (pv 5) pa_nil)) (nomark _)) (pw_or1 (pt_cmpR op_eq (pe_call GD (hr.mono (by decide)) rfl TD.1 TD.2.1 TD.2.2 .nil pass0 (pa_cons (pv 0) (pa_cons pe_int pa_nil))) pe_int (nomark _))))))))
       (pss_cons (ps_expr (pe_bm PySem.F.plainAttrs_list PySem.F.slot_list_append PySem.F.type_list_append mt_append (pv 4) (pa_cons (pe_tup (pa_cons pe_str (pa_cons (pe_ix ix_list (pv 5) (pe_un un_neg pe_int) (fun _ _ => rfl)) pa_nil))) pa_nil)))
       (pss_one (ps_set (i := 5) scChz.nd rfl (.inr rfl) (pe_slice sl_list (pv 5) po_none (po_some (pe_un un_neg pe_int))))))
       (pss_one (ps_if (PW.pt (pw_and (pt_cmpR (op_neD hr.units) (pv 7) (pe_lst pa_nil) (nomark _)) (pw_and (pt_cmpR op_gt (pe_op op_sub (pv 2) (pe_callB call_len_seq (by rfl) m_len PySem.boot_len (pa_cons (pv 4) pa_nil))) (pe_op op_add (pe_callB call_len_seq (by rfl) m_len PySem.boot_len (pa_cons (pv 5) pa_nil)) pe_int) (nomark _)) (pw_and1 (pt_cmpR op_eq (pe_call GD (hr.mono (by decide)) rfl TD.1 TD.2.1 TD.2.2 .nil pass0 (pa_cons (pv 0) (pa_cons pe_int pa_nil))) pe_int (nomark _))))))
       (pss_cons (ps_set (i := 5) scChz.nd rfl (.inr rfl) (pe_op op_cat (pv 5) (pe_lst (pa_cons (pe_call GP (hr.mono (by decide)) rfl TP.1 TP.2.1 TP.2.2 .nil pass0 (pa_cons (pv 0) (pa_cons (pv 7) pa_nil))) pa_nil))))
       (pss_one (ps_expr (pe_bm PySem.F.plainAttrs_list PySem.F.slot_list_append PySem.F.type_list_append mt_append (pv 4) (pa_cons (pe_tup (pa_cons pe_str (pa_cons (pe_ix ix_list (pv 5) (pe_un un_neg pe_int) (fun _ _ => rfl)) pa_nil))) pa_nil)))))
       (pss_one (ps_if (pt_cmpR op_gt (pe_op op_sub (pv 2) (pe_callB call_len_seq (by rfl) m_len PySem.boot_len (pa_cons (pv 4) pa_nil))) (pe_callB call_len_seq (by rfl) m_len PySem.boot_len (pa_cons (pv 5) pa_nil)) (nomark _))
       (pss_one (ps_expr (pe_bm PySem.F.plainAttrs_list PySem.F.slot_list_append PySem.F.type_list_append mt_append (pv 4) (pa_cons (pe_tup (pa_cons (pe_call GP (hr.mono (by decide)) rfl TP.1 TP.2.1 TP.2.2 .nil pass0 (pa_cons (pv 0) (pa_cons (pv 3) pa_nil))) (pa_cons (pe_call GP (hr.mono (by decide)) rfl TP.1 TP.2.1 TP.2.2 .nil pass0 (pa_cons (pv 0) (pa_cons (pv 1) pa_nil))) pa_nil))) pa_nil))))
       pss_nil))))))))
       (pss_one (ps_ret (pv 4))))), ?_⟩
    refine ⟨by show 8 ≤ sizeLine; decide, fun wl nw => ?_⟩
    have s1 := same_upd (o := HO.lst (W8.map V.str)) nw
    have ew : (upd H wl (.lst (W8.map V.str))) wl = some (.lst (W8.map V.str)) := upd_same
    show (tCons (tLst tNil) (tCons (tLst tNil) tNil)) _ (upd H wl (.lst (W8.map V.str))) _
    generalize upd H wl (.lst (W8.map V.str)) = H1 at s1 ew
    refine ⟨Nat.zero_le _, fun fl nf => ?_⟩
    have s2 := same_upd (o := HO.lst []) nf
    have ef : (upd H1 fl (.lst [])) fl = some (.lst []) := upd_same
    generalize upd H1 fl (.lst []) = H2 at s2 ef
    refine ⟨Nat.zero_le _, fun u nu => ?_⟩
    have s3 := same_upd (o := HO.lst []) nu
    have eu : (upd H2 u (.lst [])) u = some (.lst []) := upd_same
    generalize upd H2 u (.lst []) = H3 at s3 eu
    refine ⟨by show 3 ≤ sizeLine; decide, fun T nT => ?_⟩
    have s4 := same_upd (o := HO.tup [V.ref wl, V.ref fl, V.ref u]) nT
    have eT : (upd H3 T (.tup [V.ref wl, V.ref fl, V.ref u])) T = some (.tup [V.ref wl, V.ref fl, V.ref u]) := upd_same
    generalize upd H3 T (.tup [V.ref wl, V.ref fl, V.ref u]) = H4 at s4 eT
    have s14 := ((s1.trans s2).trans s3).trans s4
    have ew4 := s4 _ _ (s3 _ _ (s2 _ _ ew))
    have ef4 := s4 _ _ (s3 _ _ ef)
    have eu4 := s4 _ _ eu
    have hwf : wl ≠ fl := ne_of_none ew nf
    have huf : u ≠ fl := fun e => by rw [e, ef] at nu; cases nu
    have p4 := hp.same s14
    have noto : ∀ {a : Addr} {ys : List Str}, H4 a = some (.lst (ys.map V.str)) → a ≠ o := fun {a ys} e z => by
      obtain ⟨at_, n', h1, _⟩ := p4
      rw [z, h1] at e
      have e' := HO.lst.inj (Option.some.inj e)
      cases ys with
      | nil => cases e'
      | cons y ys => cases (List.cons.inj e').1
    have hwo : wl ≠ o := noto ew4
    have hfo : fl ≠ o := noto (ys := []) ef4
    have huo : u ≠ o := noto (ys := []) eu4
    have hfn : H fl = none := s1.free nf
    have c0 : ChS K d o qq H wl fl [] [] H4 := ⟨but_of s14, p4, ew4, hwo, hwf, ef4, hfo, hfn, .nil⟩
    refine ⟨_, _, rfl, SqT.of eT, rfl, _, _, rfl, _, _, rfl, _, _, rfl, rfl, ?_⟩
    refine ⟨_, rfl, (most : Int), rfl, by omega, by omega, for_range (lo := 0) (n := (most : Int).toNat)
      (fun i σ Hi => ∃ (u : Addr) (v6 v7 v8 : Option V) (xs : List V) (ss : List Step), σ = [some (.ref o), some (.ref nl), some (.int (most : Nat)), some (.ref wl), some (.ref fl), some (.ref u), v6, v7, v8] ∧ ChS K d o qq H wl fl xs ss Hi ∧ xs.length = i ∧
        Hi u = some (.lst ((after ss []).map V.str)) ∧ u ≠ o ∧ u ≠ fl ∧ localOk ss [] ∧ (after ss []).length ≤ most - i ∧ (∀ s ∈ ss, StOk s) ∧ (∀ n ∈ after ss [], NmOk n))
      ⟨u, none, none, none, [], [], rfl, c0, rfl, eu4, huo, huf, trivial, Nat.zero_le _, (fun s hs => nomatch hs), (fun n hn => nomatch hn)⟩ ?_ ?_⟩
    · rintro i σ H5 hi ⟨u, v6, v7, v8, xs, ss, rfl, c, xl, hu, uo, uf, lo, ob, sok, ook⟩
      rw [Int.toNat_natCast] at hi
      have sl : ss.length = i := by rw [← xl]; exact c.row.length.symm
      have own_ok : ∀ n ∈ after ss [], sOk n := fun n hn => (ook n hn).ok
      generalize hown : after ss [] = own at hu ob ook own_ok
      have hnsc : SqL K H5 nl (ns.map V.str) := sqL_but c.but nn hns
      refine seqS_in ?_
      refine ⟨_, rfl, nl, rfl, ⟨_, hnsc⟩, fun D nD => lc_list (K := K) (a := nl) (xs := ns.map V.str) (fun j H' => Same H5 H' ∧ ∃ ys : List Str, H' D = some (.lst (ys.map V.str)) ∧ ys.length ≤ j ∧ ∀ n ∈ ys, n ∈ ns ∧ n ∉ own)
        ⟨same_upd nD, [], upd_same, Nat.zero_le _, fun n hn => nomatch hn⟩ (fun j H' _ h => h.1.seq hnsc) ?_ ?_⟩
      · rintro j x H6 hx ⟨s6, ys, hD6, yl, al⟩
        rw [List.getElem?_map] at hx
        obtain ⟨n, hn, rfl⟩ := Option.map_eq_some_iff.mp hx
        have hj : j < ns.length := (List.getElem?_eq_some_iff.mp hn).1
        refine ⟨rfl, ?_⟩
        refine ⟨_, rfl, _, rfl, u, _, rfl, .inl (SqL.of (s6 _ _ hu)), rfl, flat_txt _, _, rfl, ?_⟩
        show if (!inV (.str n) (own.map V.str)) = true then _ else _
        rw [inV_txt]
        by_cases h : n ∈ own
        · rw [decide_eq_true h]
          exact iteF ⟨s6, ys, hD6, by omega, al⟩
        · rw [decide_eq_false h]
          refine iteT ⟨_, rfl, ys.map V.str, hD6, by rw [List.length_map, sizeLine_eq]; omega, same_updN nD s6, ys ++ [n], by rw [upd_same, List.map_append]; rfl, by rw [List.length_append]; show ys.length + 1 ≤ _; omega, fun m hm => ?_⟩
          rcases List.mem_append.mp hm with hm | hm
          · exact al m hm
          · rw [List.mem_singleton.mp hm]
            exact ⟨List.mem_of_getElem? hn, h⟩
      rintro H6 ⟨s6, ys, hD6, yl, al⟩
      have c6 := c.same s6
      have hu6 := s6 _ _ hu
      have Do : D ≠ o := fun z => by
        obtain ⟨at_, n', h1, _⟩ := c.pool
        rw [z, h1] at nD
        cases nD
      have Df : D ≠ fl := fun z => by
        rw [z, c.fd] at nD
        cases nD
      rw [List.length_map] at yl
      refine name_in ?_
      dsimp only
      refine ifS_via (fun b H7 => ChS K d o qq H wl fl xs ss H7 ∧ H7 u = some (.lst (own.map V.str)) ∧ H7 D = some (.lst (ys.map V.str)) ∧ SqL K H7 nl (ns.map V.str) ∧ (b = true → own ≠ []) ∧ (b = false → own = [] ∨ own.length < most - i)) ?_ ?_
      · intro QQ hQ
        refine ⟨_, rfl, Nat.zero_le _, fun z nz => ?_⟩
        have s7 := same_upd (o := HO.lst []) nz
        have hz7 : SqL K (upd H6 z (.lst [])) z [] := SqL.of upd_same
        generalize upd H6 z (.lst []) = H7 at s7 hz7
        have c7 := c6.same s7
        have hu7 := s7 _ _ hu6
        have hD7 := s7 _ _ hD6
        refine ⟨.list (own.map PyData.str), .list (([] : List Str).map PyData.str), .lst (SqL.of hu7) (dp_txts _), .lst hz7 .nil, listD_shaped own_ok, listD_shaped (fun n hn => nomatch hn), _, rfl, ?_⟩
        rw [eqv_list_txt]
        by_cases e : own = []
        · rw [decide_eq_true e]
          exact iteF (hQ _ _ ⟨c7, hu7, hD7, sqL_but c7.but nn hns, (fun z => nomatch z), fun _ => .inl e⟩)
        · rw [decide_eq_false e]
          refine iteT ?_
          refine ⟨_, rfl, _, rfl, fl, _, rfl, .inl (SqL.of c7.fd), (most : Int), _, rfl, rfl, _, rfl, u, _, rfl, .inl (SqL.of hu7), _, _, rfl, rfl, _, rfl, ?_⟩
          rw [xl, List.length_map]
          by_cases h : (most : Int) - (i : Nat) ≤ (own.length : Nat)
          · rw [decide_eq_true h]
            exact iteT (hQ _ _ ⟨c7, hu7, hD7, sqL_but c7.but nn hns, fun _ => e, fun z => nomatch z⟩)
          · rw [decide_eq_false h]
            refine iteF ?_
            refine ⟨_, rfl, o, qq, 3, rfl, c7.pool, by decide, by decide, fun H8 n8 b8 p8 n0 n1 => ?_⟩
            exact ⟨rfl, _, rfl, hQ _ _ ⟨c7.draw b8 p8, b8 _ _ uo hu7, b8 _ _ Do hD7, sqL_but (c7.draw b8 p8).but nn hns, fun _ => e, fun _ => .inr (by omega)⟩⟩
      · rintro b H7 ⟨c7, hu7, hD7, hn7, h1, h2⟩
        cases b with
        | true =>
          refine iteT ?_
          have hne := h1 rfl
          obtain ⟨L, b, e'⟩ : ∃ L b, own = L ++ [b] := by
            rcases List.eq_nil_or_concat own with e | ⟨L, b, e⟩
            · exact absurd e hne
            · exact ⟨L, b, by simpa using e⟩
          have lst : atI (own.map V.str) (-1) = some (V.str b) := by
            rw [e', List.map_append]
            exact atI_last _ _
          have bOk : NmOk b := ook b (by rw [e']; exact List.mem_append_right _ (List.mem_singleton.mpr rfl))
          refine ⟨_, rfl, .inl ⟨rfl, _, SqL.of c7.fd⟩, _, rfl, _, rfl, u, _, _, _, rfl, rfl, SqL.of hu7, lst, by show 2 ≤ sizeLine; decide, fun y ny => ?_⟩
          have s8 := same_upd (o := HO.tup [V.str "give", V.str b]) ny
          have hy : SqT K (upd H7 y (.tup [V.str "give", V.str b])) y [V.str "give", V.str b] := SqT.of upd_same
          generalize upd H7 y (.tup [V.str "give", V.str b]) = H8 at s8 hy
          have c8 := c7.same s8
          have sv : SVG K d H8 (.ref y) (some (("give" : Str), b)) := bOk.svg hW give_10 hy
          refine ⟨fl, _, _, rfl, rfl, c8.fd, by rw [xl, sizeLine_eq]; omega, ?_⟩
          have c9 := c8.put hp sv
          have hu9 : (upd H8 fl (.lst (xs ++ [.ref y]))) u = some (.lst (own.map V.str)) := by
            rw [upd_ne uf]
            exact s8 _ _ hu7
          generalize upd H8 fl (.lst (xs ++ [.ref y])) = H9 at c9 hu9
          refine ⟨_, rfl, _, rfl, _, rfl, ?_⟩
          dsimp only [tNoPart]
          refine ⟨u, _, rfl, SqL.of hu9, fun o2 no2 => ?_⟩
          have s10 := same_upd (o := HO.lst (cutV (own.map V.str) none (some (-1)))) no2
          have n1 : ("give" : Str) ≠ "take" := by decide +kernel
          have nxt : after (ss ++ [(("give" : Str), b)]) [] = own.dropLast := by
            rw [after_snoc, hown]
            unfold behind
            rw [if_neg n1, if_pos rfl]
          have dl : own.drop (own.length - 1) = [b] := by
            rw [e', List.length_append]
            show (L ++ [b]).drop (L.length + 1 - 1) = [b]
            rw [Nat.add_sub_cancel, List.drop_left]
          refine ⟨o2, _, _, _, xs ++ [.ref y], ss ++ [(("give" : Str), b)], rfl, c9.same s10, by rw [List.length_append, xl]; rfl, ?_, ?_, ?_, ?_, ?_, ?_, ?_⟩
          · rw [upd_same, nxt, cut_m1, List.map_dropLast]
          · intro z
            obtain ⟨at_, n', k1, _⟩ := c9.pool
            rw [z, k1] at no2
            cases no2
          · intro z
            rw [z, c9.fd] at no2
            cases no2
          · exact localOk_snoc ss [] _ lo (fun z => absurd z n1) fun _ => by rw [hown]; exact dl
          · rw [nxt, List.length_dropLast]
            omega
          · intro t ht
            rcases List.mem_append.mp ht with ht | ht
            · exact sok t ht
            · rw [List.mem_singleton.mp ht]
              exact ⟨give_10, bOk⟩
          · intro n hn
            rw [nxt] at hn
            exact ook n (List.dropLast_subset _ hn)
        | false =>
          refine iteF ?_
          have h3 := h2 rfl
          refine ifS_via (fun b H8 => ChS K d o qq H wl fl xs ss H8 ∧ H8 u = some (.lst (own.map V.str)) ∧ H8 D = some (.lst (ys.map V.str)) ∧ SqL K H8 nl (ns.map V.str) ∧ (b = true → ys ≠ [] ∧ own.length + 1 < most - i)) ?_ ?_
          · intro QQ hQ
            refine ⟨_, rfl, Nat.zero_le _, fun z nz => ?_⟩
            have s8 := same_upd (o := HO.lst []) nz
            have hz8 : SqL K (upd H7 z (.lst [])) z [] := SqL.of upd_same
            generalize upd H7 z (.lst []) = H8 at s8 hz8
            have c8 := c7.same s8
            have hu8 := s8 _ _ hu7
            have hD8 := s8 _ _ hD7
            refine ⟨.list (ys.map PyData.str), .list (([] : List Str).map PyData.str), .lst (SqL.of hD8) (dp_txts _), .lst hz8 .nil, listD_shaped (fun n hn => (hok n (al n hn).1).ok), listD_shaped (fun n hn => nomatch hn), _, rfl, ?_⟩
            rw [eqv_list_txt]
            by_cases e : ys = []
            · rw [decide_eq_true e]
              exact iteF (hQ _ _ ⟨c8, hu8, hD8, sqL_but c8.but nn hns, fun z => nomatch z⟩)
            · rw [decide_eq_false e]
              refine iteT ?_
              refine ⟨_, rfl, _, rfl, fl, _, rfl, .inl (SqL.of c8.fd), (most : Int), _, rfl, rfl, _, rfl, u, _, rfl, .inl (SqL.of hu8), _, (1 : Int), rfl, rfl, _, _, rfl, rfl, _, rfl, ?_⟩
              rw [xl, List.length_map]
              by_cases h : ((own.length : Nat) : Int) + 1 < (most : Int) - (i : Nat)
              · rw [decide_eq_true h]
                refine iteT ?_
                refine ⟨_, rfl, o, qq, 4, rfl, c8.pool, by decide, by decide, fun H9 n9 b9 p9 n0 n1 => ?_⟩
                exact ⟨rfl, _, rfl, hQ _ _ ⟨c8.draw b9 p9, b9 _ _ uo hu8, b9 _ _ Do hD8, sqL_but (c8.draw b9 p9).but nn hns, fun _ => ⟨e, by omega⟩⟩⟩
              · rw [decide_eq_false h]
                exact iteF (hQ _ _ ⟨c8, hu8, hD8, sqL_but c8.but nn hns, fun z => nomatch z⟩)
          · rintro b H8 ⟨c8, hu8, hD8, hn8, h4⟩
            cases b with
            | true =>
              refine iteT ?_
              obtain ⟨yne, h5⟩ := h4 rfl
              refine ⟨_, rfl, _, rfl, _, rfl, o, qq, D, _, rfl, c8.pool, Do, SqL.of hD8, fun z => yne (List.map_eq_nil_iff.mp z), by rw [List.length_map]; omega, fun H9 x b9 p9 m9 => ?_⟩
              obtain ⟨n, hn, rfl⟩ := List.mem_map.mp m9
              have nOk : NmOk n := hok n (al n hn).1
              have nnew : n ∉ own := (al n hn).2
              have c9 := c8.draw b9 p9
              have hu9 := b9 _ _ uo hu8
              refine ⟨by show 1 ≤ sizeLine; decide, fun o1 no1 => ?_⟩
              have s10 := same_upd (o := HO.lst [V.str n]) no1
              have e10 : (upd H9 o1 (.lst [V.str n])) o1 = some (.lst [V.str n]) := upd_same
              generalize upd H9 o1 (.lst [V.str n]) = H10 at s10 e10
              refine ⟨u, o1, _, _, rfl, rfl, s10 _ _ hu9, e10, ?_, fun o2 no2 => ?_⟩
              · rw [List.length_map, sizeLine_eq]
                show own.length + 1 ≤ _
                omega
              have s11 := same_upd (o := HO.lst (own.map V.str ++ [V.str n])) no2
              have e11 : (upd H10 o2 (.lst (own.map V.str ++ [V.str n]))) o2 = some (.lst ((own ++ [n]).map V.str)) := by
                rw [upd_same, List.map_append]
                rfl
              have c10 := c9.same s10
              have o2o : o2 ≠ o := fun z => by
                obtain ⟨at_, n', k1, _⟩ := c10.pool
                rw [z, k1] at no2
                cases no2
              have o2f : o2 ≠ fl := fun z => by
                rw [z, c10.fd] at no2
                cases no2
              generalize upd H10 o2 (.lst (own.map V.str ++ [V.str n])) = H11 at s11 e11
              have c11 := c10.same s11
              have lst : atI ((own ++ [n]).map V.str) (-1) = some (V.str n) := by
                rw [List.map_append]
                exact atI_last _ _
              refine ⟨_, rfl, .inl ⟨rfl, _, SqL.of c11.fd⟩, _, rfl, _, rfl, o2, _, _, _, rfl, rfl, SqL.of e11, lst, by show 2 ≤ sizeLine; decide, fun y ny => ?_⟩
              have s12 := same_upd (o := HO.tup [V.str "take", V.str n]) ny
              have hy : SqT K (upd H11 y (.tup [V.str "take", V.str n])) y [V.str "take", V.str n] := SqT.of upd_same
              generalize upd H11 y (.tup [V.str "take", V.str n]) = H12 at s12 hy
              have c12 := c11.same s12
              have sv : SVG K d H12 (.ref y) (some (("take" : Str), n)) := nOk.svg hW take_10 hy
              refine ⟨fl, _, _, rfl, rfl, c12.fd, by rw [xl, sizeLine_eq]; omega, ?_⟩
              have c13 := c12.put hp sv
              have hu13 : (upd H12 fl (.lst (xs ++ [.ref y]))) o2 = some (.lst ((own ++ [n]).map V.str)) := by
                rw [upd_ne o2f]
                exact s12 _ _ e11
              generalize upd H12 fl (.lst (xs ++ [.ref y])) = H13 at c13 hu13
              have n1 : ("take" : Str) ≠ "give" := by decide +kernel
              have nxt : after (ss ++ [(("take" : Str), n)]) [] = own ++ [n] := by
                rw [after_snoc, hown]
                unfold behind
                rw [if_pos rfl]
              refine ⟨o2, _, _, _, xs ++ [.ref y], ss ++ [(("take" : Str), n)], rfl, c13, by rw [List.length_append, xl]; rfl, ?_, o2o, o2f, ?_, ?_, ?_, ?_⟩
              · rw [nxt]
                exact hu13
              · exact localOk_snoc ss [] _ lo (fun _ => by rw [hown]; exact nnew) fun z => absurd z n1
              · rw [nxt, List.length_append]
                show own.length + 1 ≤ _
                omega
              · intro t ht
                rcases List.mem_append.mp ht with ht | ht
                · exact sok t ht
                · rw [List.mem_singleton.mp ht]
                  exact ⟨take_10, nOk⟩
              · intro m hm
                rw [nxt] at hm
                rcases List.mem_append.mp hm with hm | hm
                · exact ook m hm
                · rw [List.mem_singleton.mp hm]
                  exact nOk
            | false =>
              refine iteF ?_
              refine ⟨_, rfl, _, rfl, fl, _, rfl, .inl (SqL.of c8.fd), (most : Int), _, rfl, rfl, _, rfl, u, _, rfl, .inl (SqL.of hu8), _, _, rfl, rfl, _, rfl, ?_⟩
              rw [xl, List.length_map]
              have h6 : ((own.length : Nat) : Int) < (most : Int) - (i : Nat) := by
                rcases h3 with h3 | h3
                · rw [h3, List.length_nil]
                  omega
                · omega
              rw [decide_eq_true h6]
              refine iteT ?_
              refine ⟨_, rfl, .inl ⟨rfl, _, SqL.of c8.fd⟩, ?_⟩
              refine ⟨_, rfl, _, rfl, o, qq, wl, _, rfl, c8.pool, hwo, SqL.of c8.hw, by decide +kernel, by decide +kernel, fun H9 x b9 p9 m9 => ?_⟩
              obtain ⟨wd, hwd, rfl⟩ := List.mem_map.mp m9
              have c9 := c8.draw b9 p9
              have hu9 := b9 _ _ uo hu8
              refine ⟨_, rfl, _, rfl, o, qq, nl, _, rfl, c9.pool, nn, sqL_but c9.but nn hns, fun z => ne (List.map_eq_nil_iff.mp z), by rw [List.length_map]; omega, fun H10 x b10 p10 m10 => ?_⟩
              obtain ⟨n, hn, rfl⟩ := List.mem_map.mp m10
              have nOk : NmOk n := hok n hn
              have c10 := c9.draw b10 p10
              have hu10 := b10 _ _ uo hu9
              obtain ⟨w10, wt, wg⟩ := w8_10 wd hwd
              refine ⟨by show 2 ≤ sizeLine; decide, fun y ny => ?_⟩
              have s12 := same_upd (o := HO.tup [V.str wd, V.str n]) ny
              have hy : SqT K (upd H10 y (.tup [V.str wd, V.str n])) y [V.str wd, V.str n] := SqT.of upd_same
              generalize upd H10 y (.tup [V.str wd, V.str n]) = H12 at s12 hy
              have c12 := c10.same s12
              have sv : SVG K d H12 (.ref y) (some (wd, n)) := nOk.svg hW w10 hy
              refine ⟨fl, _, _, rfl, rfl, c12.fd, by rw [xl, sizeLine_eq]; omega, ?_⟩
              have c13 := c12.put hp sv
              have hu13 : (upd H12 fl (.lst (xs ++ [.ref y]))) u = some (.lst (own.map V.str)) := by
                rw [upd_ne uf]
                exact s12 _ _ hu10
              generalize upd H12 fl (.lst (xs ++ [.ref y])) = H13 at c13 hu13
              have nxt : after (ss ++ [(wd, n)]) [] = own := by
                rw [after_snoc, hown]
                unfold behind
                rw [if_neg wt, if_neg wg]
              refine ⟨u, _, _, _, xs ++ [.ref y], ss ++ [(wd, n)], rfl, c13, by rw [List.length_append, xl]; rfl, ?_, uo, uf, ?_, ?_, ?_, ?_⟩
              · rw [nxt]
                exact hu13
              · exact localOk_snoc ss [] _ lo (fun z => absurd z wt) fun z => absurd z wg
              · rw [nxt]
                omega
              · intro t ht
                rcases List.mem_append.mp ht with ht | ht
                · exact sok t ht
                · rw [List.mem_singleton.mp ht]
                  exact ⟨w10, nOk⟩
              · intro m hm
                rw [nxt] at hm
                exact ook m hm
    · rintro σ H5 ⟨u, v6, v7, v8, xs, ss, rfl, c, xl, hu, uo, uf, lo, ob, sok, ook⟩
      rw [Int.toNat_natCast] at xl ob
      have e0 : after ss [] = [] := List.eq_nil_of_length_eq_zero (by omega)
      have sl : ss.length = xs.length := c.row.length.symm
      exact ⟨_, rfl, q H5 fl xs ss c.but c.pool hfn ⟨c.fd, c.row, sok⟩ (no_wrongs ss [] lo e0) (by omega)⟩
end
end Rw

/-! X15 -/
/-! ### several except clauses, each with a name -/
namespace L2
open PySem PySem.Spec PyProof.Rows
/-- one clause after the other; slot i is the name's -/
def wAsL (K : PySem.W.Frag) (i : Nat) (Wout : WX) (D : Ends) : List (Value × (Addr → Value → Option Addr → TS)) → WX
  | [] => Wout
  | (c, ts) :: r => fun cls d σ H => ∃ b, PySem.W.exmOne K cls c = some b ∧
      (b = true → ∀ x, H x = none → ts x cls d ⟨fun σ2 H2 => D.nx (σ2.set i none) H2, D.rt, fun σ2 H2 => D.bk (σ2.set i none) H2, fun σ2 H2 => D.ct (σ2.set i none) H2⟩ (σ.set i (some (.ref x))) H) ∧ (b = false → wAsL K i Wout D r cls d σ H)
inductive HdsAs (X : Cx) (n : Str) : List ExceptHandler → List (Value × (Addr → Value → Option Addr → TS)) → Prop
  | nil : HdsAs X n [] []
  | cons {x : Str} {c : Value} {ts : Addr → Value → Option Addr → TS} {q₀ : Stmt} {qs : List Stmt} {p1 p2 : Pos} {more : List ExceptHandler} {l : List (Value × (Addr → Value → Option Addr → TS))} (named : Names X x c)
      (run : ∀ (x : Addr) (ox : Obj) (cls : Value) (d : Option Addr) (pn : List (Addr × Obj)), Zc cls d ox → (∃ vs, ox.data = .fields vs) → PSs (X.suite x ((x, ox) :: pn)) (q₀ :: qs) (ts x cls d)) (r : HdsAs X n more l) :
      HdsAs X n (.ExceptHandler (some (.Name x p1)) (some n) (q₀ :: qs) p2 :: more) ((c, ts) :: l)
section
variable {X : Cx} {n : Str} {i : Nat} {body : List Stmt} {g₀ : ExceptHandler} {gs : List ExceptHandler} {l : List (Value × (Addr → Value → Option Addr → TS))} {pos : Pos} {tb : WX → TS} {Wout : WX}
theorem SP.ofTryL {xe : Value → Shared → Prop} {pins : List (Addr × Obj)} {D : Ends} {fl : Flow} {s1 : Shared} (ok : X.Ok) (h : SP (X.tr (X.pn ++ pins) xe) [] D fl s1) : SP X pins D fl s1 := by
  cases fl with
  | next => exact let ⟨σ1, H1, J, q⟩ := h; ⟨σ1, H1, J.ofTry ok, q⟩
  | brk => exact let ⟨σ1, H1, J, q⟩ := h; ⟨σ1, H1, J.ofTry ok, q⟩
  | cont => exact let ⟨σ1, H1, J, q⟩ := h; ⟨σ1, H1, J.ofTry ok, q⟩
  | ret u => exact let ⟨v, σ1, H1, J, r, q⟩ := h; ⟨v, σ1, H1, J.ofTry ok, r, q⟩
theorem ps_try_asL (hs : X.stack = X.env :: X.outer) (hf : X.env.frame = some X.env.locals) (hN : X.N.Nodup) (hi : X.N[i]? = some n) (hln : X.env.kindOf n = some .local) (tk : Takes X Wout)
    (hb : ∀ (W : WX) (pn : List (Addr × Obj)) (xe : Value → Shared → Prop), Takes (X.tr pn xe) W → PassesOwn (model X.prog X.w) X.A X.env xe → PSs (X.tr pn xe) body (tb W))
    (hh : HdsAs X n (g₀ :: gs) l) : PS X (.Try body (g₀ :: gs) [] [] pos) (fun D σ H => tb (wAsL X.K i Wout D l) D σ H) := by
  refine ⟨fun pins s σ H D I h => ?_⟩
  have okX := I.ok
  have framesX : X.A.frames = some (X.env :: X.outer) := okX.frames.trans (congrArg some hs)
  have localX : Loc X.env.scope n := Or.inl hln
  apply wpAny_Try_except
  have body_ := hb (wAsL X.K i Wout D l) (X.pn ++ pins) (fun e t1 => wpAny (model X.prog X.w) X.A (noteFrame e X.env) (fun _ t2 => wpAny (model X.prog X.w) X.A (setFlight e none) (fun _ t3 => wpAny (model X.prog X.w) X.A (handleBy e X.env (g₀ :: gs)) (SP X pins D) X.xe t3) X.xe t2) X.xe t1)
  refine wpAny_mono ((body_ (fun u t caught => ?_) PassesOwn.looking).run [] s σ H D (I.toTry _) h) (fun fl t1 fine => ?_) (fun _ _ z => z)
  · obtain ⟨x, B, sI, pinsI, σ1, H1, cls, d, rfl, JI, nb, up, sky, fresh, os, bare, wish⟩ := caught
    have J := JI.ofTry okX
    rw [hs] at sky
    change wpAny (model X.prog X.w) X.A (noteFrame (.ref x) X.env) _ _ _
    refine Sky.land Zc.steady framesX hf sky fun h5 fl5 up5 => ?_
    have J5 : Inv X pins σ1 H1 { t with heap := h5 } := J.landed nb fl5.1 (up.trans up5) os bare
    obtain ⟨ox5, vs5, at5, zc5, data5⟩ := fl5.there
    have outside : x ∉ frs (X.env :: X.outer) := fun hm => by
      obtain ⟨_, o', e', other⟩ := fl5.2.2.1.mem hm
      rw [at5] at e'
      cases e'
      exact other _ data5
    have notL : x ≠ X.env.locals := fun z => outside (List.mem_filterMap.mpr ⟨X.env, .head _, by rw [hf, z]⟩)
    have notF : x ∉ X.fs := fun hm => let ⟨e, he, q⟩ := List.mem_filterMap.mp hm; outside (List.mem_filterMap.mpr ⟨e, .tail _ he, q⟩)
    have S5 := J5.suite at5 data5 fresh notL notF
    have turn : ∀ {more : List ExceptHandler} {l' : List (Value × (Addr → Value → Option Addr → TS))}, HdsAs X n more l' → wAsL X.K i Wout D l' cls d σ1 H1 → wpAny (model X.prog X.w) X.A (handleBy (.ref x) X.env more) (SP X pins D) X.xe { t with heap := h5 } := by
      intro more l' hk
      induction hk with
      | nil =>
        intro out
        apply wpAny_handleBy_nil
        obtain ⟨_, _, _, ox, vs, T, oT, ts', e1, e2, e3, e4, _⟩ := id fl5
        unfold PySem.passOn
        refine wpAny_bind (wpAny_field e1 e3 e4 ?_)
        rw [if_neg (by simp : ¬ ((Value.ref T == Value.none) = true))]
        have leave : wpAny (model X.prog X.w) X.A (setFlight (.ref x) X.env.frame) (fun _ t4 => wpAny (model X.prog X.w) X.A (throw (.ref x) : Sem Flow) (SP X pins D) X.xe t4) X.xe { t with heap := h5 } := by
          rw [hf]
          exact HandSPX.setFlight_upZ fl5 fun h6 sky6 up6 => wpAny_throw (tk _ _ ⟨x, B, sI, pins, σ1, H1, cls, d, rfl, J, nb, (up.trans up5).trans up6, .inr (.inr (by rw [hs]; exact sky6)), fresh, os, bare, out⟩)
        first | exact wpAny_bind (wpAny_pure (wpAny_bind leave)) | exact wpAny_bind leave
      | @cons xn c ts q₀ qs p1 p2 rest l2 named run r ih =>
        rintro ⟨b, isb, yes, no⟩
        refine wpAny_handleBy_cons (codeAny_handlers_test ?_) (by intro q; cases q)
        have ofx : PySem.W.Looks (model X.prog X.w) h5 (typeOf (.ref x)) cls := fun A Q E s k q => wpAny_typeOf_ref (k _ _ at5) (zc5.1 ▸ q)
        have asks := PySem.W.exm_one (M := model X.prog X.w) J5.kIn ofx isb
        have class_ : ∀ {Q : Value → Shared → Prop} {E : Value → Shared → Prop}, Q c { t with heap := h5 } → wpAny (model X.prog X.w) (X.A.mark (some (.ref x))) (eval (.Name xn p1) X.env) Q E { t with heap := h5 } := fun q => by
          obtain ⟨gl, dbg, own | ⟨none_, blt, nn⟩⟩ := named
          · exact ld_glob (X := X.suite x ((x, ox5) :: (X.pn ++ pins))) S5 gl own q dbg
          · exact ld_blt (X := X.suite x ((x, ox5) :: (X.pn ++ pins))) S5 gl none_ blt q nn dbg
        refine class_ (asks.here ?_)
        cases b with
        | false =>
          change wpAny _ X.A (handleBy (.ref x) X.env rest) _ _ _
          exact ih (no rfl)
        | true =>
          apply codeAny_handlers_suite_as
          refine HandSPX.lands_againZ fl5 fun h6 fl6 up6 => ?_
          have J6 : Inv X pins σ1 H1 { t with heap := h6 } := J.landed nb fl6.1 ((up.trans up5).trans up6) os bare
          obtain ⟨ox6, vs6, at6, zc6, data6⟩ := fl6.there
          have S6 := J6.suite at6 data6 fresh notL notF
          refine store_ok (X := X.suite x ((x, ox6) :: (X.pn ++ pins))) (v := .ref x) S6 hN hi localX rfl (fun t7 S7 => ?_) (.inr hln)
          refine wpAny_mono ((run x ox6 cls d (X.pn ++ pins) zc6 ⟨_, data6⟩).run [] t7 _ H1 _ S7 (yes rfl x fresh)) (fun fl t8 fine => ?_) (fun _ _ z => z.elim)
          have gone : ∀ {σ8 : St} {H8 : Hp} {Q : Shared → Prop}, Inv (X.suite x ((x, ox6) :: (X.pn ++ pins))) [] σ8 H8 t8 → (∀ t9, Inv X pins (σ8.set i none) H8 t9 → Q t9) →
              wpAny (model X.prog X.w) X.A (do bindName X.env n .none; unbindBehindTheSuite X.env n p2) (fun _ t9 => Q t9) X.xe t8 := fun S8 hq => gone_ok (S8.unsuite okX) hN hi hln hq
          cases fl with
          | next => exact let ⟨_, _, S8, q⟩ := fine; gone S8 fun _ J9 => ⟨_, _, J9, q⟩
          | brk => exact let ⟨_, _, S8, q⟩ := fine; gone S8 fun _ J9 => ⟨_, _, J9, q⟩
          | cont => exact let ⟨_, _, S8, q⟩ := fine; gone S8 fun _ J9 => ⟨_, _, J9, q⟩
          | ret u => exact let ⟨_, _, _, S8, rr, q⟩ := fine; gone S8 fun _ J9 => ⟨_, _, _, J9, rr, q⟩
    exact turn hh wish
  · have fine2 := SP.ofTryL okX fine
    cases fl with
    | next => exact wpAny_execs_nil fine2
    | brk => exact fine2
    | cont => exact fine2
    | ret u => exact fine2
end
end L2

/-! X16 -/
/-! ### a method called within a try -/
namespace L2
open PySem PySem.Spec PyProof.Rows
def tMethT (C : Addr) (m : Str) (sp : Sp) (E : St → XK) (ta : TE) (t : TA) : TE := fun σ H Q => ta σ H fun x H1 => ∃ (a dx : Addr) (fs : List (Str × V)), x = .ref a ∧ H1 a = some (.ins C dx fs) ∧ fs.lookup m = none ∧ t σ H1 fun vs H2 => sp (x :: vs) H2 Q (E σ)
section
variable {X : Cx} {CX : CXT} {k : Nat} {f C : Addr} {fd : FuncData} {m : Str} {ps : List Str} {sp : Sp} {E : St → XK} {o e : Expr} {es : List Expr} {ta : TE} {t : TA} {apos pos : Pos} {pl : Sem Bool}
theorem pe_methT (he : PE X o ta) (c : Cls X.K C) (hm : Meth X.K C m f) (F : FnOk X.prog X.w X.K X.mg X.base CX k f fd ps sp) (hr : Room k X.A) (hb : Binds X.K fd ps []) (hx : ∀ σ, PassesAt CX X σ (E σ)) (ha : PA X (e :: es) t)
    (hst : starEach (e :: es) X.env = (false, eval e X.env) :: starEach es X.env := by rfl) (hpl : (backTo pos (starEach es X.env)).any (·.1) = false := by rfl)
    (ht : eval (.Call (.Attribute o m apos) (e :: es) [] pos) X.env = (do
      let v ← eval o X.env
      standAt apos.atName
      let (f, first) ← holding [v] (getMethod v m pl)
      callWith pos f first (backTo pos (starEach (e :: es) X.env)) (backToKw pos (keywordEach [] X.env))) := by rfl) : PE X (.Call (.Attribute o m apos) (e :: es) [] pos) (tMethT C m sp E ta t) := by
  refine ⟨fun pins s σ H Q I h => PySem.W.methodCall_KW (pl := pl) (thn (he.run pins s σ H _ I h) fun u s1 ⟨x, H1, I1, rx, a, dx, fs, ex, ea, l, q⟩ => ?_) ht⟩
  subst ex
  obtain rfl : u = Value.ref a := rx
  refine getmeth_ok I1 ea c hm l (PySem.W.callWith_K (first := [.ref a]) (h₀ := X.base) I1.ok.mod.kin hm.kp (thn (ha.run pos pins s1 σ H1 _ I1 q) fun us s2 ⟨vs, H2, I2, r, q2⟩ => ⟨I2.kIn, ?_⟩) hst hpl)
  exact run_fnS (us := .ref a :: us) (vs := .ref a :: vs) F hr hb (hx σ) I2 (.cons rfl r) q2
theorem call_reprDK {K : PySem.W.Frag} (hK : X.K = K) (hg : X.A.guards = some []) (hu : X.A.units + 64 < cLine) : CallR X (.builtin "repr") (rReprD K) := by
  subst hK
  exact call_reprD hg hu
theorem call_len_K0 {K : PySem.W.Frag} (hK : X.K = K) : CallR X (.builtin "len") (fun xs H Q => ∃ p ys, xs = [.ref p] ∧ (SqL K H p ys ∨ SqT K H p ys) ∧ Q (.int ys.length) H) := by
  subst hK
  exact call_len_seq
end
end L2
/-! ### data stands where the heap stands -/
namespace Rw
open PySem PySem.Spec PyProof.Rows L2
section
variable {K : PySem.W.Frag} {H H' : Hp}
theorem sqT_same {a : Addr} {xs : List V} (s : Same H H') (h : SqT K H a xs) : SqT K H' a xs := by
  rcases h with (h | ⟨o, h⟩) | h
  · exact .inl (.inl (s _ _ h))
  · exact .inl (.inr ⟨o, s _ _ h⟩)
  · exact .inr h
mutual
theorem dq_same (s : Same H H') : ∀ (d : PyData) (v : V), Dq K H v d → Dq K H' v d
  | .none, _, h => by cases h; exact .non
  | .bool _, _, h => by cases h; exact .bl _
  | .int _, _, h => by cases h; exact .int _
  | .str _, _, h => by cases h; exact .str _
  | .list ds, _, h => by
    cases h with
    | lst h1 h2 => exact .lst (s.seq h1) (dqs_same s ds _ h2)
  | .tuple ds, _, h => by
    cases h with
    | tup h1 h2 => exact .tup (sqT_same s h1) (dqs_same s ds _ h2)
  | .dict _, _, h => by
    cases h with
    | dic h1 => exact .dic (s _ _ h1)
theorem dqs_same (s : Same H H') : ∀ (ds : List PyData) (vs : List V), DqAll K H vs ds → DqAll K H' vs ds
  | [], _, h => by cases h; exact .nil
  | d :: ds, _, h => by
    cases h with
    | cons h1 h2 => exact .cons (dq_same s d _ h1) (dqs_same s ds _ h2)
end
end
end Rw
namespace Rw
open PySem PySem.Spec PyProof.Rows L2
theorem xf_of {K : PySem.W.Frag} {C fI : Addr} (T : OexG K C fI) : XfC K C := ⟨T.ga, T.gg, T.exC, T.hdC⟩
/-- the steps, or step and where the fault is -/
def Out9 (K : PySem.W.Frag) (H : Hp) (v : V) (rs : List (Option Step)) : Prop := ∃ p, v = .ref p ∧ ((∃ u, fault rs = some u ∧ SqL K H p [.str "step", u]) ∨ ∃ (ss : List Step) (xs : List V), rs = ss.map some ∧ fault rs = none ∧ SqL K H p xs ∧ StepsAt K H xs ss)
theorem row_steps {K : PySem.W.Frag} {d : Addr} {H : Hp} {xs : List V} {ss : List Step} (h : RowAt K d H xs ss) : StepsAt K H xs ss := steps_of (of_rowAt h)
theorem row_ins {K : PySem.W.Frag} {C d : Addr} {H : Hp} {a : Addr} {ss : List Step} (h : IsRow K C d H a ss) : ∃ dx fs, H a = some (.ins C dx fs) ∧ fs.lookup ("steps" : Str) = none ∧ fs.lookup ("names" : Str) = none := by
  obtain ⟨dx, p, hh, ys, zs, h1, _⟩ := h
  exact ⟨dx, _, h1, rfl, rfl⟩
def Shows (K : PySem.W.Frag) (H : Hp) (v : V) (dv : PyData) : Prop := Dq K H v dv ∧ (dv.hasDict = false ∨ dv = .dict []) ∧ dv.showable = true ∧ dv.depth ≤ 40 ∧ dv.shown.length ≤ sizeLine
end Rw
/-! ### what the law asks of a row -/
namespace Rw
open PySem PySem.Spec PyProof.Rows L2
theorem row_ins3 {K : PySem.W.Frag} {C d : Addr} {H : Hp} {a : Addr} {ss : List Step} (h : IsRow K C d H a ss) : ∃ dx fs, H a = some (.ins C dx fs) ∧ fs.lookup ("held" : Str) = none ∧ fs.lookup ("without" : Str) = none ∧ fs.lookup ("steps" : Str) = none ∧ fs.lookup ("names" : Str) = none ∧ fs.lookup ("begins" : Str) = none := by
  obtain ⟨dx, p, hh, ys, zs, h1, _⟩ := h
  exact ⟨dx, _, h1, rfl, rfl, rfl, rfl, rfl⟩
def bound (way : Int) (ss : List Step) : Nat := if way = 1 then ss.length + 2 else ss.length
/-- the row without the step at i -/
def without (ss : List Step) (i : Nat) : List Step := ss.take i ++ ss.drop (i + 1)
def spAsked (K : PySem.W.Frag) (C d : Addr) : Sp := fun vs H Q _ => ∃ (a : Addr) (way : Int) (v : V) (ss : List Step) (b : Bool) (dv : PyData), vs = [.ref a, .int way, v] ∧ (way = 0 ∨ way = 1 ∨ way = 2) ∧ IsRow K C d H a ss ∧ ss.length ≤ 300 ∧ IxV K H (bound way ss : Nat) v b ∧
  (b = false → Shows K H v dv ∧ ∀ H' p, Same H H' → H p = none → H' p = some (.lst [.str "none", .str dv.shown]) → Q (.ref p) H') ∧
  (b = true → ∀ i : Nat, v = .int (i : Nat) → (way = 0 → ∀ st u, ss[i]? = some st → SVG K d H u (some st) → Q u H) ∧ (way = 1 → ∀ ns u, (helds ss [] ++ [[], []])[i]? = some ns → TxtT K H u ns → Q u H) ∧
    (way = 2 → ∀ H' u, Same H H' → Out9 K H' u ((without ss i).map some) → Q u H'))
section
variable {P : Program} {w : World} {K : PySem.W.Frag} {mg : Str → Option Value} {base : Heap}
abbrev sAsk : Stmt := top 34
theorem scAsk : FnScope ["_law_row", "_law_way", "_law_thing", "e"] ["_law_row", "_law_way", "_law_thing"] (defScope sAsk) := ⟨rfl, rfl, rfl, by decide +kernel, rfl, by decide +kernel, by decide +kernel⟩
theorem ok_asked {f fG fH fW fS fI fA fR fE fE2 C d CI CN : Addr} {fd fdG fdH fdW fdS fdE fdE2 : FuncData} (F : Fun K "_law_asked" "_law_asked" sAsk f fd) (R : RowC K mg C fI fA fR) (T : Er P w K mg base "InvalidNumber" "value" CN fE fdE) (TI : Er P w K mg base "InvalidStep" "index" CI fE2 fdE2)
    (te : PySem.W.exmOne K (.ref CN) (.ref CN) = some true) (te2 : PySem.W.exmOne K (.ref CI) (.ref CN) = some false) (te3 : PySem.W.exmOne K (.ref CI) (.ref CI) = some true)
    (hs : PySem.W.findIn K (.ref C) "__getitem__" = some (some (.ref fG))) (hn : PySem.W.fnIn K fG = true) (hf : PySem.W.isFn K (.ref fG) = true)
    (GG : FnOk P w K mg base (L2.CX P w) 3 fG fdG ["self", "at"] (spGet K C d CN)) (bG : Binds K fdG ["self", "at"] [])
    (GH : FnOk P w K mg base (L2.CX P w) 3 fH fdH ["self", "done"] (spHeldR K C d CN)) (bH : Binds K fdH ["self", "done"] []) (mH : Meth K C "held" fH)
    (GW : FnOk P w K mg base (L2.CX P w) 6 fW fdW ["self", "index"] (spWithout K C d CI CN)) (bW : Binds K fdW ["self", "index"] []) (mW : Meth K C "without" fW)
    (GS : FnOk P w K mg base CX0 1 fS fdS ["self"] (spSteps K C d)) (bS : Binds K fdS ["self"] []) (mS : Meth K C "steps" fS) (m_repr : mg "repr" = none) : FnOkG P w K mg base CX0 7 f fd ["_law_row", "_law_way", "_law_thing"] (spAsked K C d) := by
  refine F.okG scAsk (fun vs H Q E h => ?_) (fun cdv A outer s H vs Q E hgd hr h => ?_)
  · obtain ⟨a, way, v, ss, b, dv, rfl, _⟩ := h
    rfl
  · obtain ⟨a, way, v, ss, b, dv, rfl, hway, hrow, hz, hv, qf, qt⟩ := h
    refine ⟨_, pss_one (ps_try_asL (i := 3) (l := _) rfl rfl scAsk.nd rfl rfl takes0
      (fun W pn xe tk _ => pss_cons (ps_if (pt_cmpR op_eq (pv 1) pe_int (nomark _)) (pss_one (ps_ret (pe_ixTS (K := K) rfl hs hn hf GG (hr.mono (by decide)) bG (fun σ => passAt tk σ) (pv 0) (pv 2) (fun _ _ => rfl)))) pss_nil)
        (pss_one (ps_ret (pe_ifExp (pt_cmpR op_eq (pv 1) pe_int (nomark _)) (pe_methT (pv 0) R.cl mH GH (hr.mono (by decide)) bH (fun σ => passAt tk σ) (pa_cons (pv 2) pa_nil))
          (pe_meth0 (pe_methT (pv 0) R.cl mW GW hr bW (fun σ => passAt tk σ) (pa_cons (pv 2) pa_nil)) R.cl mS GS (hr.mono (by decide)) bS .nil pass0)))))
      (.cons ⟨rfl, by decide, .inl T.g⟩ (fun a oe cls dd pn hz hf => pss_one (ps_ret (pe_lst (pa_cons pe_str (pa_cons (pe_callB (call_reprDK (K := K) rfl hgd hr.units) (by rfl) m_repr (by decide +kernel) (pa_cons (pe_xf (xf_of T.o) T.no hz hf (pv 3)) pa_nil)) pa_nil)))))
        (.cons ⟨rfl, by decide, .inl TI.g⟩ (fun a oe cls dd pn hz hf => pss_one (ps_ret (pe_lst (pa_cons pe_str (pa_cons (pe_xf (xf_of TI.o) TI.no hz hf (pv 3)) pa_nil))))) .nil))), ?_⟩
    refine ⟨_, rfl, rfl, _, rfl, ?_⟩
    obtain ⟨dx, fs, k1, k2, k3, k4, _⟩ := row_ins3 hrow
    rcases hway with rfl | rfl | rfl
    · rw [show decide (V.int 0 = V.int 0) = true from decide_eq_true rfl]
      refine iteT ?_
      refine ⟨_, rfl, _, rfl, a, dx, fs, rfl, k1, a, v, ss, b, rfl, hrow, by omega, hv, fun hb i st u ev hst hu => ?_, fun hb t H1 lf => ⟨true, te, fun _ e ne => ?_, fun z => nomatch z⟩⟩
      · exact (qt hb i ev).1 rfl st u hst hu
      · obtain ⟨s1, nt, ht⟩ := lf
        obtain ⟨⟨g1, g2, g3, g4, g5⟩, qE⟩ := qf hb
        refine ⟨_, rfl, rfl, rfl, t, _, v, rfl, ht, rfl, v, dv, rfl, dq_same s1 _ _ g1, g2, g3, g4, g5, by show 2 ≤ sizeLine; decide, fun p np => ?_⟩
        exact qE _ _ (s1.trans (same_upd np)) (s1.free np) upd_same
    · rw [show decide (V.int 1 = V.int 0) = false from decide_eq_false (fun z => by cases z)]
      refine iteF ?_
      dsimp only [tNext]
      refine ⟨_, rfl, rfl, _, rfl, ?_⟩
      rw [show decide (V.int 1 = V.int 1) = true from decide_eq_true rfl]
      refine iteT ?_
      refine ⟨_, rfl, a, dx, fs, rfl, k1, k2, _, rfl, a, v, ss, b, rfl, hrow, by omega, hv, fun hb i ns u ev hst hu => ?_, fun hb t H1 lf => ⟨true, te, fun _ e ne => ?_, fun z => nomatch z⟩⟩
      · exact (qt hb i ev).2.1 rfl ns u hst hu
      · obtain ⟨s1, nt, ht⟩ := lf
        obtain ⟨⟨g1, g2, g3, g4, g5⟩, qE⟩ := qf hb
        refine ⟨_, rfl, rfl, rfl, t, _, v, rfl, ht, rfl, v, dv, rfl, dq_same s1 _ _ g1, g2, g3, g4, g5, by show 2 ≤ sizeLine; decide, fun p np => ?_⟩
        exact qE _ _ (s1.trans (same_upd np)) (s1.free np) upd_same
    · rw [show decide (V.int 2 = V.int 0) = false from decide_eq_false (fun z => by cases z)]
      refine iteF ?_
      dsimp only [tNext]
      refine ⟨_, rfl, rfl, _, rfl, ?_⟩
      rw [show decide (V.int 2 = V.int 1) = false from decide_eq_false (fun z => by cases z)]
      refine iteF ?_
      refine ⟨_, rfl, a, dx, fs, rfl, k1, k3, _, rfl, a, v, ss, b, rfl, hrow, by omega, hv, fun hb i ev hi => ⟨fun hf2 ts ets x H1 s1 row => ?_, fun u hu t H1 lf => ⟨false, te2, fun z => (nomatch z), fun _ => ⟨true, te3, fun _ e ne => ?_, fun z => nomatch z⟩⟩⟩, fun hb t H1 lf => ⟨true, te, fun _ e ne => ?_, fun z => nomatch z⟩⟩
      · obtain ⟨dx2, fs2, m1, _, _, m4, _⟩ := row_ins3 row
        refine ⟨x, dx2, fs2, rfl, m1, m4, x, ts, rfl, row, fun H2 p ys s2 np hp ra => ?_⟩
        exact (qt hb i ev).2.2 rfl H2 _ (s1.trans s2) ⟨p, rfl, .inr ⟨ts, ys, ets, hf2, SqL.of hp, row_steps ra⟩⟩
      · obtain ⟨s1, nt, ht⟩ := lf
        refine ⟨_, rfl, rfl, rfl, t, _, u, rfl, ht, rfl, by show 2 ≤ sizeLine; decide, fun p np => ?_⟩
        exact (qt hb i ev).2.2 rfl _ _ (s1.trans (same_upd np)) ⟨p, rfl, .inl ⟨u, hu, SqL.of upd_same⟩⟩
      · obtain ⟨s1, nt, ht⟩ := lf
        obtain ⟨⟨g1, g2, g3, g4, g5⟩, qE⟩ := qf hb
        refine ⟨_, rfl, rfl, rfl, t, _, v, rfl, ht, rfl, v, dv, rfl, dq_same s1 _ _ g1, g2, g3, g4, g5, by show 2 ≤ sizeLine; decide, fun p np => ?_⟩
        exact qE _ _ (s1.trans (same_upd np)) (s1.free np) upd_same
end
end Rw

/-! X17 -/
/-! ### set(list of texts) -/
namespace Tx
open PySem PySem.Spec PyProof.Rows L2
open PySem.Froz (SD sObj TxOk addTx tailTx)
/-- the texts of a list, one after the other, in a set -/
def insAll (ks : List Str) : List Str := ks.foldl (fun l k => ins k l) []
theorem insAll_snoc (ks : List Str) (k : Str) : insAll (ks ++ [k]) = ins k (insAll ks) := by
  unfold insAll
  rw [List.foldl_append]
  rfl
theorem insAll_len (ks : List Str) : (insAll ks).length ≤ ks.length := by
  have z : ∀ (ks l : List Str), (ks.foldl (fun l k => ins k l) l).length ≤ l.length + ks.length := by
    intro ks
    induction ks with
    | nil => exact fun l => Nat.le_refl _
    | cons k ks ih =>
      intro l
      rw [List.foldl_cons, List.length_cons]
      have a := ih (ins k l)
      have b := ins_len k l
      omega
  have y := z ks []
  rw [List.length_nil, Nat.zero_add] at y
  exact y
section
variable {P : Program} {w : World} {A : Around} {R : Result → Shared → Prop} {I : Addr} {fp wr : List Addr} {G : Array GenState → Array GenState → Prop} {n : Nat} {Pv : Nat → Value → Prop} {St : Nat → Shared → Prop}
theorem loop_tx (W : WalksS P w A.in1 I fp wr G n Pv St) (S : Addr) (apart : S ∉ fp) (ks : List Str) (many : ks.length = n) (few : n + 1 < scanBound) (text : ∀ i v, Pv i v → ∃ t, v = .str (ks.getD i Str.empty) t) :
    ∀ (left i : Nat) (s : Shared), n - i = left → i ≤ n → St i s → SetTx P w s.heap S (insAll (ks.take i)) → (∀ s', Moved (S :: wr) G s s' → SetTx P w s'.heap S (insAll ks) → R (.ok (.ret .none)) s') →
      codeAny (model P w) A (.builtin "set.update.loop" ⟨[.ref S, .ref I], []⟩) R s := by
  have notw : S ∉ wr := fun h => apart (W.sub _ h)
  intro left
  induction left with
  | zero =>
    intro i s hl hi st hS fin
    obtain rfl : i = n := by omega
    rw [List.take_of_length_le (by omega)] at hS
    refine codeAny_builtin PyProof.Rows.F.entry_set_update_loop ?_
    rw [Around.under_plainId PyProof.Rows.F.plain_set_update_loop _]
    change wpAny _ A.in1 (pyNext (.ref I) >>= _) _ _ s
    refine wpAny_bind (W.done s _ _ st fun s' mv => ?_)
    change wpAny _ A.in1 (ret Value.none) _ _ s'
    exact wpAny_pure (fin s' (mv.mono fun b hb => .tail _ hb) (hS.at fun o e => mv.heap S _ notw e))
  | succ left ih =>
    intro i s hl hi st hS fin
    have lt : i < n := by omega
    refine codeAny_builtin PyProof.Rows.F.entry_set_update_loop ?_
    rw [Around.under_plainId PyProof.Rows.F.plain_set_update_loop _]
    change wpAny _ A.in1 (pyNext (.ref I) >>= _) _ _ s
    refine wpAny_bind (W.item i s _ _ lt st fun v s1 pv st1 mv => ?_)
    obtain ⟨tk, rfl⟩ := text i v pv
    have hS1 : SetTx P w s1.heap S (insAll (ks.take i)) := hS.at fun o e => mv.heap S _ notw e
    have nxt : insAll (ks.take (i + 1)) = ins (ks.getD i Str.empty) (insAll (ks.take i)) := by
      have ilt : i < ks.length := by omega
      rw [List.take_succ_eq_append_getElem ilt, insAll_snoc, List.getD_eq_getElem?_getD, List.getElem?_eq_getElem ilt]
      rfl
    have room := insAll_len (ks.take i)
    rw [List.length_take] at room
    change wpAny _ A.in1 (holding [Value.str (ks.getD i Str.empty) tk] (setAdd S (.str (ks.getD i Str.empty) tk)) >>= _) _ _ s1
    refine wpAny_bind (wpAny_holding ?_)
    unfold setAdd
    refine wpAny_holding (wpAny_bind ((strKind P w).pyHash (PySem.Froz.is_str (ks.getD i Str.empty) tk) ?_))
    refine add_hashed (s := { s1 with toks := s1.toks + 1 }) hS1 (by omega) fun h2 b sb hS2 => ?_
    rw [← nxt] at hS2
    refine wpAny_pure ⟨plainId_quiet PyProof.Rows.F.plain_set_update_loop _, ih (i + 1) _ (by omega) lt (W.frame _ s1 _ _ st1 (Nat.le_succ _) fun c hc o e => ?_) hS2 fun s3 mv3 hS3 => ?_⟩
    · exact (sb.2 c fun z => apart (z ▸ hc)).trans e
    · exact fin s3 (Moved.trans W.gtrans ((mv.mono fun b hb => .tail _ hb).then_heap (Nat.le_succ _) fun c o hc e => (sb.2 c fun z => hc (z ▸ .head _)).trans e) mv3) hS3
end
end Tx
namespace Tx
open PySem PySem.Spec PyProof.Rows L2
open PySem.Froz (SD sObj TxOk addTx tailTx)
/-- a set with nothing in it, as it is made -/
def bare (w : World) : Obj := { cls := .type "set", dict := none, data := .set #[] 0 (.fresh 0 0 (!w.params.followText "set-order")) }
theorem bare_tx {P : Program} {w : World} {h : Heap} {a : Addr} (e : h.get? a = some (bare w)) : SetTx P w h a [] := by
  refine ⟨(#[], 0, .fresh 0 0 (!w.params.followText "set-order")), e, PySem.Froz.TxOk.nil rfl, List.nodup_nil, by decide, List.Pairwise.nil, ?_⟩
  cases w.params.followText "set-order" with
  | true => exact .inl rfl
  | false => exact .inr rfl
section
variable {P : Program} {w : World} {A : Around} {E : Value → Shared → Prop} {s : Shared}
set_option maxHeartbeats 8000000 in
theorem set_tx {l : Addr} {items : Array Value} {ks : List Str} {Q : Value → Shared → Prop} (calm : A.handled = none) (isl : s.heap.IsList l items) (texts : StrsAre items.toList ks) (few : ks.length < 64)
    (fin : ∀ (h2 : Heap) (tk : Nat), SetTx P w h2 s.heap.objs.size (insAll ks) → (∀ b o, s.heap.get? b = some o → h2.get? b = some o) → Q (.ref s.heap.objs.size) { s with heap := h2, toks := tk }) :
    wpAny (model P w) A (call (.type "set") [.ref l]) Q E s := by
  have many : ks.length = items.size := by rw [← StrsAre.len_eq texts, Array.length_toList]
  obtain ⟨_, _, mro_⟩ := PySem.F.called_set.mro
  have made_ := PySem.F.called_set.made
  have sub_ := PySem.F.called_set.sub
  refine wpAny_call (codeAny_of_tree ?_)
  change wpAny _ _ (callAny (.type "set") _) _ _ _
  refine wpAny_pure ⟨Code.quiet_builtin _ (by decide +kernel), codeAny_builtin PySem.F.entry_type_call ?_⟩
  rw [Around.under_plain (weight_type_call_type "set" [.ref l] []) rfl]
  have no_ := PySem.F.called_set.notType
  have can_ := PySem.F.called_set.canCreate
  have tc_ := PySem.F.typeCall_set_1 (.ref l)
  repeat (any_goals (first | assumption | wp_step))
  refine codeAny_mono (code_set_led1 (.ref l) (E := E) (Q₁ := fun obj s1 => obj = .ref s.heap.objs.size ∧ s1 = { s with heap := s.heap.push (bare w) }) ⟨rfl, rfl⟩) fun r s1 hr => ?_
  cases r with
  | error e => exact hr
  | ok fl =>
    cases fl with
    | ret obj =>
      obtain ⟨rfl, rfl⟩ := hr
      have new_ : (s.heap.push (bare w)).get? s.heap.objs.size = some (bare w) := Heap.get?_push_size _ rfl
      have ty_ : Shared.TypeIs { s with heap := s.heap.push (bare w) } (.ref s.heap.objs.size) "set" := ⟨_, new_, rfl⟩
      have look_ := PySem.F.called_set.init.lookup
      have bind_ := PySem.F.called_set.init.bind (.ref s.heap.objs.size)
      repeat (any_goals (first | assumption | wp_step))
      refine codeAny_mono (codeAny_call_builtin (R := wants (fun r s2 => r = .none ∧ ∃ h2 tk, s2 = { s with heap := h2, toks := tk } ∧ SetTx P w h2 s.heap.objs.size (insAll ks) ∧ ∀ b o, s.heap.get? b = some o → h2.get? b = some o) E)
        PySem.F.called_set.init.plain PySem.F.entry_set_init (check_set_init_1 ty_ ?_)) fun r2 s2 hr2 => ?_
      · obtain ⟨⟨cls, dd, dt, sl⟩, at_, c_, k, d_⟩ := isl
        dsimp only at c_ d_
        subst c_ d_
        have at2 : (s.heap.push (bare w)).get? l = some { cls := .type "list", dict := dd, data := .seq items k, slots := sl } := Heap.get?_push_of_some _ at_
        have s1_ := PySem.F.sub_list_set
        have s2_ := PySem.F.sub_list_frozenset
        have ne_ : (Value.type "list" == Value.type "dict") = false := by decide
        have isl2 : (s.heap.push (bare w)).IsList l items := ⟨_, at2, rfl, k, rfl⟩
        unfold Builtin.«set.__init__» noKeywords Builtin.Frozenset.updateFrom
        generalize iter_ : pyIter = PI
        wp_walk
        subst iter_
        refine wpAny_pyIter_list isl2 (wpAny_bind (wpAny_runValue ?_))
        have lt := Heap.lt_size at_
        have quiet : A.in1.in1.in1.handled = none := by simp [calm]
        have sz : (s.heap.push (bare w)).objs.size = s.heap.objs.size + 1 := Heap.size_push ..
        have apart1 : l ≠ (s.heap.push (bare w)).objs.size := by
          rw [sz]
          exact Nat.ne_of_lt (Nat.lt_succ_of_lt lt)
        have apart2 : s.heap.objs.size ∉ [(s.heap.push (bare w)).objs.size, l] := by
          rw [sz]
          simp only [List.mem_cons, List.not_mem_nil, or_false, not_or]
          exact ⟨Nat.ne_of_lt (Nat.lt_succ_self _), Nat.ne_of_gt lt⟩
        refine loop_tx ((Walks.list quiet _ l apart1 items).toS) s.heap.objs.size apart2 ks many (by unfold scanBound; omega) (fun i v hv => SS.strs_at texts i v (by rw [Array.getElem?_toList]; exact hv)) (items.size - 0) 0 _ (by omega) (Nat.zero_le _)
          ⟨⟨_, Heap.get?_push_size _ rfl, rfl, rfl⟩, isl2.push _⟩ ?_ ?_
        · exact bare_tx (Heap.get?_push_of_some _ new_)
        · intro s3 mv hS
          obtain ⟨h3, g3, d3, t3, o3⟩ := s3
          obtain rfl : g3 = s.gens := mv.gens
          obtain rfl : d3 = s.drawn := mv.drawn
          obtain rfl : o3 = s.os := mv.os
          change wpAny _ _ _ _ _ _
          refine wpAny_pure ?_
          change wpAny _ _ (ret Value.none) _ _ _
          refine wpAny_pure ⟨rfl, h3, t3, rfl, hS, fun b o e => ?_⟩
          have lb := Heap.lt_size e
          refine mv.heap b o ?_ (Heap.get?_push_of_some _ (Heap.get?_push_of_some _ e))
          rw [sz]
          simp only [List.mem_cons, List.not_mem_nil, or_false, not_or]
          exact ⟨Nat.ne_of_lt lb, Nat.ne_of_lt (Nat.lt_succ_of_lt lb)⟩
      · cases r2 with
        | error e => exact hr2
        | ok fl2 =>
          cases fl2 with
          | ret r =>
            obtain ⟨rfl, h3, t3, rfl, hS, keep⟩ := hr2
            repeat (any_goals (first | assumption | wp_step))
            exact fin _ _ hS keep
          | _ => exact hr2.elim
    | _ => exact hr.elim
end
section
variable {X : Cx}
/-- set(list of texts) -/
def rSetTx (K : PySem.W.Frag) (P : Program) (w : World) : List V → Hp → VK → Prop := fun vs H Q => ∃ (l : Addr) (ks : List Str), vs = [.ref l] ∧ SqL K H l (ks.map V.str) ∧ ks.length < 64 ∧ ∀ a, H a = none → Q (.ref a) (upd H a (SetTO P w a (insAll ks)))
theorem cr_setTx {K : PySem.W.Frag} (hK : X.K = K) (calm : X.calm = true) : CallR X (.type "set") (rSetTx K X.prog X.w) := by
  subst hK
  intro pins s σ H vs us Q I r want
  obtain ⟨l, ks, rfl, hl, few, q⟩ := want
  rw [Vals.ref1 r]
  obtain ⟨its, rv, pl, hz⟩ := I.list hl
  have fresh : H s.heap.objs.size = none := I.hok.fresh (Nat.le_refl _)
  refine set_tx (P := X.prog) (w := X.w) (ks := ks) (I.ok.hd calm) pl.isList (by simpa using strsAre_of rv) few fun h2 tk R keep => ?_
  exact ⟨.ref s.heap.objs.size, _, I.laid (t' := tk) keep (Nat.le_refl _) (setTO_new R), rfl, q _ fresh⟩
end
end Tx

/-! X17b -/
/-! ### sorted texts are what they are -/
namespace Rw
open PySem PySem.Spec PyProof.Rows L2
def leS (a b : Str) : Prop := a.cps.toList ≤ b.cps.toList
theorem leS_of {a b : Str} (h : (!ltCps b.cps.toList a.cps.toList) = true) : leS a b := by
  rw [ltCps_eq] at h
  have h' : ¬ b.cps.toList < a.cps.toList := by simpa using h
  exact h'
theorem rising_pw : ∀ (p : Str) (l : List Str), risingS p l = true → (p :: l).Pairwise leS
  | p, [], _ => List.pairwise_singleton _ _
  | p, x :: r, h => by
    have h2 : ((!ltCps x.cps.toList p.cps.toList) && risingS x r) = true := h
    obtain ⟨a, b⟩ := Bool.and_eq_true_iff.mp h2
    have pw := rising_pw x r b
    refine List.pairwise_cons.mpr ⟨fun y hy => ?_, pw⟩
    rcases List.mem_cons.mp hy with rfl | hy
    · exact leS_of a
    · exact List.le_trans (leS_of a) ((List.pairwise_cons.mp pw).1 y hy)
theorem sorted_pw (l : List Str) (h : sortedS l = true) : l.Pairwise leS := by
  cases l with
  | nil => exact List.Pairwise.nil
  | cons x r => exact rising_pw x r h
theorem sorted_one {as bs : List Str} (h1 : sortedS as = true) (h2 : sortedS bs = true) (p : as.Perm bs) : as = bs := by
  refine p.eq_of_pairwise (le := leS) (fun a b _ _ h3 h4 => ?_) (sorted_pw _ h1) (sorted_pw _ h2)
  have e : a.cps.toList = b.cps.toList := List.le_antisymm h3 h4
  cases a
  cases b
  congr
  exact Array.toList_inj.mp e
/-- the names of one kind, as the law finds them -/
theorem namesIn_all (kd : Str) (ss : List Step) : Tx.insAll ((ss.filter fun s => decide (kindOf s.1 = kd)).map (·.2)) = namesIn kd ss := by
  have z : ∀ (ss : List Step) (l : List Str), ((ss.filter fun s => decide (kindOf s.1 = kd)).map (·.2)).foldl (fun l k => Tx.ins k l) l = ss.foldl (fun l s => if kindOf s.1 = kd then Tx.ins s.2 l else l) l := by
    intro ss
    induction ss with
    | nil => exact fun _ => rfl
    | cons s ss ih =>
      intro l
      rw [List.foldl_cons, List.filter_cons]
      by_cases h : kindOf s.1 = kd
      · rw [if_pos (decide_eq_true h), if_pos h, List.map_cons, List.foldl_cons]
        exact ih _
      · rw [if_neg (by simp [h]), if_neg h]
        exact ih _
  exact z ss []
end Rw

/-! X18 -/
/-! ### what is compared -/
namespace Rw
open PySem PySem.Spec PyProof.Rows L2
def vD : V → PyData
  | .int i => .int i
  | _ => .none
def outD9 (rs : List (Option Step)) : List PyData := match fault rs with
  | some v => [.str "step", vD v]
  | none => (rs.filterMap id).map stepD
theorem fault_val {rs : List (Option Step)} {v : V} (h : fault rs = some v) : v = .non ∨ ∃ i : Nat, v = .int (i : Nat) := by
  unfold fault at h
  split at h
  · exact .inr ⟨_, (Option.some.inj h).symm⟩
  · split at h
    · exact .inl (Option.some.inj h).symm
    · split at h
      · exact .inr ⟨_, (Option.some.inj h).symm⟩
      · cases h
theorem fault_len {rs : List (Option Step)} (h : fault rs = none) : ∃ ss : List Step, rs = ss.map some ∧ ss.length ≤ 8 := by
  unfold fault at h
  split at h
  · cases h
  · rename_i e
    rw [List.findIdx?_eq_none_iff] at e
    obtain ⟨ss, rfl⟩ := all_some rs fun j hj => by
      have z := e rs[j] (List.getElem_mem hj)
      cases hr : rs[j] with
      | none => rw [hr] at z; cases z
      | some s => exact ⟨s, by rw [List.getElem?_eq_getElem hj, hr]⟩
    refine ⟨ss, rfl, ?_⟩
    split at h
    · cases h
    · rename_i z
      rw [List.length_map] at z
      omega
theorem outD9_lay {rs : List (Option Step)} (hg : ∀ s, some s ∈ rs → GoodS s) : PyData.canLay0 (.list (outD9 rs)) = true ∧ SeqAt.shaped (.list (outD9 rs)) = true := by
  unfold outD9
  cases hf : fault rs with
  | some v =>
    rcases fault_val hf with rfl | ⟨i, rfl⟩
    · show PyData.canLay0 (.list [.str "step", .none]) = true ∧ SeqAt.shaped (.list [.str "step", .none]) = true
      exact ⟨by decide +kernel, by decide +kernel⟩
    · show PyData.canLay0 (.list [.str "step", .int (i : Nat)]) = true ∧ SeqAt.shaped (.list [.str "step", .int (i : Nat)]) = true
      have z : PyData.canLay0 (.list [.str "step", .int (i : Nat)]) = true := by
        simp only [PyData.canLay0, PyData.canLayAll0, Bool.and_true]
        decide +kernel
      refine ⟨z, shaped_of z ?_⟩
      simp [PyData.depth, PyData.depthAll]
  | none =>
    obtain ⟨ss, rfl, _⟩ := fault_len hf
    have e1 : (ss.map some).filterMap id = ss := by
      rw [List.filterMap_map]
      exact List.filterMap_some
    have hg2 : ∀ s ∈ ss, GoodS s := fun s hs => hg s (List.mem_map.mpr ⟨s, hs, rfl⟩)
    dsimp only
    rw [e1]
    refine ⟨?_, stepsL_shaped hg2⟩
    simp only [PyData.canLay0]
    exact (stepsD_lay ss hg2).1
theorem good_in {K : PySem.W.Frag} {d : Addr} {H : Hp} {xs : List V} {rs : List (Option Step)} (h : All2 (SVG K d H) xs rs) : ∀ s, some s ∈ rs → GoodS s := by
  induction h with
  | nil => exact fun s hs => by cases hs
  | cons a _ ih =>
    intro s hs
    rcases List.mem_cons.mp hs with e | hs
    · exact a.2 s e.symm
    · exact ih s hs
theorem ints_of_cut (ns : List Int) (m : Int) (k : Nat) : ∃ ms : List Int, cutV (ns.map V.int) none (some m) ++ (List.replicate k [V.int 7]).flatten = ms.map V.int ∧ ms.length ≤ ns.length + k := by
  refine ⟨((ns.drop (HT.sIx ns.length 0 none)).take (HT.sIx ns.length ns.length (some m) - HT.sIx ns.length 0 none)) ++ List.replicate k 7, ?_, ?_⟩
  · unfold cutV
    rw [List.map_append, List.length_map, List.map_take, List.map_drop]
    congr 1
    induction k with
    | zero => rfl
    | succ k ih => rw [List.replicate_succ, List.flatten_cons, ih]; rfl
  · rw [List.length_append, List.length_replicate, List.length_take, List.length_drop]
    omega
theorem shaped_ints (ns : List Int) : SeqAt.shaped (.list (ns.map PyData.int)) = true := by
  have a : PyData.canLayAll0 (ns.map PyData.int) = true := by
    induction ns with
    | nil => rfl
    | cons n r ih => simp only [List.map, PyData.canLayAll0, PyData.canLay0, Bool.true_and]; exact ih
  have b : PyData.depthAll (ns.map PyData.int) = 0 := by
    induction ns with
    | nil => rfl
    | cons n r ih =>
      simp only [List.map, PyData.canLayAll0, PyData.canLay0, Bool.true_and] at a
      simp only [List.map, PyData.depthAll, PyData.depth, ih a]
      rfl
  unfold SeqAt.shaped
  simp only [PyData.canLay0, PyData.depth, a, b]
  decide
theorem dp_ints {K : PySem.W.Frag} {H : Hp} : ∀ ns : List Int, DpAll K H (ns.map V.int) (ns.map PyData.int)
  | [] => .nil
  | _ :: r => .cons (.int _) (dp_ints r)
theorem nil_in {σ : L2.St} {H : Hp} {k : List V → Hp → Prop} (h : k [] H) : tNil σ H k := h
theorem cons_in {te : TE} {t : TA} {σ : L2.St} {H : Hp} {k : List V → Hp → Prop} (h : te σ H fun x H1 => t σ H1 fun xs H2 => k (x :: xs) H2) : tCons te t σ H k := h
theorem c_in {v : V} {σ : L2.St} {H : Hp} {k : V → Hp → Prop} (h : k v H) : tC v σ H k := h
theorem seq_in {t u : TS} {D : Ends} {σ : L2.St} {H : Hp} (h : t { D with nx := u D } σ H) : tSeq t u D σ H := h
theorem if_in {c : TT} {t u : TS} {D : Ends} {σ : L2.St} {H : Hp} (h : c σ H fun b H1 => if b = true then t D σ H1 else u D σ H1) : tIfS c t u D σ H := h
theorem or_in {t u : TT} {σ : L2.St} {H : Hp} {Q : Bool → Hp → Prop} (h : t σ H fun c H1 => if c = true then Q true H1 else u σ H1 Q) : tOr t u σ H Q := h
theorem test_in {t : TE} {σ : L2.St} {H : Hp} {Q : Bool → Hp → Prop} (h : t σ H fun x H' => ∃ k, x = .bl k ∧ Q k H') : tTest t σ H Q := h
theorem op_in {r : R2} {ta tb : TE} {σ : L2.St} {H : Hp} {Q : VK} (h : ta σ H fun x H1 => tb σ H1 fun y H2 => r x y H2 Q) : tOp r ta tb σ H Q := h
theorem call_in {sp : Sp} {E : XK} {t : TA} {σ : L2.St} {H : Hp} {Q : VK} (h : t σ H fun vs H1 => sp (vs ++ []) H1 Q E) : tCall sp [] E t σ H Q := h
theorem asg_in {te : TE} {g : TG} {D : Ends} {σ : L2.St} {H : Hp} (h : te σ H fun x H1 => g x σ H1 D.nx) : tAsg te g D σ H := h
/-- what is compared -/
theorem Out9.dp {K : PySem.W.Frag} {H : Hp} {v : V} {rs : List (Option Step)} (h : Out9 K H v rs) : Dp K H v (.list (outD9 rs)) := by
  obtain ⟨p, rfl, ⟨u, h1, h2⟩ | ⟨ss, xs, h1, h2, h3, h4⟩⟩ := h
  · unfold outD9
    rw [h1]
    refine .lst h2 ?_
    rcases fault_val h1 with rfl | ⟨i, rfl⟩
    · exact .cons (.str _) (.cons .non .nil)
    · exact .cons (.str _) (.cons (.int _) .nil)
  · unfold outD9
    rw [h2]
    subst h1
    have e1 : (ss.map some).filterMap id = ss := by
      rw [List.filterMap_map]
      exact List.filterMap_some
    dsimp only
    rw [e1]
    exact .lst h3 h4.dp
theorem same9 {K : PySem.W.Frag} {H : Hp} {u l : V} {rs : List (Option Step)} {ds : List PyData} (o : Out9 K H u rs) (e : outD9 rs = ds) (good : ∀ s, some s ∈ rs → GoodS s) (lit : Dp K H l (.list ds)) :
    ∃ a b, Dp K H u a ∧ Dp K H l b ∧ SeqAt.shaped a = true ∧ SeqAt.shaped b = true ∧ PyData.eqv a b = true := by
  have lay := outD9_lay good
  have z := o.dp
  rw [e] at lay z
  exact ⟨_, _, z, lit, lay.2, lay.2, SeqAt.eqv_refl _ lay.1⟩
/-- where the faults are -/
theorem w_take_give : ("take" : Str) ≠ "give" ∧ ("give" : Str) ≠ "take" ∧ ("bar" : Str) ≠ "give" ∧ ("bar" : Str) ≠ "take" ∧ ("halt" : Str) ≠ "give" ∧ ("halt" : Str) ≠ "take" ∧ ("settle" : Str) ≠ "give" ∧ ("settle" : Str) ≠ "take" ∧ ("close" : Str) ≠ "give" ∧ ("close" : Str) ≠ "take" ∧ ("clear" : Str) ≠ "give" ∧ ("clear" : Str) ≠ "take" := by
  refine ⟨?_, ?_, ?_, ?_, ?_, ?_, ?_, ?_, ?_, ?_, ?_, ?_⟩ <;> decide +kernel
def faultS (ss : List Step) : Option V := match (wrongs ss [] []).findIdx? id with
  | some i => some (.int (i : Nat))
  | none => none
theorem fault_all (ss : List Step) (h : ss.length ≤ 8) : fault (ss.map some) = faultS ss := by
  unfold fault faultS
  have e0 : (ss.map some).findIdx? Option.isNone = none := by
    rw [List.findIdx?_eq_none_iff]
    intro x hx
    obtain ⟨s', _, rfl⟩ := List.mem_map.mp hx
    rfl
  have e1 : (ss.map some).filterMap id = ss := by
    rw [List.filterMap_map]
    exact List.filterMap_some
  rw [e0, e1, List.length_map]
  dsimp only
  exact if_neg (by omega)
theorem Out9.same {K : PySem.W.Frag} {H H' : Hp} (s : Same H H') {v : V} {rs : List (Option Step)} (h : Out9 K H v rs) : Out9 K H' v rs := by
  obtain ⟨p, rfl, ⟨u, h1, h2⟩ | ⟨ss, xs, h1, h2, h3, h4⟩⟩ := h
  · exact ⟨p, rfl, .inl ⟨u, h1, s.seq h2⟩⟩
  · exact ⟨p, rfl, .inr ⟨ss, xs, h1, h2, s.seq h3, h4.same s⟩⟩
end Rw
/-! ### what a row tells -/
namespace Rw
open PySem PySem.Spec PyProof.Rows L2
theorem ixv_int {K : PySem.W.Frag} {H : Hp} {m i : Nat} (h : i < m) : IxV K H (m : Nat) (.int (0 + (i : Nat))) true := by
  have z := IxV.int (K := K) (H := H) (m := (m : Nat)) (0 + (i : Int))
  rw [decide_eq_true (by omega : (0 : Int) ≤ 0 + (i : Int)), decide_eq_true (by omega : 0 + (i : Int) < (m : Nat))] at z
  exact z
theorem int_at {i j : Nat} (e : V.int (0 + (i : Nat)) = V.int (j : Nat)) : j = i := by
  have := V.int.inj e
  omega
theorem txts_dp {K : PySem.W.Frag} {H : Hp} {ys : List V} {nss : List (List Str)} (h : All2 (TxtT K H) ys nss) : DpAll K H ys (nss.map txtD) := by
  induction h with
  | nil => exact .nil
  | cons a _ ih => exact .cons a.dp ih
theorem txts_lay : ∀ nss : List (List Str), (∀ ns ∈ nss, ∀ n ∈ ns, sOk n) → PyData.canLayAll0 (nss.map txtD) = true ∧ PyData.depthAll (nss.map txtD) ≤ 1
  | [], _ => ⟨rfl, Nat.zero_le _⟩
  | ns :: nss, h => by
    obtain ⟨a, b⟩ := txts_lay nss fun x hx => h x (List.mem_cons_of_mem _ hx)
    obtain ⟨c, d⟩ := txtD_lay (h ns List.mem_cons_self)
    refine ⟨?_, ?_⟩
    · show (PyData.canLay0 (txtD ns) && PyData.canLayAll0 (nss.map txtD)) = true
      rw [c, a]
      rfl
    · show max (PyData.depth (txtD ns)) (PyData.depthAll (nss.map txtD)) ≤ 1
      rw [d]
      omega
theorem txts_shaped {nss : List (List Str)} (h : ∀ ns ∈ nss, ∀ n ∈ ns, sOk n) : PyData.canLay0 (.list (nss.map txtD)) = true ∧ SeqAt.shaped (.list (nss.map txtD)) = true := by
  obtain ⟨a, b⟩ := txts_lay nss h
  have c : PyData.canLay0 (.list (nss.map txtD)) = true := by simp only [PyData.canLay0]; exact a
  refine ⟨c, shaped_of c ?_⟩
  simp only [PyData.depth]
  omega
theorem helds_get : ∀ (ss : List Step) (t : List Str) (i : Nat), i < ss.length → (helds ss t)[i]? = some (after (ss.take i) t)
  | [], _, _, h => absurd h (Nat.not_lt_zero _)
  | s :: ss, t, 0, _ => rfl
  | s :: ss, t, i + 1, h => helds_get ss (behind s t) i (Nat.lt_of_succ_lt_succ h)
/-- what is held behind each number of steps, of a row without faults -/
theorem helds_all {ss : List Step} (hw : ∀ b ∈ wrongs ss [] [], b = false) : helds ss [] ++ [[], []] = (List.range (ss.length + 2)).map fun i => after (ss.take i) [] := by
  refine List.ext_getElem? fun i => ?_
  rw [List.getElem?_map]
  by_cases h1 : i < ss.length
  · rw [List.getElem?_append_left (by rw [helds_len]; exact h1), helds_get ss [] i h1, List.getElem?_range (by omega)]
    rfl
  · rw [List.getElem?_append_right (by rw [helds_len]; omega), helds_len]
    by_cases h2 : i < ss.length + 2
    · rw [List.getElem?_range h2]
      show _ = some (after (ss.take i) [])
      rw [List.take_of_length_le (by omega), after_nil hw]
      rcases (by omega : i - ss.length = 0 ∨ i - ss.length = 1) with e | e
      · rw [e]; rfl
      · rw [e]; rfl
    · rw [List.getElem?_eq_none (by simp; omega), List.getElem?_eq_none (by rw [List.length_range]; omega)]
      rfl
theorem txt_upd {K : PySem.W.Frag} {H : Hp} {D : Addr} {as : List V} {u : HO} (e : H D = some (.lst as)) {v : V} {ns : List Str} : TxtT K H v ns → TxtT K (upd H D u) v ns := fun ⟨p, e2, t⟩ => ⟨p, e2, sqT_upd e t⟩
theorem _root_.Tx.insAll_mem {ks : List Str} {n : Str} (h : n ∈ Tx.insAll ks) : n ∈ ks := by
  have z : ∀ (ks l : List Str), n ∈ ks.foldl (fun l k => Tx.ins k l) l → n ∈ l ∨ n ∈ ks := by
    intro ks
    induction ks with
    | nil => exact fun l h => .inl h
    | cons k ks ih =>
      intro l h
      rw [List.foldl_cons] at h
      rcases ih _ h with h | h
      · unfold Tx.ins at h
        by_cases e : k ∈ l
        · rw [if_pos e] at h
          exact .inl h
        · rw [if_neg e] at h
          rcases List.mem_cons.mp h with rfl | h
          · exact .inr List.mem_cons_self
          · exact .inl h
      · exact .inr (List.mem_cons_of_mem _ h)
  rcases z ks [] h with h | h
  · cases h
  · exact h
theorem none_txt {x : Str} (h : sOk x) : PyData.canLay0 (.list [.str "none", .str x]) = true ∧ SeqAt.shaped (.list [.str "none", .str x]) = true := by
  have z := txt_lay ["none", x] (fun n hn => by
    rcases List.mem_cons.mp hn with rfl | hn
    · exact by decide +kernel
    · rcases List.mem_cons.mp hn with rfl | hn
      · exact h
      · exact absurd hn List.not_mem_nil)
  have c : PyData.canLay0 (.list [.str "none", .str x]) = true := by simp only [PyData.canLay0]; exact z.1
  refine ⟨c, shaped_of c ?_⟩
  show max (PyData.depth (.str "none")) (max (PyData.depth (.str x)) 0) + 1 ≤ 64
  simp only [PyData.depth]
  omega
/-- a thing that is no index and no number of a row of n steps -/
structure OddR (K : PySem.W.Frag) (H : Hp) (n : Nat) (v : V) (dv : PyData) : Prop where
  sh : Shows K H v dv
  ok : sOk dv.shown
  no : IxV K H (n : Nat) v false
  no2 : IxV K H ((n + 2 : Nat) : Nat) v false
theorem OddR.same {K : PySem.W.Frag} {H H' : Hp} (s : Same H H') {n : Nat} {v : V} {dv : PyData} (h : OddR K H n v dv) : OddR K H' n v dv := ⟨⟨dq_same s _ _ h.sh.1, h.sh.2⟩, h.ok, h.no.same s, h.no2.same s⟩
theorem oddR_int {K : PySem.W.Frag} {H : Hp} {n : Nat} {i : Int} (out : i < 0 ∨ (n : Int) + 2 ≤ i) (h3 : (PyData.int i).showable = true) (h1 : (PyData.int i).shown.length ≤ sizeLine) (h2 : sOk (PyData.int i).shown) : OddR K H n (.int i) (.int i) := by
  have z : ∀ m : Nat, m ≤ n + 2 → IxV K H (m : Nat) (.int i) false := fun m hm => by
    have y := IxV.int (K := K) (H := H) (m := (m : Nat)) i
    by_cases h : 0 ≤ i
    · rw [decide_eq_false (by omega : ¬ i < (m : Nat)), Bool.and_false] at y
      exact y
    · rw [decide_eq_false h, Bool.false_and] at y
      exact y
  exact ⟨⟨.int i, .inl (by simp only [PyData.hasDict]), h3, by simp only [PyData.depth]; omega, h1⟩, h2, z n (by omega), z (n + 2) (Nat.le_refl _)⟩
theorem oddR_ty {K : PySem.W.Frag} {H : Hp} {n : Nat} {v : V} {T : String} {dv : PyData} (t : TyX K H v (.type T)) (m : T ∈ oddI) (h1 : Shows K H v dv) (h2 : sOk dv.shown) : OddR K H n v dv := ⟨h1, h2, .other t m, .other t m⟩
theorem few_shown0 : ∀ n : Nat, n ≤ 8 → (PyData.int (n : Int)).showable = true ∧ (PyData.int (n : Int)).shown.length ≤ 1000 ∧ sOk (PyData.int (n : Int)).shown := by
  intro n hn
  rcases (by omega : n = 0 ∨ n = 1 ∨ n = 2 ∨ n = 3 ∨ n = 4 ∨ n = 5 ∨ n = 6 ∨ n = 7 ∨ n = 8) with rfl | rfl | rfl | rfl | rfl | rfl | rfl | rfl | rfl <;> exact ⟨by decide +kernel, by decide +kernel, by decide +kernel⟩
theorem few_shown : ∀ n : Nat, n ≤ 8 → (PyData.int ((n : Int) + 2)).showable = true ∧ (PyData.int ((n : Int) + 2)).shown.length ≤ 1000 ∧ sOk (PyData.int ((n : Int) + 2)).shown := by
  intro n hn
  rcases (by omega : n = 0 ∨ n = 1 ∨ n = 2 ∨ n = 3 ∨ n = 4 ∨ n = 5 ∨ n = 6 ∨ n = 7 ∨ n = 8) with rfl | rfl | rfl | rfl | rfl | rfl | rfl | rfl | rfl <;> exact ⟨by decide +kernel, by decide +kernel, by decide +kernel⟩
def spTells (K : PySem.W.Frag) (C d : Addr) : Sp := fun vs H Q _ => ∃ (a l : Addr) (ss : List Step) (xs : List V), vs = [.ref a, .ref l] ∧ IsRow K C d H a ss ∧ RowL K d H l xs ss ∧ (∀ b ∈ wrongs ss [] [], b = false) ∧ ss.length ≤ 8 ∧ ∀ H', Same H H' → Q (.bl true) H'
section
variable {P : Program} {w : World} {K : PySem.W.Frag} {mg : Str → Option Value} {base : Heap}
abbrev sTe : Stmt := top 35
theorem scTe : FnScope ["_law_row", "_law_steps", "_law_at", "_law_rest", "_law_kind_here", "_law_odd", "_law_many", "_law_word", "_law_name", "_law_way"] ["_law_row", "_law_steps"] (defScope sTe) := ⟨rfl, rfl, rfl, by decide +kernel, rfl, by decide +kernel, by decide +kernel⟩
theorem ok_tells {f fA fK fF fH fS fN fL fI fAd fR C d CU aK : Addr} {fd fdA fdK fdF fdH fdS fdN fdL : FuncData} (F : Fun K "_law_tells" "_law_tells" sTe f fd) (R : RowC K mg C fI fAd fR)
    (GA : FnOkG P w K mg base CX0 7 fA fdA ["_law_row", "_law_way", "_law_thing"] (spAsked K C d)) (TA : Called K mg "_law_asked" ["_law_row", "_law_way", "_law_thing"] fA fdA)
    (GK : FnOk P w K mg base CX0 1 fK fdK ["_law_word"] spKindL) (TK : Called K mg "_law_kind" ["_law_word"] fK fdK)
    (GF : FnOk P w K mg base CX0 1 fF fdF ["_law_steps"] (spFault K)) (TF : Called K mg "_law_fault" ["_law_steps"] fF fdF)
    (GH : FnOk P w K mg base CX0 2 fH fdH ["_law_steps"] (spHeldrows K)) (TH : Called K mg "_law_heldrows" ["_law_steps"] fH fdH)
    (GS : FnOk P w K mg base CX0 1 fS fdS ["self"] (spSteps K C d)) (bS : Binds K fdS ["self"] []) (mS : Meth K C "steps" fS)
    (GN : FnOk P w K mg base (L2.CX P w) 3 fN fdN ["self", "kind"] (spNames K C d CU)) (bN : Binds K fdN ["self", "kind"] []) (mN : Meth K C "names" fN)
    (GL : FnOk P w K mg base CX0 1 fL fdL ["self"] (spLenR K C d)) (bL : Binds K fdL ["self"] []) (hsL : PySem.W.findIn K (.ref C) "__len__" = some (some (.ref fL))) (hfL : PySem.W.isFn K (.ref fL) = true)
    (m_len : mg "len" = none) (m_isinstance : mg "isinstance" = none) (m_range : mg "range" = none) (m_sorted : mg "sorted" = none) (m_set : mg "set" = none) (m_repr : mg "repr" = none) : FnOkG P w K mg base CX0 8 f fd ["_law_row", "_law_steps"] (spTells K C d) := by
  refine F.okG scTe (fun vs H Q E h => ?_) (fun cdv A outer s H vs Q E hgd hr h => ?_)
  · obtain ⟨a, l, ss, xs, rfl, _⟩ := h
    rfl
  · obtain ⟨a, l, ss, xs, rfl, hrow, hl, hw, hz, q⟩ := h
    refine ⟨_, (pss_cons (ps_if (PW.pt (pw_or (pt_cmpR (Nm.op_neDK (K := K) rfl hr.units) (pe_meth0 (pv 0) R.cl mS GS (hr.mono (by decide)) bS .nil pass0) (pv 1) (nomark _)) (pw_or (pt_cmpR op_ne (pe_callB (call_lenOwn (E := E0) hsL hfL GL (hr.mono (by decide)) bL pass0) (by rfl) m_len PySem.boot_len (pa_cons (pv 0) pa_nil)) (pe_callB (call_len_K0 (K := K) rfl) (by rfl) m_len PySem.boot_len (pa_cons (pv 1) pa_nil)) (nomark _)) (pw_or1 (pt_not (pt_val (pe_callB call_isi (by rfl) m_isinstance (by decide +kernel) (pa_cons (pv 0) (pa_cons (pe_glob (v := .ref C) rfl R.g rfl) pa_nil)))))))))
       (pss_one (ps_ret pe_bl))
       pss_nil)
       (pss_cons (ps_if (pt_cmpR (Nm.op_neDK (K := K) rfl hr.units) (pe_lc (own := [("_law_at", 2)]) (g := gName 2) (tt := tYes) (by rfl) scTe.nd (pi_range1 rfl m_range (pa_cons (pe_callB (call_len_K0 (K := K) rfl) (by rfl) m_len PySem.boot_len (pa_cons (pv 1) pa_nil)) pa_nil)) (blkOk_by (own := [("_law_at", 2)]) (N := ["_law_row", "_law_steps", "_law_at", "_law_rest", "_law_kind_here", "_law_odd", "_law_many", "_law_word", "_law_name", "_law_way"]) (sc := defScope sTe) (by decide +kernel)) (fun _ _ _ _ _ => (pg_name (i := 2) scTe.nd rfl (Or.inl rfl))) (fun _ _ _ _ _ => pts_nil) (fun _ _ _ _ _ => (pe_callG GA hgd (hr.mono (by decide)) rfl TA.1 TA.2.1 TA.2.2 pass0 (pa_cons (pv 0) (pa_cons pe_int (pa_cons (pv 2) pa_nil)))))) (pv 1) (nomark _))
       (pss_one (ps_ret pe_bl))
       pss_nil)
       (pss_cons (ps_if (pt_cmpR (Nm.op_neDK (K := K) rfl hr.units) (pe_lc (own := [("_law_many", 6)]) (g := gName 6) (tt := tYes) (by rfl) scTe.nd (pi_range1 rfl m_range (pa_cons (pe_op op_add (pe_callB (call_len_K0 (K := K) rfl) (by rfl) m_len PySem.boot_len (pa_cons (pv 1) pa_nil)) pe_int) pa_nil)) (blkOk_by (own := [("_law_many", 6)]) (N := ["_law_row", "_law_steps", "_law_at", "_law_rest", "_law_kind_here", "_law_odd", "_law_many", "_law_word", "_law_name", "_law_way"]) (sc := defScope sTe) (by decide +kernel)) (fun _ _ _ _ _ => (pg_name (i := 6) scTe.nd rfl (Or.inl rfl))) (fun _ _ _ _ _ => pts_nil) (fun _ _ _ _ _ => (pe_callG GA hgd (hr.mono (by decide)) rfl TA.1 TA.2.1 TA.2.2 pass0 (pa_cons (pv 0) (pa_cons pe_int (pa_cons (pv 6) pa_nil)))))) (pe_call GH (hr.mono (by decide)) rfl TH.1 TH.2.1 TH.2.2 .nil pass0 (pa_cons (pv 1) pa_nil)) (nomark _))
       (pss_one (ps_ret pe_bl))
       pss_nil)
       (pss_cons (ps_for PassesOwn.never rfl (pi_range1 rfl m_range (pa_cons (pe_callB (call_len_K0 (K := K) rfl) (by rfl) m_len PySem.boot_len (pa_cons (pv 1) pa_nil)) pa_nil)) (pg_name (i := 2) scTe.nd rfl (.inl rfl))
       (pss_cons (ps_set (i := 3) scTe.nd rfl (.inl rfl) (pe_op op_cat (pe_slice sl_list (pv 1) po_none (po_some (pv 2))) (pe_slice sl_list (pv 1) (po_some (pe_op op_add (pv 2) pe_int)) po_none)))
       (pss_one (ps_if (pt_cmpR (Nm.op_neDK (K := K) rfl hr.units) (pe_callG GA hgd (hr.mono (by decide)) rfl TA.1 TA.2.1 TA.2.2 pass0 (pa_cons (pv 0) (pa_cons pe_int (pa_cons (pv 2) pa_nil)))) (pe_ifExp (pt_cmpR op_isN (pe_call GF (hr.mono (by decide)) rfl TF.1 TF.2.1 TF.2.2 .nil pass0 (pa_cons (pv 3) pa_nil)) pe_non (nomark _)) (pv 3) (pe_lst (pa_cons pe_str (pa_cons (pe_call GF (hr.mono (by decide)) rfl TF.1 TF.2.1 TF.2.2 .nil pass0 (pa_cons (pv 3) pa_nil)) pa_nil)))) (nomark _))
       (pss_one (ps_ret pe_bl))
       pss_nil))))
       (pss_cons (ps_for PassesOwn.never rfl (pi_list (pe_lst (pa_cons pe_str (pa_cons pe_str (pa_cons pe_str (pa_cons pe_str pa_nil)))))) (pg_name (i := 4) scTe.nd rfl (.inr rfl))
       (pss_one (ps_if (pt_cmpR (Nm.op_neDK (K := K) rfl hr.units) (pe_meth (pv 0) R.cl mN GN (hr.mono (by decide)) bN .nil (passes_call takes0 (E := fun _ _ _ => False) fun _ _ _ _ h => h.elim) (pa_cons (pv 4) pa_nil)) (pe_callB (Tx.cr_sortTx rfl) (by rfl) m_sorted (by decide +kernel) (pa_cons (pe_callTy (Tx.cr_setTx (K := K) rfl rfl) (by rfl) m_set (by decide +kernel) (pa_cons (pe_lc (own := [("_law_word", 7), ("_law_name", 8)]) (g := gTup K 2 (gCons (gName 7) (gCons (gName 8) gNil)))  (by rfl) scTe.nd (pi_list (pv 1)) (blkOk_by (own := [("_law_word", 7), ("_law_name", 8)]) (N := ["_law_row", "_law_steps", "_law_at", "_law_rest", "_law_kind_here", "_law_odd", "_law_many", "_law_word", "_law_name", "_law_way"]) (sc := defScope sTe) (by decide +kernel)) (fun _ _ _ _ _ => (pg_tup rfl (pgs_cons (pg_name (i := 7) scTe.nd rfl (Or.inl rfl)) (pgs_cons (pg_name (i := 8) scTe.nd rfl (Or.inl rfl)) pgs_nil)))) (fun _ _ _ _ _ => (pts_one (pt_cmpR op_eq (pe_call GK (hr.mono (by decide)) rfl TK.1 TK.2.1 TK.2.2 .nil pass0 (pa_cons (pv 7) pa_nil)) (pv 4) (nomark _)))) (fun _ _ _ _ _ => (pv 8))) pa_nil)) pa_nil)) (nomark _))
       (pss_one (ps_ret pe_bl))
       pss_nil)))
       (pss_cons (ps_for PassesOwn.never rfl (pi_list (pe_lst (pa_cons (pe_un un_neg pe_int) (pa_cons (pe_op op_add (pe_callB (call_len_K0 (K := K) rfl) (by rfl) m_len PySem.boot_len (pa_cons (pv 1) pa_nil)) pe_int) (pa_cons pe_non (pa_cons pe_bl (pa_cons pe_str (pa_cons (pe_tup (pa_cons pe_int pa_nil)) (pa_cons (pe_un un_neg (pe_op op_pow pe_int pe_int)) pa_nil))))))))) (pg_name (i := 5) scTe.nd rfl (.inr rfl))
       (pss_one (ps_if (pt_cmpR (Nm.op_neDK (K := K) rfl hr.units) (pe_lc (own := [("_law_way", 9)]) (g := gName 9)  (by rfl) scTe.nd (pi_range1 rfl m_range (pa_cons pe_int pa_nil)) (blkOk_by (own := [("_law_way", 9)]) (N := ["_law_row", "_law_steps", "_law_at", "_law_rest", "_law_kind_here", "_law_odd", "_law_many", "_law_word", "_law_name", "_law_way"]) (sc := defScope sTe) (by decide +kernel)) (fun _ _ _ _ _ => (pg_name (i := 9) scTe.nd rfl (Or.inl rfl))) (fun _ _ _ _ _ => (pts_one (pt_cmpR (Nm.op_neDK (K := K) rfl hr.units) (pe_callG GA hgd (hr.mono (by decide)) rfl TA.1 TA.2.1 TA.2.2 pass0 (pa_cons (pv 0) (pa_cons (pv 9) (pa_cons (pv 5) pa_nil)))) (pe_lst (pa_cons pe_str (pa_cons (pe_callB (call_reprDK (K := K) rfl hgd hr.units) (by rfl) m_repr (by decide +kernel) (pa_cons (pv 5) pa_nil)) pa_nil))) (nomark _)))) (fun _ _ _ _ _ => (pv 9))) (pe_lst pa_nil) (nomark _))
       (pss_one (ps_ret pe_bl))
       pss_nil)))
       (pss_cons (ps_expr (pe_bm PySem.F.plainAttrs_list PySem.F.slot_list_append PySem.F.type_list_append mt_append (pe_meth0 (pv 0) R.cl mS GS (hr.mono (by decide)) bS .nil pass0) (pa_cons (pe_tup (pa_cons pe_str (pa_cons pe_str pa_nil))) pa_nil)))
       (pss_one (ps_ret (pe_and (pe_cmpR (Nm.op_eqDK (K := K) rfl hr.units) (pe_meth0 (pv 0) R.cl mS GS (hr.mono (by decide)) bS .nil pass0) (pv 1) (nomark _)) (pe_one (pe_cmpR (Nm.op_eqDK (K := K) rfl hr.units) (pe_callG GA hgd (hr.mono (by decide)) rfl TA.1 TA.2.1 TA.2.2 pass0 (pa_cons (pv 0) (pa_cons pe_int (pa_cons (pe_callB (call_len_K0 (K := K) rfl) (by rfl) m_len PySem.boot_len (pa_cons (pv 1) pa_nil)) pa_nil)))) (pe_lst (pa_cons pe_str (pa_cons (pe_callB (call_reprDK (K := K) rfl hgd hr.units) (by rfl) m_repr (by decide +kernel) (pa_cons (pe_callB (call_len_K0 (K := K) rfl) (by rfl) m_len PySem.boot_len (pa_cons (pv 1) pa_nil)) pa_nil)) pa_nil))) (nomark _))))))))))))), ?_⟩
    obtain ⟨dx, fs, k1, k2, k3, k4, k5, _⟩ := row_ins3 hrow
    have good : ∀ s ∈ ss, GoodS s := good_of (of_rowAt hl.row)
    have shL := stepsL_shaped good
    have lenX := hl.row.length
    have rs := row_steps hl.row
    refine seqS_in ?_
    refine ifS_via (fun b H1 => b = false ∧ Same H H1) ?_ ?_
    · intro QQ hQ
      refine ⟨_, rfl, a, dx, fs, rfl, k1, k4, a, ss, rfl, hrow, fun H1 p ys s1 np hp ra => ?_⟩
      refine ⟨_, rfl, .list (ss.map stepD), .list (ss.map stepD), .lst (SqL.of hp) (row_steps ra).dp, .lst (SqL.of (s1 _ _ hl.at_)) (rs.same s1).dp, shL, shL, _, rfl, ?_⟩
      rw [eqv_stepsL, decide_eq_true rfl]
      refine iteF ?_
      refine ⟨_, rfl, a, dx, fs, rfl, s1 _ _ k1, a, ss, rfl, hrow.same s1, _, rfl, by omega, by omega, _, rfl, l, xs, rfl, .inl (SqL.of (s1 _ _ hl.at_)), rfl, _, rfl, ?_⟩
      rw [lenX, decide_eq_true rfl]
      refine iteF ?_
      refine ⟨_, rfl, _, _, _, _, _, rfl, .own _, row_ty R (hrow.same s1), R.kRow, _, rfl, ?_⟩
      exact hQ _ _ ⟨rfl, s1⟩
    rintro b H1 ⟨rfl, s1⟩
    refine iteF ?_
    dsimp only [tNext]
    refine seqS_in ?_
    refine ifS_via (fun b H2 => b = false ∧ Same H H2) ?_ ?_
    · intro QQ hQ
      have hl1 := SqL.of (K := K) (s1 _ _ hl.at_)
      refine ⟨_, rfl, l, xs, rfl, .inl hl1, _, rfl, by omega, by omega, fun D nD => ?_⟩
      rw [lenX, Int.toNat_natCast]
      refine lc_range (lo := 0) (n := ss.length) (fun i H' => Same H1 H' ∧ ∃ ys, H' D = some (.lst ys) ∧ RowAt K d H' ys (ss.take i)) ⟨same_upd nD, [], upd_same, .nil⟩ ?_ ?_
      · rintro i H2 hi ⟨s2, ys, hD, ry⟩
        refine ⟨rfl, ?_⟩
        dsimp only [tYes]
        rw [if_pos rfl]
        have s12 := s1.trans s2
        have yl := ry.length
        rw [List.length_take] at yl
        refine ⟨_, rfl, _, rfl, a, 0, _, ss, true, .none, rfl, .inl rfl, hrow.same s12, by omega, ?_, fun z => (nomatch z), fun _ j ej => ⟨fun _ st u hst hu => ?_, fun z => ?_, fun z => ?_⟩⟩
        · rw [show bound 0 ss = ss.length from if_neg (by decide)]
          exact ixv_int hi
        · obtain rfl := int_at ej
          refine ⟨ys, hD, by rw [yl, sizeLine_eq]; omega, same_updN nD s2, ys ++ [u], upd_same, ?_⟩
          rw [take_snoc hst]
          exact (All2.mono (fun _ _ t => svg_upd hD t) ry).append (.cons (svg_upd hD hu) .nil)
        · cases z
        · cases z
      · rintro H2 ⟨s2, ys, hD, ry⟩
        rw [List.take_length] at ry
        have s12 := s1.trans s2
        refine ⟨_, rfl, .list (ss.map stepD), .list (ss.map stepD), .lst (SqL.of hD) (row_steps ry).dp, .lst (SqL.of (s12 _ _ hl.at_)) (rs.same s12).dp, shL, shL, _, rfl, ?_⟩
        rw [eqv_stepsL, decide_eq_true rfl]
        exact hQ _ _ ⟨rfl, s12⟩
    rintro b H2 ⟨rfl, s2⟩
    refine iteF ?_
    dsimp only [tNext]
    clear s1
    have hh := helds_all hw
    have hok : ∀ ns ∈ helds ss [] ++ [[], []], ∀ n ∈ ns, sOk n := by
      intro ns hns n hn
      rw [hh] at hns
      obtain ⟨i, _, rfl⟩ := List.mem_map.mp hns
      exact after_ok _ [] (fun n (hn : n ∈ ([] : List Str)) => nomatch hn) (fun z hz => (good z (List.mem_of_mem_take hz)).ok2) n hn
    have lenH : (helds ss [] ++ [[], []]).length = ss.length + 2 := by rw [List.length_append, helds_len]; rfl
    refine seqS_in ?_
    refine ifS_via (fun b H3 => b = false ∧ Same H H3) ?_ ?_
    · intro QQ hQ
      have hl2 := SqL.of (K := K) (s2 _ _ hl.at_)
      refine ⟨_, rfl, l, xs, rfl, .inl hl2, _, (2 : Int), rfl, rfl, _, rfl, by rw [lenX]; omega, by rw [lenX]; omega, fun D nD => ?_⟩
      have en : ((xs.length : Nat) : Int) + 2 = ((ss.length + 2 : Nat) : Int) := by rw [lenX]; omega
      rw [en, Int.toNat_natCast]
      refine lc_range (lo := 0) (n := ss.length + 2) (fun i H' => Same H2 H' ∧ ∃ ys, H' D = some (.lst ys) ∧ All2 (TxtT K H') ys ((helds ss [] ++ [[], []]).take i)) ⟨same_upd nD, [], upd_same, .nil⟩ ?_ ?_
      · rintro i H3 hi ⟨s3, ys, hD, ry⟩
        refine ⟨rfl, ?_⟩
        dsimp only [tYes]
        rw [if_pos rfl]
        have s23 := s2.trans s3
        have yl := ry.length
        rw [List.length_take] at yl
        refine ⟨_, rfl, _, rfl, a, 1, _, ss, true, .none, rfl, .inr (.inl rfl), hrow.same s23, by omega, ?_, fun z => (nomatch z), fun _ j ej => ⟨fun z => ?_, fun _ ns u hst hu => ?_, fun z => ?_⟩⟩
        · rw [show bound 1 ss = ss.length + 2 from if_pos rfl]
          exact ixv_int hi
        · cases z
        · obtain rfl := int_at ej
          refine ⟨ys, hD, by rw [yl, sizeLine_eq]; omega, same_updN nD s3, ys ++ [u], upd_same, ?_⟩
          rw [take_snoc hst]
          exact (All2.mono (fun _ _ t => txt_upd hD t) ry).append (.cons (txt_upd hD hu) .nil)
        · cases z
      · rintro H3 ⟨s3, ys, hD, ry⟩
        rw [List.take_of_length_le (by rw [lenH]; exact Nat.le_refl _)] at ry
        have s23 := s2.trans s3
        refine ⟨_, rfl, l, xs, ss, rfl, SqL.of (s23 _ _ hl.at_), rs.same s23, by omega, fun H4 p zs s4 np hp az => ?_⟩
        rw [← hh] at az
        obtain ⟨c1, c2⟩ := txts_shaped hok
        refine ⟨_, _, .lst (SqL.of (s4 _ _ hD)) (txts_dp (ry.mono fun _ _ t => t.same s4)), .lst (SqL.of hp) (txts_dp az), c2, c2, _, rfl, ?_⟩
        rw [SeqAt.eqv_refl _ c1]
        exact hQ _ _ ⟨rfl, s23.trans s4⟩
    rintro b H3 ⟨rfl, s3⟩
    refine iteF ?_
    dsimp only [tNext]
    clear s2
    refine seqS_in ?_
    have hl3 := SqL.of (K := K) (s3 _ _ hl.at_)
    refine ⟨_, rfl, l, xs, rfl, .inl hl3, _, rfl, by omega, by omega, ?_⟩
    rw [lenX, Int.toNat_natCast]
    refine for_range (lo := 0) (n := ss.length) (fun i σ H' => ∃ v2 v3 : Option V, σ = [some (.ref a), some (.ref l), v2, v3, none, none, none, none, none, none] ∧ Same H H') ⟨none, none, rfl, s3⟩ ?_ ?_
    · rintro i σ H4 hi ⟨v2, v3, rfl, s4⟩
      refine name_in ?_
      refine seqS_in ?_
      have hl4 := SqL.of (K := K) (s4 _ _ hl.at_)
      refine ⟨_, rfl, ?_⟩
      dsimp only [tNoPart]
      refine ⟨_, rfl, _, rfl, l, xs, rfl, hl4, fun z1 nz1 => ?_⟩
      have t1 := same_upd (o := HO.lst (cutV xs none (some (0 + (i : Int))))) nz1
      have e1 : (upd H4 z1 (.lst (cutV xs none (some (0 + (i : Int)))))) z1 = some (.lst (xs.take i)) := by
        rw [upd_same, Int.zero_add, cut_head xs i (by omega)]
      generalize upd H4 z1 (.lst (cutV xs none (some (0 + (i : Int))))) = H5 at t1 e1
      refine ⟨_, rfl, _, rfl, _, (1 : Int), rfl, rfl, _, rfl, ?_⟩
      dsimp only [tNoPart]
      refine ⟨l, xs, rfl, t1.seq hl4, fun z2 nz2 => ?_⟩
      have t2 := same_upd (o := HO.lst (cutV xs (some (0 + (i : Int) + 1)) none)) nz2
      have e2 : (upd H5 z2 (.lst (cutV xs (some (0 + (i : Int) + 1)) none))) z2 = some (.lst (xs.drop (i + 1))) := by
        rw [upd_same, Int.zero_add, cut_tail xs i (by omega)]
      generalize upd H5 z2 (.lst (cutV xs (some (0 + (i : Int) + 1)) none)) = H6 at t2 e2
      refine ⟨z1, z2, _, _, rfl, rfl, t2 _ _ e1, e2, by rw [List.length_take, List.length_drop, sizeLine_eq]; omega, fun z3 nz3 => ?_⟩
      have t3 := same_upd (o := HO.lst (xs.take i ++ xs.drop (i + 1))) nz3
      have e3 : (upd H6 z3 (.lst (xs.take i ++ xs.drop (i + 1)))) z3 = some (.lst (xs.take i ++ xs.drop (i + 1))) := upd_same
      generalize upd H6 z3 (.lst (xs.take i ++ xs.drop (i + 1))) = H7 at t3 e3
      have s7 := ((s4.trans t1).trans t2).trans t3
      have rowW : RowAt K d H7 (xs.take i ++ xs.drop (i + 1)) (without ss i) := ((hl.row.same s7).take i).append ((hl.row.same s7).drop (i + 1))
      refine name_in ?_
      try dsimp only
      refine ifS_via (fun b H8 => b = false ∧ Same H H8) ?_ ?_
      · intro QQ hQ
        have gw : ∀ s ∈ without ss i, GoodS s := good_of (of_rowAt rowW)
        have lw : (without ss i).length ≤ 8 := by
          unfold without
          rw [List.length_append, List.length_take, List.length_drop]
          omega
        refine ⟨_, rfl, _, rfl, a, 2, _, ss, true, .none, rfl, .inr (.inr rfl), hrow.same s7, by omega, ?_, fun z => (nomatch z), fun _ j ej => ⟨fun z => ?_, fun z => ?_, fun _ H8 u s8 o8 => ?_⟩⟩
        · rw [show bound 2 ss = ss.length from if_neg (by decide)]
          exact ixv_int hi
        · cases z
        · cases z
        obtain rfl := int_at ej
        have rw8 := row_steps (rowW.same s8)
        refine ⟨_, rfl, z3, _, without ss j, rfl, SqL.of (s8 _ _ e3), rw8, gw, by omega, fun H9 s9 => ⟨rfl, _, rfl, ?_⟩⟩
        have fa := fault_all (without ss j) lw
        have lay := outD9_lay (rs := (without ss j).map some) fun s hs => by
          obtain ⟨t, ht, e⟩ := List.mem_map.mp hs
          cases e
          exact gw s ht
        have o9 := (o8.same s9).dp
        have e1 : ((without ss j).map some).filterMap id = without ss j := by
          rw [List.filterMap_map]
          exact List.filterMap_some
        cases hx : (wrongs (without ss j) [] []).findIdx? id with
        | none =>
          have fa2 : fault ((without ss j).map some) = none := by
            rw [fa]
            unfold faultS
            rw [hx]
          have eo : outD9 ((without ss j).map some) = (without ss j).map stepD := by
            unfold outD9
            rw [fa2]
            dsimp only
            rw [e1]
          rw [eo] at o9 lay
          rw [show decide (optV none = V.non) = true from decide_eq_true rfl]
          refine iteT ⟨_, rfl, _, _, o9, .lst (SqL.of (s9 _ _ (s8 _ _ e3))) (rw8.same s9).dp, lay.2, lay.2, _, rfl, ?_⟩
          rw [SeqAt.eqv_refl _ lay.1]
          exact hQ _ _ ⟨rfl, (s7.trans s8).trans s9⟩
        | some k =>
          have fa2 : fault ((without ss j).map some) = some (.int (k : Nat)) := by
            rw [fa]
            unfold faultS
            rw [hx]
          have eo : outD9 ((without ss j).map some) = [.str "step", .int (k : Nat)] := by
            unfold outD9
            rw [fa2]
            rfl
          rw [show decide (optV (some k) = V.non) = false from decide_eq_false fun z => by cases z]
          refine iteF ⟨_, rfl, z3, _, without ss j, rfl, SqL.of (s9 _ _ (s8 _ _ e3)), rw8.same s9, gw, by omega, fun H10 s10 => ⟨by show 2 ≤ sizeLine; decide, fun p np => ?_⟩⟩
          have s11 := same_upd (o := HO.lst [V.str "step", optV ((wrongs (without ss j) [] []).findIdx? id)]) np
          have o11 := ((o8.same ((s9.trans s10).trans s11))).dp
          rw [eo] at o11 lay
          refine ⟨_, _, o11, .lst (SqL.of upd_same) ?_, lay.2, lay.2, _, rfl, ?_⟩
          · rw [hx]
            exact .cons (.str _) (.cons (.int _) .nil)
          rw [SeqAt.eqv_refl _ lay.1]
          exact hQ _ _ ⟨rfl, ((s7.trans s8).trans s9).trans (s10.trans s11)⟩
      · rintro b H8 ⟨rfl, s8⟩
        refine iteF ?_
        dsimp only [tNext]
        exact ⟨_, _, rfl, s8⟩
    rintro σ H4 ⟨v2, v3, rfl, s4⟩
    clear s3 hl3
    refine seqS_in ?_
    refine ⟨by show 4 ≤ sizeLine; decide, fun kl nk => ?_⟩
    have s5 := same_upd (o := HO.lst [V.str "works", V.str "gates", V.str "flags", V.str "locks"]) nk
    have ek : (upd H4 kl (.lst [V.str "works", V.str "gates", V.str "flags", V.str "locks"])) kl = some (.lst (kinds4.map V.str)) := upd_same
    generalize upd H4 kl (.lst [V.str "works", V.str "gates", V.str "flags", V.str "locks"]) = H5 at s5 ek
    refine ⟨kl, rfl, ⟨_, SqL.of ek⟩, ?_⟩
    refine for_list (K := K) (a := kl) (xs := kinds4.map V.str) (fun j σ H' => ∃ v2 v3 v4 : Option V, σ = [some (.ref a), some (.ref l), v2, v3, v4, none, none, none, none, none] ∧ Same H5 H') ⟨_, _, none, rfl, Same.refl _⟩ (fun j σ H' _ ⟨_, _, _, _, t⟩ => t.seq (SqL.of ek)) ?_ ?_
    · rintro j x σ H6 hx ⟨v2, v3, v4, rfl, s6⟩
      rw [List.getElem?_map] at hx
      obtain ⟨z, hz4, rfl⟩ := Option.map_eq_some_iff.mp hx
      have mz := List.mem_of_getElem? hz4
      have t6 := (s4.trans s5).trans s6
      refine name_in ?_
      try dsimp only
      refine ifS_via (fun b H8 => b = false ∧ Same H5 H8) ?_ ?_
      · intro QQ hQ
        refine ⟨_, rfl, a, dx, fs, rfl, t6 _ _ k1, k5, _, rfl, a, .str z, ss, some z, rfl, hrow.same t6, by omega, fun s hs => (hl.ok s hs).w, .inl ⟨z, rfl, (if_pos mz).symm⟩, fun z' ez H7 p ys s7 np hp pm so => ?_, fun z => nomatch z⟩
        cases ez
        have t7 := t6.trans s7
        have hl7 := SqL.of (K := K) (t7 _ _ hl.at_)
        refine ⟨_, rfl, l, rfl, ⟨_, hl7⟩, fun D nD => lc_list (K := K) (a := l) (xs := xs) (fun i H' => Same H7 H' ∧ H' D = some (.lst ((((ss.take i).filter fun s => decide (kindOf s.1 = z)).map (·.2)).map V.str))) ⟨same_upd nD, upd_same⟩ (fun i H' _ h => h.1.seq hl7) ?_ ?_⟩
        · rintro i x H8 hxi ⟨s8, hD⟩
          obtain ⟨st, hst, p, rfl, sa⟩ := rs.get hxi
          have hi : i < ss.length := (List.getElem?_eq_some_iff.mp hst).1
          have nxt : ((ss.take (i + 1)).filter fun s => decide (kindOf s.1 = z)) = ((ss.take i).filter fun s => decide (kindOf s.1 = z)) ++ (if kindOf st.1 = z then [st] else []) := by
            rw [take_snoc hst, List.filter_append]
            congr 1
            by_cases h : kindOf st.1 = z
            · rw [if_pos h, List.filter_cons, if_pos (decide_eq_true h)]; rfl
            · rw [if_neg h, List.filter_cons, if_neg (by simp [h])]; rfl
          refine ⟨p, _, rfl, (t7.trans s8).tupS sa, rfl, _, _, rfl, _, _, rfl, rfl, rfl, ?_⟩
          refine ⟨_, rfl, st.1, rfl, fun H9 s9 => ⟨_, rfl, rfl, _, rfl, ?_⟩⟩
          rw [dec_str]
          by_cases h : kindOf st.1 = z
          · rw [decide_eq_true h]
            rw [if_pos h] at nxt
            refine iteT ⟨_, rfl, _, s9 _ _ hD, ?_, same_updN nD (s8.trans s9), ?_⟩
            · rw [List.length_map, List.length_map, sizeLine_eq]
              have := List.length_filter_le (fun s : Step => decide (kindOf s.1 = z)) (ss.take i)
              rw [List.length_take] at this
              omega
            · rw [upd_same, nxt, List.map_append, List.map_append]
              rfl
          · rw [decide_eq_false h]
            rw [if_neg h, List.append_nil] at nxt
            exact iteF ⟨s8.trans s9, by rw [nxt]; exact s9 _ _ hD⟩
        · rintro H8 ⟨s8, hD⟩
          rw [lenX, List.take_length] at hD
          have few : ((ss.filter fun s => decide (kindOf s.1 = z)).map (·.2)).length ≤ 8 := by
            rw [List.length_map]
            exact Nat.le_trans (List.length_filter_le _ _) hz
          refine ⟨D, _, rfl, SqL.of hD, by omega, fun sa nsa => ?_⟩
          have s9 := same_upd (o := Tx.SetTO P w sa (Tx.insAll ((ss.filter fun s => decide (kindOf s.1 = z)).map (·.2)))) nsa
          have il := Tx.insAll_len ((ss.filter fun s => decide (kindOf s.1 = z)).map (·.2))
          refine ⟨sa, _, rfl, upd_same, by omega, fun zs p2 pz sz np2 => ?_⟩
          rw [namesIn_all] at pz
          have ezy : ys = zs := sorted_one so sz (pm.trans pz.symm)
          subst ezy
          have yok : ∀ n ∈ ys, sOk n := fun n hn => by
            have m1 := pm.mem_iff.mp hn
            rw [← namesIn_all] at m1
            obtain ⟨s, hs, rfl⟩ := List.mem_map.mp (Tx.insAll_mem m1)
            exact (good s (List.mem_filter.mp hs).1).ok2
          have shY := listD_shaped yok
          have s10 := same_upd (o := HO.lst (ys.map V.str)) np2
          refine ⟨_, _, .lst (SqL.of (s10 _ _ ((s8.trans s9) _ _ hp))) (dp_txts _), .lst (SqL.of upd_same) (dp_txts _), shY, shY, _, rfl, ?_⟩
          rw [eqv_list_txt, decide_eq_true rfl]
          exact hQ _ _ ⟨rfl, (s6.trans s7).trans ((s8.trans s9).trans s10)⟩
      · rintro b H8 ⟨rfl, s8⟩
        refine iteF ?_
        dsimp only [tNext]
        exact ⟨_, _, _, rfl, s8⟩
    rintro σ H6 ⟨v2, v3, v4, rfl, s6⟩
    have t6 := (s4.trans s5).trans s6
    clear s4 s5 s6 ek nk
    refine seqS_in ?_
    refine ⟨_, rfl, ?_⟩
    refine ⟨_, rfl, l, xs, rfl, .inl (SqL.of (t6 _ _ hl.at_)), _, (2 : Int), rfl, rfl, ?_⟩
    refine ⟨by show 1 ≤ sizeLine; decide, fun tp ntp => ?_⟩
    have s7 := same_upd (o := HO.tup [V.int 0]) ntp
    have et : (upd H6 tp (.tup [V.int 0])) tp = some (.tup [V.int 0]) := upd_same
    generalize upd H6 tp (.tup [V.int 0]) = H7 at s7 et
    refine ⟨(10 : Int), (30 : Int), rfl, rfl, ⟨by decide, by decide, by decide⟩, _, rfl, ?_⟩
    refine ⟨by show 7 ≤ sizeLine; decide, fun ol nol => ?_⟩
    rw [lenX]
    have s8 := same_upd (o := HO.lst [V.int (-1), V.int ((ss.length : Nat) + 2), V.non, V.bl true, V.str "0", V.ref tp, V.int (-(10 ^ (30 : Int).toNat))]) nol
    have eo : (upd H7 ol (.lst [V.int (-1), V.int ((ss.length : Nat) + 2), V.non, V.bl true, V.str "0", V.ref tp, V.int (-(10 ^ (30 : Int).toNat))])) ol = some (.lst [V.int (-1), V.int ((ss.length : Nat) + 2), V.non, V.bl true, V.str "0", V.ref tp, V.int (-(10 ^ (30 : Int).toNat))]) := upd_same
    generalize upd H7 ol (.lst [V.int (-1), V.int ((ss.length : Nat) + 2), V.non, V.bl true, V.str "0", V.ref tp, V.int (-(10 ^ (30 : Int).toNat))]) = H8 at s8 eo
    refine ⟨ol, rfl, ⟨_, SqL.of eo⟩, ?_⟩
    have t8 := (t6.trans s7).trans s8
    have et8 := s8 _ _ et
    have odd : ∀ v ∈ [V.int (-1), V.int ((ss.length : Nat) + 2), V.non, V.bl true, V.str "0", V.ref tp, V.int (-(10 ^ (30 : Int).toNat))], ∃ dv, OddR K H8 ss.length v dv := by
      intro v hv
      simp only [List.mem_cons, List.not_mem_nil, or_false] at hv
      rcases hv with rfl | rfl | rfl | rfl | rfl | rfl | rfl
      · exact ⟨_, oddR_int (.inl (by decide)) (by decide +kernel) (by decide +kernel) (by decide +kernel)⟩
      · obtain ⟨a1, a2, a3⟩ := few_shown ss.length hz
        exact ⟨_, oddR_int (.inr (Int.le_refl _)) a1 (by rw [sizeLine_eq]; omega) a3⟩
      · exact ⟨.none, oddR_ty (T := "NoneType") (.base .non) (by decide) ⟨.non, .inl (by simp only [PyData.hasDict]), by decide +kernel, by decide +kernel, by decide +kernel⟩ (by decide +kernel)⟩
      · exact ⟨.bool true, ⟨⟨.bl true, .inl (by simp only [PyData.hasDict]), by decide +kernel, by decide +kernel, by decide +kernel⟩, by decide +kernel, .bl true, .bl true⟩⟩
      · exact ⟨.str "0", oddR_ty (T := "str") (.base (.str _)) (by decide) ⟨.str _, .inl (by simp only [PyData.hasDict]), by decide +kernel, by decide +kernel, by decide +kernel⟩ (by decide +kernel)⟩
      · exact ⟨.tuple [.int 0], oddR_ty (T := "tuple") (tyx_tup (SqT.of et8)) (by decide) ⟨.tup (SqT.of et8) (.cons (.int 0) .nil), .inl (by decide +kernel), by decide +kernel, by decide +kernel, by decide +kernel⟩ (by decide +kernel)⟩
      · exact ⟨_, oddR_int (.inl (by decide)) (by decide +kernel) (by decide +kernel) (by decide +kernel)⟩
    refine for_list (K := K) (a := ol) (xs := [V.int (-1), V.int ((ss.length : Nat) + 2), V.non, V.bl true, V.str "0", V.ref tp, V.int (-(10 ^ (30 : Int).toNat))]) (fun j σ H' => ∃ v2 v3 v4 v5 : Option V, σ = [some (.ref a), some (.ref l), v2, v3, v4, v5, none, none, none, none] ∧ Same H8 H') ⟨_, _, _, none, rfl, Same.refl _⟩ (fun j σ H' _ ⟨_, _, _, _, _, t⟩ => t.seq (SqL.of eo)) ?_ ?_
    · rintro j v σ H9 hv ⟨v2, v3, v4, v5, rfl, s9⟩
      obtain ⟨dv, od⟩ := odd v (List.mem_of_getElem? hv)
      clear odd eo hv
      refine name_in ?_
      try dsimp only
      refine ifS_via (fun b H10 => b = false ∧ Same H8 H10) ?_ ?_
      · intro QQ hQ
        refine ⟨3, rfl, by decide, by decide, fun D nD => lc_range (lo := 0) (n := 3) (fun i H' => Same H9 H' ∧ H' D = some (.lst [])) ⟨same_upd nD, upd_same⟩ ?_ ?_⟩
        · rintro i H10 hi ⟨s10, hD⟩
          have od10 := od.same (s9.trans s10)
          have rw10 := hrow.same ((t8.trans s9).trans s10)
          refine ⟨rfl, ?_⟩
          have wayi : (0 + (i : Int) = 0 ∨ 0 + (i : Int) = 1 ∨ 0 + (i : Int) = 2) := by omega
          have ixb : IxV K H10 (bound (0 + (i : Int)) ss : Nat) v false := by
            unfold bound
            by_cases h : 0 + (i : Int) = 1
            · rw [if_pos h]; exact od10.no2
            · rw [if_neg h]; exact od10.no
          refine ⟨_, rfl, _, rfl, _, rfl, a, 0 + (i : Int), v, ss, false, dv, rfl, wayi, rw10, by omega, ixb, fun _ => ⟨od10.sh, fun H11 p s11 np hp => ?_⟩, fun z => nomatch z⟩
          have od11 := od10.same s11
          refine ⟨_, rfl, v, dv, rfl, od11.sh.1, od11.sh.2.1, od11.sh.2.2.1, od11.sh.2.2.2.1, od11.sh.2.2.2.2, by show 2 ≤ sizeLine; decide, fun q1 nq1 => ?_⟩
          have sq := same_upd (o := HO.lst [V.str "none", V.str dv.shown]) nq1
          have lay2 := none_txt od.ok
          refine ⟨_, _, .lst (SqL.of (sq _ _ hp)) (.cons (.str _) (.cons (.str _) .nil)), .lst (SqL.of upd_same) (.cons (.str _) (.cons (.str _) .nil)), lay2.2, lay2.2, _, rfl, ?_⟩
          rw [SeqAt.eqv_refl _ lay2.1]
          exact iteF ⟨(s10.trans s11).trans sq, sq _ _ (s11 _ _ hD)⟩
        · rintro H10 ⟨s10, hD⟩
          refine ⟨Nat.zero_le _, fun z nz => ?_⟩
          have sz := same_upd (o := HO.lst []) nz
          refine ⟨.list [], .list [], .lst (SqL.of (sz _ _ hD)) .nil, .lst (SqL.of upd_same) .nil, by decide +kernel, by decide +kernel, _, rfl, ?_⟩
          rw [show PyData.eqv (.list []) (.list []) = true from rfl]
          exact hQ _ _ ⟨rfl, (s9.trans s10).trans sz⟩
      · rintro b H10 ⟨rfl, s10⟩
        refine iteF ?_
        dsimp only [tNext]
        exact ⟨_, _, _, _, rfl, s10⟩
    rintro σ H9 ⟨v2, v3, v4, v5, rfl, s9⟩
    have t9 := t8.trans s9
    clear t6 s7 s8 t8 s9 et et8 eo odd ntp nol
    have hrow9 := hrow.same t9
    refine seqS_in ?_
    refine ⟨_, rfl, a, dx, fs, rfl, t9 _ _ k1, k4, a, ss, rfl, hrow9, fun H10 p ys s10 np hp ra => ?_⟩
    have yl := ra.length
    refine ⟨.inl ⟨rfl, _, SqL.of hp⟩, by show 2 ≤ sizeLine; decide, fun y ny => ?_⟩
    have s11 := same_upd (o := HO.tup [V.str "bar", V.str "zz"]) ny
    refine ⟨p, _, _, rfl, rfl, s11 _ _ hp, by rw [yl, sizeLine_eq]; omega, ?_⟩
    have t12 : Same H (upd (upd H10 y (.tup [V.str "bar", V.str "zz"])) p (.lst (ys ++ [.ref y]))) := same_updN (t9.free np) ((t9.trans s10).trans s11)
    generalize upd (upd H10 y (.tup [V.str "bar", V.str "zz"])) p (.lst (ys ++ [.ref y])) = H12 at t12
    clear t9 hrow9 s10 s11 np hp ra yl ny
    refine ⟨_, rfl, a, dx, fs, rfl, t12 _ _ k1, k4, a, ss, rfl, hrow.same t12, fun H13 p2 ys2 s13 np2 hp2 ra2 => ?_⟩
    have t13 := t12.trans s13
    refine ⟨_, rfl, .list (ss.map stepD), .list (ss.map stepD), .lst (SqL.of hp2) (row_steps ra2).dp, .lst (SqL.of (t13 _ _ hl.at_)) (rs.same t13).dp, shL, shL, _, rfl, ?_⟩
    rw [eqv_stepsL, decide_eq_true rfl]
    refine iteT ?_
    obtain ⟨b1, b2, b3⟩ := few_shown0 ss.length hz
    have shows : ∀ Hx : Hp, Shows K Hx (.int (ss.length : Nat)) (.int (ss.length : Nat)) := fun Hx => ⟨.int _, .inl (by simp only [PyData.hasDict]), b1, by simp only [PyData.depth]; omega, by rw [sizeLine_eq]; omega⟩
    have ixn : IxV K H13 (bound 0 ss : Nat) (.int (ss.length : Nat)) false := by
      have y := IxV.int (K := K) (H := H13) (m := (ss.length : Nat)) (ss.length : Nat)
      rw [decide_eq_false (Int.lt_irrefl _), Bool.and_false] at y
      rw [show bound 0 ss = ss.length from if_neg (by decide)]
      exact y
    refine ⟨_, rfl, _, rfl, l, xs, rfl, .inl (SqL.of (t13 _ _ hl.at_)), ?_⟩
    rw [lenX]
    refine ⟨a, 0, _, ss, false, .int (ss.length : Nat), rfl, .inl rfl, hrow.same t13, by omega, ixn, fun _ => ⟨shows _, fun H14 p3 s14 np3 hp3 => ?_⟩, fun z => nomatch z⟩
    have t14 := t13.trans s14
    refine ⟨_, rfl, l, xs, rfl, .inl (SqL.of (t14 _ _ hl.at_)), ?_⟩
    rw [lenX]
    have sh14 := shows H14
    refine ⟨_, _, rfl, sh14.1, sh14.2.1, sh14.2.2.1, sh14.2.2.2.1, sh14.2.2.2.2, by show 2 ≤ sizeLine; decide, fun q1 nq1 => ?_⟩
    have sq := same_upd (o := HO.lst [V.str "none", V.str (PyData.int (ss.length : Nat)).shown]) nq1
    have lay2 := none_txt b3
    refine ⟨_, _, .lst (SqL.of (sq _ _ hp3)) (.cons (.str _) (.cons (.str _) .nil)), .lst (SqL.of upd_same) (.cons (.str _) (.cons (.str _) .nil)), lay2.2, lay2.2, ?_⟩
    rw [SeqAt.eqv_refl _ lay2.1]
    exact q _ (t14.trans sq)
end
end Rw

/-! X19 -/
/-! ### own + within a try -/
namespace L2
open PySem PySem.Spec PyProof.Rows
def tOpS (r : XK → R2) (E : St → XK) (ta tb : TE) : TE := fun σ H Q => ta σ H fun x H1 => tb σ H1 fun y H2 => r (E σ) x y H2 Q
section
variable {X : Cx} {CX : CXT} {k : Nat} {f g C : Addr} {fd : FuncData} {ps : List Str} {sp : Sp} {E : St → XK} {a b : Expr} {ta tb : TE} {pos : Pos}
theorem pe_addTS {K : PySem.W.Frag} (hK : X.K = K) (A : AddC K C f g) (F : FnOk X.prog X.w X.K X.mg X.base CX k f fd ps sp) (hr : Room k X.A) (hb : Binds X.K fd ps []) (hx : ∀ σ, PassesAt CX X σ (E σ)) (ha : PE X a ta) (hb' : PE X b tb) : PE X (.BinOp a .Add b pos) (tOpS (rAddT K C sp) E ta tb) := by
  subst hK
  refine ⟨fun pins s σ H Q I h => ?_⟩
  refine wpAny_BinOp (binT (R := fun x y H2 => rAddT X.K C sp (E σ) x y H2 Q) ha hb' I h fun v u s2 x y H2 I2 rx ry q => ?_)
  obtain ⟨a, dx, fs, T, rfl, ha, ty, ⟨⟨fo, ro, h1, h2⟩, hsub⟩, q⟩ := q
  cases (show v = Value.ref a from rx)
  obtain ⟨P, Z, pz, hne⟩ := kit_of I2 ry ty
  obtain ⟨mA, O, _⟩ := ins_get I2.hok ha
  obtain ⟨od, J, _⟩ := O.look
  refine PySem.LwX.add_own I2.kIn J (fun M => Z.ty M _ I2.kIn pz) A.hc A.hs A.hf A.hr (.inr ⟨_, rfl⟩) h1 h2 hsub ?_
  exact thn (run_fnS (us := [.ref a, u]) (vs := [.ref a, y]) F hr hb (hx σ) I2 (.cons rfl (.cons ry .nil)) q) fun _ _ z => back_ref z
theorem pe_raddTS {K : PySem.W.Frag} (hK : X.K = K) (A : AddC K C f g) (F : FnOk X.prog X.w X.K X.mg X.base CX k g fd ps sp) (hr : Room k X.A) (hb : Binds X.K fd ps []) (hx : ∀ σ, PassesAt CX X σ (E σ)) (ha : PE X a ta) (hb' : PE X b tb) : PE X (.BinOp a .Add b pos) (tOpS (rRaddT K C sp) E ta tb) := by
  subst hK
  refine ⟨fun pins s σ H Q I h => ?_⟩
  refine wpAny_BinOp (binT (R := fun x y H2 => rRaddT X.K C sp (E σ) x y H2 Q) ha hb' I h fun v u s2 x y H2 I2 rx ry q => ?_)
  obtain ⟨a, dx, fs, T, rfl, ha, ty, ⟨fo, ro, h1, h2, h3⟩, q⟩ := q
  cases (show u = Value.ref a from ry)
  obtain ⟨P, Z, pz, hne⟩ := kit_of I2 rx ty
  obtain ⟨mA, O, _⟩ := ins_get I2.hok ha
  obtain ⟨od, J, _⟩ := O.look
  refine PySem.LwX.radd_own I2.kIn J (fun M => Z.ty M _ I2.kIn pz) A.hc A.hs A.hr A.hg h1 h2 h3 ?_
  exact thn (run_fnS (us := [.ref a, v]) (vs := [.ref a, x]) F hr hb (hx σ) I2 (.cons rfl (.cons rx .nil)) q) fun _ _ z => back_ref z
theorem call_tuple_K {K : PySem.W.Frag} (hK : X.K = K) : CallR X (.type "tuple") (fun xs H Q => ∃ p ys, xs = [.ref p] ∧ (SqL K H p ys ∧ (∀ l, H l = none → Q (.ref l) (upd H l (.tup ys))) ∨ SqT K H p ys ∧ Q (.ref p) H)) := by
  subst hK
  exact call_tuple_of
end
end L2
/-! ### append within a try -/
namespace L2
open PySem PySem.Spec PyProof.Rows
def rTry (t : TS) : TS := t
theorem ps_named {X : Cx} {st : Stmt} {t : TS} (h : PS X st t) : PS X st (rTry t) := h
theorem rTry_in {t : TS} {D : Ends} {σ : St} {H : Hp} (h : t D σ H) : rTry t D σ H := h
theorem pe_appendK {X : Cx} {K : PySem.W.Frag} (hK : X.K = K) {o e : Expr} {apos cpos : Pos} {to : TE} {t : TA} (ho : PE X o to) (ha : PA X [e] t) (hbase : attributeBase o "append" X.env (eval o X.env) = eval o X.env := by rfl)
    (hfew : ((backTo cpos (starEach [e] X.env)).all (fun x => !x.1) && (backToKw cpos (keywordEach [] X.env)).all (fun x => x.1.isSome) && decide ([e].length + ([] : List Keyword).length + (if ([] : List Keyword).isEmpty then 0 else 1) < 30)) = true := by rfl)
    (hline : (apos.endLine == cpos.line) = true := by rfl) (hs : starEach [e] X.env = (false, eval e X.env) :: starEach [] X.env := by rfl) (hplain : (backTo cpos (starEach [] X.env)).any (·.1) = false := by rfl) :
    PE X (.Call (.Attribute o "append" apos) [e] [] cpos) (tBM K "list" rAppend to t) := by
  subst hK
  exact pe_bm PySem.F.plainAttrs_list PySem.F.slot_list_append PySem.F.type_list_append mt_append ho ha hbase hfew hline hs hplain
section
variable {X : Cx} {CX : CXT} {k : Nat} {f g C : Addr} {fd : FuncData} {ps : List Str} {sp : Sp} {E : St → XK} {a b : Expr} {ta tb : TE} {pos : Pos}
/-- own + of two of one class, within a try -/
theorem pe_addSS {K : PySem.W.Frag} (hK : X.K = K) (A : AddC K C f g) (F : FnOk X.prog X.w X.K X.mg X.base CX k f fd ps sp) (hr : Room k X.A) (hb : Binds X.K fd ps []) (hx : ∀ σ, PassesAt CX X σ (E σ)) (ha : PE X a ta) (hb' : PE X b tb) : PE X (.BinOp a .Add b pos) (tOpS (rAddS C sp) E ta tb) := by
  subst hK
  refine ⟨fun pins s σ H Q I h => ?_⟩
  refine wpAny_BinOp (binT (R := fun x y H2 => rAddS C sp (E σ) x y H2 Q) ha hb' I h fun v u s2 x y H2 I2 rx ry q => ?_)
  obtain ⟨m, n, dm, dn, fs, gs, rfl, rfl, hm, hn, q⟩ := q
  cases (show v = Value.ref m from rx)
  cases (show u = Value.ref n from ry)
  obtain ⟨mA, O, _⟩ := ins_get I2.hok hm
  obtain ⟨od, J, _⟩ := O.look
  obtain ⟨mB, O2, _⟩ := ins_get I2.hok hn
  obtain ⟨od2, J2, _⟩ := O2.look
  refine PySem.LwX.add_same I2.kIn J J2 A.hc A.hs A.hf ?_
  exact thn (run_fnS (us := [.ref m, .ref n]) (vs := [.ref m, .ref n]) F hr hb (hx σ) I2 (.cons rfl (.cons rfl .nil)) q) fun _ _ z => back_ref z
end
end L2
/-! ### what is added -/
namespace Rw
open PySem PySem.Spec PyProof.Rows L2
/-- what comes of it, three times -/
inductive Itm (K : PySem.W.Frag) (fl : Addr) (H : Hp) (ss : List Step) : V → Prop
  | row {p : Addr} {ys : List V} : fault (ss.map some) = none → p ≠ fl → H p = some (.lst ys) → StepsAt K H ys ss → Itm K fl H ss (.ref p)
  | out {v : V} : fault (ss.map some) = some v → Itm K fl H ss v
theorem Itm.same {K : PySem.W.Frag} {fl : Addr} {H H' : Hp} {ss : List Step} (s : Same H H') {v : V} (h : Itm K fl H ss v) : Itm K fl H' ss v := by
  cases h with
  | row a b c e => exact .row a b (s _ _ c) (e.same s)
  | out a => exact .out a
theorem Itm.upd {K : PySem.W.Frag} {fl : Addr} {H : Hp} {as : List V} {o : HO} (e0 : H fl = some (.lst as)) {ss : List Step} {v : V} (h : Itm K fl H ss v) : Itm K fl (L2.upd H fl o) ss v := by
  cases h with
  | row a b c e => exact .row a b (by rw [upd_ne b]; exact c) (e.mono fun _ _ ⟨p, q, r⟩ => ⟨p, q, sqT_upd e0 r⟩)
  | out a => exact .out a
def itmD (ss : List Step) : PyData := match fault (ss.map some) with
  | none => .list (ss.map stepD)
  | some v => vD v
theorem Itm.dp {K : PySem.W.Frag} {fl : Addr} {H : Hp} {ss : List Step} {v : V} (h : Itm K fl H ss v) : Dp K H v (itmD ss) := by
  unfold itmD
  cases h with
  | row a b c e =>
    rw [a]
    exact .lst (SqL.of c) e.dp
  | out a =>
    rw [a]
    rcases fault_val a with rfl | ⟨i, rfl⟩
    · exact .non
    · exact .int _
theorem itmD_lay {ss : List Step} (h : ∀ s ∈ ss, GoodS s) : PyData.canLay0 (.list [itmD ss, itmD ss, itmD ss]) = true ∧ SeqAt.shaped (.list [itmD ss, itmD ss, itmD ss]) = true := by
  have z : PyData.canLay0 (itmD ss) = true ∧ (itmD ss).depth ≤ 3 := by
    unfold itmD
    cases hf : fault (ss.map some) with
    | none =>
      obtain ⟨a, b⟩ := stepsD_lay ss h
      refine ⟨by simp only [PyData.canLay0]; exact a, ?_⟩
      simp only [PyData.depth]
      omega
    | some v =>
      rcases fault_val hf with rfl | ⟨i, rfl⟩
      · exact ⟨rfl, by simp only [vD, PyData.depth]; omega⟩
      · exact ⟨by simp only [vD, PyData.canLay0], by simp only [vD, PyData.depth]; omega⟩
  obtain ⟨a, b⟩ := z
  have c : PyData.canLay0 (.list [itmD ss, itmD ss, itmD ss]) = true := by
    simp only [PyData.canLay0, PyData.canLayAll0, a]
    rfl
  refine ⟨c, shaped_of c ?_⟩
  simp only [PyData.depth, PyData.depthAll]
  omega
theorem itms_dp {K : PySem.W.Frag} {fl : Addr} {H : Hp} {ss : List Step} : ∀ us : List V, (∀ u ∈ us, Itm K fl H ss u) → DpAll K H us (List.replicate us.length (itmD ss))
  | [], _ => .nil
  | u :: us, h => .cons (h u List.mem_cons_self).dp (itms_dp us fun x hx => h x (List.mem_cons_of_mem _ hx))
def spAddedL (K : PySem.W.Frag) (C d : Addr) : Sp := fun vs H Q _ => ∃ (a b l : Addr) (ss ts : List Step) (xs : List V), vs = [.ref a, .ref b, .ref l] ∧ IsRow K C d H a ss ∧ IsRow K C d H b ts ∧ SqL K H l xs ∧ RowAt K d H xs (ss ++ ts) ∧ ss.length ≤ 8 ∧ ts.length ≤ 8 ∧ ∀ H', Same H H' → Q (.bl true) H'
section
variable {P : Program} {w : World} {K : PySem.W.Frag} {mg : Str → Option Value} {base : Heap}
abbrev sAd : Stmt := top 38
theorem scAd : FnScope ["_law_row", "_law_other", "_law_both", "_law_found", "_law_way", "_law_made", "e", "_law_due"] ["_law_row", "_law_other", "_law_both"] (defScope sAd) := ⟨rfl, rfl, rfl, by decide +kernel, rfl, by decide +kernel, by decide +kernel⟩
theorem ok_added {f fA fR fS fF fI fE C d CI : Addr} {fd fdA fdR fdS fdF fdE : FuncData} (F : Fun K "_law_added" "_law_added" sAd f fd) (R : RowC K mg C fI fA fR) (T : Er P w K mg base "InvalidStep" "index" CI fE fdE) (te : PySem.W.exmOne K (.ref CI) (.ref CI) = some true)
    (GA : FnOk P w K mg base (L2.CX P w) 6 fA fdA ["self", "other"] (spAdd K C d CI)) (bA : Binds K fdA ["self", "other"] []) (GR : FnOk P w K mg base (L2.CX P w) 6 fR fdR ["self", "other"] (spRadd K C d CI)) (bR : Binds K fdR ["self", "other"] [])
    (GS : FnOk P w K mg base CX0 1 fS fdS ["self"] (spSteps K C d)) (bS : Binds K fdS ["self"] []) (mS : Meth K C "steps" fS)
    (GF : FnOk P w K mg base CX0 1 fF fdF ["_law_steps"] (spFault K)) (TF : Called K mg "_law_fault" ["_law_steps"] fF fdF)
    (m_tuple : mg "tuple" = none) (m_range : mg "range" = none) (m_len : mg "len" = none) : FnOk P w K mg base CX0 7 f fd ["_law_row", "_law_other", "_law_both"] (spAddedL K C d) := by
  refine F.ok scAd (fun vs H Q E h => ?_) (fun cdv A outer s H vs Q E hr h => ?_)
  · obtain ⟨a, b, l, ss, ts, xs, rfl, _⟩ := h
    rfl
  · obtain ⟨a, b, l, ss, ts, xs, rfl, ha, hb, hl, hx, z1, z2, q⟩ := h
    refine ⟨_, (pss_cons (ps_set (i := 3) scAd.nd rfl (.inl rfl) (pe_lst pa_nil)) (pss_cons (ps_for PassesOwn.never rfl (pi_range1 rfl m_range (pa_cons pe_int pa_nil)) (pg_name (i := 4) scAd.nd rfl (.inl rfl)) (pss_one (ps_named (ps_try_as (i := 6) rfl rfl scAd.nd rfl rfl ⟨rfl, by decide, .inl T.g⟩ takes0 (fun W pn xe tk _ => (pss_cons (ps_set (i := 5) scAd.nd rfl (.inl rfl) (pe_ifExp (pt_cmpR op_eq (pv 4) pe_int (nomark _)) (pe_addSS (K := K) rfl R.add GA hr bA (fun σ => passAt tk σ) (pv 0) (pv 1)) (pe_ifExp (pt_cmpR op_eq (pv 4) pe_int (nomark _)) (pe_addTS (K := K) rfl R.add GA hr bA (fun σ => passAt tk σ) (pv 0) (pe_callTy (call_tuple_K (K := K) rfl) (by rfl) m_tuple (by decide +kernel) (pa_cons (pe_meth0 (pv 1) R.cl mS GS (hr.mono (by decide)) bS .nil pass0) pa_nil))) (pe_raddTS (K := K) rfl R.add GR hr bR (fun σ => passAt tk σ) (pe_callTy (call_tuple_K (K := K) rfl) (by rfl) m_tuple (by decide +kernel) (pa_cons (pe_meth0 (pv 0) R.cl mS GS (hr.mono (by decide)) bS .nil pass0) pa_nil)) (pv 1))))) (pss_one (ps_expr (pe_appendK (K := K) rfl (pv 3) (pa_cons (pe_meth0 (pv 5) R.cl mS GS (hr.mono (by decide)) bS .nil pass0) pa_nil)))))) (fun a oe cls dd pn hz hf => pss_one (ps_expr (pe_appendK (K := K) rfl (pv 3) (pa_cons (pe_xf (xf_of T.o) T.no hz hf (pv 6)) pa_nil)))))))) (pss_cons (ps_set (i := 7) scAd.nd rfl (.inl rfl) (pe_ifExp (pt_cmpR op_gt (pe_callB (call_len_K0 (K := K) rfl) (by rfl) m_len PySem.boot_len (pa_cons (pv 2) pa_nil)) pe_int (nomark _)) pe_non (pe_ifExp (pt_cmpR op_isN (pe_call GF (hr.mono (by decide)) rfl TF.1 TF.2.1 TF.2.2 .nil pass0 (pa_cons (pv 2) pa_nil)) pe_non (nomark _)) (pv 2) (pe_call GF (hr.mono (by decide)) rfl TF.1 TF.2.1 TF.2.2 .nil pass0 (pa_cons (pv 2) pa_nil))))) (pss_one (ps_ret (pe_cmpR (Nm.op_eqDK (K := K) rfl hr.units) (pv 3) (pe_op op_rep (pe_lst (pa_cons (pv 7) pa_nil)) pe_int) (nomark _))))))), ?_⟩
    refine ⟨Nat.zero_le _, fun fl nf => ?_⟩
    have s0 := same_upd (o := HO.lst []) nf
    have z3 : (ss ++ ts).length ≤ 16 := by rw [List.length_append]; omega
    have good : ∀ s ∈ ss ++ ts, GoodS s := good_of (of_rowAt hx)
    refine seqS_in ?_
    refine ⟨3, rfl, by decide, by decide, for_range (lo := 0) (n := 3) (fun i σ H' => ∃ (v4 v5 v6 : Option V) (us : List V), σ = [some (.ref a), some (.ref b), some (.ref l), some (.ref fl), v4, v5, v6, none] ∧ Same H H' ∧ H' fl = some (.lst us) ∧ us.length = i ∧ ∀ u ∈ us, Itm K fl H' (ss ++ ts) u)
      ⟨none, none, none, [], rfl, s0, upd_same, rfl, fun u hu => (nomatch hu)⟩ ?_ ?_⟩
    · rintro i σ H1 hi ⟨v4, v5, v6, us, rfl, s1, hf, ul, all⟩
      have put : ∀ (H2 : Hp) (u : V), Same H1 H2 → Itm K fl H2 (ss ++ ts) u → Same H (upd H2 fl (.lst (us ++ [u]))) ∧ (upd H2 fl (.lst (us ++ [u]))) fl = some (.lst (us ++ [u])) ∧ (us ++ [u]).length = i + 1 ∧ ∀ x ∈ us ++ [u], Itm K fl (upd H2 fl (.lst (us ++ [u]))) (ss ++ ts) x := fun H2 u s2 it => by
        have hf2 := s2 _ _ hf
        refine ⟨same_updN nf (s1.trans s2), upd_same, by rw [List.length_append, ul]; rfl, fun x hx => ?_⟩
        rcases List.mem_append.mp hx with hx | hx
        · exact ((all x hx).same s2).upd hf2
        · rw [List.mem_singleton.mp hx]
          exact it.upd hf2
      refine name_in (rTry_in ?_)
      have ha1 := ha.same s1
      have hb1 := hb.same s1
      have hfn : H1 fl ≠ none := by rw [hf]; exact fun z => nomatch z
      obtain ⟨dxa, fsa, ka, _, _, ka4, _⟩ := row_ins3 ha1
      obtain ⟨dxb, fsb, kb, _, _, kb4, _⟩ := row_ins3 hb1
      refine ⟨_, rfl, rfl, _, rfl, ?_⟩
      rcases (by omega : i = 0 ∨ i = 1 ∨ i = 2) with rfl | rfl | rfl
      · rw [show decide (V.int (0 + ((0 : Nat) : Int)) = V.int 0) = true from decide_eq_true rfl]
        refine iteT ⟨_, rfl, _, rfl, a, b, dxa, dxb, fsa, fsb, rfl, rfl, ka, kb, a, .ref b, ss, some (ts.map some), rfl, ha1, .row hb1, by omega, fun _ e => by cases e; rw [List.length_map]; omega, fun _ e => ?_, fun e => nomatch e⟩
        cases e
        refine ⟨fun hfa us2 eu x H2 s2 row => ⟨⟨x, rfl⟩, ?_⟩, fun v hv t H2 lf => ⟨true, te, fun _ e ne => ?_, fun z => nomatch z⟩⟩
        · have e2 : us2 = ss ++ ts := ((List.map_inj_right (fun _ _ h => Option.some.inj h)).mp (show (ss ++ ts).map some = us2.map some by rw [List.map_append]; exact eu)).symm
          subst e2
          obtain ⟨dx2, fs2, m1, _, _, m4, _⟩ := row_ins3 row
          have hf2 := s2 _ _ hf
          refine name_in ?_
          refine ⟨_, rfl, .inl ⟨rfl, _, SqL.of hf2⟩, _, rfl, x, dx2, _, rfl, m1, m4, x, ss ++ ts, rfl, row, fun H3 p ys s3 np hp ra => ?_⟩
          have pf : p ≠ fl := fun z => by rw [z, hf2] at np; cases np
          have fa : fault ((ss ++ ts).map some) = none := by rw [List.map_append]; exact hfa
          obtain ⟨p1, p2, p3, p4⟩ := put H3 (.ref p) (s2.trans s3) (.row fa pf hp (row_steps ra))
          exact ⟨fl, _, _, rfl, rfl, s3 _ _ hf2, by rw [ul, sizeLine_eq]; omega, _, _, _, us ++ [.ref p], rfl, p1, p2, p3, p4⟩
        · obtain ⟨s3, nt, ht⟩ := lf
          have fa : fault ((ss ++ ts).map some) = some v := by rw [List.map_append]; exact hv
          obtain ⟨p1, p2, p3, p4⟩ := put H2 v s3 (.out fa)
          exact ⟨_, rfl, .inl ⟨rfl, _, SqL.of (s3 _ _ hf)⟩, _, rfl, rfl, rfl, t, _, v, rfl, ht, rfl, fl, _, _, rfl, rfl, s3 _ _ hf, by rw [ul, sizeLine_eq]; omega, _, _, _, us ++ [v], rfl, p1, p2, p3, p4⟩
      · rw [show decide (V.int (0 + ((1 : Nat) : Int)) = V.int 0) = false from decide_eq_false (fun z => by cases z)]
        refine iteF ?_
        refine ⟨_, rfl, rfl, _, rfl, ?_⟩
        rw [show decide (V.int (0 + ((1 : Nat) : Int)) = V.int 1) = true from decide_eq_true rfl]
        refine iteT ⟨_, rfl, _, rfl, b, dxb, fsb, rfl, kb, kb4, b, ts, rfl, hb1, fun Hs p ys sS np hp ra => ?_⟩
        refine ⟨p, ys, rfl, .inl ⟨SqL.of hp, fun t nt => ?_⟩⟩
        have sU := same_upd (o := HO.tup ys) nt
        have hT : SqT K (upd Hs t (.tup ys)) t ys := SqT.of upd_same
        generalize upd Hs t (.tup ys) = Ht at sU hT
        have sT := sS.trans sU
        refine ⟨a, dxa, fsa, "tuple", rfl, sT _ _ ka, tyx_tup hT, R.aT "tuple" (by decide), a, .ref t, ss, some (ts.map some), rfl, ha1.same sT, .tup hT (of_rowAt (ra.same sU)), by omega, fun _ e => by cases e; rw [List.length_map]; omega, fun _ e => ?_, fun e => nomatch e⟩
        cases e
        refine ⟨fun hfa us2 eu x H2 s2 row => ⟨⟨x, rfl⟩, ?_⟩, fun v hv t H2 lf => ⟨true, te, fun _ e ne => ?_, fun z => nomatch z⟩⟩
        · have e2 : us2 = ss ++ ts := ((List.map_inj_right (fun _ _ h => Option.some.inj h)).mp (show (ss ++ ts).map some = us2.map some by rw [List.map_append]; exact eu)).symm
          subst e2
          obtain ⟨dx2, fs2, m1, _, _, m4, _⟩ := row_ins3 row
          have hf2 := (sT.trans s2) _ _ hf
          refine name_in ?_
          refine ⟨_, rfl, .inl ⟨rfl, _, SqL.of hf2⟩, _, rfl, x, dx2, _, rfl, m1, m4, x, ss ++ ts, rfl, row, fun H3 p ys s3 np hp ra => ?_⟩
          have pf : p ≠ fl := fun z => by rw [z, hf2] at np; cases np
          have fa : fault ((ss ++ ts).map some) = none := by rw [List.map_append]; exact hfa
          obtain ⟨p1, p2, p3, p4⟩ := put H3 (.ref p) ((sT.trans s2).trans s3) (.row fa pf hp (row_steps ra))
          exact ⟨fl, _, _, rfl, rfl, s3 _ _ hf2, by rw [ul, sizeLine_eq]; omega, _, _, _, us ++ [.ref p], rfl, p1, p2, p3, p4⟩
        · obtain ⟨s3, nt, ht⟩ := lf
          have fa : fault ((ss ++ ts).map some) = some v := by rw [List.map_append]; exact hv
          obtain ⟨p1, p2, p3, p4⟩ := put H2 v (sT.trans s3) (.out fa)
          exact ⟨_, rfl, .inl ⟨rfl, _, SqL.of ((sT.trans s3) _ _ hf)⟩, _, rfl, rfl, rfl, t, _, v, rfl, ht, rfl, fl, _, _, rfl, rfl, (sT.trans s3) _ _ hf, by rw [ul, sizeLine_eq]; omega, _, _, _, us ++ [v], rfl, p1, p2, p3, p4⟩
      · rw [show decide (V.int (0 + ((2 : Nat) : Int)) = V.int 0) = false from decide_eq_false (fun z => by cases z)]
        refine iteF ?_
        refine ⟨_, rfl, rfl, _, rfl, ?_⟩
        rw [show decide (V.int (0 + ((2 : Nat) : Int)) = V.int 1) = false from decide_eq_false (fun z => by cases z)]
        refine iteF ⟨_, rfl, a, dxa, fsa, rfl, ka, ka4, a, ss, rfl, ha1, fun Hs p ys sS np hp ra => ?_⟩
        refine ⟨p, ys, rfl, .inl ⟨SqL.of hp, fun t nt => ?_⟩⟩
        have sU := same_upd (o := HO.tup ys) nt
        have hT : SqT K (upd Hs t (.tup ys)) t ys := SqT.of upd_same
        generalize upd Hs t (.tup ys) = Ht at sU hT
        have sT := sS.trans sU
        refine ⟨_, rfl, b, dxb, fsb, "tuple", rfl, sT _ _ kb, tyx_tup hT, R.rT, b, .ref t, ts, some (ss.map some), rfl, hb1.same sT, .tup hT (of_rowAt (ra.same sU)), by omega, fun _ e => by cases e; rw [List.length_map]; omega, fun _ e => ?_, fun e => nomatch e⟩
        cases e
        refine ⟨fun hfa us2 eu x H2 s2 row => ⟨⟨x, rfl⟩, ?_⟩, fun v hv t H2 lf => ⟨true, te, fun _ e ne => ?_, fun z => nomatch z⟩⟩
        · have e2 : us2 = ss ++ ts := ((List.map_inj_right (fun _ _ h => Option.some.inj h)).mp (show (ss ++ ts).map some = us2.map some by rw [List.map_append]; exact eu)).symm
          subst e2
          obtain ⟨dx2, fs2, m1, _, _, m4, _⟩ := row_ins3 row
          have hf2 := (sT.trans s2) _ _ hf
          refine name_in ?_
          refine ⟨_, rfl, .inl ⟨rfl, _, SqL.of hf2⟩, _, rfl, x, dx2, _, rfl, m1, m4, x, ss ++ ts, rfl, row, fun H3 p ys s3 np hp ra => ?_⟩
          have pf : p ≠ fl := fun z => by rw [z, hf2] at np; cases np
          have fa : fault ((ss ++ ts).map some) = none := by rw [List.map_append]; exact hfa
          obtain ⟨p1, p2, p3, p4⟩ := put H3 (.ref p) ((sT.trans s2).trans s3) (.row fa pf hp (row_steps ra))
          exact ⟨fl, _, _, rfl, rfl, s3 _ _ hf2, by rw [ul, sizeLine_eq]; omega, _, _, _, us ++ [.ref p], rfl, p1, p2, p3, p4⟩
        · obtain ⟨s3, nt, ht⟩ := lf
          have fa : fault ((ss ++ ts).map some) = some v := by rw [List.map_append]; exact hv
          obtain ⟨p1, p2, p3, p4⟩ := put H2 v (sT.trans s3) (.out fa)
          exact ⟨_, rfl, .inl ⟨rfl, _, SqL.of ((sT.trans s3) _ _ hf)⟩, _, rfl, rfl, rfl, t, _, v, rfl, ht, rfl, fl, _, _, rfl, rfl, (sT.trans s3) _ _ hf, by rw [ul, sizeLine_eq]; omega, _, _, _, us ++ [v], rfl, p1, p2, p3, p4⟩
    · rintro σ H1 ⟨v4, v5, v6, us, rfl, s1, hf, ul, all⟩
      have lenX := hx.length
      have hl1 := s1.seq hl
      have rs1 := row_steps (hx.same s1)
      have lay := itmD_lay good
      have fin : ∀ (H2 : Hp) (u : V), Same H1 H2 → (∀ H3, Same H2 H3 → Dp K H3 u (itmD (ss ++ ts))) → tRet (tOp (rEqD K) (tVar 3) (tOp rRep (tLst (tCons (tVar 7) tNil)) (tC (V.int 3)))) { nx := fun _ H' => Q .non H', rt := Q } [some (.ref a), some (.ref b), some (.ref l), some (.ref fl), v4, v5, v6, some u] H2 := fun H2 u s2 du => by
        refine ⟨_, rfl, _, rfl, by show 1 ≤ sizeLine; decide, fun y ny => ?_⟩
        have s3 := same_upd (o := HO.lst [u]) ny
        have e3 : (upd H2 y (.lst [u])) y = some (.lst [u]) := upd_same
        generalize upd H2 y (.lst [u]) = H3 at s3 e3
        refine ⟨y, 3, _, rfl, rfl, e3, by decide, by decide, by rw [sizeLine_eq]; show 1 * 3 ≤ _; decide, fun r nr => ?_⟩
        have s4 := same_upd (o := HO.lst [u, u, u]) nr
        have e4 : (upd H3 r (.lst [u, u, u])) r = some (.lst [u, u, u]) := upd_same
        show rEqD K (.ref fl) (.ref r) (upd H3 r (.lst [u, u, u])) Q
        generalize upd H3 r (.lst [u, u, u]) = H4 at s4 e4
        have s24 := s3.trans s4
        have dx := itms_dp us fun x hx => (all x hx).same (s2.trans s24)
        rw [ul] at dx
        have du4 := du H4 s24
        refine ⟨_, _, .lst (SqL.of ((s2.trans s24) _ _ hf)) dx, .lst (SqL.of e4) (.cons du4 (.cons du4 (.cons du4 .nil))), lay.2, lay.2, ?_⟩
        rw [show PyData.eqv (.list (List.replicate 3 (itmD (ss ++ ts)))) (.list [itmD (ss ++ ts), itmD (ss ++ ts), itmD (ss ++ ts)]) = true from SeqAt.eqv_refl _ lay.1]
        exact q _ (s1.trans (s2.trans s24))
      refine seqS_in ?_
      refine ⟨_, rfl, l, xs, rfl, .inl hl1, _, (8 : Int), rfl, rfl, _, rfl, ?_⟩
      rw [lenX]
      have e1 : ((ss ++ ts).map some).filterMap id = ss ++ ts := by
        rw [List.filterMap_map]
        exact List.filterMap_some
      by_cases h8 : (8 : Int) < ((ss ++ ts).length : Nat)
      · rw [decide_eq_true h8]
        refine iteT ?_
        refine name_in ?_
        have fa : fault ((ss ++ ts).map some) = some .non := by
          unfold fault
          have e0 : ((ss ++ ts).map some).findIdx? Option.isNone = none := by
            rw [List.findIdx?_eq_none_iff]
            intro x hx
            obtain ⟨s', _, rfl⟩ := List.mem_map.mp hx
            rfl
          rw [e0, List.length_map]
          dsimp only
          exact if_pos (by omega)
        refine fin H1 .non (Same.refl _) fun H3 _ => ?_
        unfold itmD
        rw [fa]
        exact .non
      · rw [decide_eq_false h8]
        refine iteF ?_
        have fa := fault_all (ss ++ ts) (by omega)
        refine ⟨_, rfl, l, xs, ss ++ ts, rfl, hl1, rs1, good, by omega, fun H2 s2 => ⟨rfl, _, rfl, ?_⟩⟩
        cases hx2 : (wrongs (ss ++ ts) [] []).findIdx? id with
        | none =>
          have fa2 : fault ((ss ++ ts).map some) = none := by
            rw [fa]
            unfold faultS
            rw [hx2]
          rw [show decide (optV none = V.non) = true from decide_eq_true rfl]
          refine iteT ⟨_, rfl, ?_⟩
          refine name_in ?_
          refine fin H2 (.ref l) s2 fun H3 s3 => ?_
          unfold itmD
          rw [fa2]
          exact .lst ((s2.trans s3).seq hl1) (rs1.same (s2.trans s3)).dp
        | some k =>
          have fa2 : fault ((ss ++ ts).map some) = some (.int (k : Nat)) := by
            rw [fa]
            unfold faultS
            rw [hx2]
          rw [show decide (optV (some k) = V.non) = false from decide_eq_false fun z => by cases z]
          refine iteF ⟨_, rfl, l, xs, ss ++ ts, rfl, s2.seq hl1, rs1.same s2, good, by omega, fun H3 s3 => ?_⟩
          rw [hx2]
          refine name_in ?_
          refine fin H3 _ (s2.trans s3) fun H4 _ => ?_
          unfold itmD
          rw [fa2]
          exact .int _
end
end Rw

/-! X20 -/
namespace Nm
open PySem PySem.Spec PyProof.Rows L2
theorem call_list_KK {X : Cx} {K : PySem.W.Frag} (hK : X.K = K) : CallR X (.type "list") (fun xs H Q => ∃ p ys, xs = [.ref p] ∧ (SqL K H p ys ∨ SqT K H p ys) ∧ ∀ l, H l = none → Q (.ref l) (upd H l (.lst ys))) := by
  subst hK
  exact call_list_of
end Nm
/-! ### what is among a row's steps -/
namespace Rw
open PySem PySem.Spec PyProof.Rows L2
def W12 : List Str := ["cancel", "bar", "halt", "settle", "close", "drain", "set", "clear", "take", "give", "free", "use"]
theorem w12_ok : ∀ w ∈ W12, w ∈ W10 ∨ w = "free" ∨ w = "use" := by decide +kernel
theorem w12_sok : ∀ w ∈ W12, sOk w := by decide +kernel
/-- as spCon, the answer by its own name -/
inductive InB (ss : List Step) : Option Step → Bool → Prop
  | some (s : Step) : InB ss (some s) (decide (s ∈ ss))
  | none : InB ss none false
def spCon2 (K : PySem.W.Frag) (C d : Addr) : Sp := fun vs H Q _ => ∃ (a : Addr) (x : V) (ss : List Step) (r : Option Step) (b : Bool), vs = [.ref a, x] ∧ IsRow K C d H a ss ∧ SVG K d H x r ∧ InB ss r b ∧ ∀ H', Same H H' → Q (.bl b) H'
theorem con2 {P : Program} {w : World} {K : PySem.W.Frag} {mg : Str → Option Value} {base : Heap} {C d fC : Addr} {fdC : FuncData} {k : Nat} (G : FnOk P w K mg base CX0 k fC fdC ["self", "x"] (spCon K C d)) : FnOk P w K mg base CX0 k fC fdC ["self", "x"] (spCon2 K C d) :=
  G.imp fun vs H Q E ⟨a, x, ss, r, b, e, h1, h2, h3, q⟩ => ⟨a, x, ss, r, e, h1, h2, fun H' s => by
    cases h3 with
    | some s0 => exact q H' s
    | none => exact q H' s⟩
def spAmong (K : PySem.W.Frag) (C d : Addr) : Sp := fun vs H Q _ => ∃ (a l o qq nl : Addr) (ss : List Step) (xs : List V) (ns : List Str), vs = [.ref a, .ref l, .ref o, .ref nl] ∧ IsRow K C d H a ss ∧ RowL K d H l xs ss ∧ PoolAt H o qq ∧ l ≠ o ∧ SqL K H nl (ns.map V.str) ∧ nl ≠ o ∧ ns ≠ [] ∧ ns.length ≤ 10 ∧ (∀ n ∈ ns, NmOk n) ∧ ss.length ≤ 8 ∧
  ∀ H', SameBut o H H' → PoolAt H' o qq → Q (.bl true) H'
theorem IsRow.pool {K : PySem.W.Frag} {C d : Addr} {H H' : Hp} {o q : Addr} (b : SameBut o H H') (p : PoolAt H o q) {a : Addr} {ss : List Step} (h : IsRow K C d H a ss) : IsRow K C d H' a ss := by
  obtain ⟨dx, p', hh, xs, ys, h1, h2, h3, h5, h6⟩ := h
  obtain ⟨at_, n', m1, _⟩ := id p
  have h5' : SqL K H' hh ys := by
    rcases h5 with (h5 | ⟨ob, h5⟩) | h5
    · refine .inl (.inl (b _ _ (fun z => ?_) h5))
      rw [z, m1] at h5
      have e := HO.lst.inj (Option.some.inj h5)
      subst e
      obtain ⟨_, _, r, e, _⟩ := h6.get (i := 1) rfl
      cases e
    · refine .inl (.inr ⟨ob, b _ _ (fun z => ?_) h5⟩)
      rw [z, m1] at h5
      cases h5
    · exact .inr h5
  exact ⟨dx, p', hh, xs, ys, get_pool b p h1 fun _ z => (by cases z), sqT_pool b p h2, rowAt_pool b p h3, h5', h6.mono fun _ _ ⟨r, e, t⟩ => ⟨r, e, sqT_pool b p t⟩⟩
section
variable {P : Program} {w : World} {K : PySem.W.Frag} {mg : Str → Option Value} {base : Heap}
abbrev sAm : Stmt := top 37
theorem scAm : FnScope ["_law_row", "_law_steps", "_law_pool_here", "_law_names", "_law_words", "_law_turn", "_law_step", "_law_odd", "_law_one"] ["_law_row", "_law_steps", "_law_pool_here", "_law_names"] (defScope sAm) := ⟨rfl, rfl, rfl, by decide +kernel, rfl, by decide +kernel, by decide +kernel⟩
theorem ok_among {f fP fC C d fI fA fR : Addr} {fd fdP fdC : FuncData} (F : Fun K "_law_among" "_law_among" sAm f fd) (R : RowC K mg C fI fA fR) (hW : ∀ w ∈ W10, ∃ u, PySem.W.nsIn K d w = some (some u)) (hF : PySem.W.nsIn K d "free" = some none) (hU : PySem.W.nsIn K d "use" = some none)
    (GP : FnOk P w K mg base CX0 2 fP fdP ["_law_pool_here", "_law_some"] (spPick K)) (TP : Called K mg "_law_pick" ["_law_pool_here", "_law_some"] fP fdP)
    (GC : FnOk P w K mg base CX0 3 fC fdC ["self", "x"] (spCon K C d)) (bC : Binds K fdC ["self", "x"] []) (hsC : PySem.W.findIn K (.ref C) "__contains__" = some (some (.ref fC))) (hfC : PySem.W.isFn K (.ref fC) = true)
    (m_range : mg "range" = none) (m_list : mg "list" = none) : FnOk P w K mg base CX0 4 f fd ["_law_row", "_law_steps", "_law_pool_here", "_law_names"] (spAmong K C d) := by
  refine F.ok scAm (fun vs H Q E h => ?_) (fun cdv A outer s H vs Q E hr h => ?_)
  · obtain ⟨a, l, o, qq, nl, ss, xs, ns, rfl, _⟩ := h
    rfl
  · obtain ⟨a, l, o, qq, nl, ss, xs, ns, rfl, ha, hl, hp, lo, hns, nn, ne, hz, hok, hs8, q⟩ := h
    have GC2 := con2 GC
    refine ⟨_, (pss_cons (ps_set (i := 4) scAm.nd rfl (.inl rfl) (pe_lst (pa_cons pe_str (pa_cons pe_str (pa_cons pe_str (pa_cons pe_str (pa_cons pe_str (pa_cons pe_str (pa_cons pe_str (pa_cons pe_str (pa_cons pe_str (pa_cons pe_str (pa_cons pe_str (pa_cons pe_str pa_nil))))))))))))))
       (pss_cons (ps_for PassesOwn.never rfl (pi_range1 rfl m_range (pa_cons pe_int pa_nil)) (pg_name (i := 5) scAm.nd rfl (.inl rfl))
       (pss_cons (ps_set (i := 6) scAm.nd rfl (.inl rfl) (pe_tup (pa_cons (pe_call GP (hr.mono (by decide)) rfl TP.1 TP.2.1 TP.2.2 .nil pass0 (pa_cons (pv 2) (pa_cons (pv 4) pa_nil))) (pa_cons (pe_call GP (hr.mono (by decide)) rfl TP.1 TP.2.1 TP.2.2 .nil pass0 (pa_cons (pv 2) (pa_cons (pv 3) pa_nil))) pa_nil))))
       (pss_one (ps_if (PW.pt (pw_or (pt_cmpR op_ne (pe_cmpR (op_inOwn (E := E0) (C := C) hsC hfC GC2 hr bC pass0) (pv 6) (pv 0) (by rfl)) (pe_cmpR (op_inD hr.units65) (pv 6) (pv 1) (by rfl)) (nomark _)) (pw_or (pt_cmpR (op_inOwn (E := E0) (C := C) hsC hfC GC2 hr bC pass0) (pe_callTy call_list_of (by rfl) m_list (by decide +kernel) (pa_cons (pv 6) pa_nil)) (pv 0) (by rfl)) (pw_or1 (pt_cmpR (op_inOwn (E := E0) (C := C) hsC hfC GC2 hr bC pass0) (pe_op op_catA (pv 6) (pe_tup (pa_cons pe_int pa_nil))) (pv 0) (by rfl))))))
       (pss_one (ps_ret pe_bl))
       pss_nil))))
       (pss_cons (ps_setLc (i := 7) (own := [("_law_one", 8)]) (g := gName 8)  (by rfl) scAm.nd rfl rfl (sw_true rfl rfl rfl (by decide +kernel)) (pi_list (pe_op op_cat (pe_lst (pa_cons pe_non (pa_cons pe_int (pa_cons pe_str (pa_cons (pe_tup pa_nil) (pa_cons (pe_tup (pa_cons pe_str pa_nil)) (pa_cons (pe_tup (pa_cons pe_str (pa_cons pe_int pa_nil))) pa_nil))))))) (pe_lc (own := [("_law_step", 6)]) (g := gName 6) (tt := tYes) (by rfl) scAm.nd (pi_list (pv 1)) (blkOk_by (own := [("_law_step", 6)]) (N := ["_law_row", "_law_steps", "_law_pool_here", "_law_names", "_law_words", "_law_turn", "_law_step", "_law_odd", "_law_one"]) (sc := defScope sAm) (by decide +kernel)) (fun _ _ _ _ _ => (pg_name (i := 6) scAm.nd rfl (Or.inl rfl))) (fun _ _ _ _ _ => pts_nil) (fun _ _ _ _ _ => (pe_callTy (Nm.call_list_KK (K := K) rfl) (by rfl) m_list (by decide +kernel) (pa_cons (pv 6) pa_nil)))))) (blkOk_by (own := [("_law_one", 8)]) (N := ["_law_row", "_law_steps", "_law_pool_here", "_law_names", "_law_words", "_law_turn", "_law_step", "_law_odd", "_law_one"]) (sc := defScope sAm) (by decide +kernel)) (fun _ _ _ _ _ => (pg_name (i := 8) scAm.nd rfl (Or.inl rfl))) (fun _ _ _ _ _ => (pts_one (pt_cmpR (op_inOwn (E := E0) (C := C) hsC hfC GC2 hr bC pass0) (pv 8) (pv 0) (by rfl)))) (fun _ _ _ _ _ => (pv 8)))
       (pss_one (ps_ret (pe_and (pe_cmpR (op_eqD hr.units) (pv 7) (pe_lst pa_nil) (nomark _)) (pe_one (pe_cmpR (op_eqD hr.units) (pe_lc (own := [("_law_step", 6)]) (g := gName 6)  (by rfl) scAm.nd (pi_list (pv 1)) (blkOk_by (own := [("_law_step", 6)]) (N := ["_law_row", "_law_steps", "_law_pool_here", "_law_names", "_law_words", "_law_turn", "_law_step", "_law_odd", "_law_one"]) (sc := defScope sAm) (by decide +kernel)) (fun _ _ _ _ _ => (pg_name (i := 6) scAm.nd rfl (Or.inl rfl))) (fun _ _ _ _ _ => (pts_one (pt_cmpR (op_notInOwn (E := E0) (C := C) hsC hfC GC2 hr bC pass0) (pv 6) (pv 0) (by rfl)))) (fun _ _ _ _ _ => (pv 6))) (pe_lst pa_nil) (nomark _))))))))), ?_⟩
    refine seqS_in ?_
    refine ⟨by show 12 ≤ sizeLine; decide, fun wl nw => ?_⟩
    have s0 := same_upd (o := HO.lst (W12.map V.str)) nw
    have ew : (upd H wl (.lst (W12.map V.str))) wl = some (.lst (W12.map V.str)) := upd_same
    refine name_in ?_
    show tSeq _ _ _ _ (upd H wl (.lst (W12.map V.str)))
    generalize upd H wl (.lst (W12.map V.str)) = H0 at s0 ew
    have wlo : wl ≠ o := fun z => by
      obtain ⟨at_, n', m1, _⟩ := hp
      rw [z, m1] at nw
      cases nw
    refine seqS_in ?_
    refine ⟨6, rfl, by decide, by decide, for_range (lo := 0) (n := 6) (fun i σ H' => ∃ v5 v6 : Option V, σ = [some (.ref a), some (.ref l), some (.ref o), some (.ref nl), some (.ref wl), v5, v6, none, none] ∧ SameBut o H H' ∧ PoolAt H' o qq ∧ H' wl = some (.lst (W12.map V.str))) ⟨none, none, rfl, but_of s0, hp.same s0, ew⟩ ?_ ?_⟩
    · rintro i σ H1 hi ⟨v5, v6, rfl, b1, p1, w1⟩
      refine name_in ?_
      refine seqS_in ?_
      refine ⟨_, rfl, _, rfl, o, qq, wl, _, rfl, p1, wlo, SqL.of w1, by decide +kernel, by decide +kernel, fun H2 x b2 p2 m2 => ?_⟩
      obtain ⟨wd, hwd, rfl⟩ := List.mem_map.mp m2
      refine ⟨_, rfl, _, rfl, o, qq, nl, _, rfl, p2, nn, sqL_but (b1.trans b2) nn hns, fun z => ne (List.map_eq_nil_iff.mp z), by rw [List.length_map]; omega, fun H3 x b3 p3 m3 => ?_⟩
      obtain ⟨n, hn, rfl⟩ := List.mem_map.mp m3
      have nOk := hok n hn
      have w3 := b3 _ _ wlo (b2 _ _ wlo w1)
      have b03 := (b1.trans b2).trans b3
      refine ⟨by show 2 ≤ sizeLine; decide, fun y ny => ?_⟩
      have s4 := same_upd (o := HO.tup [V.str wd, V.str n]) ny
      have hy : SqT K (upd H3 y (.tup [V.str wd, V.str n])) y [V.str wd, V.str n] := SqT.of upd_same
      generalize upd H3 y (.tup [V.str wd, V.str n]) = H4 at s4 hy
      have b04 := b03.trans (but_of s4)
      have p4 := p3.same s4
      have w4 := s4 _ _ w3
      have ha4 := ha.pool b04 hp
      have row4 := rowAt_pool b04 hp hl.row
      have hl4 : H4 l = some (.lst xs) := b04 _ _ lo hl.at_
      have good := good_of (of_rowAt hl.row)
      obtain ⟨dx, fs, k1, _⟩ := row_ins3 ha4
      refine name_in ?_
      try dsimp only
      refine ifS_via (fun b H' => b = false ∧ Same H4 H') ?_ ?_
      · intro QQ hQ
        obtain ⟨r, sv, er⟩ : ∃ r, SVG K d H4 (.ref y) r ∧ InB ss r (decide ((wd, n) ∈ ss)) := by
          rcases w12_ok wd hwd with h | h | h
          · exact ⟨_, nOk.svg hW h hy, .some _⟩
          · subst h
            refine ⟨none, ⟨.word hy hF, fun s e => nomatch e⟩, ?_⟩
            rw [decide_eq_false]
            · exact .none
            intro z
            exact absurd (show ("free" : Str) ∈ W10 from (hl.ok _ z).w) (by decide +kernel)
          · subst h
            refine ⟨none, ⟨.word hy hU, fun s e => nomatch e⟩, ?_⟩
            rw [decide_eq_false]
            · exact .none
            intro z
            exact absurd (show ("use" : Str) ∈ W10 from (hl.ok _ z).w) (by decide +kernel)
        refine ⟨_, rfl, _, rfl, a, dx, fs, rfl, k1, a, _, ss, r, _, rfl, ha4, sv, er, fun H5 s5 => ⟨_, rfl, ?_⟩⟩
        have sh1 : SeqAt.shaped (stepD (wd, n)) = true := txtD_shaped (ns := [wd, n]) fun m hm => by
          rcases List.mem_cons.mp hm with rfl | hm
          · exact w12_sok _ hwd
          · rw [List.mem_singleton.mp hm]; exact nOk.ok
        have d1 : Dp K H5 (V.ref y) (stepD (wd, n)) := StepAt.dp ⟨y, rfl, s5.tupS hy⟩
        refine ⟨_, rfl, _, rfl, stepD (wd, n), ss.map stepD, d1, .lst (SqL.of (s5 _ _ hl4)) (row_steps (row4.same s5)).dp, sh1, stepsL_shaped good, ?_⟩
        rw [any_step]
        refine ⟨rfl, _, rfl, ?_⟩
        rw [if_neg Bool.false_ne_true, decide_eq_true rfl]
        refine iteF ?_
        refine ⟨_, rfl, y, _, rfl, .inr (s5.tupS hy), fun z nz => ?_⟩
        have s6 := same_upd (o := HO.lst [V.str wd, V.str n]) nz
        have ez : (upd H5 z (.lst [V.str wd, V.str n])) z = some (.lst [V.str wd, V.str n]) := upd_same
        generalize upd H5 z (.lst [V.str wd, V.str n]) = H6 at s6 ez
        have s46 := s5.trans s6
        refine ⟨_, rfl, a, dx, fs, rfl, s46 _ _ k1, a, _, ss, none, _, rfl, ha4.same s46, ⟨.other (T := "list") (.base (.lst ez)) (by decide), fun s e => nomatch e⟩, .none, fun H7 s7 => ⟨_, rfl, _, rfl, ?_⟩⟩
        refine iteF ?_
        have s47 := s46.trans s7
        refine ⟨_, rfl, by show 1 ≤ sizeLine; decide, fun t nt => ?_⟩
        have s8 := same_upd (o := HO.tup [V.int 0]) nt
        have ht : SqT K (upd H7 t (.tup [V.int 0])) t [V.int 0] := SqT.of upd_same
        generalize upd H7 t (.tup [V.int 0]) = H8 at s8 ht
        have s48 := s47.trans s8
        refine cat_any (s48.tupS hy) ht (by show 2 + 1 ≤ 1000; decide) fun H9 p9 s9 h9 => ?_
        have s49 := s48.trans s9
        refine ⟨_, rfl, a, dx, fs, rfl, s49 _ _ k1, a, _, ss, none, _, rfl, ha4.same s49, ⟨.len h9 (by show 3 ≠ 2; decide), fun s e => nomatch e⟩, .none, fun H10 s10 => ⟨_, rfl, _, rfl, ?_⟩⟩
        exact hQ _ _ ⟨rfl, s49.trans s10⟩
      · rintro b H5 ⟨rfl, s5⟩
        refine iteF ?_
        dsimp only [tNext]
        exact ⟨_, _, rfl, b04.trans (but_of s5), p4.same s5, s5 _ _ w4⟩
    rintro σ H1 ⟨v5, v6, rfl, b1, p1, w1⟩
    have ha1 := ha.pool b1 hp
    have row1 := rowAt_pool b1 hp hl.row
    have hl1 : H1 l = some (.lst xs) := b1 _ _ lo hl.at_
    have q1 : ∀ H', Same H1 H' → Q (.bl true) H' := fun H' t => q H' (b1.trans (but_of t)) (p1.same t)
    have good := good_of (of_rowAt hl.row)
    obtain ⟨dx, fs, k1, _⟩ := row_ins3 ha1
    clear s0 ew w1 nw
    refine seqS_in ?_
    refine ⟨Nat.zero_le _, fun e0 n0 => ?_⟩
    have t0 := same_upd (o := HO.tup []) n0
    have g0 : SqT K (upd H1 e0 (.tup [])) e0 [] := SqT.of upd_same
    generalize upd H1 e0 (.tup []) = H2 at t0 g0
    refine ⟨by show 1 ≤ sizeLine; decide, fun e1 n1 => ?_⟩
    have t1 := same_upd (o := HO.tup [V.str "bar"]) n1
    have g1 : SqT K (upd H2 e1 (.tup [V.str "bar"])) e1 [V.str "bar"] := SqT.of upd_same
    generalize upd H2 e1 (.tup [V.str "bar"]) = H3 at t1 g1
    refine ⟨by show 2 ≤ sizeLine; decide, fun e2 n2 => ?_⟩
    have t2 := same_upd (o := HO.tup [V.str "halt", V.int 1]) n2
    have g2 : SqT K (upd H3 e2 (.tup [V.str "halt", V.int 1])) e2 [V.str "halt", V.int 1] := SqT.of upd_same
    generalize upd H3 e2 (.tup [V.str "halt", V.int 1]) = H4 at t2 g2
    refine ⟨by show 6 ≤ sizeLine; decide, fun la nla => ?_⟩
    have t3 := same_upd (o := HO.lst [V.non, V.int 0, V.str "bar", V.ref e0, V.ref e1, V.ref e2]) nla
    have g3 : (upd H4 la (.lst [V.non, V.int 0, V.str "bar", V.ref e0, V.ref e1, V.ref e2])) la = some (.lst [V.non, V.int 0, V.str "bar", V.ref e0, V.ref e1, V.ref e2]) := upd_same
    generalize upd H4 la (.lst [V.non, V.int 0, V.str "bar", V.ref e0, V.ref e1, V.ref e2]) = H5 at t3 g3
    have t15 := ((t0.trans t1).trans t2).trans t3
    obtain ⟨uh, huh⟩ := hW "halt" halt_10
    have odd6 : ∀ x ∈ [V.non, V.int 0, V.str "bar", V.ref e0, V.ref e1, V.ref e2], SVG K d H5 x none := by
      intro x hx
      simp only [List.mem_cons, List.not_mem_nil, or_false] at hx
      rcases hx with rfl | rfl | rfl | rfl | rfl | rfl
      · exact ⟨.other (T := "NoneType") (.base .non) (by decide), fun s e => nomatch e⟩
      · exact ⟨.other (T := "int") (.base (.int 0)) (by decide), fun s e => nomatch e⟩
      · exact ⟨.other (T := "str") (.base (.str _)) (by decide), fun s e => nomatch e⟩
      · exact ⟨.len (((t1.trans t2).trans t3).tupS g0) (by decide), fun s e => nomatch e⟩
      · exact ⟨.len ((t2.trans t3).tupS g1) (by show 1 ≠ 2; decide), fun s e => nomatch e⟩
      · exact ⟨.name (t3.tupS g2) huh (.other (T := "int") (.base (.int 1)) (by decide)), fun s e => nomatch e⟩
    have hl5 := SqL.of (K := K) (t15 _ _ hl1)
    refine ⟨_, rfl, l, rfl, ⟨_, hl5⟩, fun D nD => lc_list (K := K) (a := l) (xs := xs) (fun i H' => Same H5 H' ∧ ∃ ys, H' D = some (.lst ys) ∧ ys.length = i ∧ ∀ y ∈ ys, ∃ p as, y = V.ref p ∧ p ≠ D ∧ H' p = some (.lst as)) ⟨same_upd nD, [], upd_same, rfl, fun y hy => (nomatch hy)⟩ (fun i H' _ h => h.1.seq hl5) ?_ ?_⟩
    · rintro i x H6 hxi ⟨s6, ys, hD, yl, all⟩
      obtain ⟨st, hst, p, rfl, sa⟩ := (row_steps row1).get hxi
      have hi : i < ss.length := (List.getElem?_eq_some_iff.mp hst).1
      refine ⟨rfl, ?_⟩
      dsimp only [tYes]
      rw [if_pos rfl]
      refine ⟨_, rfl, p, _, rfl, .inr ((t15.trans s6).tupS sa), fun z nz => ?_⟩
      have s7 := same_upd (o := HO.lst [V.str st.1, V.str st.2]) nz
      have ez : (upd H6 z (.lst [V.str st.1, V.str st.2])) z = some (.lst [V.str st.1, V.str st.2]) := upd_same
      have zD : z ≠ D := fun e => by rw [e, hD] at nz; cases nz
      generalize upd H6 z (.lst [V.str st.1, V.str st.2]) = H7 at s7 ez
      have hD7 := s7 _ _ hD
      refine ⟨ys, hD7, by rw [yl, sizeLine_eq]; omega, same_updN nD (s6.trans s7), ys ++ [.ref z], upd_same, by rw [List.length_append, yl]; rfl, fun y hy => ?_⟩
      rcases List.mem_append.mp hy with hy | hy
      · obtain ⟨p', as, e, ne, h⟩ := all y hy
        exact ⟨p', as, e, ne, by rw [upd_ne ne]; exact s7 _ _ h⟩
      · rw [List.mem_singleton.mp hy]
        exact ⟨z, _, rfl, zD, by rw [upd_ne zD]; exact ez⟩
    rintro H6 ⟨s6, ys, hD, yl, all⟩
    have lenX := hl.row.length
    refine ⟨la, D, _, _, rfl, rfl, s6 _ _ g3, hD, ?_, fun lc nlc => ?_⟩
    · rw [yl, sizeLine_eq]
      show 6 + xs.length ≤ _
      omega
    have s7 := same_upd (o := HO.lst ([V.non, V.int 0, V.str "bar", V.ref e0, V.ref e1, V.ref e2] ++ ys)) nlc
    have ec : (upd H6 lc (.lst ([V.non, V.int 0, V.str "bar", V.ref e0, V.ref e1, V.ref e2] ++ ys))) lc = some (.lst ([V.non, V.int 0, V.str "bar", V.ref e0, V.ref e1, V.ref e2] ++ ys)) := upd_same
    generalize upd H6 lc (.lst ([V.non, V.int 0, V.str "bar", V.ref e0, V.ref e1, V.ref e2] ++ ys)) = H7 at s7 ec
    have t57 := s6.trans s7
    have oddAll : ∀ x ∈ [V.non, V.int 0, V.str "bar", V.ref e0, V.ref e1, V.ref e2] ++ ys, SVG K d H7 x none := by
      intro x hx
      rcases List.mem_append.mp hx with hx | hx
      · exact SVG.same t57 (odd6 x hx)
      · obtain ⟨p, as, rfl, _, h⟩ := all x hx
        exact ⟨.other (T := "list") (.base (.lst (s7 _ _ h))) (by decide), fun s e => nomatch e⟩
    have t17 := t15.trans t57
    generalize [V.non, V.int 0, V.str "bar", V.ref e0, V.ref e1, V.ref e2] ++ ys = od at ec oddAll
    refine ⟨lc, rfl, ⟨_, SqL.of ec⟩, fun D2 nD2 => lc_list (K := K) (a := lc) (xs := od) (fun i H' => Same H7 H' ∧ H' D2 = some (.lst [])) ⟨same_upd nD2, upd_same⟩ (fun i H' _ h => h.1.seq (SqL.of ec)) ?_ ?_⟩
    · rintro i x H8 hxi ⟨s8, hD2⟩
      have t18 := t17.trans s8
      refine ⟨rfl, ?_⟩
      refine ⟨_, rfl, _, rfl, a, dx, fs, rfl, t18 _ _ k1, a, x, ss, none, _, rfl, ha1.same t18, SVG.same s8 (oddAll x (List.mem_of_getElem? hxi)), .none, fun H9 s9 => ⟨_, rfl, _, rfl, ?_⟩⟩
      exact iteF ⟨s8.trans s9, s9 _ _ hD2⟩
    rintro H8 ⟨s8, hD2⟩
    have t18 := t17.trans s8
    refine name_in ?_
    have nilD : SeqAt.shaped (.list []) = true := by decide +kernel
    refine ⟨_, rfl, Nat.zero_le _, fun z nz => ?_⟩
    have s9 := same_upd (o := HO.lst []) nz
    refine ⟨.list [], .list [], .lst (SqL.of (s9 _ _ hD2)) .nil, .lst (SqL.of upd_same) .nil, nilD, nilD, _, rfl, ?_⟩
    rw [show PyData.eqv (.list []) (.list []) = true from rfl]
    refine iteT ?_
    have t19 := t18.trans s9
    generalize upd H8 z (.lst []) = H9 at s9 t19
    have hl9 := SqL.of (K := K) (t19 _ _ hl1)
    refine ⟨_, rfl, l, rfl, ⟨_, hl9⟩, fun D3 nD3 => lc_list (K := K) (a := l) (xs := xs) (fun i H' => Same H9 H' ∧ H' D3 = some (.lst [])) ⟨same_upd nD3, upd_same⟩ (fun i H' _ h => h.1.seq hl9) ?_ ?_⟩
    · rintro i x H10 hxi ⟨s10, hD3⟩
      obtain ⟨st, hst, hv⟩ := row1.get hxi
      have t110 := t19.trans s10
      have mem : st ∈ ss := List.mem_of_getElem? hst
      refine ⟨rfl, ?_⟩
      refine ⟨_, rfl, _, rfl, a, dx, fs, rfl, t110 _ _ k1, a, x, ss, some st, _, rfl, ha1.same t110, SVG.same t110 hv, .some st, fun H11 s11 => ⟨_, rfl, _, rfl, ?_⟩⟩
      rw [decide_eq_true mem]
      exact iteF ⟨s10.trans s11, s11 _ _ hD3⟩
    rintro H10 ⟨s10, hD3⟩
    refine ⟨Nat.zero_le _, fun z2 nz2 => ?_⟩
    have s11 := same_upd (o := HO.lst []) nz2
    refine ⟨.list [], .list [], .lst (SqL.of (s11 _ _ hD3)) .nil, .lst (SqL.of upd_same) .nil, nilD, nilD, ?_⟩
    rw [show PyData.eqv (.list []) (.list []) = true from rfl]
    exact q1 _ (t19.trans (s10.trans s11))
end
end Rw

/-! X22 -/
/-! ### the law -/
namespace Rw
open PySem PySem.Spec PyProof.Rows L2
theorem names_a : ∀ n ∈ (["a", "ab", "b", "bar"] : List Str), NmOk n := by
  intro n hn
  simp only [List.mem_cons, List.not_mem_nil, or_false] at hn
  rcases hn with rfl | rfl | rfl | rfl <;> exact ⟨by decide +kernel, by decide +kernel, by decide +kernel⟩
theorem names_b : ∀ n ∈ (["abcdefgh", "w", "ww", "l"] : List Str), NmOk n := by
  intro n hn
  simp only [List.mem_cons, List.not_mem_nil, or_false] at hn
  rcases hn with rfl | rfl | rfl | rfl <;> exact ⟨by decide +kernel, by decide +kernel, by decide +kernel⟩
theorem names_c : ∀ n ∈ (["x", "y", "z", "take"] : List Str), NmOk n := by
  intro n hn
  simp only [List.mem_cons, List.not_mem_nil, or_false] at hn
  rcases hn with rfl | rfl | rfl | rfl <;> exact ⟨by decide +kernel, by decide +kernel, by decide +kernel⟩
theorem cut_any (xs : List V) (i : Nat) : cutV xs none (some (i : Int)) = xs.take i := by
  by_cases h : i ≤ xs.length
  · exact cut_head xs i h
  · show (xs.drop 0).take (HT.sIx xs.length xs.length (some (i : Int)) - 0) = _
    rw [HT.sIx_nat, List.drop_zero, Nat.sub_zero, Nat.min_eq_right (by omega), List.take_of_length_le (Nat.le_refl _), List.take_of_length_le (by omega)]
theorem make0 {K : PySem.W.Frag} {d C CI : Addr} {σ : L2.St} {H : Hp} {Q : VK} (q : ∀ x H1, Same H H1 → IsRow K C d H1 x [] → Q (.ref x) H1) : StX.tMakeR C (spStar (spRI K d C CI)) (fun _ _ _ => False) tNil σ H Q := by
  intro x dx nx nd ne
  refine made_of (rs := []) .nil (Nat.zero_le _) ⟨fun hf ss e x H1 s1 row => ?_, fun v hv => by cases hv⟩ nx nd ne
  have es : ss = [] := by
    cases ss with
    | nil => rfl
    | cons a b => cases e
  subst es
  exact q x H1 s1 row
theorem asg_via {te : TE} {g : TG} {D : Ends} {σ : L2.St} {H : Hp} (F : V → Hp → Prop) (hc : ∀ Qx : VK, (∀ v H2, F v H2 → Qx v H2) → te σ H Qx) (h : ∀ v H2, F v H2 → g v σ H2 D.nx) : tAsg te g D σ H := hc _ h
theorem RowL.same {K : PySem.W.Frag} {d : Addr} {H H' : Hp} (s : Same H H') {l : Addr} {xs : List V} {ss : List Step} (h : RowL K d H l xs ss) : RowL K d H' l xs ss := ⟨s _ _ h.at_, h.row.same s, h.ok⟩
theorem RowL.pool {K : PySem.W.Frag} {d : Addr} {H H' : Hp} {o q : Addr} (b : SameBut o H H') (p : PoolAt H o q) {l : Addr} {xs : List V} {ss : List Step} (n : l ≠ o) (h : RowL K d H l xs ss) : RowL K d H' l xs ss := ⟨b _ _ n h.at_, rowAt_pool b p h.row, h.ok⟩
theorem PoolAt.ne {H : Hp} {o q a : Addr} (p : PoolAt H o q) (h : H a = none) : a ≠ o := fun z => by
  obtain ⟨_, _, e, _⟩ := p
  rw [z, e] at h
  cases h
theorem no_find {bs : List Bool} (h : bs.findIdx? id = none) : ∀ b ∈ bs, b = false := by
  rw [List.findIdx?_eq_none_iff] at h
  intro b hb
  exact h b hb
theorem find_no {bs : List Bool} (h : ∀ b ∈ bs, b = false) : bs.findIdx? id = none := by
  rw [List.findIdx?_eq_none_iff]
  intro b hb
  exact h b hb
theorem ops_in2 {r : XK → R2} {E : L2.St → XK} {ta tb : TE} {σ : L2.St} {H : Hp} {Q : VK} (h : ta σ H fun x H1 => tb σ H1 fun y H2 => r (E σ) x y H2 Q) : tOpS r E ta tb σ H Q := h
theorem fault_no {ss : List Step} (z : ss.length ≤ 8) (h : ∀ b ∈ wrongs ss [] [], b = false) : fault (ss.map some) = none := by
  rw [fault_all ss z]
  unfold faultS
  rw [find_no h]
theorem w_tg2 : ("take" : Str) ≠ "give" ∧ ("give" : Str) ≠ "take" ∧ ("bar" : Str) ≠ "give" ∧ ("bar" : Str) ≠ "take" ∧ ("halt" : Str) ≠ "give" ∧ ("halt" : Str) ≠ "take" ∧ ("set" : Str) ≠ "give" ∧ ("set" : Str) ≠ "take" := by
  refine ⟨?_, ?_, ?_, ?_, ?_, ?_, ?_, ?_⟩ <;> decide +kernel
theorem f_shut (n : Str) : fault [some (("bar" : Str), n), some (("halt" : Str), n)] = none := by
  obtain ⟨a1, a2, a3, a4, a5, a6, a7, a8⟩ := w_tg2
  rw [show [some (("bar" : Str), n), some (("halt" : Str), n)] = ([("bar", n), ("halt", n)] : List Step).map some from rfl, fault_all _ (by show 2 ≤ 8; decide)]
  simp [faultS, wrongs, wrongS, behind, a3, a4, a5, a6]
  rfl
theorem f_lockset (n o : Str) : fault (lockedR (some n) [some (("set" : Str), o)]) = none := by
  obtain ⟨a1, a2, a3, a4, a5, a6, a7, a8⟩ := w_tg2
  rw [show lockedR (some n) [some (("set" : Str), o)] = ([("take", n), ("set", o), ("give", n)] : List Step).map some from rfl, fault_all _ (by show 3 ≤ 8; decide)]
  simp [faultS, wrongs, wrongS, behind, a1, a2, a7, a8]
  rfl
theorem set_10 : ("set" : Str) ∈ W10 := by decide +kernel
def spLaw (K : PySem.W.Frag) : Sp := fun vs H Q _ => ∃ (a : Addr) (ns : List Int), vs = [.ref a] ∧ SqL K H a (ns.map V.int) ∧ ns.length ≤ 63 ∧ ∀ H', Q (.bl true) H'
section
variable {P : Program} {w : World} {K : PySem.W.Frag} {mg : Str → Option Value} {base : Heap}
abbrev sLaw : Stmt := top 39
theorem scLaw : FnScope ["_law_script", "_law_k", "_law_cell", "_law_pool_here", "_law_names", "_law_steps", "_law_more", "_law_row", "_law_other", "_law_due"] ["_law_script"] (defScope sLaw) := ⟨rfl, rfl, rfl, by decide +kernel, rfl, by decide +kernel, by decide +kernel⟩
theorem ok_law {f fP fD fCh fF fAd fTe fAm fTr fA fI fR fS fE fB fSh fLo pS pL C d CI CN : Addr} {fd fdP fdD fdCh fdF fdAd fdTe fdAm fdTr fdA fdS fdE fdB fdSh : FuncData} (F : Fun K "law" "law" sLaw f fd) (hW : ∀ w ∈ W10, ∃ u, PySem.W.nsIn K d w = some (some u)) (R : RowC K mg C fI fA fR)
    (GP : FnOk P w K mg base CX0 2 fP fdP ["_law_cell", "_law_salt", "_law_many"] (spPool K)) (TP : Called K mg "_law_pool" ["_law_cell", "_law_salt", "_law_many"] fP fdP)
    (GD : FnOk P w K mg base CX0 1 fD fdD ["_law_pool_here", "_law_many"] (spDraw K)) (TD : Called K mg "_law_draw" ["_law_pool_here", "_law_many"] fD fdD)
    (GCh : FnOk P w K mg base CX0 3 fCh fdCh ["_law_pool_here", "_law_names", "_law_most"] (spChosen K d)) (TCh : Called K mg "_law_chosen" ["_law_pool_here", "_law_names", "_law_most"] fCh fdCh)
    (GF : FnOk P w K mg base CX0 1 fF fdF ["_law_steps"] (spFault K)) (TF : Called K mg "_law_fault" ["_law_steps"] fF fdF)
    (GAd : FnOk P w K mg base CX0 7 fAd fdAd ["_law_row", "_law_other", "_law_both"] (spAddedL K C d)) (TAd : Called K mg "_law_added" ["_law_row", "_law_other", "_law_both"] fAd fdAd)
    (GTe : FnOkG P w K mg base CX0 8 fTe fdTe ["_law_row", "_law_steps"] (spTells K C d)) (TTe : Called K mg "_law_tells" ["_law_row", "_law_steps"] fTe fdTe)
    (GAm : FnOk P w K mg base CX0 4 fAm fdAm ["_law_row", "_law_steps", "_law_pool_here", "_law_names"] (spAmong K C d)) (TAm : Called K mg "_law_among" ["_law_row", "_law_steps", "_law_pool_here", "_law_names"] fAm fdAm)
    (GTr : FnOk P w K mg base CX0 1 fTr fdTr ["_law_found", "_law_due"] (spTruth K)) (TTr : Called K mg "_law_truth" ["_law_found", "_law_due"] fTr fdTr)
    (GI : FnR P w K mg base (L2.CX P w) 4 fI (spStar (spRI K d C CI)))
    (GA : FnOk P w K mg base (L2.CX P w) 6 fA fdA ["self", "other"] (spAdd K C d CI)) (bA : Binds K fdA ["self", "other"] [])
    (GS : FnOk P w K mg base CX0 1 fS fdS ["self"] (spSteps K C d)) (bS : Binds K fdS ["self"] []) (mS : Meth K C "steps" fS)
    (E : EqC K C fE) (GE : FnOk P w K mg base CX0 2 fE fdE ["self", "other"] (spEqR K C d)) (GE2 : FnOk P w K mg base CX0 2 fE fdE ["self", "other"] (spNeR K C d)) (bE : Binds K fdE ["self", "other"] [])
    (GB : FnOk P w K mg base CX0 1 fB fdB ["self", "other"] (spBegins K C d)) (bB : Binds K fdB ["self", "other"] []) (mB : Meth K C "begins" fB)
    (SS : SMet K C "shut" pS fSh) (GSh : FnOk P w K mg base (L2.CX P w) 6 fSh fdSh ["work"] (spShut K C d CI)) (bSh : Binds K fdSh ["work"] []) (SLo : SMet K C "locked" pL fLo) (GLo : FnR P w K mg base (L2.CX P w) 6 fLo (spStar (spLocked K C d CI)))
    (m_enumerate : mg "enumerate" = none) (m_int : mg "int" = none) (m_len : mg "len" = none) (m_tuple : mg "tuple" = none) : FnOkG P w K mg base CX0 9 f fd ["_law_script"] (spLaw K) := by
  refine F.okG scLaw (fun vs H Q E h => ?_) (fun cdv A outer s H vs Q E' hgd hr h => ?_)
  · obtain ⟨a, ns, rfl, _⟩ := h
    rfl
  · obtain ⟨a, ns, rfl, hS, hlen, q⟩ := h
    refine ⟨_, (pss_cons (ps_for PassesOwn.never rfl (pi_enum (by rfl) m_enumerate (pa_cons (pe_op op_cat (pe_slice sl_list (pv 0) po_none (po_some pe_int)) (pe_op op_rep (pe_lst (pa_cons pe_int pa_nil)) (pe_callTy call_int1 (by rfl) m_int (by decide +kernel) (pa_cons (pe_cmpR (op_eqD hr.units) (pv 0) (pe_lst pa_nil) (nomark _)) pa_nil)))) pa_nil)) (pg_tup rfl (pgs_cons (pg_name (i := 1) scLaw.nd rfl (.inl rfl)) (pgs_cons (pg_name (i := 2) scLaw.nd rfl (.inl rfl)) pgs_nil)))
       (pss_cons (ps_set (i := 3) scLaw.nd rfl (.inl rfl) (pe_call GP (hr.mono (by decide)) rfl TP.1 TP.2.1 TP.2.2 .nil pass0 (pa_cons (pv 2) (pa_cons (pe_op op_add pe_int (pv 1)) (pa_cons pe_int pa_nil)))))
       (pss_cons (ps_set (i := 4) scLaw.nd rfl (.inl rfl) (pe_ix (ix_listK (K := K) rfl) (pe_lst (pa_cons (pe_lst (pa_cons pe_str (pa_cons pe_str (pa_cons pe_str (pa_cons pe_str pa_nil))))) (pa_cons (pe_lst (pa_cons pe_str (pa_cons pe_str (pa_cons pe_str (pa_cons pe_str pa_nil))))) (pa_cons (pe_lst (pa_cons pe_str (pa_cons pe_str (pa_cons pe_str (pa_cons pe_str pa_nil))))) pa_nil)))) (pe_call GD (hr.mono (by decide)) rfl TD.1 TD.2.1 TD.2.2 .nil pass0 (pa_cons (pv 3) (pa_cons pe_int pa_nil))) (fun _ _ => rfl)))
       (pss_cons (ps_par (i := 5) (j := 6) rfl scLaw.nd rfl rfl (by decide) rfl rfl (pa_cons (pe_call GCh (hr.mono (by decide)) rfl TCh.1 TCh.2.1 TCh.2.2 .nil pass0 (pa_cons (pv 3) (pa_cons (pv 4) (pa_cons (pe_call GD (hr.mono (by decide)) rfl TD.1 TD.2.1 TD.2.2 .nil pass0 (pa_cons (pv 3) (pa_cons pe_int pa_nil))) pa_nil)))) (pa_cons (pe_call GCh (hr.mono (by decide)) rfl TCh.1 TCh.2.1 TCh.2.2 .nil pass0 (pa_cons (pv 3) (pa_cons (pv 4) (pa_cons (pe_call GD (hr.mono (by decide)) rfl TD.1 TD.2.1 TD.2.2 .nil pass0 (pa_cons (pv 3) (pa_cons pe_int pa_nil))) pa_nil)))) pa_nil)) (by rfl))
       (pss_cons (ps_set (i := 6) scLaw.nd rfl (.inl rfl) (pe_ifExp (pt_cmpR op_gt (pe_call GD (hr.mono (by decide)) rfl TD.1 TD.2.1 TD.2.2 .nil pass0 (pa_cons (pv 3) (pa_cons pe_int pa_nil))) pe_int (nomark _))
       (pv 6)
       (pe_op op_cat (pe_slice sl_list (pv 5) po_none (po_some (pe_call GD (hr.mono (by decide)) rfl TD.1 TD.2.1 TD.2.2 .nil pass0 (pa_cons (pv 3) (pa_cons pe_int pa_nil))))) (pe_slice sl_list (pv 6) po_none (po_some pe_int)))))
       (pss_cons (ps_set (i := 6) scLaw.nd rfl (.inl rfl) (pe_ifExp (PW.pt (pw_and (pt_cmpR op_isN (pe_call GF (hr.mono (by decide)) rfl TF.1 TF.2.1 TF.2.2 .nil pass0 (pa_cons (pv 6) pa_nil)) pe_non (nomark _)) (pw_and1 (pt_cmpR op_lt (pe_callB (call_len_K0 (K := K) rfl) (by rfl) m_len PySem.boot_len (pa_cons (pv 6) pa_nil)) pe_int (nomark _)))))
       (pv 6)
       (pe_lst pa_nil)))
       (pss_cons (ps_par (i := 7) (j := 8) rfl scLaw.nd rfl rfl (by decide) rfl rfl (pa_cons (pe_addTS (K := K) rfl R.add GA (hr.mono (by decide)) bA (fun σ => passAt takes0 σ) (pe_makeR0 R.mkC GI (hr.mono (by decide)) rfl R.g (passes_call takes0 (E := fun _ _ _ => False) fun _ _ _ _ h => h.elim)) (pe_callTy (call_tuple_K (K := K) rfl) (by rfl) m_tuple (by decide +kernel) (pa_cons (pv 5) pa_nil))) (pa_cons (pe_addTS (K := K) rfl R.add GA (hr.mono (by decide)) bA (fun σ => passAt takes0 σ) (pe_makeR0 R.mkC GI (hr.mono (by decide)) rfl R.g (passes_call takes0 (E := fun _ _ _ => False) fun _ _ _ _ h => h.elim)) (pe_callTy (call_tuple_K (K := K) rfl) (by rfl) m_tuple (by decide +kernel) (pa_cons (pv 6) pa_nil))) pa_nil)) (by rfl))
       (pss_cons (ps_if (PW.pt (pw_or (pt_not (pt_val (pe_call GAd (hr.mono (by decide)) rfl TAd.1 TAd.2.1 TAd.2.2 .nil pass0 (pa_cons (pv 7) (pa_cons (pv 8) (pa_cons (pe_op op_cat (pv 5) (pv 6)) pa_nil)))))) (pw_or1 (pt_not (pt_val (pe_call GAd (hr.mono (by decide)) rfl TAd.1 TAd.2.1 TAd.2.2 .nil pass0 (pa_cons (pv 8) (pa_cons (pv 7) (pa_cons (pe_op op_cat (pv 6) (pv 5)) pa_nil)))))))))
       (pss_one (ps_ret pe_bl))
       pss_nil)
       (pss_cons (ps_if (PW.pt (pw_or (pt_not (pt_val (pe_callG GTe hgd (hr.mono (by decide)) rfl TTe.1 TTe.2.1 TTe.2.2 pass0 (pa_cons (pv 7) (pa_cons (pv 5) pa_nil))))) (pw_or (pt_not (pt_val (pe_callG GTe hgd (hr.mono (by decide)) rfl TTe.1 TTe.2.1 TTe.2.2 pass0 (pa_cons (pv 8) (pa_cons (pv 6) pa_nil))))) (pw_or1 (pt_not (pt_val (pe_call GAm (hr.mono (by decide)) rfl TAm.1 TAm.2.1 TAm.2.2 .nil pass0 (pa_cons (pv 7) (pa_cons (pv 5) (pa_cons (pv 3) (pa_cons (pv 4) pa_nil)))))))))))
       (pss_one (ps_ret pe_bl))
       pss_nil)
       (pss_cons (ps_if (PW.pt (pw_or (pt_cmpR op_ne (pe_cmpR (Nm.op_eqOwn (E := E0) (K := K) rfl E.hs E.hf GE (hr.mono (by decide)) bE pass0) (pv 7) (pv 8) (nomark _)) (pe_cmpR (Nm.op_eqDK (K := K) rfl hr.units) (pv 5) (pv 6) (nomark _)) (nomark _)) (pw_or (pt_cmpR (Nm.op_eqOwn (E := E0) (K := K) rfl E.hs E.hf GE2 (hr.mono (by decide)) bE pass0) (pv 7) (pv 5) (nomark _)) (pw_or1 (pt_cmpR (Nm.op_eqOwn (E := E0) (K := K) rfl E.hs E.hf GE2 (hr.mono (by decide)) bE pass0) (pv 7) (pe_callTy (call_tuple_K (K := K) rfl) (by rfl) m_tuple (by decide +kernel) (pa_cons (pv 5) pa_nil)) (nomark _))))))
       (pss_one (ps_ret pe_bl))
       pss_nil)
       (pss_cons (ps_if (PW.pt (pw_or (pt_not (pt_val (pe_call GTr (hr.mono (by decide)) rfl TTr.1 TTr.2.1 TTr.2.2 .nil pass0 (pa_cons (pe_meth (pv 7) R.cl mB GB (hr.mono (by decide)) bB .nil pass0 (pa_cons (pv 8) pa_nil)) (pa_cons (pe_cmpR (op_eqD hr.units) (pe_slice sl_list (pv 6) po_none (po_some (pe_callB (call_len_K0 (K := K) rfl) (by rfl) m_len PySem.boot_len (pa_cons (pv 5) pa_nil)))) (pv 5) (nomark _)) pa_nil))))) (pw_or1 (pt_not (pt_val (pe_call GTr (hr.mono (by decide)) rfl TTr.1 TTr.2.1 TTr.2.2 .nil pass0 (pa_cons (pe_meth (pv 7) R.cl mB GB (hr.mono (by decide)) bB .nil pass0 (pa_cons (pe_addTS (K := K) rfl R.add GA (hr.mono (by decide)) bA (fun σ => passAt takes0 σ) (pv 7) (pe_tup pa_nil)) pa_nil)) (pa_cons pe_bl pa_nil))))))))
       (pss_one (ps_ret pe_bl))
       pss_nil)
       (pss_cons (ps_if (pt_cmpR (op_neD hr.units) (pe_meth0 (pe_smeth (E := fun _ _ _ _ => False) (pe_glob (v := .ref C) rfl R.g rfl) SS (GSh.raw bSh .nil) (hr.mono (by decide)) (fun σ => passAt takes0 σ) (pa_cons (pe_ix (ix_listK (K := K) rfl) (pv 4) pe_int (fun _ _ => rfl)) pa_nil)) R.cl mS GS (hr.mono (by decide)) bS .nil pass0) (pe_lst (pa_cons (pe_tup (pa_cons pe_str (pa_cons (pe_ix (ix_listK (K := K) rfl) (pv 4) pe_int (fun _ _ => rfl)) pa_nil))) (pa_cons (pe_tup (pa_cons pe_str (pa_cons (pe_ix (ix_listK (K := K) rfl) (pv 4) pe_int (fun _ _ => rfl)) pa_nil))) pa_nil))) (nomark _))
       (pss_one (ps_ret pe_bl))
       pss_nil)
       (pss_cons (ps_set (i := 9) scLaw.nd rfl (.inl rfl) (pe_lst (pa_cons (pe_tup (pa_cons pe_str (pa_cons (pe_ix (ix_listK (K := K) rfl) (pv 4) pe_int (fun _ _ => rfl)) pa_nil))) (pa_cons (pe_tup (pa_cons pe_str (pa_cons (pe_ix (ix_listK (K := K) rfl) (pv 4) pe_int (fun _ _ => rfl)) pa_nil))) (pa_cons (pe_tup (pa_cons pe_str (pa_cons (pe_ix (ix_listK (K := K) rfl) (pv 4) pe_int (fun _ _ => rfl)) pa_nil))) pa_nil)))))
       (pss_one (ps_if (pt_cmpR (op_neD hr.units) (pe_meth0 (pe_smeth (E := fun _ _ _ _ => False) (pe_glob (v := .ref C) rfl R.g rfl) SLo GLo (hr.mono (by decide)) (fun σ => passAt takes0 σ) (pa_cons (pe_ix (ix_listK (K := K) rfl) (pv 4) pe_int (fun _ _ => rfl)) (pa_cons (pe_tup (pa_cons pe_str (pa_cons (pe_ix (ix_listK (K := K) rfl) (pv 4) pe_int (fun _ _ => rfl)) pa_nil))) pa_nil))) R.cl mS GS (hr.mono (by decide)) bS .nil pass0) (pv 9) (nomark _))
       (pss_one (ps_ret pe_bl))
       pss_nil)))))))))))))))
       (pss_one (ps_ret pe_bl))), ?_⟩
    refine ⟨.ref a, rfl, 4, rfl, a, ns.map V.int, rfl, hS, fun c nc => ?_⟩
    have t0 := same_upd (o := HO.lst (cutV (ns.map V.int) none (some 4))) nc
    refine ⟨(by show 1 ≤ sizeLine; decide), fun l nl => ?_⟩
    have t1 := same_upd (o := HO.lst [V.int 7]) nl
    refine ⟨.ref a, rfl, (by show 0 ≤ sizeLine; decide), fun e ne => ?_⟩
    have t2 := same_upd (o := HO.lst []) ne
    refine ⟨.list (ns.map .int), .list [], .lst (((t0.trans t1).trans t2).seq hS) (dp_ints ns), .lst (SqL.of upd_same) .nil, shaped_ints ns, (by decide), ?_⟩
    generalize PyData.eqv (.list (ns.map .int)) (.list []) = b
    refine .inr ⟨b, rfl, ?_⟩
    have hb : ∃ k : Nat, k ≤ 1 ∧ (if b = true then (1 : Int) else 0) = k := by
      cases b
      · exact ⟨0, by decide, rfl⟩
      · exact ⟨1, by decide, rfl⟩
    obtain ⟨kb, hk1, hkb⟩ := hb
    rw [hkb]
    obtain ⟨ms, hms, hml⟩ := ints_of_cut ns 4 kb
    refine ⟨l, kb, _, rfl, rfl, t2 _ _ upd_same, by omega, by omega, ?_, fun r nr => ?_⟩
    · show 1 * ((kb : Int)).toNat ≤ sizeLine
      rw [sizeLine_eq]
      omega
    have t3 := same_upd (o := HO.lst (List.replicate ((kb : Int)).toNat [V.int 7]).flatten) nr
    refine ⟨c, r, _, _, rfl, rfl, ((t1.trans t2).trans t3) _ _ upd_same, upd_same, ?_, fun L nL => ?_⟩
    · have z : (cutV (ns.map V.int) none (some 4)).length ≤ (ns.map V.int).length := cutV_length _ _ _
      have z2 : (List.replicate ((kb : Int)).toNat [V.int 7]).flatten.length ≤ 1 := by
        match kb, hk1 with
        | 0, _ => decide
        | 1, _ => decide
      rw [List.length_map] at z
      rw [sizeLine_eq]
      omega
    have t4 := same_upd (o := HO.lst (cutV (ns.map V.int) none (some 4) ++ (List.replicate ((kb : Int)).toNat [V.int 7]).flatten)) nL
    have hms' : cutV (ns.map V.int) none (some 4) ++ (List.replicate ((kb : Int)).toNat [V.int 7]).flatten = ms.map V.int := hms
    rw [hms']
    rw [hms'] at t4
    have hml2 : ms.length ≤ 64 := by omega
    refine ⟨L, ms.map V.int, rfl, SqL.of upd_same, for_enum (K := K) (a := L) (xs := ms.map V.int)
      (fun i σ H' => ∃ v1 v2 v3 v4 v5 v6 v7 v8 v9 : Option V, σ = [some (.ref a), v1, v2, v3, v4, v5, v6, v7, v8, v9] ∧ H' L = some (.lst (ms.map V.int)))
      ⟨none, none, none, none, none, none, none, none, none, rfl, upd_same⟩ (fun i σ H' _ ⟨_, _, _, _, _, _, _, _, _, _, hL⟩ => SqL.of hL) ?_ ?_⟩
    · rintro i x σ H1 T1 hxi ⟨v1, v2, v3, v4, v5, v6, v7, v8, v9, rfl, hL⟩ nT
      have hi : i < ms.length := by
        have z := (List.getElem?_eq_some_iff.mp hxi).1
        rw [List.length_map] at z
        exact z
      obtain ⟨cell, rfl⟩ : ∃ cell : Int, x = .int cell := by
        rw [List.getElem?_map] at hxi
        obtain ⟨y, _, hy⟩ := Option.map_eq_some_iff.mp hxi
        exact ⟨y, hy.symm⟩
      have u0 := same_upd (o := .tup [.int (i : Nat), .int cell]) nT
      refine ⟨T1, _, rfl, SqT.of upd_same, rfl, _, _, rfl, _, _, rfl, rfl, ?_⟩
      refine ⟨_, rfl, _, rfl, _, _, rfl, rfl, cell, 1000 + (i : Nat), 160, rfl, by omega, by omega, by decide, by decide, fun H2 o qq s2 no hp2 => ?_⟩
      have s02 := u0.trans s2
      have hL2 := s02 _ _ hL
      have nLo : L ≠ o := ne_of_none (u0 _ _ hL) no
      obtain ⟨ob, hob⟩ : ∃ ob, H2 o = some ob := by
        obtain ⟨_, _, z, _⟩ := hp2
        exact ⟨_, z⟩
      refine ⟨by show 4 ≤ sizeLine; decide, fun l0 nl0 => ?_⟩
      have a0 := same_upd (o := HO.lst [V.str "a", V.str "ab", V.str "b", V.str "bar"]) nl0
      have e0 : (upd H2 l0 (.lst [V.str "a", V.str "ab", V.str "b", V.str "bar"])) l0 = some (.lst [V.str "a", V.str "ab", V.str "b", V.str "bar"]) := upd_same
      have o0 : l0 ≠ o := (ne_of_none ((Same.refl H2) _ _ hob) nl0).symm
      generalize upd H2 l0 (.lst [V.str "a", V.str "ab", V.str "b", V.str "bar"]) = H3 at a0 e0
      refine ⟨by show 4 ≤ sizeLine; decide, fun l1 nl1 => ?_⟩
      have a1 := same_upd (o := HO.lst [V.str "abcdefgh", V.str "w", V.str "ww", V.str "l"]) nl1
      have e1 : (upd H3 l1 (.lst [V.str "abcdefgh", V.str "w", V.str "ww", V.str "l"])) l1 = some (.lst [V.str "abcdefgh", V.str "w", V.str "ww", V.str "l"]) := upd_same
      have o1 : l1 ≠ o := (ne_of_none (a0 _ _ hob) nl1).symm
      generalize upd H3 l1 (.lst [V.str "abcdefgh", V.str "w", V.str "ww", V.str "l"]) = H4 at a1 e1
      refine ⟨by show 4 ≤ sizeLine; decide, fun l2 nl2 => ?_⟩
      have a2 := same_upd (o := HO.lst [V.str "x", V.str "y", V.str "z", V.str "take"]) nl2
      have e2 : (upd H4 l2 (.lst [V.str "x", V.str "y", V.str "z", V.str "take"])) l2 = some (.lst [V.str "x", V.str "y", V.str "z", V.str "take"]) := upd_same
      have o2 : l2 ≠ o := (ne_of_none ((a0.trans a1) _ _ hob) nl2).symm
      generalize upd H4 l2 (.lst [V.str "x", V.str "y", V.str "z", V.str "take"]) = H5 at a2 e2
      refine ⟨by show 3 ≤ sizeLine; decide, fun l3 nl3 => ?_⟩
      have a3 := same_upd (o := HO.lst [V.ref l0, V.ref l1, V.ref l2]) nl3
      have e3 : (upd H5 l3 (.lst [V.ref l0, V.ref l1, V.ref l2])) l3 = some (.lst [V.ref l0, V.ref l1, V.ref l2]) := upd_same
      have o3 : l3 ≠ o := (ne_of_none (((a0.trans a1).trans a2) _ _ hob) nl3).symm
      generalize upd H5 l3 (.lst [V.ref l0, V.ref l1, V.ref l2]) = H6 at a3 e3
      have a06 := ((a0.trans a1).trans a2).trans a3
      refine ⟨_, rfl, o, qq, 3, rfl, hp2.same a06, by decide, by decide, fun H7 dn b7 hp7 dn0 dn3 => ?_⟩
      obtain ⟨nl, ns4, hat, hnl, nlo, n4, nok⟩ : ∃ (nl : Addr) (ns4 : List Str), atI [V.ref l0, V.ref l1, V.ref l2] dn = some (.ref nl) ∧ H7 nl = some (.lst (ns4.map V.str)) ∧ nl ≠ o ∧ ns4.length = 4 ∧ ∀ n ∈ ns4, NmOk n := by
        have hd : dn = 0 ∨ dn = 1 ∨ dn = 2 := by omega
        rcases hd with rfl | rfl | rfl
        · exact ⟨l0, ["a", "ab", "b", "bar"], rfl, b7 _ _ o0 (((a1.trans a2).trans a3) _ _ e0), o0, rfl, names_a⟩
        · exact ⟨l1, ["abcdefgh", "w", "ww", "l"], rfl, b7 _ _ o1 ((a2.trans a3) _ _ e1), o1, rfl, names_b⟩
        · exact ⟨l2, ["x", "y", "z", "take"], rfl, b7 _ _ o2 (a3 _ _ e2), o2, rfl, names_c⟩
      refine ⟨l3, _, dn, .ref nl, rfl, rfl, SqL.of (b7 _ _ o3 e3), hat, ?_⟩
      have ns0 : ns4 ≠ [] := fun z => by rw [z] at n4; cases n4
      have hL7 := b7 _ _ nLo (a06 _ _ hL2)
      clear a0 a1 a2 a3 a06 e0 e1 e2 e3 b7 hp2 hob nl0 nl1 nl2 nl3
      refine name_in ?_
      refine seqS_in ?_
      refine ⟨_, rfl, _, rfl, _, rfl, o, qq, 9, rfl, hp7, by decide, by decide, fun H8 d1 b8 hp8 c0 c1 => ?_⟩
      obtain ⟨m1, rfl⟩ : ∃ m : Nat, d1 = (m : Nat) := ⟨d1.toNat, by rw [Int.toNat_of_nonneg c0]⟩
      refine ⟨o, qq, nl, ns4, m1, rfl, hp8, SqL.of (b8 _ _ nlo hnl), nlo, ns0, by omega, nok, by omega, fun H9 ls xs ss b9 hp9 nls rl9 nw9 z9 => ?_⟩
      refine ⟨_, rfl, _, rfl, _, rfl, o, qq, 9, rfl, hp9, by decide, by decide, fun H10 d2 b10 hp10 c2 c3 => ?_⟩
      obtain ⟨m2, rfl⟩ : ∃ m : Nat, d2 = (m : Nat) := ⟨d2.toNat, by rw [Int.toNat_of_nonneg c2]⟩
      refine ⟨o, qq, nl, ns4, m2, rfl, hp10, SqL.of (b10 _ _ nlo (b9 _ _ nlo (b8 _ _ nlo hnl))), nlo, ns0, by omega, nok, by omega, fun H11 lm ym sm b11 hp11 nlm rl11 nw11 z11 => ?_⟩
      refine ⟨_, _, rfl, ?_⟩
      have lso : ls ≠ o := hp8.ne nls
      have lmo : lm ≠ o := hp10.ne nlm
      have rs11 := ((rl9.pool b10 hp9 lso)).pool b11 hp10 lso
      have hnl11 := b11 _ _ nlo (b10 _ _ nlo (b9 _ _ nlo (b8 _ _ nlo hnl)))
      have hL11 := b11 _ _ nLo (b10 _ _ nLo (b9 _ _ nLo (b8 _ _ nLo hL7)))
      clear b8 b9 b10 b11 hp8 hp9 hp10 rl9 nls nlm hL7 hnl
      try dsimp only
      refine seqS_in ?_
      try dsimp only
      refine asg_via (fun v H12 => ∃ (l1 : Addr) (x1 : List V) (s1 : List Step), v = .ref l1 ∧ RowL K d H12 l1 x1 s1 ∧ s1.length ≤ 9 ∧ l1 ≠ o ∧ RowL K d H12 ls xs ss ∧ PoolAt H12 o qq ∧ H12 nl = some (.lst (ns4.map V.str)) ∧ H12 L = some (.lst (ms.map V.int))) ?_ ?_
      · intro QQ hQ
        refine ⟨_, rfl, o, qq, 3, rfl, hp11, by decide, by decide, fun H12 d3 b12 hp12 f0 f1 => ?_⟩
        have rl12 := rl11.pool b12 hp11 lmo
        have rs12 := rs11.pool b12 hp11 lso
        refine ⟨d3, 0, rfl, rfl, _, rfl, ?_⟩
        by_cases h3 : 0 < d3
        · rw [decide_eq_true h3]
          exact iteT ⟨_, rfl, hQ _ _ ⟨lm, ym, sm, rfl, rl12, by omega, lmo, rs12, hp12, b12 _ _ nlo hnl11, b12 _ _ nLo hL11⟩⟩
        · rw [decide_eq_false h3]
          refine iteF ?_
          refine ⟨_, rfl, ?_⟩
          dsimp only [tNoPart]
          refine ⟨_, rfl, o, qq, 9, rfl, hp12, by decide, by decide, fun H13 d4 b13 hp13 g0 g1 => ?_⟩
          obtain ⟨m4, rfl⟩ : ∃ m : Nat, d4 = (m : Nat) := ⟨d4.toNat, by rw [Int.toNat_of_nonneg g0]⟩
          have rl13 := rl12.pool b13 hp12 lmo
          have rs13 := rs12.pool b13 hp12 lso
          refine ⟨_, rfl, ls, xs, rfl, SqL.of rs13.at_, fun y1 ny1 => ?_⟩
          have t1 := same_upd (o := HO.lst (cutV xs none (some (m4 : Int)))) ny1
          have e1 : (upd H13 y1 (.lst (cutV xs none (some (m4 : Int))))) y1 = some (.lst (xs.take m4)) := by rw [upd_same, cut_any]
          generalize upd H13 y1 (.lst (cutV xs none (some (m4 : Int)))) = H14 at t1 e1
          refine ⟨_, rfl, ?_⟩
          dsimp only [tNoPart]
          refine ⟨_, rfl, lm, ym, rfl, SqL.of (t1 _ _ rl13.at_), fun y2 ny2 => ?_⟩
          have t2 := same_upd (o := HO.lst (cutV ym none (some 1))) ny2
          have e2 : (upd H14 y2 (.lst (cutV ym none (some 1)))) y2 = some (.lst (ym.take 1)) := by rw [upd_same]; exact congrArg (fun z => some (HO.lst z)) (cut_any ym 1)
          generalize upd H14 y2 (.lst (cutV ym none (some 1))) = H15 at t2 e2
          have lx := rs13.row.length
          have lx2 := rl13.row.length
          refine ⟨y1, y2, _, _, rfl, rfl, t2 _ _ e1, e2, by rw [List.length_take, List.length_take, sizeLine_eq]; omega, fun y3 ny3 => ?_⟩
          have t3 := same_upd (o := HO.lst (xs.take m4 ++ ym.take 1)) ny3
          have t := (t1.trans t2).trans t3
          have y3o := (hp13.same (t1.trans t2)).ne ny3
          refine hQ _ _ ⟨y3, xs.take m4 ++ ym.take 1, ss.take m4 ++ sm.take 1, rfl, ⟨upd_same, ((rs13.row.same t).take m4).append ((rl13.row.same t).take 1), fun s hs => ?_⟩, by rw [List.length_append, List.length_take, List.length_take]; omega, y3o, rs13.same t, hp13.same t, t _ _ (b13 _ _ nlo (b12 _ _ nlo hnl11)), t _ _ (b13 _ _ nLo (b12 _ _ nLo hL11))⟩
          rcases List.mem_append.mp hs with hs | hs
          · exact rs13.ok s (List.mem_of_mem_take hs)
          · exact rl13.ok s (List.mem_of_mem_take hs)
      rintro v H12 ⟨l1, x1, s1, rfl, rl12, z12, lo1, rs12, hp12, hnl12, hL12⟩
      refine name_in ?_
      try dsimp only
      refine seqS_in ?_
      try dsimp only
      refine asg_via (fun v H13 => ∃ (l2 : Addr) (x2 : List V) (s2 : List Step), v = .ref l2 ∧ RowL K d H13 l2 x2 s2 ∧ s2.length ≤ 8 ∧ (∀ b ∈ wrongs s2 [] [], b = false) ∧ l2 ≠ o ∧ RowL K d H13 ls xs ss ∧ PoolAt H13 o qq ∧ H13 nl = some (.lst (ns4.map V.str)) ∧ H13 L = some (.lst (ms.map V.int))) ?_ ?_
      · intro QQ hQ
        have good1 : ∀ s ∈ s1, GoodS s := good_of (of_rowAt rl12.row)
        have len1 := rl12.row.length
        have none_ : ∀ H13, Same H12 H13 → ∀ l2, H13 l2 = none → QQ (.ref l2) (upd H13 l2 (.lst [])) := fun H13 s13 l2 n2 => by
          have t := s13.trans (same_upd (o := HO.lst []) n2)
          exact hQ _ _ ⟨l2, [], [], rfl, ⟨upd_same, .nil, fun s hs => nomatch hs⟩, Nat.zero_le _, (fun b hb => nomatch hb), (hp12.same s13).ne n2, rs12.same t, hp12.same t, t _ _ hnl12, t _ _ hL12⟩
        refine ⟨_, rfl, l1, x1, s1, rfl, SqL.of rl12.at_, row_steps rl12.row, good1, by omega, fun H13 s13 => ⟨rfl, _, rfl, ?_⟩⟩
        cases hx : (wrongs s1 [] []).findIdx? id with
        | none =>
          rw [show decide (optV none = V.non) = true from decide_eq_true rfl]
          refine iteT ?_
          refine ⟨_, rfl, l1, x1, rfl, .inl (SqL.of (s13 _ _ rl12.at_)), _, (9 : Int), rfl, rfl, _, rfl, ?_⟩
          rw [len1]
          by_cases h9 : ((s1.length : Nat) : Int) < 9
          · rw [decide_eq_true h9]
            exact iteT ⟨_, rfl, hQ _ _ ⟨l1, x1, s1, rfl, rl12.same s13, by omega, no_find hx, lo1, rs12.same s13, hp12.same s13, s13 _ _ hnl12, s13 _ _ hL12⟩⟩
          · rw [decide_eq_false h9]
            exact iteF ⟨Nat.zero_le _, fun l2 n2 => none_ _ s13 l2 n2⟩
        | some k =>
          rw [show decide (optV (some k) = V.non) = false from decide_eq_false fun z => by cases z]
          exact iteF (iteF ⟨Nat.zero_le _, fun l2 n2 => none_ _ s13 l2 n2⟩)
      rintro v H13 ⟨l2, x2, s2, rfl, rl13, z13, nw13, lo2, rs13, hp13, hnl13, hL13⟩
      refine name_in ?_
      try dsimp only
      refine seqS_in ?_
      try dsimp only
      refine cons_in (ops_in2 ?_)
      refine make0 (d := d) (CI := CI) fun ra0 Ha1 sa1 rowa0 => ?_
      refine ⟨_, rfl, ls, _, rfl, .inl ⟨SqL.of (sa1 _ _ (rs13).at_), fun ta nta => ?_⟩⟩
      have sa2 := same_upd (o := HO.tup xs) nta
      have hta : SqT K (upd Ha1 ta (.tup xs)) ta xs := SqT.of upd_same
      generalize upd Ha1 ta (.tup xs) = Ha2 at sa2 hta
      have rowa1 := rowa0.same sa2
      obtain ⟨dxa, _, _, _, _, kxa, _⟩ := id rowa1
      refine ⟨ra0, dxa, _, "tuple", rfl, kxa, tyx_tup hta, R.aT "tuple" (by decide), ra0, .ref ta, [], some (ss.map some), rfl, rowa1, .tup hta (of_rowAt ((rs13).row.same (sa1.trans sa2))), Nat.zero_le _, (fun _ e => by cases e; rw [List.length_map]; omega), (fun _ e => ?_), fun e => nomatch e⟩
      cases e
      refine ⟨fun _ usa eua ra Ha3 sa3 rowa => ⟨⟨ra, rfl⟩, ?_⟩, fun v hv => ?_⟩
      rotate_left
      · have hv2 : fault (ss.map some) = some v := hv
        rw [fault_no z9 nw9] at hv2
        cases hv2
      have eusa : usa = ss := ((List.map_inj_right (fun _ _ h => Option.some.inj h)).mp eua).symm
      subst eusa
      have qa := (sa1.trans sa2).trans sa3
      refine cons_in (ops_in2 ?_)
      refine make0 (d := d) (CI := CI) fun rb0 Hb1 sb1 rowb0 => ?_
      refine ⟨_, rfl, l2, _, rfl, .inl ⟨SqL.of (sb1 _ _ (rl13.same qa).at_), fun tb ntb => ?_⟩⟩
      have sb2 := same_upd (o := HO.tup x2) ntb
      have htb : SqT K (upd Hb1 tb (.tup x2)) tb x2 := SqT.of upd_same
      generalize upd Hb1 tb (.tup x2) = Hb2 at sb2 htb
      have rowb1 := rowb0.same sb2
      obtain ⟨dxb, _, _, _, _, kxb, _⟩ := id rowb1
      refine ⟨rb0, dxb, _, "tuple", rfl, kxb, tyx_tup htb, R.aT "tuple" (by decide), rb0, .ref tb, [], some (s2.map some), rfl, rowb1, .tup htb (of_rowAt ((rl13.same qa).row.same (sb1.trans sb2))), Nat.zero_le _, (fun _ e => by cases e; rw [List.length_map]; omega), (fun _ e => ?_), fun e => nomatch e⟩
      cases e
      refine ⟨fun _ usb eub rb Hb3 sb3 rowb => ⟨⟨rb, rfl⟩, ?_⟩, fun v hv => ?_⟩
      rotate_left
      · have hv2 : fault (s2.map some) = some v := hv
        rw [fault_no z13 nw13] at hv2
        cases hv2
      have eusb : usb = s2 := ((List.map_inj_right (fun _ _ h => Option.some.inj h)).mp eub).symm
      subst eusb
      have qb := (sb1.trans sb2).trans sb3
      have qab := qa.trans qb
      refine nil_in ⟨_, _, rfl, ?_⟩
      have rowA := rowa.same qb
      have rsb := rs13.same qab
      have rlb := rl13.same qab
      have hpb := hp13.same qab
      have hnlb := qab _ _ hnl13
      have hLb := qab _ _ hL13
      try dsimp only
      refine seqS_in ?_
      try dsimp only
      refine ifS_via (fun b H' => b = false ∧ Same Hb3 H') ?_ ?_
      · intro QQ hQ
        refine ⟨_, rfl, _, rfl, _, rfl, _, rfl, ls, l2, _, _, rfl, rfl, rsb.at_, rlb.at_, by have := rsb.row.length; have := rlb.row.length; rw [sizeLine_eq]; omega, fun y1 ny1 => ?_⟩
        have t1 := same_upd (o := HO.lst (xs ++ x2)) ny1
        refine ⟨ra, rb, y1, _, _, _, rfl, rowA.same t1, rowb.same t1, SqL.of upd_same, (rsb.row.same t1).append (rlb.row.same t1), z9, z13, fun H14 s14 => ⟨_, rfl, ?_⟩⟩
        refine iteF ?_
        have t2 := t1.trans s14
        refine ⟨_, rfl, _, rfl, _, rfl, _, rfl, l2, ls, _, _, rfl, rfl, t2 _ _ rlb.at_, t2 _ _ rsb.at_, by have := rsb.row.length; have := rlb.row.length; rw [sizeLine_eq]; omega, fun y2 ny2 => ?_⟩
        have t3 := t2.trans (same_upd (o := HO.lst (x2 ++ xs)) ny2)
        refine ⟨rb, ra, y2, _, _, _, rfl, rowb.same t3, rowA.same t3, SqL.of upd_same, (rlb.row.same t3).append (rsb.row.same t3), z13, z9, fun H15 s15 => ⟨_, rfl, ?_⟩⟩
        exact hQ _ _ ⟨rfl, t3.trans s15⟩
      rintro b H14 ⟨rfl, s14⟩
      refine iteF ?_
      dsimp only [tNext]
      refine seqS_in ?_
      have rowA4 := rowA.same s14
      have rowB4 := rowb.same s14
      have rs4 := rsb.same s14
      have rl4 := rlb.same s14
      have hp4 := hpb.same s14
      refine ifS_via (fun b H' => b = false ∧ SameBut o H14 H' ∧ PoolAt H' o qq) ?_ ?_
      · intro QQ hQ
        refine ⟨_, rfl, _, rfl, ra, ls, _, _, rfl, rowA4, rs4, nw9, z9, fun H15 s15 => ⟨_, rfl, ?_⟩⟩
        refine iteF ?_
        refine ⟨_, rfl, _, rfl, rb, l2, _, _, rfl, rowB4.same s15, rl4.same s15, nw13, z13, fun H16 s16 => ⟨_, rfl, ?_⟩⟩
        refine iteF ?_
        have t := s15.trans s16
        refine ⟨_, rfl, _, rfl, _, rfl, _, rfl, ra, ls, o, qq, nl, _, _, ns4, rfl, rowA4.same t, rs4.same t, hp4.same t, lso, SqL.of (t _ _ (s14 _ _ hnlb)), nlo, ns0, by omega, nok, z9, fun H17 b17 p17 => ⟨_, rfl, ?_⟩⟩
        exact hQ _ _ ⟨rfl, (but_of t).trans b17, p17⟩
      rintro b H15 ⟨rfl, b15, hp15⟩
      refine iteF ?_
      dsimp only [tNext]
      refine seqS_in ?_
      have rowA5 := rowA4.pool b15 hp4
      have rowB5 := rowB4.pool b15 hp4
      have rs5 := rs4.pool b15 hp4 lso
      have rl5 := rl4.pool b15 hp4 lo2
      have hnl5 := b15 _ _ nlo (s14 _ _ hnlb)
      have hL5 := b15 _ _ nLo (s14 _ _ hLb)
      have goodS := good_of (of_rowAt rs5.row)
      have goodL := good_of (of_rowAt rl5.row)
      refine ifS_via (fun b H' => b = false ∧ Same H15 H') ?_ ?_
      · intro QQ hQ
        obtain ⟨dx5, fs5, k5, _⟩ := row_ins3 rowA5
        refine ⟨_, rfl, _, rfl, ra, dx5, fs5, .ref C, rfl, k5, row_ty R rowB5, E.nf, ra, rb, _, _, rfl, rowA5, rowB5, ?_⟩
        refine ⟨_, rfl, _, rfl, _, _, .lst (SqL.of rs5.at_) (row_steps rs5.row).dp, .lst (SqL.of rl5.at_) (row_steps rl5.row).dp, stepsL_shaped goodS, stepsL_shaped goodL, ?_⟩
        rw [eqv_stepsL]
        refine ⟨rfl, _, rfl, ?_⟩
        rw [decide_eq_true rfl]
        refine iteF ?_
        refine ⟨_, rfl, _, rfl, ra, dx5, fs5, .type "list", rfl, k5, .base (.lst rs5.at_), E.nt "list" (by decide), ra, .ref ls, "list", rfl, .base (.lst rs5.at_), by decide, _, rfl, ?_⟩
        refine iteF ?_
        refine ⟨_, rfl, _, rfl, ls, _, rfl, .inl ⟨SqL.of rs5.at_, fun t nt => ?_⟩⟩
        have st := same_upd (o := HO.tup xs) nt
        have ht : SqT K (upd H15 t (.tup xs)) t xs := SqT.of upd_same
        refine ⟨ra, dx5, fs5, .type "tuple", rfl, st _ _ k5, tyx_tup ht, E.nt "tuple" (by decide), ra, .ref t, "tuple", rfl, tyx_tup ht, by decide, _, rfl, ?_⟩
        exact hQ _ _ ⟨rfl, st⟩
      rintro b H16 ⟨rfl, s16⟩
      refine iteF ?_
      dsimp only [tNext]
      refine seqS_in ?_
      have rowA6 := rowA5.same s16
      have rowB6 := rowB5.same s16
      have rs6 := rs5.same s16
      have rl6 := rl5.same s16
      refine ifS_via (fun b H' => b = false ∧ Same H16 H') ?_ ?_
      · intro QQ hQ
        obtain ⟨dx6, fs6, k6, _, _, _, _, lb6⟩ := row_ins3 rowA6
        refine ⟨_, rfl, ra, dx6, fs6, rfl, k6, lb6, _, rfl, ra, rb, _, _, rfl, rowA6, rowB6, by omega, by omega, fun H17 s17 => ?_⟩
        refine ⟨_, rfl, ?_⟩
        dsimp only [tNoPart]
        refine ⟨_, rfl, ls, _, rfl, .inl (SqL.of (s17 _ _ rs6.at_)), _, rfl, l2, x2, rfl, SqL.of (s17 _ _ rl6.at_), fun y ny => ?_⟩
        rw [rs6.row.length]
        have sy := same_upd (o := HO.lst (cutV x2 none (some ((usa.length : Nat) : Int)))) ny
        have ey : (upd H17 y (.lst (cutV x2 none (some ((usa.length : Nat) : Int))))) y = some (.lst (x2.take usa.length)) := by rw [upd_same, cut_any]
        generalize upd H17 y (.lst (cutV x2 none (some ((usa.length : Nat) : Int)))) = H18 at sy ey
        have t18 := s17.trans sy
        have rt := (rl6.row.same t18).take usa.length
        have rs7 := rs6.same t18
        refine ⟨_, rfl, _, _, .lst (SqL.of ey) (row_steps rt).dp, .lst (SqL.of rs7.at_) (row_steps rs7.row).dp, stepsL_shaped fun z hz => goodL z (List.mem_of_mem_take hz), stepsL_shaped goodS, ?_⟩
        rw [eqv_stepsL]
        refine ⟨_, _, rfl, fun H19 s19 => ⟨_, rfl, ?_⟩⟩
        rw [decide_eq_true rfl]
        refine iteF ?_
        have t19 := t18.trans s19
        refine ⟨_, rfl, ra, dx6, fs6, rfl, t19 _ _ k6, lb6, _, rfl, by show 0 ≤ sizeLine; decide, fun p0 np0 => ?_⟩
        have sp0 := same_upd (o := HO.tup []) np0
        have hp0 : SqT K (upd H19 p0 (.tup [])) p0 [] := SqT.of upd_same
        generalize upd H19 p0 (.tup []) = H20 at sp0 hp0
        have t20 := t19.trans sp0
        refine ⟨ra, dx6, fs6, "tuple", rfl, t20 _ _ k6, tyx_tup hp0, R.aT "tuple" (by decide), ra, .ref p0, usa, some [], rfl, rowA6.same t20, .tup hp0 .nil, by omega, (fun _ e => by cases e; decide), (fun _ e => ?_), fun e => nomatch e⟩
        cases e
        refine ⟨fun _ us eu x H21 s21 row => ⟨⟨x, rfl⟩, ?_⟩, fun v hv => ?_⟩
        rotate_left
        · have hv2 : fault (usa.map some ++ []) = some v := hv
          rw [List.append_nil, fault_no z9 nw9] at hv2
          cases hv2
        replace eu : usa.map some ++ [] = us.map some := eu
        rw [List.append_nil] at eu
        have eus : us = usa := ((List.map_inj_right (fun _ _ h => Option.some.inj h)).mp eu).symm
        subst eus
        refine ⟨ra, x, _, _, rfl, rowA6.same (t20.trans s21), row, by omega, by omega, fun H22 s22 => ?_⟩
        refine ⟨_, _, rfl, fun H23 s23 => ⟨_, rfl, ?_⟩⟩
        rw [List.take_length, decide_eq_true rfl]
        exact hQ _ _ ⟨rfl, ((t20.trans s21).trans s22).trans s23⟩
      rintro b H17 ⟨rfl, s17⟩
      refine iteF ?_
      dsimp only [tNext]
      refine seqS_in ?_
      obtain ⟨n0, n1, n2, n3, rfl⟩ : ∃ n0 n1 n2 n3 : Str, ns4 = [n0, n1, n2, n3] := by
        match ns4, n4 with
        | [n0, n1, n2, n3], _ => exact ⟨n0, n1, n2, n3, rfl⟩
      have ok0 : NmOk n0 := nok n0 (by simp)
      have ok1 : NmOk n1 := nok n1 (by simp)
      have ok2 : NmOk n2 := nok n2 (by simp)
      have t17 := s16.trans s17
      have hnl17 := t17 _ _ hnl5
      have hL17 := t17 _ _ hL5
      refine ifS_via (fun b H' => b = false ∧ Same H17 H') ?_ ?_
      · intro QQ hQ
        refine ⟨rfl, _, rfl, nl, _, 0, .str n0, rfl, rfl, SqL.of hnl17, rfl, .str n0, some n0, rfl, ok0.is, fun hf us eu x H18 s18 row => ?_, fun u hu => ?_⟩
        rotate_left
        · have hu2 : fault [some (("bar" : Str), n0), some (("halt" : Str), n0)] = some u := hu
          rw [f_shut] at hu2
          cases hu2
        have e2 : us = ([("bar", n0), ("halt", n0)] : List Step) := ((List.map_inj_right (fun _ _ h => Option.some.inj h)).mp (show ([("bar", n0), ("halt", n0)] : List Step).map some = us.map some from eu)).symm
        subst e2
        obtain ⟨dx, fs, k1, k2, _⟩ := row_ins row
        refine ⟨x, dx, fs, rfl, k1, k2, x, _, rfl, row, fun H19 p ys s19 np hp ra7 => ?_⟩
        have hnl19 := (s18.trans s19) _ _ hnl17
        refine ⟨_, rfl, nl, _, 0, .str n0, rfl, rfl, SqL.of hnl19, rfl, by show 2 ≤ sizeLine; decide, fun p1 np1 => ?_⟩
        have u1 := same_upd (o := HO.tup [V.str "bar", V.str n0]) np1
        have e1 : (upd H19 p1 (.tup [V.str "bar", V.str n0])) p1 = some (.tup [V.str "bar", V.str n0]) := upd_same
        generalize upd H19 p1 (.tup [V.str "bar", V.str n0]) = H20 at u1 e1
        refine ⟨_, rfl, nl, _, 0, .str n0, rfl, rfl, SqL.of (u1 _ _ hnl19), rfl, by show 2 ≤ sizeLine; decide, fun p2 np2 => ?_⟩
        have u2 := same_upd (o := HO.tup [V.str "halt", V.str n0]) np2
        have e2 : (upd H20 p2 (.tup [V.str "halt", V.str n0])) p2 = some (.tup [V.str "halt", V.str n0]) := upd_same
        generalize upd H20 p2 (.tup [V.str "halt", V.str n0]) = H21 at u2 e2
        refine ⟨by show 2 ≤ sizeLine; decide, fun p3 np3 => ?_⟩
        have u3 := same_upd (o := HO.lst [V.ref p1, V.ref p2]) np3
        have e3 : (upd H21 p3 (.lst [V.ref p1, V.ref p2])) p3 = some (.lst [V.ref p1, V.ref p2]) := upd_same
        generalize upd H21 p3 (.lst [V.ref p1, V.ref p2]) = H22 at u3 e3
        have w123 := (u1.trans u2).trans u3
        have lit : StepsAt K H22 [V.ref p1, V.ref p2] [("bar", n0), ("halt", n0)] := .cons ⟨p1, rfl, SqT.of ((u2.trans u3) _ _ e1)⟩ (.cons ⟨p2, rfl, SqT.of (u3 _ _ e2)⟩ .nil)
        have good : ∀ s ∈ ([("bar", n0), ("halt", n0)] : List Step), GoodS s := good_of (of_rowAt ra7)
        refine ⟨_, _, .lst (SqL.of (w123 _ _ hp)) ((row_steps ra7).same w123).dp, .lst (SqL.of e3) lit.dp, stepsL_shaped good, stepsL_shaped good, ?_⟩
        rw [eqv_stepsL, decide_eq_true rfl]
        exact ⟨_, rfl, hQ _ _ ⟨rfl, (s18.trans s19).trans w123⟩⟩
      rintro b H18 ⟨rfl, s18⟩
      refine iteF ?_
      dsimp only [tNext]
      have hnl18 := s18 _ _ hnl17
      have hL18 := s18 _ _ hL17
      refine seqS_in ?_
      refine ⟨_, rfl, nl, _, 1, .str n1, rfl, rfl, SqL.of hnl18, rfl, by show 2 ≤ sizeLine; decide, fun p1 np1 => ?_⟩
      have u1 := same_upd (o := HO.tup [V.str "take", V.str n1]) np1
      have e1 : (upd H18 p1 (.tup [V.str "take", V.str n1])) p1 = some (.tup [V.str "take", V.str n1]) := upd_same
      generalize upd H18 p1 (.tup [V.str "take", V.str n1]) = H20 at u1 e1
      refine ⟨_, rfl, nl, _, 2, .str n2, rfl, rfl, SqL.of (u1 _ _ hnl18), rfl, by show 2 ≤ sizeLine; decide, fun p2 np2 => ?_⟩
      have u2 := same_upd (o := HO.tup [V.str "set", V.str n2]) np2
      have e2 : (upd H20 p2 (.tup [V.str "set", V.str n2])) p2 = some (.tup [V.str "set", V.str n2]) := upd_same
      generalize upd H20 p2 (.tup [V.str "set", V.str n2]) = H21 at u2 e2
      refine ⟨_, rfl, nl, _, 1, .str n1, rfl, rfl, SqL.of ((u1.trans u2) _ _ hnl18), rfl, by show 2 ≤ sizeLine; decide, fun p3 np3 => ?_⟩
      have u3 := same_upd (o := HO.tup [V.str "give", V.str n1]) np3
      have e3 : (upd H21 p3 (.tup [V.str "give", V.str n1])) p3 = some (.tup [V.str "give", V.str n1]) := upd_same
      generalize upd H21 p3 (.tup [V.str "give", V.str n1]) = H22 at u3 e3
      refine ⟨by show 3 ≤ sizeLine; decide, fun p4 np4 => ?_⟩
      have u4 := same_upd (o := HO.lst [V.ref p1, V.ref p2, V.ref p3]) np4
      have e4 : (upd H22 p4 (.lst [V.ref p1, V.ref p2, V.ref p3])) p4 = some (.lst [V.ref p1, V.ref p2, V.ref p3]) := upd_same
      generalize upd H22 p4 (.lst [V.ref p1, V.ref p2, V.ref p3]) = H23 at u4 e4
      have w14 := ((u1.trans u2).trans u3).trans u4
      have lit : StepsAt K H23 [V.ref p1, V.ref p2, V.ref p3] [("take", n1), ("set", n2), ("give", n1)] := .cons ⟨p1, rfl, SqT.of (((u2.trans u3).trans u4) _ _ e1)⟩ (.cons ⟨p2, rfl, SqT.of ((u3.trans u4) _ _ e2)⟩ (.cons ⟨p3, rfl, SqT.of (u4 _ _ e3)⟩ .nil))
      have hnl23 := w14 _ _ hnl18
      have hL23 := w14 _ _ hL18
      refine name_in ?_
      try dsimp only
      refine ifS_via (fun b H' => b = false ∧ Same H23 H') ?_ ?_
      · intro QQ hQ
        refine ⟨rfl, _, rfl, nl, _, 1, .str n1, rfl, rfl, SqL.of hnl23, rfl, _, rfl, nl, _, 2, .str n2, rfl, rfl, SqL.of hnl23, rfl, by show 2 ≤ sizeLine; decide, fun q1 nq1 => ?_⟩
        have x1 := same_upd (o := HO.tup [V.str "set", V.str n2]) nq1
        have g1 : (upd H23 q1 (.tup [V.str "set", V.str n2])) q1 = some (.tup [V.str "set", V.str n2]) := upd_same
        generalize upd H23 q1 (.tup [V.str "set", V.str n2]) = H24 at x1 g1
        refine ⟨[.str n1], [.ref q1], rfl, rfl, by show 1 ≤ sizeLine; decide, fun q2 nq2 => ?_⟩
        have x2 := same_upd (o := HO.tup [V.ref q1]) nq2
        have g2 : SqT K (upd H24 q2 (.tup [V.ref q1])) q2 [V.ref q1] := SqT.of upd_same
        generalize upd H24 q2 (.tup [V.ref q1]) = H25 at x2 g2
        refine ⟨.str n1, some n1, q2, [.ref q1], [some (("set" : Str), n2)], rfl, ok1.is, g2, .cons (ok2.svg hW set_10 (SqT.of (x2 _ _ g1))) .nil, by show 1 ≤ 300; decide, fun hf us eu x H26 s26 row => ?_, fun u hu => ?_⟩
        rotate_left
        · rw [f_lockset] at hu
          cases hu
        have e2 : us = ([("take", n1), ("set", n2), ("give", n1)] : List Step) := ((List.map_inj_right (fun _ _ h => Option.some.inj h)).mp (show ([("take", n1), ("set", n2), ("give", n1)] : List Step).map some = us.map some from eu)).symm
        subst e2
        obtain ⟨dx, fs, k1, k2, _⟩ := row_ins row
        refine ⟨x, dx, fs, rfl, k1, k2, x, _, rfl, row, fun H27 p ys s27 np hp ra7 => ?_⟩
        have s37 := ((x1.trans x2).trans s26).trans s27
        have good : ∀ s ∈ ([("take", n1), ("set", n2), ("give", n1)] : List Step), GoodS s := good_of (of_rowAt ra7)
        refine ⟨_, rfl, _, _, .lst (SqL.of hp) (row_steps ra7).dp, .lst (SqL.of (s37 _ _ e4)) (lit.same s37).dp, stepsL_shaped good, stepsL_shaped good, ?_⟩
        rw [eqv_stepsL, decide_eq_true rfl]
        exact ⟨_, rfl, hQ _ _ ⟨rfl, s37⟩⟩
      rintro b H24 ⟨rfl, s24⟩
      refine iteF ?_
      dsimp only [tNext]
      exact ⟨_, _, _, _, _, _, _, _, _, rfl, s24 _ _ hL23⟩
    · rintro σ H1 ⟨v1, v2, v3, v4, v5, v6, v7, v8, v9, rfl, hL⟩
      exact q _
end
end Rw

/-! X23 -/
namespace Rw
open PySem PySem.Spec PyProof.Rows L2
open PySem.W (findIn typeIn keepIn codeIn subIn nsIn hasDictIn mroIn specialIn takesIn kitOne isFn selfFirst makesIn plainGet plainOver exmOne)
/-- which class is below which, by computation -/
def kitB (K : PySem.W.Frag) (cI cR cN : Addr) : Bool := (exmOne K (.ref cI) (.ref cI) == some true) && ((exmOne K (.ref cN) (.ref cN) == some true) && ((exmOne K (.ref cI) (.ref cN) == some false) && ((kitOne K (.ref cR) (.ref cR) == some true) && ((["NoneType", "bool", "int", "list", "str", "dict", "tuple"].all fun T => kitOne K (.type T) (.ref cR) == some false) && (PySem.W.notFirst K cR (.ref cR) && (["NoneType", "bool", "int", "list", "str", "dict", "tuple"].all fun T => PySem.W.notFirst K cR (.type T)))))))
theorem kit_of_B {K : PySem.W.Frag} {cI cR cN : Addr} (h : kitB K cI cR cN = true) : exmOne K (.ref cI) (.ref cI) = some true ∧ exmOne K (.ref cN) (.ref cN) = some true ∧ exmOne K (.ref cI) (.ref cN) = some false ∧ kitOne K (.ref cR) (.ref cR) = some true ∧ (∀ T ∈ ["NoneType", "bool", "int", "list", "str", "dict", "tuple"], kitOne K (.type T) (.ref cR) = some false) ∧ PySem.W.notFirst K cR (.ref cR) = true ∧ ∀ T ∈ ["NoneType", "bool", "int", "list", "str", "dict", "tuple"], PySem.W.notFirst K cR (.type T) = true := by
  unfold kitB at h
  simp only [Bool.and_eq_true, beq_iff_eq] at h
  exact ⟨h.1, h.2.1, h.2.2.1, h.2.2.2.1, fun T hT => beq_iff_eq.mp (List.all_eq_true.mp h.2.2.2.2.1 T hT), h.2.2.2.2.2.1, fun T hT => List.all_eq_true.mp h.2.2.2.2.2.2 T hT⟩
theorem all_mk {P : Program} {w : World} {K : PySem.W.Frag} {h : Heap} {mg : Str → Option Value} {fa : Addr} (X : K.In h) (G : h.Ns mainGlobals mg) (hfa : mg "law" = some (.ref fa))
    {cD : Addr} {nmI qI : Str} {NI : Addr} {bsI : List Value} {snI : List Str} {subI : List Value} {abI : Bool} {colI : Option Bool} {ddI : Option Addr} {m0I m1I m2I m3I m5I : Option Value} {cI fI : Addr}
    {cR : Addr}
    {fo0 ro0 : Option Value}
    {fo1 ro1 : Option Value}
    {fo2 ro2 : Option Value}
    {fo3 ro3 : Option Value}
    {fo4 ro4 : Option Value}
    {fo5 ro5 : Option Value}
    {fo6 ro6 : Option Value}
    {pSH fSH : Addr} {restSH : List Value}
    {pLK fLK : Addr} {restLK : List Value}
    {nmU qU : Str} {NU : Addr} {bsU : List Value} {snU : List Str} {subU : List Value} {abU : Bool} {colU : Option Bool} {ddU : Option Addr} {m0U m1U m2U m3U m5U : Option Value} {cU fU : Addr}
    {nmN qN : Str} {NN : Addr} {bsN : List Value} {snN : List Str} {subN : List Value} {abN : Bool} {colN : Option Bool} {ddN : Option Addr} {m0N m1N m2N m3N m5N : Option Value} {cN fN : Addr}
    {odR : Option Addr} {cdR : ClassData} {slR : Array (Option Value)} {tkR : Tok}
    {aKs : Addr} {odK : Option Addr} {sK0 sK1 sK2 sK3 : Tok} {nKs : Nat} {slK : Array (Option Value)}
    {dK : Addr} {esK : Array DictEntry} {nK : Nat} {tL tS : Tok}
    {u0 : Tok}
    {u1 : Tok}
    {u2 : Tok}
    {u3 : Tok}
    {u4 : Tok}
    {u5 : Tok}
    {u6 : Tok}
    {u7 : Tok}
    {u8 : Tok}
    {u9 : Tok}
    {fName : Addr} {ocName dcName pmName cdName ctName kVName : Value} {odName anName : Option Addr} {slName : Array (Option Value)}
    {fStep : Addr} {ocStep dcStep pmStep cdStep ctStep kVStep : Value} {odStep anStep : Option Addr} {slStep : Array (Option Value)}
    {fBr : Addr} {ocBr dcBr pmBr cdBr ctBr kVBr : Value} {odBr anBr : Option Addr} {slBr : Array (Option Value)}
    {fBeh : Addr} {ocBeh dcBeh pmBeh cdBeh ctBeh kVBeh : Value} {odBeh anBeh : Option Addr} {slBeh : Array (Option Value)}
    {fHeld : Addr} {ocHeld dcHeld pmHeld cdHeld ctHeld kVHeld : Value} {odHeld anHeld : Option Addr} {slHeld : Array (Option Value)}
    {fWr : Addr} {ocWr dcWr pmWr cdWr ctWr kVWr : Value} {odWr anWr : Option Addr} {slWr : Array (Option Value)}
    {fWL : Addr} {ocWL dcWL pmWL cdWL ctWL kVWL : Value} {odWL anWL : Option Addr} {slWL : Array (Option Value)}
    {fCh : Addr} {ocCh dcCh pmCh cdCh ctCh kVCh : Value} {odCh anCh : Option Addr} {slCh : Array (Option Value)}
    {fIn : Addr} {ocIn dcIn pmIn cdIn ctIn kVIn : Value} {odIn anIn : Option Addr} {slIn : Array (Option Value)}
    {fIx : Addr} {ocIx dcIx pmIx cdIx ctIx kVIx : Value} {odIx anIx : Option Addr} {slIx : Array (Option Value)}
    {fAl : Addr} {ocAl dcAl pmAl cdAl ctAl kVAl : Value} {odAl anAl : Option Addr} {slAl : Array (Option Value)}
    {fNum : Addr} {ocNum dcNum pmNum cdNum ctNum kVNum : Value} {odNum anNum : Option Addr} {slNum : Array (Option Value)}
    {fPool : Addr} {ocPool dcPool pmPool cdPool ctPool kVPool : Value} {odPool anPool : Option Addr} {slPool : Array (Option Value)}
    {fDr : Addr} {ocDr dcDr pmDr cdDr ctDr kVDr : Value} {odDr anDr : Option Addr} {slDr : Array (Option Value)}
    {fPk : Addr} {ocPk dcPk pmPk cdPk ctPk kVPk : Value} {odPk anPk : Option Addr} {slPk : Array (Option Value)}
    {fTr : Addr} {ocTr dcTr pmTr cdTr ctTr kVTr : Value} {odTr anTr : Option Addr} {slTr : Array (Option Value)}
    {fKd : Addr} {ocKd dcKd pmKd cdKd ctKd kVKd : Value} {odKd anKd : Option Addr} {slKd : Array (Option Value)}
    {fCz : Addr} {ocCz dcCz pmCz cdCz ctCz kVCz : Value} {odCz anCz : Option Addr} {slCz : Array (Option Value)}
    {fKp : Addr} {ocKp dcKp pmKp cdKp ctKp kVKp : Value} {odKp anKp : Option Addr} {slKp : Array (Option Value)}
    {fFa : Addr} {ocFa dcFa pmFa cdFa ctFa kVFa : Value} {odFa anFa : Option Addr} {slFa : Array (Option Value)}
    {fAsk : Addr} {ocAsk dcAsk pmAsk cdAsk ctAsk kVAsk : Value} {odAsk anAsk : Option Addr} {slAsk : Array (Option Value)}
    {fTe : Addr} {ocTe dcTe pmTe cdTe ctTe kVTe : Value} {odTe anTe : Option Addr} {slTe : Array (Option Value)}
    {fHr : Addr} {ocHr dcHr pmHr cdHr ctHr kVHr : Value} {odHr anHr : Option Addr} {slHr : Array (Option Value)}
    {fAm : Addr} {ocAm dcAm pmAm cdAm ctAm kVAm : Value} {odAm anAm : Option Addr} {slAm : Array (Option Value)}
    {fAd : Addr} {ocAd dcAd pmAd cdAd ctAd kVAd : Value} {odAd anAd : Option Addr} {slAd : Array (Option Value)}
    {fL : Addr} {ocL dcL pmL cdL ctL kVL : Value} {odL anL : Option Addr} {slL : Array (Option Value)}
    {ocIS dcIS pmIS cdIS ctIS kVIS : Value} {odIS anIS : Option Addr} {slIS : Array (Option Value)}
    {fRI : Addr}
    {ocRI dcRI pmRI cdRI ctRI kVRI : Value} {odRI anRI : Option Addr} {slRI : Array (Option Value)}
    {fAdd : Addr}
    {ocAdd dcAdd pmAdd cdAdd ctAdd kVAdd : Value} {odAdd anAdd : Option Addr} {slAdd : Array (Option Value)}
    {fRadd : Addr}
    {ocRadd dcRadd pmRadd cdRadd ctRadd kVRadd : Value} {odRadd anRadd : Option Addr} {slRadd : Array (Option Value)}
    {fSt : Addr}
    {ocSt dcSt pmSt cdSt ctSt kVSt : Value} {odSt anSt : Option Addr} {slSt : Array (Option Value)}
    {ocUN dcUN pmUN cdUN ctUN kVUN : Value} {odUN anUN : Option Addr} {slUN : Array (Option Value)}
    {ocSH dcSH pmSH cdSH ctSH kVSH : Value} {odSH anSH : Option Addr} {slSH : Array (Option Value)}
    {ocLK dcLK pmLK cdLK ctLK kVLK : Value} {odLK anLK : Option Addr} {slLK : Array (Option Value)}
    {fNms : Addr}
    {ocNms dcNms pmNms cdNms ctNms kVNms : Value} {odNms anNms : Option Addr} {slNms : Array (Option Value)}
    {ocIN dcIN pmIN cdIN ctIN kVIN : Value} {odIN anIN : Option Addr} {slIN : Array (Option Value)}
    {fCon : Addr}
    {ocCon dcCon pmCon cdCon ctCon kVCon : Value} {odCon anCon : Option Addr} {slCon : Array (Option Value)}
    {fGet : Addr}
    {ocGet dcGet pmGet cdGet ctGet kVGet : Value} {odGet anGet : Option Addr} {slGet : Array (Option Value)}
    {fLenR : Addr}
    {ocLenR dcLenR pmLenR cdLenR ctLenR kVLenR : Value} {odLenR anLenR : Option Addr} {slLenR : Array (Option Value)}
    {fEqR : Addr}
    {ocEqR dcEqR pmEqR cdEqR ctEqR kVEqR : Value} {odEqR anEqR : Option Addr} {slEqR : Array (Option Value)}
    {fBeg : Addr}
    {ocBeg dcBeg pmBeg cdBeg ctBeg kVBeg : Value} {odBeg anBeg : Option Addr} {slBeg : Array (Option Value)}
    {fWo : Addr}
    {ocWo dcWo pmWo cdWo ctWo kVWo : Value} {odWo anWo : Option Addr} {slWo : Array (Option Value)}
    {fHeldR : Addr}
    {ocHeldR dcHeldR pmHeldR cdHeldR ctHeldR kVHeldR : Value} {odHeldR anHeldR : Option Addr} {slHeldR : Array (Option Value)}
    (aI : nsIn K mainGlobals "InvalidStep" = some (some (.ref cI)))
    (xI : K.lookup cI = some (excClassObj nmI qI cI NI bsI [.ref cD, .type "Exception", .type "BaseException", .type "object"] true snI subI abI colI ddI m0I m1I m2I m3I m5I "Exception.__new__"))
    (saI : findIn K (.ref cI) "__setattr__" = some (some (.builtin "object.__setattr__")))
    (gaI : findIn K (.ref cI) "__getattribute__" = some (some (.builtin "BaseException.__getattribute__")))
    (ggI : findIn K (.ref cI) "__getattr__" = some none)
    (nI : findIn K (.ref cI) "index" = some none)
    (iI : findIn K (.ref cI) "__init__" = some (some (.ref fI)))
    (tI : typeIn K (.ref fI) = some (.type "function"))
    (kCI : keepIn K (.ref cI) = true)
    (eCI : subIn K (.ref cI) (.type "BaseException") = some true)
    (tCI : typeIn K (.ref cI) = some (.type "type"))
    (hCI : hasDictIn K cI = true)
    (haI : findIn K (.ref cI) "__class__" = some (some (.builtin "object.__class__")))
    (hmI : mroIn K cI (.type "object") = some true)
    (hn : specialIn K (.builtin "object.__class__") "__get__" = some (some (.builtin "getset_descriptor.__get__")))
    (ht : takesIn K (.builtin "object.__class__") = some true)
    (aR : nsIn K mainGlobals "Row" = some (some (.ref cR)))
    (pgR : plainGet K cR Str.empty = true)
    (hdR : hasDictIn K cR = true)
    (poR : plainOver K cR = true)
    (saR : findIn K (.ref cR) "__setattr__" = some (some (.builtin "object.__setattr__")))
    (nSR : findIn K (.ref cR) "_steps" = some none)
    (nHR : findIn K (.ref cR) "_held" = some none)
    (mkR : makesIn K cR = true)
    (kCR : keepIn K (.ref cR) = true)
    (sfR : selfFirst K cR = true)
    (haR : findIn K (.ref cR) "__class__" = some (some (.builtin "object.__class__")))
    (hmR : mroIn K cR (.type "object") = some true)
    (kb : kitB K cI cR cN = true)
    (fo_0 : findIn K (.type "NoneType") "__add__" = some fo0)
    (ro_0 : findIn K (.type "NoneType") "__radd__" = some ro0)
    (su0 : subIn K (.type "NoneType") (.ref cR) = some false)
    (fo_1 : findIn K (.type "bool") "__add__" = some fo1)
    (ro_1 : findIn K (.type "bool") "__radd__" = some ro1)
    (su1 : subIn K (.type "bool") (.ref cR) = some false)
    (fo_2 : findIn K (.type "int") "__add__" = some fo2)
    (ro_2 : findIn K (.type "int") "__radd__" = some ro2)
    (su2 : subIn K (.type "int") (.ref cR) = some false)
    (fo_3 : findIn K (.type "list") "__add__" = some fo3)
    (ro_3 : findIn K (.type "list") "__radd__" = some ro3)
    (su3 : subIn K (.type "list") (.ref cR) = some false)
    (fo_4 : findIn K (.type "str") "__add__" = some fo4)
    (ro_4 : findIn K (.type "str") "__radd__" = some ro4)
    (su4 : subIn K (.type "str") (.ref cR) = some false)
    (fo_5 : findIn K (.type "dict") "__add__" = some fo5)
    (ro_5 : findIn K (.type "dict") "__radd__" = some ro5)
    (su5 : subIn K (.type "dict") (.ref cR) = some false)
    (fo_6 : findIn K (.type "tuple") "__add__" = some fo6)
    (ro_6 : findIn K (.type "tuple") "__radd__" = some ro6)
    (su6 : subIn K (.type "tuple") (.ref cR) = some false)
    (rtup : ((fo6.isSome && !isSeqSlot fo6) || (ro6.isSome && !isSeqSlot ro6)) = false)
    (smSH : PySem.W.findCls K (.ref cR) (.type "type") "shut" = some (.get (.builtin "staticmethod.__get__") (.ref pSH) .none (.ref cR)))
    (rcSH : PySem.W.recIn K pSH "staticmethod" = some (.ref fSH :: restSH))
    (smLK : PySem.W.findCls K (.ref cR) (.type "type") "locked" = some (.get (.builtin "staticmethod.__get__") (.ref pLK) .none (.ref cR)))
    (rcLK : PySem.W.recIn K pLK "staticmethod" = some (.ref fLK :: restLK))
    (rdR : PySem.W.readsIn K cR (.type "type") = true)
    (gaR : specialIn K (.ref cR) "__getattribute__" = some (some (.builtin "type.__getattribute__")))
    (aU : nsIn K mainGlobals "UnknownName" = some (some (.ref cU)))
    (xU : K.lookup cU = some (excClassObj nmU qU cU NU bsU [.type "LookupError", .type "Exception", .type "BaseException", .type "object"] true snU subU abU colU ddU m0U m1U m2U m3U m5U "LookupError.__new__"))
    (saU : findIn K (.ref cU) "__setattr__" = some (some (.builtin "object.__setattr__")))
    (gaU : findIn K (.ref cU) "__getattribute__" = some (some (.builtin "BaseException.__getattribute__")))
    (ggU : findIn K (.ref cU) "__getattr__" = some none)
    (nU : findIn K (.ref cU) "name" = some none)
    (iU : findIn K (.ref cU) "__init__" = some (some (.ref fU)))
    (tU : typeIn K (.ref fU) = some (.type "function"))
    (kCU : keepIn K (.ref cU) = true)
    (eCU : subIn K (.ref cU) (.type "BaseException") = some true)
    (tCU : typeIn K (.ref cU) = some (.type "type"))
    (hCU : hasDictIn K cU = true)
    (haU : findIn K (.ref cU) "__class__" = some (some (.builtin "object.__class__")))
    (hmU : mroIn K cU (.type "object") = some true)
    (aN : nsIn K mainGlobals "InvalidNumber" = some (some (.ref cN)))
    (xN : K.lookup cN = some (excClassObj nmN qN cN NN bsN [.type "ValueError", .type "Exception", .type "BaseException", .type "object"] true snN subN abN colN ddN m0N m1N m2N m3N m5N "ValueError.__new__"))
    (saN : findIn K (.ref cN) "__setattr__" = some (some (.builtin "object.__setattr__")))
    (gaN : findIn K (.ref cN) "__getattribute__" = some (some (.builtin "BaseException.__getattribute__")))
    (ggN : findIn K (.ref cN) "__getattr__" = some none)
    (nN : findIn K (.ref cN) "value" = some none)
    (iN : findIn K (.ref cN) "__init__" = some (some (.ref fN)))
    (tN : typeIn K (.ref fN) = some (.type "function"))
    (kCN : keepIn K (.ref cN) = true)
    (eCN : subIn K (.ref cN) (.type "BaseException") = some true)
    (tCN : typeIn K (.ref cN) = some (.type "type"))
    (hCN : hasDictIn K cN = true)
    (haN : findIn K (.ref cN) "__class__" = some (some (.builtin "object.__class__")))
    (hmN : mroIn K cN (.type "object") = some true)
    (atR : PySem.W.findCls K (.ref cR) (.type "type") "__name__" = some (.get (.builtin "getset_descriptor.__get__") (.builtin "type.__name__") (.ref cR) (.type "type")))
    (obR : K.lookup cR = some ⟨.type "type", odR, .cls cdR, slR⟩)
    (nameR : Str.ofString cdR.name.toString = ("Row" : Str))
    (slotR : (slR[2]?).join = some (.str "Row" tkR))
    (pgcR : plainGet K cR "__class__" = true)
    (gKs : nsIn K mainGlobals "KINDS" = some (some (.ref aKs)))
    (lKs : K.lookup aKs = some ⟨.type "tuple", odK, .seq #[.str "works" sK0, .str "gates" sK1, .str "flags" sK2, .str "locks" sK3] nKs, slK⟩)
    (gK : nsIn K mainGlobals "STEP_KINDS" = some (some (.ref dK)))
    (lK : K.lookup dK = some ⟨.type "dict", none, .dict esK nK, #[]⟩)
    (hK : PySem.W.KeysLit w.params esK.toList)
    (lowK : (dK == sysModules) = false)
    (w0 : nsIn K dK "cancel" = some (some (.str "works" u0)))
    (w1 : nsIn K dK "bar" = some (some (.str "works" u1)))
    (w2 : nsIn K dK "halt" = some (some (.str "works" u2)))
    (w3 : nsIn K dK "settle" = some (some (.str "works" u3)))
    (w4 : nsIn K dK "close" = some (some (.str "gates" u4)))
    (w5 : nsIn K dK "drain" = some (some (.str "gates" u5)))
    (w6 : nsIn K dK "set" = some (some (.str "flags" u6)))
    (w7 : nsIn K dK "clear" = some (some (.str "flags" u7)))
    (w8 : nsIn K dK "take" = some (some (.str "locks" u8)))
    (w9 : nsIn K dK "give" = some (some (.str "locks" u9)))
    (wFree : nsIn K dK "free" = some none)
    (wUse : nsIn K dK "use" = some none)
    (gML : nsIn K mainGlobals "MOST_LETTERS" = some (some (.int 8 tL)))
    (gMS : nsIn K mainGlobals "MOST_STEPS" = some (some (.int 8 tS)))
    (aName : nsIn K mainGlobals "is_name" = some (some (.ref fName)))
    (aStep : nsIn K mainGlobals "is_step" = some (some (.ref fStep)))
    (aBr : nsIn K mainGlobals "branches" = some (some (.ref fBr)))
    (aBeh : nsIn K mainGlobals "locks_behind" = some (some (.ref fBeh)))
    (aHeld : nsIn K mainGlobals "held_along" = some (some (.ref fHeld)))
    (aWr : nsIn K mainGlobals "is_wrong" = some (some (.ref fWr)))
    (aWL : nsIn K mainGlobals "wrong_locks" = some (some (.ref fWL)))
    (aCh : nsIn K mainGlobals "check_steps" = some (some (.ref fCh)))
    (aIn : nsIn K mainGlobals "steps_in" = some (some (.ref fIn)))
    (aIx : nsIn K mainGlobals "is_index" = some (some (.ref fIx)))
    (aAl : nsIn K mainGlobals "are_alike" = some (some (.ref fAl)))
    (aNum : nsIn K mainGlobals "_law_numbers" = some (some (.ref fNum)))
    (aPool : nsIn K mainGlobals "_law_pool" = some (some (.ref fPool)))
    (aDr : nsIn K mainGlobals "_law_draw" = some (some (.ref fDr)))
    (aPk : nsIn K mainGlobals "_law_pick" = some (some (.ref fPk)))
    (aTr : nsIn K mainGlobals "_law_truth" = some (some (.ref fTr)))
    (aKd : nsIn K mainGlobals "_law_kind" = some (some (.ref fKd)))
    (aCz : nsIn K mainGlobals "_law_chosen" = some (some (.ref fCz)))
    (aKp : nsIn K mainGlobals "_law_kept" = some (some (.ref fKp)))
    (aFa : nsIn K mainGlobals "_law_fault" = some (some (.ref fFa)))
    (aAsk : nsIn K mainGlobals "_law_asked" = some (some (.ref fAsk)))
    (aTe : nsIn K mainGlobals "_law_tells" = some (some (.ref fTe)))
    (aHr : nsIn K mainGlobals "_law_heldrows" = some (some (.ref fHr)))
    (aAm : nsIn K mainGlobals "_law_among" = some (some (.ref fAm)))
    (aAd : nsIn K mainGlobals "_law_added" = some (some (.ref fAd)))
    (aL : nsIn K mainGlobals "law" = some (some (.ref fL)))
    (aRI : findIn K (.ref cR) "__init__" = some (some (.ref fRI)))
    (iRI : isFn K (.ref fRI) = true)
    (aAdd : findIn K (.ref cR) "__add__" = some (some (.ref fAdd)))
    (iAdd : isFn K (.ref fAdd) = true)
    (aRadd : findIn K (.ref cR) "__radd__" = some (some (.ref fRadd)))
    (iRadd : isFn K (.ref fRadd) = true)
    (aSt : findIn K (.ref cR) "steps" = some (some (.ref fSt)))
    (iSt : isFn K (.ref fSt) = true)
    (aNms : findIn K (.ref cR) "names" = some (some (.ref fNms)))
    (iNms : isFn K (.ref fNms) = true)
    (aCon : findIn K (.ref cR) "__contains__" = some (some (.ref fCon)))
    (iCon : isFn K (.ref fCon) = true)
    (aGet : findIn K (.ref cR) "__getitem__" = some (some (.ref fGet)))
    (iGet : isFn K (.ref fGet) = true)
    (fnG : PySem.W.fnIn K fGet = true)
    (aLenR : findIn K (.ref cR) "__len__" = some (some (.ref fLenR)))
    (iLenR : isFn K (.ref fLenR) = true)
    (aEqR : findIn K (.ref cR) "__eq__" = some (some (.ref fEqR)))
    (iEqR : isFn K (.ref fEqR) = true)
    (aBeg : findIn K (.ref cR) "begins" = some (some (.ref fBeg)))
    (iBeg : isFn K (.ref fBeg) = true)
    (aWo : findIn K (.ref cR) "without" = some (some (.ref fWo)))
    (iWo : isFn K (.ref fWo) = true)
    (aHeldR : findIn K (.ref cR) "held" = some (some (.ref fHeldR)))
    (iHeldR : isFn K (.ref fHeldR) = true)
    (lName : K.lookup fName = some ⟨ocName, odName, .func (PySem.W.fnOf "is_name" "is_name" (defArgs sName) (defBody sName) (defScope sName) .none kVName dcName pmName anName cdName ctName), slName⟩)
    (ccName : codeIn K cdName "is_name" = true)
    (kfName : keepIn K (.ref fName) = true)
    (lStep : K.lookup fStep = some ⟨ocStep, odStep, .func (PySem.W.fnOf "is_step" "is_step" (defArgs sStep) (defBody sStep) (defScope sStep) .none kVStep dcStep pmStep anStep cdStep ctStep), slStep⟩)
    (ccStep : codeIn K cdStep "is_step" = true)
    (kfStep : keepIn K (.ref fStep) = true)
    (lBr : K.lookup fBr = some ⟨ocBr, odBr, .func (PySem.W.fnOf "branches" "branches" (defArgs sBr) (defBody sBr) (defScope sBr) .none kVBr dcBr pmBr anBr cdBr ctBr), slBr⟩)
    (ccBr : codeIn K cdBr "branches" = true)
    (kfBr : keepIn K (.ref fBr) = true)
    (lBeh : K.lookup fBeh = some ⟨ocBeh, odBeh, .func (PySem.W.fnOf "locks_behind" "locks_behind" (defArgs sBeh) (defBody sBeh) (defScope sBeh) .none kVBeh dcBeh pmBeh anBeh cdBeh ctBeh), slBeh⟩)
    (ccBeh : codeIn K cdBeh "locks_behind" = true)
    (kfBeh : keepIn K (.ref fBeh) = true)
    (lHeld : K.lookup fHeld = some ⟨ocHeld, odHeld, .func (PySem.W.fnOf "held_along" "held_along" (defArgs sHeld) (defBody sHeld) (defScope sHeld) .none kVHeld dcHeld pmHeld anHeld cdHeld ctHeld), slHeld⟩)
    (ccHeld : codeIn K cdHeld "held_along" = true)
    (kfHeld : keepIn K (.ref fHeld) = true)
    (lWr : K.lookup fWr = some ⟨ocWr, odWr, .func (PySem.W.fnOf "is_wrong" "is_wrong" (defArgs sWr) (defBody sWr) (defScope sWr) .none kVWr dcWr pmWr anWr cdWr ctWr), slWr⟩)
    (ccWr : codeIn K cdWr "is_wrong" = true)
    (kfWr : keepIn K (.ref fWr) = true)
    (lWL : K.lookup fWL = some ⟨ocWL, odWL, .func (PySem.W.fnOf "wrong_locks" "wrong_locks" (defArgs sWL) (defBody sWL) (defScope sWL) .none kVWL dcWL pmWL anWL cdWL ctWL), slWL⟩)
    (ccWL : codeIn K cdWL "wrong_locks" = true)
    (kfWL : keepIn K (.ref fWL) = true)
    (lCh : K.lookup fCh = some ⟨ocCh, odCh, .func (PySem.W.fnOf "check_steps" "check_steps" (defArgs sCh) (defBody sCh) (defScope sCh) .none kVCh dcCh pmCh anCh cdCh ctCh), slCh⟩)
    (ccCh : codeIn K cdCh "check_steps" = true)
    (kfCh : keepIn K (.ref fCh) = true)
    (lIn : K.lookup fIn = some ⟨ocIn, odIn, .func (PySem.W.fnOf "steps_in" "steps_in" (defArgs sIn) (defBody sIn) (defScope sIn) .none kVIn dcIn pmIn anIn cdIn ctIn), slIn⟩)
    (ccIn : codeIn K cdIn "steps_in" = true)
    (kfIn : keepIn K (.ref fIn) = true)
    (lIx : K.lookup fIx = some ⟨ocIx, odIx, .func (PySem.W.fnOf "is_index" "is_index" (defArgs sIxF) (defBody sIxF) (defScope sIxF) .none kVIx dcIx pmIx anIx cdIx ctIx), slIx⟩)
    (ccIx : codeIn K cdIx "is_index" = true)
    (kfIx : keepIn K (.ref fIx) = true)
    (lAl : K.lookup fAl = some ⟨ocAl, odAl, .func (PySem.W.fnOf "are_alike" "are_alike" (defArgs sAl) (defBody sAl) (defScope sAl) .none kVAl dcAl pmAl anAl cdAl ctAl), slAl⟩)
    (ccAl : codeIn K cdAl "are_alike" = true)
    (kfAl : keepIn K (.ref fAl) = true)
    (lNum : K.lookup fNum = some ⟨ocNum, odNum, .func (PySem.W.fnOf "_law_numbers" "_law_numbers" (defArgs sNum) (defBody sNum) (defScope sNum) .none kVNum dcNum pmNum anNum cdNum ctNum), slNum⟩)
    (ccNum : codeIn K cdNum "_law_numbers" = true)
    (kfNum : keepIn K (.ref fNum) = true)
    (lPool : K.lookup fPool = some ⟨ocPool, odPool, .func (PySem.W.fnOf "_law_pool" "_law_pool" (defArgs sPool) (defBody sPool) (defScope sPool) .none kVPool dcPool pmPool anPool cdPool ctPool), slPool⟩)
    (ccPool : codeIn K cdPool "_law_pool" = true)
    (kfPool : keepIn K (.ref fPool) = true)
    (lDr : K.lookup fDr = some ⟨ocDr, odDr, .func (PySem.W.fnOf "_law_draw" "_law_draw" (defArgs sDraw) (defBody sDraw) (defScope sDraw) .none kVDr dcDr pmDr anDr cdDr ctDr), slDr⟩)
    (ccDr : codeIn K cdDr "_law_draw" = true)
    (kfDr : keepIn K (.ref fDr) = true)
    (lPk : K.lookup fPk = some ⟨ocPk, odPk, .func (PySem.W.fnOf "_law_pick" "_law_pick" (defArgs sPick) (defBody sPick) (defScope sPick) .none kVPk dcPk pmPk anPk cdPk ctPk), slPk⟩)
    (ccPk : codeIn K cdPk "_law_pick" = true)
    (kfPk : keepIn K (.ref fPk) = true)
    (lTr : K.lookup fTr = some ⟨ocTr, odTr, .func (PySem.W.fnOf "_law_truth" "_law_truth" (defArgs sTruth) (defBody sTruth) (defScope sTruth) .none kVTr dcTr pmTr anTr cdTr ctTr), slTr⟩)
    (ccTr : codeIn K cdTr "_law_truth" = true)
    (kfTr : keepIn K (.ref fTr) = true)
    (lKd : K.lookup fKd = some ⟨ocKd, odKd, .func (PySem.W.fnOf "_law_kind" "_law_kind" (defArgs sKindL) (defBody sKindL) (defScope sKindL) .none kVKd dcKd pmKd anKd cdKd ctKd), slKd⟩)
    (ccKd : codeIn K cdKd "_law_kind" = true)
    (kfKd : keepIn K (.ref fKd) = true)
    (lCz : K.lookup fCz = some ⟨ocCz, odCz, .func (PySem.W.fnOf "_law_chosen" "_law_chosen" (defArgs sChz) (defBody sChz) (defScope sChz) .none kVCz dcCz pmCz anCz cdCz ctCz), slCz⟩)
    (ccCz : codeIn K cdCz "_law_chosen" = true)
    (kfCz : keepIn K (.ref fCz) = true)
    (lKp : K.lookup fKp = some ⟨ocKp, odKp, .func (PySem.W.fnOf "_law_kept" "_law_kept" (defArgs sKept) (defBody sKept) (defScope sKept) .none kVKp dcKp pmKp anKp cdKp ctKp), slKp⟩)
    (ccKp : codeIn K cdKp "_law_kept" = true)
    (kfKp : keepIn K (.ref fKp) = true)
    (lFa : K.lookup fFa = some ⟨ocFa, odFa, .func (PySem.W.fnOf "_law_fault" "_law_fault" (defArgs sFault) (defBody sFault) (defScope sFault) .none kVFa dcFa pmFa anFa cdFa ctFa), slFa⟩)
    (ccFa : codeIn K cdFa "_law_fault" = true)
    (kfFa : keepIn K (.ref fFa) = true)
    (lAsk : K.lookup fAsk = some ⟨ocAsk, odAsk, .func (PySem.W.fnOf "_law_asked" "_law_asked" (defArgs sAsk) (defBody sAsk) (defScope sAsk) .none kVAsk dcAsk pmAsk anAsk cdAsk ctAsk), slAsk⟩)
    (ccAsk : codeIn K cdAsk "_law_asked" = true)
    (kfAsk : keepIn K (.ref fAsk) = true)
    (lTe : K.lookup fTe = some ⟨ocTe, odTe, .func (PySem.W.fnOf "_law_tells" "_law_tells" (defArgs sTe) (defBody sTe) (defScope sTe) .none kVTe dcTe pmTe anTe cdTe ctTe), slTe⟩)
    (ccTe : codeIn K cdTe "_law_tells" = true)
    (kfTe : keepIn K (.ref fTe) = true)
    (lHr : K.lookup fHr = some ⟨ocHr, odHr, .func (PySem.W.fnOf "_law_heldrows" "_law_heldrows" (defArgs sHr) (defBody sHr) (defScope sHr) .none kVHr dcHr pmHr anHr cdHr ctHr), slHr⟩)
    (ccHr : codeIn K cdHr "_law_heldrows" = true)
    (kfHr : keepIn K (.ref fHr) = true)
    (lAm : K.lookup fAm = some ⟨ocAm, odAm, .func (PySem.W.fnOf "_law_among" "_law_among" (defArgs sAm) (defBody sAm) (defScope sAm) .none kVAm dcAm pmAm anAm cdAm ctAm), slAm⟩)
    (ccAm : codeIn K cdAm "_law_among" = true)
    (kfAm : keepIn K (.ref fAm) = true)
    (lAd : K.lookup fAd = some ⟨ocAd, odAd, .func (PySem.W.fnOf "_law_added" "_law_added" (defArgs sAd) (defBody sAd) (defScope sAd) .none kVAd dcAd pmAd anAd cdAd ctAd), slAd⟩)
    (ccAd : codeIn K cdAd "_law_added" = true)
    (kfAd : keepIn K (.ref fAd) = true)
    (lL : K.lookup fL = some ⟨ocL, odL, .func (PySem.W.fnOf "law" "law" (defArgs sLaw) (defBody sLaw) (defScope sLaw) .none kVL dcL pmL anL cdL ctL), slL⟩)
    (ccL : codeIn K cdL "law" = true)
    (kfL : keepIn K (.ref fL) = true)
    (lIS : K.lookup fI = some ⟨ocIS, odIS, .func (PySem.W.fnOf "__init__" "InvalidStep.__init__" (defArgs sIS) (defBody sIS) (defScope sIS) .none kVIS dcIS pmIS anIS cdIS ctIS), slIS⟩)
    (ccIS : codeIn K cdIS "InvalidStep.__init__" = true)
    (kfIS : keepIn K (.ref fI) = true)
    (lRI : K.lookup fRI = some ⟨ocRI, odRI, .func (PySem.W.fnOf "__init__" "Row.__init__" (defArgs sRI) (defBody sRI) (defScope sRI) .none kVRI dcRI pmRI anRI cdRI ctRI), slRI⟩)
    (ccRI : codeIn K cdRI "Row.__init__" = true)
    (kfRI : keepIn K (.ref fRI) = true)
    (lAdd : K.lookup fAdd = some ⟨ocAdd, odAdd, .func (PySem.W.fnOf "__add__" "Row.__add__" (defArgs sAdd) (defBody sAdd) (defScope sAdd) .none kVAdd dcAdd pmAdd anAdd cdAdd ctAdd), slAdd⟩)
    (ccAdd : codeIn K cdAdd "Row.__add__" = true)
    (kfAdd : keepIn K (.ref fAdd) = true)
    (lRadd : K.lookup fRadd = some ⟨ocRadd, odRadd, .func (PySem.W.fnOf "__radd__" "Row.__radd__" (defArgs sRadd) (defBody sRadd) (defScope sRadd) .none kVRadd dcRadd pmRadd anRadd cdRadd ctRadd), slRadd⟩)
    (ccRadd : codeIn K cdRadd "Row.__radd__" = true)
    (kfRadd : keepIn K (.ref fRadd) = true)
    (lSt : K.lookup fSt = some ⟨ocSt, odSt, .func (PySem.W.fnOf "steps" "Row.steps" (defArgs sSt) (defBody sSt) (defScope sSt) .none kVSt dcSt pmSt anSt cdSt ctSt), slSt⟩)
    (ccSt : codeIn K cdSt "Row.steps" = true)
    (kfSt : keepIn K (.ref fSt) = true)
    (lUN : K.lookup fU = some ⟨ocUN, odUN, .func (PySem.W.fnOf "__init__" "UnknownName.__init__" (defArgs sUN) (defBody sUN) (defScope sUN) .none kVUN dcUN pmUN anUN cdUN ctUN), slUN⟩)
    (ccUN : codeIn K cdUN "UnknownName.__init__" = true)
    (kfUN : keepIn K (.ref fU) = true)
    (lSH : K.lookup fSH = some ⟨ocSH, odSH, .func (PySem.W.fnOf "shut" "Row.shut" (defArgs sShut) (defBody sShut) (defScope sShut) .none kVSH dcSH pmSH anSH cdSH ctSH), slSH⟩)
    (ccSH : codeIn K cdSH "Row.shut" = true)
    (kfSH : keepIn K (.ref fSH) = true)
    (lLK : K.lookup fLK = some ⟨ocLK, odLK, .func (PySem.W.fnOf "locked" "Row.locked" (defArgs sLocked) (defBody sLocked) (defScope sLocked) .none kVLK dcLK pmLK anLK cdLK ctLK), slLK⟩)
    (ccLK : codeIn K cdLK "Row.locked" = true)
    (kfLK : keepIn K (.ref fLK) = true)
    (lNms : K.lookup fNms = some ⟨ocNms, odNms, .func (PySem.W.fnOf "names" "Row.names" (defArgs sNames) (defBody sNames) (defScope sNames) .none kVNms dcNms pmNms anNms cdNms ctNms), slNms⟩)
    (ccNms : codeIn K cdNms "Row.names" = true)
    (kfNms : keepIn K (.ref fNms) = true)
    (lIN : K.lookup fN = some ⟨ocIN, odIN, .func (PySem.W.fnOf "__init__" "InvalidNumber.__init__" (defArgs sINum) (defBody sINum) (defScope sINum) .none kVIN dcIN pmIN anIN cdIN ctIN), slIN⟩)
    (ccIN : codeIn K cdIN "InvalidNumber.__init__" = true)
    (kfIN : keepIn K (.ref fN) = true)
    (lCon : K.lookup fCon = some ⟨ocCon, odCon, .func (PySem.W.fnOf "__contains__" "Row.__contains__" (defArgs sCon) (defBody sCon) (defScope sCon) .none kVCon dcCon pmCon anCon cdCon ctCon), slCon⟩)
    (ccCon : codeIn K cdCon "Row.__contains__" = true)
    (kfCon : keepIn K (.ref fCon) = true)
    (lGet : K.lookup fGet = some ⟨ocGet, odGet, .func (PySem.W.fnOf "__getitem__" "Row.__getitem__" (defArgs sGet) (defBody sGet) (defScope sGet) .none kVGet dcGet pmGet anGet cdGet ctGet), slGet⟩)
    (ccGet : codeIn K cdGet "Row.__getitem__" = true)
    (kfGet : keepIn K (.ref fGet) = true)
    (lLenR : K.lookup fLenR = some ⟨ocLenR, odLenR, .func (PySem.W.fnOf "__len__" "Row.__len__" (defArgs sLenR) (defBody sLenR) (defScope sLenR) .none kVLenR dcLenR pmLenR anLenR cdLenR ctLenR), slLenR⟩)
    (ccLenR : codeIn K cdLenR "Row.__len__" = true)
    (kfLenR : keepIn K (.ref fLenR) = true)
    (lEqR : K.lookup fEqR = some ⟨ocEqR, odEqR, .func (PySem.W.fnOf "__eq__" "Row.__eq__" (defArgs sEqR) (defBody sEqR) (defScope sEqR) .none kVEqR dcEqR pmEqR anEqR cdEqR ctEqR), slEqR⟩)
    (ccEqR : codeIn K cdEqR "Row.__eq__" = true)
    (kfEqR : keepIn K (.ref fEqR) = true)
    (lBeg : K.lookup fBeg = some ⟨ocBeg, odBeg, .func (PySem.W.fnOf "begins" "Row.begins" (defArgs sBeg) (defBody sBeg) (defScope sBeg) .none kVBeg dcBeg pmBeg anBeg cdBeg ctBeg), slBeg⟩)
    (ccBeg : codeIn K cdBeg "Row.begins" = true)
    (kfBeg : keepIn K (.ref fBeg) = true)
    (lWo : K.lookup fWo = some ⟨ocWo, odWo, .func (PySem.W.fnOf "without" "Row.without" (defArgs sWo) (defBody sWo) (defScope sWo) .none kVWo dcWo pmWo anWo cdWo ctWo), slWo⟩)
    (ccWo : codeIn K cdWo "Row.without" = true)
    (kfWo : keepIn K (.ref fWo) = true)
    (lHeldR : K.lookup fHeldR = some ⟨ocHeldR, odHeldR, .func (PySem.W.fnOf "held" "Row.held" (defArgs sHeldF) (defBody sHeldF) (defScope sHeldF) .none kVHeldR dcHeldR pmHeldR anHeldR cdHeldR ctHeldR), slHeldR⟩)
    (ccHeldR : codeIn K cdHeldR "Row.held" = true)
    (kfHeldR : keepIn K (.ref fHeldR) = true)
    (z_isinstance : nsIn K mainGlobals "isinstance" = some none)
    (z_str : nsIn K mainGlobals "str" = some none)
    (z_len : nsIn K mainGlobals "len" = some none)
    (z_all : nsIn K mainGlobals "all" = some none)
    (z_tuple : nsIn K mainGlobals "tuple" = some none)
    (z_enumerate : nsIn K mainGlobals "enumerate" = some none)
    (z_list : nsIn K mainGlobals "list" = some none)
    (z_max : nsIn K mainGlobals "max" = some none)
    (z_range : nsIn K mainGlobals "range" = some none)
    (z_int : nsIn K mainGlobals "int" = some none)
    (z_repr : nsIn K mainGlobals "repr" = some none)
    (z_sorted : nsIn K mainGlobals "sorted" = some none)
    (z_set : nsIn K mainGlobals "set" = some none)
    (z_bool : nsIn K mainGlobals "bool" = some none)
    : ∃ fd : FuncData, (∀ (s : Shared) (v : Value), BindsTo s fd ⟨[v], []⟩ [("_law_script", v)]) ∧ ∀ base : Heap, K.In base → base.Ns mainGlobals mg → FnOkG P w K mg base CX0 9 fa fd ["_law_script"] (spLaw K) := by
  have e := hfa.symm.trans (PySem.W.mg_of X G aL)
  cases e
  have FName := fun_mk (st := sName) lName ccName kfName
  have FStep := fun_mk (st := sStep) lStep ccStep kfStep
  have FBr := fun_mk (st := sBr) lBr ccBr kfBr
  have FBeh := fun_mk (st := sBeh) lBeh ccBeh kfBeh
  have FHeld := fun_mk (st := sHeld) lHeld ccHeld kfHeld
  have FWr := fun_mk (st := sWr) lWr ccWr kfWr
  have FWL := fun_mk (st := sWL) lWL ccWL kfWL
  have FCh := fun_mk (st := sCh) lCh ccCh kfCh
  have FIn := fun_mk (st := sIn) lIn ccIn kfIn
  have FIx := fun_mk (st := sIxF) lIx ccIx kfIx
  have FAl := fun_mk (st := sAl) lAl ccAl kfAl
  have FNum := fun_mk (st := sNum) lNum ccNum kfNum
  have FPool := fun_mk (st := sPool) lPool ccPool kfPool
  have FDr := fun_mk (st := sDraw) lDr ccDr kfDr
  have FPk := fun_mk (st := sPick) lPk ccPk kfPk
  have FTr := fun_mk (st := sTruth) lTr ccTr kfTr
  have FKd := fun_mk (st := sKindL) lKd ccKd kfKd
  have FCz := fun_mk (st := sChz) lCz ccCz kfCz
  have FKp := fun_mk (st := sKept) lKp ccKp kfKp
  have FFa := fun_mk (st := sFault) lFa ccFa kfFa
  have FAsk := fun_mk (st := sAsk) lAsk ccAsk kfAsk
  have FTe := fun_mk (st := sTe) lTe ccTe kfTe
  have FHr := fun_mk (st := sHr) lHr ccHr kfHr
  have FAm := fun_mk (st := sAm) lAm ccAm kfAm
  have FAd := fun_mk (st := sAd) lAd ccAd kfAd
  have FL := fun_mk (st := sLaw) lL ccL kfL
  have FIS := fun_mk (st := sIS) lIS ccIS kfIS
  have FRI := fun_mk (st := sRI) lRI ccRI kfRI
  have FAdd := fun_mk (st := sAdd) lAdd ccAdd kfAdd
  have FRadd := fun_mk (st := sRadd) lRadd ccRadd kfRadd
  have FSt := fun_mk (st := sSt) lSt ccSt kfSt
  have FUN := fun_mk (st := sUN) lUN ccUN kfUN
  have FSH := fun_mk (st := sShut) lSH ccSH kfSH
  have FLK := fun_mk (st := sLocked) lLK ccLK kfLK
  have FNms := fun_mk (st := sNames) lNms ccNms kfNms
  have FIN := fun_mk (st := sINum) lIN ccIN kfIN
  have FCon := fun_mk (st := sCon) lCon ccCon kfCon
  have FGet := fun_mk (st := sGet) lGet ccGet kfGet
  have FLenR := fun_mk (st := sLenR) lLenR ccLenR kfLenR
  have FEqR := fun_mk (st := sEqR) lEqR ccEqR kfEqR
  have FBeg := fun_mk (st := sBeg) lBeg ccBeg kfBeg
  have FWo := fun_mk (st := sWo) lWo ccWo kfWo
  have FHeldR := fun_mk (st := sHeldF) lHeldR ccHeldR kfHeldR
  have z : ∀ {x : Str}, nsIn K mainGlobals x = some none → mg x = none := fun e => PySem.W.mg_none_of X G e
  have CName : Called K mg "is_name" ["value"] fName _ := ⟨PySem.W.mg_of X G aName, kfName, FName.binds (ps := ["value"]) fun _ _ _ _ _ _ us hl => match us, hl with | [_], _ => rfl⟩
  have CStep : Called K mg "is_step" ["value"] fStep _ := ⟨PySem.W.mg_of X G aStep, kfStep, FStep.binds (ps := ["value"]) fun _ _ _ _ _ _ us hl => match us, hl with | [_], _ => rfl⟩
  have CBr : Called K mg "branches" ["item"] fBr _ := ⟨PySem.W.mg_of X G aBr, kfBr, FBr.binds (ps := ["item"]) fun _ _ _ _ _ _ us hl => match us, hl with | [_], _ => rfl⟩
  have CBeh : Called K mg "locks_behind" ["item", "held"] fBeh _ := ⟨PySem.W.mg_of X G aBeh, kfBeh, FBeh.binds (ps := ["item", "held"]) fun _ _ _ _ _ _ us hl => match us, hl with | [_, _], _ => rfl⟩
  have CHeld : Called K mg "held_along" ["items", "around"] fHeld _ := ⟨PySem.W.mg_of X G aHeld, kfHeld, FHeld.binds (ps := ["items", "around"]) fun _ _ _ _ _ _ us hl => match us, hl with | [_, _], _ => rfl⟩
  have CWr : Called K mg "is_wrong" ["item", "later", "around", "taken"] fWr _ := ⟨PySem.W.mg_of X G aWr, kfWr, FWr.binds (ps := ["item", "later", "around", "taken"]) fun _ _ _ _ _ _ us hl => match us, hl with | [_, _, _, _], _ => rfl⟩
  have CWL : Called K mg "wrong_locks" ["items", "around"] fWL _ := ⟨PySem.W.mg_of X G aWL, kfWL, FWL.binds (ps := ["items", "around"]) fun _ _ _ _ _ _ us hl => match us, hl with | [_, _], _ => rfl⟩
  have CCh : Called K mg "check_steps" ["steps"] fCh _ := ⟨PySem.W.mg_of X G aCh, kfCh, FCh.binds (ps := ["steps"]) fun _ _ _ _ _ _ us hl => match us, hl with | [_], _ => rfl⟩
  have CIn : Called K mg "steps_in" ["value"] fIn _ := ⟨PySem.W.mg_of X G aIn, kfIn, FIn.binds (ps := ["value"]) fun _ _ _ _ _ _ us hl => match us, hl with | [_], _ => rfl⟩
  have CIx : Called K mg "is_index" ["value", "many"] fIx _ := ⟨PySem.W.mg_of X G aIx, kfIx, FIx.binds (ps := ["value", "many"]) fun _ _ _ _ _ _ us hl => match us, hl with | [_, _], _ => rfl⟩
  have CAl : Called K mg "are_alike" ["one", "other"] fAl _ := ⟨PySem.W.mg_of X G aAl, kfAl, FAl.binds (ps := ["one", "other"]) fun _ _ _ _ _ _ us hl => match us, hl with | [_, _], _ => rfl⟩
  have CNum : Called K mg "_law_numbers" ["_law_cell", "_law_salt", "_law_sizes"] fNum _ := ⟨PySem.W.mg_of X G aNum, kfNum, FNum.binds (ps := ["_law_cell", "_law_salt", "_law_sizes"]) fun _ _ _ _ _ _ us hl => match us, hl with | [_, _, _], _ => rfl⟩
  have CPool : Called K mg "_law_pool" ["_law_cell", "_law_salt", "_law_many"] fPool _ := ⟨PySem.W.mg_of X G aPool, kfPool, FPool.binds (ps := ["_law_cell", "_law_salt", "_law_many"]) fun _ _ _ _ _ _ us hl => match us, hl with | [_, _, _], _ => rfl⟩
  have CDr : Called K mg "_law_draw" ["_law_pool_here", "_law_many"] fDr _ := ⟨PySem.W.mg_of X G aDr, kfDr, FDr.binds (ps := ["_law_pool_here", "_law_many"]) fun _ _ _ _ _ _ us hl => match us, hl with | [_, _], _ => rfl⟩
  have CPk : Called K mg "_law_pick" ["_law_pool_here", "_law_some"] fPk _ := ⟨PySem.W.mg_of X G aPk, kfPk, FPk.binds (ps := ["_law_pool_here", "_law_some"]) fun _ _ _ _ _ _ us hl => match us, hl with | [_, _], _ => rfl⟩
  have CTr : Called K mg "_law_truth" ["_law_found", "_law_due"] fTr _ := ⟨PySem.W.mg_of X G aTr, kfTr, FTr.binds (ps := ["_law_found", "_law_due"]) fun _ _ _ _ _ _ us hl => match us, hl with | [_, _], _ => rfl⟩
  have CKd : Called K mg "_law_kind" ["_law_word"] fKd _ := ⟨PySem.W.mg_of X G aKd, kfKd, FKd.binds (ps := ["_law_word"]) fun _ _ _ _ _ _ us hl => match us, hl with | [_], _ => rfl⟩
  have CCz : Called K mg "_law_chosen" ["_law_pool_here", "_law_names", "_law_most"] fCz _ := ⟨PySem.W.mg_of X G aCz, kfCz, FCz.binds (ps := ["_law_pool_here", "_law_names", "_law_most"]) fun _ _ _ _ _ _ us hl => match us, hl with | [_, _, _], _ => rfl⟩
  have CKp : Called K mg "_law_kept" ["_law_steps"] fKp _ := ⟨PySem.W.mg_of X G aKp, kfKp, FKp.binds (ps := ["_law_steps"]) fun _ _ _ _ _ _ us hl => match us, hl with | [_], _ => rfl⟩
  have CFa : Called K mg "_law_fault" ["_law_steps"] fFa _ := ⟨PySem.W.mg_of X G aFa, kfFa, FFa.binds (ps := ["_law_steps"]) fun _ _ _ _ _ _ us hl => match us, hl with | [_], _ => rfl⟩
  have CAsk : Called K mg "_law_asked" ["_law_row", "_law_way", "_law_thing"] fAsk _ := ⟨PySem.W.mg_of X G aAsk, kfAsk, FAsk.binds (ps := ["_law_row", "_law_way", "_law_thing"]) fun _ _ _ _ _ _ us hl => match us, hl with | [_, _, _], _ => rfl⟩
  have CTe : Called K mg "_law_tells" ["_law_row", "_law_steps"] fTe _ := ⟨PySem.W.mg_of X G aTe, kfTe, FTe.binds (ps := ["_law_row", "_law_steps"]) fun _ _ _ _ _ _ us hl => match us, hl with | [_, _], _ => rfl⟩
  have CHr : Called K mg "_law_heldrows" ["_law_steps"] fHr _ := ⟨PySem.W.mg_of X G aHr, kfHr, FHr.binds (ps := ["_law_steps"]) fun _ _ _ _ _ _ us hl => match us, hl with | [_], _ => rfl⟩
  have CAm : Called K mg "_law_among" ["_law_row", "_law_steps", "_law_pool_here", "_law_names"] fAm _ := ⟨PySem.W.mg_of X G aAm, kfAm, FAm.binds (ps := ["_law_row", "_law_steps", "_law_pool_here", "_law_names"]) fun _ _ _ _ _ _ us hl => match us, hl with | [_, _, _, _], _ => rfl⟩
  have CAd : Called K mg "_law_added" ["_law_row", "_law_other", "_law_both"] fAd _ := ⟨PySem.W.mg_of X G aAd, kfAd, FAd.binds (ps := ["_law_row", "_law_other", "_law_both"]) fun _ _ _ _ _ _ us hl => match us, hl with | [_, _, _], _ => rfl⟩
  have bIS := FIS.binds (ps := ["self", "index"]) fun _ _ _ _ _ _ us hl => match us, hl with | [_, _], _ => rfl
  have bAdd := FAdd.binds (ps := ["self", "other"]) fun _ _ _ _ _ _ us hl => match us, hl with | [_, _], _ => rfl
  have bRadd := FRadd.binds (ps := ["self", "other"]) fun _ _ _ _ _ _ us hl => match us, hl with | [_, _], _ => rfl
  have bSt := FSt.binds (ps := ["self"]) fun _ _ _ _ _ _ us hl => match us, hl with | [_], _ => rfl
  have bUN := FUN.binds (ps := ["self", "name"]) fun _ _ _ _ _ _ us hl => match us, hl with | [_, _], _ => rfl
  have bSH := FSH.binds (ps := ["work"]) fun _ _ _ _ _ _ us hl => match us, hl with | [_], _ => rfl
  have bNms := FNms.binds (ps := ["self", "kind"]) fun _ _ _ _ _ _ us hl => match us, hl with | [_, _], _ => rfl
  have bIN := FIN.binds (ps := ["self", "value"]) fun _ _ _ _ _ _ us hl => match us, hl with | [_, _], _ => rfl
  have bCon := FCon.binds (ps := ["self", "x"]) fun _ _ _ _ _ _ us hl => match us, hl with | [_, _], _ => rfl
  have bGet := FGet.binds (ps := ["self", "at"]) fun _ _ _ _ _ _ us hl => match us, hl with | [_, _], _ => rfl
  have bLenR := FLenR.binds (ps := ["self"]) fun _ _ _ _ _ _ us hl => match us, hl with | [_], _ => rfl
  have bEqR := FEqR.binds (ps := ["self", "other"]) fun _ _ _ _ _ _ us hl => match us, hl with | [_, _], _ => rfl
  have bBeg := FBeg.binds (ps := ["self", "other"]) fun _ _ _ _ _ _ us hl => match us, hl with | [_, _], _ => rfl
  have bWo := FWo.binds (ps := ["self", "index"]) fun _ _ _ _ _ _ us hl => match us, hl with | [_, _], _ => rfl
  have bHeldR := FHeldR.binds (ps := ["self", "done"]) fun _ _ _ _ _ _ us hl => match us, hl with | [_, _], _ => rfl
  have oI : OexG K cI fI := ⟨⟨_, _, _, _, PySem.F.excBase_Exception, PySem.F.store_Exception, _, _, _, _, _, _, _, _, _, _, _, _, _, _, _, xI, by rfl⟩, saI, gaI, ggI, eCI, tCI, kCI, hCI, iI, tI, haI, hn, ht, hmI⟩
  have hW : ∀ w ∈ W10, ∃ u, PySem.W.nsIn K dK w = some (some u) := fun w hw => by
    simp only [W10, List.mem_cons, List.mem_nil_iff, or_false] at hw
    rcases hw with rfl | rfl | rfl | rfl | rfl | rfl | rfl | rfl | rfl | rfl
    · exact ⟨_, w0⟩
    · exact ⟨_, w1⟩
    · exact ⟨_, w2⟩
    · exact ⟨_, w3⟩
    · exact ⟨_, w4⟩
    · exact ⟨_, w5⟩
    · exact ⟨_, w6⟩
    · exact ⟨_, w7⟩
    · exact ⟨_, w8⟩
    · exact ⟨_, w9⟩
  have oU : OexG K cU fU := ⟨⟨_, _, _, _, PySem.F.excBase_LookupError, PySem.F.store_LookupError, _, _, _, _, _, _, _, _, _, _, _, _, _, _, _, xU, by rfl⟩, saU, gaU, ggU, eCU, tCU, kCU, hCU, iU, tU, haU, hn, ht, hmU⟩
  have hKd : ∀ x ∈ W10, KDct K w dK x (.str (kindOf x)) := fun w' hw => by
    simp only [W10, List.mem_cons, List.mem_nil_iff, or_false] at hw
    rcases hw with rfl | rfl | rfl | rfl | rfl | rfl | rfl | rfl | rfl | rfl
    · have k0 : kindOf "cancel" = "works" := by decide +kernel
      rw [k0]
      exact ⟨esK, nK, _, lK, hK, w0, ⟨_, rfl⟩⟩
    · have k0 : kindOf "bar" = "works" := by decide +kernel
      rw [k0]
      exact ⟨esK, nK, _, lK, hK, w1, ⟨_, rfl⟩⟩
    · have k0 : kindOf "halt" = "works" := by decide +kernel
      rw [k0]
      exact ⟨esK, nK, _, lK, hK, w2, ⟨_, rfl⟩⟩
    · have k0 : kindOf "settle" = "works" := by decide +kernel
      rw [k0]
      exact ⟨esK, nK, _, lK, hK, w3, ⟨_, rfl⟩⟩
    · have k0 : kindOf "close" = "gates" := by decide +kernel
      rw [k0]
      exact ⟨esK, nK, _, lK, hK, w4, ⟨_, rfl⟩⟩
    · have k0 : kindOf "drain" = "gates" := by decide +kernel
      rw [k0]
      exact ⟨esK, nK, _, lK, hK, w5, ⟨_, rfl⟩⟩
    · have k0 : kindOf "set" = "flags" := by decide +kernel
      rw [k0]
      exact ⟨esK, nK, _, lK, hK, w6, ⟨_, rfl⟩⟩
    · have k0 : kindOf "clear" = "flags" := by decide +kernel
      rw [k0]
      exact ⟨esK, nK, _, lK, hK, w7, ⟨_, rfl⟩⟩
    · have k0 : kindOf "take" = "locks" := by decide +kernel
      rw [k0]
      exact ⟨esK, nK, _, lK, hK, w8, ⟨_, rfl⟩⟩
    · have k0 : kindOf "give" = "locks" := by decide +kernel
      rw [k0]
      exact ⟨esK, nK, _, lK, hK, w9, ⟨_, rfl⟩⟩
  have hKs : ∀ H : Hp, SqT K H aKs (kinds4.map V.str) := fun H => .inr ⟨_, _, _, lKs, rfl, rfl, by show 4 ≤ sizeLine; decide, .cons ⟨_, rfl⟩ (.cons ⟨_, rfl⟩ (.cons ⟨_, rfl⟩ (.cons ⟨_, rfl⟩ .nil)))⟩
  have DK : KDict K w dK esK nK := ⟨lK, hK, lowK⟩
  obtain ⟨exI, exN, exIN, kRR, kT, nfR, nfT⟩ := kit_of_B kb
  have aT : ∀ T ∈ ["NoneType", "bool", "int", "list", "str", "dict", "tuple"], AddT K cR T := fun T hT => by
    simp only [List.mem_cons, List.mem_nil_iff, or_false] at hT
    rcases hT with rfl | rfl | rfl | rfl | rfl | rfl | rfl
    · exact ⟨⟨_, _, fo_0, ro_0⟩, su0⟩
    · exact ⟨⟨_, _, fo_1, ro_1⟩, su1⟩
    · exact ⟨⟨_, _, fo_2, ro_2⟩, su2⟩
    · exact ⟨⟨_, _, fo_3, ro_3⟩, su3⟩
    · exact ⟨⟨_, _, fo_4, ro_4⟩, su4⟩
    · exact ⟨⟨_, _, fo_5, ro_5⟩, su5⟩
    · exact ⟨⟨_, _, fo_6, ro_6⟩, su6⟩
  have R : RowC K mg cR fRI fAdd fRadd := ⟨PySem.W.mg_of X G aR, ⟨pgR, hdR, poR, saR⟩, nSR, nHR, ⟨mkR, aRI, iRI, kCR⟩, ⟨sfR, aAdd, iAdd, aRadd, iRadd⟩, haR, hn, ht, hmR, kRR, kT, aT, ⟨_, _, fo_6, ro_6, rtup⟩⟩
  refine ⟨PySem.W.fnOf "law" "law" (defArgs sLaw) (defBody sLaw) (defScope sLaw) .none kVL dcL pmL anL cdL ctL, fun s v => .of_eq rfl, fun base _ _ => ?_⟩
  have T : Er P w K mg base "InvalidStep" "index" cI fI _ := ⟨PySem.W.mg_of X G aI, oI, nI, ok_IS FIS, bIS⟩
  have gName := ok_name (P := P) (w := w) (base := base) FName (z z_isinstance) (z z_str) (z z_len) (z z_all) (PySem.W.mg_of X G gML)
  have gStep := ok_step FStep gName CName (z z_isinstance) (z z_str) (z z_tuple) (z z_len) (PySem.W.mg_of X G gK) DK
  have gBr := ok_br (P := P) (w := w) (mg := mg) (base := base) FBr
  have gBeh := ok_beh (P := P) (w := w) (mg := mg) (base := base) FBeh
  have gHeld := ok_held FHeld gBr CBr gBeh CBeh
  have gWr := ok_wr (P := P) (w := w) (mg := mg) (base := base) FWr
  have gWL := ok_wl FWL gBr CBr gBeh CBeh gWr CWr (z z_enumerate)
  have gCh := ok_check FCh gStep CStep gWL CWL T (PySem.W.mg_of X G gMS) (z z_enumerate) (z z_len)
  have gRI := ok_RI (d := dK) (C := cR) (CI := cI) FRI R gCh CCh gHeld CHeld
  have gIn := ok_in (d := dK) FIn R T (z z_isinstance) (z z_tuple)
  have gAdd := ok_add FAdd R gRI gIn CIn
  have gRadd := ok_radd FRadd R gRI gIn CIn
  have gSt := ok_steps (P := P) (w := w) (base := base) (d := dK) FSt R (z z_list)
  have gNum := ok_num (P := P) (w := w) (base := base) (k := 0) FNum (z z_max) (z z_range) (z z_len)
  have TU : Er P w K mg base "UnknownName" "name" cU fU _ := ⟨PySem.W.mg_of X G aU, oU, nU, ok_UN FUN, bUN⟩
  have gSh := ok_shut FSH R hW gRI
  have gLk := ok_locked FLK R hW gRI
  have gNms := ok_names FNms R TU hKd (PySem.W.mg_of X G gK) (PySem.W.mg_of X G gKs) hKs (z z_isinstance) (z z_str) (z z_sorted)
  have mSt : Meth K cR "steps" fSt := ⟨aSt, iSt, kfSt⟩
  have mNms : Meth K cR "names" fNms := ⟨aNms, iNms, kfNms⟩
  have SMS : SMet K cR "shut" pSH fSH := ⟨rdR, gaR, smSH, ⟨_, rcSH⟩, kfSH⟩
  have SML : SMet K cR "locked" pLK fLK := ⟨rdR, gaR, smLK, ⟨_, rcLK⟩, kfLK⟩
  have oN : OexG K cN fN := ⟨⟨_, _, _, _, PySem.F.excBase_ValueError, PySem.F.store_ValueError, _, _, _, _, _, _, _, _, _, _, _, _, _, _, _, xN, by rfl⟩, saN, gaN, ggN, eCN, tCN, kCN, hCN, iN, tN, haN, hn, ht, hmN⟩
  have TN : Er P w K mg base "InvalidNumber" "value" cN fN _ := ⟨PySem.W.mg_of X G aN, oN, nN, ok_INum FIN, bIN⟩
  have nmc : Nm.NmC K cR "Row" := ⟨rdR, atR, ⟨_, _, obR, rfl, rfl, nameR⟩, pgcR, hdR, haR, hn, ht, hmR, by show 3 ≤ sizeLine; decide⟩
  have kp : Nm.Kept K cR (.str "Row" tkR) := fun o e => by
    rw [obR] at e
    cases e
    exact slotR
  have gIx := ok_ix (P := P) (w := w) (base := base) FIx (z z_isinstance) (z z_int) (z z_bool)
  have gAl : ∀ base, FnOk P w K mg base CX0 1 fAl _ ["one", "other"] (spAl cR) := fun base => ok_alK FAl nmc kp
  have gLenR := ok_lenR (P := P) (w := w) (base := base) (d := dK) FLenR R (z z_len)
  have gCon := ok_con FCon R gStep CStep
  have gGet := ok_get (d := dK) FGet R TN gIx CIx (z z_len)
  have gHeldR := ok_heldR (d := dK) FHeldR R TN gIx CIx (z z_len)
  have gWo := ok_without FWo R TN gRI gIx CIx (z z_len)
  have gBeg := ok_begins (P := P) (w := w) (base := base) (d := dK) FBeg R (z z_len)
  have gEq := ok_eqK (P := P) (w := w) (base := base) (d := dK) FEqR R gAl CAl (z z_isinstance)
  have gNe := ok_neR (P := P) (w := w) (base := base) (d := dK) FEqR R (z z_isinstance)
  have EC : EqC K cR fEqR := ⟨aEqR, iEqR, nfR, nfT⟩
  have gPool := ok_pool FPool gNum CNum
  have gDr := ok_draw (P := P) (w := w) (base := base) FDr (z z_len) (z z_int)
  have gPk := ok_pick FPk gDr CDr (z z_len)
  have gTr := ok_truth (P := P) (w := w) (base := base) FTr (z z_isinstance) (z z_bool)
  have gFa := ok_fault (P := P) (w := w) (base := base) FFa (z z_enumerate)
  have gKd := ok_kindL (P := P) (w := w) (mg := mg) (base := base) FKd
  have gKp := ok_kept (P := P) (w := w) (base := base) FKp (z z_tuple)
  have gHr := ok_heldrows FHr gKp CKp (z z_range) (z z_len)
  have gCz := ok_chosen FCz hW gDr CDr gPk CPk (z z_len) (z z_range)
  have mHeldR : Meth K cR "held" fHeldR := ⟨aHeldR, iHeldR, kfHeldR⟩
  have mWo : Meth K cR "without" fWo := ⟨aWo, iWo, kfWo⟩
  have mBeg : Meth K cR "begins" fBeg := ⟨aBeg, iBeg, kfBeg⟩
  have gAsk := ok_asked FAsk R TN T exN exIN exI aGet fnG iGet gGet bGet gHeldR bHeldR mHeldR gWo bWo mWo gSt bSt mSt (z z_repr)
  have gTe := ok_tells (aK := cR) FTe R gAsk CAsk gKd CKd gFa CFa gHr CHr gSt bSt mSt gNms bNms mNms gLenR bLenR aLenR iLenR (z z_len) (z z_isinstance) (z z_range) (z z_sorted) (z z_set) (z z_repr)
  have gAd := ok_added FAd R T exI gAdd bAdd gRadd bRadd gSt bSt mSt gFa CFa (z z_tuple) (z z_range) (z z_len)
  have gAm := ok_among FAm R hW wFree wUse gPk CPk gCon bCon aCon iCon (z z_range) (z z_list)
  exact ok_law (CN := cN) FL hW R gPool CPool gDr CDr gCz CCz gFa CFa gAd CAd gTe CTe gAm CAm gTr CTr gRI gAdd bAdd gSt bSt mSt EC gEq gNe bEqR gBeg bBeg mBeg SMS gSh bSH SML gLk (z z_enumerate) (z z_int) (z z_len) (z z_tuple)
theorem walk {l : PySem.W.OpenLaw} {q : Program} {loose : List Str} {XP : (Str → Option Value) → Heap → Prop} {YP : World → Heap → Prop} {d : DefRec} {K : Params → PySem.W.Frag} (hn : l.most = some 63) (hdf : d.params.defaults = [])
    (hY : ∀ (w : World) (h : Heap), YP w h → (K w.params).In h)
    (F : ∀ (w : World) (mg : Str → Option Value) (fa : Addr) (h : Heap), (K w.params).In h → h.Ns mainGlobals mg → mg d.name = some (.ref fa) →
      ∃ fd : FuncData, (∀ (s : Shared) (u : Value), BindsTo s fd ⟨[u], []⟩ [("_law_script", u)]) ∧ ∀ base : Heap, (K w.params).In base → base.Ns mainGlobals mg → FnOkG l.prog w (K w.params) mg base CX0 9 fa fd ["_law_script"] (spLaw (K w.params))) :
    PySem.W.WalkO q loose XP YP l.row.toRowW d [] (fun f vs => PySem.call f vs) :=
  L2.walk_ofG (n := 63) (k := 9) (x := "_law_script") (CX := fun _ => CX0) (sp := fun w => spLaw (K w.params)) hn (by decide) hdf ⟨rfl, by decide, by decide⟩ hY F (fun _ _ a ns hl _ hS => ⟨a, ns, rfl, hS, hl, fun _ => rfl⟩) fun _ _ _ _ _ z => z
end Rw

/-! X24 -/
open PySem PySem.W PyProof.Rows
set_option maxRecDepth 100000 in
set_option maxHeartbeats 0 in
theorem PySem.Challenge.cw_takendown_k10_whole_rows_holds : PySem.Challenge.rw_takendown_k10_whole_rows.Holds := by
  w_on; o_law; k_head; (case hw => w_witness2)
  k_fill
  refine Rw.walk (l := PySem.Challenge.rw_takendown_k10_whole_rows) rfl rfl (fun w h Y => PySem.W.kIn_of Y) ?F
  case F =>
    intro w mg fa h KX G hmg
    refine' Rw.all_mk KX G hmg ?aI ?xI ?saI ?gaI ?ggI ?nI ?iI ?tI ?kCI ?eCI ?tCI ?hCI ?haI ?hmI ?hn ?ht ?aR ?pgR ?hdR ?poR ?saR ?nSR ?nHR ?mkR ?kCR ?sfR ?haR ?hmR ?kb ?fo_0 ?ro_0 ?su0 ?fo_1 ?ro_1 ?su1 ?fo_2 ?ro_2 ?su2 ?fo_3 ?ro_3 ?su3 ?fo_4 ?ro_4 ?su4 ?fo_5 ?ro_5 ?su5 ?fo_6 ?ro_6 ?su6 ?rtup ?smSH ?rcSH ?smLK ?rcLK ?rdR ?gaR ?aU ?xU ?saU ?gaU ?ggU ?nU ?iU ?tU ?kCU ?eCU ?tCU ?hCU ?haU ?hmU ?aN ?xN ?saN ?gaN ?ggN ?nN ?iN ?tN ?kCN ?eCN ?tCN ?hCN ?haN ?hmN ?atR ?obR ?nameR ?slotR ?pgcR ?gKs ?lKs ?gK ?lK ?hK ?lowK ?w0 ?w1 ?w2 ?w3 ?w4 ?w5 ?w6 ?w7 ?w8 ?w9 ?wFree ?wUse ?gML ?gMS ?aName ?aStep ?aBr ?aBeh ?aHeld ?aWr ?aWL ?aCh ?aIn ?aIx ?aAl ?aNum ?aPool ?aDr ?aPk ?aTr ?aKd ?aCz ?aKp ?aFa ?aAsk ?aTe ?aHr ?aAm ?aAd ?aL ?aRI ?iRI ?aAdd ?iAdd ?aRadd ?iRadd ?aSt ?iSt ?aNms ?iNms ?aCon ?iCon ?aGet ?iGet ?fnG ?aLenR ?iLenR ?aEqR ?iEqR ?aBeg ?iBeg ?aWo ?iWo ?aHeldR ?iHeldR ?lName ?ccName ?kfName ?lStep ?ccStep ?kfStep ?lBr ?ccBr ?kfBr ?lBeh ?ccBeh ?kfBeh ?lHeld ?ccHeld ?kfHeld ?lWr ?ccWr ?kfWr ?lWL ?ccWL ?kfWL ?lCh ?ccCh ?kfCh ?lIn ?ccIn ?kfIn ?lIx ?ccIx ?kfIx ?lAl ?ccAl ?kfAl ?lNum ?ccNum ?kfNum ?lPool ?ccPool ?kfPool ?lDr ?ccDr ?kfDr ?lPk ?ccPk ?kfPk ?lTr ?ccTr ?kfTr ?lKd ?ccKd ?kfKd ?lCz ?ccCz ?kfCz ?lKp ?ccKp ?kfKp ?lFa ?ccFa ?kfFa ?lAsk ?ccAsk ?kfAsk ?lTe ?ccTe ?kfTe ?lHr ?ccHr ?kfHr ?lAm ?ccAm ?kfAm ?lAd ?ccAd ?kfAd ?lL ?ccL ?kfL ?lIS ?ccIS ?kfIS ?lRI ?ccRI ?kfRI ?lAdd ?ccAdd ?kfAdd ?lRadd ?ccRadd ?kfRadd ?lSt ?ccSt ?kfSt ?lUN ?ccUN ?kfUN ?lSH ?ccSH ?kfSH ?lLK ?ccLK ?kfLK ?lNms ?ccNms ?kfNms ?lIN ?ccIN ?kfIN ?lCon ?ccCon ?kfCon ?lGet ?ccGet ?kfGet ?lLenR ?ccLenR ?kfLenR ?lEqR ?ccEqR ?kfEqR ?lBeg ?ccBeg ?kfBeg ?lWo ?ccWo ?kfWo ?lHeldR ?ccHeldR ?kfHeldR ?z_isinstance ?z_str ?z_len ?z_all ?z_tuple ?z_enumerate ?z_list ?z_max ?z_range ?z_int ?z_repr ?z_sorted ?z_set ?z_bool
    (case aI => k_is)
    (case xI => k_is)
    (case saI => k_is)
    (case gaI => k_is)
    (case ggI => k_is)
    (case nI => k_is)
    (case iI => k_is)
    (case tI => k_is)
    (case kCI => k_is)
    (case eCI => k_is)
    (case tCI => k_is)
    (case hCI => k_is)
    (case haI => k_is)
    (case hmI => k_is)
    (case hn => k_is)
    (case ht => k_is)
    (case aR => k_is)
    (case pgR => k_is)
    (case hdR => k_is)
    (case poR => k_is)
    (case saR => k_is)
    (case nSR => k_is)
    (case nHR => k_is)
    (case mkR => k_is)
    (case kCR => k_is)
    (case sfR => k_is)
    (case haR => k_is)
    (case hmR => k_is)
    (case kb => kernel_rfl)
    (case fo_0 => k_is)
    (case ro_0 => k_is)
    (case su0 => k_is)
    (case fo_1 => k_is)
    (case ro_1 => k_is)
    (case su1 => k_is)
    (case fo_2 => k_is)
    (case ro_2 => k_is)
    (case su2 => k_is)
    (case fo_3 => k_is)
    (case ro_3 => k_is)
    (case su3 => k_is)
    (case fo_4 => k_is)
    (case ro_4 => k_is)
    (case su4 => k_is)
    (case fo_5 => k_is)
    (case ro_5 => k_is)
    (case su5 => k_is)
    (case fo_6 => k_is)
    (case ro_6 => k_is)
    (case su6 => k_is)
    (case rtup => rfl)
    (case smSH => k_is)
    (case rcSH => k_is)
    (case smLK => k_is)
    (case rcLK => k_is)
    (case rdR => k_is)
    (case gaR => k_is)
    (case aU => k_is)
    (case xU => k_is)
    (case saU => k_is)
    (case gaU => k_is)
    (case ggU => k_is)
    (case nU => k_is)
    (case iU => k_is)
    (case tU => k_is)
    (case kCU => k_is)
    (case eCU => k_is)
    (case tCU => k_is)
    (case hCU => k_is)
    (case haU => k_is)
    (case hmU => k_is)
    (case aN => k_is)
    (case xN => k_is)
    (case saN => k_is)
    (case gaN => k_is)
    (case ggN => k_is)
    (case nN => k_is)
    (case iN => k_is)
    (case tN => k_is)
    (case kCN => k_is)
    (case eCN => k_is)
    (case tCN => k_is)
    (case hCN => k_is)
    (case haN => k_is)
    (case hmN => k_is)
    (case atR => k_is)
    (case obR => k_is)
    (case nameR => kernel_rfl)
    (case slotR => exact rfl)
    (case pgcR => k_is)
    (case gKs => k_is)
    (case lKs => k_is)
    (case gK => k_is)
    (case lK => k_is)
    (case hK => k_keys)
    (case lowK => rfl)
    (case w0 => k_is)
    (case w1 => k_is)
    (case w2 => k_is)
    (case w3 => k_is)
    (case w4 => k_is)
    (case w5 => k_is)
    (case w6 => k_is)
    (case w7 => k_is)
    (case w8 => k_is)
    (case w9 => k_is)
    (case wFree => k_is)
    (case wUse => k_is)
    (case gML => k_is)
    (case gMS => k_is)
    (case aName => k_is)
    (case aStep => k_is)
    (case aBr => k_is)
    (case aBeh => k_is)
    (case aHeld => k_is)
    (case aWr => k_is)
    (case aWL => k_is)
    (case aCh => k_is)
    (case aIn => k_is)
    (case aIx => k_is)
    (case aAl => k_is)
    (case aNum => k_is)
    (case aPool => k_is)
    (case aDr => k_is)
    (case aPk => k_is)
    (case aTr => k_is)
    (case aKd => k_is)
    (case aCz => k_is)
    (case aKp => k_is)
    (case aFa => k_is)
    (case aAsk => k_is)
    (case aTe => k_is)
    (case aHr => k_is)
    (case aAm => k_is)
    (case aAd => k_is)
    (case aL => k_is)
    (case aRI => k_is)
    (case iRI => k_is)
    (case aAdd => k_is)
    (case iAdd => k_is)
    (case aRadd => k_is)
    (case iRadd => k_is)
    (case aSt => k_is)
    (case iSt => k_is)
    (case aNms => k_is)
    (case iNms => k_is)
    (case aCon => k_is)
    (case iCon => k_is)
    (case aGet => k_is)
    (case iGet => k_is)
    (case fnG => k_is)
    (case aLenR => k_is)
    (case iLenR => k_is)
    (case aEqR => k_is)
    (case iEqR => k_is)
    (case aBeg => k_is)
    (case iBeg => k_is)
    (case aWo => k_is)
    (case iWo => k_is)
    (case aHeldR => k_is)
    (case iHeldR => k_is)
    (case lName => k_is)
    (case ccName => k_is)
    (case kfName => k_is)
    (case lStep => k_is)
    (case ccStep => k_is)
    (case kfStep => k_is)
    (case lBr => k_is)
    (case ccBr => k_is)
    (case kfBr => k_is)
    (case lBeh => k_is)
    (case ccBeh => k_is)
    (case kfBeh => k_is)
    (case lHeld => k_is)
    (case ccHeld => k_is)
    (case kfHeld => k_is)
    (case lWr => k_is)
    (case ccWr => k_is)
    (case kfWr => k_is)
    (case lWL => k_is)
    (case ccWL => k_is)
    (case kfWL => k_is)
    (case lCh => k_is)
    (case ccCh => k_is)
    (case kfCh => k_is)
    (case lIn => k_is)
    (case ccIn => k_is)
    (case kfIn => k_is)
    (case lIx => k_is)
    (case ccIx => k_is)
    (case kfIx => k_is)
    (case lAl => k_is)
    (case ccAl => k_is)
    (case kfAl => k_is)
    (case lNum => k_is)
    (case ccNum => k_is)
    (case kfNum => k_is)
    (case lPool => k_is)
    (case ccPool => k_is)
    (case kfPool => k_is)
    (case lDr => k_is)
    (case ccDr => k_is)
    (case kfDr => k_is)
    (case lPk => k_is)
    (case ccPk => k_is)
    (case kfPk => k_is)
    (case lTr => k_is)
    (case ccTr => k_is)
    (case kfTr => k_is)
    (case lKd => k_is)
    (case ccKd => k_is)
    (case kfKd => k_is)
    (case lCz => k_is)
    (case ccCz => k_is)
    (case kfCz => k_is)
    (case lKp => k_is)
    (case ccKp => k_is)
    (case kfKp => k_is)
    (case lFa => k_is)
    (case ccFa => k_is)
    (case kfFa => k_is)
    (case lAsk => k_is)
    (case ccAsk => k_is)
    (case kfAsk => k_is)
    (case lTe => k_is)
    (case ccTe => k_is)
    (case kfTe => k_is)
    (case lHr => k_is)
    (case ccHr => k_is)
    (case kfHr => k_is)
    (case lAm => k_is)
    (case ccAm => k_is)
    (case kfAm => k_is)
    (case lAd => k_is)
    (case ccAd => k_is)
    (case kfAd => k_is)
    (case lL => k_is)
    (case ccL => k_is)
    (case kfL => k_is)
    (case lIS => k_is)
    (case ccIS => k_is)
    (case kfIS => k_is)
    (case lRI => k_is)
    (case ccRI => k_is)
    (case kfRI => k_is)
    (case lAdd => k_is)
    (case ccAdd => k_is)
    (case kfAdd => k_is)
    (case lRadd => k_is)
    (case ccRadd => k_is)
    (case kfRadd => k_is)
    (case lSt => k_is)
    (case ccSt => k_is)
    (case kfSt => k_is)
    (case lUN => k_is)
    (case ccUN => k_is)
    (case kfUN => k_is)
    (case lSH => k_is)
    (case ccSH => k_is)
    (case kfSH => k_is)
    (case lLK => k_is)
    (case ccLK => k_is)
    (case kfLK => k_is)
    (case lNms => k_is)
    (case ccNms => k_is)
    (case kfNms => k_is)
    (case lIN => k_is)
    (case ccIN => k_is)
    (case kfIN => k_is)
    (case lCon => k_is)
    (case ccCon => k_is)
    (case kfCon => k_is)
    (case lGet => k_is)
    (case ccGet => k_is)
    (case kfGet => k_is)
    (case lLenR => k_is)
    (case ccLenR => k_is)
    (case kfLenR => k_is)
    (case lEqR => k_is)
    (case ccEqR => k_is)
    (case kfEqR => k_is)
    (case lBeg => k_is)
    (case ccBeg => k_is)
    (case kfBeg => k_is)
    (case lWo => k_is)
    (case ccWo => k_is)
    (case kfWo => k_is)
    (case lHeldR => k_is)
    (case ccHeldR => k_is)
    (case kfHeldR => k_is)
    (case z_isinstance => k_is)
    (case z_str => k_is)
    (case z_len => k_is)
    (case z_all => k_is)
    (case z_tuple => k_is)
    (case z_enumerate => k_is)
    (case z_list => k_is)
    (case z_max => k_is)
    (case z_range => k_is)
    (case z_int => k_is)
    (case z_repr => k_is)
    (case z_sorted => k_is)
    (case z_set => k_is)
    (case z_bool => k_is)
