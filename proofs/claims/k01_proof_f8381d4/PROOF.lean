import PyProof.Rows.All
import Wide.All
import OpenK.AllK
import Wide.FinOn
import HandS.ForMost
import HandS.ForExc
import HandS.ExcInit
import HandS.ExcIs
import HandS.IsInst
import HandS.ExcField
import HandS.MakeKw
import HandS.MakeKwOnly
import KE.KExcInit
import KE.KExcIs
import HandS.Wide
import HandS.Flow
import PyProof.Rows.NestShow
import HandS.Ends
import PySem.Challenge.RW_takendown_k01_error_classes
set_option Elab.async false
set_option linter.all false
set_option maxRecDepth 100000
set_option maxHeartbeats 4000000
/-! ### own error classes with an __init__ of their own, over any built-in base; made by position and by keywords -/
namespace PySem
namespace LwX
open PySem.HandSPX Builtin Builtin.ObjectAttr
section
variable {M : Model} {A : Around} {E : Value → Shared → Prop} {h : Heap} {g : Array GenState} {d : Drawn} {t : Nat} {os : OsState}
variable {nm q : Str} {C N : Addr} {bs bm bmB : List Value} {hdct : Bool} {sn : List Str} {sub : List Value} {ab : Bool} {col : Option Bool} {dd : Option Addr} {k0 k1 k2 k3 k5 : Option Value} {B newId initId : String}
theorem check_new_kw (F : ExcBaseFacts B newId initId bmB) (hT : ∀ X : String, bm.contains (.type X) = bmB.contains (.type X)) {rest : List Value} {kw : List (Str × Value)} {Q : Unit → Shared → Prop}
    (hC : h.get? C = some (excClassObj nm q C N bs bm hdct sn sub ab col dd k0 k1 k2 k3 k5 newId)) (hq : Q () ⟨h, g, d, t, os⟩) : wpAny M A (checkBuiltinCall newId ⟨.ref C :: rest, kw⟩) Q E ⟨h, g, d, t, os⟩ := by
  have hcont : (Value.ref C :: bm).contains (.type B) = true := by rw [List.contains_cons, hT, F.hasB, Bool.or_true]
  have hstar := F.noStar
  simp only [checkBuiltinCall, F.newKind, F.newSplit, F.newRow]
  repeat (first | refine wpAny_loadPart_at hC ?_ | (refine wpAny_isSubtype_exc hC ?_; rw [hcont]) | refine wpAny_staticBase_exc hC ?_ | refine wpAny_madeBy_exc hC ?_ | simp only [bne_self_eq_false, Bool.false_eq_true, if_false] | wp_step)
  exact hq
end
section
variable {prog : Program} {w : World} {A : Around} {E : Value → Shared → Prop} {R : Result → Shared → Prop} {h : Heap} {g : Array GenState} {d : Drawn} {t : Nat} {os : OsState}
variable {nm q : Str} {C N : Addr} {bs bm bmB : List Value} {hdct : Bool} {sn : List Str} {sub : List Value} {ab : Bool} {col : Option Bool} {dd : Option Addr} {k0 k1 k2 k3 k5 : Option Value} {B newId initId : String}
theorem new_kw (F : ExcBaseFacts B newId initId bmB) (hT : ∀ X : String, bm.contains (.type X) = bmB.contains (.type X)) {rest : List Value} {kw : List (Str × Value)}
    (hC : h.get? C = some (excClassObj nm q C N bs bm hdct sn sub ab col dd k0 k1 k2 k3 k5 newId))
    (hq : R (.ok (.ret (.ref (h.objs.size + 1)))) ⟨(h.push { cls := .type "tuple", data := .seq rest.toArray }).push
      { cls := .ref C, data := .fields #[.ref h.objs.size, .none, .none, .none, .bool false, .none] }, g, d, t, os⟩) (hrest : rest.length ≤ sizeLine) :
    codeAny (model prog w) A (.builtin newId ⟨.ref C :: rest, kw⟩) R ⟨h, g, d, t, os⟩ := by
  have hends := F.ends
  have hcB : (Value.ref C :: bm).contains (.type B) = true := by rw [List.contains_cons, hT, F.hasB, Bool.or_true]
  have hcA : (Value.ref C :: bm).contains (.type "AttributeError") = false := by rw [List.contains_cons, hT, F.noAttr]; rfl
  have hcN : (Value.ref C :: bm).contains (.type "NameError") = false := by rw [List.contains_cons, hT, F.noName]; rfl
  refine codeAny_builtinAt F.entry ?_
  unfold Builtin.«BaseException.__new__»
  refine wpAt_bind ?_
  show wpAt _ _ _ (stack >>= _) _ _ _
  refine wpAt_bind (wpAt_stack fun p below => wpAt_of_wpAny ?_)
  wp_walk
  refine wpAt_of_wpAny ?_
  rw [F.owner]
  repeat (first | with_reducible refine wpAny_madeHere_exc F.canon hC ?_ | with_reducible refine wpAny_loadPart_at hC ?_ | (with_reducible refine wpAny_isSubtype_exc hC ?_; first | rw [hcB] | rw [hcA] | rw [hcN]) | wp_step)
  show R _ _
  rw [Heap.size_push]
  exact hq
theorem type_call_kw (F : ExcBaseFacts B newId initId bmB) (hT : ∀ X : String, bm.contains (.type X) = bmB.contains (.type X)) {rest : List Value} {kw : List (Str × Value)} {fI : Addr} {Q : Fin → Shared → Prop}
    (hC : h.get? C = some (excClassObj nm q C N bs bm hdct sn sub ab col dd k0 k1 k2 k3 k5 newId))
    (hi : W.Looks (model prog w) h (typeLookup (.ref C) "__init__") (some (.ref fI))) (hb : ∀ self, W.Looks (model prog w) h (bindSpecial (.ref fI) self) (.ref fI, [self])) (hrest : rest.length ≤ sizeLine)
    (hq : codeAny (model prog w) A (.call (.ref fI) ⟨.ref (h.objs.size + 1) :: rest, kw⟩)
      (fun r s' => match r with | .ok (.ret v) => v = .none ∧ Q (.done (.ret (.ref (h.objs.size + 1)))) s' | .ok _ => False | .error e => E e s')
      ⟨(h.push (W.kdv_tup rest)).push (excO C h.objs.size), g, d, t, os⟩) :
    wpAny (model prog w) A (Builtin.«type.__call__» ⟨.ref C :: rest, kw⟩) Q E ⟨h, g, d, t, os⟩ := by
  repeat (first | with_reducible refine wpAny_loadPart_at hC ?_ | with_reducible refine wpAny_madeBy_exc hC ?_ | wp_step)
  refine codeAny_call_builtin_code (Code.quiet_builtin _ F.quiet) (check_new_kw F hT hC ?_)
  refine new_kw F hT hC ?_ hrest
  show wpAny _ _ _ _ _ _
  have k : ∀ b o, h.get? b = some o → ((h.push (W.kdv_tup rest)).push (excO C h.objs.size)).get? b = some o := fun b o e => Heap.get?_push_of_some _ (Heap.get?_push_of_some _ e)
  have hC₁ := k _ _ hC
  have hget : ((h.push (W.kdv_tup rest)).push (excO C h.objs.size)).get? (h.objs.size + 1) = some (excO C h.objs.size) := by heap_get
  have hcC : (Value.ref C :: bm).contains (.ref C) = true := by simp
  have i1 := hi.keeps k
  have b1 := (hb (.ref (h.objs.size + 1))).keeps k
  unfold isInstance
  repeat (first | with_reducible refine wpAny_loadPart_at hget ?_ | (with_reducible refine wpAny_isSubtype_exc hC₁ ?_; rw [hcC]) | wp_step)
  show wpAny _ _ (typeLookup (.ref C) _) _ _ _
  refine i1.at ?_
  refine wpAny_holding (wpAny_bind (b1.at ?_))
  refine wpAny_bind (wpAny_call (codeAny_mono hq fun r s' z => ?_))
  rcases r with e | (v | _ | _ | _) <;> first | exact z | exact z.elim | skip
  obtain ⟨rfl, z⟩ := z
  first
    | exact wpAny_pure (wpAny_pure z)
    | (wp_walk; exact z)
theorem check_type_call_kw {M : Model} {rest : List Value} {kw : List (Str × Value)} {Q : Unit → Shared → Prop} (hC : h.get? C = some (excClassObj nm q C N bs bm hdct sn sub ab col dd k0 k1 k2 k3 k5 newId)) (hq : Q () ⟨h, g, d, t, os⟩) :
    wpAny M A (checkBuiltinCall "type.__call__" ⟨.ref C :: rest, kw⟩) Q E ⟨h, g, d, t, os⟩ := by
  have f3 := tc_sub
  have hT : (⟨h, g, d, t, os⟩ : Shared).TypeIs (.ref C) "type" := ⟨_, hC, rfl⟩
  simp only [checkBuiltinCall, tc_kind, tc_split]
  repeat (any_goals (first | assumption | with_reducible refine wpAny_loadPart_at hC ?_ | with_reducible refine wpAny_onRaise ?_ | with_reducible refine wpAny_map ?_ | wp_step))
theorem call_kw (F : ExcBaseFacts B newId initId bmB) (hT : ∀ X : String, bm.contains (.type X) = bmB.contains (.type X)) {rest : List Value} {kw : List (Str × Value)} {fI : Addr}
    (hC : h.get? C = some (excClassObj nm q C N bs bm hdct sn sub ab col dd k0 k1 k2 k3 k5 newId))
    (hi : W.Looks (model prog w) h (typeLookup (.ref C) "__init__") (some (.ref fI))) (hb : ∀ self, W.Looks (model prog w) h (bindSpecial (.ref fI) self) (.ref fI, [self])) (hrest : rest.length ≤ sizeLine)
    (hq : codeAny (model prog w) (A.under (.builtin "type.__call__" ⟨.ref C :: rest, kw⟩)) (.call (.ref fI) ⟨.ref (h.objs.size + 1) :: rest, kw⟩) (W.InitBack (h.objs.size + 1) R)
      ⟨(h.push (W.kdv_tup rest)).push (excO C h.objs.size), g, d, t, os⟩) :
    codeAny (model prog w) A (.call (.ref C) ⟨rest, kw⟩) R ⟨h, g, d, t, os⟩ := by
  have f1 := tc_lookup
  have f2 := tc_bind (.ref C)
  have hTy : (⟨h, g, d, t, os⟩ : Shared).TypeIs (.ref C) "type" := ⟨_, hC, rfl⟩
  refine codeAny_of_tree ?_
  show wpAny _ _ (callAny (.ref C) _) _ _ _
  repeat (any_goals (first | assumption | with_reducible refine wpAny_loadPart_at hC ?_ | wp_step))
  refine ⟨rfl, ?_⟩
  refine codeAny_call_builtin_at (Code.quiet_builtin _ (by decide +kernel)) entry_typeCall (check_type_call_kw hC (type_call_kw F hT hC hi hb hrest ?_))
  refine codeAny_mono hq fun r s' z => ?_
  rcases r with e | (v | _ | _ | _) <;> exact z
end
section
variable {prog : Program} {w : World} {A : Around} {E : Value → Shared → Prop} {R : Result → Shared → Prop} {hp : Heap} {g : Array GenState} {d : Drawn} {t : Nat} {os : OsState} {B : String} {bmB : List Value}
/-- self.name = v, the first field -/
theorem osa_first {K : W.Frag} {name : Str} {tk : Tok} {v : Value} {x C : Addr} {fv : Array Value} {cd : ClassData} (SB : StoreFacts B bmB "object.__setattr__" "object")
    (X : K.In hp) (hx : hp.get? x = some { cls := .ref C, data := .fields fv }) (hcd : W.clsIn K C = some cd) (hm : W.excTail bmB cd.mro = true) (hh : cd.hasDict = true) (ha : W.findIn K (.ref C) name = some none)
    (hq : ∀ h' tk' dx, (∀ b o, b ≠ x → hp.get? b = some o → h'.get? b = some o) → hp.objs.size ≤ dx → dx ≠ x → h'.get? x = some { cls := .ref C, dict := some dx, data := .fields fv } →
      h'.Ns1 dx (fun y => if y = name then some v else none) → R (.ok (.ret .none)) ⟨h', g, d, tk', os⟩) :
    codeAny (model prog w) A (.call (.builtin "object.__setattr__") ⟨[.ref x, .str name tk, v], []⟩) R ⟨hp, g, d, t, os⟩ := by
  have I : W.InstAt hp x { cls := .ref C, data := .fields fv } C none := ⟨hx, rfl, rfl, trivial⟩
  have SF := F.store_object
  have hob : cd.mro.contains (.type "object") = true := (W.excTail_contains "object" _ hm).trans SB.hasOwner
  have ne : cd.mro.isEmpty = false := by
    cases e : cd.mro with
    | nil =>
      rw [e] at hob
      cases hob
    | cons _ _ => rfl
  have hxs : x ≠ hp.objs.size := Nat.ne_of_lt (Heap.lt_size hx)
  have sub : W.Looks (model prog w) hp (isInstance (.ref x) (.type "object")) true := I.type.andThen (W.looks_mroIn X (by unfold W.mroIn; rw [hcd, Option.bind_some, if_neg (by rw [ne]; decide), hob]))
  refine codeAny_call_builtin SF.slot.plain SF.entry (@W.check_slot (model prog w) _ _ ⟨hp, g, d, t, os⟩ "object.__setattr__" "object" "__setattr__" (.ref x) [.str name tk, v] [] _ SF.kind SF.split sub (SF.args (.ref x) (.str name tk) v) ?_)
  have hmr : W.Looks (model prog w) hp (mroOf (.ref C)) cd.mro := (W.looks_clsIn X hcd).andThen .now
  have L3 : W.Looks (model prog w) hp (storeTaker? none) none := .now
  have hcls : W.Looks (model prog w) hp (classData C) cd := W.looks_clsIn X hcd
  rw [W.osa_eq, refuse_eq]
  refine wpAny_bind (wpAny_bind (I.type.at (wpAny_bind (hmr.at ?_))))
  rw [W.excTail_pass _ (SB.passes _) _ hm]
  refine wpAny_pure (wpAny_bind (I.type.at (wpAny_bind ((W.looks_findIn X ha).at (wpAny_bind (L3.at ?_))))))
  show wpAny _ _ (storeInOwnDict (.ref x) (.ref C) (.str name tk) name v false) _ _ _
  obtain ⟨nm, bs, mro, ns, qn, hd, sn, sb, ab, col, del⟩ := cd
  dsimp only at hh
  subst hh
  unfold storeInOwnDict ownDictForStores
  repeat (first | with_reducible refine store_in_new ?_ ?_ | with_reducible refine wpAny_loadPart_at hx ?_ | with_reducible refine hcls.at ?_ | wp_step)
  · exact ⟨_, #[], _, (Heap.get?_update_ne _ _ _ _ hxs.symm).trans (Heap.get?_push_at rfl rfl), rfl, fun e he => absurd he (by simp), fun _ => rfl⟩
  · intro h' tk' hn' hs
    have hx₁ : (hp.push { cls := .type "dict", data := .dict #[] }).get? x = some { cls := .ref C, data := .fields fv } := Heap.get?_push_of_some _ hx
    refine hq h' tk' hp.objs.size (fun b o hb ho => ?_) (Nat.le_refl _) hxs.symm ?_ hn'
    · exact (hs.2 b (Nat.ne_of_lt (Heap.lt_size ho))).trans ((Heap.get?_update_ne _ _ _ _ hb).trans (Heap.get?_push_of_some _ ho))
    · exact (hs.2 x hxs).trans (Heap.get?_update_self _ hx₁ rfl)
/-- a further field -/
theorem osa_further {K : W.Frag} {name : Str} {tk : Tok} {v : Value} {x C dx : Addr} {fv : Array Value} {cd : ClassData} {m0 : Str → Option Value} {nl : List Str} (SB : StoreFacts B bmB "object.__setattr__" "object")
    (X : K.In hp) (hx : hp.get? x = some { cls := .ref C, dict := some dx, data := .fields fv }) (hns : hp.Ns1 dx m0) (hw : Within m0 nl) (hz : nl.length ≤ 1000) (hcd : W.clsIn K C = some cd) (hm : W.excTail bmB cd.mro = true) (hh : cd.hasDict = true)
    (ha : W.findIn K (.ref C) name = some none)
    (hq : ∀ h' tk', (∀ b o, b ≠ dx → hp.get? b = some o → h'.get? b = some o) → h'.Ns1 dx (fun y => if y = name then some v else m0 y) → R (.ok (.ret .none)) ⟨h', g, d, tk', os⟩) :
    codeAny (model prog w) A (.call (.builtin "object.__setattr__") ⟨[.ref x, .str name tk, v], []⟩) R ⟨hp, g, d, t, os⟩ := by
  obtain ⟨oD, esD, epD, hoD, hdD, _⟩ := hns.count hw
  have I : W.InstAt hp x { cls := .ref C, dict := some dx, data := .fields fv } C (some oD) := ⟨hx, rfl, rfl, hoD⟩
  have SF := F.store_object
  have hob : cd.mro.contains (.type "object") = true := (W.excTail_contains "object" _ hm).trans SB.hasOwner
  have ne : cd.mro.isEmpty = false := by
    cases e : cd.mro with
    | nil =>
      rw [e] at hob
      cases hob
    | cons _ _ => rfl
  have sub : W.Looks (model prog w) hp (isInstance (.ref x) (.type "object")) true := I.type.andThen (W.looks_mroIn X (by unfold W.mroIn; rw [hcd, Option.bind_some, if_neg (by rw [ne]; decide), hob]))
  refine codeAny_call_builtin SF.slot.plain SF.entry (@W.check_slot (model prog w) _ _ ⟨hp, g, d, t, os⟩ "object.__setattr__" "object" "__setattr__" (.ref x) [.str name tk, v] [] _ SF.kind SF.split sub (SF.args (.ref x) (.str name tk) v) ?_)
  have hmr : W.Looks (model prog w) hp (mroOf (.ref C)) cd.mro := (W.looks_clsIn X hcd).andThen .now
  have L3 : W.Looks (model prog w) hp (storeTaker? none) none := .now
  have hcls : W.Looks (model prog w) hp (classData C) cd := W.looks_clsIn X hcd
  rw [W.osa_eq, refuse_eq]
  refine wpAny_bind (wpAny_bind (I.type.at (wpAny_bind (hmr.at ?_))))
  rw [W.excTail_pass _ (SB.passes _) _ hm]
  refine wpAny_pure (wpAny_bind (I.type.at (wpAny_bind ((W.looks_findIn X ha).at (wpAny_bind (L3.at ?_))))))
  show wpAny _ _ (storeInOwnDict (.ref x) (.ref C) (.str name tk) name v false) _ _ _
  obtain ⟨nm, bs, mro, ns, qn, hd, sn, sb, ab, col, del⟩ := cd
  dsimp only at hh
  subst hh
  unfold storeInOwnDict ownDictForStores
  repeat (first | with_reducible refine PySem.OEX.store_in_old hns hw hz ?_ | with_reducible refine wpAny_loadPart_at hx ?_ | with_reducible refine hcls.at ?_ | wp_step)
  intro h' tk' hn' hs
  exact hq h' tk' (fun b o hb ho => (hs.2 b hb).trans ho) hn'
end
end LwX
end PySem
/-! ### the same over the layer -/
namespace L2
open PySem PySem.Spec PyProof.Rows
/-- what the written part says of an own error class at C whose __init__ is the def at fI -/
structure OexG (K : PySem.W.Frag) (C fI : Addr) : Prop where
  base : ∃ (B newId initId : String) (bmB : List Value), ExcBaseFacts B newId initId bmB ∧ StoreFacts B bmB "object.__setattr__" "object" ∧
    ∃ nm q N bs bm sn sub ab col dd k0 k1 k2 k3 k5, K.lookup C = some (excClassObj nm q C N bs bm true sn sub ab col dd k0 k1 k2 k3 k5 newId) ∧ PySem.W.excTail bmB bm = true
  sa : PySem.W.findIn K (.ref C) "__setattr__" = some (some (.builtin "object.__setattr__"))
  ga : PySem.W.findIn K (.ref C) "__getattribute__" = some (some (.builtin "BaseException.__getattribute__"))
  gg : PySem.W.findIn K (.ref C) "__getattr__" = some none
  exC : PySem.W.subIn K (.ref C) (.type "BaseException") = some true
  tyC : PySem.W.typeIn K (.ref C) = some (.type "type")
  kC : PySem.W.keepIn K (.ref C) = true
  hdC : PySem.W.hasDictIn K C = true
  iC : PySem.W.findIn K (.ref C) "__init__" = some (some (.ref fI))
  tI : PySem.W.typeIn K (.ref fI) = some (.type "function")
  ha : PySem.W.findIn K (.ref C) "__class__" = some (some (.builtin "object.__class__"))
  hn : PySem.W.specialIn K (.builtin "object.__class__") "__get__" = some (some (.builtin "getset_descriptor.__get__"))
  ht : PySem.W.takesIn K (.builtin "object.__class__") = some true
  hm : PySem.W.mroIn K C (.type "object") = some true
section
variable {X : Cx} {pins : List (Addr × Obj)} {σ : St} {H : Hp} {s : Shared} {a C fI dx : Addr} {f : Str} {y : V} {u : Value} {fs : List (Str × V)} {Q : Unit → Shared → Prop} {E : Value → Shared → Prop} {A : Around}
theorem ost_first (T : OexG X.K C fI) (I : Inv X pins σ H s) (e : H a = some (exo a C none)) (hno : PySem.W.findIn X.K (.ref C) f = some none) (ry : RelV y u)
    (h : ∀ dx s', H dx = none → dx ≠ a → Inv X pins σ (upd (upd H dx (exd dx [(f, y)])) a (exo a C (some dx))) s' → Q () s') : wpAny (model X.prog X.w) A (setAttr (.ref a) f u) Q E s := by
  obtain ⟨B, newId, initId, bmB, FB, SB, nm, q, N, bs, bm, sn, sub, ab, col, dd, k0, k1, k2, k3, k5, hC, hbm⟩ := T.base
  have hcl : PySem.W.clsIn X.K C = some { name := nm, bases := bs, mro := .ref C :: bm, ns := N, qualname := q, hasDict := true, slotNames := sn, subclasses := sub, abstract := ab, collection := col, hasDel := false } := by unfold PySem.W.clsIn; rw [hC] <;> rfl
  obtain ⟨t1, ho⟩ := exo_at I.hok e
  obtain ⟨hp, g, d, t, os⟩ := s
  refine PySem.W.set_plain I.kIn (ox := { cls := .ref C, dict := none, data := .fields #[.ref t1, .none, .none, .none, .bool false, .none] }) (od := none) ⟨ho, rfl, rfl, trivial⟩ T.sa ?_
  refine PySem.LwX.osa_first SB I.kIn ho hcl (show PySem.W.excTail bmB (.ref C :: bm) = true from hbm) rfl hno (fun h' tk' dx k dn dne hx hn => ?_)
  have hnd : H dx = none := I.hok.fresh dn
  have nd : ∀ {b : Addr} {o : Obj}, hp.get? b = some o → b ≠ dx := fun {b o} q => Nat.ne_of_lt (Nat.lt_of_lt_of_le (Heap.lt_size q) dn)
  have na : ∀ {b : Addr}, H b = none → b ≠ a := fun {b} n z => by
    rw [z, e] at n
    cases n
  have Un1 : Un X.fs [] H (upd (upd H dx (exd dx [(f, y)])) a (exo a C (some dx))) hp h' := {
    keep := fun b o q n _ _ => k b o (na n) q
    slot := fun b o q n _ _ => ⟨o.slots, k b o (na n) q⟩
    free := fun b o q n _ => by rw [upd_ne (na n), upd_ne (nd q)]; exact n
    there := fun b o q _ => by
      by_cases hb : b = a
      · exact ⟨_, by rw [hb]; exact hx⟩
      · exact ⟨o, k b o hb q⟩
    tups := fun b xs q => by rw [upd_ne (at_ne e q exo_tup), upd_ne (ne_of_none q hnd)]; exact q
    frzs := fun b o v q => by rw [upd_ne (at_ne e q exo_frz), upd_ne (ne_of_none q hnd)]; exact q
    tbls := fun b ps q => ⟨#[], by rw [upd_ne (at_ne e q exo_tbl), upd_ne (ne_of_none q hnd), q]; simp⟩ }
  refine h dx _ hnd dne (I.un (t' := tk') Un1 fun b o q => ?_)
  by_cases hb : b = a
  · subst hb
    rw [upd_same] at q
    cases q
    exact exo_ok hx
  · rw [upd_ne hb] at q
    by_cases hd : b = dx
    · subst hd
      rw [upd_same] at q
      cases q
      exact exd_ok hn (relO_put (fs := []) ry fun g => True.intro)
    · rw [upd_ne hd] at q
      exact (I.hok b o q).stay (fun c v hc z => k c v (by
          rcases hc with hc | hc
          · rw [hc]
            exact hb
          · exact at_ne e hc exo_own) z)
        (fun c hc => by rw [upd_ne (at_ne e hc exo_own), upd_ne (ne_of_none hc hnd)]; exact hc) (fun c xs hc => by rw [upd_ne (at_ne e hc exo_tup), upd_ne (ne_of_none hc hnd)]; exact hc)
theorem ost_further (T : OexG X.K C fI) (I : Inv X pins σ H s) (e : H a = some (exo a C (some dx))) (ed : H dx = some (exd dx fs)) (hl : fs.length ≤ 900) (hno : PySem.W.findIn X.K (.ref C) f = some none) (ry : RelV y u)
    (h : ∀ s', Inv X pins σ (upd H dx (exd dx ((f, y) :: fs))) s' → Q () s') : wpAny (model X.prog X.w) A (setAttr (.ref a) f u) Q E s := by
  obtain ⟨B, newId, initId, bmB, FB, SB, nm, q, N, bs, bm, sn, sub, ab, col, dd, k0, k1, k2, k3, k5, hC, hbm⟩ := T.base
  have hcl : PySem.W.clsIn X.K C = some { name := nm, bases := bs, mro := .ref C :: bm, ns := N, qualname := q, hasDict := true, slotNames := sn, subclasses := sub, abstract := ab, collection := col, hasDel := false } := by unfold PySem.W.clsIn; rw [hC] <;> rfl
  obtain ⟨t1, ho⟩ := exo_at I.hok e
  obtain ⟨mA, hns, rel⟩ := exd_at I.hok ed
  have hw := within_of rel
  obtain ⟨hp, g, d, t, os⟩ := s
  obtain ⟨oD, _, _, hoD, _, _⟩ := hns.count hw
  refine PySem.W.set_plain I.kIn (ox := { cls := .ref C, dict := some dx, data := .fields #[.ref t1, .none, .none, .none, .bool false, .none] }) (od := some oD) ⟨ho, rfl, rfl, hoD⟩ T.sa ?_
  refine PySem.LwX.osa_further SB I.kIn ho hns hw (by rw [List.length_map]; omega) hcl (show PySem.W.excTail bmB (.ref C :: bm) = true from hbm) rfl hno (fun h' tk' k hn => ?_)
  have hd : ∃ o, h'.get? dx = some o := by
    obtain ⟨o, _, _, e', _⟩ := hn
    exact ⟨o, e'⟩
  exact h _ (I.write (t' := tk') (x := dx) (e := dx) (o := exd dx ((f, y) :: fs)) (by rw [ed]; exact True.intro) (.inl rfl) k hd (exd_ok hn (relO_put ry rel)))
end
/-- self.f = e -/
def tOstG (K : PySem.W.Frag) (f : Str) (to te : TE) : TS := fun D σ H => te σ H fun y H1 => to σ H1 fun x H2 => ∃ a C fI : Addr, x = .ref a ∧ OexG K C fI ∧ PySem.W.findIn K (.ref C) f = some none ∧
  ((H2 a = some (exo a C none) ∧ ∀ dx, H2 dx = none → dx ≠ a → D.nx σ (upd (upd H2 dx (exd dx [(f, y)])) a (exo a C (some dx)))) ∨
    ∃ (dx : Addr) (fs : List (Str × V)), H2 a = some (exo a C (some dx)) ∧ H2 dx = some (exd dx fs) ∧ fs.length ≤ 900 ∧ D.nx σ (upd H2 dx (exd dx ((f, y) :: fs))))
/-- C(e, ..), C(k = e, ..): a new error, its __init__ keeping sp -/
def tMkG (C fI : Addr) (K : PySem.W.Frag) (sp : Sp) (ta : TA) : TE := fun σ H Q => ta σ H fun vs H1 => vs.length ≤ 1000 ∧ ∀ a, H1 a = none → sp (.ref a :: vs) (upd H1 a (exo a C none)) (fun v H2 => v = .non ∧ Q (.ref a) H2) (fun _ _ _ => False)
def tMkGK (C fI : Addr) (n : Nat) (sp : Sp) (gV : List V → List V → List V) (tk : TA) : TE := fun σ H Q => tk σ H fun zs H1 => zs.length = n ∧ ∀ a, H1 a = none → sp (gV [.ref a] zs) (upd H1 a (exo a C none)) (fun v H2 => v = .non ∧ Q (.ref a) H2) (fun _ _ _ => False)
/-- e.f of such an error -/
def tXg (K : PySem.W.Frag) (f : Str) (te : TE) : TE := fun σ H Q => te σ H fun x H1 => ∃ (a C fI d : Addr) (fs : List (Str × V)) (v : V), x = .ref a ∧ OexG K C fI ∧ PySem.W.findIn K (.ref C) f = some none ∧ H1 a = some (exo a C (some d)) ∧ H1 d = some (exd d fs) ∧ fs.lookup f = some v ∧ Q v H1
/-- isinstance(e, c) of such an error -/
def rIsG (K : PySem.W.Frag) : List V → Hp → VK → Prop := fun xs H Q => ∃ (a C fI d : Addr) (fs : List (Str × V)) (c : V) (u : Value) (b : Bool), xs = [.ref a, c] ∧ ClsV c u ∧ OexG K C fI ∧ H a = some (exo a C (some d)) ∧ H d = some (exd d fs) ∧
  PySem.W.kitOne K (.ref C) u = some b ∧ Q (.bl b) H
section
variable {X : Cx} {o e : Expr} {es : List Expr} {to te : TE} {ta tk : TA} {f x : Str} {p p' p1 p2 pos : Pos} {CX : CXT} {C fI : Addr} {k : Nat} {fd : FuncData} {ps ks : List Str} {sp : Sp} {kws : List Keyword} {g : List Value → List Value → List Value} {gV : List V → List V → List V}
theorem ps_ostG (ho : PE X o to) (he : PE X e te) (hs : swapsWith e (some (.Attribute o f p')) pos.line X.env = pure false := by rfl) : PS X (.Assign [.Attribute o f p'] e pos) (tOstG X.K f to te) := by
  refine ⟨fun pins s σ H D I h => ?_⟩
  refine plainObj_wpAny_Assign_Attribute (thn (he.run pins s σ H _ I h) fun v s1 ⟨y, H1, I1, r1, q1⟩ => thn (ho.run pins s1 σ H1 _ I1 q1) fun u s2 ⟨x, H2, I2, r2, a, C, fI, ex, T, hno, q⟩ => ?_) hs
  subst ex
  obtain rfl : u = Value.ref a := r2
  rcases q with ⟨ea, q⟩ | ⟨dx, fs, ea, ed, hl, q⟩
  · exact ost_first T I2 ea hno r1 fun dx s' n ne J => ⟨σ, _, J, q dx n ne⟩
  · exact ost_further T I2 ea ed hl hno r1 fun s' J => ⟨σ, _, J, q⟩
theorem run_mkG {pins : List (Addr × Obj)} {σ : St} {H1 : Hp} {s1 : Shared} {Q : VK} {us : List Value} {bV : Addr → List V} {bv : Addr → List Value} {kw : List (Str × Value)} (T : OexG X.K C fI) (F1 : FnOk X.prog X.w X.K X.mg X.base CX k fI fd ps sp) (hr : Room (k + 1) X.A)
    (hx : Passes CX X (fun _ _ _ => False)) (I1 : Inv X pins σ H1 s1) (hz : us.length ≤ sizeLine)
    (hbt : ∀ (a : Addr) (s : Shared), X.K.In s.heap → BindsTo s fd ⟨.ref a :: us, kw⟩ (ps.zip (bv a))) (r3 : ∀ a, Vals (bV a) (bv a))
    (h : ∀ a, H1 a = none → sp (bV a) (upd H1 a (exo a C none)) (fun v H2 => v = .non ∧ Q (.ref a) H2) (fun _ _ _ => False)) :
    wpAny (model X.prog X.w) X.A (call (.ref C) us kw) (EP X pins σ Q) X.xe s1 := by
  obtain ⟨B, newId, initId, bmB, FB, SB, nm, q, N, bs, bm, sn, sub, ab, col, dd, k0, k1, k2, k3, k5, hC, hbm⟩ := T.base
  obtain ⟨hp, g, dr, tk, os⟩ := s1
  have hsz : hp.objs.size ≤ hp.objs.size + 1 := Nat.le_succ _
  have hn : H1 (hp.objs.size + 1) = none := I1.hok.fresh hsz
  have hq := h (hp.objs.size + 1) hn
  have kk : ∀ b o, hp.get? b = some o → ((hp.push (PySem.W.kdv_tup us)).push (PySem.HandSPX.excO C hp.objs.size)).get? b = some o := fun b o e => Heap.get?_push_of_some _ (Heap.get?_push_of_some _ e)
  have hget : ((hp.push (PySem.W.kdv_tup us)).push (PySem.HandSPX.excO C hp.objs.size)).get? (hp.objs.size + 1) = some (PySem.HandSPX.excO C hp.objs.size) := by heap_get
  have I2 : Inv X pins σ (upd H1 (hp.objs.size + 1) (exo (hp.objs.size + 1) C none)) ⟨(hp.push (PySem.W.kdv_tup us)).push (PySem.HandSPX.excO C hp.objs.size), g, dr, tk, os⟩ :=
    I1.laid (t' := tk) (a := hp.objs.size + 1) (o := exo (hp.objs.size + 1) C none) (h' := (hp.push (PySem.W.kdv_tup us)).push (PySem.HandSPX.excO C hp.objs.size)) kk hsz (exo_ok hget)
  refine wpAny_call (PySem.LwX.call_kw FB (fun Y => PySem.W.excTail_contains Y bm hbm) (I1.kIn _ _ hC) (PySem.W.looks_findIn I1.kIn T.iC) (fun self => PySem.W.bind_fn I1.kIn self T.tI) hz
    (codeAny_mono (F1.run _ X.stack _ _ ⟨Value.ref (hp.objs.size + 1) :: us, kw⟩ (bv (hp.objs.size + 1)) _ _ (fun _ _ _ => False) (hr.make C us kw) (I2.env0.make C us kw) (hbt _ _ I2.kIn) (r3 _) hq) fun r s' hq' => ?_))
  cases r with
  | error er => exact hx pins σ _ _ er s' I2 hq'
  | ok fl =>
    cases fl with
    | ret u =>
      obtain ⟨v, H', I3, rv, ev, q3⟩ := I2.after hq'
      subst ev
      exact ⟨rv, ⟨V.ref (hp.objs.size + 1), H', I3, rfl, q3⟩⟩
    | next => exact False.elim hq'
    | brk => exact False.elim hq'
    | cont => exact False.elim hq'
theorem pe_mkG (T : OexG X.K C fI) (F1 : FnOk X.prog X.w X.K X.mg X.base CX k fI fd ps sp) (hr : Room (k + 1) X.A) (hb : Binds X.K fd ps []) (hx : Passes CX X (fun _ _ _ => False)) (hg : Gl X x) (hm : X.mg x = some (.ref C)) (ha : PA X (e :: es) ta)
    (hdb : (x == ("__debug__" : Str)) = false := by decide) (he : starEach (e :: es) X.env = (false, eval e X.env) :: starEach es X.env := by rfl) (hpl : (backTo pos (starEach es X.env)).any (·.1) = false := by rfl) :
    PE X (.Call (.Name x p) (e :: es) [] pos) (tMkG C fI X.K sp ta) := by
  refine ⟨fun pins s σ H Q I h => ?_⟩
  refine wpAny_Call_Name_kw (ld_glob I hg hm ?_ hdb)
  refine PySem.W.callWith_K (h₀ := X.base) I.ok.mod.kin T.kC (thn (ha.run pos pins s σ H _ I h) fun us s1 ⟨vs, H1, I1, r1, hz, q1⟩ => ⟨I1.kIn, ?_⟩) he hpl
  show wpAny _ _ (call (.ref C) us) _ _ _
  refine run_mkG (bv := fun a => .ref a :: us) (bV := fun a => .ref a :: vs) (kw := []) T F1 hr hx I1 (by rw [← Paired.length r1, sizeLine_eq]; omega) (fun a s hk => ?_) (fun a => .cons rfl r1) q1
  have hl : (Value.ref a :: us).length = ps.length := by
    obtain ⟨b, hb0⟩ : ∃ b, H1 b = none := ⟨_, I1.hok.fresh (Nat.le_refl _)⟩
    have z := F1.len _ _ _ _ (q1 b hb0)
    rw [List.length_cons, ← Paired.length r1]
    exact z
  have z := hb s (Value.ref a :: us) hk (by rw [List.append_nil]; exact hl)
  rw [List.append_nil] at z
  exact z
theorem pe_mkGK (T : OexG X.K C fI) (F1 : FnOk X.prog X.w X.K X.mg X.base CX k fI fd ps sp) (hr : Room (k + 1) X.A) (hb : KBn X.K fd ps 1 ks g gV) (hx : Passes CX X (fun _ _ _ => False)) (hg : Gl X x) (hm : X.mg x = some (.ref C)) (hkw : PK X kws tk)
    (hall : (backToKw pos (keywordEach kws X.env)).all (·.1.isSome) = true := by rfl) (hks : (backToKw pos (keywordEach kws X.env)).filterMap (·.1) = ks := by rfl) (hdb : (x == ("__debug__" : Str)) = false := by decide)
    (hpl : ((backTo pos (starEach [] X.env)).any (·.1) || (backToKw pos (keywordEach kws X.env)).any (·.1.isNone)) = false := by rfl) :
    PE X (.Call (.Name x p) [] kws pos) (tMkGK C fI ks.length sp gV tk) := by
  refine ⟨fun pins s σ H Q I h => ?_⟩
  refine wpAny_Call_Name_kw (ld_glob I hg hm ?_ hdb)
  refine PySem.W.callWith_KW0 (h₀ := X.base) I.ok.mod.kin T.kC hall ?_ hpl
  refine thn (hkw.run pos pins s σ H _ I h) fun ws s2 ⟨zs, H2, I2, rz, l2, q2⟩ => ⟨I2.kIn, ?_⟩
  rw [hks]
  exact run_mkG (us := []) (bv := fun a => g [.ref a] ws) (bV := fun a => gV [.ref a] zs) T F1 hr hx I2 (Nat.zero_le _) (fun a s hk => hb.to s [.ref a] ws hk rfl (rz.length.symm.trans l2)) (fun a => hb.rel (.cons rfl .nil) rz) q2
theorem pe_xg (he : PE X e te) (hb : attributeBase e f X.env (eval e X.env) = eval e X.env := by rfl) : PE X (.Attribute e f pos) (tXg X.K f te) := by
  refine ⟨fun pins s σ H Q I h => ?_⟩
  refine attr_of hb (thn (he.run pins s σ H _ I h) fun u s1 hh => ?_)
  obtain ⟨x, H1, I1, rx, a, C, fI, d, fs, v, ex, T, hno, ea, ed, l, q⟩ := hh
  subst ex
  obtain rfl : u = Value.ref a := rx
  obtain ⟨t1, ho⟩ := exo_at I1.hok ea
  obtain ⟨mA, hns, hr⟩ := exd_at I1.hok ed
  obtain ⟨od, hod, hl⟩ := lookIn_ns hns
  obtain ⟨u, hu, ru⟩ := RelO.some_of (v := v) (o := mA f) (by rw [← l]; exact hr f)
  have J : PySem.W.InstAt s1.heap a { cls := .ref C, dict := some d, data := .fields #[.ref t1, .none, .none, .none, .bool false, .none] } C (some od) := ⟨ho, rfl, rfl, hod⟩
  exact HandSPX.exc_get I1.kIn J T.ga T.gg T.exC (PySem.W.findObj_own T.hdC hno rfl (by rw [hl, hu])) (handed_of ru) ⟨v, H1, I1.tok _, ru, q⟩
theorem call_isG : CallR X (.builtin "isinstance") (rIsG X.K) := by
  intro pins s σ H xs us Q I r h
  obtain ⟨a, C, fI, d, fs, c, u, b, rfl, k, T, ea, ed, e, q⟩ := h
  obtain ⟨u1, u2, rfl, r1, r2⟩ := vals2 r
  have e2 := k.eq r2
  subst e2
  cases (show u1 = Value.ref a from r1)
  obtain ⟨t1, ho⟩ := exo_at I.hok ea
  obtain ⟨mA, hns, hr⟩ := exd_at I.hok ed
  obtain ⟨od, hod, hl⟩ := lookIn_ns hns
  have J : PySem.W.InstAt s.heap a { cls := .ref C, dict := some d, data := .fields #[.ref t1, .none, .none, .none, .bool false, .none] } C (some od) := ⟨ho, rfl, rfl, hod⟩
  have hcl : (PySem.W.clsIn X.K C).isSome = true := by
    obtain ⟨cdD, hcD, _⟩ := PySem.W.any_some T.hdC
    rw [hcD]
    rfl
  exact PySem.W.kia_one (PySem.W.kitx_exc hcl T.ga T.gg T.exC T.ha T.hn T.ht T.hm) I.kIn J e (fun z => nomatch z) fun tk => ⟨.bl b, H, I.tok tk, rfl, q⟩
end
end L2
/-! ### repr of nested data, an empty dict among it, where no repr is under way -/
namespace L2
open PySem PySem.Spec PyProof.Rows
mutual
inductive Dq (K : PySem.W.Frag) (H : Hp) : V → PyData → Prop
  | non : Dq K H .non .none
  | bl (b : Bool) : Dq K H (.bl b) (.bool b)
  | int (i : Int) : Dq K H (.int i) (.int i)
  | str (x : Str) : Dq K H (.str x) (.str x)
  | lst {a : Addr} {xs : List V} {ds : List PyData} : SqL K H a xs → DqAll K H xs ds → Dq K H (.ref a) (.list ds)
  | tup {a : Addr} {xs : List V} {ds : List PyData} : SqT K H a xs → DqAll K H xs ds → Dq K H (.ref a) (.tuple ds)
  | dic {a : Addr} : H a = some (.dK []) → Dq K H (.ref a) (.dict [])
inductive DqAll (K : PySem.W.Frag) (H : Hp) : List V → List PyData → Prop
  | nil : DqAll K H [] []
  | cons {v : V} {vs : List V} {d : PyData} {ds : List PyData} : Dq K H v d → DqAll K H vs ds → DqAll K H (v :: vs) (d :: ds)
end
section
variable {X : Cx} {pins : List (Addr × Obj)} {σ : St} {H : Hp} {s : Shared}
mutual
theorem Dq.reprs (I : Inv X pins σ H s) : ∀ (d : PyData) (v : V) (u : Value), Dq X.K H v d → RelV v u → d.showable = true → d.shown.length ≤ sizeLine →
    ∃ as bs, Reads s.heap u d as ∧ ReadAtMost s.heap d.depth bs ∧ ReprK X.prog X.w bs s.heap d.depth u d.shown
  | .none, _, _, h, r, _, _ => by
    cases h
    cases r
    exact ⟨_, [], Reads.none, (fun _ h => nomatch h), by simp only [PyData.shown]; exact .of_is ReprIs.none _ _ _⟩
  | .bool b, _, _, h, r, _, _ => by
    cases h
    cases r
    exact ⟨_, [], Reads.bool b, (fun _ h => nomatch h), by simp only [PyData.shown]; exact .of_is (ReprIs.bool b) _ _ _⟩
  | .int i, _, _, h, r, hs, _ => by
    cases h
    obtain ⟨t, rfl⟩ := r
    exact ⟨_, [], Reads.int i t, (fun _ h => nomatch h), by simp only [PyData.shown]; exact .of_is (ReprIs.int t (by simpa [PyData.showable] using hs)) _ _ _⟩
  | .str x, _, _, h, r, _, hz => by
    cases h
    obtain ⟨t, rfl⟩ := r
    exact ⟨_, [], Reads.str x t, (fun _ h => nomatch h), by simp only [PyData.shown]; exact .of_is (ReprIs.str x t (by simpa only [PyData.shown] using hz)) _ _ _⟩
  | .list ds, _, _, h, r, hs, hz => by
    cases h with
    | @lst a xs _ hq ha =>
      cases r
      obtain ⟨its, rv, ⟨o, n, ho, hc, _, hd⟩, _⟩ := I.list hq
      have hz' : (listText (PyData.shownAll ds)).length ≤ sizeLine := by simpa only [PyData.shown] using hz
      obtain ⟨as, bs, hr, hb, hk⟩ := Dq.reprsAll I ds _ its ha rv (by simpa [PyData.showable] using hs) (fun t ht => Nat.le_trans (listText_mem_le ht) hz')
      have rr : Reads s.heap (.ref a) (.list ds) _ := Reads.list ho hc hd hr
      have hna : a ∉ bs := not_mem_of_deeper rr (by simp only [PyData.depth]; omega) hb
      refine ⟨_, a :: bs, rr, ReadAtMost.cons rr (by simp only [PyData.depth]; omega) hb, ?_⟩
      simp only [PyData.depth, PyData.shown]
      cases its with
      | nil =>
        have h4' : ReadsAll s.heap [] ds _ := hr
        cases h4'
        simp only [PyData.shownAll, listText_nil]
        exact ReprK.listEmpty ho hc hd
      | cons x l => exact ReprK.list ho hc hd hna (by simpa using hk.length_eq) (fun i y e => hk.item i y (by simpa using e))
  | .tuple ds, _, _, h, r, hs, hz => by
    cases h with
    | @tup a xs _ hq ha =>
      cases r
      obtain ⟨its, rv, ⟨o, ho, hc, n, hd⟩, _⟩ := I.tuple hq
      have hz' : (tupleText (PyData.shownAll ds)).length ≤ sizeLine := by simpa only [PyData.shown] using hz
      obtain ⟨as, bs, hr, hb, hk⟩ := Dq.reprsAll I ds _ its ha rv (by simpa [PyData.showable] using hs) (fun t ht => Nat.le_trans (tupleText_mem_le ht) hz')
      have rr : Reads s.heap (.ref a) (.tuple ds) _ := Reads.tuple ho hc hd hr
      have hna : a ∉ bs := not_mem_of_deeper rr (by simp only [PyData.depth]; omega) hb
      refine ⟨_, a :: bs, rr, ReadAtMost.cons rr (by simp only [PyData.depth]; omega) hb, ?_⟩
      simp only [PyData.depth, PyData.shown]
      exact ReprK.tuple ho hc hd hna hk
  | .dict kvs, _, _, h, r, hs, hz => by
    cases h with
    | @dic a ea =>
      cases r
      obtain ⟨_, hsys, vs, kv, o, es, ep, h1, h2, h3⟩ := (show ObjOk X.prog X.w H s.heap a (.dK []) from I.hok a _ ea)
      cases kv
      have hes : es.toList = [] := List.eq_nil_of_length_eq_zero (by rw [PySem.Pairs.length h3.2.2.1]; rfl)
      have e1 : ReadsAll s.heap (es.toList.map (·.key)) (([] : List (PyData × PyData)).map (·.1)) [] := by rw [hes]; exact .nil
      have e2 : ReadsAll s.heap (es.toList.map (·.val)) (([] : List (PyData × PyData)).map (·.2)) [] := by rw [hes]; exact .nil
      have rr : Reads s.heap (.ref a) (.dict []) _ := Reads.dict h1 h2.1 h3.1 e1 e2
      refine ⟨_, [a], rr, ReadAtMost.cons rr (Nat.zero_le (PyData.dict []).depth) (fun _ h => nomatch h), ?_⟩
      simp only [PyData.depth, PyData.shown, PyData.shownKv]
      exact ReprK.dict h1 h2.1 h3.1 hsys (List.not_mem_nil) (by rw [hes]; exact .nil)
theorem Dq.reprsAll (I : Inv X pins σ H s) : ∀ (ds : List PyData) (vs : List V) (us : List Value), DqAll X.K H vs ds → Vals vs us → PyData.showableAll ds = true → (∀ t ∈ PyData.shownAll ds, t.length ≤ sizeLine) →
    ∃ as bs, ReadsAll s.heap us ds as ∧ ReadAtMost s.heap (PyData.depthAll ds) bs ∧ ReprAllK X.prog X.w bs s.heap (PyData.depthAll ds) us (PyData.shownAll ds)
  | [], _, _, h, r, _, _ => by
    cases h
    cases r
    exact ⟨_, [], ReadsAll.nil, (fun _ h => nomatch h), by simp only [PyData.shownAll]; exact .nil⟩
  | d :: ds, _, _, h, r, hs, hz => by
    cases h with
    | cons h1 h2 =>
      cases r with
      | cons r1 r2 =>
        have hs' : d.showable = true ∧ PyData.showableAll ds = true := by simpa [PyData.showableAll] using hs
        obtain ⟨as, b1, q1, hb1, k1⟩ := Dq.reprs I d _ _ h1 r1 hs'.1 (hz _ (by simp only [PyData.shownAll]; exact List.mem_cons_self ..))
        obtain ⟨bs, b2, q2, hb2, k2⟩ := Dq.reprsAll I ds _ _ h2 r2 hs'.2 (fun t ht => hz t (by simp only [PyData.shownAll]; exact List.mem_cons_of_mem _ ht))
        refine ⟨_, b1 ++ b2, ReadsAll.cons q1 q2, ?_, ?_⟩
        · intro b hm
          simp only [PyData.depthAll]
          rcases List.mem_append.mp hm with hm | hm
          · obtain ⟨d', as', r', hd'⟩ := hb1 b hm
            exact ⟨d', as', r', Nat.le_trans hd' (Nat.le_max_left _ _)⟩
          · obtain ⟨d', as', r', hd'⟩ := hb2 b hm
            exact ⟨d', as', r', Nat.le_trans hd' (Nat.le_max_right _ _)⟩
        · simp only [PyData.depthAll, PyData.shownAll]
          exact .cons ((k1.more fun b hb => List.mem_append_left _ hb).level_le (Nat.le_max_left _ _)) (k2.more_le (fun b hb => List.mem_append_right _ hb) (Nat.le_max_right _ _))
end
end
/-- repr of a list -/
def rRepr (K : PySem.W.Frag) : List V → Hp → VK → Prop := fun xs H Q => ∃ (a : Addr) (ds : List PyData), xs = [.ref a] ∧ Dq K H (.ref a) (.list ds) ∧ ds ≠ [] ∧ PyData.showableAll ds = true ∧ PyData.depthAll ds ≤ 40 ∧ (PyData.list ds).shown.length ≤ sizeLine ∧ Q (.str (PyData.list ds).shown) H
theorem call_reprL {X : Cx} (hg : X.A.guards = some []) (hu : X.A.units + 64 < cLine) : CallR X (.builtin "repr") (rRepr X.K) := by
  intro pins s σ H xs us Q I r h
  obtain ⟨a, ds, rfl, hd, hne, hs, hdep, hz, q⟩ := h
  obtain ⟨u, rfl, hu1⟩ := vals1 r
  cases (show u = Value.ref a from hu1)
  cases hd with
  | @lst _ xs _ hq ha =>
    obtain ⟨its, rv, ⟨o, n, ho, hc, _, hd⟩, _⟩ := I.list hq
    have hz' : (listText (PyData.shownAll ds)).length ≤ sizeLine := by simpa only [PyData.shown] using hz
    obtain ⟨as, bs, hr, hb, hk⟩ := Dq.reprsAll I ds _ its ha rv hs (fun t ht => Nat.le_trans (listText_mem_le ht) hz')
    have rr : Reads s.heap (.ref a) (.list ds) _ := Reads.list ho hc hd hr
    have hna : a ∉ bs := not_mem_of_deeper rr (by simp only [PyData.depth]; omega) hb
    cases its with
    | nil =>
      have h4' : ReadsAll s.heap [] ds _ := hr
      cases h4'
      exact absurd rfl hne
    | cons x l =>
      refine call_repr_slot (T := "list") (idr := "list.__repr__") (by omega) ⟨o, ho, hc⟩ F.slot_list_repr.toG ?_
      refine call_list_reprK ho hc hd hna (by simpa using hk.length_eq) (fun i y e => hk.item i y (by simpa using e)) (show X.A.in1.guards = some [] from hg) (fun b _ => Clear.nil b) (by show X.A.units + 1 + (PyData.depthAll ds + 1) < cLine; omega) (fun _ _ e => e) (fun h' u tk hk => ?_) hz'
      simp only [PyData.shown] at q
      exact ⟨_, _, rfl, ⟨.str (listText (PyData.shownAll ds)), H, I.kept hk, ⟨_, rfl⟩, q⟩⟩
end L2

/-! ### a def that is called where no repr is under way, and the law's own end -/
namespace L2
open PySem PySem.Spec PyProof.Rows
structure FnOkG (P : Program) (w : World) (K : PySem.W.Frag) (mg : Str → Option Value) (base : Heap) (CX : CXT) (k : Nat) (f : Addr) (fd : FuncData) (ps : List Str) (sp : Sp) : Prop where
  len : ∀ vs H Q E, sp vs H Q E → vs.length = ps.length
  run : ∀ (A : Around) (outer : List Env) (s : Shared) (H : Hp) (args : Args) (us : List Value) (vs : List V) (Q : VK) (E : XK), A.guards = some [] → Room k A → Env0 P w K mg base A outer s H → BindsTo s fd args (ps.zip us) → Vals vs us → sp vs H Q E →
    codeAny (model P w) A (.call (.ref f) args) (CR CX outer P w H s Q E) s
theorem fn_ofG {CX : CXT} {P : Program} {w : World} {K : PySem.W.Frag} {mg : Str → Option Value} {base : Heap} {k : Nat} {f : Addr} {name qual : Str} {params : Arguments} {body : List Stmt} {scope : Scope} {dV kV doc pm cdv ct oc : Value} {an od : Option Addr}
    {osl : Array (Option Value)} {N ps : List Str} {sp : Sp} (lk : K.lookup f = some ⟨oc, od, .func (PySem.W.fnOf name qual params body scope dV kV doc pm an cdv ct), osl⟩) (hcd : PySem.W.codeIn K cdv qual = true) (S : FnScope N ps scope)
    (len : ∀ vs H Q E, sp vs H Q E → vs.length = ps.length)
    (hbody : ∀ (A : Around) (outer : List Env) (s : Shared) (H : Hp) (vs : List V) (Q : VK) (E : XK), A.guards = some [] → Room k (A.deeper (envOfC qual scope s.heap.objs.size f cdv)) → sp vs H Q E →
      ∃ t, PSs (cxOf CX P w K mg base N qual scope f cdv A outer s H E) body t ∧ t { nx := fun _ H' => Q .non H', rt := Q } (start N vs) H) :
    FnOkG P w K mg base CX (k + 1) f (PySem.W.fnOf name qual params body scope dV kV doc pm an cdv ct) ps sp := by
  refine ⟨len, fun A outer s H args us vs Q E hgd hr e0 hb r hsp => ?_⟩
  have hl := len _ _ _ _ hsp
  have KX : K.In s.heap := e0.mod.kin.keeps fun b o e => (e0.bs b o e).1
  have lim : s.heap.NoLimit := e0.mod.nolimit.keeps fun b o e => (e0.bs b o e).1
  have hkind : ∀ y ∈ ps.zip us, scope.names.lookup y.1 = some .local ∨ (scope.names.lookup y.1 = some .cell ∧ ((cellsFrom (s.heap.objs.size + 1) scope.names []).lookup y.1).isSome = true) := fun ⟨n, v⟩ hy => by
    rcases S.par n (List.of_mem_zip hy).1 with q | q
    · exact .inl q
    · exact .inr ⟨q, PySem.W.cellsFrom_some _ _ _ (.inl q)⟩
  refine codeAny_call_function hr.depth (KX _ _ lk) rfl S.co S.gen rfl (PySem.W.codeRec_of KX hcd) (hb _ _ _ _ ?_)
  refine wpAny_newFunctionEnv_cells S.kind hkind fun env he s1 x => ?_
  subst he
  refine ⟨lim.keeps x.toInCall.keep, codeAny_func ?_⟩
  obtain ⟨t, ht, hq⟩ := hbody A outer s H vs Q E hgd (hr.deeper _) hsp
  have I : Inv (cxOf CX P w K mg base N qual scope f cdv A outer s H E) [] (start N vs) H s1 := inv_start S hr.hd e0 hl r x
  refine wpAny_mono (ht.run [] s1 (start N vs) H _ I hq) (fun fl s' hs => ?_) fun e s' hs => hs
  have fin : ∀ {σ' : St} {H' : Hp} {v : V} {u : Value}, Inv (cxOf CX P w K mg base N qual scope f cdv A outer s H E) [] σ' H' s' → RelV v u → Q v H' → CE outer P w H s Q u s' :=
    fun {σ' H' v u} J rv q => ⟨v, H', J.os, J.bare, J.base, J.hok, rv, q⟩
  cases fl with
  | ret u =>
    obtain ⟨v, σ', H', J, rv, q⟩ := hs
    exact fin J rv q
  | next =>
    obtain ⟨σ', H', J, q⟩ := hs
    exact fin (v := V.non) (u := Value.none) J rfl q
  | brk =>
    obtain ⟨_, _, _, q⟩ := hs
    exact False.elim q
  | cont =>
    obtain ⟨_, _, _, q⟩ := hs
    exact False.elim q
theorem Fun.okG {P : Program} {w : World} {K : PySem.W.Frag} {mg : Str → Option Value} {base : Heap} {x qual : Str} {st : Stmt} {f : Addr} {fd : FuncData} {N ps : List Str} {k : Nat} {sp : Sp} (F : Fun K x qual st f fd) (S : FnScope N ps (defScope st)) (len : ∀ vs H Q E, sp vs H Q E → vs.length = ps.length)
    (hbody : ∀ (cdv : Value) (A : Around) (outer : List Env) (s : Shared) (H : Hp) (vs : List V) (Q : VK) (E : XK), A.guards = some [] → Room k (A.deeper (envOfC qual (defScope st) s.heap.objs.size f cdv)) → sp vs H Q E →
      ∃ t, PSs (cxOf CX0 P w K mg base N qual (defScope st) f cdv A outer s H E).nox (defBody st) t ∧ t { nx := fun _ H' => Q .non H', rt := Q } (start N vs) H) : FnOkG P w K mg base CX0 (k + 1) f fd ps sp := by
  obtain ⟨oc, od, kV, doc, pm, an, cdv, ct, osl, rfl, lk, hcd⟩ := F.ex
  refine fn_ofG lk hcd S len fun A outer s H vs Q E hgd hr hsp => ?_
  obtain ⟨t, h, q⟩ := hbody cdv A outer s H vs Q E hgd hr hsp
  exact ⟨t, h.nox, q⟩
theorem law_callG {P : Program} {w : World} {K : PySem.W.Frag} {mg mb : Str → Option Value} {CX : CXT} {k : Nat} {fa a : Addr} {fd : FuncData} {x : Str} {sp : Sp} {s₁ : Shared} {vs : List Value} {ns : List Int}
    (KX : K.In s₁.heap) (hns : s₁.heap.Ns mainGlobals mg) (hb : s₁.heap.Ns builtinsNs mb) (hbb : ∀ x : Str, x ≠ "__name__" → mb x = bootBuiltins x) (hlim : s₁.heap.NoLimit) (hg : s₁.gens = #[])
    (ha : s₁.heap.get? a = some { cls := .type "list", data := .seq vs.toArray }) (hi : IntsAre vs ns) (hl : ns.length ≤ sizeLine) (hr : Room k callerA)
    (F : ∀ base : Heap, K.In base → base.Ns mainGlobals mg → FnOkG P w K mg base CX k fa fd [x] sp) (hbind : ∀ (s : Shared) (u : Value), BindsTo s fd ⟨[u], []⟩ [(x, u)])
    (hsp : ∀ H : Hp, Only H → SqL K H a (ns.map V.int) → sp [.ref a] H (fun v _ => v = .bl true) fun _ _ _ => False)
    (hCX : ∀ H e s', CX [] H s₁ (fun _ _ _ => False) e s' → False) :
    codeAny (model P w) callerA (.call (.ref fa) ⟨[.ref a], []⟩) (fun r s' => r = .ok (.ret (.bool true)) ∧ OldK s₁.heap s'.heap ∧ s'.os = s₁.os ∧ AllBare s'.gens) s₁ := by
  have rv := vals_ints hi
  have lenV := hi.length
  -- from an abstract heap in which nothing but the script may be tracked
  have core : ∀ H : Hp, Only H → SqL K H a (ns.map V.int) → HOk P w H s₁.heap → (∀ b, H b ≠ none → b = a) → (H a ≠ none → K.lookup a = none) →
      codeAny (model P w) callerA (.call (.ref fa) ⟨[.ref a], []⟩) (fun r s' => r = .ok (.ret (.bool true)) ∧ OldK s₁.heap s'.heap ∧ s'.os = s₁.os ∧ AllBare s'.gens) s₁ := by
    intro H hO hS hok hA hK
    have base_of : ∀ {b : Addr} {o : Obj}, s₁.heap.get? b = some o → H b = none → (hidT s₁.heap H).get? b = some o := fun e n => hidT_get e n
    have noA : ∀ {b : Addr} {o : Obj} {es : Array DictEntry} {ep : Nat}, s₁.heap.get? b = some o → o.data = .dict es ep → H b = none := fun {b o es ep} e d => by
      cases q : H b with
      | none => rfl
      | some u =>
        have e' : b = a := hA b (by rw [q]; simp)
        subst e'
        rw [ha] at e; cases e
        have d' : Data.seq vs.toArray _ = Data.dict es ep := d
        cases d'
    have nsK : ∀ {b : Addr} {m : Str → Option Value}, s₁.heap.Ns b m → (hidT s₁.heap H).Ns b m := fun {b m} ⟨o, es, ep, e, d, r⟩ => ⟨o, es, ep, base_of e (noA e d), d, r⟩
    have hKb : K.In (hidT s₁.heap H) := fun b o e => base_of (KX b o e) (by
      cases q : H b with
      | none => rfl
      | some u =>
        have e' : b = a := hA b (by rw [q]; simp)
        subst e'
        rw [hK (by rw [q]; simp)] at e; cases e)
    have hM : Mod K mg (hidT s₁.heap H) := ⟨hKb, nsK hns, ⟨mb, nsK hb, hbb⟩, let ⟨mc, h1, h2⟩ := hlim; ⟨mc, nsK h1, h2⟩⟩
    have e0 : Env0 P w K mg (hidT s₁.heap H) callerA [] s₁ H := ⟨rfl, hM, fun b o e => of_hidT e, Nat.le_of_eq (hidT_size _ _), trivial, fun b hb => absurd (show b ∈ ([] : List Addr) from hb) (by simp), hok, .of_eq hg⟩
    refine codeAny_mono ((F _ hKb (nsK hns)).run callerA [] s₁ H ⟨[.ref a], []⟩ [.ref a] [.ref a] _ _ rfl hr e0 (hbind s₁ (.ref a)) (.cons rfl .nil) (hsp H hO hS)) fun r s' h => ?_
    cases r with
    | error e => exact (hCX H e s' h).elim
    | ok fl =>
      cases fl with
      | next => exact False.elim h
      | brk => exact False.elim h
      | cont => exact False.elim h
      | ret u =>
        obtain ⟨v, H', os, bare, un, hok', r', q⟩ := h
        have q' : v = .bl true := q
        subst q'
        obtain rfl : u = Value.bool true := r'
        refine ⟨rfl, OldK.of_keep fun b o e => ?_, os, bare⟩
        cases q : H b with
        | none => exact un.keep b o e q (by intro z; exact absurd (show b ∈ ([] : List Addr) from z) (by simp)) (by simp)
        | some u =>
          rcases hO b with z | ⟨ob, xs, z⟩
          · rw [q] at z; cases z
          · have z2 := un.frzs b ob _ z
            obtain ⟨e1, _⟩ := hok b _ z
            obtain ⟨e2, _⟩ := hok' b _ z2
            rw [e] at e1; cases e1
            exact e2
  cases hk : K.lookup a with
  | some o =>
    -- the script is one of the module's own objects
    have e := KX a o hk
    rw [ha] at e
    cases e
    refine core (fun _ => none) (fun _ => .inl rfl) (.inr ⟨_, vs.toArray, _, hk, rfl, rfl, rfl, by rw [List.size_toArray, lenV]; exact hl, by simpa using rv⟩) (fun b u z => by have z' : (none : Option HO) = some u := z; cases z') (fun b z => absurd rfl z) fun z => absurd rfl z
  | none =>
    refine core (fun b => if b = a then some (.frz { cls := .type "list", data := .seq vs.toArray } (.lst (ns.map V.int))) else none) (fun b => ?_) (.inl (.inr ⟨{ cls := .type "list", data := .seq vs.toArray }, if_pos rfl⟩)) (fun b u z => ?_) (fun b z => ?_) fun _ => hk
    · by_cases hb : b = a
      · exact .inr ⟨_, _, if_pos hb⟩
      · exact .inl (if_neg hb)
    · by_cases hb : b = a
      · have z' := (if_pos hb).symm.trans z
        cases z'
        subst hb
        exact ⟨ha, by rw [List.length_map]; exact hl, vs, _, rv, ha⟩
      · have z' := (if_neg hb).symm.trans z
        cases z'
    · by_cases hb : b = a
      · exact hb
      · exact absurd (if_neg hb) z
theorem walk_ofG {l : PySem.W.OpenLaw} {n k : Nat} {q : Program} {loose : List Str} {XP : (Str → Option Value) → Heap → Prop} {YP : World → Heap → Prop} {d : DefRec} {K : Params → PySem.W.Frag} {CX : World → CXT} {sp : World → Sp} {x : Str}
    (hn : l.most = some n) (hn2 : n ≤ sizeLine) (hdf : d.params.defaults = []) (hr : Room k callerA)
    (hY : ∀ (w : World) (h : Heap), YP w h → (K w.params).In h)
    (F : ∀ (w : World) (mg : Str → Option Value) (fa : Addr) (h : Heap), (K w.params).In h → h.Ns mainGlobals mg → mg d.name = some (.ref fa) →
      ∃ fd : FuncData, (∀ (s : Shared) (u : Value), BindsTo s fd ⟨[u], []⟩ [(x, u)]) ∧
        ∀ base : Heap, (K w.params).In base → base.Ns mainGlobals mg → FnOkG l.prog w (K w.params) mg base (CX w) k fa fd [x] (sp w))
    (hsp : ∀ (w : World) (H : Hp) (a : Addr) (ns : List Int), ns.length ≤ n → Only H → SqL (K w.params) H a (ns.map V.int) → sp w [.ref a] H (fun v _ => v = .bl true) fun _ _ _ => False)
    (hCX : ∀ (w : World) (H : Hp) (s : Shared) (e : Value) (s' : Shared), CX w [] H s (fun _ _ _ => False) e s' → False) :
    PySem.W.WalkO q loose XP YP l.row.toRowW d [] (fun f vs => PySem.call f vs) := by
  refine Att.attach_call hn hdf fun w s₀ s₁ mg mb fa o pm cd doc a vs ns G Y ho hd hcd hmg hobj hints hlen hg => ?_
  have KX := hY w _ Y
  obtain ⟨fd, hb, hF⟩ := F w mg fa _ KX G.T.g hmg
  exact law_callG KX G.T.g G.T.b G.T.builtins G.T.nolimit hg hobj hints (Nat.le_trans hlen hn2) hr hF hb (fun H hO hS => hsp w H a ns hlen hO hS) fun H e s' => hCX w H s₁ e s'
end L2
/-! K1 -/
namespace Lw
open PySem PySem.Spec PyProof.Rows L2
def top (i : Nat) : Stmt := PySem.Challenge.pw_takendown_k01_error_classes.main.body.getD i (.Pass ⟨0, 0, 0, 0⟩)
/-- an error of the class at C lies at a, its fields are fs -/
def IsE (H : Hp) (C a : Addr) (fs : List (Str × V)) : Prop := ∃ d, H a = some (exo a C (some d)) ∧ H d = some (exd d fs)
theorem IsE.same {H H' : Hp} {C a : Addr} {fs : List (Str × V)} (h : IsE H C a fs) (s : Same H H') : IsE H' C a fs := by
  obtain ⟨d, e1, e2⟩ := h
  exact ⟨d, s _ _ e1, s _ _ e2⟩
def SameBut (a : Addr) (H H' : Hp) : Prop := ∀ b o, b ≠ a → H b = some o → H' b = some o
theorem same_but {H H' : Hp} {a : Addr} {o : HO} (n : H a = none) (b : SameBut a (upd H a o) H') : Same H H' := fun c x e => by
  have hc : c ≠ a := ne_of_none e n
  exact b c x hc (by rw [upd_ne hc]; exact e)
def spI1 (K : PySem.W.Frag) (n : Str) : Sp := fun vs H Q _ => ∃ (a C fI : Addr) (v : V), vs = [.ref a, v] ∧ OexG K C fI ∧ PySem.W.findIn K (.ref C) n = some none ∧ H a = some (exo a C none) ∧
  ∀ H', SameBut a H H' → IsE H' C a [(n, v)] → Q .non H'
def spI2 (K : PySem.W.Frag) (n m : Str) : Sp := fun vs H Q _ => ∃ (a C fI : Addr) (v u : V), vs = [.ref a, v, u] ∧ OexG K C fI ∧ PySem.W.findIn K (.ref C) n = some none ∧ PySem.W.findIn K (.ref C) m = some none ∧ H a = some (exo a C none) ∧
  ∀ H', SameBut a H H' → IsE H' C a [(m, u), (n, v)] → Q .non H'
theorem first_end {H : Hp} {a C dx : Addr} {f : Str} {y : V} (nd : H dx = none) (ne : dx ≠ a) : SameBut a H (upd (upd H dx (exd dx [(f, y)])) a (exo a C (some dx))) ∧ IsE (upd (upd H dx (exd dx [(f, y)])) a (exo a C (some dx))) C a [(f, y)] :=
  ⟨fun b o hb e => by rw [upd_ne hb, upd_ne (ne_of_none e nd)]; exact e, dx, upd_same, by rw [upd_ne ne, upd_same]⟩
theorem second_end {H H1 : Hp} {a C dx : Addr} {f g : Str} {y z : V} (nd : H dx = none) (ne : dx ≠ a) (eH : H1 = upd (upd H dx (exd dx [(f, y)])) a (exo a C (some dx))) :
    SameBut a H (upd H1 dx (exd dx [(g, z), (f, y)])) ∧ IsE (upd H1 dx (exd dx [(g, z), (f, y)])) C a [(g, z), (f, y)] := by
  subst eH
  exact ⟨fun b o hb e => by rw [upd_ne (ne_of_none e nd), upd_ne hb, upd_ne (ne_of_none e nd)]; exact e, dx, by rw [upd_ne (Ne.symm ne), upd_same], upd_same⟩
theorem Fun.kbn {K : PySem.W.Frag} {x qual : Str} {st : Stmt} {f : Addr} {fd : FuncData} {ps ks : List Str} {gA : List Value → List Value → List Value} {gV : List V → List V → List V} (F : Fun K x qual st f fd) (hrel : ∀ {vs : List V} {us : List Value} {zs : List V} {ws : List Value}, Vals vs us → Vals zs ws → Vals (gV vs zs) (gA us ws))
    (h : ∀ (kV doc pm : Value) (an : Option Addr) (cdv ct : Value) (us ws : List Value), us.length = 1 → ws.length = ks.length → bindArgs (PySem.W.fnOf x qual (defArgs st) (defBody st) (defScope st) .none kV doc pm an cdv ct) ⟨us, ks.zip ws⟩ = pure (ps.zip (gA us ws))) : KBn K fd ps 1 ks gA gV := by
  obtain ⟨oc, od, kV, doc, pm, an, cdv, ct, osl, rfl, lk, hcd⟩ := F.ex
  exact ⟨fun s us ws _ l1 l2 => .of_eq (h kV doc pm an cdv ct us ws l1 l2), hrel⟩
theorem vals_rev {zs : List V} {ws : List Value} (h : Vals zs ws) : Vals zs.reverse ws.reverse := by
  induction h with
  | nil => exact .nil
  | cons r t ih =>
    rw [List.reverse_cons, List.reverse_cons]
    exact ih.append (.cons r .nil)
abbrev gA1 : List Value → List Value → List Value := fun us ws => us ++ ws.reverse
abbrev gV1 : List V → List V → List V := fun vs zs => vs ++ zs.reverse
theorem rel1 {vs : List V} {us : List Value} {zs : List V} {ws : List Value} (a : Vals vs us) (b : Vals zs ws) : Vals (gV1 vs zs) (gA1 us ws) := a.append (vals_rev b)
/-- an error class of one field (of two) as the top leaves it -/
structure Er1 (P : Program) (w : World) (K : PySem.W.Frag) (mg : Str → Option Value) (base : Heap) (x n : Str) (C fI : Addr) : Prop where
  g : mg x = some (.ref C)
  o : OexG K C fI
  no : PySem.W.findIn K (.ref C) n = some none
  fn : ∃ fd, FnOk P w K mg base CX0 1 fI fd ["self", n] (spI1 K n) ∧ Binds K fd ["self", n] [] ∧ KBn K fd ["self", n] 1 [n] gA1 gV1
structure Er2 (P : Program) (w : World) (K : PySem.W.Frag) (mg : Str → Option Value) (base : Heap) (x n m : Str) (C fI : Addr) : Prop where
  g : mg x = some (.ref C)
  o : OexG K C fI
  no : PySem.W.findIn K (.ref C) n = some none
  no2 : PySem.W.findIn K (.ref C) m = some none
  fn : ∃ fd, FnOk P w K mg base CX0 1 fI fd ["self", n, m] (spI2 K n m) ∧ Binds K fd ["self", n, m] [] ∧ KBn K fd ["self", n, m] 1 [m, n] gA1 gV1
section
variable {P : Program} {w : World} {K : PySem.W.Frag} {mg : Str → Option Value} {base : Heap}
abbrev sI0 : Stmt := inClass (top 2) 0
theorem sc_I0 : FnScope ["self", "place"] ["self", "place"] (defScope sI0) := ⟨rfl, rfl, rfl, by decide +kernel, rfl, by decide +kernel, by decide +kernel⟩
theorem ok_I0 {f : Addr} {fd : FuncData} (F : Fun K "__init__" "InvalidItem.__init__" sI0 f fd) : FnOk P w K mg base CX0 1 f fd ["self", "place"] (spI1 K "place") := by
  refine F.ok sc_I0 (fun vs H Q E h => ?_) (fun cdv A outer s H vs Q E hr h => ?_)
  · obtain ⟨a, C, fI, v, rfl, _⟩ := h
    rfl
  · obtain ⟨a, C, fI, v, rfl, T, hn, ea, q⟩ := h
    refine ⟨_, pss_one (ps_ostG (pv 0) (pv 1)), ?_⟩
    refine ⟨_, rfl, _, rfl, a, C, fI, rfl, T, hn, .inl ⟨ea, fun dx n ne => ?_⟩⟩
    obtain ⟨s1, e1⟩ := first_end (H := H) (C := C) (f := "place") (y := v) n ne
    exact q _ s1 e1
theorem er0 {x : Str} {C f : Addr} {fd : FuncData} (F : Fun K "__init__" "InvalidItem.__init__" sI0 f fd) (g : mg x = some (.ref C)) (o : OexG K C f) (no : PySem.W.findIn K (.ref C) "place" = some none) : Er1 P w K mg base x "place" C f :=
  ⟨g, o, no, fd, ok_I0 F, F.binds (ps := ["self", "place"]) fun _ _ _ _ _ _ us hl => match us, hl with | [_, _], _ => rfl, Fun.kbn F rel1 fun _ _ _ _ _ _ us ws h1 h2 => match us, ws, h1, h2 with | [_], [_], _, _ => rfl⟩
abbrev sI1 : Stmt := inClass (top 3) 0
theorem sc_I1 : FnScope ["self", "name", "place"] ["self", "name", "place"] (defScope sI1) := ⟨rfl, rfl, rfl, by decide +kernel, rfl, by decide +kernel, by decide +kernel⟩
theorem ok_I1 {f : Addr} {fd : FuncData} (F : Fun K "__init__" "NotACrowd.__init__" sI1 f fd) : FnOk P w K mg base CX0 1 f fd ["self", "name", "place"] (spI2 K "name" "place") := by
  refine F.ok sc_I1 (fun vs H Q E h => ?_) (fun cdv A outer s H vs Q E hr h => ?_)
  · obtain ⟨a, C, fI, v, u, rfl, _⟩ := h
    rfl
  · obtain ⟨a, C, fI, v, u, rfl, T, hn, hn2, ea, q⟩ := h
    refine ⟨_, pss_cons (ps_ostG (pv 0) (pv 1)) (pss_one (ps_ostG (pv 0) (pv 2))), ?_⟩
    refine ⟨_, rfl, _, rfl, a, C, fI, rfl, T, hn, .inl ⟨ea, fun dx n ne => ?_⟩⟩
    refine ⟨_, rfl, _, rfl, a, C, fI, rfl, T, hn2, .inr ⟨dx, _, upd_same, by rw [upd_ne ne, upd_same], Nat.le_of_ble_eq_true rfl, ?_⟩⟩
    obtain ⟨s1, e1⟩ := second_end (H := H) (C := C) (f := "name") (g := "place") (y := v) (z := u) n ne rfl
    exact q _ s1 e1
theorem er1 {x : Str} {C f : Addr} {fd : FuncData} (F : Fun K "__init__" "NotACrowd.__init__" sI1 f fd) (g : mg x = some (.ref C)) (o : OexG K C f) (no : PySem.W.findIn K (.ref C) "name" = some none) (no2 : PySem.W.findIn K (.ref C) "place" = some none) : Er2 P w K mg base x "name" "place" C f :=
  ⟨g, o, no, no2, fd, ok_I1 F, F.binds (ps := ["self", "name", "place"]) fun _ _ _ _ _ _ us hl => match us, hl with | [_, _, _], _ => rfl, Fun.kbn F rel1 fun _ _ _ _ _ _ us ws h1 h2 => match us, ws, h1, h2 with | [_], [_, _], _, _ => rfl⟩
abbrev sI2 : Stmt := inClass (top 4) 0
theorem sc_I2 : FnScope ["self", "part", "name"] ["self", "part", "name"] (defScope sI2) := ⟨rfl, rfl, rfl, by decide +kernel, rfl, by decide +kernel, by decide +kernel⟩
theorem ok_I2 {f : Addr} {fd : FuncData} (F : Fun K "__init__" "InvalidDevice.__init__" sI2 f fd) : FnOk P w K mg base CX0 1 f fd ["self", "part", "name"] (spI2 K "part" "name") := by
  refine F.ok sc_I2 (fun vs H Q E h => ?_) (fun cdv A outer s H vs Q E hr h => ?_)
  · obtain ⟨a, C, fI, v, u, rfl, _⟩ := h
    rfl
  · obtain ⟨a, C, fI, v, u, rfl, T, hn, hn2, ea, q⟩ := h
    refine ⟨_, pss_cons (ps_ostG (pv 0) (pv 1)) (pss_one (ps_ostG (pv 0) (pv 2))), ?_⟩
    refine ⟨_, rfl, _, rfl, a, C, fI, rfl, T, hn, .inl ⟨ea, fun dx n ne => ?_⟩⟩
    refine ⟨_, rfl, _, rfl, a, C, fI, rfl, T, hn2, .inr ⟨dx, _, upd_same, by rw [upd_ne ne, upd_same], Nat.le_of_ble_eq_true rfl, ?_⟩⟩
    obtain ⟨s1, e1⟩ := second_end (H := H) (C := C) (f := "part") (g := "name") (y := v) (z := u) n ne rfl
    exact q _ s1 e1
theorem er2 {x : Str} {C f : Addr} {fd : FuncData} (F : Fun K "__init__" "InvalidDevice.__init__" sI2 f fd) (g : mg x = some (.ref C)) (o : OexG K C f) (no : PySem.W.findIn K (.ref C) "part" = some none) (no2 : PySem.W.findIn K (.ref C) "name" = some none) : Er2 P w K mg base x "part" "name" C f :=
  ⟨g, o, no, no2, fd, ok_I2 F, F.binds (ps := ["self", "part", "name"]) fun _ _ _ _ _ _ us hl => match us, hl with | [_, _, _], _ => rfl, Fun.kbn F rel1 fun _ _ _ _ _ _ us ws h1 h2 => match us, ws, h1, h2 with | [_], [_, _], _, _ => rfl⟩
abbrev sI3 : Stmt := inClass (top 5) 0
theorem sc_I3 : FnScope ["self", "index"] ["self", "index"] (defScope sI3) := ⟨rfl, rfl, rfl, by decide +kernel, rfl, by decide +kernel, by decide +kernel⟩
theorem ok_I3 {f : Addr} {fd : FuncData} (F : Fun K "__init__" "InvalidStep.__init__" sI3 f fd) : FnOk P w K mg base CX0 1 f fd ["self", "index"] (spI1 K "index") := by
  refine F.ok sc_I3 (fun vs H Q E h => ?_) (fun cdv A outer s H vs Q E hr h => ?_)
  · obtain ⟨a, C, fI, v, rfl, _⟩ := h
    rfl
  · obtain ⟨a, C, fI, v, rfl, T, hn, ea, q⟩ := h
    refine ⟨_, pss_one (ps_ostG (pv 0) (pv 1)), ?_⟩
    refine ⟨_, rfl, _, rfl, a, C, fI, rfl, T, hn, .inl ⟨ea, fun dx n ne => ?_⟩⟩
    obtain ⟨s1, e1⟩ := first_end (H := H) (C := C) (f := "index") (y := v) n ne
    exact q _ s1 e1
theorem er3 {x : Str} {C f : Addr} {fd : FuncData} (F : Fun K "__init__" "InvalidStep.__init__" sI3 f fd) (g : mg x = some (.ref C)) (o : OexG K C f) (no : PySem.W.findIn K (.ref C) "index" = some none) : Er1 P w K mg base x "index" C f :=
  ⟨g, o, no, fd, ok_I3 F, F.binds (ps := ["self", "index"]) fun _ _ _ _ _ _ us hl => match us, hl with | [_, _], _ => rfl, Fun.kbn F rel1 fun _ _ _ _ _ _ us ws h1 h2 => match us, ws, h1, h2 with | [_], [_], _, _ => rfl⟩
abbrev sI4 : Stmt := inClass (top 6) 0
theorem sc_I4 : FnScope ["self", "value"] ["self", "value"] (defScope sI4) := ⟨rfl, rfl, rfl, by decide +kernel, rfl, by decide +kernel, by decide +kernel⟩
theorem ok_I4 {f : Addr} {fd : FuncData} (F : Fun K "__init__" "InvalidState.__init__" sI4 f fd) : FnOk P w K mg base CX0 1 f fd ["self", "value"] (spI1 K "value") := by
  refine F.ok sc_I4 (fun vs H Q E h => ?_) (fun cdv A outer s H vs Q E hr h => ?_)
  · obtain ⟨a, C, fI, v, rfl, _⟩ := h
    rfl
  · obtain ⟨a, C, fI, v, rfl, T, hn, ea, q⟩ := h
    refine ⟨_, pss_one (ps_ostG (pv 0) (pv 1)), ?_⟩
    refine ⟨_, rfl, _, rfl, a, C, fI, rfl, T, hn, .inl ⟨ea, fun dx n ne => ?_⟩⟩
    obtain ⟨s1, e1⟩ := first_end (H := H) (C := C) (f := "value") (y := v) n ne
    exact q _ s1 e1
theorem er4 {x : Str} {C f : Addr} {fd : FuncData} (F : Fun K "__init__" "InvalidState.__init__" sI4 f fd) (g : mg x = some (.ref C)) (o : OexG K C f) (no : PySem.W.findIn K (.ref C) "value" = some none) : Er1 P w K mg base x "value" C f :=
  ⟨g, o, no, fd, ok_I4 F, F.binds (ps := ["self", "value"]) fun _ _ _ _ _ _ us hl => match us, hl with | [_, _], _ => rfl, Fun.kbn F rel1 fun _ _ _ _ _ _ us ws h1 h2 => match us, ws, h1, h2 with | [_], [_], _, _ => rfl⟩
abbrev sI5 : Stmt := inClass (top 7) 0
theorem sc_I5 : FnScope ["self", "move"] ["self", "move"] (defScope sI5) := ⟨rfl, rfl, rfl, by decide +kernel, rfl, by decide +kernel, by decide +kernel⟩
theorem ok_I5 {f : Addr} {fd : FuncData} (F : Fun K "__init__" "InvalidMove.__init__" sI5 f fd) : FnOk P w K mg base CX0 1 f fd ["self", "move"] (spI1 K "move") := by
  refine F.ok sc_I5 (fun vs H Q E h => ?_) (fun cdv A outer s H vs Q E hr h => ?_)
  · obtain ⟨a, C, fI, v, rfl, _⟩ := h
    rfl
  · obtain ⟨a, C, fI, v, rfl, T, hn, ea, q⟩ := h
    refine ⟨_, pss_one (ps_ostG (pv 0) (pv 1)), ?_⟩
    refine ⟨_, rfl, _, rfl, a, C, fI, rfl, T, hn, .inl ⟨ea, fun dx n ne => ?_⟩⟩
    obtain ⟨s1, e1⟩ := first_end (H := H) (C := C) (f := "move") (y := v) n ne
    exact q _ s1 e1
theorem er5 {x : Str} {C f : Addr} {fd : FuncData} (F : Fun K "__init__" "InvalidMove.__init__" sI5 f fd) (g : mg x = some (.ref C)) (o : OexG K C f) (no : PySem.W.findIn K (.ref C) "move" = some none) : Er1 P w K mg base x "move" C f :=
  ⟨g, o, no, fd, ok_I5 F, F.binds (ps := ["self", "move"]) fun _ _ _ _ _ _ us hl => match us, hl with | [_, _], _ => rfl, Fun.kbn F rel1 fun _ _ _ _ _ _ us ws h1 h2 => match us, ws, h1, h2 with | [_], [_], _, _ => rfl⟩
abbrev sI6 : Stmt := inClass (top 8) 0
theorem sc_I6 : FnScope ["self", "value"] ["self", "value"] (defScope sI6) := ⟨rfl, rfl, rfl, by decide +kernel, rfl, by decide +kernel, by decide +kernel⟩
theorem ok_I6 {f : Addr} {fd : FuncData} (F : Fun K "__init__" "InvalidStock.__init__" sI6 f fd) : FnOk P w K mg base CX0 1 f fd ["self", "value"] (spI1 K "value") := by
  refine F.ok sc_I6 (fun vs H Q E h => ?_) (fun cdv A outer s H vs Q E hr h => ?_)
  · obtain ⟨a, C, fI, v, rfl, _⟩ := h
    rfl
  · obtain ⟨a, C, fI, v, rfl, T, hn, ea, q⟩ := h
    refine ⟨_, pss_one (ps_ostG (pv 0) (pv 1)), ?_⟩
    refine ⟨_, rfl, _, rfl, a, C, fI, rfl, T, hn, .inl ⟨ea, fun dx n ne => ?_⟩⟩
    obtain ⟨s1, e1⟩ := first_end (H := H) (C := C) (f := "value") (y := v) n ne
    exact q _ s1 e1
theorem er6 {x : Str} {C f : Addr} {fd : FuncData} (F : Fun K "__init__" "InvalidStock.__init__" sI6 f fd) (g : mg x = some (.ref C)) (o : OexG K C f) (no : PySem.W.findIn K (.ref C) "value" = some none) : Er1 P w K mg base x "value" C f :=
  ⟨g, o, no, fd, ok_I6 F, F.binds (ps := ["self", "value"]) fun _ _ _ _ _ _ us hl => match us, hl with | [_, _], _ => rfl, Fun.kbn F rel1 fun _ _ _ _ _ _ us ws h1 h2 => match us, ws, h1, h2 with | [_], [_], _, _ => rfl⟩
abbrev sI7 : Stmt := inClass (top 9) 0
theorem sc_I7 : FnScope ["self", "edit"] ["self", "edit"] (defScope sI7) := ⟨rfl, rfl, rfl, by decide +kernel, rfl, by decide +kernel, by decide +kernel⟩
theorem ok_I7 {f : Addr} {fd : FuncData} (F : Fun K "__init__" "InvalidEdit.__init__" sI7 f fd) : FnOk P w K mg base CX0 1 f fd ["self", "edit"] (spI1 K "edit") := by
  refine F.ok sc_I7 (fun vs H Q E h => ?_) (fun cdv A outer s H vs Q E hr h => ?_)
  · obtain ⟨a, C, fI, v, rfl, _⟩ := h
    rfl
  · obtain ⟨a, C, fI, v, rfl, T, hn, ea, q⟩ := h
    refine ⟨_, pss_one (ps_ostG (pv 0) (pv 1)), ?_⟩
    refine ⟨_, rfl, _, rfl, a, C, fI, rfl, T, hn, .inl ⟨ea, fun dx n ne => ?_⟩⟩
    obtain ⟨s1, e1⟩ := first_end (H := H) (C := C) (f := "edit") (y := v) n ne
    exact q _ s1 e1
theorem er7 {x : Str} {C f : Addr} {fd : FuncData} (F : Fun K "__init__" "InvalidEdit.__init__" sI7 f fd) (g : mg x = some (.ref C)) (o : OexG K C f) (no : PySem.W.findIn K (.ref C) "edit" = some none) : Er1 P w K mg base x "edit" C f :=
  ⟨g, o, no, fd, ok_I7 F, F.binds (ps := ["self", "edit"]) fun _ _ _ _ _ _ us hl => match us, hl with | [_, _], _ => rfl, Fun.kbn F rel1 fun _ _ _ _ _ _ us ws h1 h2 => match us, ws, h1, h2 with | [_], [_], _, _ => rfl⟩
abbrev sI8 : Stmt := inClass (top 10) 0
theorem sc_I8 : FnScope ["self", "line"] ["self", "line"] (defScope sI8) := ⟨rfl, rfl, rfl, by decide +kernel, rfl, by decide +kernel, by decide +kernel⟩
theorem ok_I8 {f : Addr} {fd : FuncData} (F : Fun K "__init__" "InvalidText.__init__" sI8 f fd) : FnOk P w K mg base CX0 1 f fd ["self", "line"] (spI1 K "line") := by
  refine F.ok sc_I8 (fun vs H Q E h => ?_) (fun cdv A outer s H vs Q E hr h => ?_)
  · obtain ⟨a, C, fI, v, rfl, _⟩ := h
    rfl
  · obtain ⟨a, C, fI, v, rfl, T, hn, ea, q⟩ := h
    refine ⟨_, pss_one (ps_ostG (pv 0) (pv 1)), ?_⟩
    refine ⟨_, rfl, _, rfl, a, C, fI, rfl, T, hn, .inl ⟨ea, fun dx n ne => ?_⟩⟩
    obtain ⟨s1, e1⟩ := first_end (H := H) (C := C) (f := "line") (y := v) n ne
    exact q _ s1 e1
theorem er8 {x : Str} {C f : Addr} {fd : FuncData} (F : Fun K "__init__" "InvalidText.__init__" sI8 f fd) (g : mg x = some (.ref C)) (o : OexG K C f) (no : PySem.W.findIn K (.ref C) "line" = some none) : Er1 P w K mg base x "line" C f :=
  ⟨g, o, no, fd, ok_I8 F, F.binds (ps := ["self", "line"]) fun _ _ _ _ _ _ us hl => match us, hl with | [_, _], _ => rfl, Fun.kbn F rel1 fun _ _ _ _ _ _ us ws h1 h2 => match us, ws, h1, h2 with | [_], [_], _, _ => rfl⟩
abbrev sI9 : Stmt := inClass (top 11) 0
theorem sc_I9 : FnScope ["self", "word"] ["self", "word"] (defScope sI9) := ⟨rfl, rfl, rfl, by decide +kernel, rfl, by decide +kernel, by decide +kernel⟩
theorem ok_I9 {f : Addr} {fd : FuncData} (F : Fun K "__init__" "InvalidCommand.__init__" sI9 f fd) : FnOk P w K mg base CX0 1 f fd ["self", "word"] (spI1 K "word") := by
  refine F.ok sc_I9 (fun vs H Q E h => ?_) (fun cdv A outer s H vs Q E hr h => ?_)
  · obtain ⟨a, C, fI, v, rfl, _⟩ := h
    rfl
  · obtain ⟨a, C, fI, v, rfl, T, hn, ea, q⟩ := h
    refine ⟨_, pss_one (ps_ostG (pv 0) (pv 1)), ?_⟩
    refine ⟨_, rfl, _, rfl, a, C, fI, rfl, T, hn, .inl ⟨ea, fun dx n ne => ?_⟩⟩
    obtain ⟨s1, e1⟩ := first_end (H := H) (C := C) (f := "word") (y := v) n ne
    exact q _ s1 e1
theorem er9 {x : Str} {C f : Addr} {fd : FuncData} (F : Fun K "__init__" "InvalidCommand.__init__" sI9 f fd) (g : mg x = some (.ref C)) (o : OexG K C f) (no : PySem.W.findIn K (.ref C) "word" = some none) : Er1 P w K mg base x "word" C f :=
  ⟨g, o, no, fd, ok_I9 F, F.binds (ps := ["self", "word"]) fun _ _ _ _ _ _ us hl => match us, hl with | [_, _], _ => rfl, Fun.kbn F rel1 fun _ _ _ _ _ _ us ws h1 h2 => match us, ws, h1, h2 with | [_], [_], _, _ => rfl⟩
abbrev sI10 : Stmt := inClass (top 12) 0
theorem sc_I10 : FnScope ["self", "value"] ["self", "value"] (defScope sI10) := ⟨rfl, rfl, rfl, by decide +kernel, rfl, by decide +kernel, by decide +kernel⟩
theorem ok_I10 {f : Addr} {fd : FuncData} (F : Fun K "__init__" "InvalidNumber.__init__" sI10 f fd) : FnOk P w K mg base CX0 1 f fd ["self", "value"] (spI1 K "value") := by
  refine F.ok sc_I10 (fun vs H Q E h => ?_) (fun cdv A outer s H vs Q E hr h => ?_)
  · obtain ⟨a, C, fI, v, rfl, _⟩ := h
    rfl
  · obtain ⟨a, C, fI, v, rfl, T, hn, ea, q⟩ := h
    refine ⟨_, pss_one (ps_ostG (pv 0) (pv 1)), ?_⟩
    refine ⟨_, rfl, _, rfl, a, C, fI, rfl, T, hn, .inl ⟨ea, fun dx n ne => ?_⟩⟩
    obtain ⟨s1, e1⟩ := first_end (H := H) (C := C) (f := "value") (y := v) n ne
    exact q _ s1 e1
theorem er10 {x : Str} {C f : Addr} {fd : FuncData} (F : Fun K "__init__" "InvalidNumber.__init__" sI10 f fd) (g : mg x = some (.ref C)) (o : OexG K C f) (no : PySem.W.findIn K (.ref C) "value" = some none) : Er1 P w K mg base x "value" C f :=
  ⟨g, o, no, fd, ok_I10 F, F.binds (ps := ["self", "value"]) fun _ _ _ _ _ _ us hl => match us, hl with | [_, _], _ => rfl, Fun.kbn F rel1 fun _ _ _ _ _ _ us ws h1 h2 => match us, ws, h1, h2 with | [_], [_], _, _ => rfl⟩
abbrev sI11 : Stmt := inClass (top 13) 0
theorem sc_I11 : FnScope ["self", "limit"] ["self", "limit"] (defScope sI11) := ⟨rfl, rfl, rfl, by decide +kernel, rfl, by decide +kernel, by decide +kernel⟩
theorem ok_I11 {f : Addr} {fd : FuncData} (F : Fun K "__init__" "LimitExceeded.__init__" sI11 f fd) : FnOk P w K mg base CX0 1 f fd ["self", "limit"] (spI1 K "limit") := by
  refine F.ok sc_I11 (fun vs H Q E h => ?_) (fun cdv A outer s H vs Q E hr h => ?_)
  · obtain ⟨a, C, fI, v, rfl, _⟩ := h
    rfl
  · obtain ⟨a, C, fI, v, rfl, T, hn, ea, q⟩ := h
    refine ⟨_, pss_one (ps_ostG (pv 0) (pv 1)), ?_⟩
    refine ⟨_, rfl, _, rfl, a, C, fI, rfl, T, hn, .inl ⟨ea, fun dx n ne => ?_⟩⟩
    obtain ⟨s1, e1⟩ := first_end (H := H) (C := C) (f := "limit") (y := v) n ne
    exact q _ s1 e1
theorem er11 {x : Str} {C f : Addr} {fd : FuncData} (F : Fun K "__init__" "LimitExceeded.__init__" sI11 f fd) (g : mg x = some (.ref C)) (o : OexG K C f) (no : PySem.W.findIn K (.ref C) "limit" = some none) : Er1 P w K mg base x "limit" C f :=
  ⟨g, o, no, fd, ok_I11 F, F.binds (ps := ["self", "limit"]) fun _ _ _ _ _ _ us hl => match us, hl with | [_, _], _ => rfl, Fun.kbn F rel1 fun _ _ _ _ _ _ us ws h1 h2 => match us, ws, h1, h2 with | [_], [_], _, _ => rfl⟩
abbrev sI12 : Stmt := inClass (top 14) 0
theorem sc_I12 : FnScope ["self", "name"] ["self", "name"] (defScope sI12) := ⟨rfl, rfl, rfl, by decide +kernel, rfl, by decide +kernel, by decide +kernel⟩
theorem ok_I12 {f : Addr} {fd : FuncData} (F : Fun K "__init__" "UnknownName.__init__" sI12 f fd) : FnOk P w K mg base CX0 1 f fd ["self", "name"] (spI1 K "name") := by
  refine F.ok sc_I12 (fun vs H Q E h => ?_) (fun cdv A outer s H vs Q E hr h => ?_)
  · obtain ⟨a, C, fI, v, rfl, _⟩ := h
    rfl
  · obtain ⟨a, C, fI, v, rfl, T, hn, ea, q⟩ := h
    refine ⟨_, pss_one (ps_ostG (pv 0) (pv 1)), ?_⟩
    refine ⟨_, rfl, _, rfl, a, C, fI, rfl, T, hn, .inl ⟨ea, fun dx n ne => ?_⟩⟩
    obtain ⟨s1, e1⟩ := first_end (H := H) (C := C) (f := "name") (y := v) n ne
    exact q _ s1 e1
theorem er12 {x : Str} {C f : Addr} {fd : FuncData} (F : Fun K "__init__" "UnknownName.__init__" sI12 f fd) (g : mg x = some (.ref C)) (o : OexG K C f) (no : PySem.W.findIn K (.ref C) "name" = some none) : Er1 P w K mg base x "name" C f :=
  ⟨g, o, no, fd, ok_I12 F, F.binds (ps := ["self", "name"]) fun _ _ _ _ _ _ us hl => match us, hl with | [_, _], _ => rfl, Fun.kbn F rel1 fun _ _ _ _ _ _ us ws h1 h2 => match us, ws, h1, h2 with | [_], [_], _, _ => rfl⟩
abbrev sI13 : Stmt := inClass (top 15) 0
theorem sc_I13 : FnScope ["self", "word", "paper"] ["self", "word", "paper"] (defScope sI13) := ⟨rfl, rfl, rfl, by decide +kernel, rfl, by decide +kernel, by decide +kernel⟩
theorem ok_I13 {f : Addr} {fd : FuncData} (F : Fun K "__init__" "NotRight.__init__" sI13 f fd) : FnOk P w K mg base CX0 1 f fd ["self", "word", "paper"] (spI2 K "word" "paper") := by
  refine F.ok sc_I13 (fun vs H Q E h => ?_) (fun cdv A outer s H vs Q E hr h => ?_)
  · obtain ⟨a, C, fI, v, u, rfl, _⟩ := h
    rfl
  · obtain ⟨a, C, fI, v, u, rfl, T, hn, hn2, ea, q⟩ := h
    refine ⟨_, pss_cons (ps_ostG (pv 0) (pv 1)) (pss_one (ps_ostG (pv 0) (pv 2))), ?_⟩
    refine ⟨_, rfl, _, rfl, a, C, fI, rfl, T, hn, .inl ⟨ea, fun dx n ne => ?_⟩⟩
    refine ⟨_, rfl, _, rfl, a, C, fI, rfl, T, hn2, .inr ⟨dx, _, upd_same, by rw [upd_ne ne, upd_same], Nat.le_of_ble_eq_true rfl, ?_⟩⟩
    obtain ⟨s1, e1⟩ := second_end (H := H) (C := C) (f := "word") (g := "paper") (y := v) (z := u) n ne rfl
    exact q _ s1 e1
theorem er13 {x : Str} {C f : Addr} {fd : FuncData} (F : Fun K "__init__" "NotRight.__init__" sI13 f fd) (g : mg x = some (.ref C)) (o : OexG K C f) (no : PySem.W.findIn K (.ref C) "word" = some none) (no2 : PySem.W.findIn K (.ref C) "paper" = some none) : Er2 P w K mg base x "word" "paper" C f :=
  ⟨g, o, no, no2, fd, ok_I13 F, F.binds (ps := ["self", "word", "paper"]) fun _ _ _ _ _ _ us hl => match us, hl with | [_, _, _], _ => rfl, Fun.kbn F rel1 fun _ _ _ _ _ _ us ws h1 h2 => match us, ws, h1, h2 with | [_], [_, _], _, _ => rfl⟩
abbrev sI14 : Stmt := inClass (top 16) 0
theorem sc_I14 : FnScope ["self", "name"] ["self", "name"] (defScope sI14) := ⟨rfl, rfl, rfl, by decide +kernel, rfl, by decide +kernel, by decide +kernel⟩
theorem ok_I14 {f : Addr} {fd : FuncData} (F : Fun K "__init__" "NothingToUndo.__init__" sI14 f fd) : FnOk P w K mg base CX0 1 f fd ["self", "name"] (spI1 K "name") := by
  refine F.ok sc_I14 (fun vs H Q E h => ?_) (fun cdv A outer s H vs Q E hr h => ?_)
  · obtain ⟨a, C, fI, v, rfl, _⟩ := h
    rfl
  · obtain ⟨a, C, fI, v, rfl, T, hn, ea, q⟩ := h
    refine ⟨_, pss_one (ps_ostG (pv 0) (pv 1)), ?_⟩
    refine ⟨_, rfl, _, rfl, a, C, fI, rfl, T, hn, .inl ⟨ea, fun dx n ne => ?_⟩⟩
    obtain ⟨s1, e1⟩ := first_end (H := H) (C := C) (f := "name") (y := v) n ne
    exact q _ s1 e1
theorem er14 {x : Str} {C f : Addr} {fd : FuncData} (F : Fun K "__init__" "NothingToUndo.__init__" sI14 f fd) (g : mg x = some (.ref C)) (o : OexG K C f) (no : PySem.W.findIn K (.ref C) "name" = some none) : Er1 P w K mg base x "name" C f :=
  ⟨g, o, no, fd, ok_I14 F, F.binds (ps := ["self", "name"]) fun _ _ _ _ _ _ us hl => match us, hl with | [_, _], _ => rfl, Fun.kbn F rel1 fun _ _ _ _ _ _ us ws h1 h2 => match us, ws, h1, h2 with | [_], [_], _, _ => rfl⟩
end
abbrev sNum : Stmt := top 18
theorem scN : FnScope ["_law_cell", "_law_salt", "_law_sizes", "_law_whole", "_law_left", "_law_result", "_law_k", "_law_one"] ["_law_cell", "_law_salt", "_law_sizes"] (defScope sNum) := ⟨rfl, rfl, rfl, by decide +kernel, rfl, by decide +kernel, by decide +kernel⟩
/-- what the numbers are: as many as the sizes, each below its size -/
def Drawn (sz ns : List Int) : Prop := ns.length = sz.length ∧ ∀ (i : Nat) (n : Int), sz[i]? = some n → ∃ x : Int, ns[i]? = some x ∧ 0 ≤ x ∧ x < n
def spNum (K : PySem.W.Frag) : Sp := fun vs H Q _ => ∃ (cell salt : Int) (a : Addr) (sz : List Int), vs = [.int cell, .int salt, .ref a] ∧ SqL K H a (sz.map V.int) ∧ sz.length ≤ 60 ∧ (∀ n ∈ sz, 1 ≤ n ∧ n < 2 ^ 200) ∧ 0 ≤ salt ∧ salt ≤ 1000000 ∧
  ∀ H' p ns, Same H H' → H p = none → H' p = some (.lst (ns.map V.int)) → Drawn sz ns → Q (.ref p) H'
theorem same_upd {H : Hp} {p : Addr} {o : HO} (h : H p = none) : Same H (upd H p o) := fun b x e => by
  rw [upd_ne (ne_of_none e h)]
  exact e
theorem map_more (ns : List Int) (x : Int) : some (HO.lst (ns.map V.int ++ [V.int x])) = some (HO.lst ((ns ++ [x]).map V.int)) := by
  rw [List.map_append]
  rfl
theorem drawn_more {sz ns : List Int} {i : Nat} {n x : Int} (h : Drawn (sz.take i) ns) (hn : sz[i]? = some n) (x0 : 0 ≤ x) (x1 : x < n) : Drawn (sz.take (i + 1)) (ns ++ [x]) := by
  obtain ⟨h1, h2⟩ := h
  have hi : i < sz.length := by
    obtain ⟨z, _⟩ := List.getElem?_eq_some_iff.mp hn
    exact z
  have e : sz.take (i + 1) = sz.take i ++ [n] := by
    rw [List.take_add_one, hn]
    rfl
  have l1 : (sz.take i).length = i := by
    rw [List.length_take]
    omega
  rw [e]
  refine ⟨by rw [List.length_append, List.length_append, h1]; rfl, fun j m hm => ?_⟩
  by_cases hj : j < i
  · rw [List.getElem?_append_left (by omega)] at hm
    obtain ⟨y, y1, y2⟩ := h2 j m hm
    exact ⟨y, by rw [List.getElem?_append_left (by omega)]; exact y1, y2⟩
  · rw [List.getElem?_append_right (by omega), l1] at hm
    have ej : j = i := by
      obtain ⟨z, _⟩ := List.getElem?_eq_some_iff.mp hm
      simp at z
      omega
    subst ej
    rw [Nat.sub_self] at hm
    have em : n = m := Option.some.inj hm
    subst em
    exact ⟨x, by rw [List.getElem?_append_right (by omega), h1, l1, Nat.sub_self]; rfl, x0, x1⟩
section
variable {P : Program} {w : World} {K : PySem.W.Frag} {mg : Str → Option Value} {base : Heap}
theorem ok_num {f : Addr} {fd : FuncData} {k : Nat} (F : Fun K "_law_numbers" "_law_numbers" sNum f fd) (m_max : mg "max" = none) (m_range : mg "range" = none) (m_len : mg "len" = none) :
    FnOk P w K mg base CX0 (k + 1) f fd ["_law_cell", "_law_salt", "_law_sizes"] (spNum K) := by
  refine F.ok scN (fun vs H Q E h => ?_) (fun cdv A outer s H vs Q E hr h => ?_)
  · obtain ⟨c, s, a, sz, rfl, _⟩ := h
    rfl
  · obtain ⟨cell, salt, a, sz, rfl, hS, hlen, hsz, hs0, hs1, q⟩ := h
    refine ⟨_, (pss_cons (ps_set (i := 3) scN.nd rfl (.inl rfl) (pe_callB (call_max2 rfl) (by rfl) m_max (by decide +kernel) (pa_cons (pv 0) (pa_cons (pe_op op_sub (pe_un un_neg pe_int) (pv 0)) pa_nil))))
       (pss_cons (ps_set (i := 4) scN.nd rfl (.inl rfl) (pv 3))
       (pss_cons (ps_set (i := 5) scN.nd rfl (.inl rfl) (pe_lst pa_nil))
       (pss_cons (ps_for PassesOwn.never rfl (pi_range1 rfl m_range (pa_cons (pe_callB call_len_seq (by rfl) m_len PySem.boot_len (pa_cons (pv 2) pa_nil)) pa_nil)) (pg_name (i := 6) scN.nd rfl (.inl rfl))
       (pss_one (ps_if (PW.pt (pw_and (pt_cmpR op_ge (pv 3) (pe_op op_pow pe_int pe_int) (nomark _)) (pw_and1 (pt_cmpR op_gt (pv 4) pe_int (nomark _)))))
       (pss_cons (ps_expr (pe_bm PySem.F.plainAttrs_list PySem.F.slot_list_append PySem.F.type_list_append mt_append (pv 5) (pa_cons (pe_op op_modN (pv 4) (pe_ix ix_list (pv 2) (pv 6) (fun _ _ => rfl))) pa_nil)))
       (pss_one (ps_set (i := 4) scN.nd rfl (.inl rfl) (pe_op op_fdivW (pv 4) (pe_ix ix_list (pv 2) (pv 6) (fun _ _ => rfl))))))
       (pss_cons (ps_set (i := 7) scN.nd rfl (.inl rfl) (pe_op op_mod (pe_op op_pow (pe_op op_add (pe_op op_add (pe_op op_mod (pv 3) pe_int) (pe_op op_mul pe_int (pv 1))) pe_int) pe_int) pe_int))
       (pss_cons (ps_set (i := 7) scN.nd rfl (.inl rfl) (pe_op op_mod (pe_op op_mul (pe_op op_add (pv 7) (pe_op op_mul pe_int (pe_op op_add (pv 6) pe_int))) (pe_op op_add (pv 6) pe_int)) pe_int))
       (pss_cons (ps_set (i := 7) scN.nd rfl (.inl rfl) (pe_op op_mod (pe_op op_mul (pe_op op_mod (pe_op op_pow (pv 7) pe_int) pe_int) pe_int) pe_int))
       (pss_one (ps_expr (pe_bm PySem.F.plainAttrs_list PySem.F.slot_list_append PySem.F.type_list_append mt_append (pv 5) (pa_cons (pe_op op_modN (pe_op op_fdiv (pv 7) pe_int) (pe_ix ix_list (pv 2) (pv 6) (fun _ _ => rfl))) pa_nil))))))))))
       (pss_one (ps_ret (pv 5))))))), ?_⟩
    -- whole
    refine ⟨_, rfl, _, rfl, _, rfl, _, _, rfl, rfl, _, _, rfl, ?_⟩
    generalize hwh : (if -1 - cell > cell then -1 - cell else cell) = whole
    -- left
    refine ⟨_, rfl, ?_⟩
    -- result
    refine ⟨Nat.zero_le _, fun o no => ?_⟩
    have s1 : Same H (upd H o (.lst [])) := same_upd no
    -- range(len(sizes))
    refine ⟨_, rfl, a, _, rfl, .inl (s1.seq hS), _, rfl, ?_, ?_, ?_⟩
    · omega
    · rw [List.length_map]; omega
    have hw : 0 ≤ whole := by
      rw [← hwh]
      split <;> omega
    refine for_range (lo := 0) (n := (((sz.map V.int).length : Nat) : Int).toNat)
      (fun i σ H' => ∃ (left : Int) (ns : List Int) (v6 v7 : Option V), σ = [some (.int cell), some (.int salt), some (.ref a), some (.int whole), some (.int left), some (.ref o), v6, v7] ∧ 0 ≤ left ∧ Same H H' ∧
        H' o = some (.lst (ns.map V.int)) ∧ Drawn (sz.take i) ns)
      ⟨whole, [], none, none, rfl, hw, s1, upd_same, rfl, fun i n e => by simp at e⟩ ?_ ?_
    · rintro i σ H' hi ⟨left, ns, v6, v7, rfl, hl, sm, ho, hd⟩
      have hi' : i < sz.length := by
        rw [List.length_map] at hi
        omega
      have hSi : SqL K H' a (sz.map V.int) := sm.seq hS
      obtain ⟨n, hn⟩ : ∃ n, sz[i]? = some n := ⟨_, List.getElem?_eq_getElem hi'⟩
      obtain ⟨n1, n2⟩ := hsz n (List.mem_of_getElem? hn)
      have hat : atI (sz.map V.int) ((0 : Int) + i) = some (V.int n) := by
        rw [Int.zero_add]
        refine atI_nat ?_
        rw [List.getElem?_map, hn]
        rfl
      have more : ∀ x, 0 ≤ x → x < n → Drawn (sz.take (i + 1)) (ns ++ [x]) := fun x x0 x1 => drawn_more hd hn x0 x1
      have nsl : ns.length = i := by
        have z := hd.1
        rw [List.length_take] at z
        omega
      have room : (ns.map V.int).length < sizeLine := by
        rw [List.length_map]
        exact small1000 (by omega)
      have stay : ∀ u, Same H (upd H' o u) := fun u b z e => by
        rw [upd_ne (ne_of_none e no)]
        exact sm b z e
      -- whole >= 10 ** 18 and left > 0
      refine ⟨_, rfl, _, _, rfl, rfl, ⟨by decide, by decide, by decide⟩, _, _, rfl, rfl, _, rfl, ?_⟩
      refine ite2 (fun c1 => ?_) (fun c1 => ?_)
      · refine ⟨_, rfl, _, _, rfl, rfl, _, rfl, ite2 (fun c2 => ?_) (fun c2 => ?_)⟩
        · refine ⟨_, rfl, .inl ⟨rfl, _, .inl (.inl ho)⟩, _, rfl, _, rfl, _, rfl, a, _, _, _, rfl, rfl, hSi, hat, _, _, rfl, rfl, (by omega), o, _, _, rfl, rfl, ho, room, ?_⟩
          refine ⟨_, rfl, _, rfl, _, rfl, a, _, _, _, rfl, rfl, (stay _).seq hS, hat, _, _, rfl, rfl, wide_div (by omega) (b := 200) (by omega) (by decide) (by decide), ?_⟩
          exact ⟨left / n, _, _, _, rfl, Int.ediv_nonneg hl (by omega), stay _, by rw [upd_same, map_more], more _ (Int.fmod_nonneg_of_pos _ (by omega)) (Int.fmod_lt_of_pos _ (by omega))⟩
        · refine ⟨_, rfl, _, _, rfl, rfl, (by show (0 : Int) < 2147483629; decide), _, rfl, _, _, rfl, rfl, .inl ⟨by decide, by decide⟩, _, _, rfl, rfl, _, _, rfl, rfl, _, _, rfl, rfl, ⟨by decide, by decide, by omega⟩, _, _, rfl, rfl, (by show (0 : Int) < 2147483647; decide), ?_⟩
          refine ⟨_, rfl, _, rfl, _, _, rfl, rfl, _, _, rfl, rfl, .inl ⟨by decide, by decide⟩, _, _, rfl, rfl, _, rfl, _, _, rfl, rfl, _, _, rfl, rfl, .inr ⟨by omega, by omega⟩, _, _, rfl, rfl, (by show (0 : Int) < 2147483629; decide), ?_⟩
          refine ⟨_, rfl, _, _, rfl, rfl, ⟨by decide, by decide, by omega⟩, _, _, rfl, rfl, (by show (0 : Int) < 2147483647; decide), _, _, rfl, rfl, .inr ⟨by decide, by decide⟩, _, _, rfl, rfl, (by show (0 : Int) < 2147483629; decide), ?_⟩
          refine ⟨_, rfl, .inl ⟨rfl, _, .inl (.inl ho)⟩, _, rfl, _, _, rfl, rfl, ⟨by decide, by decide⟩, _, rfl, _, rfl, a, _, _, _, rfl, rfl, hSi, hat, _, _, rfl, rfl, (by omega), o, _, _, rfl, rfl, ho, room, ?_⟩
          exact ⟨left, _, _, _, rfl, hl, stay _, by rw [upd_same, map_more], more _ (Int.fmod_nonneg_of_pos _ (by omega)) (Int.fmod_lt_of_pos _ (by omega))⟩
      · refine ⟨_, rfl, _, _, rfl, rfl, (by show (0 : Int) < 2147483629; decide), _, rfl, _, _, rfl, rfl, .inl ⟨by decide, by decide⟩, _, _, rfl, rfl, _, _, rfl, rfl, _, _, rfl, rfl, ⟨by decide, by decide, by omega⟩, _, _, rfl, rfl, (by show (0 : Int) < 2147483647; decide), ?_⟩
        refine ⟨_, rfl, _, rfl, _, _, rfl, rfl, _, _, rfl, rfl, .inl ⟨by decide, by decide⟩, _, _, rfl, rfl, _, rfl, _, _, rfl, rfl, _, _, rfl, rfl, .inr ⟨by omega, by omega⟩, _, _, rfl, rfl, (by show (0 : Int) < 2147483629; decide), ?_⟩
        refine ⟨_, rfl, _, _, rfl, rfl, ⟨by decide, by decide, by omega⟩, _, _, rfl, rfl, (by show (0 : Int) < 2147483647; decide), _, _, rfl, rfl, .inr ⟨by decide, by decide⟩, _, _, rfl, rfl, (by show (0 : Int) < 2147483629; decide), ?_⟩
        refine ⟨_, rfl, .inl ⟨rfl, _, .inl (.inl ho)⟩, _, rfl, _, _, rfl, rfl, ⟨by decide, by decide⟩, _, rfl, _, rfl, a, _, _, _, rfl, rfl, hSi, hat, _, _, rfl, rfl, (by omega), o, _, _, rfl, rfl, ho, room, ?_⟩
        exact ⟨left, _, _, _, rfl, hl, stay _, by rw [upd_same, map_more], more _ (Int.fmod_nonneg_of_pos _ (by omega)) (Int.fmod_lt_of_pos _ (by omega))⟩
    · rintro σ H' ⟨left, ns, v6, v7, rfl, hl, sm, ho, hd⟩
      have e : (((sz.map V.int).length : Nat) : Int).toNat = sz.length := by
        rw [List.length_map]
        omega
      rw [e, List.take_length] at hd
      exact ⟨_, rfl, q H' o ns sm no ho hd⟩
end

end Lw
/-! K2 -/
namespace Lw
open PySem PySem.Spec PyProof.Rows L2
/-- the fields of the i-th error -/
def fds (one two : V) : Nat → List (Str × V)
  | 0 => [("place", one)]
  | 1 => [("place", two), ("name", one)]
  | 2 => [("name", two), ("part", one)]
  | 3 => [("index", one)]
  | 4 => [("value", one)]
  | 5 => [("move", one)]
  | 6 => [("value", one)]
  | 7 => [("edit", one)]
  | 8 => [("line", one)]
  | 9 => [("word", one)]
  | 10 => [("value", one)]
  | 11 => [("limit", one)]
  | 12 => [("name", one)]
  | 13 => [("paper", two), ("word", one)]
  | _ => [("name", one)]
/-- what the top has written: the fifteen classes -/
structure Cl (P : Program) (w : World) (K : PySem.W.Frag) (mg : Str → Option Value) (base : Heap) (C fI : Nat → Addr) : Prop where
  e0 : Er1 P w K mg base "InvalidItem" "place" (C 0) (fI 0)
  e1 : Er2 P w K mg base "NotACrowd" "name" "place" (C 1) (fI 1)
  e2 : Er2 P w K mg base "InvalidDevice" "part" "name" (C 2) (fI 2)
  e3 : Er1 P w K mg base "InvalidStep" "index" (C 3) (fI 3)
  e4 : Er1 P w K mg base "InvalidState" "value" (C 4) (fI 4)
  e5 : Er1 P w K mg base "InvalidMove" "move" (C 5) (fI 5)
  e6 : Er1 P w K mg base "InvalidStock" "value" (C 6) (fI 6)
  e7 : Er1 P w K mg base "InvalidEdit" "edit" (C 7) (fI 7)
  e8 : Er1 P w K mg base "InvalidText" "line" (C 8) (fI 8)
  e9 : Er1 P w K mg base "InvalidCommand" "word" (C 9) (fI 9)
  e10 : Er1 P w K mg base "InvalidNumber" "value" (C 10) (fI 10)
  e11 : Er1 P w K mg base "LimitExceeded" "limit" (C 11) (fI 11)
  e12 : Er1 P w K mg base "UnknownName" "name" (C 12) (fI 12)
  e13 : Er2 P w K mg base "NotRight" "word" "paper" (C 13) (fI 13)
  e14 : Er1 P w K mg base "NothingToUndo" "name" (C 14) (fI 14)
def L15 (es : Nat → Addr) : List V := [.ref (es 0), .ref (es 1), .ref (es 2), .ref (es 3), .ref (es 4), .ref (es 5), .ref (es 6), .ref (es 7), .ref (es 8), .ref (es 9), .ref (es 10), .ref (es 11), .ref (es 12), .ref (es 13), .ref (es 14)]
def MadeAll (C : Nat → Addr) (H : Hp) (es : Nat → Addr) (one two : V) : Prop := ∀ i, i < 15 → IsE H (C i) (es i) (fds one two i)
def es15 (l : List Addr) : Nat → Addr := fun i => l.getD i 0
def spMade (C : Nat → Addr) : Sp := fun vs H Q _ => ∃ one two : V, vs = [one, two] ∧ ∀ H' p es, Same H H' → H' p = some (.lst (L15 es)) → MadeAll C H' es one two → Q (.ref p) H'
section
variable {P : Program} {w : World} {K : PySem.W.Frag} {mg : Str → Option Value} {base : Heap} {C fI : Nat → Addr}
abbrev sM : Stmt := top 19
theorem scM : FnScope ["_law_one", "_law_two", "_law_some"] ["_law_one", "_law_two"] (defScope sM) := ⟨rfl, rfl, rfl, by decide +kernel, rfl, by decide +kernel, by decide +kernel⟩
theorem ok_M {f : Addr} {fd : FuncData} (F : Fun K "_law_made" "_law_made" sM f fd) (T : Cl P w K mg base C fI) : FnOk P w K mg base CX0 3 f fd ["_law_one", "_law_two"] (spMade C) := by
  refine F.ok scM (fun vs H Q E h => ?_) (fun cdv A outer s H vs Q E hr h => ?_)
  · obtain ⟨one, two, rfl, _⟩ := h
    rfl
  · obtain ⟨one, two, rfl, q⟩ := h
    obtain ⟨fd0, F0, b0, k0⟩ := T.e0.fn
    obtain ⟨fd1, F1, b1, k1⟩ := T.e1.fn
    obtain ⟨fd2, F2, b2, k2⟩ := T.e2.fn
    obtain ⟨fd3, F3, b3, k3⟩ := T.e3.fn
    obtain ⟨fd4, F4, b4, k4⟩ := T.e4.fn
    obtain ⟨fd5, F5, b5, k5⟩ := T.e5.fn
    obtain ⟨fd6, F6, b6, k6⟩ := T.e6.fn
    obtain ⟨fd7, F7, b7, k7⟩ := T.e7.fn
    obtain ⟨fd8, F8, b8, k8⟩ := T.e8.fn
    obtain ⟨fd9, F9, b9, k9⟩ := T.e9.fn
    obtain ⟨fd10, F10, b10, k10⟩ := T.e10.fn
    obtain ⟨fd11, F11, b11, k11⟩ := T.e11.fn
    obtain ⟨fd12, F12, b12, k12⟩ := T.e12.fn
    obtain ⟨fd13, F13, b13, k13⟩ := T.e13.fn
    obtain ⟨fd14, F14, b14, k14⟩ := T.e14.fn
    refine ⟨_, (pss_cons (ps_set (i := 2) scM.nd rfl (.inl rfl) (pe_lst (pa_cons (pe_mkG T.e0.o F0 hr b0 pass0 rfl T.e0.g (pa_cons (pv 0) pa_nil)) (pa_cons (pe_mkG T.e1.o F1 hr b1 pass0 rfl T.e1.g (pa_cons (pv 0) (pa_cons (pv 1) pa_nil))) (pa_cons (pe_mkG T.e2.o F2 hr b2 pass0 rfl T.e2.g (pa_cons (pv 0) (pa_cons (pv 1) pa_nil))) (pa_cons (pe_mkG T.e3.o F3 hr b3 pass0 rfl T.e3.g (pa_cons (pv 0) pa_nil)) (pa_cons (pe_mkG T.e4.o F4 hr b4 pass0 rfl T.e4.g (pa_cons (pv 0) pa_nil)) pa_nil)))))))
       (pss_cons (ps_set (i := 2) scM.nd rfl (.inl rfl) (pe_op op_cat (pv 2) (pe_lst (pa_cons (pe_mkG T.e5.o F5 hr b5 pass0 rfl T.e5.g (pa_cons (pv 0) pa_nil)) (pa_cons (pe_mkG T.e6.o F6 hr b6 pass0 rfl T.e6.g (pa_cons (pv 0) pa_nil)) (pa_cons (pe_mkG T.e7.o F7 hr b7 pass0 rfl T.e7.g (pa_cons (pv 0) pa_nil)) (pa_cons (pe_mkG T.e8.o F8 hr b8 pass0 rfl T.e8.g (pa_cons (pv 0) pa_nil)) (pa_cons (pe_mkG T.e9.o F9 hr b9 pass0 rfl T.e9.g (pa_cons (pv 0) pa_nil)) pa_nil))))))))
       (pss_cons (ps_set (i := 2) scM.nd rfl (.inl rfl) (pe_op op_cat (pv 2) (pe_lst (pa_cons (pe_mkG T.e10.o F10 hr b10 pass0 rfl T.e10.g (pa_cons (pv 0) pa_nil)) (pa_cons (pe_mkG T.e11.o F11 hr b11 pass0 rfl T.e11.g (pa_cons (pv 0) pa_nil)) (pa_cons (pe_mkG T.e12.o F12 hr b12 pass0 rfl T.e12.g (pa_cons (pv 0) pa_nil)) (pa_cons (pe_mkG T.e13.o F13 hr b13 pass0 rfl T.e13.g (pa_cons (pv 0) (pa_cons (pv 1) pa_nil))) pa_nil)))))))
       (pss_one (ps_ret (pe_op op_cat (pv 2) (pe_lst (pa_cons (pe_mkG T.e14.o F14 hr b14 pass0 rfl T.e14.g (pa_cons (pv 0) pa_nil)) pa_nil)))))))), ?_⟩
    refine ⟨_, rfl, Nat.le_of_ble_eq_true rfl, fun a0 n0 => ⟨a0, _, _, _, rfl, T.e0.o, T.e0.no, upd_same, fun H0 u0 i0 => ⟨rfl, ?_⟩⟩⟩
    have t0 := same_but n0 u0
    refine ⟨_, rfl, _, rfl, Nat.le_of_ble_eq_true rfl, fun a1 n1 => ⟨a1, _, _, _, _, rfl, T.e1.o, T.e1.no, T.e1.no2, upd_same, fun H1 u1 i1 => ⟨rfl, ?_⟩⟩⟩
    have t1 := same_but n1 u1
    refine ⟨_, rfl, _, rfl, Nat.le_of_ble_eq_true rfl, fun a2 n2 => ⟨a2, _, _, _, _, rfl, T.e2.o, T.e2.no, T.e2.no2, upd_same, fun H2 u2 i2 => ⟨rfl, ?_⟩⟩⟩
    have t2 := same_but n2 u2
    refine ⟨_, rfl, Nat.le_of_ble_eq_true rfl, fun a3 n3 => ⟨a3, _, _, _, rfl, T.e3.o, T.e3.no, upd_same, fun H3 u3 i3 => ⟨rfl, ?_⟩⟩⟩
    have t3 := same_but n3 u3
    refine ⟨_, rfl, Nat.le_of_ble_eq_true rfl, fun a4 n4 => ⟨a4, _, _, _, rfl, T.e4.o, T.e4.no, upd_same, fun H4 u4 i4 => ⟨rfl, ?_⟩⟩⟩
    have t4 := same_but n4 u4
    refine ⟨(by show 5 ≤ sizeLine; decide), fun p0 mp0 => ?_⟩
    have t5 := same_upd (o := .lst [.ref a0, .ref a1, .ref a2, .ref a3, .ref a4]) mp0
    refine ⟨_, rfl, ?_⟩
    refine ⟨_, rfl, Nat.le_of_ble_eq_true rfl, fun a5 n5 => ⟨a5, _, _, _, rfl, T.e5.o, T.e5.no, upd_same, fun H5 u5 i5 => ⟨rfl, ?_⟩⟩⟩
    have t6 := same_but n5 u5
    refine ⟨_, rfl, Nat.le_of_ble_eq_true rfl, fun a6 n6 => ⟨a6, _, _, _, rfl, T.e6.o, T.e6.no, upd_same, fun H6 u6 i6 => ⟨rfl, ?_⟩⟩⟩
    have t7 := same_but n6 u6
    refine ⟨_, rfl, Nat.le_of_ble_eq_true rfl, fun a7 n7 => ⟨a7, _, _, _, rfl, T.e7.o, T.e7.no, upd_same, fun H7 u7 i7 => ⟨rfl, ?_⟩⟩⟩
    have t8 := same_but n7 u7
    refine ⟨_, rfl, Nat.le_of_ble_eq_true rfl, fun a8 n8 => ⟨a8, _, _, _, rfl, T.e8.o, T.e8.no, upd_same, fun H8 u8 i8 => ⟨rfl, ?_⟩⟩⟩
    have t9 := same_but n8 u8
    refine ⟨_, rfl, Nat.le_of_ble_eq_true rfl, fun a9 n9 => ⟨a9, _, _, _, rfl, T.e9.o, T.e9.no, upd_same, fun H9 u9 i9 => ⟨rfl, ?_⟩⟩⟩
    have t10 := same_but n9 u9
    refine ⟨(by show 5 ≤ sizeLine; decide), fun p1 mp1 => ?_⟩
    have t11 := same_upd (o := .lst [.ref a5, .ref a6, .ref a7, .ref a8, .ref a9]) mp1
    refine ⟨_, _, _, _, rfl, rfl, (((((t6.trans t7).trans t8).trans t9).trans t10).trans t11) _ _ upd_same, upd_same, (show (10 : Nat) ≤ sizeLine by decide), fun q1 mq1 => ?_⟩
    have t12 := same_upd (o := .lst ([.ref a0, .ref a1, .ref a2, .ref a3, .ref a4] ++ [.ref a5, .ref a6, .ref a7, .ref a8, .ref a9])) mq1
    refine ⟨_, rfl, ?_⟩
    refine ⟨_, rfl, Nat.le_of_ble_eq_true rfl, fun a10 n10 => ⟨a10, _, _, _, rfl, T.e10.o, T.e10.no, upd_same, fun H10 u10 i10 => ⟨rfl, ?_⟩⟩⟩
    have t13 := same_but n10 u10
    refine ⟨_, rfl, Nat.le_of_ble_eq_true rfl, fun a11 n11 => ⟨a11, _, _, _, rfl, T.e11.o, T.e11.no, upd_same, fun H11 u11 i11 => ⟨rfl, ?_⟩⟩⟩
    have t14 := same_but n11 u11
    refine ⟨_, rfl, Nat.le_of_ble_eq_true rfl, fun a12 n12 => ⟨a12, _, _, _, rfl, T.e12.o, T.e12.no, upd_same, fun H12 u12 i12 => ⟨rfl, ?_⟩⟩⟩
    have t15 := same_but n12 u12
    refine ⟨_, rfl, _, rfl, Nat.le_of_ble_eq_true rfl, fun a13 n13 => ⟨a13, _, _, _, _, rfl, T.e13.o, T.e13.no, T.e13.no2, upd_same, fun H13 u13 i13 => ⟨rfl, ?_⟩⟩⟩
    have t16 := same_but n13 u13
    refine ⟨(by show 4 ≤ sizeLine; decide), fun p2 mp2 => ?_⟩
    have t17 := same_upd (o := .lst [.ref a10, .ref a11, .ref a12, .ref a13]) mp2
    refine ⟨_, _, _, _, rfl, rfl, ((((t13.trans t14).trans t15).trans t16).trans t17) _ _ upd_same, upd_same, (show (14 : Nat) ≤ sizeLine by decide), fun q2 mq2 => ?_⟩
    have t18 := same_upd (o := .lst (([.ref a0, .ref a1, .ref a2, .ref a3, .ref a4] ++ [.ref a5, .ref a6, .ref a7, .ref a8, .ref a9]) ++ [.ref a10, .ref a11, .ref a12, .ref a13])) mq2
    refine ⟨_, rfl, ?_⟩
    refine ⟨_, rfl, Nat.le_of_ble_eq_true rfl, fun a14 n14 => ⟨a14, _, _, _, rfl, T.e14.o, T.e14.no, upd_same, fun H14 u14 i14 => ⟨rfl, ?_⟩⟩⟩
    have t19 := same_but n14 u14
    refine ⟨(by show 1 ≤ sizeLine; decide), fun p3 mp3 => ?_⟩
    have t20 := same_upd (o := .lst [.ref a14]) mp3
    refine ⟨_, _, _, _, rfl, rfl, (t19.trans t20) _ _ upd_same, upd_same, (show (15 : Nat) ≤ sizeLine by decide), fun q3 mq3 => ?_⟩
    have t21 := same_upd (o := .lst ((([.ref a0, .ref a1, .ref a2, .ref a3, .ref a4] ++ [.ref a5, .ref a6, .ref a7, .ref a8, .ref a9]) ++ [.ref a10, .ref a11, .ref a12, .ref a13]) ++ [.ref a14])) mq3
    have z21 := t21
    have z20 := t20.trans z21
    have z19 := t19.trans z20
    have z18 := t18.trans z19
    have z17 := t17.trans z18
    have z16 := t16.trans z17
    have z15 := t15.trans z16
    have z14 := t14.trans z15
    have z13 := t13.trans z14
    have z12 := t12.trans z13
    have z11 := t11.trans z12
    have z10 := t10.trans z11
    have z9 := t9.trans z10
    have z8 := t8.trans z9
    have z7 := t7.trans z8
    have z6 := t6.trans z7
    have z5 := t5.trans z6
    have z4 := t4.trans z5
    have z3 := t3.trans z4
    have z2 := t2.trans z3
    have z1 := t1.trans z2
    have z0 := t0.trans z1
    refine q _ _ (es15 [a0, a1, a2, a3, a4, a5, a6, a7, a8, a9, a10, a11, a12, a13, a14]) z0 upd_same (fun i hi => ?_)
    match i, hi with
    | 0, _ => exact i0.same z1
    | 1, _ => exact i1.same z2
    | 2, _ => exact i2.same z3
    | 3, _ => exact i3.same z4
    | 4, _ => exact i4.same z5
    | 5, _ => exact i5.same z7
    | 6, _ => exact i6.same z8
    | 7, _ => exact i7.same z9
    | 8, _ => exact i8.same z10
    | 9, _ => exact i9.same z11
    | 10, _ => exact i10.same z14
    | 11, _ => exact i11.same z15
    | 12, _ => exact i12.same z16
    | 13, _ => exact i13.same z17
    | 14, _ => exact i14.same z20
    | i + 15, hi => exact absurd hi (by omega)
abbrev sNm : Stmt := top 20
theorem scNm : FnScope ["_law_one", "_law_two", "_law_some"] ["_law_one", "_law_two"] (defScope sNm) := ⟨rfl, rfl, rfl, by decide +kernel, rfl, by decide +kernel, by decide +kernel⟩
theorem ok_Nm {f : Addr} {fd : FuncData} (F : Fun K "_law_named" "_law_named" sNm f fd) (T : Cl P w K mg base C fI) : FnOk P w K mg base CX0 3 f fd ["_law_one", "_law_two"] (spMade C) := by
  refine F.ok scNm (fun vs H Q E h => ?_) (fun cdv A outer s H vs Q E hr h => ?_)
  · obtain ⟨one, two, rfl, _⟩ := h
    rfl
  · obtain ⟨one, two, rfl, q⟩ := h
    obtain ⟨fd0, F0, b0, k0⟩ := T.e0.fn
    obtain ⟨fd1, F1, b1, k1⟩ := T.e1.fn
    obtain ⟨fd2, F2, b2, k2⟩ := T.e2.fn
    obtain ⟨fd3, F3, b3, k3⟩ := T.e3.fn
    obtain ⟨fd4, F4, b4, k4⟩ := T.e4.fn
    obtain ⟨fd5, F5, b5, k5⟩ := T.e5.fn
    obtain ⟨fd6, F6, b6, k6⟩ := T.e6.fn
    obtain ⟨fd7, F7, b7, k7⟩ := T.e7.fn
    obtain ⟨fd8, F8, b8, k8⟩ := T.e8.fn
    obtain ⟨fd9, F9, b9, k9⟩ := T.e9.fn
    obtain ⟨fd10, F10, b10, k10⟩ := T.e10.fn
    obtain ⟨fd11, F11, b11, k11⟩ := T.e11.fn
    obtain ⟨fd12, F12, b12, k12⟩ := T.e12.fn
    obtain ⟨fd13, F13, b13, k13⟩ := T.e13.fn
    obtain ⟨fd14, F14, b14, k14⟩ := T.e14.fn
    refine ⟨_, (pss_cons (ps_set (i := 2) scNm.nd rfl (.inl rfl) (pe_lst (pa_cons (pe_mkGK T.e0.o F0 hr k0 pass0 rfl T.e0.g (pk_cons (pv 0) pk_nil)) (pa_cons (pe_mkGK T.e1.o F1 hr k1 pass0 rfl T.e1.g (pk_cons (pv 1) (pk_cons (pv 0) pk_nil))) (pa_cons (pe_mkGK T.e2.o F2 hr k2 pass0 rfl T.e2.g (pk_cons (pv 1) (pk_cons (pv 0) pk_nil))) pa_nil)))))
       (pss_cons (ps_set (i := 2) scNm.nd rfl (.inl rfl) (pe_op op_cat (pv 2) (pe_lst (pa_cons (pe_mkGK T.e3.o F3 hr k3 pass0 rfl T.e3.g (pk_cons (pv 0) pk_nil)) (pa_cons (pe_mkGK T.e4.o F4 hr k4 pass0 rfl T.e4.g (pk_cons (pv 0) pk_nil)) (pa_cons (pe_mkGK T.e5.o F5 hr k5 pass0 rfl T.e5.g (pk_cons (pv 0) pk_nil)) (pa_cons (pe_mkGK T.e6.o F6 hr k6 pass0 rfl T.e6.g (pk_cons (pv 0) pk_nil)) pa_nil)))))))
       (pss_cons (ps_set (i := 2) scNm.nd rfl (.inl rfl) (pe_op op_cat (pv 2) (pe_lst (pa_cons (pe_mkGK T.e7.o F7 hr k7 pass0 rfl T.e7.g (pk_cons (pv 0) pk_nil)) (pa_cons (pe_mkGK T.e8.o F8 hr k8 pass0 rfl T.e8.g (pk_cons (pv 0) pk_nil)) (pa_cons (pe_mkGK T.e9.o F9 hr k9 pass0 rfl T.e9.g (pk_cons (pv 0) pk_nil)) (pa_cons (pe_mkGK T.e10.o F10 hr k10 pass0 rfl T.e10.g (pk_cons (pv 0) pk_nil)) pa_nil)))))))
       (pss_cons (ps_set (i := 2) scNm.nd rfl (.inl rfl) (pe_op op_cat (pv 2) (pe_lst (pa_cons (pe_mkGK T.e11.o F11 hr k11 pass0 rfl T.e11.g (pk_cons (pv 0) pk_nil)) (pa_cons (pe_mkGK T.e12.o F12 hr k12 pass0 rfl T.e12.g (pk_cons (pv 0) pk_nil)) (pa_cons (pe_mkGK T.e13.o F13 hr k13 pass0 rfl T.e13.g (pk_cons (pv 1) (pk_cons (pv 0) pk_nil))) pa_nil))))))
       (pss_one (ps_ret (pe_op op_cat (pv 2) (pe_lst (pa_cons (pe_mkGK T.e14.o F14 hr k14 pass0 rfl T.e14.g (pk_cons (pv 0) pk_nil)) pa_nil))))))))), ?_⟩
    refine ⟨_, rfl, rfl, fun a0 n0 => ⟨a0, _, _, _, rfl, T.e0.o, T.e0.no, upd_same, fun H0 u0 i0 => ⟨rfl, ?_⟩⟩⟩
    have t0 := same_but n0 u0
    refine ⟨_, rfl, _, rfl, rfl, fun a1 n1 => ⟨a1, _, _, _, _, rfl, T.e1.o, T.e1.no, T.e1.no2, upd_same, fun H1 u1 i1 => ⟨rfl, ?_⟩⟩⟩
    have t1 := same_but n1 u1
    refine ⟨_, rfl, _, rfl, rfl, fun a2 n2 => ⟨a2, _, _, _, _, rfl, T.e2.o, T.e2.no, T.e2.no2, upd_same, fun H2 u2 i2 => ⟨rfl, ?_⟩⟩⟩
    have t2 := same_but n2 u2
    refine ⟨(by show 3 ≤ sizeLine; decide), fun p0 mp0 => ?_⟩
    have t3 := same_upd (o := .lst [.ref a0, .ref a1, .ref a2]) mp0
    refine ⟨_, rfl, ?_⟩
    refine ⟨_, rfl, rfl, fun a3 n3 => ⟨a3, _, _, _, rfl, T.e3.o, T.e3.no, upd_same, fun H3 u3 i3 => ⟨rfl, ?_⟩⟩⟩
    have t4 := same_but n3 u3
    refine ⟨_, rfl, rfl, fun a4 n4 => ⟨a4, _, _, _, rfl, T.e4.o, T.e4.no, upd_same, fun H4 u4 i4 => ⟨rfl, ?_⟩⟩⟩
    have t5 := same_but n4 u4
    refine ⟨_, rfl, rfl, fun a5 n5 => ⟨a5, _, _, _, rfl, T.e5.o, T.e5.no, upd_same, fun H5 u5 i5 => ⟨rfl, ?_⟩⟩⟩
    have t6 := same_but n5 u5
    refine ⟨_, rfl, rfl, fun a6 n6 => ⟨a6, _, _, _, rfl, T.e6.o, T.e6.no, upd_same, fun H6 u6 i6 => ⟨rfl, ?_⟩⟩⟩
    have t7 := same_but n6 u6
    refine ⟨(by show 4 ≤ sizeLine; decide), fun p1 mp1 => ?_⟩
    have t8 := same_upd (o := .lst [.ref a3, .ref a4, .ref a5, .ref a6]) mp1
    refine ⟨_, _, _, _, rfl, rfl, ((((t4.trans t5).trans t6).trans t7).trans t8) _ _ upd_same, upd_same, (show (7 : Nat) ≤ sizeLine by decide), fun q1 mq1 => ?_⟩
    have t9 := same_upd (o := .lst ([.ref a0, .ref a1, .ref a2] ++ [.ref a3, .ref a4, .ref a5, .ref a6])) mq1
    refine ⟨_, rfl, ?_⟩
    refine ⟨_, rfl, rfl, fun a7 n7 => ⟨a7, _, _, _, rfl, T.e7.o, T.e7.no, upd_same, fun H7 u7 i7 => ⟨rfl, ?_⟩⟩⟩
    have t10 := same_but n7 u7
    refine ⟨_, rfl, rfl, fun a8 n8 => ⟨a8, _, _, _, rfl, T.e8.o, T.e8.no, upd_same, fun H8 u8 i8 => ⟨rfl, ?_⟩⟩⟩
    have t11 := same_but n8 u8
    refine ⟨_, rfl, rfl, fun a9 n9 => ⟨a9, _, _, _, rfl, T.e9.o, T.e9.no, upd_same, fun H9 u9 i9 => ⟨rfl, ?_⟩⟩⟩
    have t12 := same_but n9 u9
    refine ⟨_, rfl, rfl, fun a10 n10 => ⟨a10, _, _, _, rfl, T.e10.o, T.e10.no, upd_same, fun H10 u10 i10 => ⟨rfl, ?_⟩⟩⟩
    have t13 := same_but n10 u10
    refine ⟨(by show 4 ≤ sizeLine; decide), fun p2 mp2 => ?_⟩
    have t14 := same_upd (o := .lst [.ref a7, .ref a8, .ref a9, .ref a10]) mp2
    refine ⟨_, _, _, _, rfl, rfl, ((((t10.trans t11).trans t12).trans t13).trans t14) _ _ upd_same, upd_same, (show (11 : Nat) ≤ sizeLine by decide), fun q2 mq2 => ?_⟩
    have t15 := same_upd (o := .lst (([.ref a0, .ref a1, .ref a2] ++ [.ref a3, .ref a4, .ref a5, .ref a6]) ++ [.ref a7, .ref a8, .ref a9, .ref a10])) mq2
    refine ⟨_, rfl, ?_⟩
    refine ⟨_, rfl, rfl, fun a11 n11 => ⟨a11, _, _, _, rfl, T.e11.o, T.e11.no, upd_same, fun H11 u11 i11 => ⟨rfl, ?_⟩⟩⟩
    have t16 := same_but n11 u11
    refine ⟨_, rfl, rfl, fun a12 n12 => ⟨a12, _, _, _, rfl, T.e12.o, T.e12.no, upd_same, fun H12 u12 i12 => ⟨rfl, ?_⟩⟩⟩
    have t17 := same_but n12 u12
    refine ⟨_, rfl, _, rfl, rfl, fun a13 n13 => ⟨a13, _, _, _, _, rfl, T.e13.o, T.e13.no, T.e13.no2, upd_same, fun H13 u13 i13 => ⟨rfl, ?_⟩⟩⟩
    have t18 := same_but n13 u13
    refine ⟨(by show 3 ≤ sizeLine; decide), fun p3 mp3 => ?_⟩
    have t19 := same_upd (o := .lst [.ref a11, .ref a12, .ref a13]) mp3
    refine ⟨_, _, _, _, rfl, rfl, (((t16.trans t17).trans t18).trans t19) _ _ upd_same, upd_same, (show (14 : Nat) ≤ sizeLine by decide), fun q3 mq3 => ?_⟩
    have t20 := same_upd (o := .lst ((([.ref a0, .ref a1, .ref a2] ++ [.ref a3, .ref a4, .ref a5, .ref a6]) ++ [.ref a7, .ref a8, .ref a9, .ref a10]) ++ [.ref a11, .ref a12, .ref a13])) mq3
    refine ⟨_, rfl, ?_⟩
    refine ⟨_, rfl, rfl, fun a14 n14 => ⟨a14, _, _, _, rfl, T.e14.o, T.e14.no, upd_same, fun H14 u14 i14 => ⟨rfl, ?_⟩⟩⟩
    have t21 := same_but n14 u14
    refine ⟨(by show 1 ≤ sizeLine; decide), fun p4 mp4 => ?_⟩
    have t22 := same_upd (o := .lst [.ref a14]) mp4
    refine ⟨_, _, _, _, rfl, rfl, (t21.trans t22) _ _ upd_same, upd_same, (show (15 : Nat) ≤ sizeLine by decide), fun q4 mq4 => ?_⟩
    have t23 := same_upd (o := .lst (((([.ref a0, .ref a1, .ref a2] ++ [.ref a3, .ref a4, .ref a5, .ref a6]) ++ [.ref a7, .ref a8, .ref a9, .ref a10]) ++ [.ref a11, .ref a12, .ref a13]) ++ [.ref a14])) mq4
    have z23 := t23
    have z22 := t22.trans z23
    have z21 := t21.trans z22
    have z20 := t20.trans z21
    have z19 := t19.trans z20
    have z18 := t18.trans z19
    have z17 := t17.trans z18
    have z16 := t16.trans z17
    have z15 := t15.trans z16
    have z14 := t14.trans z15
    have z13 := t13.trans z14
    have z12 := t12.trans z13
    have z11 := t11.trans z12
    have z10 := t10.trans z11
    have z9 := t9.trans z10
    have z8 := t8.trans z9
    have z7 := t7.trans z8
    have z6 := t6.trans z7
    have z5 := t5.trans z6
    have z4 := t4.trans z5
    have z3 := t3.trans z4
    have z2 := t2.trans z3
    have z1 := t1.trans z2
    have z0 := t0.trans z1
    refine q _ _ (es15 [a0, a1, a2, a3, a4, a5, a6, a7, a8, a9, a10, a11, a12, a13, a14]) z0 upd_same (fun i hi => ?_)
    match i, hi with
    | 0, _ => exact i0.same z1
    | 1, _ => exact i1.same z2
    | 2, _ => exact i2.same z3
    | 3, _ => exact i3.same z5
    | 4, _ => exact i4.same z6
    | 5, _ => exact i5.same z7
    | 6, _ => exact i6.same z8
    | 7, _ => exact i7.same z11
    | 8, _ => exact i8.same z12
    | 9, _ => exact i9.same z13
    | 10, _ => exact i10.same z14
    | 11, _ => exact i11.same z17
    | 12, _ => exact i12.same z18
    | 13, _ => exact i13.same z19
    | 14, _ => exact i14.same z22
    | i + 15, hi => exact absurd hi (by omega)
end
end Lw
/-! K3 -/
namespace Lw
open PySem PySem.Spec PyProof.Rows L2
inductive RowsAt (H : Hp) : List V → List (List V) → Prop
  | nil : RowsAt H [] []
  | cons {l : Addr} {r : List V} {vs : List V} {rs : List (List V)} : H l = some (.lst r) → RowsAt H vs rs → RowsAt H (.ref l :: vs) (r :: rs)
def NestAt (H : Hp) (q : Addr) (rows : List (List V)) : Prop := ∃ vs, H q = some (.lst vs) ∧ RowsAt H vs rows
def rowsOf (one two : V) : List (List V) := [[one], [one, two], [one, two], [one], [one], [one], [one], [one], [one], [one], [one], [one], [one], [one, two], [one]]
def spFields (C : Nat → Addr) : Sp := fun vs H Q _ => ∃ (one two : V) (p : Addr) (es : Nat → Addr), vs = [.ref p] ∧ H p = some (.lst (L15 es)) ∧ MadeAll C H es one two ∧ ∀ H' q, Same H H' → NestAt H' q (rowsOf one two) → Q (.ref q) H'
/-- an error of the i-th class -/
def IsI (C : Nat → Addr) (H : Hp) (i : Nat) (a : Addr) : Prop := i < 15 ∧ ∃ d fs, H a = some (exo a (C i) (some d)) ∧ H d = some (exd d fs)
def kindsOf (i : Nat) : List V := [.bl (decide (i = 0)), .bl (decide (i = 1)), .bl (decide (i = 2)), .bl (decide (i = 3)), .bl (decide (i = 4)), .bl (decide (i = 5)), .bl (decide (i = 6)), .bl (decide (i = 7)), .bl (decide (i = 8)), .bl (decide (i = 9)), .bl (decide (i = 10)), .bl (decide (i = 11)), .bl (decide (i = 12)), .bl (decide (i = 13)), .bl (decide (i = 14))]
def basesOf (i : Nat) : List V := [.bl (decide (i < 10)), .bl (decide (i = 10)), .bl (decide (i = 11)), .bl (decide (i = 12)), .bl (decide (i = 13 ∨ i = 14)), .bl false]
def spKinds (C : Nat → Addr) : Sp := fun vs H Q _ => ∃ (a : Addr) (i : Nat), vs = [.ref a] ∧ IsI C H i a ∧ ∀ H' p, Same H H' → H' p = some (.lst (kindsOf i)) → Q (.ref p) H'
def spBases (C : Nat → Addr) : Sp := fun vs H Q _ => ∃ (a : Addr) (i : Nat), vs = [.ref a] ∧ IsI C H i a ∧ ∀ H' p, Same H H' → H' p = some (.lst (basesOf i)) → Q (.ref p) H'
/-- which class is below which -/
structure Kit (K : PySem.W.Frag) (C : Nat → Addr) (D : Addr) : Prop where
  own : ∀ i j, i < 15 → j < 15 → PySem.W.kitOne K (.ref (C i)) (.ref (C j)) = some (decide (i = j))
  down : ∀ i, i < 15 → PySem.W.kitOne K (.ref (C i)) (.ref D) = some (decide (i < 10))
  val : ∀ i, i < 15 → PySem.W.kitOne K (.ref (C i)) (.type "ValueError") = some (decide (i = 10))
  ovf : ∀ i, i < 15 → PySem.W.kitOne K (.ref (C i)) (.type "OverflowError") = some (decide (i = 11))
  lku : ∀ i, i < 15 → PySem.W.kitOne K (.ref (C i)) (.type "LookupError") = some (decide (i = 12))
  run : ∀ i, i < 15 → PySem.W.kitOne K (.ref (C i)) (.type "RuntimeError") = some (decide (i = 13 ∨ i = 14))
  key : ∀ i, i < 15 → PySem.W.kitOne K (.ref (C i)) (.type "KeyError") = some false
section
variable {P : Program} {w : World} {K : PySem.W.Frag} {mg : Str → Option Value} {base : Heap} {C fI : Nat → Addr} {D : Addr}
theorem Cl.oex (T : Cl P w K mg base C fI) (i : Nat) (hi : i < 15) : OexG K (C i) (fI i) := by
  match i, hi with
  | 0, _ => exact T.e0.o
  | 1, _ => exact T.e1.o
  | 2, _ => exact T.e2.o
  | 3, _ => exact T.e3.o
  | 4, _ => exact T.e4.o
  | 5, _ => exact T.e5.o
  | 6, _ => exact T.e6.o
  | 7, _ => exact T.e7.o
  | 8, _ => exact T.e8.o
  | 9, _ => exact T.e9.o
  | 10, _ => exact T.e10.o
  | 11, _ => exact T.e11.o
  | 12, _ => exact T.e12.o
  | 13, _ => exact T.e13.o
  | 14, _ => exact T.e14.o
  | i + 15, hi => exact absurd hi (by omega)
abbrev sF : Stmt := top 21
theorem scF : FnScope ["_law_some", "_law_found"] ["_law_some"] (defScope sF) := ⟨rfl, rfl, rfl, by decide +kernel, rfl, by decide +kernel, by decide +kernel⟩
theorem ok_F {f : Addr} {fd : FuncData} (F : Fun K "_law_fields" "_law_fields" sF f fd) (T : Cl P w K mg base C fI) : FnOk P w K mg base CX0 1 f fd ["_law_some"] (spFields C) := by
  refine F.ok scF (fun vs H Q E h => ?_) (fun cdv A outer s H vs Q E hr h => ?_)
  · obtain ⟨one, two, p, es, rfl, _⟩ := h
    rfl
  · obtain ⟨one, two, p, es, rfl, hp, hE, q⟩ := h
    obtain ⟨d0, x0, y0⟩ := hE 0 (by decide)
    obtain ⟨d1, x1, y1⟩ := hE 1 (by decide)
    obtain ⟨d2, x2, y2⟩ := hE 2 (by decide)
    obtain ⟨d3, x3, y3⟩ := hE 3 (by decide)
    obtain ⟨d4, x4, y4⟩ := hE 4 (by decide)
    obtain ⟨d5, x5, y5⟩ := hE 5 (by decide)
    obtain ⟨d6, x6, y6⟩ := hE 6 (by decide)
    obtain ⟨d7, x7, y7⟩ := hE 7 (by decide)
    obtain ⟨d8, x8, y8⟩ := hE 8 (by decide)
    obtain ⟨d9, x9, y9⟩ := hE 9 (by decide)
    obtain ⟨d10, x10, y10⟩ := hE 10 (by decide)
    obtain ⟨d11, x11, y11⟩ := hE 11 (by decide)
    obtain ⟨d12, x12, y12⟩ := hE 12 (by decide)
    obtain ⟨d13, x13, y13⟩ := hE 13 (by decide)
    obtain ⟨d14, x14, y14⟩ := hE 14 (by decide)
    refine ⟨_, (pss_cons (ps_set (i := 1) scF.nd rfl (.inl rfl) (pe_lst (pa_cons (pe_lst (pa_cons (pe_xg (pe_ix ix_list (pv 0) pe_int (fun _ _ => rfl))) pa_nil)) (pa_cons (pe_lst (pa_cons (pe_xg (pe_ix ix_list (pv 0) pe_int (fun _ _ => rfl))) (pa_cons (pe_xg (pe_ix ix_list (pv 0) pe_int (fun _ _ => rfl))) pa_nil))) (pa_cons (pe_lst (pa_cons (pe_xg (pe_ix ix_list (pv 0) pe_int (fun _ _ => rfl))) (pa_cons (pe_xg (pe_ix ix_list (pv 0) pe_int (fun _ _ => rfl))) pa_nil))) (pa_cons (pe_lst (pa_cons (pe_xg (pe_ix ix_list (pv 0) pe_int (fun _ _ => rfl))) pa_nil)) pa_nil))))))
       (pss_cons (ps_set (i := 1) scF.nd rfl (.inl rfl) (pe_op op_cat (pv 1) (pe_lst (pa_cons (pe_lst (pa_cons (pe_xg (pe_ix ix_list (pv 0) pe_int (fun _ _ => rfl))) pa_nil)) (pa_cons (pe_lst (pa_cons (pe_xg (pe_ix ix_list (pv 0) pe_int (fun _ _ => rfl))) pa_nil)) (pa_cons (pe_lst (pa_cons (pe_xg (pe_ix ix_list (pv 0) pe_int (fun _ _ => rfl))) pa_nil)) (pa_cons (pe_lst (pa_cons (pe_xg (pe_ix ix_list (pv 0) pe_int (fun _ _ => rfl))) pa_nil)) (pa_cons (pe_lst (pa_cons (pe_xg (pe_ix ix_list (pv 0) pe_int (fun _ _ => rfl))) pa_nil)) (pa_cons (pe_lst (pa_cons (pe_xg (pe_ix ix_list (pv 0) pe_int (fun _ _ => rfl))) pa_nil)) pa_nil)))))))))
       (pss_cons (ps_set (i := 1) scF.nd rfl (.inl rfl) (pe_op op_cat (pv 1) (pe_lst (pa_cons (pe_lst (pa_cons (pe_xg (pe_ix ix_list (pv 0) pe_int (fun _ _ => rfl))) pa_nil)) (pa_cons (pe_lst (pa_cons (pe_xg (pe_ix ix_list (pv 0) pe_int (fun _ _ => rfl))) pa_nil)) (pa_cons (pe_lst (pa_cons (pe_xg (pe_ix ix_list (pv 0) pe_int (fun _ _ => rfl))) pa_nil)) (pa_cons (pe_lst (pa_cons (pe_xg (pe_ix ix_list (pv 0) pe_int (fun _ _ => rfl))) (pa_cons (pe_xg (pe_ix ix_list (pv 0) pe_int (fun _ _ => rfl))) pa_nil))) pa_nil)))))))
       (pss_one (ps_ret (pe_op op_cat (pv 1) (pe_lst (pa_cons (pe_lst (pa_cons (pe_xg (pe_ix ix_list (pv 0) pe_int (fun _ _ => rfl))) pa_nil)) pa_nil)))))))), ?_⟩
    have s0 : Same H H := Same.refl H
    refine ⟨_, rfl, p, _, _, _, rfl, rfl, .inl (.inl (s0 _ _ hp)), rfl, es 0, C 0, fI 0, d0, _, _, rfl, T.e0.o, T.e0.no, s0 _ _ x0, s0 _ _ y0, rfl, (by show 1 ≤ sizeLine; decide), fun r0 m0 => ?_⟩
    have v0 := same_upd (o := .lst [one]) m0
    have s1 := s0.trans v0
    refine ⟨_, rfl, p, _, _, _, rfl, rfl, .inl (.inl (s1 _ _ hp)), rfl, es 1, C 1, fI 1, d1, _, _, rfl, T.e1.o, T.e1.no, s1 _ _ x1, s1 _ _ y1, rfl, _, rfl, p, _, _, _, rfl, rfl, .inl (.inl (s1 _ _ hp)), rfl, es 1, C 1, fI 1, d1, _, _, rfl, T.e1.o, T.e1.no2, s1 _ _ x1, s1 _ _ y1, rfl, (by show 2 ≤ sizeLine; decide), fun r1 m1 => ?_⟩
    have v1 := same_upd (o := .lst [one, two]) m1
    have s2 := s1.trans v1
    refine ⟨_, rfl, p, _, _, _, rfl, rfl, .inl (.inl (s2 _ _ hp)), rfl, es 2, C 2, fI 2, d2, _, _, rfl, T.e2.o, T.e2.no, s2 _ _ x2, s2 _ _ y2, rfl, _, rfl, p, _, _, _, rfl, rfl, .inl (.inl (s2 _ _ hp)), rfl, es 2, C 2, fI 2, d2, _, _, rfl, T.e2.o, T.e2.no2, s2 _ _ x2, s2 _ _ y2, rfl, (by show 2 ≤ sizeLine; decide), fun r2 m2 => ?_⟩
    have v2 := same_upd (o := .lst [one, two]) m2
    have s3 := s2.trans v2
    refine ⟨_, rfl, p, _, _, _, rfl, rfl, .inl (.inl (s3 _ _ hp)), rfl, es 3, C 3, fI 3, d3, _, _, rfl, T.e3.o, T.e3.no, s3 _ _ x3, s3 _ _ y3, rfl, (by show 1 ≤ sizeLine; decide), fun r3 m3 => ?_⟩
    have v3 := same_upd (o := .lst [one]) m3
    have s4 := s3.trans v3
    refine ⟨(by show 4 ≤ sizeLine; decide), fun o4 m4 => ?_⟩
    have v4 := same_upd (o := .lst [.ref r0, .ref r1, .ref r2, .ref r3]) m4
    have s5 := s4.trans v4
    refine ⟨_, rfl, ?_⟩
    refine ⟨_, rfl, p, _, _, _, rfl, rfl, .inl (.inl (s5 _ _ hp)), rfl, es 4, C 4, fI 4, d4, _, _, rfl, T.e4.o, T.e4.no, s5 _ _ x4, s5 _ _ y4, rfl, (by show 1 ≤ sizeLine; decide), fun r5 m5 => ?_⟩
    have v5 := same_upd (o := .lst [one]) m5
    have s6 := s5.trans v5
    refine ⟨_, rfl, p, _, _, _, rfl, rfl, .inl (.inl (s6 _ _ hp)), rfl, es 5, C 5, fI 5, d5, _, _, rfl, T.e5.o, T.e5.no, s6 _ _ x5, s6 _ _ y5, rfl, (by show 1 ≤ sizeLine; decide), fun r6 m6 => ?_⟩
    have v6 := same_upd (o := .lst [one]) m6
    have s7 := s6.trans v6
    refine ⟨_, rfl, p, _, _, _, rfl, rfl, .inl (.inl (s7 _ _ hp)), rfl, es 6, C 6, fI 6, d6, _, _, rfl, T.e6.o, T.e6.no, s7 _ _ x6, s7 _ _ y6, rfl, (by show 1 ≤ sizeLine; decide), fun r7 m7 => ?_⟩
    have v7 := same_upd (o := .lst [one]) m7
    have s8 := s7.trans v7
    refine ⟨_, rfl, p, _, _, _, rfl, rfl, .inl (.inl (s8 _ _ hp)), rfl, es 7, C 7, fI 7, d7, _, _, rfl, T.e7.o, T.e7.no, s8 _ _ x7, s8 _ _ y7, rfl, (by show 1 ≤ sizeLine; decide), fun r8 m8 => ?_⟩
    have v8 := same_upd (o := .lst [one]) m8
    have s9 := s8.trans v8
    refine ⟨_, rfl, p, _, _, _, rfl, rfl, .inl (.inl (s9 _ _ hp)), rfl, es 8, C 8, fI 8, d8, _, _, rfl, T.e8.o, T.e8.no, s9 _ _ x8, s9 _ _ y8, rfl, (by show 1 ≤ sizeLine; decide), fun r9 m9 => ?_⟩
    have v9 := same_upd (o := .lst [one]) m9
    have s10 := s9.trans v9
    refine ⟨_, rfl, p, _, _, _, rfl, rfl, .inl (.inl (s10 _ _ hp)), rfl, es 9, C 9, fI 9, d9, _, _, rfl, T.e9.o, T.e9.no, s10 _ _ x9, s10 _ _ y9, rfl, (by show 1 ≤ sizeLine; decide), fun r10 m10 => ?_⟩
    have v10 := same_upd (o := .lst [one]) m10
    have s11 := s10.trans v10
    refine ⟨(by show 6 ≤ sizeLine; decide), fun o11 m11 => ?_⟩
    have v11 := same_upd (o := .lst [.ref r5, .ref r6, .ref r7, .ref r8, .ref r9, .ref r10]) m11
    have s12 := s11.trans v11
    refine ⟨_, _, _, _, rfl, rfl, ((((((v5.trans v6).trans v7).trans v8).trans v9).trans v10).trans v11) _ _ upd_same, upd_same, (show (10 : Nat) ≤ sizeLine by decide), fun o12 m12 => ?_⟩
    have v12 := same_upd (o := .lst ([.ref r0, .ref r1, .ref r2, .ref r3] ++ [.ref r5, .ref r6, .ref r7, .ref r8, .ref r9, .ref r10])) m12
    have s13 := s12.trans v12
    refine ⟨_, rfl, ?_⟩
    refine ⟨_, rfl, p, _, _, _, rfl, rfl, .inl (.inl (s13 _ _ hp)), rfl, es 10, C 10, fI 10, d10, _, _, rfl, T.e10.o, T.e10.no, s13 _ _ x10, s13 _ _ y10, rfl, (by show 1 ≤ sizeLine; decide), fun r13 m13 => ?_⟩
    have v13 := same_upd (o := .lst [one]) m13
    have s14 := s13.trans v13
    refine ⟨_, rfl, p, _, _, _, rfl, rfl, .inl (.inl (s14 _ _ hp)), rfl, es 11, C 11, fI 11, d11, _, _, rfl, T.e11.o, T.e11.no, s14 _ _ x11, s14 _ _ y11, rfl, (by show 1 ≤ sizeLine; decide), fun r14 m14 => ?_⟩
    have v14 := same_upd (o := .lst [one]) m14
    have s15 := s14.trans v14
    refine ⟨_, rfl, p, _, _, _, rfl, rfl, .inl (.inl (s15 _ _ hp)), rfl, es 12, C 12, fI 12, d12, _, _, rfl, T.e12.o, T.e12.no, s15 _ _ x12, s15 _ _ y12, rfl, (by show 1 ≤ sizeLine; decide), fun r15 m15 => ?_⟩
    have v15 := same_upd (o := .lst [one]) m15
    have s16 := s15.trans v15
    refine ⟨_, rfl, p, _, _, _, rfl, rfl, .inl (.inl (s16 _ _ hp)), rfl, es 13, C 13, fI 13, d13, _, _, rfl, T.e13.o, T.e13.no, s16 _ _ x13, s16 _ _ y13, rfl, _, rfl, p, _, _, _, rfl, rfl, .inl (.inl (s16 _ _ hp)), rfl, es 13, C 13, fI 13, d13, _, _, rfl, T.e13.o, T.e13.no2, s16 _ _ x13, s16 _ _ y13, rfl, (by show 2 ≤ sizeLine; decide), fun r16 m16 => ?_⟩
    have v16 := same_upd (o := .lst [one, two]) m16
    have s17 := s16.trans v16
    refine ⟨(by show 4 ≤ sizeLine; decide), fun o17 m17 => ?_⟩
    have v17 := same_upd (o := .lst [.ref r13, .ref r14, .ref r15, .ref r16]) m17
    have s18 := s17.trans v17
    refine ⟨_, _, _, _, rfl, rfl, ((((v13.trans v14).trans v15).trans v16).trans v17) _ _ upd_same, upd_same, (show (14 : Nat) ≤ sizeLine by decide), fun o18 m18 => ?_⟩
    have v18 := same_upd (o := .lst (([.ref r0, .ref r1, .ref r2, .ref r3] ++ [.ref r5, .ref r6, .ref r7, .ref r8, .ref r9, .ref r10]) ++ [.ref r13, .ref r14, .ref r15, .ref r16])) m18
    have s19 := s18.trans v18
    refine ⟨_, rfl, ?_⟩
    refine ⟨_, rfl, p, _, _, _, rfl, rfl, .inl (.inl (s19 _ _ hp)), rfl, es 14, C 14, fI 14, d14, _, _, rfl, T.e14.o, T.e14.no, s19 _ _ x14, s19 _ _ y14, rfl, (by show 1 ≤ sizeLine; decide), fun r19 m19 => ?_⟩
    have v19 := same_upd (o := .lst [one]) m19
    have s20 := s19.trans v19
    refine ⟨(by show 1 ≤ sizeLine; decide), fun o20 m20 => ?_⟩
    have v20 := same_upd (o := .lst [.ref r19]) m20
    have s21 := s20.trans v20
    refine ⟨_, _, _, _, rfl, rfl, (v19.trans v20) _ _ upd_same, upd_same, (show (15 : Nat) ≤ sizeLine by decide), fun o21 m21 => ?_⟩
    have v21 := same_upd (o := .lst ((([.ref r0, .ref r1, .ref r2, .ref r3] ++ [.ref r5, .ref r6, .ref r7, .ref r8, .ref r9, .ref r10]) ++ [.ref r13, .ref r14, .ref r15, .ref r16]) ++ [.ref r19])) m21
    have s22 := s21.trans v21
    have z21 := v21
    have z20 := v20.trans z21
    have z19 := v19.trans z20
    have z18 := v18.trans z19
    have z17 := v17.trans z18
    have z16 := v16.trans z17
    have z15 := v15.trans z16
    have z14 := v14.trans z15
    have z13 := v13.trans z14
    have z12 := v12.trans z13
    have z11 := v11.trans z12
    have z10 := v10.trans z11
    have z9 := v9.trans z10
    have z8 := v8.trans z9
    have z7 := v7.trans z8
    have z6 := v6.trans z7
    have z5 := v5.trans z6
    have z4 := v4.trans z5
    have z3 := v3.trans z4
    have z2 := v2.trans z3
    have z1 := v1.trans z2
    have z0 := v0.trans z1
    exact q _ _ s22 ⟨_, upd_same, (.cons (z1 _ _ upd_same) (.cons (z2 _ _ upd_same) (.cons (z3 _ _ upd_same) (.cons (z4 _ _ upd_same) (.cons (z6 _ _ upd_same) (.cons (z7 _ _ upd_same) (.cons (z8 _ _ upd_same) (.cons (z9 _ _ upd_same) (.cons (z10 _ _ upd_same) (.cons (z11 _ _ upd_same) (.cons (z14 _ _ upd_same) (.cons (z15 _ _ upd_same) (.cons (z16 _ _ upd_same) (.cons (z17 _ _ upd_same) (.cons (z20 _ _ upd_same) .nil)))))))))))))))⟩
abbrev sKi : Stmt := top 22
theorem scKi : FnScope ["_law_e", "_law_some"] ["_law_e"] (defScope sKi) := ⟨rfl, rfl, rfl, by decide +kernel, rfl, by decide +kernel, by decide +kernel⟩
theorem ok_Ki {f : Addr} {fd : FuncData} (F : Fun K "_law_kinds" "_law_kinds" sKi f fd) (T : Cl P w K mg base C fI) (Z : Kit K C D) (m_isinstance : mg "isinstance" = none) : FnOk P w K mg base CX0 1 f fd ["_law_e"] (spKinds C) := by
  refine F.ok scKi (fun vs H Q E h => ?_) (fun cdv A outer s H vs Q E hr h => ?_)
  · obtain ⟨a, i, rfl, _⟩ := h
    rfl
  · obtain ⟨a, i, rfl, ⟨hi, d, fs, ea, ed⟩, q⟩ := h
    have To := T.oex i hi
    refine ⟨_, (pss_cons (ps_set (i := 1) scKi.nd rfl (.inl rfl) (pe_lst (pa_cons (pe_callB call_isG (by rfl) m_isinstance (by decide +kernel) (pa_cons (pv 0) (pa_cons (pe_glob (v := .ref (C 0)) rfl T.e0.g rfl) pa_nil))) (pa_cons (pe_callB call_isG (by rfl) m_isinstance (by decide +kernel) (pa_cons (pv 0) (pa_cons (pe_glob (v := .ref (C 1)) rfl T.e1.g rfl) pa_nil))) (pa_cons (pe_callB call_isG (by rfl) m_isinstance (by decide +kernel) (pa_cons (pv 0) (pa_cons (pe_glob (v := .ref (C 2)) rfl T.e2.g rfl) pa_nil))) pa_nil)))))
       (pss_cons (ps_set (i := 1) scKi.nd rfl (.inl rfl) (pe_op op_cat (pv 1) (pe_lst (pa_cons (pe_callB call_isG (by rfl) m_isinstance (by decide +kernel) (pa_cons (pv 0) (pa_cons (pe_glob (v := .ref (C 3)) rfl T.e3.g rfl) pa_nil))) (pa_cons (pe_callB call_isG (by rfl) m_isinstance (by decide +kernel) (pa_cons (pv 0) (pa_cons (pe_glob (v := .ref (C 4)) rfl T.e4.g rfl) pa_nil))) (pa_cons (pe_callB call_isG (by rfl) m_isinstance (by decide +kernel) (pa_cons (pv 0) (pa_cons (pe_glob (v := .ref (C 5)) rfl T.e5.g rfl) pa_nil))) pa_nil))))))
       (pss_cons (ps_set (i := 1) scKi.nd rfl (.inl rfl) (pe_op op_cat (pv 1) (pe_lst (pa_cons (pe_callB call_isG (by rfl) m_isinstance (by decide +kernel) (pa_cons (pv 0) (pa_cons (pe_glob (v := .ref (C 6)) rfl T.e6.g rfl) pa_nil))) (pa_cons (pe_callB call_isG (by rfl) m_isinstance (by decide +kernel) (pa_cons (pv 0) (pa_cons (pe_glob (v := .ref (C 7)) rfl T.e7.g rfl) pa_nil))) (pa_cons (pe_callB call_isG (by rfl) m_isinstance (by decide +kernel) (pa_cons (pv 0) (pa_cons (pe_glob (v := .ref (C 8)) rfl T.e8.g rfl) pa_nil))) pa_nil))))))
       (pss_cons (ps_set (i := 1) scKi.nd rfl (.inl rfl) (pe_op op_cat (pv 1) (pe_lst (pa_cons (pe_callB call_isG (by rfl) m_isinstance (by decide +kernel) (pa_cons (pv 0) (pa_cons (pe_glob (v := .ref (C 9)) rfl T.e9.g rfl) pa_nil))) (pa_cons (pe_callB call_isG (by rfl) m_isinstance (by decide +kernel) (pa_cons (pv 0) (pa_cons (pe_glob (v := .ref (C 10)) rfl T.e10.g rfl) pa_nil))) (pa_cons (pe_callB call_isG (by rfl) m_isinstance (by decide +kernel) (pa_cons (pv 0) (pa_cons (pe_glob (v := .ref (C 11)) rfl T.e11.g rfl) pa_nil))) pa_nil))))))
       (pss_one (ps_ret (pe_op op_cat (pv 1) (pe_lst (pa_cons (pe_callB call_isG (by rfl) m_isinstance (by decide +kernel) (pa_cons (pv 0) (pa_cons (pe_glob (v := .ref (C 12)) rfl T.e12.g rfl) pa_nil))) (pa_cons (pe_callB call_isG (by rfl) m_isinstance (by decide +kernel) (pa_cons (pv 0) (pa_cons (pe_glob (v := .ref (C 13)) rfl T.e13.g rfl) pa_nil))) (pa_cons (pe_callB call_isG (by rfl) m_isinstance (by decide +kernel) (pa_cons (pv 0) (pa_cons (pe_glob (v := .ref (C 14)) rfl T.e14.g rfl) pa_nil))) pa_nil))))))))))), ?_⟩
    have s0 : Same H H := Same.refl H
    refine ⟨_, rfl, a, C i, fI i, d, fs, .ref (C 0), _, _, rfl, .own _, To, s0 _ _ ea, s0 _ _ ed, Z.own i 0 hi (by decide), _, rfl, a, C i, fI i, d, fs, .ref (C 1), _, _, rfl, .own _, To, s0 _ _ ea, s0 _ _ ed, Z.own i 1 hi (by decide), _, rfl, a, C i, fI i, d, fs, .ref (C 2), _, _, rfl, .own _, To, s0 _ _ ea, s0 _ _ ed, Z.own i 2 hi (by decide), (by show 3 ≤ sizeLine; decide), fun o0 m0 => ?_⟩
    have v0 := same_upd (o := .lst [.bl (decide (i = 0)), .bl (decide (i = 1)), .bl (decide (i = 2))]) m0
    have s1 := s0.trans v0
    refine ⟨_, rfl, ?_⟩
    refine ⟨_, rfl, a, C i, fI i, d, fs, .ref (C 3), _, _, rfl, .own _, To, s1 _ _ ea, s1 _ _ ed, Z.own i 3 hi (by decide), _, rfl, a, C i, fI i, d, fs, .ref (C 4), _, _, rfl, .own _, To, s1 _ _ ea, s1 _ _ ed, Z.own i 4 hi (by decide), _, rfl, a, C i, fI i, d, fs, .ref (C 5), _, _, rfl, .own _, To, s1 _ _ ea, s1 _ _ ed, Z.own i 5 hi (by decide), (by show 3 ≤ sizeLine; decide), fun o1 m1 => ?_⟩
    have v1 := same_upd (o := .lst [.bl (decide (i = 3)), .bl (decide (i = 4)), .bl (decide (i = 5))]) m1
    have s2 := s1.trans v1
    refine ⟨_, _, _, _, rfl, rfl, v1 _ _ upd_same, upd_same, (show (6 : Nat) ≤ sizeLine by decide), fun o2 m2 => ?_⟩
    have v2 := same_upd (o := .lst ([.bl (decide (i = 0)), .bl (decide (i = 1)), .bl (decide (i = 2))] ++ [.bl (decide (i = 3)), .bl (decide (i = 4)), .bl (decide (i = 5))])) m2
    have s3 := s2.trans v2
    refine ⟨_, rfl, ?_⟩
    refine ⟨_, rfl, a, C i, fI i, d, fs, .ref (C 6), _, _, rfl, .own _, To, s3 _ _ ea, s3 _ _ ed, Z.own i 6 hi (by decide), _, rfl, a, C i, fI i, d, fs, .ref (C 7), _, _, rfl, .own _, To, s3 _ _ ea, s3 _ _ ed, Z.own i 7 hi (by decide), _, rfl, a, C i, fI i, d, fs, .ref (C 8), _, _, rfl, .own _, To, s3 _ _ ea, s3 _ _ ed, Z.own i 8 hi (by decide), (by show 3 ≤ sizeLine; decide), fun o3 m3 => ?_⟩
    have v3 := same_upd (o := .lst [.bl (decide (i = 6)), .bl (decide (i = 7)), .bl (decide (i = 8))]) m3
    have s4 := s3.trans v3
    refine ⟨_, _, _, _, rfl, rfl, v3 _ _ upd_same, upd_same, (show (9 : Nat) ≤ sizeLine by decide), fun o4 m4 => ?_⟩
    have v4 := same_upd (o := .lst (([.bl (decide (i = 0)), .bl (decide (i = 1)), .bl (decide (i = 2))] ++ [.bl (decide (i = 3)), .bl (decide (i = 4)), .bl (decide (i = 5))]) ++ [.bl (decide (i = 6)), .bl (decide (i = 7)), .bl (decide (i = 8))])) m4
    have s5 := s4.trans v4
    refine ⟨_, rfl, ?_⟩
    refine ⟨_, rfl, a, C i, fI i, d, fs, .ref (C 9), _, _, rfl, .own _, To, s5 _ _ ea, s5 _ _ ed, Z.own i 9 hi (by decide), _, rfl, a, C i, fI i, d, fs, .ref (C 10), _, _, rfl, .own _, To, s5 _ _ ea, s5 _ _ ed, Z.own i 10 hi (by decide), _, rfl, a, C i, fI i, d, fs, .ref (C 11), _, _, rfl, .own _, To, s5 _ _ ea, s5 _ _ ed, Z.own i 11 hi (by decide), (by show 3 ≤ sizeLine; decide), fun o5 m5 => ?_⟩
    have v5 := same_upd (o := .lst [.bl (decide (i = 9)), .bl (decide (i = 10)), .bl (decide (i = 11))]) m5
    have s6 := s5.trans v5
    refine ⟨_, _, _, _, rfl, rfl, v5 _ _ upd_same, upd_same, (show (12 : Nat) ≤ sizeLine by decide), fun o6 m6 => ?_⟩
    have v6 := same_upd (o := .lst ((([.bl (decide (i = 0)), .bl (decide (i = 1)), .bl (decide (i = 2))] ++ [.bl (decide (i = 3)), .bl (decide (i = 4)), .bl (decide (i = 5))]) ++ [.bl (decide (i = 6)), .bl (decide (i = 7)), .bl (decide (i = 8))]) ++ [.bl (decide (i = 9)), .bl (decide (i = 10)), .bl (decide (i = 11))])) m6
    have s7 := s6.trans v6
    refine ⟨_, rfl, ?_⟩
    refine ⟨_, rfl, a, C i, fI i, d, fs, .ref (C 12), _, _, rfl, .own _, To, s7 _ _ ea, s7 _ _ ed, Z.own i 12 hi (by decide), _, rfl, a, C i, fI i, d, fs, .ref (C 13), _, _, rfl, .own _, To, s7 _ _ ea, s7 _ _ ed, Z.own i 13 hi (by decide), _, rfl, a, C i, fI i, d, fs, .ref (C 14), _, _, rfl, .own _, To, s7 _ _ ea, s7 _ _ ed, Z.own i 14 hi (by decide), (by show 3 ≤ sizeLine; decide), fun o7 m7 => ?_⟩
    have v7 := same_upd (o := .lst [.bl (decide (i = 12)), .bl (decide (i = 13)), .bl (decide (i = 14))]) m7
    have s8 := s7.trans v7
    refine ⟨_, _, _, _, rfl, rfl, v7 _ _ upd_same, upd_same, (show (15 : Nat) ≤ sizeLine by decide), fun o8 m8 => ?_⟩
    have v8 := same_upd (o := .lst (((([.bl (decide (i = 0)), .bl (decide (i = 1)), .bl (decide (i = 2))] ++ [.bl (decide (i = 3)), .bl (decide (i = 4)), .bl (decide (i = 5))]) ++ [.bl (decide (i = 6)), .bl (decide (i = 7)), .bl (decide (i = 8))]) ++ [.bl (decide (i = 9)), .bl (decide (i = 10)), .bl (decide (i = 11))]) ++ [.bl (decide (i = 12)), .bl (decide (i = 13)), .bl (decide (i = 14))])) m8
    have s9 := s8.trans v8
    exact q _ _ s9 upd_same
abbrev sBa : Stmt := top 23
theorem scBa : FnScope ["_law_e", "_law_some"] ["_law_e"] (defScope sBa) := ⟨rfl, rfl, rfl, by decide +kernel, rfl, by decide +kernel, by decide +kernel⟩
theorem ok_Ba {f : Addr} {fd : FuncData} (F : Fun K "_law_bases" "_law_bases" sBa f fd) (T : Cl P w K mg base C fI) (Z : Kit K C D) (m_isinstance : mg "isinstance" = none) (gD : mg "DownError" = some (.ref D)) (m_ValueError : mg "ValueError" = none) (m_OverflowError : mg "OverflowError" = none) (m_LookupError : mg "LookupError" = none) (m_RuntimeError : mg "RuntimeError" = none) (m_KeyError : mg "KeyError" = none) : FnOk P w K mg base CX0 1 f fd ["_law_e"] (spBases C) := by
  refine F.ok scBa (fun vs H Q E h => ?_) (fun cdv A outer s H vs Q E hr h => ?_)
  · obtain ⟨a, i, rfl, _⟩ := h
    rfl
  · obtain ⟨a, i, rfl, ⟨hi, d, fs, ea, ed⟩, q⟩ := h
    have To := T.oex i hi
    refine ⟨_, (pss_cons (ps_set (i := 1) scBa.nd rfl (.inl rfl) (pe_lst (pa_cons (pe_callB call_isG (by rfl) m_isinstance (by decide +kernel) (pa_cons (pv 0) (pa_cons (pe_glob (v := .ref D) rfl gD rfl) pa_nil))) (pa_cons (pe_callB call_isG (by rfl) m_isinstance (by decide +kernel) (pa_cons (pv 0) (pa_cons (pe_bltn (v := .ty "ValueError") (by rfl) m_ValueError (by decide +kernel) rfl) pa_nil))) (pa_cons (pe_callB call_isG (by rfl) m_isinstance (by decide +kernel) (pa_cons (pv 0) (pa_cons (pe_bltn (v := .ty "OverflowError") (by rfl) m_OverflowError (by decide +kernel) rfl) pa_nil))) pa_nil)))))
       (pss_one (ps_ret (pe_op op_cat (pv 1) (pe_lst (pa_cons (pe_callB call_isG (by rfl) m_isinstance (by decide +kernel) (pa_cons (pv 0) (pa_cons (pe_bltn (v := .ty "LookupError") (by rfl) m_LookupError (by decide +kernel) rfl) pa_nil))) (pa_cons (pe_callB call_isG (by rfl) m_isinstance (by decide +kernel) (pa_cons (pv 0) (pa_cons (pe_bltn (v := .ty "RuntimeError") (by rfl) m_RuntimeError (by decide +kernel) rfl) pa_nil))) (pa_cons (pe_callB call_isG (by rfl) m_isinstance (by decide +kernel) (pa_cons (pv 0) (pa_cons (pe_bltn (v := .ty "KeyError") (by rfl) m_KeyError (by decide +kernel) rfl) pa_nil))) pa_nil)))))))), ?_⟩
    have s0 : Same H H := Same.refl H
    refine ⟨_, rfl, a, C i, fI i, d, fs, .ref D, _, _, rfl, .own _, To, s0 _ _ ea, s0 _ _ ed, Z.down i hi, _, rfl, a, C i, fI i, d, fs, .ty "ValueError", _, _, rfl, .ty _, To, s0 _ _ ea, s0 _ _ ed, Z.val i hi, _, rfl, a, C i, fI i, d, fs, .ty "OverflowError", _, _, rfl, .ty _, To, s0 _ _ ea, s0 _ _ ed, Z.ovf i hi, (by show 3 ≤ sizeLine; decide), fun o0 m0 => ?_⟩
    have v0 := same_upd (o := .lst [.bl (decide (i < 10)), .bl (decide (i = 10)), .bl (decide (i = 11))]) m0
    have s1 := s0.trans v0
    refine ⟨_, rfl, ?_⟩
    refine ⟨_, rfl, a, C i, fI i, d, fs, .ty "LookupError", _, _, rfl, .ty _, To, s1 _ _ ea, s1 _ _ ed, Z.lku i hi, _, rfl, a, C i, fI i, d, fs, .ty "RuntimeError", _, _, rfl, .ty _, To, s1 _ _ ea, s1 _ _ ed, Z.run i hi, _, rfl, a, C i, fI i, d, fs, .ty "KeyError", _, _, rfl, .ty _, To, s1 _ _ ea, s1 _ _ ed, Z.key i hi, (by show 3 ≤ sizeLine; decide), fun o1 m1 => ?_⟩
    have v1 := same_upd (o := .lst [.bl (decide (i = 12)), .bl (decide (i = 13 ∨ i = 14)), .bl false]) m1
    have s2 := s1.trans v1
    refine ⟨_, _, _, _, rfl, rfl, v1 _ _ upd_same, upd_same, (show (6 : Nat) ≤ sizeLine by decide), fun o2 m2 => ?_⟩
    have v2 := same_upd (o := .lst ([.bl (decide (i < 10)), .bl (decide (i = 10)), .bl (decide (i = 11))] ++ [.bl (decide (i = 12)), .bl (decide (i = 13 ∨ i = 14)), .bl false])) m2
    have s3 := s2.trans v2
    exact q _ _ s3 upd_same
end
end Lw
/-! K4 -/
namespace Lw
open PySem PySem.Spec PyProof.Rows L2
/-! ### data that is shown -/
def Good (d : PyData) : Prop := d.leavesShort 2000 = true ∧ d.showable = true ∧ d.depth ≤ 5 ∧ d.weight ≤ 200
section
variable {K : PySem.W.Frag} {H H' : Hp}
theorem sqT_same {a : Addr} {xs : List V} (s : Same H H') (h : SqT K H a xs) : SqT K H' a xs := by
  rcases h with (h | ⟨o, h⟩) | h
  · exact .inl (.inl (s _ _ h))
  · exact .inl (.inr ⟨o, s _ _ h⟩)
  · exact .inr h
mutual
theorem dq_same (s : Same H H') : ∀ (d : PyData) (v : V), Dq K H v d → Dq K H' v d
  | .none, _, h => by cases h; exact .non
  | .bool _, _, h => by cases h; exact .bl _
  | .int _, _, h => by cases h; exact .int _
  | .str _, _, h => by cases h; exact .str _
  | .list ds, _, h => by
    cases h with
    | lst h1 h2 => exact .lst (s.seq h1) (dqs_same s ds _ h2)
  | .tuple ds, _, h => by
    cases h with
    | tup h1 h2 => exact .tup (sqT_same s h1) (dqs_same s ds _ h2)
  | .dict _, _, h => by
    cases h with
    | dic h1 => exact .dic (s _ _ h1)
theorem dqs_same (s : Same H H') : ∀ (ds : List PyData) (vs : List V), DqAll K H vs ds → DqAll K H' vs ds
  | [], _, h => by cases h; exact .nil
  | d :: ds, _, h => by
    cases h with
    | cons h1 h2 => exact .cons (dq_same s d _ h1) (dqs_same s ds _ h2)
end
theorem rows_same (s : Same H H') : ∀ {vs : List V} {rs : List (List V)}, RowsAt H vs rs → RowsAt H' vs rs
  | _, _, .nil => .nil
  | _, _, .cons e r => .cons (s _ _ e) (rows_same s r)
theorem rows_dq : ∀ {vs : List V} {rs : List (List V)} {ds : List (List PyData)}, RowsAt H vs rs → Paired (DqAll K H) rs ds → DqAll K H vs (ds.map PyData.list)
  | _, _, _, .nil, .nil => .nil
  | _, _, _, .cons e r, .cons d ds => .cons (.lst (.inl (.inl e)) d) (rows_dq r ds)
end
theorem good_int {i : Int} (h : i.natAbs < 2 ^ 150) : Good (.int i) := by
  have l : i.natAbs.log2 < 1920 := Nat.lt_of_lt_of_le (PySem.Flt.log2_lt_of (by decide) h) (by decide)
  have l2 : i.natAbs.log2 < 150 := PySem.Flt.log2_lt_of (by decide) h
  refine ⟨?_, ?_, by simp [PyData.depth], by simp only [PyData.weight]; split <;> omega⟩
  · simp only [PyData.leavesShort, PyData.shown]
    exact decide_eq_true (Nat.le_trans (int_text_len_1921 l) (by decide))
  · simpa [PyData.showable] using l
theorem good_non : Good .none := ⟨rfl, rfl, by decide, by decide⟩
theorem good_bl (b : Bool) : Good (.bool b) := ⟨rfl, rfl, by cases b <;> decide, by cases b <;> decide⟩
def rowsD (d e : PyData) : List (List PyData) := [[d], [d, e], [d, e], [d], [d], [d], [d], [d], [d], [d], [d], [d], [d], [d, e], [d]]
theorem rows_shown {d e : PyData} (g : Good d) (h : Good e) : PyData.showableAll ((rowsD d e).map PyData.list) = true ∧ PyData.depthAll ((rowsD d e).map PyData.list) ≤ 40 ∧ (PyData.list ((rowsD d e).map PyData.list)).shown.length ≤ sizeLine := by
  obtain ⟨g1, g2, g3, g4⟩ := g
  obtain ⟨h1, h2, h3, h4⟩ := h
  refine ⟨?_, ?_, ?_⟩
  · simp [rowsD, PyData.showableAll, PyData.showable, g2, h2]
  · simp only [rowsD, List.map, PyData.depthAll, PyData.depth]
    omega
  · have l : (PyData.list ((rowsD d e).map PyData.list)).leavesShort 2000 = true := by simp [rowsD, PyData.leavesShortAll, PyData.leavesShort, g1, h1]
    have w : (PyData.list ((rowsD d e).map PyData.list)).weight ≤ 4000 := by
      simp only [rowsD, List.map, PyData.weightAll, PyData.weight]
      omega
    have z := PyData.shown_le 2000 (by decide) _ l
    rw [sizeLine_eq]
    omega
theorem rows_pair {K : PySem.W.Frag} {H : Hp} {one two : V} {d e : PyData} (h1 : Dq K H one d) (h2 : Dq K H two e) : Paired (DqAll K H) (rowsOf one two) (rowsD d e) := by
  have a : DqAll K H [one] [d] := .cons h1 .nil
  have b : DqAll K H [one, two] [d, e] := .cons h1 (.cons h2 .nil)
  exact .cons a (.cons b (.cons b (.cons a (.cons a (.cons a (.cons a (.cons a (.cons a (.cons a (.cons a (.cons a (.cons a (.cons b (.cons a .nil))))))))))))))
theorem drawn3 {ns : List Int} {p q r : Int} (h : Drawn [p, q, r] ns) : ∃ x y z, ns = [x, y, z] ∧ (0 ≤ x ∧ x < p) ∧ (0 ≤ y ∧ y < q) ∧ (0 ≤ z ∧ z < r) := by
  obtain ⟨l, h⟩ := h
  match ns, l with
  | [x, y, z], _ =>
    obtain ⟨_, e0, a0⟩ := h 0 p rfl
    obtain ⟨_, e1, a1⟩ := h 1 q rfl
    obtain ⟨_, e2, a2⟩ := h 2 r rfl
    cases e0
    cases e1
    cases e2
    exact ⟨x, y, z, rfl, a0, a1, a2⟩
/-- for i, x in enumerate(list) -/
theorem for_enum {K : PySem.W.Frag} {a : Addr} {xs : List V} {g : TG} {tb : TS} {D : Ends} {σ : L2.St} {H : Hp} (Pv : Nat → L2.St → Hp → Prop) (h0 : Pv 0 σ H) (hl : ∀ i σ H, i ≤ xs.length → Pv i σ H → SqL K H a xs)
    (hs : ∀ i x σ H T, xs[i]? = some x → Pv i σ H → H T = none → g (.ref T) σ (upd H T (.tup [.int (i : Nat), x])) fun σ2 H2 => tb { D with nx := Pv (i + 1), ct := Pv (i + 1), bk := D.nx } σ2 H2) (hd : ∀ σ H, Pv xs.length σ H → D.nx σ H) :
    ∃ W : Nat → Nat → L2.St → Hp → Prop, (∃ m, W 0 m σ H) ∧ ∀ i m σ H, W i m σ H →
      ((Ite K a).stop i H ∧ D.nx σ H) ∨ ((Ite K a).go i H ∧ ∃ N : L2.St → Hp → Prop, (∀ σ' H', N σ' H' → ∃ m', m' < m ∧ W (i + 1) m' σ' H') ∧ ∀ x H', (Ite K a).yld i H x H' → g x σ H' fun σ2 H2 => tb { D with nx := N, ct := N, bk := D.nx } σ2 H2) := by
  refine ⟨fun i m σ H => m = xs.length - i ∧ i ≤ xs.length ∧ Pv i σ H, ⟨xs.length, by simp, Nat.zero_le _, h0⟩, ?_⟩
  rintro i m σ H ⟨rfl, hi, p⟩
  have q := hl i σ H hi p
  by_cases hlt : i < xs.length
  · refine .inr ⟨⟨xs, xs[i], q, by simp [hlt]⟩, Pv (i + 1), fun σ' H' p' => ⟨xs.length - (i + 1), by omega, rfl, hlt, p'⟩, fun v H' y => ?_⟩
    obtain ⟨T, x, rfl, nT, rfl, hx⟩ := y
    exact hs i x σ H T (hx xs q) p nT
  · have e : i = xs.length := by omega
    subst e
    exact .inl ⟨⟨xs, q, Nat.le_refl _⟩, hd σ H p⟩
end Lw
/-! K5 -/
namespace Lw
open PySem PySem.Spec PyProof.Rows L2
abbrev sL : Stmt := top 24
theorem scL : FnScope ["_law_script", "_law_k", "_law_cell", "_law_way", "_law_great", "_law_other", "_law_one", "_law_two", "_law_due", "_law_some", "_law_at", "_law_e", "_law_other_at"] ["_law_script"] (defScope sL) := ⟨rfl, rfl, rfl, by decide +kernel, rfl, by decide +kernel, by decide +kernel⟩
def sp_law (K : PySem.W.Frag) : Sp := fun vs H Q _ => ∃ (a : Addr) (ns : List Int), vs = [.ref a] ∧ SqL K H a (ns.map V.int) ∧ ns.length ≤ 63 ∧ ∀ H', Q (.bl true) H'
/-- a def as the law calls it -/
def Called (K : PySem.W.Frag) (mg : Str → Option Value) (x : Str) (ps : List Str) (f : Addr) (fd : FuncData) : Prop := mg x = some (.ref f) ∧ PySem.W.keepIn K (.ref f) = true ∧ Binds K fd ps []
theorem good_str {x : Str} (h1 : (PyData.str x).leavesShort 2000 = true) (h2 : (PyData.str x).weight ≤ 200) : Good (.str x) := ⟨h1, rfl, by show 0 ≤ 5; decide, h2⟩
theorem good_tup1 {i : Int} (h : i.natAbs < 2 ^ 140) : Good (.tuple [.int i]) := by
  obtain ⟨h1, h2, h3, h4⟩ := good_int (Nat.lt_of_lt_of_le h (by decide))
  have l2 : i.natAbs.log2 < 140 := PySem.Flt.log2_lt_of (by decide) h
  refine ⟨by simp only [PyData.leavesShort, PyData.leavesShortAll, Bool.and_true] at h1 ⊢; exact h1, by simp only [PyData.showable, PyData.showableAll, Bool.and_true] at h2 ⊢; exact h2, by simp [PyData.depth, PyData.depthAll], ?_⟩
  simp only [PyData.weight, PyData.weightAll]
  split <;> omega
theorem good_tup2 {i : Int} (h : i.natAbs < 2 ^ 140) : Good (.tuple [.int i, .str "a"]) := by
  obtain ⟨h1, h2, h3, h4⟩ := good_int (Nat.lt_of_lt_of_le h (by decide))
  have l2 : i.natAbs.log2 < 140 := PySem.Flt.log2_lt_of (by decide) h
  have e1 : (PyData.str "a").leavesShort 2000 = true := by decide +kernel
  have e2 : (PyData.str "a").weight ≤ 20 := by decide +kernel
  refine ⟨by simp only [PyData.leavesShort, PyData.leavesShortAll, Bool.and_true, Bool.and_eq_true] at h1 e1 ⊢; exact ⟨h1, e1⟩, by simp only [PyData.showable, PyData.showableAll, Bool.and_true] at h2 ⊢; exact h2, by simp [PyData.depth, PyData.depthAll], ?_⟩
  simp only [PyData.weight, PyData.weightAll] at e2 ⊢
  split <;> omega
def kindsD (k : Nat) : List PyData := [.bool (decide (k = 0)), .bool (decide (k = 1)), .bool (decide (k = 2)), .bool (decide (k = 3)), .bool (decide (k = 4)), .bool (decide (k = 5)), .bool (decide (k = 6)), .bool (decide (k = 7)), .bool (decide (k = 8)), .bool (decide (k = 9)), .bool (decide (k = 10)), .bool (decide (k = 11)), .bool (decide (k = 12)), .bool (decide (k = 13)), .bool (decide (k = 14))]
def basesD (k : Nat) : List PyData := [.bool (decide (k < 10)), .bool (decide (k = 10)), .bool (decide (k = 11)), .bool (decide (k = 12)), .bool (decide (k = 13 ∨ k = 14)), .bool false]
theorem kinds_list (k : Nat) (hk : k < 15) : (List.range 15).map (fun j : Nat => V.bl (decide (V.int (0 + (j : Int)) = V.int (k : Int)))) = kindsOf k := by
  have h : k = 0 ∨ k = 1 ∨ k = 2 ∨ k = 3 ∨ k = 4 ∨ k = 5 ∨ k = 6 ∨ k = 7 ∨ k = 8 ∨ k = 9 ∨ k = 10 ∨ k = 11 ∨ k = 12 ∨ k = 13 ∨ k = 14 := by omega
  rcases h with rfl | rfl | rfl | rfl | rfl | rfl | rfl | rfl | rfl | rfl | rfl | rfl | rfl | rfl | rfl <;> decide +kernel
theorem bases_list (k : Nat) (hk : k < 15) : [V.bl (decide ((k : Int) < 10)), V.bl (decide (V.int (k : Int) = V.int 10)), V.bl (decide (V.int (k : Int) = V.int 11)), V.bl (decide (V.int (k : Int) = V.int 12)), V.bl (inV (V.int (k : Int)) [V.int 13, V.int 14]), V.bl false] = basesOf k := by
  have h : k = 0 ∨ k = 1 ∨ k = 2 ∨ k = 3 ∨ k = 4 ∨ k = 5 ∨ k = 6 ∨ k = 7 ∨ k = 8 ∨ k = 9 ∨ k = 10 ∨ k = 11 ∨ k = 12 ∨ k = 13 ∨ k = 14 := by omega
  rcases h with rfl | rfl | rfl | rfl | rfl | rfl | rfl | rfl | rfl | rfl | rfl | rfl | rfl | rfl | rfl <;> decide +kernel
theorem l15_get {es : Nat → Addr} {k : Nat} {x : V} (h : (L15 es)[k]? = some x) : k < 15 ∧ x = .ref (es k) := by
  have hk : k < 15 := (List.getElem?_eq_some_iff.mp h).1
  refine ⟨hk, ?_⟩
  have e : k = 0 ∨ k = 1 ∨ k = 2 ∨ k = 3 ∨ k = 4 ∨ k = 5 ∨ k = 6 ∨ k = 7 ∨ k = 8 ∨ k = 9 ∨ k = 10 ∨ k = 11 ∨ k = 12 ∨ k = 13 ∨ k = 14 := by omega
  rcases e with rfl | rfl | rfl | rfl | rfl | rfl | rfl | rfl | rfl | rfl | rfl | rfl | rfl | rfl | rfl <;> exact (Option.some.inj h).symm
section
variable {P : Program} {w : World} {K : PySem.W.Frag} {mg : Str → Option Value} {base : Heap} {C fI : Nat → Addr} {D : Addr}
theorem ints_of_cut (ns : List Int) (k : Nat) : ∃ ms : List Int, cutV (ns.map V.int) none (some 6) ++ (List.replicate k [V.int 7]).flatten = ms.map V.int ∧ ms.length ≤ ns.length + k := by
  refine ⟨((ns.drop (HT.sIx ns.length 0 none)).take (HT.sIx ns.length ns.length (some 6) - HT.sIx ns.length 0 none)) ++ List.replicate k 7, ?_, ?_⟩
  · unfold cutV
    rw [List.map_append, List.length_map, List.map_take, List.map_drop]
    congr 1
    induction k with
    | zero => rfl
    | succ k ih => rw [List.replicate_succ, List.flatten_cons, ih]; rfl
  · rw [List.length_append, List.length_replicate, List.length_take, List.length_drop]
    omega
theorem shaped_ints (ns : List Int) : SeqAt.shaped (.list (ns.map PyData.int)) = true := by
  have a : PyData.canLayAll0 (ns.map PyData.int) = true := by
    induction ns with
    | nil => rfl
    | cons n r ih => simp only [List.map, PyData.canLayAll0, PyData.canLay0, Bool.true_and]; exact ih
  have b : PyData.depthAll (ns.map PyData.int) = 0 := by
    induction ns with
    | nil => rfl
    | cons n r ih =>
      simp only [List.map, PyData.canLayAll0, PyData.canLay0, Bool.true_and] at a
      simp only [List.map, PyData.depthAll, PyData.depth, ih a]
      rfl
  unfold SeqAt.shaped
  simp only [PyData.canLay0, PyData.depth, a, b]
  decide
theorem dp_ints {H : Hp} : ∀ ns : List Int, DpAll K H (ns.map V.int) (ns.map PyData.int)
  | [] => .nil
  | _ :: r => .cons (.int _) (dp_ints r)
theorem ok_law {f fN fM fNm fF fKi fBa : Addr} {fd fdN fdM fdNm fdF fdKi fdBa : FuncData} (F : Fun K "law" "law" sL f fd) (T : Cl P w K mg base C fI) (Z : Kit K C D) (ze3 : PySem.W.kitOne K (.ref (C 3)) (.type "Exception") = some true) (ze13 : PySem.W.kitOne K (.ref (C 13)) (.type "Exception") = some true)
    (GN : FnOk P w K mg base CX0 1 fN fdN ["_law_cell", "_law_salt", "_law_sizes"] (spNum K)) (TN : Called K mg "_law_numbers" ["_law_cell", "_law_salt", "_law_sizes"] fN fdN)
    (GM : FnOk P w K mg base CX0 3 fM fdM ["_law_one", "_law_two"] (spMade C)) (TM : Called K mg "_law_made" ["_law_one", "_law_two"] fM fdM)
    (GNm : FnOk P w K mg base CX0 3 fNm fdNm ["_law_one", "_law_two"] (spMade C)) (TNm : Called K mg "_law_named" ["_law_one", "_law_two"] fNm fdNm)
    (GF : FnOk P w K mg base CX0 1 fF fdF ["_law_some"] (spFields C)) (TF : Called K mg "_law_fields" ["_law_some"] fF fdF)
    (GKi : FnOk P w K mg base CX0 1 fKi fdKi ["_law_e"] (spKinds C)) (TKi : Called K mg "_law_kinds" ["_law_e"] fKi fdKi)
    (GBa : FnOk P w K mg base CX0 1 fBa fdBa ["_law_e"] (spBases C)) (TBa : Called K mg "_law_bases" ["_law_e"] fBa fdBa)
    (m_enumerate : mg "enumerate" = none) (m_int : mg "int" = none) (m_repr : mg "repr" = none) (m_range : mg "range" = none) (m_isinstance : mg "isinstance" = none) (m_Exception : mg "Exception" = none) :
    FnOkG P w K mg base CX0 4 f fd ["_law_script"] (sp_law K) := by
  refine F.okG scL (fun vs H Q E h => ?_) (fun cdv A outer s H vs Q E hgd hr h => ?_)
  · obtain ⟨a, ns, rfl, _⟩ := h
    rfl
  · obtain ⟨a, ns, rfl, hS, hlen, q⟩ := h
    obtain ⟨fd3, F3, b3, _⟩ := T.e3.fn
    obtain ⟨fd13, F13, b13, _⟩ := T.e13.fn
    refine ⟨_, (pss_cons (ps_for PassesOwn.never rfl (pi_enum (by rfl) m_enumerate (pa_cons (pe_op op_cat (pe_slice sl_list (pv 0) po_none (po_some pe_int)) (pe_op op_rep (pe_lst (pa_cons pe_int pa_nil)) (pe_callTy call_int1 (by rfl) m_int (by decide +kernel) (pa_cons (pe_cmpR (op_eqD hr.units) (pv 0) (pe_lst pa_nil) (nomark _)) pa_nil)))) pa_nil)) (pg_tup rfl (pgs_cons (pg_name (i := 1) scL.nd rfl (.inl rfl)) (pgs_cons (pg_name (i := 2) scL.nd rfl (.inl rfl)) pgs_nil)))
       (pss_cons (ps_asg (pe_call GN (hr.mono (by decide)) rfl TN.1 TN.2.1 TN.2.2 .nil pass0 (pa_cons (pv 2) (pa_cons (pe_op op_add pe_int (pv 1)) (pa_cons (pe_lst (pa_cons pe_int (pa_cons (pe_op op_pow pe_int pe_int) (pa_cons (pe_op op_pow pe_int pe_int) pa_nil)))) pa_nil)))) (pg_lst rfl (pgs_cons (pg_name (i := 3) scL.nd rfl (.inl rfl)) (pgs_cons (pg_name (i := 4) scL.nd rfl (.inl rfl)) (pgs_cons (pg_name (i := 5) scL.nd rfl (.inl rfl)) pgs_nil)))))
       (pss_cons (ps_set (i := 6) scL.nd rfl (.inl rfl) (pe_ix ix_list (pe_lst (pa_cons pe_non (pa_cons pe_bl (pa_cons pe_str (pa_cons pe_str (pa_cons (pe_tup (pa_cons (pv 4) (pa_cons pe_str pa_nil))) (pa_cons (pe_un un_neg (pv 4)) (pa_cons (pe_lst (pa_cons pe_int pa_nil)) (pa_cons (pv 4) pa_nil))))))))) (pv 3) (fun _ _ => rfl)))
       (pss_cons (ps_set (i := 7) scL.nd rfl (.inl rfl) (pe_ix ix_list (pe_lst (pa_cons (pv 5) (pa_cons (pe_tup (pa_cons (pv 5) pa_nil)) (pa_cons pe_str (pa_cons pe_non (pa_cons pe_bl (pa_cons (pe_op op_sub (pe_un un_neg pe_int) (pv 5)) (pa_cons (pe_lst pa_nil) (pa_cons pe_dnewK pa_nil))))))))) (pe_op op_mod (pe_callTy call_int1 (by rfl) m_int (by decide +kernel) (pa_cons (pv 4) pa_nil)) pe_int) (fun _ _ => rfl)))
       (pss_cons (ps_set (i := 8) scL.nd rfl (.inl rfl) (pe_op op_cat (pe_op op_cat (pe_lst (pa_cons (pe_lst (pa_cons (pv 6) pa_nil)) (pa_cons (pe_lst (pa_cons (pv 6) (pa_cons (pv 7) pa_nil))) (pa_cons (pe_lst (pa_cons (pv 6) (pa_cons (pv 7) pa_nil))) pa_nil)))) (pe_op op_rep (pe_lst (pa_cons (pe_lst (pa_cons (pv 6) pa_nil)) pa_nil)) pe_int)) (pe_lst (pa_cons (pe_lst (pa_cons (pv 6) (pa_cons (pv 7) pa_nil))) (pa_cons (pe_lst (pa_cons (pv 6) pa_nil)) pa_nil)))))
       (pss_one (ps_for PassesOwn.never rfl (pi_list (pe_lst (pa_cons (pe_call GM (hr.mono (by decide)) rfl TM.1 TM.2.1 TM.2.2 .nil pass0 (pa_cons (pv 6) (pa_cons (pv 7) pa_nil))) (pa_cons (pe_call GNm (hr.mono (by decide)) rfl TNm.1 TNm.2.1 TNm.2.2 .nil pass0 (pa_cons (pv 6) (pa_cons (pv 7) pa_nil))) pa_nil)))) (pg_name (i := 9) scL.nd rfl (.inl rfl))
       (pss_cons (ps_if (pt_cmpR op_ne (pe_callB (call_reprL hgd hr.units) (by rfl) m_repr (by decide +kernel) (pa_cons (pe_call GF (hr.mono (by decide)) rfl TF.1 TF.2.1 TF.2.2 .nil pass0 (pa_cons (pv 9) pa_nil)) pa_nil)) (pe_callB (call_reprL hgd hr.units) (by rfl) m_repr (by decide +kernel) (pa_cons (pv 8) pa_nil)) (nomark _))
       (pss_one (ps_ret pe_bl))
       pss_nil)
       (pss_one (ps_for PassesOwn.never rfl (pi_enum (by rfl) m_enumerate (pa_cons (pv 9) pa_nil)) (pg_tup rfl (pgs_cons (pg_name (i := 10) scL.nd rfl (.inr rfl)) (pgs_cons (pg_name (i := 11) scL.nd rfl (.inl rfl)) pgs_nil)))
       (pss_cons (ps_if (pt_cmpR (op_neD hr.units) (pe_call GKi (hr.mono (by decide)) rfl TKi.1 TKi.2.1 TKi.2.2 .nil pass0 (pa_cons (pv 11) pa_nil)) (pe_lc (own := [("_law_other_at", 12)]) (g := gName 12) (tt := tYes) rfl scL.nd (pi_range1 rfl m_range (pa_cons pe_int pa_nil)) (blkOk_by (N := ["_law_script", "_law_k", "_law_cell", "_law_way", "_law_great", "_law_other", "_law_one", "_law_two", "_law_due", "_law_some", "_law_at", "_law_e", "_law_other_at"]) (sc := defScope sL) (by decide +kernel)) (fun _ _ _ _ _ => pg_name (i := 12) scL.nd rfl (Or.inl rfl)) (fun _ _ _ _ _ => pts_nil) (fun _ _ _ _ _ => (pe_cmpR op_eq (pv 12) (pv 10) (nomark _)))) (nomark _))
       (pss_one (ps_ret pe_bl))
       pss_nil)
       (pss_one (ps_if (pt_cmpR (op_neD hr.units) (pe_call GBa (hr.mono (by decide)) rfl TBa.1 TBa.2.1 TBa.2.2 .nil pass0 (pa_cons (pv 11) pa_nil)) (pe_lst (pa_cons (pe_cmpR op_lt (pv 10) pe_int (nomark _)) (pa_cons (pe_cmpR op_eq (pv 10) pe_int (nomark _)) (pa_cons (pe_cmpR op_eq (pv 10) pe_int (nomark _)) (pa_cons (pe_cmpR op_eq (pv 10) pe_int (nomark _)) (pa_cons (pe_cmpR op_in_seq (pv 10) (pe_lst (pa_cons pe_int (pa_cons pe_int pa_nil))) (by rfl)) (pa_cons pe_bl pa_nil))))))) (nomark _))
       (pss_one (ps_ret pe_bl))
       pss_nil)))))))))))))
       (pss_one (ps_ret (pe_and (pe_callB call_isG (by rfl) m_isinstance (by decide +kernel) (pa_cons (pe_mkG T.e3.o F3 (hr.mono (by decide)) b3 pass0 rfl T.e3.g (pa_cons pe_int pa_nil)) (pa_cons (pe_bltn (v := .ty "Exception") (by rfl) m_Exception (by decide +kernel) rfl) pa_nil))) (pe_one (pe_callB call_isG (by rfl) m_isinstance (by decide +kernel) (pa_cons (pe_mkG T.e13.o F13 (hr.mono (by decide)) b13 pass0 rfl T.e13.g (pa_cons pe_non (pa_cons pe_non pa_nil))) (pa_cons (pe_bltn (v := .ty "Exception") (by rfl) m_Exception (by decide +kernel) rfl) pa_nil)))))))), ?_⟩
    -- enumerate(script[:6] + [7] * int(script == []))
    refine ⟨.ref a, rfl, 6, rfl, a, ns.map V.int, rfl, hS, fun c nc => ?_⟩
    have t0 := same_upd (o := .lst (cutV (ns.map V.int) none (some 6))) nc
    refine ⟨(by show 1 ≤ sizeLine; decide), fun l nl => ?_⟩
    have t1 := same_upd (o := .lst [V.int 7]) nl
    refine ⟨.ref a, rfl, (by show 0 ≤ sizeLine; decide), fun e ne => ?_⟩
    have t2 := same_upd (o := .lst []) ne
    refine ⟨.list (ns.map .int), .list [], .lst (((t0.trans t1).trans t2).seq hS) (dp_ints ns), .lst (.inl (.inl upd_same)) .nil, shaped_ints ns, (by decide), ?_⟩
    generalize PyData.eqv (.list (ns.map .int)) (.list []) = b
    refine .inr ⟨b, rfl, ?_⟩
    have hb : ∃ k : Nat, k ≤ 1 ∧ (if b = true then (1 : Int) else 0) = k := by
      cases b
      · exact ⟨0, by decide, rfl⟩
      · exact ⟨1, by decide, rfl⟩
    obtain ⟨kb, hk1, hkb⟩ := hb
    rw [hkb]
    obtain ⟨ms, hms, hml⟩ := ints_of_cut ns kb
    refine ⟨l, kb, _, rfl, rfl, t2 _ _ upd_same, by omega, by omega, ?_, fun r nr => ?_⟩
    · show 1 * ((kb : Int)).toNat ≤ sizeLine
      rw [sizeLine_eq]
      omega
    have t3 := same_upd (o := .lst (List.replicate ((kb : Int)).toNat [V.int 7]).flatten) nr
    refine ⟨c, r, _, _, rfl, rfl, ((t1.trans t2).trans t3) _ _ upd_same, upd_same, ?_, fun L nL => ?_⟩
    · have z : (cutV (ns.map V.int) none (some 6)).length ≤ (ns.map V.int).length := cutV_length _ _ _
      have z2 : (List.replicate ((kb : Int)).toNat [V.int 7]).flatten.length ≤ 1 := by
        match kb, hk1 with
        | 0, _ => decide
        | 1, _ => decide
      rw [List.length_map] at z
      rw [sizeLine_eq]
      omega
    have t4 := same_upd (o := .lst (cutV (ns.map V.int) none (some 6) ++ (List.replicate ((kb : Int)).toNat [V.int 7]).flatten)) nL
    have hms' : cutV (ns.map V.int) none (some 6) ++ (List.replicate ((kb : Int)).toNat [V.int 7]).flatten = ms.map V.int := hms
    rw [hms']
    rw [hms'] at t4
    refine ⟨L, ms.map V.int, rfl, .inl (.inl upd_same), for_enum (K := K) (a := L) (xs := ms.map V.int)
      (fun i σ H' => ∃ v1 v2 v3 v4 v5 v6 v7 v8 v9 v10 v11 : Option V, σ = [some (.ref a), v1, v2, v3, v4, v5, v6, v7, v8, v9, v10, v11, none] ∧ H' L = some (.lst (ms.map V.int)))
      ⟨none, none, none, none, none, none, none, none, none, none, none, rfl, upd_same⟩ (fun i σ H' _ ⟨_, _, _, _, _, _, _, _, _, _, _, _, hL⟩ => .inl (.inl hL)) ?_ ?_⟩
    · rintro i x σ H1 T1 hx ⟨v1, v2, v3, v4, v5, v6, v7, v8, v9, v10, v11, rfl, hL⟩ nT
      obtain ⟨cell, hc, rfl⟩ : ∃ z, ms[i]? = some z ∧ x = V.int z := by
        rw [List.getElem?_map] at hx
        cases e : ms[i]? with
        | none => rw [e] at hx; cases hx
        | some z => rw [e] at hx; exact ⟨z, rfl, (Option.some.inj hx).symm⟩
      have hi : i < ms.length := (List.getElem?_eq_some_iff.mp hc).1
      have u0 := same_upd (o := .tup [.int (i : Nat), .int cell]) nT
      refine ⟨T1, _, rfl, .inl (.inl upd_same), rfl, _, _, rfl, _, _, rfl, rfl, ?_⟩
      -- the numbers
      refine ⟨_, rfl, _, rfl, _, _, rfl, rfl, _, _, rfl, rfl, ⟨by decide, by decide, by decide⟩, _, _, rfl, rfl, ⟨by decide, by decide, by decide⟩, (by show 3 ≤ sizeLine; decide), fun z nz => ?_⟩
      have u1 := same_upd (o := .lst [V.int 8, V.int (10 ^ (30 : Int).toNat), V.int (10 ^ (20 : Int).toNat)]) nz
      refine ⟨cell, 100 + (i : Int), z, [8, 10 ^ (30 : Int).toNat, 10 ^ (20 : Int).toNat], rfl, .inl (.inl upd_same), by decide, by decide, by omega, by omega, fun H2 p ns2 sm2 np hp hd => ?_⟩
      obtain ⟨way, great, other, rfl, ⟨w0, w1⟩, ⟨g0, g1⟩, ⟨o0, o1⟩⟩ := drawn3 hd
      refine ⟨p, _, rfl, .inl (.inl hp), rfl, _, _, rfl, _, _, rfl, _, _, rfl, rfl, ?_⟩
      have hL2 : H2 L = some (.lst (ms.map V.int)) := sm2 _ _ (u1 _ _ (u0 _ _ hL))
      have gG : great.natAbs < 2 ^ 140 := by
        have : (10 : Int) ^ (30 : Int).toNat = 1000000000000000000000000000000 := by decide
        omega
      have gO : other.natAbs < 2 ^ 140 := by
        have : (10 : Int) ^ (20 : Int).toNat = 100000000000000000000 := by decide
        omega
      -- one
      refine ⟨_, rfl, (by show 2 ≤ sizeLine; decide), fun T2 nT2 => ?_⟩
      have u2 := same_upd (o := .tup [V.int great, V.str "a"]) nT2
      refine ⟨_, rfl, _, rfl, (by show 1 ≤ sizeLine; decide), fun l1 nl1 => ?_⟩
      have u3 := same_upd (o := .lst [V.int 1]) nl1
      refine ⟨_, rfl, (by show 8 ≤ sizeLine; decide), fun m1 nm1 => ?_⟩
      have u4 := same_upd (o := .lst [V.non, V.bl true, V.str "", V.str "x", V.ref T2, V.int (-great), V.ref l1, V.int great]) nm1
      obtain ⟨one, d1, hat1, hq1, hg1⟩ : ∃ v d, atI [V.non, V.bl true, V.str "", V.str "x", V.ref T2, V.int (-great), V.ref l1, V.int great] way = some v ∧
          Dq K (upd (upd (upd H2 T2 (.tup [V.int great, V.str "a"])) l1 (.lst [V.int 1])) m1 (.lst [V.non, V.bl true, V.str "", V.str "x", V.ref T2, V.int (-great), V.ref l1, V.int great])) v d ∧ Good d := by
        have hw : way = 0 ∨ way = 1 ∨ way = 2 ∨ way = 3 ∨ way = 4 ∨ way = 5 ∨ way = 6 ∨ way = 7 := by omega
        rcases hw with rfl | rfl | rfl | rfl | rfl | rfl | rfl | rfl
        · exact ⟨_, _, rfl, .non, good_non⟩
        · exact ⟨_, _, rfl, .bl _, good_bl _⟩
        · exact ⟨_, _, rfl, .str _, good_str (by decide +kernel) (by decide +kernel)⟩
        · exact ⟨_, _, rfl, .str _, good_str (by decide +kernel) (by decide +kernel)⟩
        · exact ⟨_, _, rfl, .tup (.inl (.inl ((u3.trans u4) _ _ upd_same))) (.cons (.int _) (.cons (.str _) .nil)), good_tup2 (by omega)⟩
        · exact ⟨_, _, rfl, .int _, good_int (by omega)⟩
        · exact ⟨_, _, rfl, .lst (.inl (.inl (u4 _ _ upd_same))) (.cons (.int _) .nil), by exact ⟨by decide +kernel, by decide +kernel, by decide +kernel, by decide +kernel⟩⟩
        · exact ⟨_, _, rfl, .int _, good_int (by omega)⟩
      refine ⟨_, rfl, m1, _, _, one, rfl, rfl, .inl (.inl upd_same), hat1, ?_⟩
      have s5 := ((u2.trans u3).trans u4)
      generalize hH3 : upd (upd (upd H2 T2 (.tup [V.int great, V.str "a"])) l1 (.lst [V.int 1])) m1 (.lst [V.non, V.bl true, V.str "", V.str "x", V.ref T2, V.int (-great), V.ref l1, V.int great]) = H3 at hq1 s5 ⊢
      -- two
      refine ⟨_, rfl, _, rfl, (by show 1 ≤ sizeLine; decide), fun T3 nT3 => ?_⟩
      have u5 := same_upd (o := .tup [V.int other]) nT3
      refine ⟨_, rfl, _, rfl, _, _, rfl, rfl, (by show 0 ≤ sizeLine; decide), fun l3 nl3 => ?_⟩
      have u6 := same_upd (o := .lst []) nl3
      refine fun d3 nd3 => ?_
      have u7 := same_upd (o := .dK []) nd3
      refine ⟨(by show 8 ≤ sizeLine; decide), fun m3 nm3 => ?_⟩
      have u8 := same_upd (o := .lst [V.int other, V.ref T3, V.str "y", V.non, V.bl false, V.int (-1 - other), V.ref l3, V.ref d3]) nm3
      obtain ⟨two, d2, hat2, hq2, hg2⟩ : ∃ v d, atI [V.int other, V.ref T3, V.str "y", V.non, V.bl false, V.int (-1 - other), V.ref l3, V.ref d3] (great % 8) = some v ∧
          Dq K (upd (upd (upd (upd H3 T3 (.tup [V.int other])) l3 (.lst [])) d3 (.dK [])) m3 (.lst [V.int other, V.ref T3, V.str "y", V.non, V.bl false, V.int (-1 - other), V.ref l3, V.ref d3])) v d ∧ Good d := by
        have hw : great % 8 = 0 ∨ great % 8 = 1 ∨ great % 8 = 2 ∨ great % 8 = 3 ∨ great % 8 = 4 ∨ great % 8 = 5 ∨ great % 8 = 6 ∨ great % 8 = 7 := by omega
        rcases hw with hw | hw | hw | hw | hw | hw | hw | hw <;> rw [hw]
        · exact ⟨_, _, rfl, .int _, good_int (by omega)⟩
        · exact ⟨_, _, rfl, .tup (.inl (.inl (((u6.trans u7).trans u8) _ _ upd_same))) (.cons (.int _) .nil), good_tup1 (by omega)⟩
        · exact ⟨_, _, rfl, .str _, good_str (by decide +kernel) (by decide +kernel)⟩
        · exact ⟨_, _, rfl, .non, good_non⟩
        · exact ⟨_, _, rfl, .bl _, good_bl _⟩
        · exact ⟨_, _, rfl, .int _, good_int (by omega)⟩
        · exact ⟨_, _, rfl, .lst (.inl (.inl ((u7.trans u8) _ _ upd_same))) .nil, by exact ⟨by decide +kernel, by decide +kernel, by decide +kernel, by decide +kernel⟩⟩
        · exact ⟨_, _, rfl, .dic (u8 _ _ upd_same), by exact ⟨by decide +kernel, by decide +kernel, by decide +kernel, by decide +kernel⟩⟩
      refine ⟨_, rfl, .inl ⟨_, rfl, _, _, rfl, rfl, (by show (0 : Int) < 8; decide), m3, _, _, two, rfl, rfl, .inl (.inl upd_same), hat2, ?_⟩⟩
      have s6 := (((u5.trans u6).trans u7).trans u8)
      generalize hH4 : upd (upd (upd (upd H3 T3 (.tup [V.int other])) l3 (.lst [])) d3 (.dK [])) m3 (.lst [V.int other, V.ref T3, V.str "y", V.non, V.bl false, V.int (-1 - other), V.ref l3, V.ref d3]) = H4 at hq2 s6 ⊢
      -- due
      refine ⟨_, rfl, (by show 1 ≤ sizeLine; decide), fun a1 na1 => ?_⟩
      have r1 := same_upd (o := .lst [one]) na1
      refine ⟨_, rfl, _, rfl, (by show 2 ≤ sizeLine; decide), fun a2 na2 => ?_⟩
      have r2 := same_upd (o := .lst [one, two]) na2
      refine ⟨_, rfl, _, rfl, (by show 2 ≤ sizeLine; decide), fun a3 na3 => ?_⟩
      have r3 := same_upd (o := .lst [one, two]) na3
      refine ⟨(by show 3 ≤ sizeLine; decide), fun oA nA => ?_⟩
      have r4 := same_upd (o := .lst [V.ref a1, V.ref a2, V.ref a3]) nA
      refine ⟨_, rfl, (by show 1 ≤ sizeLine; decide), fun a4 na4 => ?_⟩
      have r5 := same_upd (o := .lst [one]) na4
      refine ⟨(by show 1 ≤ sizeLine; decide), fun oR nR => ?_⟩
      have r6 := same_upd (o := .lst [V.ref a4]) nR
      refine ⟨oR, 10, _, rfl, rfl, upd_same, by decide, by decide, (show (10 : Nat) ≤ sizeLine by decide), fun oS nS => ?_⟩
      have r7 := same_upd (o := .lst [V.ref a4, V.ref a4, V.ref a4, V.ref a4, V.ref a4, V.ref a4, V.ref a4, V.ref a4, V.ref a4, V.ref a4]) nS
      refine ⟨oA, oS, _, _, rfl, rfl, ((r5.trans r6).trans r7) _ _ upd_same, upd_same, (show (13 : Nat) ≤ sizeLine by decide), fun oT nT2' => ?_⟩
      have r8 := same_upd (o := .lst [V.ref a1, V.ref a2, V.ref a3, V.ref a4, V.ref a4, V.ref a4, V.ref a4, V.ref a4, V.ref a4, V.ref a4, V.ref a4, V.ref a4, V.ref a4]) nT2'
      refine ⟨_, rfl, _, rfl, (by show 2 ≤ sizeLine; decide), fun a5 na5 => ?_⟩
      have r9 := same_upd (o := .lst [one, two]) na5
      refine ⟨_, rfl, (by show 1 ≤ sizeLine; decide), fun a6 na6 => ?_⟩
      have r10 := same_upd (o := .lst [one]) na6
      refine ⟨(by show 2 ≤ sizeLine; decide), fun oB nB => ?_⟩
      have r11 := same_upd (o := .lst [V.ref a5, V.ref a6]) nB
      refine ⟨oT, oB, _, _, rfl, rfl, ((r9.trans r10).trans r11) _ _ upd_same, upd_same, (show (15 : Nat) ≤ sizeLine by decide), fun oD nD => ?_⟩
      have r12 := same_upd (o := .lst [V.ref a1, V.ref a2, V.ref a3, V.ref a4, V.ref a4, V.ref a4, V.ref a4, V.ref a4, V.ref a4, V.ref a4, V.ref a4, V.ref a4, V.ref a4, V.ref a5, V.ref a6]) nD
      have e10 := r11.trans r12
      have e9 := r10.trans e10
      have e8 := r9.trans e9
      have e7 := r8.trans e8
      have e6 := r7.trans e7
      have e5 := r6.trans e6
      have e4 := r5.trans e5
      have e3 := r4.trans e4
      have e2 := r3.trans e3
      have e1 := r2.trans e2
      have e0 := r1.trans e1
      have f4 := e5 _ _ (upd_same (a := a4) (o := .lst [one]))
      have rowsD5 : NestAt _ oD (rowsOf one two) := ⟨_, upd_same (a := oD) (o := .lst [V.ref a1, V.ref a2, V.ref a3, V.ref a4, V.ref a4, V.ref a4, V.ref a4, V.ref a4, V.ref a4, V.ref a4, V.ref a4, V.ref a4, V.ref a4, V.ref a5, V.ref a6]),
        .cons (e1 _ _ upd_same) (.cons (e2 _ _ upd_same) (.cons (e3 _ _ upd_same) (.cons f4 (.cons f4 (.cons f4 (.cons f4 (.cons f4 (.cons f4 (.cons f4 (.cons f4 (.cons f4 (.cons f4 (.cons (e9 _ _ upd_same) (.cons (e10 _ _ upd_same) .nil))))))))))))))⟩
      -- for some in [made, named]
      refine ⟨_, rfl, _, rfl, one, two, rfl, fun H6 p6 es6 s7 h6 M6 => ?_⟩
      have nest6 : NestAt H6 oD (rowsOf one two) := by
        obtain ⟨vs, hv, hr⟩ := rowsD5
        exact ⟨vs, s7 _ _ hv, rows_same s7 hr⟩
      have s46 : Same H4 H6 := e0.trans s7
      clear e0 e1 e2 e3 e4 e5 e6 e7 e8 e9 e10 r1 r2 r3 r4 r5 r6 r7 r8 r9 r10 r11 r12 f4 rowsD5 s7
      refine ⟨_, rfl, _, rfl, one, two, rfl, fun H7 p7 es7 s67 h7 M7 => ?_⟩
      refine ⟨(by show 2 ≤ sizeLine; decide), fun o7 n7 => ?_⟩
      have s78 := same_upd (o := .lst [V.ref p6, V.ref p7]) n7
      have hL8 := s78 _ _ (s67 _ _ (s46 _ _ (s6 _ _ (s5 _ _ hL2))))
      have q81 : Dq K _ one d1 := dq_same (s6.trans ((s46.trans s67).trans s78)) _ _ hq1
      have q82 : Dq K _ two d2 := dq_same ((s46.trans s67).trans s78) _ _ hq2
      have nest8 : NestAt (upd H7 o7 (.lst [V.ref p6, V.ref p7])) oD (rowsOf one two) := by
        obtain ⟨vs, hv, hr⟩ := nest6
        exact ⟨vs, (s67.trans s78) _ _ hv, rows_same (s67.trans s78) hr⟩
      have made8 : ∀ x ∈ [V.ref p6, V.ref p7], ∃ p es, x = V.ref p ∧ (upd H7 o7 (.lst [V.ref p6, V.ref p7])) p = some (.lst (L15 es)) ∧ MadeAll C (upd H7 o7 (.lst [V.ref p6, V.ref p7])) es one two := by
        intro x hx
        rcases List.mem_cons.mp hx with rfl | hx
        · exact ⟨p6, es6, rfl, (s67.trans s78) _ _ h6, fun i hi => (M6 i hi).same (s67.trans s78)⟩
        · rcases List.mem_cons.mp hx with rfl | hx
          · exact ⟨p7, es7, rfl, s78 _ _ h7, fun i hi => (M7 i hi).same s78⟩
          · exact absurd hx List.not_mem_nil
      have hl8 : (upd H7 o7 (.lst [V.ref p6, V.ref p7])) o7 = some (.lst [V.ref p6, V.ref p7]) := upd_same
      generalize upd H7 o7 (.lst [V.ref p6, V.ref p7]) = H8 at hL8 q81 q82 nest8 made8 hl8 ⊢
      refine ⟨o7, rfl, ⟨_, .inl (.inl hl8)⟩, for_list (K := K) (a := o7) (xs := [V.ref p6, V.ref p7])
        (fun j σ H' => ∃ x9 x10 x11 : Option V, σ = [some (.ref a), some (.int (i : Nat)), some (.int cell), some (.int way), some (.int great), some (.int other), some one, some two, some (.ref oD), x9, x10, x11, none] ∧ Same H8 H')
        ⟨v9, v10, v11, rfl, Same.refl H8⟩ (fun j σ H' _ ⟨_, _, _, _, s9⟩ => s9.seq (.inl (.inl hl8))) ?_ ?_⟩
      · rintro j x σ H9 hj ⟨x9, x10, x11, rfl, s89⟩
        obtain ⟨p, es, rfl, h8p, M8⟩ := made8 x (List.mem_of_getElem? hj)
        have h9p := s89 _ _ h8p
        have M9 : MadeAll C H9 es one two := fun i hi => (M8 i hi).same s89
        -- repr
        refine ⟨_, rfl, one, two, p, es, rfl, h9p, M9, fun H10 q10 s910 nest10 => ?_⟩
        have s810 := s89.trans s910
        obtain ⟨vs1, hv1, hr1⟩ := nest10
        obtain ⟨vs2, hv2, hr2⟩ := nest8
        have pr := rows_pair (dq_same s810 _ _ q81) (dq_same s810 _ _ q82)
        obtain ⟨z1, z2, z3⟩ := rows_shown hg1 hg2
        refine ⟨q10, _, rfl, .lst (.inl (.inl hv1)) (rows_dq hr1 pr), List.cons_ne_nil _ _, z1, z2, z3, _, rfl, oD, _, rfl, .lst (.inl (.inl (s810 _ _ hv2))) (rows_dq (rows_same s810 hr2) pr), List.cons_ne_nil _ _, z1, z2, z3, rfl, _, rfl, iteNS rfl ?_⟩
        have h10p := s910 _ _ h9p
        have M10 : MadeAll C H10 es one two := fun i hi => (M9 i hi).same s910
        -- for at, e in enumerate(some)
        refine ⟨_, rfl, p, _, rfl, .inl (.inl h10p), for_enum (K := K) (a := p) (xs := L15 es)
          (fun k σ H' => ∃ y10 y11 : Option V, σ = [some (.ref a), some (.int (i : Nat)), some (.int cell), some (.int way), some (.int great), some (.int other), some one, some two, some (.ref oD), some (.ref p), y10, y11, none] ∧ Same H10 H')
          ⟨x10, x11, rfl, Same.refl H10⟩ (fun k σ H' _ ⟨_, _, _, s11⟩ => s11.seq (.inl (.inl h10p))) ?_ ?_⟩
        · rintro k x σ H11 T11 hk ⟨y10, y11, rfl, s11⟩ nT11
          obtain ⟨hk15, rfl⟩ := l15_get hk
          have u11 := same_upd (o := .tup [.int (k : Nat), .ref (es k)]) nT11
          refine ⟨T11, _, rfl, .inl (.inl upd_same), rfl, _, _, rfl, _, _, rfl, rfl, ?_⟩
          have isk : ∀ {H' : Hp}, Same H10 H' → IsI C H' k (es k) := fun s => by
            obtain ⟨d, w1, w2⟩ := (M10 k hk15).same s
            exact ⟨hk15, d, _, w1, w2⟩
          -- kinds
          refine ⟨_, rfl, es k, k, rfl, isk (s11.trans u11), fun H12 p12 s12 h12 => ?_⟩
          refine ⟨15, rfl, by decide, by decide, fun D13 nD13 => lc_range (lo := 0) (n := 15)
            (fun m H' => Same H12 H' ∧ H' D13 = some (.lst ((List.range m).map fun j : Nat => V.bl (decide (V.int (0 + (j : Int)) = V.int (k : Int))))))
            ⟨same_upd nD13, upd_same⟩ ?_ ?_⟩
          · rintro m H14 hm ⟨s14, h14⟩
            refine ⟨rfl, ?_⟩
            dsimp only [tYes]
            trace_state
            rw [if_pos rfl]
            refine ⟨_, rfl, _, rfl, rfl, _, h14, ?_, fun b o e => ?_, ?_⟩
            · rw [List.length_map, List.length_range, sizeLine_eq]
              omega
            · rw [upd_ne (ne_of_none e nD13)]
              exact s14 b o e
            · rw [upd_same, List.range_succ, List.map_append]
              rfl
          · rintro H14 ⟨s14, h14⟩
            rw [kinds_list k hk15] at h14
            have dk : DpAll K H14 (kindsOf k) (kindsD k) := (.cons (.bl _) (.cons (.bl _) (.cons (.bl _) (.cons (.bl _) (.cons (.bl _) (.cons (.bl _) (.cons (.bl _) (.cons (.bl _) (.cons (.bl _) (.cons (.bl _) (.cons (.bl _) (.cons (.bl _) (.cons (.bl _) (.cons (.bl _) (.cons (.bl _) .nil)))))))))))))))
            have ek : PyData.eqv (.list (kindsD k)) (.list (kindsD k)) = true := SeqAt.eqv_refl _ rfl
            refine ⟨.list (kindsD k), .list (kindsD k), .lst (.inl (.inl (s14 _ _ h12))) dk, .lst (.inl (.inl h14)) dk, rfl, rfl, _, rfl, ?_⟩
            rw [ek]
            refine iteF ?_
            have s1014 := ((s11.trans u11).trans s12).trans s14
            -- bases
            refine ⟨_, rfl, es k, k, rfl, isk s1014, fun H16 p16 s16 h16 => ?_⟩
            refine ⟨_, rfl, _, _, rfl, rfl, _, rfl, rfl, _, rfl, rfl, _, rfl, rfl, _, rfl, (by show 2 ≤ sizeLine; decide), fun l17 n17 => ?_⟩
            have u17 := same_upd (o := .lst [V.int 13, V.int 14]) n17
            refine ⟨l17, _, rfl, .inl (.inl (.inl upd_same)), rfl, rfl, (by show 6 ≤ sizeLine; decide), fun l18 n18 => ?_⟩
            have u18 := same_upd (o := .lst [V.bl (decide ((k : Int) < 10)), V.bl (decide (V.int (k : Int) = V.int 10)), V.bl (decide (V.int (k : Int) = V.int 11)), V.bl (decide (V.int (k : Int) = V.int 12)), V.bl (inV (V.int (k : Int)) [V.int 13, V.int 14]), V.bl false]) n18
            have h18 : (upd (upd H16 l17 (.lst [V.int 13, V.int 14])) l18 (.lst [V.bl (decide ((k : Int) < 10)), V.bl (decide (V.int (k : Int) = V.int 10)), V.bl (decide (V.int (k : Int) = V.int 11)), V.bl (decide (V.int (k : Int) = V.int 12)), V.bl (inV (V.int (k : Int)) [V.int 13, V.int 14]), V.bl false])) l18 = some (.lst (basesOf k)) := by
              rw [upd_same, bases_list k hk15]
            have h16' := (u17.trans u18) _ _ h16
            have db : ∀ {H' : Hp}, DpAll K H' (basesOf k) (basesD k) := .cons (.bl _) (.cons (.bl _) (.cons (.bl _) (.cons (.bl _) (.cons (.bl _) (.cons (.bl _) .nil)))))
            have eb : PyData.eqv (.list (basesD k)) (.list (basesD k)) = true := SeqAt.eqv_refl _ rfl
            refine ⟨.list (basesD k), .list (basesD k), .lst (.inl (.inl h16')) db, .lst (.inl (.inl h18)) db, rfl, rfl, _, rfl, ?_⟩
            rw [eb]
            refine iteF ?_
            exact ⟨_, _, rfl, ((s1014.trans s16).trans u17).trans u18⟩
        · rintro σ H19 ⟨y10, y11, rfl, s19⟩
          exact ⟨_, _, _, rfl, s810.trans s19⟩
      · rintro σ H19 ⟨x9, x10, x11, rfl, s19⟩
        exact ⟨_, _, _, _, _, _, _, _, _, _, _, rfl, s19 _ _ hL8⟩
    · rintro σ H19 ⟨v1, v2, v3, v4, v5, v6, v7, v8, v9, v10, v11, rfl, hL⟩
      refine ⟨Nat.le_of_ble_eq_true rfl, fun a20 n20 => ⟨a20, _, _, _, rfl, T.e3.o, T.e3.no, upd_same, fun H20 b20 i20 => ⟨rfl, ?_⟩⟩⟩
      obtain ⟨d20, x20, y20⟩ := i20
      refine ⟨a20, C 3, fI 3, d20, _, .ty "Exception", _, true, rfl, .ty _, T.e3.o, x20, y20, ze3, true, rfl, iteT ?_⟩
      refine ⟨Nat.le_of_ble_eq_true rfl, fun a21 n21 => ⟨a21, _, _, _, _, rfl, T.e13.o, T.e13.no, T.e13.no2, upd_same, fun H21 b21 i21 => ⟨rfl, ?_⟩⟩⟩
      obtain ⟨d21, x21, y21⟩ := i21
      exact ⟨a21, C 13, fI 13, d21, _, .ty "Exception", _, true, rfl, .ty _, T.e13.o, x21, y21, ze13, q _⟩
end
end Lw
/-! K6 -/
namespace Lw
open PySem PySem.Spec PyProof.Rows L2
open PySem.W (findIn typeIn keepIn codeIn subIn nsIn hasDictIn mroIn specialIn takesIn kitOne)
/-- which class is below which, by computation -/
def kitB (K : PySem.W.Frag) (cs : List Addr) (D : Addr) : Bool := (List.range 15).all fun i => ((List.range 15).all fun j => kitOne K (.ref (cs.getD i 0)) (.ref (cs.getD j 0)) == some (decide (i = j))) &&
  (kitOne K (.ref (cs.getD i 0)) (.ref D) == some (decide (i < 10))) && (kitOne K (.ref (cs.getD i 0)) (.type "ValueError") == some (decide (i = 10))) && (kitOne K (.ref (cs.getD i 0)) (.type "OverflowError") == some (decide (i = 11))) &&
  (kitOne K (.ref (cs.getD i 0)) (.type "LookupError") == some (decide (i = 12))) && (kitOne K (.ref (cs.getD i 0)) (.type "RuntimeError") == some (decide (i = 13 ∨ i = 14))) && (kitOne K (.ref (cs.getD i 0)) (.type "KeyError") == some false) &&
  (kitOne K (.ref (cs.getD i 0)) (.type "Exception") == some true)
theorem kit_of_B {K : PySem.W.Frag} {cs : List Addr} {D : Addr} (h : kitB K cs D = true) : Kit K (fun i => cs.getD i 0) D ∧ ∀ i, i < 15 → kitOne K (.ref (cs.getD i 0)) (.type "Exception") = some true := by
  unfold kitB at h
  have g := fun i (hi : i < 15) => List.all_eq_true.mp h i (List.mem_range.mpr hi)
  simp only [Bool.and_eq_true, beq_iff_eq] at g
  exact ⟨⟨fun i j hi hj => beq_iff_eq.mp (List.all_eq_true.mp (g i hi).1.1.1.1.1.1.1 j (List.mem_range.mpr hj)), fun i hi => (g i hi).1.1.1.1.1.1.2, fun i hi => (g i hi).1.1.1.1.1.2, fun i hi => (g i hi).1.1.1.1.2, fun i hi => (g i hi).1.1.1.2, fun i hi => (g i hi).1.1.2, fun i hi => (g i hi).1.2⟩, fun i hi => (g i hi).2⟩
theorem all_mk {P : Program} {w : World} {K : PySem.W.Frag} {h : Heap} {mg : Str → Option Value} {fa cD : Addr} (X : K.In h) (G : h.Ns mainGlobals mg) (hfa : mg "law" = some (.ref fa))
    {nm0 q0 : Str} {N0 : Addr} {bs0 : List Value} {sn0 : List Str} {sub0 : List Value} {ab0 : Bool} {col0 : Option Bool} {dd0 : Option Addr} {m00 m10 m20 m30 m50 : Option Value} {c0 f0 : Addr} {oc0 dc0 pm0 cd0 ct0 kV0 : Value} {od0 an0 : Option Addr} {sl0 : Array (Option Value)}
    {nm1 q1 : Str} {N1 : Addr} {bs1 : List Value} {sn1 : List Str} {sub1 : List Value} {ab1 : Bool} {col1 : Option Bool} {dd1 : Option Addr} {m01 m11 m21 m31 m51 : Option Value} {c1 f1 : Addr} {oc1 dc1 pm1 cd1 ct1 kV1 : Value} {od1 an1 : Option Addr} {sl1 : Array (Option Value)}
    {nm2 q2 : Str} {N2 : Addr} {bs2 : List Value} {sn2 : List Str} {sub2 : List Value} {ab2 : Bool} {col2 : Option Bool} {dd2 : Option Addr} {m02 m12 m22 m32 m52 : Option Value} {c2 f2 : Addr} {oc2 dc2 pm2 cd2 ct2 kV2 : Value} {od2 an2 : Option Addr} {sl2 : Array (Option Value)}
    {nm3 q3 : Str} {N3 : Addr} {bs3 : List Value} {sn3 : List Str} {sub3 : List Value} {ab3 : Bool} {col3 : Option Bool} {dd3 : Option Addr} {m03 m13 m23 m33 m53 : Option Value} {c3 f3 : Addr} {oc3 dc3 pm3 cd3 ct3 kV3 : Value} {od3 an3 : Option Addr} {sl3 : Array (Option Value)}
    {nm4 q4 : Str} {N4 : Addr} {bs4 : List Value} {sn4 : List Str} {sub4 : List Value} {ab4 : Bool} {col4 : Option Bool} {dd4 : Option Addr} {m04 m14 m24 m34 m54 : Option Value} {c4 f4 : Addr} {oc4 dc4 pm4 cd4 ct4 kV4 : Value} {od4 an4 : Option Addr} {sl4 : Array (Option Value)}
    {nm5 q5 : Str} {N5 : Addr} {bs5 : List Value} {sn5 : List Str} {sub5 : List Value} {ab5 : Bool} {col5 : Option Bool} {dd5 : Option Addr} {m05 m15 m25 m35 m55 : Option Value} {c5 f5 : Addr} {oc5 dc5 pm5 cd5 ct5 kV5 : Value} {od5 an5 : Option Addr} {sl5 : Array (Option Value)}
    {nm6 q6 : Str} {N6 : Addr} {bs6 : List Value} {sn6 : List Str} {sub6 : List Value} {ab6 : Bool} {col6 : Option Bool} {dd6 : Option Addr} {m06 m16 m26 m36 m56 : Option Value} {c6 f6 : Addr} {oc6 dc6 pm6 cd6 ct6 kV6 : Value} {od6 an6 : Option Addr} {sl6 : Array (Option Value)}
    {nm7 q7 : Str} {N7 : Addr} {bs7 : List Value} {sn7 : List Str} {sub7 : List Value} {ab7 : Bool} {col7 : Option Bool} {dd7 : Option Addr} {m07 m17 m27 m37 m57 : Option Value} {c7 f7 : Addr} {oc7 dc7 pm7 cd7 ct7 kV7 : Value} {od7 an7 : Option Addr} {sl7 : Array (Option Value)}
    {nm8 q8 : Str} {N8 : Addr} {bs8 : List Value} {sn8 : List Str} {sub8 : List Value} {ab8 : Bool} {col8 : Option Bool} {dd8 : Option Addr} {m08 m18 m28 m38 m58 : Option Value} {c8 f8 : Addr} {oc8 dc8 pm8 cd8 ct8 kV8 : Value} {od8 an8 : Option Addr} {sl8 : Array (Option Value)}
    {nm9 q9 : Str} {N9 : Addr} {bs9 : List Value} {sn9 : List Str} {sub9 : List Value} {ab9 : Bool} {col9 : Option Bool} {dd9 : Option Addr} {m09 m19 m29 m39 m59 : Option Value} {c9 f9 : Addr} {oc9 dc9 pm9 cd9 ct9 kV9 : Value} {od9 an9 : Option Addr} {sl9 : Array (Option Value)}
    {nm10 q10 : Str} {N10 : Addr} {bs10 : List Value} {sn10 : List Str} {sub10 : List Value} {ab10 : Bool} {col10 : Option Bool} {dd10 : Option Addr} {m010 m110 m210 m310 m510 : Option Value} {c10 f10 : Addr} {oc10 dc10 pm10 cd10 ct10 kV10 : Value} {od10 an10 : Option Addr} {sl10 : Array (Option Value)}
    {nm11 q11 : Str} {N11 : Addr} {bs11 : List Value} {sn11 : List Str} {sub11 : List Value} {ab11 : Bool} {col11 : Option Bool} {dd11 : Option Addr} {m011 m111 m211 m311 m511 : Option Value} {c11 f11 : Addr} {oc11 dc11 pm11 cd11 ct11 kV11 : Value} {od11 an11 : Option Addr} {sl11 : Array (Option Value)}
    {nm12 q12 : Str} {N12 : Addr} {bs12 : List Value} {sn12 : List Str} {sub12 : List Value} {ab12 : Bool} {col12 : Option Bool} {dd12 : Option Addr} {m012 m112 m212 m312 m512 : Option Value} {c12 f12 : Addr} {oc12 dc12 pm12 cd12 ct12 kV12 : Value} {od12 an12 : Option Addr} {sl12 : Array (Option Value)}
    {nm13 q13 : Str} {N13 : Addr} {bs13 : List Value} {sn13 : List Str} {sub13 : List Value} {ab13 : Bool} {col13 : Option Bool} {dd13 : Option Addr} {m013 m113 m213 m313 m513 : Option Value} {c13 f13 : Addr} {oc13 dc13 pm13 cd13 ct13 kV13 : Value} {od13 an13 : Option Addr} {sl13 : Array (Option Value)}
    {nm14 q14 : Str} {N14 : Addr} {bs14 : List Value} {sn14 : List Str} {sub14 : List Value} {ab14 : Bool} {col14 : Option Bool} {dd14 : Option Addr} {m014 m114 m214 m314 m514 : Option Value} {c14 f14 : Addr} {oc14 dc14 pm14 cd14 ct14 kV14 : Value} {od14 an14 : Option Addr} {sl14 : Array (Option Value)}
    {fNum : Addr} {ocNum dcNum pmNum cdNum ctNum kVNum : Value} {odNum anNum : Option Addr} {slNum : Array (Option Value)}
    {fM : Addr} {ocM dcM pmM cdM ctM kVM : Value} {odM anM : Option Addr} {slM : Array (Option Value)}
    {fNm : Addr} {ocNm dcNm pmNm cdNm ctNm kVNm : Value} {odNm anNm : Option Addr} {slNm : Array (Option Value)}
    {fF : Addr} {ocF dcF pmF cdF ctF kVF : Value} {odF anF : Option Addr} {slF : Array (Option Value)}
    {fKi : Addr} {ocKi dcKi pmKi cdKi ctKi kVKi : Value} {odKi anKi : Option Addr} {slKi : Array (Option Value)}
    {fBa : Addr} {ocBa dcBa pmBa cdBa ctBa kVBa : Value} {odBa anBa : Option Addr} {slBa : Array (Option Value)}
    {fL : Addr} {ocL dcL pmL cdL ctL kVL : Value} {odL anL : Option Addr} {slL : Array (Option Value)}
    (aC0 : nsIn K mainGlobals "InvalidItem" = some (some (.ref c0)))
    (x0 : K.lookup c0 = some (excClassObj nm0 q0 c0 N0 bs0 [.ref cD, .type "Exception", .type "BaseException", .type "object"] true sn0 sub0 ab0 col0 dd0 m00 m10 m20 m30 m50 "Exception.__new__"))
    (sa0 : findIn K (.ref c0) "__setattr__" = some (some (.builtin "object.__setattr__")))
    (ga0 : findIn K (.ref c0) "__getattribute__" = some (some (.builtin "BaseException.__getattribute__")))
    (gg0 : findIn K (.ref c0) "__getattr__" = some none)
    (n0_0 : findIn K (.ref c0) "place" = some none)
    (a0 : findIn K (.ref c0) "__init__" = some (some (.ref f0)))
    (t0 : typeIn K (.ref f0) = some (.type "function"))
    (l0 : K.lookup f0 = some ⟨oc0, od0, .func (PySem.W.fnOf "__init__" "InvalidItem.__init__" (defArgs sI0) (defBody sI0) (defScope sI0) .none kV0 dc0 pm0 an0 cd0 ct0), sl0⟩)
    (cc0 : codeIn K cd0 "InvalidItem.__init__" = true)
    (kf0 : keepIn K (.ref f0) = true)
    (kC0 : keepIn K (.ref c0) = true)
    (eC0 : subIn K (.ref c0) (.type "BaseException") = some true)
    (tC0 : typeIn K (.ref c0) = some (.type "type"))
    (hC0 : hasDictIn K c0 = true)
    (ha0 : findIn K (.ref c0) "__class__" = some (some (.builtin "object.__class__")))
    (hm0 : mroIn K c0 (.type "object") = some true)
    (aC1 : nsIn K mainGlobals "NotACrowd" = some (some (.ref c1)))
    (x1 : K.lookup c1 = some (excClassObj nm1 q1 c1 N1 bs1 [.ref cD, .type "Exception", .type "BaseException", .type "object"] true sn1 sub1 ab1 col1 dd1 m01 m11 m21 m31 m51 "Exception.__new__"))
    (sa1 : findIn K (.ref c1) "__setattr__" = some (some (.builtin "object.__setattr__")))
    (ga1 : findIn K (.ref c1) "__getattribute__" = some (some (.builtin "BaseException.__getattribute__")))
    (gg1 : findIn K (.ref c1) "__getattr__" = some none)
    (n1_0 : findIn K (.ref c1) "name" = some none)
    (n1_1 : findIn K (.ref c1) "place" = some none)
    (a1 : findIn K (.ref c1) "__init__" = some (some (.ref f1)))
    (t1 : typeIn K (.ref f1) = some (.type "function"))
    (l1 : K.lookup f1 = some ⟨oc1, od1, .func (PySem.W.fnOf "__init__" "NotACrowd.__init__" (defArgs sI1) (defBody sI1) (defScope sI1) .none kV1 dc1 pm1 an1 cd1 ct1), sl1⟩)
    (cc1 : codeIn K cd1 "NotACrowd.__init__" = true)
    (kf1 : keepIn K (.ref f1) = true)
    (kC1 : keepIn K (.ref c1) = true)
    (eC1 : subIn K (.ref c1) (.type "BaseException") = some true)
    (tC1 : typeIn K (.ref c1) = some (.type "type"))
    (hC1 : hasDictIn K c1 = true)
    (ha1 : findIn K (.ref c1) "__class__" = some (some (.builtin "object.__class__")))
    (hm1 : mroIn K c1 (.type "object") = some true)
    (aC2 : nsIn K mainGlobals "InvalidDevice" = some (some (.ref c2)))
    (x2 : K.lookup c2 = some (excClassObj nm2 q2 c2 N2 bs2 [.ref cD, .type "Exception", .type "BaseException", .type "object"] true sn2 sub2 ab2 col2 dd2 m02 m12 m22 m32 m52 "Exception.__new__"))
    (sa2 : findIn K (.ref c2) "__setattr__" = some (some (.builtin "object.__setattr__")))
    (ga2 : findIn K (.ref c2) "__getattribute__" = some (some (.builtin "BaseException.__getattribute__")))
    (gg2 : findIn K (.ref c2) "__getattr__" = some none)
    (n2_0 : findIn K (.ref c2) "part" = some none)
    (n2_1 : findIn K (.ref c2) "name" = some none)
    (a2 : findIn K (.ref c2) "__init__" = some (some (.ref f2)))
    (t2 : typeIn K (.ref f2) = some (.type "function"))
    (l2 : K.lookup f2 = some ⟨oc2, od2, .func (PySem.W.fnOf "__init__" "InvalidDevice.__init__" (defArgs sI2) (defBody sI2) (defScope sI2) .none kV2 dc2 pm2 an2 cd2 ct2), sl2⟩)
    (cc2 : codeIn K cd2 "InvalidDevice.__init__" = true)
    (kf2 : keepIn K (.ref f2) = true)
    (kC2 : keepIn K (.ref c2) = true)
    (eC2 : subIn K (.ref c2) (.type "BaseException") = some true)
    (tC2 : typeIn K (.ref c2) = some (.type "type"))
    (hC2 : hasDictIn K c2 = true)
    (ha2 : findIn K (.ref c2) "__class__" = some (some (.builtin "object.__class__")))
    (hm2 : mroIn K c2 (.type "object") = some true)
    (aC3 : nsIn K mainGlobals "InvalidStep" = some (some (.ref c3)))
    (x3 : K.lookup c3 = some (excClassObj nm3 q3 c3 N3 bs3 [.ref cD, .type "Exception", .type "BaseException", .type "object"] true sn3 sub3 ab3 col3 dd3 m03 m13 m23 m33 m53 "Exception.__new__"))
    (sa3 : findIn K (.ref c3) "__setattr__" = some (some (.builtin "object.__setattr__")))
    (ga3 : findIn K (.ref c3) "__getattribute__" = some (some (.builtin "BaseException.__getattribute__")))
    (gg3 : findIn K (.ref c3) "__getattr__" = some none)
    (n3_0 : findIn K (.ref c3) "index" = some none)
    (a3 : findIn K (.ref c3) "__init__" = some (some (.ref f3)))
    (t3 : typeIn K (.ref f3) = some (.type "function"))
    (l3 : K.lookup f3 = some ⟨oc3, od3, .func (PySem.W.fnOf "__init__" "InvalidStep.__init__" (defArgs sI3) (defBody sI3) (defScope sI3) .none kV3 dc3 pm3 an3 cd3 ct3), sl3⟩)
    (cc3 : codeIn K cd3 "InvalidStep.__init__" = true)
    (kf3 : keepIn K (.ref f3) = true)
    (kC3 : keepIn K (.ref c3) = true)
    (eC3 : subIn K (.ref c3) (.type "BaseException") = some true)
    (tC3 : typeIn K (.ref c3) = some (.type "type"))
    (hC3 : hasDictIn K c3 = true)
    (ha3 : findIn K (.ref c3) "__class__" = some (some (.builtin "object.__class__")))
    (hm3 : mroIn K c3 (.type "object") = some true)
    (aC4 : nsIn K mainGlobals "InvalidState" = some (some (.ref c4)))
    (x4 : K.lookup c4 = some (excClassObj nm4 q4 c4 N4 bs4 [.ref cD, .type "Exception", .type "BaseException", .type "object"] true sn4 sub4 ab4 col4 dd4 m04 m14 m24 m34 m54 "Exception.__new__"))
    (sa4 : findIn K (.ref c4) "__setattr__" = some (some (.builtin "object.__setattr__")))
    (ga4 : findIn K (.ref c4) "__getattribute__" = some (some (.builtin "BaseException.__getattribute__")))
    (gg4 : findIn K (.ref c4) "__getattr__" = some none)
    (n4_0 : findIn K (.ref c4) "value" = some none)
    (a4 : findIn K (.ref c4) "__init__" = some (some (.ref f4)))
    (t4 : typeIn K (.ref f4) = some (.type "function"))
    (l4 : K.lookup f4 = some ⟨oc4, od4, .func (PySem.W.fnOf "__init__" "InvalidState.__init__" (defArgs sI4) (defBody sI4) (defScope sI4) .none kV4 dc4 pm4 an4 cd4 ct4), sl4⟩)
    (cc4 : codeIn K cd4 "InvalidState.__init__" = true)
    (kf4 : keepIn K (.ref f4) = true)
    (kC4 : keepIn K (.ref c4) = true)
    (eC4 : subIn K (.ref c4) (.type "BaseException") = some true)
    (tC4 : typeIn K (.ref c4) = some (.type "type"))
    (hC4 : hasDictIn K c4 = true)
    (ha4 : findIn K (.ref c4) "__class__" = some (some (.builtin "object.__class__")))
    (hm4 : mroIn K c4 (.type "object") = some true)
    (aC5 : nsIn K mainGlobals "InvalidMove" = some (some (.ref c5)))
    (x5 : K.lookup c5 = some (excClassObj nm5 q5 c5 N5 bs5 [.ref cD, .type "Exception", .type "BaseException", .type "object"] true sn5 sub5 ab5 col5 dd5 m05 m15 m25 m35 m55 "Exception.__new__"))
    (sa5 : findIn K (.ref c5) "__setattr__" = some (some (.builtin "object.__setattr__")))
    (ga5 : findIn K (.ref c5) "__getattribute__" = some (some (.builtin "BaseException.__getattribute__")))
    (gg5 : findIn K (.ref c5) "__getattr__" = some none)
    (n5_0 : findIn K (.ref c5) "move" = some none)
    (a5 : findIn K (.ref c5) "__init__" = some (some (.ref f5)))
    (t5 : typeIn K (.ref f5) = some (.type "function"))
    (l5 : K.lookup f5 = some ⟨oc5, od5, .func (PySem.W.fnOf "__init__" "InvalidMove.__init__" (defArgs sI5) (defBody sI5) (defScope sI5) .none kV5 dc5 pm5 an5 cd5 ct5), sl5⟩)
    (cc5 : codeIn K cd5 "InvalidMove.__init__" = true)
    (kf5 : keepIn K (.ref f5) = true)
    (kC5 : keepIn K (.ref c5) = true)
    (eC5 : subIn K (.ref c5) (.type "BaseException") = some true)
    (tC5 : typeIn K (.ref c5) = some (.type "type"))
    (hC5 : hasDictIn K c5 = true)
    (ha5 : findIn K (.ref c5) "__class__" = some (some (.builtin "object.__class__")))
    (hm5 : mroIn K c5 (.type "object") = some true)
    (aC6 : nsIn K mainGlobals "InvalidStock" = some (some (.ref c6)))
    (x6 : K.lookup c6 = some (excClassObj nm6 q6 c6 N6 bs6 [.ref cD, .type "Exception", .type "BaseException", .type "object"] true sn6 sub6 ab6 col6 dd6 m06 m16 m26 m36 m56 "Exception.__new__"))
    (sa6 : findIn K (.ref c6) "__setattr__" = some (some (.builtin "object.__setattr__")))
    (ga6 : findIn K (.ref c6) "__getattribute__" = some (some (.builtin "BaseException.__getattribute__")))
    (gg6 : findIn K (.ref c6) "__getattr__" = some none)
    (n6_0 : findIn K (.ref c6) "value" = some none)
    (a6 : findIn K (.ref c6) "__init__" = some (some (.ref f6)))
    (t6 : typeIn K (.ref f6) = some (.type "function"))
    (l6 : K.lookup f6 = some ⟨oc6, od6, .func (PySem.W.fnOf "__init__" "InvalidStock.__init__" (defArgs sI6) (defBody sI6) (defScope sI6) .none kV6 dc6 pm6 an6 cd6 ct6), sl6⟩)
    (cc6 : codeIn K cd6 "InvalidStock.__init__" = true)
    (kf6 : keepIn K (.ref f6) = true)
    (kC6 : keepIn K (.ref c6) = true)
    (eC6 : subIn K (.ref c6) (.type "BaseException") = some true)
    (tC6 : typeIn K (.ref c6) = some (.type "type"))
    (hC6 : hasDictIn K c6 = true)
    (ha6 : findIn K (.ref c6) "__class__" = some (some (.builtin "object.__class__")))
    (hm6 : mroIn K c6 (.type "object") = some true)
    (aC7 : nsIn K mainGlobals "InvalidEdit" = some (some (.ref c7)))
    (x7 : K.lookup c7 = some (excClassObj nm7 q7 c7 N7 bs7 [.ref cD, .type "Exception", .type "BaseException", .type "object"] true sn7 sub7 ab7 col7 dd7 m07 m17 m27 m37 m57 "Exception.__new__"))
    (sa7 : findIn K (.ref c7) "__setattr__" = some (some (.builtin "object.__setattr__")))
    (ga7 : findIn K (.ref c7) "__getattribute__" = some (some (.builtin "BaseException.__getattribute__")))
    (gg7 : findIn K (.ref c7) "__getattr__" = some none)
    (n7_0 : findIn K (.ref c7) "edit" = some none)
    (a7 : findIn K (.ref c7) "__init__" = some (some (.ref f7)))
    (t7 : typeIn K (.ref f7) = some (.type "function"))
    (l7 : K.lookup f7 = some ⟨oc7, od7, .func (PySem.W.fnOf "__init__" "InvalidEdit.__init__" (defArgs sI7) (defBody sI7) (defScope sI7) .none kV7 dc7 pm7 an7 cd7 ct7), sl7⟩)
    (cc7 : codeIn K cd7 "InvalidEdit.__init__" = true)
    (kf7 : keepIn K (.ref f7) = true)
    (kC7 : keepIn K (.ref c7) = true)
    (eC7 : subIn K (.ref c7) (.type "BaseException") = some true)
    (tC7 : typeIn K (.ref c7) = some (.type "type"))
    (hC7 : hasDictIn K c7 = true)
    (ha7 : findIn K (.ref c7) "__class__" = some (some (.builtin "object.__class__")))
    (hm7 : mroIn K c7 (.type "object") = some true)
    (aC8 : nsIn K mainGlobals "InvalidText" = some (some (.ref c8)))
    (x8 : K.lookup c8 = some (excClassObj nm8 q8 c8 N8 bs8 [.ref cD, .type "Exception", .type "BaseException", .type "object"] true sn8 sub8 ab8 col8 dd8 m08 m18 m28 m38 m58 "Exception.__new__"))
    (sa8 : findIn K (.ref c8) "__setattr__" = some (some (.builtin "object.__setattr__")))
    (ga8 : findIn K (.ref c8) "__getattribute__" = some (some (.builtin "BaseException.__getattribute__")))
    (gg8 : findIn K (.ref c8) "__getattr__" = some none)
    (n8_0 : findIn K (.ref c8) "line" = some none)
    (a8 : findIn K (.ref c8) "__init__" = some (some (.ref f8)))
    (t8 : typeIn K (.ref f8) = some (.type "function"))
    (l8 : K.lookup f8 = some ⟨oc8, od8, .func (PySem.W.fnOf "__init__" "InvalidText.__init__" (defArgs sI8) (defBody sI8) (defScope sI8) .none kV8 dc8 pm8 an8 cd8 ct8), sl8⟩)
    (cc8 : codeIn K cd8 "InvalidText.__init__" = true)
    (kf8 : keepIn K (.ref f8) = true)
    (kC8 : keepIn K (.ref c8) = true)
    (eC8 : subIn K (.ref c8) (.type "BaseException") = some true)
    (tC8 : typeIn K (.ref c8) = some (.type "type"))
    (hC8 : hasDictIn K c8 = true)
    (ha8 : findIn K (.ref c8) "__class__" = some (some (.builtin "object.__class__")))
    (hm8 : mroIn K c8 (.type "object") = some true)
    (aC9 : nsIn K mainGlobals "InvalidCommand" = some (some (.ref c9)))
    (x9 : K.lookup c9 = some (excClassObj nm9 q9 c9 N9 bs9 [.ref cD, .type "Exception", .type "BaseException", .type "object"] true sn9 sub9 ab9 col9 dd9 m09 m19 m29 m39 m59 "Exception.__new__"))
    (sa9 : findIn K (.ref c9) "__setattr__" = some (some (.builtin "object.__setattr__")))
    (ga9 : findIn K (.ref c9) "__getattribute__" = some (some (.builtin "BaseException.__getattribute__")))
    (gg9 : findIn K (.ref c9) "__getattr__" = some none)
    (n9_0 : findIn K (.ref c9) "word" = some none)
    (a9 : findIn K (.ref c9) "__init__" = some (some (.ref f9)))
    (t9 : typeIn K (.ref f9) = some (.type "function"))
    (l9 : K.lookup f9 = some ⟨oc9, od9, .func (PySem.W.fnOf "__init__" "InvalidCommand.__init__" (defArgs sI9) (defBody sI9) (defScope sI9) .none kV9 dc9 pm9 an9 cd9 ct9), sl9⟩)
    (cc9 : codeIn K cd9 "InvalidCommand.__init__" = true)
    (kf9 : keepIn K (.ref f9) = true)
    (kC9 : keepIn K (.ref c9) = true)
    (eC9 : subIn K (.ref c9) (.type "BaseException") = some true)
    (tC9 : typeIn K (.ref c9) = some (.type "type"))
    (hC9 : hasDictIn K c9 = true)
    (ha9 : findIn K (.ref c9) "__class__" = some (some (.builtin "object.__class__")))
    (hm9 : mroIn K c9 (.type "object") = some true)
    (aC10 : nsIn K mainGlobals "InvalidNumber" = some (some (.ref c10)))
    (x10 : K.lookup c10 = some (excClassObj nm10 q10 c10 N10 bs10 [.type "ValueError", .type "Exception", .type "BaseException", .type "object"] true sn10 sub10 ab10 col10 dd10 m010 m110 m210 m310 m510 "ValueError.__new__"))
    (sa10 : findIn K (.ref c10) "__setattr__" = some (some (.builtin "object.__setattr__")))
    (ga10 : findIn K (.ref c10) "__getattribute__" = some (some (.builtin "BaseException.__getattribute__")))
    (gg10 : findIn K (.ref c10) "__getattr__" = some none)
    (n10_0 : findIn K (.ref c10) "value" = some none)
    (a10 : findIn K (.ref c10) "__init__" = some (some (.ref f10)))
    (t10 : typeIn K (.ref f10) = some (.type "function"))
    (l10 : K.lookup f10 = some ⟨oc10, od10, .func (PySem.W.fnOf "__init__" "InvalidNumber.__init__" (defArgs sI10) (defBody sI10) (defScope sI10) .none kV10 dc10 pm10 an10 cd10 ct10), sl10⟩)
    (cc10 : codeIn K cd10 "InvalidNumber.__init__" = true)
    (kf10 : keepIn K (.ref f10) = true)
    (kC10 : keepIn K (.ref c10) = true)
    (eC10 : subIn K (.ref c10) (.type "BaseException") = some true)
    (tC10 : typeIn K (.ref c10) = some (.type "type"))
    (hC10 : hasDictIn K c10 = true)
    (ha10 : findIn K (.ref c10) "__class__" = some (some (.builtin "object.__class__")))
    (hm10 : mroIn K c10 (.type "object") = some true)
    (aC11 : nsIn K mainGlobals "LimitExceeded" = some (some (.ref c11)))
    (x11 : K.lookup c11 = some (excClassObj nm11 q11 c11 N11 bs11 [.type "OverflowError", .type "ArithmeticError", .type "Exception", .type "BaseException", .type "object"] true sn11 sub11 ab11 col11 dd11 m011 m111 m211 m311 m511 "OverflowError.__new__"))
    (sa11 : findIn K (.ref c11) "__setattr__" = some (some (.builtin "object.__setattr__")))
    (ga11 : findIn K (.ref c11) "__getattribute__" = some (some (.builtin "BaseException.__getattribute__")))
    (gg11 : findIn K (.ref c11) "__getattr__" = some none)
    (n11_0 : findIn K (.ref c11) "limit" = some none)
    (a11 : findIn K (.ref c11) "__init__" = some (some (.ref f11)))
    (t11 : typeIn K (.ref f11) = some (.type "function"))
    (l11 : K.lookup f11 = some ⟨oc11, od11, .func (PySem.W.fnOf "__init__" "LimitExceeded.__init__" (defArgs sI11) (defBody sI11) (defScope sI11) .none kV11 dc11 pm11 an11 cd11 ct11), sl11⟩)
    (cc11 : codeIn K cd11 "LimitExceeded.__init__" = true)
    (kf11 : keepIn K (.ref f11) = true)
    (kC11 : keepIn K (.ref c11) = true)
    (eC11 : subIn K (.ref c11) (.type "BaseException") = some true)
    (tC11 : typeIn K (.ref c11) = some (.type "type"))
    (hC11 : hasDictIn K c11 = true)
    (ha11 : findIn K (.ref c11) "__class__" = some (some (.builtin "object.__class__")))
    (hm11 : mroIn K c11 (.type "object") = some true)
    (aC12 : nsIn K mainGlobals "UnknownName" = some (some (.ref c12)))
    (x12 : K.lookup c12 = some (excClassObj nm12 q12 c12 N12 bs12 [.type "LookupError", .type "Exception", .type "BaseException", .type "object"] true sn12 sub12 ab12 col12 dd12 m012 m112 m212 m312 m512 "LookupError.__new__"))
    (sa12 : findIn K (.ref c12) "__setattr__" = some (some (.builtin "object.__setattr__")))
    (ga12 : findIn K (.ref c12) "__getattribute__" = some (some (.builtin "BaseException.__getattribute__")))
    (gg12 : findIn K (.ref c12) "__getattr__" = some none)
    (n12_0 : findIn K (.ref c12) "name" = some none)
    (a12 : findIn K (.ref c12) "__init__" = some (some (.ref f12)))
    (t12 : typeIn K (.ref f12) = some (.type "function"))
    (l12 : K.lookup f12 = some ⟨oc12, od12, .func (PySem.W.fnOf "__init__" "UnknownName.__init__" (defArgs sI12) (defBody sI12) (defScope sI12) .none kV12 dc12 pm12 an12 cd12 ct12), sl12⟩)
    (cc12 : codeIn K cd12 "UnknownName.__init__" = true)
    (kf12 : keepIn K (.ref f12) = true)
    (kC12 : keepIn K (.ref c12) = true)
    (eC12 : subIn K (.ref c12) (.type "BaseException") = some true)
    (tC12 : typeIn K (.ref c12) = some (.type "type"))
    (hC12 : hasDictIn K c12 = true)
    (ha12 : findIn K (.ref c12) "__class__" = some (some (.builtin "object.__class__")))
    (hm12 : mroIn K c12 (.type "object") = some true)
    (aC13 : nsIn K mainGlobals "NotRight" = some (some (.ref c13)))
    (x13 : K.lookup c13 = some (excClassObj nm13 q13 c13 N13 bs13 [.type "RuntimeError", .type "Exception", .type "BaseException", .type "object"] true sn13 sub13 ab13 col13 dd13 m013 m113 m213 m313 m513 "RuntimeError.__new__"))
    (sa13 : findIn K (.ref c13) "__setattr__" = some (some (.builtin "object.__setattr__")))
    (ga13 : findIn K (.ref c13) "__getattribute__" = some (some (.builtin "BaseException.__getattribute__")))
    (gg13 : findIn K (.ref c13) "__getattr__" = some none)
    (n13_0 : findIn K (.ref c13) "word" = some none)
    (n13_1 : findIn K (.ref c13) "paper" = some none)
    (a13 : findIn K (.ref c13) "__init__" = some (some (.ref f13)))
    (t13 : typeIn K (.ref f13) = some (.type "function"))
    (l13 : K.lookup f13 = some ⟨oc13, od13, .func (PySem.W.fnOf "__init__" "NotRight.__init__" (defArgs sI13) (defBody sI13) (defScope sI13) .none kV13 dc13 pm13 an13 cd13 ct13), sl13⟩)
    (cc13 : codeIn K cd13 "NotRight.__init__" = true)
    (kf13 : keepIn K (.ref f13) = true)
    (kC13 : keepIn K (.ref c13) = true)
    (eC13 : subIn K (.ref c13) (.type "BaseException") = some true)
    (tC13 : typeIn K (.ref c13) = some (.type "type"))
    (hC13 : hasDictIn K c13 = true)
    (ha13 : findIn K (.ref c13) "__class__" = some (some (.builtin "object.__class__")))
    (hm13 : mroIn K c13 (.type "object") = some true)
    (aC14 : nsIn K mainGlobals "NothingToUndo" = some (some (.ref c14)))
    (x14 : K.lookup c14 = some (excClassObj nm14 q14 c14 N14 bs14 [.type "RuntimeError", .type "Exception", .type "BaseException", .type "object"] true sn14 sub14 ab14 col14 dd14 m014 m114 m214 m314 m514 "RuntimeError.__new__"))
    (sa14 : findIn K (.ref c14) "__setattr__" = some (some (.builtin "object.__setattr__")))
    (ga14 : findIn K (.ref c14) "__getattribute__" = some (some (.builtin "BaseException.__getattribute__")))
    (gg14 : findIn K (.ref c14) "__getattr__" = some none)
    (n14_0 : findIn K (.ref c14) "name" = some none)
    (a14 : findIn K (.ref c14) "__init__" = some (some (.ref f14)))
    (t14 : typeIn K (.ref f14) = some (.type "function"))
    (l14 : K.lookup f14 = some ⟨oc14, od14, .func (PySem.W.fnOf "__init__" "NothingToUndo.__init__" (defArgs sI14) (defBody sI14) (defScope sI14) .none kV14 dc14 pm14 an14 cd14 ct14), sl14⟩)
    (cc14 : codeIn K cd14 "NothingToUndo.__init__" = true)
    (kf14 : keepIn K (.ref f14) = true)
    (kC14 : keepIn K (.ref c14) = true)
    (eC14 : subIn K (.ref c14) (.type "BaseException") = some true)
    (tC14 : typeIn K (.ref c14) = some (.type "type"))
    (hC14 : hasDictIn K c14 = true)
    (ha14 : findIn K (.ref c14) "__class__" = some (some (.builtin "object.__class__")))
    (hm14 : mroIn K c14 (.type "object") = some true)
    (hn : specialIn K (.builtin "object.__class__") "__get__" = some (some (.builtin "getset_descriptor.__get__")))
    (ht : takesIn K (.builtin "object.__class__") = some true)
    (aD : nsIn K mainGlobals "DownError" = some (some (.ref cD)))
    (kb : kitB K [c0, c1, c2, c3, c4, c5, c6, c7, c8, c9, c10, c11, c12, c13, c14] cD = true)
    (aNum : nsIn K mainGlobals "_law_numbers" = some (some (.ref fNum)))
    (lNum : K.lookup fNum = some ⟨ocNum, odNum, .func (PySem.W.fnOf "_law_numbers" "_law_numbers" (defArgs sNum) (defBody sNum) (defScope sNum) .none kVNum dcNum pmNum anNum cdNum ctNum), slNum⟩)
    (ccNum : codeIn K cdNum "_law_numbers" = true)
    (kfNum : keepIn K (.ref fNum) = true)
    (aM : nsIn K mainGlobals "_law_made" = some (some (.ref fM)))
    (lM : K.lookup fM = some ⟨ocM, odM, .func (PySem.W.fnOf "_law_made" "_law_made" (defArgs sM) (defBody sM) (defScope sM) .none kVM dcM pmM anM cdM ctM), slM⟩)
    (ccM : codeIn K cdM "_law_made" = true)
    (kfM : keepIn K (.ref fM) = true)
    (aNm : nsIn K mainGlobals "_law_named" = some (some (.ref fNm)))
    (lNm : K.lookup fNm = some ⟨ocNm, odNm, .func (PySem.W.fnOf "_law_named" "_law_named" (defArgs sNm) (defBody sNm) (defScope sNm) .none kVNm dcNm pmNm anNm cdNm ctNm), slNm⟩)
    (ccNm : codeIn K cdNm "_law_named" = true)
    (kfNm : keepIn K (.ref fNm) = true)
    (aF : nsIn K mainGlobals "_law_fields" = some (some (.ref fF)))
    (lF : K.lookup fF = some ⟨ocF, odF, .func (PySem.W.fnOf "_law_fields" "_law_fields" (defArgs sF) (defBody sF) (defScope sF) .none kVF dcF pmF anF cdF ctF), slF⟩)
    (ccF : codeIn K cdF "_law_fields" = true)
    (kfF : keepIn K (.ref fF) = true)
    (aKi : nsIn K mainGlobals "_law_kinds" = some (some (.ref fKi)))
    (lKi : K.lookup fKi = some ⟨ocKi, odKi, .func (PySem.W.fnOf "_law_kinds" "_law_kinds" (defArgs sKi) (defBody sKi) (defScope sKi) .none kVKi dcKi pmKi anKi cdKi ctKi), slKi⟩)
    (ccKi : codeIn K cdKi "_law_kinds" = true)
    (kfKi : keepIn K (.ref fKi) = true)
    (aBa : nsIn K mainGlobals "_law_bases" = some (some (.ref fBa)))
    (lBa : K.lookup fBa = some ⟨ocBa, odBa, .func (PySem.W.fnOf "_law_bases" "_law_bases" (defArgs sBa) (defBody sBa) (defScope sBa) .none kVBa dcBa pmBa anBa cdBa ctBa), slBa⟩)
    (ccBa : codeIn K cdBa "_law_bases" = true)
    (kfBa : keepIn K (.ref fBa) = true)
    (aL : nsIn K mainGlobals "law" = some (some (.ref fL)))
    (lL : K.lookup fL = some ⟨ocL, odL, .func (PySem.W.fnOf "law" "law" (defArgs sL) (defBody sL) (defScope sL) .none kVL dcL pmL anL cdL ctL), slL⟩)
    (ccL : codeIn K cdL "law" = true)
    (kfL : keepIn K (.ref fL) = true)
    (z_max : nsIn K mainGlobals "max" = some none)
    (z_range : nsIn K mainGlobals "range" = some none)
    (z_len : nsIn K mainGlobals "len" = some none)
    (z_isinstance : nsIn K mainGlobals "isinstance" = some none)
    (z_ValueError : nsIn K mainGlobals "ValueError" = some none)
    (z_OverflowError : nsIn K mainGlobals "OverflowError" = some none)
    (z_LookupError : nsIn K mainGlobals "LookupError" = some none)
    (z_RuntimeError : nsIn K mainGlobals "RuntimeError" = some none)
    (z_KeyError : nsIn K mainGlobals "KeyError" = some none)
    (z_enumerate : nsIn K mainGlobals "enumerate" = some none)
    (z_int : nsIn K mainGlobals "int" = some none)
    (z_repr : nsIn K mainGlobals "repr" = some none)
    (z_Exception : nsIn K mainGlobals "Exception" = some none)
    : ∃ fd : FuncData, (∀ (s : Shared) (v : Value), BindsTo s fd ⟨[v], []⟩ [("_law_script", v)]) ∧ ∀ base : Heap, K.In base → base.Ns mainGlobals mg → FnOkG P w K mg base CX0 4 fa fd ["_law_script"] (sp_law K) := by
  have e := hfa.symm.trans (PySem.W.mg_of X G aL)
  cases e
  have o0 : OexG K c0 f0 := ⟨⟨_, _, _, _, PySem.F.excBase_Exception, PySem.F.store_Exception, _, _, _, _, _, _, _, _, _, _, _, _, _, _, _, x0, by rfl⟩, sa0, ga0, gg0, eC0, tC0, kC0, hC0, a0, t0, ha0, hn, ht, hm0⟩
  have F0 := fun_mk (st := sI0) l0 cc0 kf0
  have o1 : OexG K c1 f1 := ⟨⟨_, _, _, _, PySem.F.excBase_Exception, PySem.F.store_Exception, _, _, _, _, _, _, _, _, _, _, _, _, _, _, _, x1, by rfl⟩, sa1, ga1, gg1, eC1, tC1, kC1, hC1, a1, t1, ha1, hn, ht, hm1⟩
  have F1 := fun_mk (st := sI1) l1 cc1 kf1
  have o2 : OexG K c2 f2 := ⟨⟨_, _, _, _, PySem.F.excBase_Exception, PySem.F.store_Exception, _, _, _, _, _, _, _, _, _, _, _, _, _, _, _, x2, by rfl⟩, sa2, ga2, gg2, eC2, tC2, kC2, hC2, a2, t2, ha2, hn, ht, hm2⟩
  have F2 := fun_mk (st := sI2) l2 cc2 kf2
  have o3 : OexG K c3 f3 := ⟨⟨_, _, _, _, PySem.F.excBase_Exception, PySem.F.store_Exception, _, _, _, _, _, _, _, _, _, _, _, _, _, _, _, x3, by rfl⟩, sa3, ga3, gg3, eC3, tC3, kC3, hC3, a3, t3, ha3, hn, ht, hm3⟩
  have F3 := fun_mk (st := sI3) l3 cc3 kf3
  have o4 : OexG K c4 f4 := ⟨⟨_, _, _, _, PySem.F.excBase_Exception, PySem.F.store_Exception, _, _, _, _, _, _, _, _, _, _, _, _, _, _, _, x4, by rfl⟩, sa4, ga4, gg4, eC4, tC4, kC4, hC4, a4, t4, ha4, hn, ht, hm4⟩
  have F4 := fun_mk (st := sI4) l4 cc4 kf4
  have o5 : OexG K c5 f5 := ⟨⟨_, _, _, _, PySem.F.excBase_Exception, PySem.F.store_Exception, _, _, _, _, _, _, _, _, _, _, _, _, _, _, _, x5, by rfl⟩, sa5, ga5, gg5, eC5, tC5, kC5, hC5, a5, t5, ha5, hn, ht, hm5⟩
  have F5 := fun_mk (st := sI5) l5 cc5 kf5
  have o6 : OexG K c6 f6 := ⟨⟨_, _, _, _, PySem.F.excBase_Exception, PySem.F.store_Exception, _, _, _, _, _, _, _, _, _, _, _, _, _, _, _, x6, by rfl⟩, sa6, ga6, gg6, eC6, tC6, kC6, hC6, a6, t6, ha6, hn, ht, hm6⟩
  have F6 := fun_mk (st := sI6) l6 cc6 kf6
  have o7 : OexG K c7 f7 := ⟨⟨_, _, _, _, PySem.F.excBase_Exception, PySem.F.store_Exception, _, _, _, _, _, _, _, _, _, _, _, _, _, _, _, x7, by rfl⟩, sa7, ga7, gg7, eC7, tC7, kC7, hC7, a7, t7, ha7, hn, ht, hm7⟩
  have F7 := fun_mk (st := sI7) l7 cc7 kf7
  have o8 : OexG K c8 f8 := ⟨⟨_, _, _, _, PySem.F.excBase_Exception, PySem.F.store_Exception, _, _, _, _, _, _, _, _, _, _, _, _, _, _, _, x8, by rfl⟩, sa8, ga8, gg8, eC8, tC8, kC8, hC8, a8, t8, ha8, hn, ht, hm8⟩
  have F8 := fun_mk (st := sI8) l8 cc8 kf8
  have o9 : OexG K c9 f9 := ⟨⟨_, _, _, _, PySem.F.excBase_Exception, PySem.F.store_Exception, _, _, _, _, _, _, _, _, _, _, _, _, _, _, _, x9, by rfl⟩, sa9, ga9, gg9, eC9, tC9, kC9, hC9, a9, t9, ha9, hn, ht, hm9⟩
  have F9 := fun_mk (st := sI9) l9 cc9 kf9
  have o10 : OexG K c10 f10 := ⟨⟨_, _, _, _, PySem.F.excBase_ValueError, PySem.F.store_ValueError, _, _, _, _, _, _, _, _, _, _, _, _, _, _, _, x10, by rfl⟩, sa10, ga10, gg10, eC10, tC10, kC10, hC10, a10, t10, ha10, hn, ht, hm10⟩
  have F10 := fun_mk (st := sI10) l10 cc10 kf10
  have o11 : OexG K c11 f11 := ⟨⟨_, _, _, _, PySem.F.excBase_OverflowError, PySem.F.store_OverflowError, _, _, _, _, _, _, _, _, _, _, _, _, _, _, _, x11, by rfl⟩, sa11, ga11, gg11, eC11, tC11, kC11, hC11, a11, t11, ha11, hn, ht, hm11⟩
  have F11 := fun_mk (st := sI11) l11 cc11 kf11
  have o12 : OexG K c12 f12 := ⟨⟨_, _, _, _, PySem.F.excBase_LookupError, PySem.F.store_LookupError, _, _, _, _, _, _, _, _, _, _, _, _, _, _, _, x12, by rfl⟩, sa12, ga12, gg12, eC12, tC12, kC12, hC12, a12, t12, ha12, hn, ht, hm12⟩
  have F12 := fun_mk (st := sI12) l12 cc12 kf12
  have o13 : OexG K c13 f13 := ⟨⟨_, _, _, _, PySem.F.excBase_RuntimeError, PySem.F.store_RuntimeError, _, _, _, _, _, _, _, _, _, _, _, _, _, _, _, x13, by rfl⟩, sa13, ga13, gg13, eC13, tC13, kC13, hC13, a13, t13, ha13, hn, ht, hm13⟩
  have F13 := fun_mk (st := sI13) l13 cc13 kf13
  have o14 : OexG K c14 f14 := ⟨⟨_, _, _, _, PySem.F.excBase_RuntimeError, PySem.F.store_RuntimeError, _, _, _, _, _, _, _, _, _, _, _, _, _, _, _, x14, by rfl⟩, sa14, ga14, gg14, eC14, tC14, kC14, hC14, a14, t14, ha14, hn, ht, hm14⟩
  have F14 := fun_mk (st := sI14) l14 cc14 kf14
  have FNum := fun_mk (st := sNum) lNum ccNum kfNum
  have FM := fun_mk (st := sM) lM ccM kfM
  have FNm := fun_mk (st := sNm) lNm ccNm kfNm
  have FF := fun_mk (st := sF) lF ccF kfF
  have FKi := fun_mk (st := sKi) lKi ccKi kfKi
  have FBa := fun_mk (st := sBa) lBa ccBa kfBa
  have FL := fun_mk (st := sL) lL ccL kfL
  obtain ⟨Z, ze⟩ := kit_of_B kb
  have z : ∀ {x : Str}, nsIn K mainGlobals x = some none → mg x = none := fun e => PySem.W.mg_none_of X G e
  refine ⟨PySem.W.fnOf "law" "law" (defArgs sL) (defBody sL) (defScope sL) .none kVL dcL pmL anL cdL ctL, fun s v => .of_eq rfl, fun base _ _ => ?_⟩
  have T : Cl P w K mg base (fun i => [c0, c1, c2, c3, c4, c5, c6, c7, c8, c9, c10, c11, c12, c13, c14].getD i 0) (fun i => [f0, f1, f2, f3, f4, f5, f6, f7, f8, f9, f10, f11, f12, f13, f14].getD i 0) := ⟨er0 F0 (PySem.W.mg_of X G aC0) o0 n0_0, er1 F1 (PySem.W.mg_of X G aC1) o1 n1_0 n1_1, er2 F2 (PySem.W.mg_of X G aC2) o2 n2_0 n2_1, er3 F3 (PySem.W.mg_of X G aC3) o3 n3_0, er4 F4 (PySem.W.mg_of X G aC4) o4 n4_0, er5 F5 (PySem.W.mg_of X G aC5) o5 n5_0, er6 F6 (PySem.W.mg_of X G aC6) o6 n6_0, er7 F7 (PySem.W.mg_of X G aC7) o7 n7_0, er8 F8 (PySem.W.mg_of X G aC8) o8 n8_0, er9 F9 (PySem.W.mg_of X G aC9) o9 n9_0, er10 F10 (PySem.W.mg_of X G aC10) o10 n10_0, er11 F11 (PySem.W.mg_of X G aC11) o11 n11_0, er12 F12 (PySem.W.mg_of X G aC12) o12 n12_0, er13 F13 (PySem.W.mg_of X G aC13) o13 n13_0 n13_1, er14 F14 (PySem.W.mg_of X G aC14) o14 n14_0⟩
  exact ok_law FL T Z (ze 3 (by decide)) (ze 13 (by decide))
    (ok_num (k := 0) FNum (z z_max) (z z_range) (z z_len)) ⟨PySem.W.mg_of X G aNum, kfNum, FNum.binds (ps := ["_law_cell", "_law_salt", "_law_sizes"]) fun _ _ _ _ _ _ us hl => match us, hl with | [_, _, _], _ => rfl⟩
    (ok_M FM T) ⟨PySem.W.mg_of X G aM, kfM, FM.binds (ps := ["_law_one", "_law_two"]) fun _ _ _ _ _ _ us hl => match us, hl with | [_, _], _ => rfl⟩
    (ok_Nm FNm T) ⟨PySem.W.mg_of X G aNm, kfNm, FNm.binds (ps := ["_law_one", "_law_two"]) fun _ _ _ _ _ _ us hl => match us, hl with | [_, _], _ => rfl⟩
    (ok_F FF T) ⟨PySem.W.mg_of X G aF, kfF, FF.binds (ps := ["_law_some"]) fun _ _ _ _ _ _ us hl => match us, hl with | [_], _ => rfl⟩
    (ok_Ki FKi T Z (z z_isinstance)) ⟨PySem.W.mg_of X G aKi, kfKi, FKi.binds (ps := ["_law_e"]) fun _ _ _ _ _ _ us hl => match us, hl with | [_], _ => rfl⟩
    (ok_Ba FBa T Z (z z_isinstance) (PySem.W.mg_of X G aD) (z z_ValueError) (z z_OverflowError) (z z_LookupError) (z z_RuntimeError) (z z_KeyError)) ⟨PySem.W.mg_of X G aBa, kfBa, FBa.binds (ps := ["_law_e"]) fun _ _ _ _ _ _ us hl => match us, hl with | [_], _ => rfl⟩
    (z z_enumerate) (z z_int) (z z_repr) (z z_range) (z z_isinstance) (z z_Exception)
theorem walk {l : PySem.W.OpenLaw} {q : Program} {loose : List Str} {XP : (Str → Option Value) → Heap → Prop} {YP : World → Heap → Prop} {d : DefRec} {K : Params → PySem.W.Frag} (hn : l.most = some 63) (hdf : d.params.defaults = [])
    (hY : ∀ (w : World) (h : Heap), YP w h → (K w.params).In h)
    (F : ∀ (w : World) (mg : Str → Option Value) (fa : Addr) (h : Heap), (K w.params).In h → h.Ns mainGlobals mg → mg d.name = some (.ref fa) →
      ∃ fd : FuncData, (∀ (s : Shared) (u : Value), BindsTo s fd ⟨[u], []⟩ [("_law_script", u)]) ∧ ∀ base : Heap, (K w.params).In base → base.Ns mainGlobals mg → FnOkG l.prog w (K w.params) mg base CX0 4 fa fd ["_law_script"] (sp_law (K w.params))) :
    PySem.W.WalkO q loose XP YP l.row.toRowW d [] (fun f vs => PySem.call f vs) :=
  L2.walk_ofG (n := 63) (k := 4) (x := "_law_script") (CX := fun _ => CX0) (sp := fun w => sp_law (K w.params)) hn (by decide) hdf ⟨rfl, by decide, by decide⟩ hY F (fun _ _ a ns hl _ hS => ⟨a, ns, rfl, hS, hl, fun _ => rfl⟩) fun _ _ _ _ _ z => z
end Lw
open PySem PySem.W PyProof.Rows
set_option maxRecDepth 100000 in
set_option maxHeartbeats 0 in
theorem PySem.Challenge.cw_takendown_k01_error_classes_holds : PySem.Challenge.rw_takendown_k01_error_classes.Holds := by
  w_on; o_law; k_head; (case hw => w_witness2)
  k_fill
  refine Lw.walk (l := PySem.Challenge.rw_takendown_k01_error_classes) rfl rfl (fun w h Y => PySem.W.kIn_of Y) ?F
  case F =>
    intro w mg fa h KX G hmg
    refine' Lw.all_mk KX G hmg ?aC0 ?x0 ?sa0 ?ga0 ?gg0 ?n0_0 ?a0 ?t0 ?l0 ?cc0 ?kf0 ?kC0 ?eC0 ?tC0 ?hC0 ?ha0 ?hm0 ?aC1 ?x1 ?sa1 ?ga1 ?gg1 ?n1_0 ?n1_1 ?a1 ?t1 ?l1 ?cc1 ?kf1 ?kC1 ?eC1 ?tC1 ?hC1 ?ha1 ?hm1 ?aC2 ?x2 ?sa2 ?ga2 ?gg2 ?n2_0 ?n2_1 ?a2 ?t2 ?l2 ?cc2 ?kf2 ?kC2 ?eC2 ?tC2 ?hC2 ?ha2 ?hm2 ?aC3 ?x3 ?sa3 ?ga3 ?gg3 ?n3_0 ?a3 ?t3 ?l3 ?cc3 ?kf3 ?kC3 ?eC3 ?tC3 ?hC3 ?ha3 ?hm3 ?aC4 ?x4 ?sa4 ?ga4 ?gg4 ?n4_0 ?a4 ?t4 ?l4 ?cc4 ?kf4 ?kC4 ?eC4 ?tC4 ?hC4 ?ha4 ?hm4 ?aC5 ?x5 ?sa5 ?ga5 ?gg5 ?n5_0 ?a5 ?t5 ?l5 ?cc5 ?kf5 ?kC5 ?eC5 ?tC5 ?hC5 ?ha5 ?hm5 ?aC6 ?x6 ?sa6 ?ga6 ?gg6 ?n6_0 ?a6 ?t6 ?l6 ?cc6 ?kf6 ?kC6 ?eC6 ?tC6 ?hC6 ?ha6 ?hm6 ?aC7 ?x7 ?sa7 ?ga7 ?gg7 ?n7_0 ?a7 ?t7 ?l7 ?cc7 ?kf7 ?kC7 ?eC7 ?tC7 ?hC7 ?ha7 ?hm7 ?aC8 ?x8 ?sa8 ?ga8 ?gg8 ?n8_0 ?a8 ?t8 ?l8 ?cc8 ?kf8 ?kC8 ?eC8 ?tC8 ?hC8 ?ha8 ?hm8 ?aC9 ?x9 ?sa9 ?ga9 ?gg9 ?n9_0 ?a9 ?t9 ?l9 ?cc9 ?kf9 ?kC9 ?eC9 ?tC9 ?hC9 ?ha9 ?hm9 ?aC10 ?x10 ?sa10 ?ga10 ?gg10 ?n10_0 ?a10 ?t10 ?l10 ?cc10 ?kf10 ?kC10 ?eC10 ?tC10 ?hC10 ?ha10 ?hm10 ?aC11 ?x11 ?sa11 ?ga11 ?gg11 ?n11_0 ?a11 ?t11 ?l11 ?cc11 ?kf11 ?kC11 ?eC11 ?tC11 ?hC11 ?ha11 ?hm11 ?aC12 ?x12 ?sa12 ?ga12 ?gg12 ?n12_0 ?a12 ?t12 ?l12 ?cc12 ?kf12 ?kC12 ?eC12 ?tC12 ?hC12 ?ha12 ?hm12 ?aC13 ?x13 ?sa13 ?ga13 ?gg13 ?n13_0 ?n13_1 ?a13 ?t13 ?l13 ?cc13 ?kf13 ?kC13 ?eC13 ?tC13 ?hC13 ?ha13 ?hm13 ?aC14 ?x14 ?sa14 ?ga14 ?gg14 ?n14_0 ?a14 ?t14 ?l14 ?cc14 ?kf14 ?kC14 ?eC14 ?tC14 ?hC14 ?ha14 ?hm14 ?hn ?ht ?aD ?kb ?aNum ?lNum ?ccNum ?kfNum ?aM ?lM ?ccM ?kfM ?aNm ?lNm ?ccNm ?kfNm ?aF ?lF ?ccF ?kfF ?aKi ?lKi ?ccKi ?kfKi ?aBa ?lBa ?ccBa ?kfBa ?aL ?lL ?ccL ?kfL ?z_max ?z_range ?z_len ?z_isinstance ?z_ValueError ?z_OverflowError ?z_LookupError ?z_RuntimeError ?z_KeyError ?z_enumerate ?z_int ?z_repr ?z_Exception
    (case aC0 => k_is)
    (case x0 => k_is)
    (case sa0 => k_is)
    (case ga0 => k_is)
    (case gg0 => k_is)
    (case n0_0 => k_is)
    (case a0 => k_is)
    (case t0 => k_is)
    (case l0 => k_is)
    (case cc0 => k_is)
    (case kf0 => k_is)
    (case kC0 => k_is)
    (case eC0 => k_is)
    (case tC0 => k_is)
    (case hC0 => k_is)
    (case ha0 => k_is)
    (case hm0 => k_is)
    (case aC1 => k_is)
    (case x1 => k_is)
    (case sa1 => k_is)
    (case ga1 => k_is)
    (case gg1 => k_is)
    (case n1_0 => k_is)
    (case n1_1 => k_is)
    (case a1 => k_is)
    (case t1 => k_is)
    (case l1 => k_is)
    (case cc1 => k_is)
    (case kf1 => k_is)
    (case kC1 => k_is)
    (case eC1 => k_is)
    (case tC1 => k_is)
    (case hC1 => k_is)
    (case ha1 => k_is)
    (case hm1 => k_is)
    (case aC2 => k_is)
    (case x2 => k_is)
    (case sa2 => k_is)
    (case ga2 => k_is)
    (case gg2 => k_is)
    (case n2_0 => k_is)
    (case n2_1 => k_is)
    (case a2 => k_is)
    (case t2 => k_is)
    (case l2 => k_is)
    (case cc2 => k_is)
    (case kf2 => k_is)
    (case kC2 => k_is)
    (case eC2 => k_is)
    (case tC2 => k_is)
    (case hC2 => k_is)
    (case ha2 => k_is)
    (case hm2 => k_is)
    (case aC3 => k_is)
    (case x3 => k_is)
    (case sa3 => k_is)
    (case ga3 => k_is)
    (case gg3 => k_is)
    (case n3_0 => k_is)
    (case a3 => k_is)
    (case t3 => k_is)
    (case l3 => k_is)
    (case cc3 => k_is)
    (case kf3 => k_is)
    (case kC3 => k_is)
    (case eC3 => k_is)
    (case tC3 => k_is)
    (case hC3 => k_is)
    (case ha3 => k_is)
    (case hm3 => k_is)
    (case aC4 => k_is)
    (case x4 => k_is)
    (case sa4 => k_is)
    (case ga4 => k_is)
    (case gg4 => k_is)
    (case n4_0 => k_is)
    (case a4 => k_is)
    (case t4 => k_is)
    (case l4 => k_is)
    (case cc4 => k_is)
    (case kf4 => k_is)
    (case kC4 => k_is)
    (case eC4 => k_is)
    (case tC4 => k_is)
    (case hC4 => k_is)
    (case ha4 => k_is)
    (case hm4 => k_is)
    (case aC5 => k_is)
    (case x5 => k_is)
    (case sa5 => k_is)
    (case ga5 => k_is)
    (case gg5 => k_is)
    (case n5_0 => k_is)
    (case a5 => k_is)
    (case t5 => k_is)
    (case l5 => k_is)
    (case cc5 => k_is)
    (case kf5 => k_is)
    (case kC5 => k_is)
    (case eC5 => k_is)
    (case tC5 => k_is)
    (case hC5 => k_is)
    (case ha5 => k_is)
    (case hm5 => k_is)
    (case aC6 => k_is)
    (case x6 => k_is)
    (case sa6 => k_is)
    (case ga6 => k_is)
    (case gg6 => k_is)
    (case n6_0 => k_is)
    (case a6 => k_is)
    (case t6 => k_is)
    (case l6 => k_is)
    (case cc6 => k_is)
    (case kf6 => k_is)
    (case kC6 => k_is)
    (case eC6 => k_is)
    (case tC6 => k_is)
    (case hC6 => k_is)
    (case ha6 => k_is)
    (case hm6 => k_is)
    (case aC7 => k_is)
    (case x7 => k_is)
    (case sa7 => k_is)
    (case ga7 => k_is)
    (case gg7 => k_is)
    (case n7_0 => k_is)
    (case a7 => k_is)
    (case t7 => k_is)
    (case l7 => k_is)
    (case cc7 => k_is)
    (case kf7 => k_is)
    (case kC7 => k_is)
    (case eC7 => k_is)
    (case tC7 => k_is)
    (case hC7 => k_is)
    (case ha7 => k_is)
    (case hm7 => k_is)
    (case aC8 => k_is)
    (case x8 => k_is)
    (case sa8 => k_is)
    (case ga8 => k_is)
    (case gg8 => k_is)
    (case n8_0 => k_is)
    (case a8 => k_is)
    (case t8 => k_is)
    (case l8 => k_is)
    (case cc8 => k_is)
    (case kf8 => k_is)
    (case kC8 => k_is)
    (case eC8 => k_is)
    (case tC8 => k_is)
    (case hC8 => k_is)
    (case ha8 => k_is)
    (case hm8 => k_is)
    (case aC9 => k_is)
    (case x9 => k_is)
    (case sa9 => k_is)
    (case ga9 => k_is)
    (case gg9 => k_is)
    (case n9_0 => k_is)
    (case a9 => k_is)
    (case t9 => k_is)
    (case l9 => k_is)
    (case cc9 => k_is)
    (case kf9 => k_is)
    (case kC9 => k_is)
    (case eC9 => k_is)
    (case tC9 => k_is)
    (case hC9 => k_is)
    (case ha9 => k_is)
    (case hm9 => k_is)
    (case aC10 => k_is)
    (case x10 => k_is)
    (case sa10 => k_is)
    (case ga10 => k_is)
    (case gg10 => k_is)
    (case n10_0 => k_is)
    (case a10 => k_is)
    (case t10 => k_is)
    (case l10 => k_is)
    (case cc10 => k_is)
    (case kf10 => k_is)
    (case kC10 => k_is)
    (case eC10 => k_is)
    (case tC10 => k_is)
    (case hC10 => k_is)
    (case ha10 => k_is)
    (case hm10 => k_is)
    (case aC11 => k_is)
    (case x11 => k_is)
    (case sa11 => k_is)
    (case ga11 => k_is)
    (case gg11 => k_is)
    (case n11_0 => k_is)
    (case a11 => k_is)
    (case t11 => k_is)
    (case l11 => k_is)
    (case cc11 => k_is)
    (case kf11 => k_is)
    (case kC11 => k_is)
    (case eC11 => k_is)
    (case tC11 => k_is)
    (case hC11 => k_is)
    (case ha11 => k_is)
    (case hm11 => k_is)
    (case aC12 => k_is)
    (case x12 => k_is)
    (case sa12 => k_is)
    (case ga12 => k_is)
    (case gg12 => k_is)
    (case n12_0 => k_is)
    (case a12 => k_is)
    (case t12 => k_is)
    (case l12 => k_is)
    (case cc12 => k_is)
    (case kf12 => k_is)
    (case kC12 => k_is)
    (case eC12 => k_is)
    (case tC12 => k_is)
    (case hC12 => k_is)
    (case ha12 => k_is)
    (case hm12 => k_is)
    (case aC13 => k_is)
    (case x13 => k_is)
    (case sa13 => k_is)
    (case ga13 => k_is)
    (case gg13 => k_is)
    (case n13_0 => k_is)
    (case n13_1 => k_is)
    (case a13 => k_is)
    (case t13 => k_is)
    (case l13 => k_is)
    (case cc13 => k_is)
    (case kf13 => k_is)
    (case kC13 => k_is)
    (case eC13 => k_is)
    (case tC13 => k_is)
    (case hC13 => k_is)
    (case ha13 => k_is)
    (case hm13 => k_is)
    (case aC14 => k_is)
    (case x14 => k_is)
    (case sa14 => k_is)
    (case ga14 => k_is)
    (case gg14 => k_is)
    (case n14_0 => k_is)
    (case a14 => k_is)
    (case t14 => k_is)
    (case l14 => k_is)
    (case cc14 => k_is)
    (case kf14 => k_is)
    (case kC14 => k_is)
    (case eC14 => k_is)
    (case tC14 => k_is)
    (case hC14 => k_is)
    (case ha14 => k_is)
    (case hm14 => k_is)
    (case hn => k_is)
    (case ht => k_is)
    (case aD => k_is)
    (case aNum => k_is)
    (case lNum => k_is)
    (case ccNum => k_is)
    (case kfNum => k_is)
    (case aM => k_is)
    (case lM => k_is)
    (case ccM => k_is)
    (case kfM => k_is)
    (case aNm => k_is)
    (case lNm => k_is)
    (case ccNm => k_is)
    (case kfNm => k_is)
    (case aF => k_is)
    (case lF => k_is)
    (case ccF => k_is)
    (case kfF => k_is)
    (case aKi => k_is)
    (case lKi => k_is)
    (case ccKi => k_is)
    (case kfKi => k_is)
    (case aBa => k_is)
    (case lBa => k_is)
    (case ccBa => k_is)
    (case kfBa => k_is)
    (case aL => k_is)
    (case lL => k_is)
    (case ccL => k_is)
    (case kfL => k_is)
    (case z_max => k_is)
    (case z_range => k_is)
    (case z_len => k_is)
    (case z_isinstance => k_is)
    (case z_ValueError => k_is)
    (case z_OverflowError => k_is)
    (case z_LookupError => k_is)
    (case z_RuntimeError => k_is)
    (case z_KeyError => k_is)
    (case z_enumerate => k_is)
    (case z_int => k_is)
    (case z_repr => k_is)
    (case z_Exception => k_is)
    (case kb => kernel_rfl)
