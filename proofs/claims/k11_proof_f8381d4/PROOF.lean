import PyProof.Rows.All
import Wide.All
import OpenK.AllK
import Wide.FinOn
import PyProof.Rows.NestShow
import HandS.ForMost
import HandS.ForExc
import HandS.Ends
import HandS.ExcInit
import HandS.ExcIs
import HandS.IsInst
import HandS.ExcField
import HandS.MakeKw
import HandS.MakeKwOnly
import KE.KExcInit
import KE.KExcIs
import KE.KOpsOwn
import HandS.Wide
import HandS.Flow
import HandS.Star
import HandS.ClsMeth
import HandS.Deep
import HandS.OwnEq
import HandS.TupAny
import HandS.More
import HandS.WrittenGet
import KE.GoesMore
import KE.GoesEnum
import KE.KRevSl
import PySem.Challenge.RW_takendown_k11_rows_judged
set_option Elab.async false
set_option linter.all false
set_option maxRecDepth 100000
set_option maxHeartbeats 4000000
/-! E1 -/
/-! ### own error classes with an __init__ of their own, over any built-in base; made by position and by keywords -/
namespace PySem
namespace LwX
open PySem.HandSPX Builtin Builtin.ObjectAttr
section
variable {M : Model} {A : Around} {E : Value → Shared → Prop} {h : Heap} {g : Array GenState} {d : Drawn} {t : Nat} {os : OsState}
variable {nm q : Str} {C N : Addr} {bs bm bmB : List Value} {hdct : Bool} {sn : List Str} {sub : List Value} {ab : Bool} {col : Option Bool} {dd : Option Addr} {k0 k1 k2 k3 k5 : Option Value} {B newId initId : String}
theorem check_new_kw (F : ExcBaseFacts B newId initId bmB) (hT : ∀ X : String, bm.contains (.type X) = bmB.contains (.type X)) {rest : List Value} {kw : List (Str × Value)} {Q : Unit → Shared → Prop}
    (hC : h.get? C = some (excClassObj nm q C N bs bm hdct sn sub ab col dd k0 k1 k2 k3 k5 newId)) (hq : Q () ⟨h, g, d, t, os⟩) : wpAny M A (checkBuiltinCall newId ⟨.ref C :: rest, kw⟩) Q E ⟨h, g, d, t, os⟩ := by
  have hcont : (Value.ref C :: bm).contains (.type B) = true := by rw [List.contains_cons, hT, F.hasB, Bool.or_true]
  have hstar := F.noStar
  simp only [checkBuiltinCall, F.newKind, F.newSplit, F.newRow]
  repeat (first | refine wpAny_loadPart_at hC ?_ | (refine wpAny_isSubtype_exc hC ?_; rw [hcont]) | refine wpAny_staticBase_exc hC ?_ | refine wpAny_madeBy_exc hC ?_ | simp only [bne_self_eq_false, Bool.false_eq_true, if_false] | wp_step)
  exact hq
end
section
variable {prog : Program} {w : World} {A : Around} {E : Value → Shared → Prop} {R : Result → Shared → Prop} {h : Heap} {g : Array GenState} {d : Drawn} {t : Nat} {os : OsState}
variable {nm q : Str} {C N : Addr} {bs bm bmB : List Value} {hdct : Bool} {sn : List Str} {sub : List Value} {ab : Bool} {col : Option Bool} {dd : Option Addr} {k0 k1 k2 k3 k5 : Option Value} {B newId initId : String}
theorem new_kw (F : ExcBaseFacts B newId initId bmB) (hT : ∀ X : String, bm.contains (.type X) = bmB.contains (.type X)) {rest : List Value} {kw : List (Str × Value)}
    (hC : h.get? C = some (excClassObj nm q C N bs bm hdct sn sub ab col dd k0 k1 k2 k3 k5 newId))
    (hq : R (.ok (.ret (.ref (h.objs.size + 1)))) ⟨(h.push { cls := .type "tuple", data := .seq rest.toArray }).push
      { cls := .ref C, data := .fields #[.ref h.objs.size, .none, .none, .none, .bool false, .none] }, g, d, t, os⟩) (hrest : rest.length ≤ sizeLine) :
    codeAny (model prog w) A (.builtin newId ⟨.ref C :: rest, kw⟩) R ⟨h, g, d, t, os⟩ := by
  have hends := F.ends
  have hcB : (Value.ref C :: bm).contains (.type B) = true := by rw [List.contains_cons, hT, F.hasB, Bool.or_true]
  have hcA : (Value.ref C :: bm).contains (.type "AttributeError") = false := by rw [List.contains_cons, hT, F.noAttr]; rfl
  have hcN : (Value.ref C :: bm).contains (.type "NameError") = false := by rw [List.contains_cons, hT, F.noName]; rfl
  refine codeAny_builtinAt F.entry ?_
  unfold Builtin.«BaseException.__new__»
  refine wpAt_bind ?_
  show wpAt _ _ _ (stack >>= _) _ _ _
  refine wpAt_bind (wpAt_stack fun p below => wpAt_of_wpAny ?_)
  wp_walk
  refine wpAt_of_wpAny ?_
  rw [F.owner]
  repeat (first | with_reducible refine wpAny_madeHere_exc F.canon hC ?_ | with_reducible refine wpAny_loadPart_at hC ?_ | (with_reducible refine wpAny_isSubtype_exc hC ?_; first | rw [hcB] | rw [hcA] | rw [hcN]) | wp_step)
  show R _ _
  rw [Heap.size_push]
  exact hq
theorem type_call_kw (F : ExcBaseFacts B newId initId bmB) (hT : ∀ X : String, bm.contains (.type X) = bmB.contains (.type X)) {rest : List Value} {kw : List (Str × Value)} {fI : Addr} {Q : Fin → Shared → Prop}
    (hC : h.get? C = some (excClassObj nm q C N bs bm hdct sn sub ab col dd k0 k1 k2 k3 k5 newId))
    (hi : W.Looks (model prog w) h (typeLookup (.ref C) "__init__") (some (.ref fI))) (hb : ∀ self, W.Looks (model prog w) h (bindSpecial (.ref fI) self) (.ref fI, [self])) (hrest : rest.length ≤ sizeLine)
    (hq : codeAny (model prog w) A (.call (.ref fI) ⟨.ref (h.objs.size + 1) :: rest, kw⟩)
      (fun r s' => match r with | .ok (.ret v) => v = .none ∧ Q (.done (.ret (.ref (h.objs.size + 1)))) s' | .ok _ => False | .error e => E e s')
      ⟨(h.push (W.kdv_tup rest)).push (excO C h.objs.size), g, d, t, os⟩) :
    wpAny (model prog w) A (Builtin.«type.__call__» ⟨.ref C :: rest, kw⟩) Q E ⟨h, g, d, t, os⟩ := by
  repeat (first | with_reducible refine wpAny_loadPart_at hC ?_ | with_reducible refine wpAny_madeBy_exc hC ?_ | wp_step)
  refine codeAny_call_builtin_code (Code.quiet_builtin _ F.quiet) (check_new_kw F hT hC ?_)
  refine new_kw F hT hC ?_ hrest
  show wpAny _ _ _ _ _ _
  have k : ∀ b o, h.get? b = some o → ((h.push (W.kdv_tup rest)).push (excO C h.objs.size)).get? b = some o := fun b o e => Heap.get?_push_of_some _ (Heap.get?_push_of_some _ e)
  have hC₁ := k _ _ hC
  have hget : ((h.push (W.kdv_tup rest)).push (excO C h.objs.size)).get? (h.objs.size + 1) = some (excO C h.objs.size) := by heap_get
  have hcC : (Value.ref C :: bm).contains (.ref C) = true := by simp
  have i1 := hi.keeps k
  have b1 := (hb (.ref (h.objs.size + 1))).keeps k
  unfold isInstance
  repeat (first | with_reducible refine wpAny_loadPart_at hget ?_ | (with_reducible refine wpAny_isSubtype_exc hC₁ ?_; rw [hcC]) | wp_step)
  show wpAny _ _ (typeLookup (.ref C) _) _ _ _
  refine i1.at ?_
  refine wpAny_holding (wpAny_bind (b1.at ?_))
  refine wpAny_bind (wpAny_call (codeAny_mono hq fun r s' z => ?_))
  rcases r with e | (v | _ | _ | _) <;> first | exact z | exact z.elim | skip
  obtain ⟨rfl, z⟩ := z
  first
    | exact wpAny_pure (wpAny_pure z)
    | (wp_walk; exact z)
theorem check_type_call_kw {M : Model} {rest : List Value} {kw : List (Str × Value)} {Q : Unit → Shared → Prop} (hC : h.get? C = some (excClassObj nm q C N bs bm hdct sn sub ab col dd k0 k1 k2 k3 k5 newId)) (hq : Q () ⟨h, g, d, t, os⟩) :
    wpAny M A (checkBuiltinCall "type.__call__" ⟨.ref C :: rest, kw⟩) Q E ⟨h, g, d, t, os⟩ := by
  have f3 := tc_sub
  have hT : (⟨h, g, d, t, os⟩ : Shared).TypeIs (.ref C) "type" := ⟨_, hC, rfl⟩
  simp only [checkBuiltinCall, tc_kind, tc_split]
  repeat (any_goals (first | assumption | with_reducible refine wpAny_loadPart_at hC ?_ | with_reducible refine wpAny_onRaise ?_ | with_reducible refine wpAny_map ?_ | wp_step))
theorem call_kw (F : ExcBaseFacts B newId initId bmB) (hT : ∀ X : String, bm.contains (.type X) = bmB.contains (.type X)) {rest : List Value} {kw : List (Str × Value)} {fI : Addr}
    (hC : h.get? C = some (excClassObj nm q C N bs bm hdct sn sub ab col dd k0 k1 k2 k3 k5 newId))
    (hi : W.Looks (model prog w) h (typeLookup (.ref C) "__init__") (some (.ref fI))) (hb : ∀ self, W.Looks (model prog w) h (bindSpecial (.ref fI) self) (.ref fI, [self])) (hrest : rest.length ≤ sizeLine)
    (hq : codeAny (model prog w) (A.under (.builtin "type.__call__" ⟨.ref C :: rest, kw⟩)) (.call (.ref fI) ⟨.ref (h.objs.size + 1) :: rest, kw⟩) (W.InitBack (h.objs.size + 1) R)
      ⟨(h.push (W.kdv_tup rest)).push (excO C h.objs.size), g, d, t, os⟩) :
    codeAny (model prog w) A (.call (.ref C) ⟨rest, kw⟩) R ⟨h, g, d, t, os⟩ := by
  have f1 := tc_lookup
  have f2 := tc_bind (.ref C)
  have hTy : (⟨h, g, d, t, os⟩ : Shared).TypeIs (.ref C) "type" := ⟨_, hC, rfl⟩
  refine codeAny_of_tree ?_
  show wpAny _ _ (callAny (.ref C) _) _ _ _
  repeat (any_goals (first | assumption | with_reducible refine wpAny_loadPart_at hC ?_ | wp_step))
  refine ⟨rfl, ?_⟩
  refine codeAny_call_builtin_at (Code.quiet_builtin _ (by decide +kernel)) entry_typeCall (check_type_call_kw hC (type_call_kw F hT hC hi hb hrest ?_))
  refine codeAny_mono hq fun r s' z => ?_
  rcases r with e | (v | _ | _ | _) <;> exact z
end
section
variable {prog : Program} {w : World} {A : Around} {E : Value → Shared → Prop} {R : Result → Shared → Prop} {hp : Heap} {g : Array GenState} {d : Drawn} {t : Nat} {os : OsState} {B : String} {bmB : List Value}
/-- self.name = v, the first field -/
theorem osa_first {K : W.Frag} {name : Str} {tk : Tok} {v : Value} {x C : Addr} {fv : Array Value} {cd : ClassData} (SB : StoreFacts B bmB "object.__setattr__" "object")
    (X : K.In hp) (hx : hp.get? x = some { cls := .ref C, data := .fields fv }) (hcd : W.clsIn K C = some cd) (hm : W.excTail bmB cd.mro = true) (hh : cd.hasDict = true) (ha : W.findIn K (.ref C) name = some none)
    (hq : ∀ h' tk' dx, (∀ b o, b ≠ x → hp.get? b = some o → h'.get? b = some o) → hp.objs.size ≤ dx → dx ≠ x → h'.get? x = some { cls := .ref C, dict := some dx, data := .fields fv } →
      h'.Ns1 dx (fun y => if y = name then some v else none) → R (.ok (.ret .none)) ⟨h', g, d, tk', os⟩) :
    codeAny (model prog w) A (.call (.builtin "object.__setattr__") ⟨[.ref x, .str name tk, v], []⟩) R ⟨hp, g, d, t, os⟩ := by
  have I : W.InstAt hp x { cls := .ref C, data := .fields fv } C none := ⟨hx, rfl, rfl, trivial⟩
  have SF := F.store_object
  have hob : cd.mro.contains (.type "object") = true := (W.excTail_contains "object" _ hm).trans SB.hasOwner
  have ne : cd.mro.isEmpty = false := by
    cases e : cd.mro with
    | nil =>
      rw [e] at hob
      cases hob
    | cons _ _ => rfl
  have hxs : x ≠ hp.objs.size := Nat.ne_of_lt (Heap.lt_size hx)
  have sub : W.Looks (model prog w) hp (isInstance (.ref x) (.type "object")) true := I.type.andThen (W.looks_mroIn X (by unfold W.mroIn; rw [hcd, Option.bind_some, if_neg (by rw [ne]; decide), hob]))
  refine codeAny_call_builtin SF.slot.plain SF.entry (@W.check_slot (model prog w) _ _ ⟨hp, g, d, t, os⟩ "object.__setattr__" "object" "__setattr__" (.ref x) [.str name tk, v] [] _ SF.kind SF.split sub (SF.args (.ref x) (.str name tk) v) ?_)
  have hmr : W.Looks (model prog w) hp (mroOf (.ref C)) cd.mro := (W.looks_clsIn X hcd).andThen .now
  have L3 : W.Looks (model prog w) hp (storeTaker? none) none := .now
  have hcls : W.Looks (model prog w) hp (classData C) cd := W.looks_clsIn X hcd
  rw [W.osa_eq, refuse_eq]
  refine wpAny_bind (wpAny_bind (I.type.at (wpAny_bind (hmr.at ?_))))
  rw [W.excTail_pass _ (SB.passes _) _ hm]
  refine wpAny_pure (wpAny_bind (I.type.at (wpAny_bind ((W.looks_findIn X ha).at (wpAny_bind (L3.at ?_))))))
  show wpAny _ _ (storeInOwnDict (.ref x) (.ref C) (.str name tk) name v false) _ _ _
  obtain ⟨nm, bs, mro, ns, qn, hd, sn, sb, ab, col, del⟩ := cd
  dsimp only at hh
  subst hh
  unfold storeInOwnDict ownDictForStores
  repeat (first | with_reducible refine store_in_new ?_ ?_ | with_reducible refine wpAny_loadPart_at hx ?_ | with_reducible refine hcls.at ?_ | wp_step)
  · exact ⟨_, #[], _, (Heap.get?_update_ne _ _ _ _ hxs.symm).trans (Heap.get?_push_at rfl rfl), rfl, fun e he => absurd he (by simp), fun _ => rfl⟩
  · intro h' tk' hn' hs
    have hx₁ : (hp.push { cls := .type "dict", data := .dict #[] }).get? x = some { cls := .ref C, data := .fields fv } := Heap.get?_push_of_some _ hx
    refine hq h' tk' hp.objs.size (fun b o hb ho => ?_) (Nat.le_refl _) hxs.symm ?_ hn'
    · exact (hs.2 b (Nat.ne_of_lt (Heap.lt_size ho))).trans ((Heap.get?_update_ne _ _ _ _ hb).trans (Heap.get?_push_of_some _ ho))
    · exact (hs.2 x hxs).trans (Heap.get?_update_self _ hx₁ rfl)
/-- a further field -/
theorem osa_further {K : W.Frag} {name : Str} {tk : Tok} {v : Value} {x C dx : Addr} {fv : Array Value} {cd : ClassData} {m0 : Str → Option Value} {nl : List Str} (SB : StoreFacts B bmB "object.__setattr__" "object")
    (X : K.In hp) (hx : hp.get? x = some { cls := .ref C, dict := some dx, data := .fields fv }) (hns : hp.Ns1 dx m0) (hw : Within m0 nl) (hz : nl.length ≤ 1000) (hcd : W.clsIn K C = some cd) (hm : W.excTail bmB cd.mro = true) (hh : cd.hasDict = true)
    (ha : W.findIn K (.ref C) name = some none)
    (hq : ∀ h' tk', (∀ b o, b ≠ dx → hp.get? b = some o → h'.get? b = some o) → h'.Ns1 dx (fun y => if y = name then some v else m0 y) → R (.ok (.ret .none)) ⟨h', g, d, tk', os⟩) :
    codeAny (model prog w) A (.call (.builtin "object.__setattr__") ⟨[.ref x, .str name tk, v], []⟩) R ⟨hp, g, d, t, os⟩ := by
  obtain ⟨oD, esD, epD, hoD, hdD, _⟩ := hns.count hw
  have I : W.InstAt hp x { cls := .ref C, dict := some dx, data := .fields fv } C (some oD) := ⟨hx, rfl, rfl, hoD⟩
  have SF := F.store_object
  have hob : cd.mro.contains (.type "object") = true := (W.excTail_contains "object" _ hm).trans SB.hasOwner
  have ne : cd.mro.isEmpty = false := by
    cases e : cd.mro with
    | nil =>
      rw [e] at hob
      cases hob
    | cons _ _ => rfl
  have sub : W.Looks (model prog w) hp (isInstance (.ref x) (.type "object")) true := I.type.andThen (W.looks_mroIn X (by unfold W.mroIn; rw [hcd, Option.bind_some, if_neg (by rw [ne]; decide), hob]))
  refine codeAny_call_builtin SF.slot.plain SF.entry (@W.check_slot (model prog w) _ _ ⟨hp, g, d, t, os⟩ "object.__setattr__" "object" "__setattr__" (.ref x) [.str name tk, v] [] _ SF.kind SF.split sub (SF.args (.ref x) (.str name tk) v) ?_)
  have hmr : W.Looks (model prog w) hp (mroOf (.ref C)) cd.mro := (W.looks_clsIn X hcd).andThen .now
  have L3 : W.Looks (model prog w) hp (storeTaker? none) none := .now
  have hcls : W.Looks (model prog w) hp (classData C) cd := W.looks_clsIn X hcd
  rw [W.osa_eq, refuse_eq]
  refine wpAny_bind (wpAny_bind (I.type.at (wpAny_bind (hmr.at ?_))))
  rw [W.excTail_pass _ (SB.passes _) _ hm]
  refine wpAny_pure (wpAny_bind (I.type.at (wpAny_bind ((W.looks_findIn X ha).at (wpAny_bind (L3.at ?_))))))
  show wpAny _ _ (storeInOwnDict (.ref x) (.ref C) (.str name tk) name v false) _ _ _
  obtain ⟨nm, bs, mro, ns, qn, hd, sn, sb, ab, col, del⟩ := cd
  dsimp only at hh
  subst hh
  unfold storeInOwnDict ownDictForStores
  repeat (first | with_reducible refine PySem.OEX.store_in_old hns hw hz ?_ | with_reducible refine wpAny_loadPart_at hx ?_ | with_reducible refine hcls.at ?_ | wp_step)
  intro h' tk' hn' hs
  exact hq h' tk' (fun b o hb ho => (hs.2 b hb).trans ho) hn'
end
end LwX
end PySem

/-! E2 -/
/-! ### the same over the layer -/
namespace L2
open PySem PySem.Spec PyProof.Rows
/-- what the written part says of an own error class at C whose __init__ is the def at fI -/
structure OexG (K : PySem.W.Frag) (C fI : Addr) : Prop where
  base : ∃ (B newId initId : String) (bmB : List Value), ExcBaseFacts B newId initId bmB ∧ StoreFacts B bmB "object.__setattr__" "object" ∧
    ∃ nm q N bs bm sn sub ab col dd k0 k1 k2 k3 k5, K.lookup C = some (excClassObj nm q C N bs bm true sn sub ab col dd k0 k1 k2 k3 k5 newId) ∧ PySem.W.excTail bmB bm = true
  sa : PySem.W.findIn K (.ref C) "__setattr__" = some (some (.builtin "object.__setattr__"))
  ga : PySem.W.findIn K (.ref C) "__getattribute__" = some (some (.builtin "BaseException.__getattribute__"))
  gg : PySem.W.findIn K (.ref C) "__getattr__" = some none
  exC : PySem.W.subIn K (.ref C) (.type "BaseException") = some true
  tyC : PySem.W.typeIn K (.ref C) = some (.type "type")
  kC : PySem.W.keepIn K (.ref C) = true
  hdC : PySem.W.hasDictIn K C = true
  iC : PySem.W.findIn K (.ref C) "__init__" = some (some (.ref fI))
  tI : PySem.W.typeIn K (.ref fI) = some (.type "function")
  ha : PySem.W.findIn K (.ref C) "__class__" = some (some (.builtin "object.__class__"))
  hn : PySem.W.specialIn K (.builtin "object.__class__") "__get__" = some (some (.builtin "getset_descriptor.__get__"))
  ht : PySem.W.takesIn K (.builtin "object.__class__") = some true
  hm : PySem.W.mroIn K C (.type "object") = some true
section
variable {X : Cx} {pins : List (Addr × Obj)} {σ : St} {H : Hp} {s : Shared} {a C fI dx : Addr} {f : Str} {y : V} {u : Value} {fs : List (Str × V)} {Q : Unit → Shared → Prop} {E : Value → Shared → Prop} {A : Around}
theorem ost_first (T : OexG X.K C fI) (I : Inv X pins σ H s) (e : H a = some (exo a C none)) (hno : PySem.W.findIn X.K (.ref C) f = some none) (ry : RelV y u)
    (h : ∀ dx s', H dx = none → dx ≠ a → Inv X pins σ (upd (upd H dx (exd dx [(f, y)])) a (exo a C (some dx))) s' → Q () s') : wpAny (model X.prog X.w) A (setAttr (.ref a) f u) Q E s := by
  obtain ⟨B, newId, initId, bmB, FB, SB, nm, q, N, bs, bm, sn, sub, ab, col, dd, k0, k1, k2, k3, k5, hC, hbm⟩ := T.base
  have hcl : PySem.W.clsIn X.K C = some { name := nm, bases := bs, mro := .ref C :: bm, ns := N, qualname := q, hasDict := true, slotNames := sn, subclasses := sub, abstract := ab, collection := col, hasDel := false } := by unfold PySem.W.clsIn; rw [hC] <;> rfl
  obtain ⟨t1, ho⟩ := exo_at I.hok e
  obtain ⟨hp, g, d, t, os⟩ := s
  refine PySem.W.set_plain I.kIn (ox := { cls := .ref C, dict := none, data := .fields #[.ref t1, .none, .none, .none, .bool false, .none] }) (od := none) ⟨ho, rfl, rfl, trivial⟩ T.sa ?_
  refine PySem.LwX.osa_first SB I.kIn ho hcl (show PySem.W.excTail bmB (.ref C :: bm) = true from hbm) rfl hno (fun h' tk' dx k dn dne hx hn => ?_)
  have hnd : H dx = none := I.hok.fresh dn
  have nd : ∀ {b : Addr} {o : Obj}, hp.get? b = some o → b ≠ dx := fun {b o} q => Nat.ne_of_lt (Nat.lt_of_lt_of_le (Heap.lt_size q) dn)
  have na : ∀ {b : Addr}, H b = none → b ≠ a := fun {b} n z => by
    rw [z, e] at n
    cases n
  have Un1 : Un X.fs [] H (upd (upd H dx (exd dx [(f, y)])) a (exo a C (some dx))) hp h' := {
    keep := fun b o q n _ _ => k b o (na n) q
    slot := fun b o q n _ _ => ⟨o.slots, k b o (na n) q⟩
    free := fun b o q n _ => by rw [upd_ne (na n), upd_ne (nd q)]; exact n
    there := fun b o q _ => by
      by_cases hb : b = a
      · exact ⟨_, by rw [hb]; exact hx⟩
      · exact ⟨o, k b o hb q⟩
    tups := fun b xs q => by rw [upd_ne (at_ne e q exo_tup), upd_ne (ne_of_none q hnd)]; exact q
    frzs := fun b o v q => by rw [upd_ne (at_ne e q exo_frz), upd_ne (ne_of_none q hnd)]; exact q
    tbls := fun b ps q => ⟨#[], by rw [upd_ne (at_ne e q exo_tbl), upd_ne (ne_of_none q hnd), q]; simp⟩ }
  refine h dx _ hnd dne (I.un (t' := tk') Un1 fun b o q => ?_)
  by_cases hb : b = a
  · subst hb
    rw [upd_same] at q
    cases q
    exact exo_ok hx
  · rw [upd_ne hb] at q
    by_cases hd : b = dx
    · subst hd
      rw [upd_same] at q
      cases q
      exact exd_ok hn (relO_put (fs := []) ry fun g => True.intro)
    · rw [upd_ne hd] at q
      exact (I.hok b o q).stay (fun c v hc z => k c v (by
          rcases hc with hc | hc
          · rw [hc]
            exact hb
          · exact at_ne e hc exo_own) z)
        (fun c hc => by rw [upd_ne (at_ne e hc exo_own), upd_ne (ne_of_none hc hnd)]; exact hc) (fun c xs hc => by rw [upd_ne (at_ne e hc exo_tup), upd_ne (ne_of_none hc hnd)]; exact hc)
theorem ost_further (T : OexG X.K C fI) (I : Inv X pins σ H s) (e : H a = some (exo a C (some dx))) (ed : H dx = some (exd dx fs)) (hl : fs.length ≤ 900) (hno : PySem.W.findIn X.K (.ref C) f = some none) (ry : RelV y u)
    (h : ∀ s', Inv X pins σ (upd H dx (exd dx ((f, y) :: fs))) s' → Q () s') : wpAny (model X.prog X.w) A (setAttr (.ref a) f u) Q E s := by
  obtain ⟨B, newId, initId, bmB, FB, SB, nm, q, N, bs, bm, sn, sub, ab, col, dd, k0, k1, k2, k3, k5, hC, hbm⟩ := T.base
  have hcl : PySem.W.clsIn X.K C = some { name := nm, bases := bs, mro := .ref C :: bm, ns := N, qualname := q, hasDict := true, slotNames := sn, subclasses := sub, abstract := ab, collection := col, hasDel := false } := by unfold PySem.W.clsIn; rw [hC] <;> rfl
  obtain ⟨t1, ho⟩ := exo_at I.hok e
  obtain ⟨mA, hns, rel⟩ := exd_at I.hok ed
  have hw := within_of rel
  obtain ⟨hp, g, d, t, os⟩ := s
  obtain ⟨oD, _, _, hoD, _, _⟩ := hns.count hw
  refine PySem.W.set_plain I.kIn (ox := { cls := .ref C, dict := some dx, data := .fields #[.ref t1, .none, .none, .none, .bool false, .none] }) (od := some oD) ⟨ho, rfl, rfl, hoD⟩ T.sa ?_
  refine PySem.LwX.osa_further SB I.kIn ho hns hw (by rw [List.length_map]; omega) hcl (show PySem.W.excTail bmB (.ref C :: bm) = true from hbm) rfl hno (fun h' tk' k hn => ?_)
  have hd : ∃ o, h'.get? dx = some o := by
    obtain ⟨o, _, _, e', _⟩ := hn
    exact ⟨o, e'⟩
  exact h _ (I.write (t' := tk') (x := dx) (e := dx) (o := exd dx ((f, y) :: fs)) (by rw [ed]; exact True.intro) (.inl rfl) k hd (exd_ok hn (relO_put ry rel)))
end
/-- self.f = e -/
def tOstG (K : PySem.W.Frag) (f : Str) (to te : TE) : TS := fun D σ H => te σ H fun y H1 => to σ H1 fun x H2 => ∃ a C fI : Addr, x = .ref a ∧ OexG K C fI ∧ PySem.W.findIn K (.ref C) f = some none ∧
  ((H2 a = some (exo a C none) ∧ ∀ dx, H2 dx = none → dx ≠ a → D.nx σ (upd (upd H2 dx (exd dx [(f, y)])) a (exo a C (some dx)))) ∨
    ∃ (dx : Addr) (fs : List (Str × V)), H2 a = some (exo a C (some dx)) ∧ H2 dx = some (exd dx fs) ∧ fs.length ≤ 900 ∧ D.nx σ (upd H2 dx (exd dx ((f, y) :: fs))))
/-- C(e, ..), C(k = e, ..): a new error, its __init__ keeping sp -/
def tMkG (C fI : Addr) (K : PySem.W.Frag) (sp : Sp) (ta : TA) : TE := fun σ H Q => ta σ H fun vs H1 => vs.length ≤ 1000 ∧ ∀ a, H1 a = none → sp (.ref a :: vs) (upd H1 a (exo a C none)) (fun v H2 => v = .non ∧ Q (.ref a) H2) (fun _ _ _ => False)
def tMkGK (C fI : Addr) (n : Nat) (sp : Sp) (gV : List V → List V → List V) (tk : TA) : TE := fun σ H Q => tk σ H fun zs H1 => zs.length = n ∧ ∀ a, H1 a = none → sp (gV [.ref a] zs) (upd H1 a (exo a C none)) (fun v H2 => v = .non ∧ Q (.ref a) H2) (fun _ _ _ => False)
/-- e.f of such an error -/
def tXg (K : PySem.W.Frag) (f : Str) (te : TE) : TE := fun σ H Q => te σ H fun x H1 => ∃ (a C fI d : Addr) (fs : List (Str × V)) (v : V), x = .ref a ∧ OexG K C fI ∧ PySem.W.findIn K (.ref C) f = some none ∧ H1 a = some (exo a C (some d)) ∧ H1 d = some (exd d fs) ∧ fs.lookup f = some v ∧ Q v H1
/-- isinstance(e, c) of such an error -/
def rIsG (K : PySem.W.Frag) : List V → Hp → VK → Prop := fun xs H Q => ∃ (a C fI d : Addr) (fs : List (Str × V)) (c : V) (u : Value) (b : Bool), xs = [.ref a, c] ∧ ClsV c u ∧ OexG K C fI ∧ H a = some (exo a C (some d)) ∧ H d = some (exd d fs) ∧
  PySem.W.kitOne K (.ref C) u = some b ∧ Q (.bl b) H
section
variable {X : Cx} {o e : Expr} {es : List Expr} {to te : TE} {ta tk : TA} {f x : Str} {p p' p1 p2 pos : Pos} {CX : CXT} {C fI : Addr} {k : Nat} {fd : FuncData} {ps ks : List Str} {sp : Sp} {kws : List Keyword} {g : List Value → List Value → List Value} {gV : List V → List V → List V}
theorem ps_ostG (ho : PE X o to) (he : PE X e te) (hs : swapsWith e (some (.Attribute o f p')) pos.line X.env = pure false := by rfl) : PS X (.Assign [.Attribute o f p'] e pos) (tOstG X.K f to te) := by
  refine ⟨fun pins s σ H D I h => ?_⟩
  refine plainObj_wpAny_Assign_Attribute (thn (he.run pins s σ H _ I h) fun v s1 ⟨y, H1, I1, r1, q1⟩ => thn (ho.run pins s1 σ H1 _ I1 q1) fun u s2 ⟨x, H2, I2, r2, a, C, fI, ex, T, hno, q⟩ => ?_) hs
  subst ex
  obtain rfl : u = Value.ref a := r2
  rcases q with ⟨ea, q⟩ | ⟨dx, fs, ea, ed, hl, q⟩
  · exact ost_first T I2 ea hno r1 fun dx s' n ne J => ⟨σ, _, J, q dx n ne⟩
  · exact ost_further T I2 ea ed hl hno r1 fun s' J => ⟨σ, _, J, q⟩
theorem run_mkG {pins : List (Addr × Obj)} {σ : St} {H1 : Hp} {s1 : Shared} {Q : VK} {us : List Value} {bV : Addr → List V} {bv : Addr → List Value} {kw : List (Str × Value)} (T : OexG X.K C fI) (F1 : FnOk X.prog X.w X.K X.mg X.base CX k fI fd ps sp) (hr : Room (k + 1) X.A)
    (hx : Passes CX X (fun _ _ _ => False)) (I1 : Inv X pins σ H1 s1) (hz : us.length ≤ sizeLine)
    (hbt : ∀ (a : Addr) (s : Shared), X.K.In s.heap → BindsTo s fd ⟨.ref a :: us, kw⟩ (ps.zip (bv a))) (r3 : ∀ a, Vals (bV a) (bv a))
    (h : ∀ a, H1 a = none → sp (bV a) (upd H1 a (exo a C none)) (fun v H2 => v = .non ∧ Q (.ref a) H2) (fun _ _ _ => False)) :
    wpAny (model X.prog X.w) X.A (call (.ref C) us kw) (EP X pins σ Q) X.xe s1 := by
  obtain ⟨B, newId, initId, bmB, FB, SB, nm, q, N, bs, bm, sn, sub, ab, col, dd, k0, k1, k2, k3, k5, hC, hbm⟩ := T.base
  obtain ⟨hp, g, dr, tk, os⟩ := s1
  have hsz : hp.objs.size ≤ hp.objs.size + 1 := Nat.le_succ _
  have hn : H1 (hp.objs.size + 1) = none := I1.hok.fresh hsz
  have hq := h (hp.objs.size + 1) hn
  have kk : ∀ b o, hp.get? b = some o → ((hp.push (PySem.W.kdv_tup us)).push (PySem.HandSPX.excO C hp.objs.size)).get? b = some o := fun b o e => Heap.get?_push_of_some _ (Heap.get?_push_of_some _ e)
  have hget : ((hp.push (PySem.W.kdv_tup us)).push (PySem.HandSPX.excO C hp.objs.size)).get? (hp.objs.size + 1) = some (PySem.HandSPX.excO C hp.objs.size) := by heap_get
  have I2 : Inv X pins σ (upd H1 (hp.objs.size + 1) (exo (hp.objs.size + 1) C none)) ⟨(hp.push (PySem.W.kdv_tup us)).push (PySem.HandSPX.excO C hp.objs.size), g, dr, tk, os⟩ :=
    I1.laid (t' := tk) (a := hp.objs.size + 1) (o := exo (hp.objs.size + 1) C none) (h' := (hp.push (PySem.W.kdv_tup us)).push (PySem.HandSPX.excO C hp.objs.size)) kk hsz (exo_ok hget)
  refine wpAny_call (PySem.LwX.call_kw FB (fun Y => PySem.W.excTail_contains Y bm hbm) (I1.kIn _ _ hC) (PySem.W.looks_findIn I1.kIn T.iC) (fun self => PySem.W.bind_fn I1.kIn self T.tI) hz
    (codeAny_mono (F1.run _ X.stack _ _ ⟨Value.ref (hp.objs.size + 1) :: us, kw⟩ (bv (hp.objs.size + 1)) _ _ (fun _ _ _ => False) (hr.make C us kw) (I2.env0.make C us kw) (hbt _ _ I2.kIn) (r3 _) hq) fun r s' hq' => ?_))
  cases r with
  | error er => exact hx pins σ _ _ er s' I2 hq'
  | ok fl =>
    cases fl with
    | ret u =>
      obtain ⟨v, H', I3, rv, ev, q3⟩ := I2.after hq'
      subst ev
      exact ⟨rv, ⟨V.ref (hp.objs.size + 1), H', I3, rfl, q3⟩⟩
    | next => exact False.elim hq'
    | brk => exact False.elim hq'
    | cont => exact False.elim hq'
theorem pe_mkG (T : OexG X.K C fI) (F1 : FnOk X.prog X.w X.K X.mg X.base CX k fI fd ps sp) (hr : Room (k + 1) X.A) (hb : Binds X.K fd ps []) (hx : Passes CX X (fun _ _ _ => False)) (hg : Gl X x) (hm : X.mg x = some (.ref C)) (ha : PA X (e :: es) ta)
    (hdb : (x == ("__debug__" : Str)) = false := by decide) (he : starEach (e :: es) X.env = (false, eval e X.env) :: starEach es X.env := by rfl) (hpl : (backTo pos (starEach es X.env)).any (·.1) = false := by rfl) :
    PE X (.Call (.Name x p) (e :: es) [] pos) (tMkG C fI X.K sp ta) := by
  refine ⟨fun pins s σ H Q I h => ?_⟩
  refine wpAny_Call_Name_kw (ld_glob I hg hm ?_ hdb)
  refine PySem.W.callWith_K (h₀ := X.base) I.ok.mod.kin T.kC (thn (ha.run pos pins s σ H _ I h) fun us s1 ⟨vs, H1, I1, r1, hz, q1⟩ => ⟨I1.kIn, ?_⟩) he hpl
  show wpAny _ _ (call (.ref C) us) _ _ _
  refine run_mkG (bv := fun a => .ref a :: us) (bV := fun a => .ref a :: vs) (kw := []) T F1 hr hx I1 (by rw [← Paired.length r1, sizeLine_eq]; omega) (fun a s hk => ?_) (fun a => .cons rfl r1) q1
  have hl : (Value.ref a :: us).length = ps.length := by
    obtain ⟨b, hb0⟩ : ∃ b, H1 b = none := ⟨_, I1.hok.fresh (Nat.le_refl _)⟩
    have z := F1.len _ _ _ _ (q1 b hb0)
    rw [List.length_cons, ← Paired.length r1]
    exact z
  have z := hb s (Value.ref a :: us) hk (by rw [List.append_nil]; exact hl)
  rw [List.append_nil] at z
  exact z
theorem pe_mkGK (T : OexG X.K C fI) (F1 : FnOk X.prog X.w X.K X.mg X.base CX k fI fd ps sp) (hr : Room (k + 1) X.A) (hb : KBn X.K fd ps 1 ks g gV) (hx : Passes CX X (fun _ _ _ => False)) (hg : Gl X x) (hm : X.mg x = some (.ref C)) (hkw : PK X kws tk)
    (hall : (backToKw pos (keywordEach kws X.env)).all (·.1.isSome) = true := by rfl) (hks : (backToKw pos (keywordEach kws X.env)).filterMap (·.1) = ks := by rfl) (hdb : (x == ("__debug__" : Str)) = false := by decide)
    (hpl : ((backTo pos (starEach [] X.env)).any (·.1) || (backToKw pos (keywordEach kws X.env)).any (·.1.isNone)) = false := by rfl) :
    PE X (.Call (.Name x p) [] kws pos) (tMkGK C fI ks.length sp gV tk) := by
  refine ⟨fun pins s σ H Q I h => ?_⟩
  refine wpAny_Call_Name_kw (ld_glob I hg hm ?_ hdb)
  refine PySem.W.callWith_KW0 (h₀ := X.base) I.ok.mod.kin T.kC hall ?_ hpl
  refine thn (hkw.run pos pins s σ H _ I h) fun ws s2 ⟨zs, H2, I2, rz, l2, q2⟩ => ⟨I2.kIn, ?_⟩
  rw [hks]
  exact run_mkG (us := []) (bv := fun a => g [.ref a] ws) (bV := fun a => gV [.ref a] zs) T F1 hr hx I2 (Nat.zero_le _) (fun a s hk => hb.to s [.ref a] ws hk rfl (rz.length.symm.trans l2)) (fun a => hb.rel (.cons rfl .nil) rz) q2
theorem pe_xg (he : PE X e te) (hb : attributeBase e f X.env (eval e X.env) = eval e X.env := by rfl) : PE X (.Attribute e f pos) (tXg X.K f te) := by
  refine ⟨fun pins s σ H Q I h => ?_⟩
  refine attr_of hb (thn (he.run pins s σ H _ I h) fun u s1 hh => ?_)
  obtain ⟨x, H1, I1, rx, a, C, fI, d, fs, v, ex, T, hno, ea, ed, l, q⟩ := hh
  subst ex
  obtain rfl : u = Value.ref a := rx
  obtain ⟨t1, ho⟩ := exo_at I1.hok ea
  obtain ⟨mA, hns, hr⟩ := exd_at I1.hok ed
  obtain ⟨od, hod, hl⟩ := lookIn_ns hns
  obtain ⟨u, hu, ru⟩ := RelO.some_of (v := v) (o := mA f) (by rw [← l]; exact hr f)
  have J : PySem.W.InstAt s1.heap a { cls := .ref C, dict := some d, data := .fields #[.ref t1, .none, .none, .none, .bool false, .none] } C (some od) := ⟨ho, rfl, rfl, hod⟩
  exact HandSPX.exc_get I1.kIn J T.ga T.gg T.exC (PySem.W.findObj_own T.hdC hno rfl (by rw [hl, hu])) (handed_of ru) ⟨v, H1, I1.tok _, ru, q⟩
theorem call_isG : CallR X (.builtin "isinstance") (rIsG X.K) := by
  intro pins s σ H xs us Q I r h
  obtain ⟨a, C, fI, d, fs, c, u, b, rfl, k, T, ea, ed, e, q⟩ := h
  obtain ⟨u1, u2, rfl, r1, r2⟩ := vals2 r
  have e2 := k.eq r2
  subst e2
  cases (show u1 = Value.ref a from r1)
  obtain ⟨t1, ho⟩ := exo_at I.hok ea
  obtain ⟨mA, hns, hr⟩ := exd_at I.hok ed
  obtain ⟨od, hod, hl⟩ := lookIn_ns hns
  have J : PySem.W.InstAt s.heap a { cls := .ref C, dict := some d, data := .fields #[.ref t1, .none, .none, .none, .bool false, .none] } C (some od) := ⟨ho, rfl, rfl, hod⟩
  have hcl : (PySem.W.clsIn X.K C).isSome = true := by
    obtain ⟨cdD, hcD, _⟩ := PySem.W.any_some T.hdC
    rw [hcD]
    rfl
  exact PySem.W.kia_one (PySem.W.kitx_exc hcl T.ga T.gg T.exC T.ha T.hn T.ht T.hm) I.kIn J e (fun z => nomatch z) fun tk => ⟨.bl b, H, I.tok tk, rfl, q⟩
end
end L2

/-! E3 -/
/-! ### repr of nested data, an empty dict among it, where no repr is under way -/
namespace L2
open PySem PySem.Spec PyProof.Rows
mutual
inductive Dq (K : PySem.W.Frag) (H : Hp) : V → PyData → Prop
  | non : Dq K H .non .none
  | bl (b : Bool) : Dq K H (.bl b) (.bool b)
  | int (i : Int) : Dq K H (.int i) (.int i)
  | str (x : Str) : Dq K H (.str x) (.str x)
  | lst {a : Addr} {xs : List V} {ds : List PyData} : SqL K H a xs → DqAll K H xs ds → Dq K H (.ref a) (.list ds)
  | tup {a : Addr} {xs : List V} {ds : List PyData} : SqT K H a xs → DqAll K H xs ds → Dq K H (.ref a) (.tuple ds)
  | dic {a : Addr} : H a = some (.dK []) → Dq K H (.ref a) (.dict [])
inductive DqAll (K : PySem.W.Frag) (H : Hp) : List V → List PyData → Prop
  | nil : DqAll K H [] []
  | cons {v : V} {vs : List V} {d : PyData} {ds : List PyData} : Dq K H v d → DqAll K H vs ds → DqAll K H (v :: vs) (d :: ds)
end
section
variable {X : Cx} {pins : List (Addr × Obj)} {σ : St} {H : Hp} {s : Shared}
mutual
theorem Dq.reprs (I : Inv X pins σ H s) : ∀ (d : PyData) (v : V) (u : Value), Dq X.K H v d → RelV v u → d.showable = true → d.shown.length ≤ sizeLine →
    ∃ as bs, Reads s.heap u d as ∧ ReadAtMost s.heap d.depth bs ∧ ReprK X.prog X.w bs s.heap d.depth u d.shown
  | .none, _, _, h, r, _, _ => by
    cases h
    cases r
    exact ⟨_, [], Reads.none, (fun _ h => nomatch h), by simp only [PyData.shown]; exact .of_is ReprIs.none _ _ _⟩
  | .bool b, _, _, h, r, _, _ => by
    cases h
    cases r
    exact ⟨_, [], Reads.bool b, (fun _ h => nomatch h), by simp only [PyData.shown]; exact .of_is (ReprIs.bool b) _ _ _⟩
  | .int i, _, _, h, r, hs, _ => by
    cases h
    obtain ⟨t, rfl⟩ := r
    exact ⟨_, [], Reads.int i t, (fun _ h => nomatch h), by simp only [PyData.shown]; exact .of_is (ReprIs.int t (by simpa [PyData.showable] using hs)) _ _ _⟩
  | .str x, _, _, h, r, _, hz => by
    cases h
    obtain ⟨t, rfl⟩ := r
    exact ⟨_, [], Reads.str x t, (fun _ h => nomatch h), by simp only [PyData.shown]; exact .of_is (ReprIs.str x t (by simpa only [PyData.shown] using hz)) _ _ _⟩
  | .list ds, _, _, h, r, hs, hz => by
    cases h with
    | @lst a xs _ hq ha =>
      cases r
      obtain ⟨its, rv, ⟨o, n, ho, hc, _, hd⟩, _⟩ := I.list hq
      have hz' : (listText (PyData.shownAll ds)).length ≤ sizeLine := by simpa only [PyData.shown] using hz
      obtain ⟨as, bs, hr, hb, hk⟩ := Dq.reprsAll I ds _ its ha rv (by simpa [PyData.showable] using hs) (fun t ht => Nat.le_trans (listText_mem_le ht) hz')
      have rr : Reads s.heap (.ref a) (.list ds) _ := Reads.list ho hc hd hr
      have hna : a ∉ bs := not_mem_of_deeper rr (by simp only [PyData.depth]; omega) hb
      refine ⟨_, a :: bs, rr, ReadAtMost.cons rr (by simp only [PyData.depth]; omega) hb, ?_⟩
      simp only [PyData.depth, PyData.shown]
      cases its with
      | nil =>
        have h4' : ReadsAll s.heap [] ds _ := hr
        cases h4'
        simp only [PyData.shownAll, listText_nil]
        exact ReprK.listEmpty ho hc hd
      | cons x l => exact ReprK.list ho hc hd hna (by simpa using hk.length_eq) (fun i y e => hk.item i y (by simpa using e))
  | .tuple ds, _, _, h, r, hs, hz => by
    cases h with
    | @tup a xs _ hq ha =>
      cases r
      obtain ⟨its, rv, ⟨o, ho, hc, n, hd⟩, _⟩ := I.tuple hq
      have hz' : (tupleText (PyData.shownAll ds)).length ≤ sizeLine := by simpa only [PyData.shown] using hz
      obtain ⟨as, bs, hr, hb, hk⟩ := Dq.reprsAll I ds _ its ha rv (by simpa [PyData.showable] using hs) (fun t ht => Nat.le_trans (tupleText_mem_le ht) hz')
      have rr : Reads s.heap (.ref a) (.tuple ds) _ := Reads.tuple ho hc hd hr
      have hna : a ∉ bs := not_mem_of_deeper rr (by simp only [PyData.depth]; omega) hb
      refine ⟨_, a :: bs, rr, ReadAtMost.cons rr (by simp only [PyData.depth]; omega) hb, ?_⟩
      simp only [PyData.depth, PyData.shown]
      exact ReprK.tuple ho hc hd hna hk
  | .dict kvs, _, _, h, r, hs, hz => by
    cases h with
    | @dic a ea =>
      cases r
      obtain ⟨_, hsys, vs, kv, o, es, ep, h1, h2, h3⟩ := (show ObjOk X.prog X.w H s.heap a (.dK []) from I.hok a _ ea)
      cases kv
      have hes : es.toList = [] := List.eq_nil_of_length_eq_zero (by rw [PySem.Pairs.length h3.2.2.1]; rfl)
      have e1 : ReadsAll s.heap (es.toList.map (·.key)) (([] : List (PyData × PyData)).map (·.1)) [] := by rw [hes]; exact .nil
      have e2 : ReadsAll s.heap (es.toList.map (·.val)) (([] : List (PyData × PyData)).map (·.2)) [] := by rw [hes]; exact .nil
      have rr : Reads s.heap (.ref a) (.dict []) _ := Reads.dict h1 h2.1 h3.1 e1 e2
      refine ⟨_, [a], rr, ReadAtMost.cons rr (Nat.zero_le (PyData.dict []).depth) (fun _ h => nomatch h), ?_⟩
      simp only [PyData.depth, PyData.shown, PyData.shownKv]
      exact ReprK.dict h1 h2.1 h3.1 hsys (List.not_mem_nil) (by rw [hes]; exact .nil)
theorem Dq.reprsAll (I : Inv X pins σ H s) : ∀ (ds : List PyData) (vs : List V) (us : List Value), DqAll X.K H vs ds → Vals vs us → PyData.showableAll ds = true → (∀ t ∈ PyData.shownAll ds, t.length ≤ sizeLine) →
    ∃ as bs, ReadsAll s.heap us ds as ∧ ReadAtMost s.heap (PyData.depthAll ds) bs ∧ ReprAllK X.prog X.w bs s.heap (PyData.depthAll ds) us (PyData.shownAll ds)
  | [], _, _, h, r, _, _ => by
    cases h
    cases r
    exact ⟨_, [], ReadsAll.nil, (fun _ h => nomatch h), by simp only [PyData.shownAll]; exact .nil⟩
  | d :: ds, _, _, h, r, hs, hz => by
    cases h with
    | cons h1 h2 =>
      cases r with
      | cons r1 r2 =>
        have hs' : d.showable = true ∧ PyData.showableAll ds = true := by simpa [PyData.showableAll] using hs
        obtain ⟨as, b1, q1, hb1, k1⟩ := Dq.reprs I d _ _ h1 r1 hs'.1 (hz _ (by simp only [PyData.shownAll]; exact List.mem_cons_self ..))
        obtain ⟨bs, b2, q2, hb2, k2⟩ := Dq.reprsAll I ds _ _ h2 r2 hs'.2 (fun t ht => hz t (by simp only [PyData.shownAll]; exact List.mem_cons_of_mem _ ht))
        refine ⟨_, b1 ++ b2, ReadsAll.cons q1 q2, ?_, ?_⟩
        · intro b hm
          simp only [PyData.depthAll]
          rcases List.mem_append.mp hm with hm | hm
          · obtain ⟨d', as', r', hd'⟩ := hb1 b hm
            exact ⟨d', as', r', Nat.le_trans hd' (Nat.le_max_left _ _)⟩
          · obtain ⟨d', as', r', hd'⟩ := hb2 b hm
            exact ⟨d', as', r', Nat.le_trans hd' (Nat.le_max_right _ _)⟩
        · simp only [PyData.depthAll, PyData.shownAll]
          exact .cons ((k1.more fun b hb => List.mem_append_left _ hb).level_le (Nat.le_max_left _ _)) (k2.more_le (fun b hb => List.mem_append_right _ hb) (Nat.le_max_right _ _))
end
end
/-- repr of a list -/
def rRepr (K : PySem.W.Frag) : List V → Hp → VK → Prop := fun xs H Q => ∃ (a : Addr) (ds : List PyData), xs = [.ref a] ∧ Dq K H (.ref a) (.list ds) ∧ ds ≠ [] ∧ PyData.showableAll ds = true ∧ PyData.depthAll ds ≤ 40 ∧ (PyData.list ds).shown.length ≤ sizeLine ∧ Q (.str (PyData.list ds).shown) H
theorem call_reprL {X : Cx} (hg : X.A.guards = some []) (hu : X.A.units + 64 < cLine) : CallR X (.builtin "repr") (rRepr X.K) := by
  intro pins s σ H xs us Q I r h
  obtain ⟨a, ds, rfl, hd, hne, hs, hdep, hz, q⟩ := h
  obtain ⟨u, rfl, hu1⟩ := vals1 r
  cases (show u = Value.ref a from hu1)
  cases hd with
  | @lst _ xs _ hq ha =>
    obtain ⟨its, rv, ⟨o, n, ho, hc, _, hd⟩, _⟩ := I.list hq
    have hz' : (listText (PyData.shownAll ds)).length ≤ sizeLine := by simpa only [PyData.shown] using hz
    obtain ⟨as, bs, hr, hb, hk⟩ := Dq.reprsAll I ds _ its ha rv hs (fun t ht => Nat.le_trans (listText_mem_le ht) hz')
    have rr : Reads s.heap (.ref a) (.list ds) _ := Reads.list ho hc hd hr
    have hna : a ∉ bs := not_mem_of_deeper rr (by simp only [PyData.depth]; omega) hb
    cases its with
    | nil =>
      have h4' : ReadsAll s.heap [] ds _ := hr
      cases h4'
      exact absurd rfl hne
    | cons x l =>
      refine call_repr_slot (T := "list") (idr := "list.__repr__") (by omega) ⟨o, ho, hc⟩ F.slot_list_repr.toG ?_
      refine call_list_reprK ho hc hd hna (by simpa using hk.length_eq) (fun i y e => hk.item i y (by simpa using e)) (show X.A.in1.guards = some [] from hg) (fun b _ => Clear.nil b) (by show X.A.units + 1 + (PyData.depthAll ds + 1) < cLine; omega) (fun _ _ e => e) (fun h' u tk hk => ?_) hz'
      simp only [PyData.shown] at q
      exact ⟨_, _, rfl, ⟨.str (listText (PyData.shownAll ds)), H, I.kept hk, ⟨_, rfl⟩, q⟩⟩
end L2

/-! ### a def that is called where no repr is under way, and the law's own end -/
namespace L2
open PySem PySem.Spec PyProof.Rows
structure FnOkG (P : Program) (w : World) (K : PySem.W.Frag) (mg : Str → Option Value) (base : Heap) (CX : CXT) (k : Nat) (f : Addr) (fd : FuncData) (ps : List Str) (sp : Sp) : Prop where
  len : ∀ vs H Q E, sp vs H Q E → vs.length = ps.length
  run : ∀ (A : Around) (outer : List Env) (s : Shared) (H : Hp) (args : Args) (us : List Value) (vs : List V) (Q : VK) (E : XK), A.guards = some [] → Room k A → Env0 P w K mg base A outer s H → BindsTo s fd args (ps.zip us) → Vals vs us → sp vs H Q E →
    codeAny (model P w) A (.call (.ref f) args) (CR CX outer P w H s Q E) s
theorem fn_ofG {CX : CXT} {P : Program} {w : World} {K : PySem.W.Frag} {mg : Str → Option Value} {base : Heap} {k : Nat} {f : Addr} {name qual : Str} {params : Arguments} {body : List Stmt} {scope : Scope} {dV kV doc pm cdv ct oc : Value} {an od : Option Addr}
    {osl : Array (Option Value)} {N ps : List Str} {sp : Sp} (lk : K.lookup f = some ⟨oc, od, .func (PySem.W.fnOf name qual params body scope dV kV doc pm an cdv ct), osl⟩) (hcd : PySem.W.codeIn K cdv qual = true) (S : FnScope N ps scope)
    (len : ∀ vs H Q E, sp vs H Q E → vs.length = ps.length)
    (hbody : ∀ (A : Around) (outer : List Env) (s : Shared) (H : Hp) (vs : List V) (Q : VK) (E : XK), A.guards = some [] → Room k (A.deeper (envOfC qual scope s.heap.objs.size f cdv)) → sp vs H Q E →
      ∃ t, PSs (cxOf CX P w K mg base N qual scope f cdv A outer s H E) body t ∧ t { nx := fun _ H' => Q .non H', rt := Q } (start N vs) H) :
    FnOkG P w K mg base CX (k + 1) f (PySem.W.fnOf name qual params body scope dV kV doc pm an cdv ct) ps sp := by
  refine ⟨len, fun A outer s H args us vs Q E hgd hr e0 hb r hsp => ?_⟩
  have hl := len _ _ _ _ hsp
  have KX : K.In s.heap := e0.mod.kin.keeps fun b o e => (e0.bs b o e).1
  have lim : s.heap.NoLimit := e0.mod.nolimit.keeps fun b o e => (e0.bs b o e).1
  have hkind : ∀ y ∈ ps.zip us, scope.names.lookup y.1 = some .local ∨ (scope.names.lookup y.1 = some .cell ∧ ((cellsFrom (s.heap.objs.size + 1) scope.names []).lookup y.1).isSome = true) := fun ⟨n, v⟩ hy => by
    rcases S.par n (List.of_mem_zip hy).1 with q | q
    · exact .inl q
    · exact .inr ⟨q, PySem.W.cellsFrom_some _ _ _ (.inl q)⟩
  refine codeAny_call_function hr.depth (KX _ _ lk) rfl S.co S.gen rfl (PySem.W.codeRec_of KX hcd) (hb _ _ _ _ ?_)
  refine wpAny_newFunctionEnv_cells S.kind hkind fun env he s1 x => ?_
  subst he
  refine ⟨lim.keeps x.toInCall.keep, codeAny_func ?_⟩
  obtain ⟨t, ht, hq⟩ := hbody A outer s H vs Q E hgd (hr.deeper _) hsp
  have I : Inv (cxOf CX P w K mg base N qual scope f cdv A outer s H E) [] (start N vs) H s1 := inv_start S hr.hd e0 hl r x
  refine wpAny_mono (ht.run [] s1 (start N vs) H _ I hq) (fun fl s' hs => ?_) fun e s' hs => hs
  have fin : ∀ {σ' : St} {H' : Hp} {v : V} {u : Value}, Inv (cxOf CX P w K mg base N qual scope f cdv A outer s H E) [] σ' H' s' → RelV v u → Q v H' → CE outer P w H s Q u s' :=
    fun {σ' H' v u} J rv q => ⟨v, H', J.os, J.bare, J.base, J.hok, rv, q⟩
  cases fl with
  | ret u =>
    obtain ⟨v, σ', H', J, rv, q⟩ := hs
    exact fin J rv q
  | next =>
    obtain ⟨σ', H', J, q⟩ := hs
    exact fin (v := V.non) (u := Value.none) J rfl q
  | brk =>
    obtain ⟨_, _, _, q⟩ := hs
    exact False.elim q
  | cont =>
    obtain ⟨_, _, _, q⟩ := hs
    exact False.elim q
theorem Fun.okG {P : Program} {w : World} {K : PySem.W.Frag} {mg : Str → Option Value} {base : Heap} {x qual : Str} {st : Stmt} {f : Addr} {fd : FuncData} {N ps : List Str} {k : Nat} {sp : Sp} (F : Fun K x qual st f fd) (S : FnScope N ps (defScope st)) (len : ∀ vs H Q E, sp vs H Q E → vs.length = ps.length)
    (hbody : ∀ (cdv : Value) (A : Around) (outer : List Env) (s : Shared) (H : Hp) (vs : List V) (Q : VK) (E : XK), A.guards = some [] → Room k (A.deeper (envOfC qual (defScope st) s.heap.objs.size f cdv)) → sp vs H Q E →
      ∃ t, PSs (cxOf CX0 P w K mg base N qual (defScope st) f cdv A outer s H E).nox (defBody st) t ∧ t { nx := fun _ H' => Q .non H', rt := Q } (start N vs) H) : FnOkG P w K mg base CX0 (k + 1) f fd ps sp := by
  obtain ⟨oc, od, kV, doc, pm, an, cdv, ct, osl, rfl, lk, hcd⟩ := F.ex
  refine fn_ofG lk hcd S len fun A outer s H vs Q E hgd hr hsp => ?_
  obtain ⟨t, h, q⟩ := hbody cdv A outer s H vs Q E hgd hr hsp
  exact ⟨t, h.nox, q⟩
theorem law_callG {P : Program} {w : World} {K : PySem.W.Frag} {mg mb : Str → Option Value} {CX : CXT} {k : Nat} {fa a : Addr} {fd : FuncData} {x : Str} {sp : Sp} {s₁ : Shared} {vs : List Value} {ns : List Int}
    (KX : K.In s₁.heap) (hns : s₁.heap.Ns mainGlobals mg) (hb : s₁.heap.Ns builtinsNs mb) (hbb : ∀ x : Str, x ≠ "__name__" → mb x = bootBuiltins x) (hlim : s₁.heap.NoLimit) (hg : s₁.gens = #[])
    (ha : s₁.heap.get? a = some { cls := .type "list", data := .seq vs.toArray }) (hi : IntsAre vs ns) (hl : ns.length ≤ sizeLine) (hr : Room k callerA)
    (F : ∀ base : Heap, K.In base → base.Ns mainGlobals mg → FnOkG P w K mg base CX k fa fd [x] sp) (hbind : ∀ (s : Shared) (u : Value), BindsTo s fd ⟨[u], []⟩ [(x, u)])
    (hsp : ∀ H : Hp, Only H → SqL K H a (ns.map V.int) → sp [.ref a] H (fun v _ => v = .bl true) fun _ _ _ => False)
    (hCX : ∀ H e s', CX [] H s₁ (fun _ _ _ => False) e s' → False) :
    codeAny (model P w) callerA (.call (.ref fa) ⟨[.ref a], []⟩) (fun r s' => r = .ok (.ret (.bool true)) ∧ OldK s₁.heap s'.heap ∧ s'.os = s₁.os ∧ AllBare s'.gens) s₁ := by
  have rv := vals_ints hi
  have lenV := hi.length
  -- from an abstract heap in which nothing but the script may be tracked
  have core : ∀ H : Hp, Only H → SqL K H a (ns.map V.int) → HOk P w H s₁.heap → (∀ b, H b ≠ none → b = a) → (H a ≠ none → K.lookup a = none) →
      codeAny (model P w) callerA (.call (.ref fa) ⟨[.ref a], []⟩) (fun r s' => r = .ok (.ret (.bool true)) ∧ OldK s₁.heap s'.heap ∧ s'.os = s₁.os ∧ AllBare s'.gens) s₁ := by
    intro H hO hS hok hA hK
    have base_of : ∀ {b : Addr} {o : Obj}, s₁.heap.get? b = some o → H b = none → (hidT s₁.heap H).get? b = some o := fun e n => hidT_get e n
    have noA : ∀ {b : Addr} {o : Obj} {es : Array DictEntry} {ep : Nat}, s₁.heap.get? b = some o → o.data = .dict es ep → H b = none := fun {b o es ep} e d => by
      cases q : H b with
      | none => rfl
      | some u =>
        have e' : b = a := hA b (by rw [q]; simp)
        subst e'
        rw [ha] at e; cases e
        have d' : Data.seq vs.toArray _ = Data.dict es ep := d
        cases d'
    have nsK : ∀ {b : Addr} {m : Str → Option Value}, s₁.heap.Ns b m → (hidT s₁.heap H).Ns b m := fun {b m} ⟨o, es, ep, e, d, r⟩ => ⟨o, es, ep, base_of e (noA e d), d, r⟩
    have hKb : K.In (hidT s₁.heap H) := fun b o e => base_of (KX b o e) (by
      cases q : H b with
      | none => rfl
      | some u =>
        have e' : b = a := hA b (by rw [q]; simp)
        subst e'
        rw [hK (by rw [q]; simp)] at e; cases e)
    have hM : Mod K mg (hidT s₁.heap H) := ⟨hKb, nsK hns, ⟨mb, nsK hb, hbb⟩, let ⟨mc, h1, h2⟩ := hlim; ⟨mc, nsK h1, h2⟩⟩
    have e0 : Env0 P w K mg (hidT s₁.heap H) callerA [] s₁ H := ⟨rfl, hM, fun b o e => of_hidT e, Nat.le_of_eq (hidT_size _ _), trivial, fun b hb => absurd (show b ∈ ([] : List Addr) from hb) (by simp), hok, .of_eq hg⟩
    refine codeAny_mono ((F _ hKb (nsK hns)).run callerA [] s₁ H ⟨[.ref a], []⟩ [.ref a] [.ref a] _ _ rfl hr e0 (hbind s₁ (.ref a)) (.cons rfl .nil) (hsp H hO hS)) fun r s' h => ?_
    cases r with
    | error e => exact (hCX H e s' h).elim
    | ok fl =>
      cases fl with
      | next => exact False.elim h
      | brk => exact False.elim h
      | cont => exact False.elim h
      | ret u =>
        obtain ⟨v, H', os, bare, un, hok', r', q⟩ := h
        have q' : v = .bl true := q
        subst q'
        obtain rfl : u = Value.bool true := r'
        refine ⟨rfl, OldK.of_keep fun b o e => ?_, os, bare⟩
        cases q : H b with
        | none => exact un.keep b o e q (by intro z; exact absurd (show b ∈ ([] : List Addr) from z) (by simp)) (by simp)
        | some u =>
          rcases hO b with z | ⟨ob, xs, z⟩
          · rw [q] at z; cases z
          · have z2 := un.frzs b ob _ z
            obtain ⟨e1, _⟩ := hok b _ z
            obtain ⟨e2, _⟩ := hok' b _ z2
            rw [e] at e1; cases e1
            exact e2
  cases hk : K.lookup a with
  | some o =>
    -- the script is one of the module's own objects
    have e := KX a o hk
    rw [ha] at e
    cases e
    refine core (fun _ => none) (fun _ => .inl rfl) (.inr ⟨_, vs.toArray, _, hk, rfl, rfl, rfl, by rw [List.size_toArray, lenV]; exact hl, by simpa using rv⟩) (fun b u z => by have z' : (none : Option HO) = some u := z; cases z') (fun b z => absurd rfl z) fun z => absurd rfl z
  | none =>
    refine core (fun b => if b = a then some (.frz { cls := .type "list", data := .seq vs.toArray } (.lst (ns.map V.int))) else none) (fun b => ?_) (.inl (.inr ⟨{ cls := .type "list", data := .seq vs.toArray }, if_pos rfl⟩)) (fun b u z => ?_) (fun b z => ?_) fun _ => hk
    · by_cases hb : b = a
      · exact .inr ⟨_, _, if_pos hb⟩
      · exact .inl (if_neg hb)
    · by_cases hb : b = a
      · have z' := (if_pos hb).symm.trans z
        cases z'
        subst hb
        exact ⟨ha, by rw [List.length_map]; exact hl, vs, _, rv, ha⟩
      · have z' := (if_neg hb).symm.trans z
        cases z'
    · by_cases hb : b = a
      · exact hb
      · exact absurd (if_neg hb) z
theorem walk_ofG {l : PySem.W.OpenLaw} {n k : Nat} {q : Program} {loose : List Str} {XP : (Str → Option Value) → Heap → Prop} {YP : World → Heap → Prop} {d : DefRec} {K : Params → PySem.W.Frag} {CX : World → CXT} {sp : World → Sp} {x : Str}
    (hn : l.most = some n) (hn2 : n ≤ sizeLine) (hdf : d.params.defaults = []) (hr : Room k callerA)
    (hY : ∀ (w : World) (h : Heap), YP w h → (K w.params).In h)
    (F : ∀ (w : World) (mg : Str → Option Value) (fa : Addr) (h : Heap), (K w.params).In h → h.Ns mainGlobals mg → mg d.name = some (.ref fa) →
      ∃ fd : FuncData, (∀ (s : Shared) (u : Value), BindsTo s fd ⟨[u], []⟩ [(x, u)]) ∧
        ∀ base : Heap, (K w.params).In base → base.Ns mainGlobals mg → FnOkG l.prog w (K w.params) mg base (CX w) k fa fd [x] (sp w))
    (hsp : ∀ (w : World) (H : Hp) (a : Addr) (ns : List Int), ns.length ≤ n → Only H → SqL (K w.params) H a (ns.map V.int) → sp w [.ref a] H (fun v _ => v = .bl true) fun _ _ _ => False)
    (hCX : ∀ (w : World) (H : Hp) (s : Shared) (e : Value) (s' : Shared), CX w [] H s (fun _ _ _ => False) e s' → False) :
    PySem.W.WalkO q loose XP YP l.row.toRowW d [] (fun f vs => PySem.call f vs) := by
  refine Att.attach_call hn hdf fun w s₀ s₁ mg mb fa o pm cd doc a vs ns G Y ho hd hcd hmg hobj hints hlen hg => ?_
  have KX := hY w _ Y
  obtain ⟨fd, hb, hF⟩ := F w mg fa _ KX G.T.g hmg
  exact law_callG KX G.T.g G.T.b G.T.builtins G.T.nolimit hg hobj hints (Nat.le_trans hlen hn2) hr hF hb (fun H hO hS => hsp w H a ns hlen hO hS) fun H e s' => hCX w H s₁ e s'
end L2
/-! ### own __add__ and __radd__ -/
namespace PySem
namespace LwX
open PySem.W PySem.Calls
section
variable {prog : Program} {w : World} {A : Around} {E : Value → Shared → Prop} {s : Shared} {K : Frag} {x C f : Addr} {ox : Obj} {od : Option Obj} {T : String}
/-- x + b, b of a built-in type -/
theorem add_own {b : Value} {fo ro rc : Option Value} {Q : Value → Shared → Prop} (X : K.In s.heap) (I : InstAt s.heap x ox C od) (hb : ∀ M, Looks M s.heap (typeOf b) (.type T)) (hc : selfFirst K C = true)
    (hs : findIn K (.ref C) "__add__" = some (some (.ref f))) (hf : isFn K (.ref f) = true) (hr : findIn K (.ref C) "__radd__" = some rc) (hp : rc = none ∨ ∃ g : Addr, rc = some (.ref g))
    (h1 : findIn K (.type T) "__add__" = some fo) (h2 : findIn K (.type T) "__radd__" = some ro) (hsub : subIn K (.type T) (.ref C) = some false)
    (h : wpAny (model prog w) A (call (.ref f) [.ref x, b]) (CmpBack Q) E s) : wpAny (model prog w) A (binaryOp .Add (.ref x) b) Q E s := by
  obtain ⟨cd, rest, hcd, hm⟩ := ksp_first hc
  have one := ksp_try X I hs hf h
  obtain ⟨hh, g, d, tt, os⟩ := s
  have L1 : Looks (model prog w) hh (typeOf (.ref x)) (.ref C) := I.type
  have L2 : Looks (model prog w) hh (typeOf b) (.type T) := hb _
  have L3 : Looks (model prog w) hh (fillsNumberSlot (.ref C) "add") true := fills_K X hcd hm hs
  have L4 : Looks (model prog w) hh (fillsNumberSlot (.type T) "add") ((fo.isSome && !isSeqSlot fo) || (ro.isSome && !isSeqSlot ro)) := ksp_fillsT X h1 h2
  have L5 : Looks (model prog w) hh (isSubtype (.type T) (.ref C)) false := looks_subIn X hsub
  have L6 : Looks (model prog w) hh (numberSlotInPython (.ref C) "add") true := ksp_inPy X hs hr hp
  have L7 : Looks (model prog w) hh (numberSlotInPython (.type T) "add") false := Looks.of_pure rfl
  have L8 : Looks (model prog w) hh (typeLookup (.type T) (dunderR "add")) ro := looks_findIn X h2
  generalize ((fo.isSome && !isSeqSlot fo) || (ro.isSome && !isSeqSlot ro)) = right at L4
  have hne : (Value.ref C == Value.type T) = false := Bool.eq_false_iff.mpr fun q => by cases beq_iff_eq.mp q
  have hi : Operator.info .Add = ("+", "add") := rfl
  simp only [binaryOp, hi]
  refine wpAny_holding (wpAny_bind ?_)
  unfold binaryOp1
  refine wpAny_bind (L1.at (wpAny_bind (L2.at (wpAny_bind (L3.at ?_)))))
  simp only [hne, Bool.false_eq_true, if_false]
  cases right with
  | false =>
    ksp_lk
    refine wpAny_mono one (fun r s' hr' => ?_) fun _ _ e => e
    obtain ⟨v, rfl, hq⟩ := hr'
    ksp_lk
    exact hq
  | true =>
    ksp_lk
    refine wpAny_mono one (fun r s' hr' => ?_) fun _ _ e => e
    obtain ⟨v, rfl, hq⟩ := hr'
    ksp_lk
    exact hq
/-- x + y, both of the class at C -/
theorem add_same {y : Addr} {oy : Obj} {oyd : Option Obj} {Q : Value → Shared → Prop} (X : K.In s.heap) (I : InstAt s.heap x ox C od) (J : InstAt s.heap y oy C oyd) (hc : selfFirst K C = true)
    (hs : findIn K (.ref C) "__add__" = some (some (.ref f))) (hf : isFn K (.ref f) = true)
    (h : wpAny (model prog w) A (call (.ref f) [.ref x, .ref y]) (CmpBack Q) E s) : wpAny (model prog w) A (binaryOp .Add (.ref x) (.ref y)) Q E s := by
  obtain ⟨cd, rest, hcd, hm⟩ := ksp_first hc
  have one := ksp_try X I hs hf h
  obtain ⟨hh, g, d, tt, os⟩ := s
  have L1 : Looks (model prog w) hh (typeOf (.ref x)) (.ref C) := I.type
  have L2 : Looks (model prog w) hh (typeOf (.ref y)) (.ref C) := J.type
  have L3 : Looks (model prog w) hh (fillsNumberSlot (.ref C) "add") true := fills_K X hcd hm hs
  have hi : Operator.info .Add = ("+", "add") := rfl
  simp only [binaryOp, hi]
  refine wpAny_holding (wpAny_bind ?_)
  unfold binaryOp1
  refine wpAny_bind (L1.at (wpAny_bind (L2.at (wpAny_bind (L3.at ?_)))))
  simp only [beq_self_eq_true, if_true]
  ksp_lk
  refine wpAny_mono one (fun r s' hr' => ?_) fun _ _ e => e
  obtain ⟨v, rfl, hq⟩ := hr'
  ksp_lk
  exact hq
/-- a + x, a of a built-in type whose + is a sequence's -/
theorem radd_own {a : Value} {fa : Addr} {fo ro : Option Value} {Q : Value → Shared → Prop} (X : K.In s.heap) (I : InstAt s.heap x ox C od) (ha : ∀ M, Looks M s.heap (typeOf a) (.type T)) (hc : selfFirst K C = true)
    (hs0 : findIn K (.ref C) "__add__" = some (some (.ref fa))) (hs : findIn K (.ref C) "__radd__" = some (some (.ref f))) (hf : isFn K (.ref f) = true)
    (h1 : findIn K (.type T) "__add__" = some fo) (h2 : findIn K (.type T) "__radd__" = some ro) (hseq : ((fo.isSome && !isSeqSlot fo) || (ro.isSome && !isSeqSlot ro)) = false)
    (h : wpAny (model prog w) A (call (.ref f) [.ref x, a]) (CmpBack Q) E s) : wpAny (model prog w) A (binaryOp .Add a (.ref x)) Q E s := by
  obtain ⟨cd, rest, hcd, hm⟩ := ksp_first hc
  have one := ksp_try X I hs hf h
  obtain ⟨hh, g, d, tt, os⟩ := s
  have L1 : Looks (model prog w) hh (typeOf (.ref x)) (.ref C) := I.type
  have L2 : Looks (model prog w) hh (typeOf a) (.type T) := ha _
  have L3 : Looks (model prog w) hh (fillsNumberSlot (.ref C) "add") true := fills_K X hcd hm hs0
  have L4 : Looks (model prog w) hh (fillsNumberSlot (.type T) "add") false := by
    rw [← hseq]
    exact ksp_fillsT X h1 h2
  have hne : (Value.type T == Value.ref C) = false := Bool.eq_false_iff.mpr fun q => by cases beq_iff_eq.mp q
  have hi : Operator.info .Add = ("+", "add") := rfl
  simp only [binaryOp, hi]
  refine wpAny_holding (wpAny_bind ?_)
  unfold binaryOp1
  refine wpAny_bind (L2.at (wpAny_bind (L1.at (wpAny_bind (L4.at ?_)))))
  simp only [hne, Bool.false_eq_true, if_false]
  refine wpAny_bind (L3.at ?_)
  ksp_lk
  refine wpAny_mono one (fun r s' hr' => ?_) fun _ _ e => e
  obtain ⟨v, rfl, hq⟩ := hr'
  ksp_lk
  exact hq
end
end LwX
end PySem

/-! R2 -/
/-! ### enumerate over a tuple -/
namespace PySem
namespace LwX
open Sem (wp)
theorem meets_enumT (l : Addr) (items : Array Value) :
    Meets (Builtin.«enumerate.__new__» ⟨[.type "enumerate", .ref l], []⟩) (fun _ R s => s.heap.IsTuple l items ∧
      R (.ok (.ret (.ref (s.heap.push { cls := .type "tuple_iterator", data := .fields #[.ref l, .int 0 0] }).objs.size)))
        { s with heap := (s.heap.push { cls := .type "tuple_iterator", data := .fields #[.ref l, .int 0 0] }).push { cls := .type "enumerate", data := .fields #[.none, .bool false, .ref s.heap.objs.size, rawInt 0, .none, .none] } }) :=
  .of_wp fun prog w A R s h => by
    obtain ⟨hp, g, d, tk, os⟩ := s
    obtain ⟨hL, h⟩ := h
    have hsub := sub_enumerate
    have q1 : ∀ {A' : Around} {E : Value → Shared → Prop} {Q : Value → Shared → Prop}, Q (.ref hp.objs.size) ⟨hp.push { cls := .type "tuple_iterator", data := .fields #[.ref l, .int 0 0] }, g, d, tk, os⟩ → wpAny (model prog w) A' (pyIter (.ref l)) Q E ⟨hp, g, d, tk, os⟩ :=
      fun q => wpAny_pyIter_tuple (s := ⟨hp, g, d, tk, os⟩) hL q
    wp_walk using q1
    refine wpAny_stack_any fun st => wpAny_pure ?_
    split
    · rename_i c _ _ _ _ _
      cases (c == Value.type "enumerate") <;> (wp_walk using q1; exact ⟨_, rfl, h⟩)
    · wp_walk using q1
      exact ⟨_, rfl, h⟩
theorem call_enumT {prog : Program} {w : World} {A : Around} {E : Value → Shared → Prop} {s : Shared} {l : Addr} {items : Array Value} {Q : Value → Shared → Prop} (hL : s.heap.IsTuple l items)
    (h : ∀ h', IsEnum h' (s.heap.objs.size + 1) s.heap.objs.size 0 .none → h'.IsTupleIter s.heap.objs.size l 0 → h'.objs.size = s.heap.objs.size + 2 →
      (∀ b o, s.heap.get? b = some o → h'.get? b = some o) → Q (.ref (s.heap.objs.size + 1)) { s with heap := h' }) :
    wpAny (model prog w) A (call (.type "enumerate") [.ref l]) Q E s := by
  refine callType_new F.called_enumerate (by decide) (F.typeCall_enumerate_1 _) (F.newCall_enumerate_1 _) (fun obj => F.args_object_init_2 obj _) F.entry_enumerate_new (meets_enumT l items) ⟨hL, ?_⟩
  have hz : (s.heap.push { cls := .type "tuple_iterator", data := .fields #[.ref l, .int 0 0] }).objs.size = s.heap.objs.size + 1 := Heap.size_push ..
  show _ ∧ _
  rw [hz]
  have he : IsEnum ((s.heap.push { cls := .type "tuple_iterator", data := .fields #[.ref l, .int 0 0] }).push
      { cls := .type "enumerate", data := .fields #[.none, .bool false, .ref s.heap.objs.size, rawInt 0, .none, .none] }) (s.heap.objs.size + 1) s.heap.objs.size 0 .none := by
    have z := Heap.get?_push_size (s.heap.push { cls := .type "tuple_iterator", data := .fields #[.ref l, .int 0 0] })
      (o := { cls := .type "enumerate", data := .fields #[.none, .bool false, .ref s.heap.objs.size, rawInt 0, .none, .none] }) rfl
    rw [hz] at z
    exact z
  exact ⟨⟨_, he, rfl⟩, h _ he ⟨_, Heap.get?_push_of_some _ (Heap.get?_push_size _ rfl), rfl, rfl⟩ (by rw [Heap.size_push, hz]) fun b o x => Heap.get?_push_of_some _ (Heap.get?_push_of_some _ x)⟩
end LwX
end PySem
namespace L2
open PySem PySem.Spec PyProof.Rows
/-- the tuple at a, each item in a new pair -/
def IteT (K : PySem.W.Frag) (a : Addr) : It :=
  ⟨fun i H => ∃ (xs : List V) (x : V), SqT K H a xs ∧ xs[i]? = some x, fun i H v H' => ∃ T x, v = .ref T ∧ H T = none ∧ H' = upd H T (.tup [.int (i : Nat), x]) ∧ ∀ xs, SqT K H a xs → xs[i]? = some x, fun i H => ∃ xs : List V, SqT K H a xs ∧ xs.length = i⟩
theorem turn_enumT {P : Program} {w : World} {K : PySem.W.Frag} {elts : List Expr} {kk : Nat} {tpos : Pos} (a e it : Addr) :
    Turn P w K (.Tuple elts kk tpos) (IteT K a) [e, it] e (fun i h => (∃ old, IsEnum h e it ((i : Nat) : Int) old) ∧ h.IsTupleIter it a i ∧ e ≠ it) where
  mem := by simp
  obj := fun i h st b hb => by
    obtain ⟨⟨old, he⟩, ⟨o, ho, hc, hd⟩, _⟩ := st
    have e' : b = e ∨ b = it := by simpa using hb
    rcases e' with z | z
    · rw [z]; exact ⟨_, he, fun v q => nomatch q⟩
    · rw [z]; exact ⟨o, ho, fun v q => by rw [hd] at q; cases q⟩
  keep := fun i h h' st k => let ⟨⟨old, he⟩, hi, hne⟩ := st; ⟨⟨old, k e (by simp) _ he⟩, hi.at fun o q => k it (by simp) o q, hne⟩
  item := by
    intro X hP hw hK hc i pins s σ H E I hf st hg
    subst hP hw hK
    obtain ⟨⟨old, he⟩, hit, hne⟩ := st
    obtain ⟨xs, x, hq, hx⟩ := hg
    obtain ⟨its, rv, p, hz⟩ := I.tuple hq
    obtain ⟨u, hu, ru⟩ := rv.get hx
    have p' : s.heap.IsTuple a its.toArray := p
    have hel : e < s.heap.objs.size := Heap.lt_size he
    have hil : it < s.heap.objs.size := by obtain ⟨_, q, _⟩ := hit; exact Heap.lt_size q
    have hai : a ≠ it := by
      rintro rfl
      obtain ⟨o1, e1, c1, _⟩ := p'
      obtain ⟨o2, e2, c2, _⟩ := hit
      rw [e1] at e2
      cases e2
      rw [c1] at c2
      exact absurd (Value.type.inj c2) (by decide)
    have hae : e ∉ [it, a] := by
      intro z
      rcases List.mem_cons.mp z with z | z
      · exact hne z
      · rcases List.mem_cons.mp z with z | z
        · obtain ⟨o1, e1, c1, _⟩ := p'
          rw [← z, he] at e1
          cases e1
          exact absurd (Value.type.inj c1) (by decide)
        · cases z
    have hlt : i < its.toArray.size := by
      have z := (List.getElem?_eq_some_iff.mp hu).1
      simpa using z
    refine wpAny_pyNext_enum_itemD (Draws.tuple (A := X.A.in1) (show X.A.in1.handled = none from I.ok.hd hc) it a hai its.toArray) he ⟨hit, p'⟩ hlt hne hae fun x' h' tk hP ho hst hT hsz hk => ?_
    have ex : x' = u := by
      have z : its[i]? = some x' := by simpa using hP
      rw [hu] at z
      exact (Option.some.inj z).symm
    subst ex
    refine ⟨_, rfl, wpAny_letOwnedTupleGo_enum (s := { s with heap := h', toks := tk + 1 }) ho fun h'' he' sb => ?_⟩
    have hT2 : h''.get? s.heap.objs.size = some { cls := .type "tuple", data := .seq #[.int i tk, x'] } := (sb.2 _ (Nat.ne_of_gt hel)).trans hT
    have new : ObjOk X.prog X.w (upd H s.heap.objs.size (.tup [.int (i : Nat), x])) h'' s.heap.objs.size (.tup [.int (i : Nat), x]) :=
      ⟨by show 2 ≤ sizeLine; decide, [.int i tk, x'], .cons ⟨_, rfl⟩ (.cons ru .nil), ⟨_, hT2, rfl, _, rfl⟩⟩
    have I1 : Inv X pins σ (upd H s.heap.objs.size (.tup [.int (i : Nat), x])) { s with heap := h'', toks := tk + 1 } :=
      I.turnedNew (ch := [e, it]) (fun b ob hb q => (sb.2 b (fun z => hb (by simp [z]))).trans (hk b ob (fun z => hb (by simp [z])) (fun z => hb (by simp [z])) q)) hf (Nat.le_refl _) new
    refine ⟨.ref s.heap.objs.size, _, I1, rfl, ⟨_, x, rfl, I.hok.fresh (Nat.le_refl _), rfl, fun ys hy => by rw [I.tuple_inj hy hq]; exact hx⟩, ⟨⟨x', ?_⟩, hst.1.at fun o q => (sb.2 it (Ne.symm hne)).trans q, hne⟩, fun b hb => ?_⟩
    · have e1 : ((i + 1 : Nat) : Int) = (i : Int) + 1 := by omega
      rw [e1]; exact he'
    · have hb' : b < s.heap.objs.size := by
        have e' : b = e ∨ b = it := by simpa using hb
        rcases e' with z | z
        · rw [z]; exact hel
        · rw [z]; exact hil
      rw [upd_ne (Nat.ne_of_lt hb')]
      exact (hf b hb).1
  done := by
    intro X hP hw hK hc i pins s σ H E I hf st hg
    subst hP hw hK
    obtain ⟨⟨old, he⟩, hit, hne⟩ := st
    obtain ⟨xs, hq, hx⟩ := hg
    obtain ⟨its, rv, p, hz⟩ := I.tuple hq
    have p' : s.heap.IsTuple a its.toArray := p
    obtain ⟨f0, f1, f2, f3, f4, f5⟩ := hf it (by simp)
    have hl := rv.length
    have hai : a ≠ it := by
      rintro rfl
      obtain ⟨o1, e1, c1, _⟩ := p'
      obtain ⟨o2, e2, c2, _⟩ := hit
      rw [e1] at e2
      cases e2
      rw [c1] at c2
      exact absurd (Value.type.inj c2) (by decide)
    have en : i = its.toArray.size := by simp; omega
    rw [en] at hit
    exact wpAny_pyNext_enum_endD (Draws.tuple (A := X.A.in1) (show X.A.in1.handled = none from I.ok.hd hc) it a hai its.toArray) he ⟨hit, p'⟩ fun h' eb => ⟨rfl, I.turned (t' := s.toks) (fun b o hb q => eb b o hb q) f0 f1 f3 f4 f5⟩
  self := fun A i s Q E st h => let ⟨⟨_, he⟩, _⟩ := st; wpAny_pyIter_enum he h
def iEnumT (K : PySem.W.Frag) (ta : TA) : TI := fun σ H R => ta σ H fun vs H1 => ∃ a xs, vs = [.ref a] ∧ SqT K H1 a xs ∧ R (IteT K a) H1
theorem pi_enumT {X : Cx} {e : Expr} {ta : TA} {p pos tpos : Pos} {elts : List Expr} {kk : Nat} (hg : Gl X "enumerate") (hm : X.mg "enumerate" = none) (ha : PA X [e] ta) (hs : starEach [e] X.env = [(false, eval e X.env)] := by rfl) :
    PI X (.Tuple elts kk tpos) (.Call (.Name "enumerate" p) [e] [] pos) (iEnumT X.K ta) := by
  refine ⟨fun pins s σ H R I h => ?_⟩
  refine Call_ (ld_blt I hg hm boot_enumerate (PyProof.Rows.callWith_type1 (thn (ha.run pos pins s σ H _ I h) fun us s1 ⟨vs, H1, I1, r1, q1⟩ => ?_) hs rfl))
  obtain ⟨a, xs, ex, hq, q⟩ := q1
  subst ex
  cases r1 with
  | cons r rr =>
    cases rr
    cases r
    obtain ⟨its, rv, p', hz⟩ := I1.tuple hq
    refine PySem.LwX.call_enumT (items := its.toArray) p' fun h' he hit hsz hk => wpAny_pyIter_enum he ?_
    have I2 : Inv X pins σ H1 { s1 with heap := h' } := I1.kept (t' := s1.toks) hk
    refine ⟨s1.heap.objs.size + 1, [s1.heap.objs.size + 1, s1.heap.objs.size], _, _, H1, rfl, I2, turn_enumT a (s1.heap.objs.size + 1) s1.heap.objs.size, ⟨⟨.none, he⟩, hit, Nat.succ_ne_self _⟩, fun b hb => ?_, q⟩
    have e' : b = s1.heap.objs.size + 1 ∨ b = s1.heap.objs.size := by simpa using hb
    have hle : s1.heap.objs.size ≤ b := by
      rcases e' with z | z
      · rw [z]; exact Nat.le_add_right _ _
      · rw [z]; exact Nat.le_refl _
    exact I1.fpOk hle (I1.hok.fresh hle)
end L2

/-! R3 -/
/-! ### star calls of a class, own operators, static methods, raising, text * int -/
namespace L2
open PySem PySem.Spec PyProof.Rows StX
/-- the facts of a class with its own + from both sides -/
structure AddC (K : PySem.W.Frag) (C f g : Addr) : Prop where
  hc : PySem.W.selfFirst K C = true
  hs : PySem.W.findIn K (.ref C) "__add__" = some (some (.ref f))
  hf : PySem.W.isFn K (.ref f) = true
  hr : PySem.W.findIn K (.ref C) "__radd__" = some (some (.ref g))
  hg : PySem.W.isFn K (.ref g) = true
/-- what is asked of a built-in type beside it -/
structure AddT (K : PySem.W.Frag) (C : Addr) (T : String) : Prop where
  ex : ∃ fo ro, PySem.W.findIn K (.type T) "__add__" = some fo ∧ PySem.W.findIn K (.type T) "__radd__" = some ro
  sub : PySem.W.subIn K (.type T) (.ref C) = some false
structure RaddT (K : PySem.W.Frag) (T : String) : Prop where
  ex : ∃ fo ro, PySem.W.findIn K (.type T) "__add__" = some fo ∧ PySem.W.findIn K (.type T) "__radd__" = some ro ∧ ((fo.isSome && !isSeqSlot fo) || (ro.isSome && !isSeqSlot ro)) = false
def rAddT (K : PySem.W.Frag) (C : Addr) (sp : Sp) (E : XK) : R2 := fun x y H Q => ∃ (a dx : Addr) (fs : List (Str × V)) (T : String), x = .ref a ∧ H a = some (.ins C dx fs) ∧ TyX K H y (.type T) ∧ AddT K C T ∧ sp [.ref a, y] H (fun v H' => (∃ p, v = .ref p) ∧ Q v H') E
def rAddS (C : Addr) (sp : Sp) (E : XK) : R2 := fun x y H Q => ∃ (a b dx dy : Addr) (fs gs : List (Str × V)), x = .ref a ∧ y = .ref b ∧ H a = some (.ins C dx fs) ∧ H b = some (.ins C dy gs) ∧ sp [.ref a, .ref b] H (fun v H' => (∃ p, v = .ref p) ∧ Q v H') E
def rRaddT (K : PySem.W.Frag) (C : Addr) (sp : Sp) (E : XK) : R2 := fun x y H Q => ∃ (a dx : Addr) (fs : List (Str × V)) (T : String), y = .ref a ∧ H a = some (.ins C dx fs) ∧ TyX K H x (.type T) ∧ RaddT K T ∧ sp [.ref a, x] H (fun v H' => (∃ p, v = .ref p) ∧ Q v H') E
section
variable {X : Cx} {CX : CXT} {k : Nat} {f g C : Addr} {fd : FuncData} {ps : List Str} {sp : Sp} {E : XK} {x : Str} {e : Expr} {es : List Expr} {te : TE} {t : TA} {p sp_ pos : Pos}
theorem back_ref {pins : List (Addr × Obj)} {σ : St} {Q : VK} {u : Value} {s' : Shared} (h : EP X pins σ (fun v H' => (∃ p, v = .ref p) ∧ Q v H') u s') : PySem.W.CmpBack (fun u s' => EP X pins σ Q u s') u s' := by
  obtain ⟨v, H', I, r, ⟨p, rfl⟩, q⟩ := h
  cases (show u = Value.ref p from r)
  exact ⟨V.ref p, H', I, rfl, q⟩
theorem op_addT (A : AddC X.K C f g) (F : FnOk X.prog X.w X.K X.mg X.base CX k f fd ps sp) (hr : Room k X.A) (hb : Binds X.K fd ps []) (hx : Passes CX X E) : OpR X (binaryOp .Add) (rAddT X.K C sp E) := by
  intro pins s σ H x y v u Q I rx ry h
  obtain ⟨a, dx, fs, T, rfl, ha, ty, ⟨⟨fo, ro, h1, h2⟩, hsub⟩, q⟩ := h
  cases (show v = Value.ref a from rx)
  obtain ⟨P, Z, pz, hne⟩ := kit_of I ry ty
  obtain ⟨mA, O, _⟩ := ins_get I.hok ha
  obtain ⟨od, J, _⟩ := O.look
  refine PySem.LwX.add_own I.kIn J (fun M => Z.ty M _ I.kIn pz) A.hc A.hs A.hf A.hr (.inr ⟨_, rfl⟩) h1 h2 hsub ?_
  exact thn (run_fn (us := [.ref a, u]) (vs := [.ref a, y]) F hr hb .nil hx I (.cons rfl (.cons ry .nil)) q) fun _ _ z => back_ref z
theorem op_addS (A : AddC X.K C f g) (F : FnOk X.prog X.w X.K X.mg X.base CX k f fd ps sp) (hr : Room k X.A) (hb : Binds X.K fd ps []) (hx : Passes CX X E) : OpR X (binaryOp .Add) (rAddS C sp E) := by
  intro pins s σ H x y v u Q I rx ry h
  obtain ⟨a, b, dx, dy, fs, gs, rfl, rfl, ha, hb', q⟩ := h
  cases (show v = Value.ref a from rx)
  cases (show u = Value.ref b from ry)
  obtain ⟨mA, O, _⟩ := ins_get I.hok ha
  obtain ⟨od, J, _⟩ := O.look
  obtain ⟨mB, O2, _⟩ := ins_get I.hok hb'
  obtain ⟨od2, J2, _⟩ := O2.look
  refine PySem.LwX.add_same I.kIn J J2 A.hc A.hs A.hf ?_
  exact thn (run_fn (us := [.ref a, .ref b]) (vs := [.ref a, .ref b]) F hr hb .nil hx I (.cons rfl (.cons rfl .nil)) q) fun _ _ z => back_ref z
theorem op_raddT (A : AddC X.K C f g) (F : FnOk X.prog X.w X.K X.mg X.base CX k g fd ps sp) (hr : Room k X.A) (hb : Binds X.K fd ps []) (hx : Passes CX X E) : OpR X (binaryOp .Add) (rRaddT X.K C sp E) := by
  intro pins s σ H x y v u Q I rx ry h
  obtain ⟨a, dx, fs, T, rfl, ha, ty, ⟨fo, ro, h1, h2, h3⟩, q⟩ := h
  cases (show u = Value.ref a from ry)
  obtain ⟨P, Z, pz, hne⟩ := kit_of I rx ty
  obtain ⟨mA, O, _⟩ := ins_get I.hok ha
  obtain ⟨od, J, _⟩ := O.look
  refine PySem.LwX.radd_own I.kIn J (fun M => Z.ty M _ I.kIn pz) A.hc A.hs A.hr A.hg h1 h2 h3 ?_
  exact thn (run_fn (us := [.ref a, v]) (vs := [.ref a, x]) F hr hb .nil hx I (.cons rfl (.cons rx .nil)) q) fun _ _ z => back_ref z
/-- C(*y) -/
theorem pe_makeS1 (M : Mk X.K C f) (F : FnR X.prog X.w X.K X.mg X.base CX k f sp) (hr : Room (k + 1) X.A) (hg : Gl X x) (hm : X.mg x = some (.ref C)) (hx : Passes CX X E) (he : PE X e te) (hd : (x == ("__debug__" : Str)) = false := by decide)
    (hst : starEach [.Starred e sp_] X.env = [(true, eval e X.env)] := by rfl) :
    PE X (.Call (.Name x p) [.Starred e sp_] [] pos) (fun σ H Q => te σ H fun y H1 => ∃ a xs, y = V.ref a ∧ (SqT X.K H1 a xs ∨ SqL X.K H1 a xs) ∧ ∀ x dx, H1 x = Option.none → H1 dx = Option.none → dx ≠ x →
      sp (V.ref x :: xs) (upd (upd H1 dx (.own x)) x (.ins C dx [])) (fun v H2 => v = .non ∧ Q (.ref x) H2) E) := by
  refine ⟨fun pins s σ H Q I h => ?_⟩
  refine wpAny_Call_Name_kw (ld_glob I hg hm ?_ hd)
  refine PySem.W.callWith_S (h₀ := X.base) I.ok.mod.kin M.kp (thn (he.run pins s σ H _ I h) fun v s1 ⟨y, H1, I1, ry, a, xs, ey, hxs, q⟩ => ?_) hst
  subst ey
  obtain rfl : v = Value.ref a := ry
  exact star_any I1 hxs fun us s2 I2 rv => ⟨I2.kIn, run_makeR M F hr hx I2 rv q⟩
/-- C(e, .., *y, ..) -/
theorem pe_makeS2 (M : Mk X.K C f) (F : FnR X.prog X.w X.K X.mg X.base CX k f sp) (hr : Room (k + 1) X.A) (hg : Gl X x) (hm : X.mg x = some (.ref C)) (hx : Passes CX X E) (ha : PA X (e :: es) t) (hd : (x == ("__debug__" : Str)) = false := by decide)
    (he : starEach (e :: es) X.env = (false, eval e X.env) :: starEach es X.env := by rfl) (hst : (backTo pos (starEach es X.env)).any (·.1) = true := by rfl) : PE X (.Call (.Name x p) (e :: es) [] pos) (tMakeR C sp E t) := by
  refine ⟨fun pins s σ H Q I h => ?_⟩
  refine wpAny_Call_Name_kw (ld_glob I hg hm ?_ hd)
  refine PySem.W.callWith_S2 (h₀ := X.base) I.ok.mod.kin M.kp (thn (ha.run pos pins s σ H _ I h) fun us s1 ⟨vs, H1, I1, r, q⟩ => ⟨I1.kIn, ?_⟩) he hst
  exact run_makeR M F hr hx I1 r q
/-- C() -/
theorem pe_makeR0 (M : Mk X.K C f) (F : FnR X.prog X.w X.K X.mg X.base CX k f sp) (hr : Room (k + 1) X.A) (hg : Gl X x) (hm : X.mg x = some (.ref C)) (hx : Passes CX X E) (hd : (x == ("__debug__" : Str)) = false := by decide) : PE X (.Call (.Name x p) [] [] pos) (tMakeR C sp E tNil) := by
  refine ⟨fun pins s σ H Q I h => ?_⟩
  refine wpAny_Call_Name_kw (ld_glob I hg hm ?_ hd)
  exact PySem.W.callWith_K0 I.kIn M.kp (run_makeR (us := []) M F hr hx I .nil h)
end
/-! ### raising an own error with an __init__ of its own -/
def tMkX (C : Addr) (sp : Sp) (ta : TA) : St → Hp → XK → Prop := fun σ H Q => ta σ H fun vs H1 => vs.length ≤ 1000 ∧ ∀ a, H1 a = none → sp (.ref a :: vs) (upd H1 a (exo a C none))
  (fun v H2 => v = .non ∧ ∃ (d : Addr) (fs : List (Str × V)), H2 a = some (exo a C (some d)) ∧ H2 d = some (exd d fs) ∧ H1 d = none ∧ Q (.ref C) (some d) (upd (del H2 a) d (.xd fs))) (fun _ _ _ => False)
section
variable {X : Cx} {e : Expr} {es : List Expr} {ta : TA} {p pos : Pos}
theorem pmk_G {CX : CXT} {x : Str} {C fI : Addr} {k : Nat} {fd : FuncData} {ps : List Str} {sp : Sp} (T : OexG X.K C fI)
    (F1 : FnOk X.prog X.w X.K X.mg X.base CX k fI fd ps sp) (hr : Room (k + 1) X.A) (hb : Binds X.K fd ps []) (hx : Passes CX X (fun _ _ _ => False)) (hg : Gl X x) (hm : X.mg x = some (.ref C)) (ha : PA X (e :: es) ta)
    (hdb : (x == ("__debug__" : Str)) = false := by decide) (he : starEach (e :: es) X.env = (false, eval e X.env) :: starEach es X.env := by rfl) (hpl : (backTo pos (starEach es X.env)).any (·.1) = false := by rfl) :
    PMk X (.Call (.Name x p) (e :: es) [] pos) (tMkX C sp ta) := by
  intro pins s σ H Q I h
  obtain ⟨B, newId, initId, bmB, FB, SB, nm, q, N, bs, bm, sn, sub, ab, col, dd, k0, k1, k2, k3, k5, hC, hbm⟩ := T.base
  refine wpAny_Call_Name_kw (ld_glob I hg hm ?_ hdb)
  refine PySem.W.callWith_K (h₀ := X.base) I.ok.mod.kin T.kC (thn (ha.run pos pins s σ H _ I h) fun us s1 ⟨vs, H1, I1, r1, hz, q1⟩ => ⟨I1.kIn, ?_⟩) he hpl
  show wpAny _ _ (call (.ref C) us) _ _ _
  obtain ⟨hp, g, dr, tk, os⟩ := s1
  have hsz : hp.objs.size ≤ hp.objs.size + 1 := Nat.le_succ _
  have hn : H1 (hp.objs.size + 1) = none := I1.hok.fresh hsz
  have hq := q1 (hp.objs.size + 1) hn
  have kk : ∀ b o, hp.get? b = some o → ((hp.push (PySem.W.kdv_tup us)).push (PySem.HandSPX.excO C hp.objs.size)).get? b = some o := fun b o e => Heap.get?_push_of_some _ (Heap.get?_push_of_some _ e)
  have hget : ((hp.push (PySem.W.kdv_tup us)).push (PySem.HandSPX.excO C hp.objs.size)).get? (hp.objs.size + 1) = some (PySem.HandSPX.excO C hp.objs.size) := by heap_get
  have I2 : Inv X pins σ (upd H1 (hp.objs.size + 1) (exo (hp.objs.size + 1) C none)) ⟨(hp.push (PySem.W.kdv_tup us)).push (PySem.HandSPX.excO C hp.objs.size), g, dr, tk, os⟩ :=
    I1.laid (t' := tk) (a := hp.objs.size + 1) (o := exo (hp.objs.size + 1) C none) (h' := (hp.push (PySem.W.kdv_tup us)).push (PySem.HandSPX.excO C hp.objs.size)) kk hsz (exo_ok hget)
  have r2 : Vals (V.ref (hp.objs.size + 1) :: vs) (Value.ref (hp.objs.size + 1) :: us) := .cons rfl r1
  have hl : (Value.ref (hp.objs.size + 1) :: us).length = ps.length := by
    have z := F1.len _ _ _ _ hq
    rw [← z, r2.length]
  have hbt := hb ⟨(hp.push (PySem.W.kdv_tup us)).push (PySem.HandSPX.excO C hp.objs.size), g, dr, tk, os⟩ (Value.ref (hp.objs.size + 1) :: us) I2.kIn (by rw [List.append_nil]; exact hl)
  rw [List.append_nil] at hbt
  have hus : us.length ≤ sizeLine := by
    rw [← Paired.length r1, sizeLine_eq]
    omega
  refine wpAny_call (PySem.LwX.call_kw FB (fun Y => PySem.W.excTail_contains Y bm hbm) (I1.kIn _ _ hC) (PySem.W.looks_findIn I1.kIn T.iC) (fun self => PySem.W.bind_fn I1.kIn self T.tI) hus
    (codeAny_mono (F1.run _ X.stack _ _ ⟨Value.ref (hp.objs.size + 1) :: us, []⟩ (Value.ref (hp.objs.size + 1) :: us) _ _ (fun _ _ _ => False) (hr.make C us []) (I2.env0.make C us []) hbt r2 hq) fun r s' hq' => ?_))
  cases r with
  | error er => exact hx pins σ _ _ er s' I2 hq'
  | ok fl =>
    cases fl with
    | ret u =>
      obtain ⟨v, H2, os2, bare2, un2, hok2, rv, ev, d, fs, ea, ed, hd1, q2⟩ := hq'
      subst ev
      obtain ⟨h2, g2, d2, t2, os'⟩ := s'
      exact ⟨rv, mk_end (raises_own T.exC T.tyC) I1 hsz kk un2 hok2 os2 bare2 ea ed hd1 q2⟩
    | next => exact False.elim hq'
    | brk => exact False.elim hq'
    | cont => exact False.elim hq'
end
end L2

/-! R4 -/
/-! ### names and steps -/
namespace Rw
open PySem PySem.Spec PyProof.Rows L2
def top (i : Nat) : Stmt := PySem.Challenge.pw_takendown_k11_rows_judged.main.body.getD i (.Pass ⟨0, 0, 0, 0⟩)
theorem same_upd {H : Hp} {p : Addr} {o : HO} (h : H p = none) : Same H (upd H p o) := fun b x e => by
  rw [upd_ne (ne_of_none e h)]
  exact e
/-- for i, x in enumerate(tuple) -/
theorem for_enumT {K : PySem.W.Frag} {a : Addr} {xs : List V} {g : TG} {tb : TS} {D : Ends} {σ : L2.St} {H : Hp} (Pv : Nat → L2.St → Hp → Prop) (h0 : Pv 0 σ H) (hl : ∀ i σ H, i ≤ xs.length → Pv i σ H → SqT K H a xs)
    (hs : ∀ i x σ H T, xs[i]? = some x → Pv i σ H → H T = none → g (.ref T) σ (upd H T (.tup [.int (i : Nat), x])) fun σ2 H2 => tb { D with nx := Pv (i + 1), ct := Pv (i + 1), bk := D.nx } σ2 H2) (hd : ∀ σ H, Pv xs.length σ H → D.nx σ H) :
    ∃ W : Nat → Nat → L2.St → Hp → Prop, (∃ m, W 0 m σ H) ∧ ∀ i m σ H, W i m σ H →
      ((IteT K a).stop i H ∧ D.nx σ H) ∨ ((IteT K a).go i H ∧ ∃ N : L2.St → Hp → Prop, (∀ σ' H', N σ' H' → ∃ m', m' < m ∧ W (i + 1) m' σ' H') ∧ ∀ x H', (IteT K a).yld i H x H' → g x σ H' fun σ2 H2 => tb { D with nx := N, ct := N, bk := D.nx } σ2 H2) := by
  refine ⟨fun i m σ H => m = xs.length - i ∧ i ≤ xs.length ∧ Pv i σ H, ⟨xs.length, by simp, Nat.zero_le _, h0⟩, ?_⟩
  rintro i m σ H ⟨rfl, hi, p⟩
  have q := hl i σ H hi p
  by_cases hlt : i < xs.length
  · refine .inr ⟨⟨xs, xs[i], q, by simp [hlt]⟩, Pv (i + 1), fun σ' H' p' => ⟨xs.length - (i + 1), by omega, rfl, hlt, p'⟩, fun v H' y => ?_⟩
    obtain ⟨T, x, rfl, nT, rfl, hx⟩ := y
    exact hs i x σ H T (hx xs q) p nT
  · have e : i = xs.length := by omega
    subst e
    exact .inl ⟨⟨xs, q, rfl⟩, hd σ H p⟩
/-- [.. for c in text] -/
theorem lc_text {z : Str} {g : TG} {tt : TT} {te : TE} {vs : List Nat} {σ : L2.St} {H1 : Hp} {D : Addr} {Qd : Hp → Prop} (Pv : Nat → Hp → Prop) (h0 : Pv 0 (upd H1 D (.lst [])))
    (hs : ∀ i c H, z.cps[i]? = some c → Pv i H → g (.str ⟨#[c]⟩) (wipe σ vs) H fun σ2 H2 => wipe σ2 vs = wipe σ vs ∧ tt σ2 H2 fun b H3 =>
      if b = true then te σ2 H3 fun y H4 => ∃ acc, H4 D = some (.lst acc) ∧ acc.length < sizeLine ∧ Pv (i + 1) (upd H4 D (.lst (acc ++ [y]))) else Pv (i + 1) H3) (hd : ∀ H, Pv z.cps.size H → Qd H) :
    ∃ W : Nat → Nat → Hp → Prop, (∃ m, W 0 m (upd H1 D (.lst []))) ∧ ∀ i m H, W i m H →
      ((Its z).stop i H ∧ Qd H) ∨ ((Its z).go i H ∧ ∃ Nx : Hp → Prop, (∀ H', Nx H' → ∃ m', m' < m ∧ W (i + 1) m' H') ∧ ∀ x H', (Its z).yld i H x H' → g x (wipe σ vs) H' fun σ2 H2 => wipe σ2 vs = wipe σ vs ∧ tt σ2 H2 fun b H3 =>
        if b = true then te σ2 H3 fun y H4 => ∃ acc, H4 D = some (.lst acc) ∧ acc.length < sizeLine ∧ Nx (upd H4 D (.lst (acc ++ [y]))) else Nx H3) := by
  refine ⟨fun i m H => m = z.cps.size - i ∧ i ≤ z.cps.size ∧ Pv i H, ⟨z.cps.size, by simp, Nat.zero_le _, h0⟩, ?_⟩
  rintro i m H ⟨rfl, hi, p⟩
  by_cases hlt : i < z.cps.size
  · refine .inr ⟨hlt, Pv (i + 1), fun H' p' => ⟨z.cps.size - (i + 1), by omega, rfl, hlt, p'⟩, fun x H' y => ?_⟩
    obtain ⟨rfl, c, hc, rfl⟩ := y
    exact hs i c _ hc p
  · have e : i = z.cps.size := by omega
    subst e
    exact .inl ⟨Nat.le_refl _, hd H p⟩
/-- a sign from a to z -/
def letB (c : Nat) : Bool := if (!decide ([c] < [97])) = true then !decide ([122] < [c]) else false
def nameB (z : Str) : Bool := decide (1 ≤ z.length) && decide (z.length ≤ 8) && (z.cps.toList.map letB).all id
abbrev oddTys : List String := ["NoneType", "bool", "int", "list", "tuple", "dict"]
/-- any value, and whether it is a name -/
inductive NV (K : PySem.W.Frag) (H : Hp) : V → Bool → Prop
  | str (z : Str) : z.length ≤ 1000000 → NV K H (.str z) (nameB z)
  | other {v : V} {T : String} : TyX K H v (.type T) → T ∈ oddTys → NV K H v false
def spName (K : PySem.W.Frag) : Sp := fun vs H Q _ => ∃ (v : V) (b : Bool), vs = [v] ∧ NV K H v b ∧ ∀ H', Same H H' → Q (.bl b) H'
theorem len_codes (z : Str) : z.length = z.cps.size := rfl
section
variable {P : Program} {w : World} {K : PySem.W.Frag} {mg : Str → Option Value} {base : Heap}
abbrev sName : Stmt := top 9
theorem scName : FnScope ["value", "letter"] ["value"] (defScope sName) := ⟨rfl, rfl, rfl, by decide +kernel, rfl, by decide +kernel, by decide +kernel⟩
theorem ok_name {f : Addr} {fd : FuncData} (F : Fun K "is_name" "is_name" sName f fd) (m_isinstance : mg "isinstance" = none) (m_str : mg "str" = none) (m_len : mg "len" = none) (m_all : mg "all" = none) {tM : Tok} (mM : mg "MOST_LETTERS" = some (.int 8 tM)) :
    FnOk P w K mg base CX0 1 f fd ["value"] (spName K) := by
  refine F.ok scName (fun vs H Q E h => ?_) (fun cdv A outer s H vs Q E hr h => ?_)
  · obtain ⟨v, b, rfl, _⟩ := h
    rfl
  · obtain ⟨v, b, rfl, hv, q⟩ := h
    refine ⟨_, (pss_cons (ps_if (PW.pt (pw_or (pt_not (pt_val (pe_callB call_isi (by rfl) m_isinstance (by decide +kernel) (pa_cons (pv 0) (pa_cons (pe_bltn (v := .ty "str") (by rfl) m_str (by decide +kernel) rfl) pa_nil))))) (pw_or1 (pt_not (pt_chain op_le op_le pe_int (pe_callB call_len_str (by rfl) m_len PySem.boot_len (pa_cons (pv 0) pa_nil)) (pe_glob (v := .int 8) rfl mM ⟨_, rfl⟩))))))
       (pss_one (ps_ret pe_bl))
       pss_nil)
       (pss_one (ps_ret (pe_callB (cr_all rfl) (by rfl) m_all (by decide +kernel) (pa_cons (pe_lc (own := [("letter", 1)]) (g := gName 1) (tt := tYes) rfl scName.nd (pi_str (pv 0)) (blkOk_by (N := ["value", "letter"]) (sc := defScope sName) (by decide +kernel)) (fun _ _ _ _ _ => pg_name (i := 1) scName.nd rfl (Or.inl rfl)) (fun _ _ _ _ _ => pts_nil) (fun _ _ _ _ _ => (pe_chain op_le_str op_le_str pe_str (pv 1) pe_str))) pa_nil))))), ?_⟩
    cases hv with
    | @other _ T ty hT =>
      have kt : PySem.W.kitOne K (.type T) (.type "str") = some false := by
        simp only [oddTys, List.mem_cons, List.mem_nil_iff, or_false] at hT
        rcases hT with rfl | rfl | rfl | rfl | rfl | rfl <;> exact kit_ty (by decide +kernel)
      exact ⟨_, rfl, _, _, _, _, _, rfl, .ty _, ty, kt, _, rfl, iteT (iteT (q H (Same.refl H)))⟩
    | str z hz =>
      have kt : PySem.W.kitOne K (.type "str") (.type "str") = some true := kit_ty (by decide +kernel)
      have hz2 : z.length ≤ sizeLine := by
        rw [sizeLine_eq]
        omega
      refine ⟨_, rfl, _, _, _, _, _, rfl, .ty _, .base (.str z), kt, _, rfl, iteF ?_⟩
      refine ⟨_, rfl, z, rfl, hz2, _, _, rfl, rfl, _, rfl, ?_⟩
      refine ite2 (fun h1 => ?_) (fun h1 => ?_)
      · have h1' : (1 : Int) ≤ (z.length : Int) := of_decide_eq_true h1
        refine ⟨_, _, rfl, rfl, _, rfl, ?_⟩
        by_cases h2 : (z.length : Int) ≤ 8
        · refine iteNS h2 ?_
          refine ⟨_, rfl, z, rfl, fun D nD => lc_text (fun i H' => Same H H' ∧ H' D = some (.lst (((z.cps.toList.take i).map letB).map V.bl))) ⟨same_upd nD, upd_same⟩ ?_ ?_⟩
          · rintro i c H1 hc ⟨s1, e1⟩
            have hi : i < z.cps.size := (Array.getElem?_eq_some_iff.mp hc).1
            refine ⟨rfl, ?_⟩
            dsimp only [tYes]
            rw [if_pos rfl]
            have fin : ∀ y, y = V.bl (letB c) → ∃ acc, H1 D = some (.lst acc) ∧ acc.length < sizeLine ∧ Same H (upd H1 D (.lst (acc ++ [y]))) ∧ (upd H1 D (.lst (acc ++ [y]))) D = some (.lst (((z.cps.toList.take (i + 1)).map letB).map V.bl)) := by
              rintro y rfl
              refine ⟨_, e1, ?_, fun b o e => ?_, ?_⟩
              · rw [List.length_map, List.length_map, List.length_take, sizeLine_eq]
                have z1 : z.cps.toList.length = z.cps.size := Array.length_toList
                have z2 : z.length = z.cps.size := rfl
                omega
              · rw [upd_ne (ne_of_none e nD)]
                exact s1 b o e
              · have e3 : z.cps.toList[i]? = some c := by rw [Array.getElem?_toList]; exact hc
                rw [upd_same, List.take_add_one, e3, List.map_append, List.map_append]
                rfl
            refine ⟨_, rfl, _, _, rfl, rfl, _, rfl, ?_⟩
            by_cases h3 : (!decide ([c] < [97])) = true
            · refine (if_pos h3).mpr ?_
              refine ⟨_, _, rfl, rfl, fin _ ?_⟩
              unfold letB
              rw [if_pos h3]
              rfl
            · refine (if_neg h3).mpr ?_
              refine fin _ ?_
              unfold letB
              rw [if_neg h3]
          · rintro H1 ⟨s1, e1⟩
            have e2 : z.cps.toList.take z.cps.size = z.cps.toList := by
              rw [List.take_of_length_le]
              rw [Array.length_toList]
              exact Nat.le_refl _
            rw [e2] at e1
            refine ⟨D, _, rfl, .inl (.inl e1), ?_⟩
            have e3 : (z.cps.toList.map letB).all id = nameB z := by
              unfold nameB
              rw [decide_eq_true (show 1 ≤ z.length by omega), decide_eq_true (show z.length ≤ 8 by omega)]
              rfl
            rw [e3]
            exact q H1 s1
        · have e3 : nameB z = false := by
            unfold nameB
            rw [decide_eq_false (show ¬ z.length ≤ 8 by omega), Bool.and_false, Bool.false_and]
          have z := q H (Same.refl H)
          rw [e3] at z
          rw [decide_eq_false h2]
          exact iteT z
      · have h1' : ¬ (1 : Int) ≤ (z.length : Int) := fun e => h1 (decide_eq_true e)
        have e3 : nameB z = false := by
          unfold nameB
          rw [decide_eq_false (show ¬ 1 ≤ z.length by omega), Bool.false_and, Bool.false_and]
        have y := q H (Same.refl H)
        rw [e3] at y
        exact ⟨_, rfl, iteT y⟩
end
end Rw

/-! R5 -/
/-! ### is_step -/
namespace Rw
open PySem PySem.Spec PyProof.Rows L2
theorem tyx_tup {K : PySem.W.Frag} {H : Hp} {p : Addr} {xs : List V} (h : SqT K H p xs) : TyX K H (.ref p) (.type "tuple") := by
  rcases h with (h | ⟨o, h⟩) | ⟨o, its, n, hl, hc, r⟩
  · exact .base (.tup h)
  · exact .fTuple h
  · exact .kTuple hl hc
abbrev noTup : List String := ["NoneType", "bool", "int", "list", "str", "dict"]
/-- any value, and whether it is a step -/
inductive SV (K : PySem.W.Frag) (d : Addr) (H : Hp) : V → Option (Str × Str) → Prop
  | good {p : Addr} {w n : Str} {u : Value} : SqT K H p [.str w, .str n] → PySem.W.nsIn K d w = some (some u) → n.length ≤ 1000000 → nameB n = true → SV K d H (.ref p) (some (w, n))
  | name {p : Addr} {w : Str} {b : V} {u : Value} : SqT K H p [.str w, b] → PySem.W.nsIn K d w = some (some u) → NV K H b false → SV K d H (.ref p) none
  | word {p : Addr} {w : Str} {b : V} : SqT K H p [.str w, b] → PySem.W.nsIn K d w = some none → SV K d H (.ref p) none
  | first {p : Addr} {a b : V} {T : String} : SqT K H p [a, b] → TyX K H a (.type T) → T ∈ oddTys → SV K d H (.ref p) none
  | len {p : Addr} {xs : List V} : SqT K H p xs → xs.length ≠ 2 → SV K d H (.ref p) none
  | other {v : V} {T : String} : TyX K H v (.type T) → T ∈ noTup → SV K d H v none
def spStep (K : PySem.W.Frag) (d : Addr) : Sp := fun vs H Q _ => ∃ (v : V) (r : Option (Str × Str)), vs = [v] ∧ SV K d H v r ∧ ∀ H', Same H H' → Q (.bl r.isSome) H'
/-- a def as it is called -/
def Called (K : PySem.W.Frag) (mg : Str → Option Value) (x : Str) (ps : List Str) (f : Addr) (fd : FuncData) : Prop := mg x = some (.ref f) ∧ PySem.W.keepIn K (.ref f) = true ∧ Binds K fd ps []
section
variable {P : Program} {w : World} {K : PySem.W.Frag} {mg : Str → Option Value} {base : Heap}
abbrev sStep : Stmt := top 10
theorem scStep : FnScope ["value"] ["value"] (defScope sStep) := ⟨rfl, rfl, rfl, by decide +kernel, rfl, by decide +kernel, by decide +kernel⟩
theorem ok_step {f fN d : Addr} {fd fdN : FuncData} {es : Array DictEntry} {n : Nat} (F : Fun K "is_step" "is_step" sStep f fd) (GN : FnOk P w K mg base CX0 1 fN fdN ["value"] (spName K)) (TN : Called K mg "is_name" ["value"] fN fdN)
    (m_isinstance : mg "isinstance" = none) (m_str : mg "str" = none) (m_tuple : mg "tuple" = none) (m_len : mg "len" = none) (gK : mg "STEP_KINDS" = some (.ref d)) (DK : KDict K w d es n) :
    FnOk P w K mg base CX0 2 f fd ["value"] (spStep K d) := by
  refine F.ok scStep (fun vs H Q E h => ?_) (fun cdv A outer s H vs Q E hr h => ?_)
  · obtain ⟨v, b, rfl, _⟩ := h
    rfl
  · obtain ⟨v, r, rfl, hv, q⟩ := h
    refine ⟨_, (pss_cons (ps_if (PW.pt (pw_or (pt_not (pt_val (pe_callB call_isi (by rfl) m_isinstance (by decide +kernel) (pa_cons (pv 0) (pa_cons (pe_bltn (v := .ty "tuple") (by rfl) m_tuple (by decide +kernel) rfl) pa_nil))))) (pw_or1 (pt_cmpR op_ne (pe_callB call_len_seq (by rfl) m_len PySem.boot_len (pa_cons (pv 0) pa_nil)) pe_int (nomark _)))))
       (pss_one (ps_ret pe_bl))
       pss_nil)
       (pss_one (ps_ret (pe_and (pe_callB call_isi (by rfl) m_isinstance (by decide +kernel) (pa_cons (pe_ix ix_tup (pv 0) pe_int (fun _ _ => rfl)) (pa_cons (pe_bltn (v := .ty "str") (by rfl) m_str (by decide +kernel) rfl) pa_nil))) (pe_and (pe_cmpR (op_in_kd DK) (pe_ix ix_tup (pv 0) pe_int (fun _ _ => rfl)) (pe_glob (v := .ref d) rfl gK rfl) (by rfl)) (pe_one (pe_call GN (hr.mono (by decide)) rfl TN.1 TN.2.1 TN.2.2 .nil pass0 (pa_cons (pe_ix ix_tup (pv 0) pe_int (fun _ _ => rfl)) pa_nil)))))))), ?_⟩
    have tup : PySem.W.kitOne K (.type "tuple") (.type "tuple") = some true := kit_ty (by decide +kernel)
    have str1 : PySem.W.kitOne K (.type "str") (.type "str") = some true := kit_ty (by decide +kernel)
    cases hv with
    | @other _ T ty hT =>
      have kt : PySem.W.kitOne K (.type T) (.type "tuple") = some false := by
        simp only [noTup, List.mem_cons, List.mem_nil_iff, or_false] at hT
        rcases hT with rfl | rfl | rfl | rfl | rfl | rfl <;> exact kit_ty (by decide +kernel)
      exact ⟨_, rfl, _, _, _, _, _, rfl, .ty _, ty, kt, _, rfl, iteT (iteT (q H (Same.refl H)))⟩
    | @len p xs hs hl =>
      refine ⟨_, rfl, _, _, _, _, _, rfl, .ty _, tyx_tup hs, tup, _, rfl, iteF ?_⟩
      refine ⟨_, rfl, p, xs, rfl, .inr hs, rfl, _, rfl, ?_⟩
      have e : (!decide (V.int (xs.length : Nat) = V.int 2)) = true := by
        rw [decide_eq_false]
        · rfl
        · intro z
          have z2 := V.int.inj z
          omega
      rw [e]
      exact iteT (q H (Same.refl H))
    | @first p a b T hs ty hT =>
      have kt : PySem.W.kitOne K (.type T) (.type "str") = some false := by
        simp only [oddTys, List.mem_cons, List.mem_nil_iff, or_false] at hT
        rcases hT with rfl | rfl | rfl | rfl | rfl | rfl <;> exact kit_ty (by decide +kernel)
      refine ⟨_, rfl, _, _, _, _, _, rfl, .ty _, tyx_tup hs, tup, _, rfl, iteF ?_⟩
      refine ⟨_, rfl, p, _, rfl, .inr hs, rfl, _, rfl, iteF ?_⟩
      refine ⟨_, rfl, p, _, _, _, rfl, rfl, hs, rfl, _, _, _, _, _, rfl, .ty _, ty, kt, _, rfl, ?_⟩
      exact iteF (q H (Same.refl H))
    | @word p wd b hs hw =>
      refine ⟨_, rfl, _, _, _, _, _, rfl, .ty _, tyx_tup hs, tup, _, rfl, iteF ?_⟩
      refine ⟨_, rfl, p, _, rfl, .inr hs, rfl, _, rfl, iteF ?_⟩
      refine ⟨_, rfl, p, _, _, _, rfl, rfl, hs, rfl, _, _, _, _, _, rfl, .ty _, .base (.str _), str1, _, rfl, iteT ?_⟩
      refine ⟨_, rfl, p, _, _, _, rfl, rfl, hs, rfl, _, _, rfl, rfl, hw, _, rfl, ?_⟩
      exact iteF (q H (Same.refl H))
    | @name p wd b u hs hw hb =>
      refine ⟨_, rfl, _, _, _, _, _, rfl, .ty _, tyx_tup hs, tup, _, rfl, iteF ?_⟩
      refine ⟨_, rfl, p, _, rfl, .inr hs, rfl, _, rfl, iteF ?_⟩
      refine ⟨_, rfl, p, _, _, _, rfl, rfl, hs, rfl, _, _, _, _, _, rfl, .ty _, .base (.str _), str1, _, rfl, iteT ?_⟩
      refine ⟨_, rfl, p, _, _, _, rfl, rfl, hs, rfl, _, _, rfl, rfl, hw, _, rfl, iteT ?_⟩
      exact ⟨_, rfl, p, _, _, _, rfl, rfl, hs, rfl, _, _, rfl, hb, q⟩
    | @good p wd nm u hs hw hl hb =>
      refine ⟨_, rfl, _, _, _, _, _, rfl, .ty _, tyx_tup hs, tup, _, rfl, iteF ?_⟩
      refine ⟨_, rfl, p, _, rfl, .inr hs, rfl, _, rfl, iteF ?_⟩
      refine ⟨_, rfl, p, _, _, _, rfl, rfl, hs, rfl, _, _, _, _, _, rfl, .ty _, .base (.str _), str1, _, rfl, iteT ?_⟩
      refine ⟨_, rfl, p, _, _, _, rfl, rfl, hs, rfl, _, _, rfl, rfl, hw, _, rfl, iteT ?_⟩
      refine ⟨_, rfl, p, _, _, _, rfl, rfl, hs, rfl, _, _, rfl, .str nm hl, ?_⟩
      rw [hb]
      exact q
end
end Rw

/-! R6 -/
/-! ### what is never come to; not in a tuple of data -/
namespace L2
open PySem PySem.Spec PyProof.Rows
def tDead : TE := fun _ _ _ => False
def sDead : TS := fun _ _ _ => False
theorem pe_dead {X : Cx} {e : Expr} : PE X e tDead := ⟨fun _ _ _ _ _ _ h => False.elim h⟩
theorem ps_dead {X : Cx} {st : Stmt} : PS X st sDead := ⟨fun _ _ _ _ _ _ h => False.elim h⟩
theorem pss_dead {X : Cx} {st : List Stmt} : PSs X st sDead := ⟨fun _ _ _ _ _ _ h => False.elim h⟩
def rNotInTD (K : PySem.W.Frag) : R2 := fun x y H Q => ∃ d ds, Dp K H x d ∧ Dp K H y (.tuple ds) ∧ SeqAt.shaped d = true ∧ SeqAt.shaped (.tuple ds) = true ∧ Q (.bl (!ds.any fun z => PyData.eqv z d)) H
theorem op_notInTD {X : Cx} (hu : X.A.units + 65 < cLine) : OpR X (compareOp .NotIn) (rNotInTD X.K) := by
  intro pins s σ H x y v u Q I rx ry h
  obtain ⟨d, ds, hd, he, sd, se, q⟩ := h
  obtain ⟨as, r1⟩ := Dp.reads I d x v hd rx
  obtain ⟨bs, r2⟩ := Dp.reads I (.tuple ds) y u he ry
  exact SeqAt.notIn_tuple_reads r2 r1 (SeqAt.canLay_of_shaped se) (SeqAt.canLay_of_shaped sd) (room_in_shaped sd hu) ⟨.bl _, H, I, rfl, q⟩
theorem Room.units65 {k : Nat} {A : Around} (r : Room k A) : A.units + 65 < cLine := by have := r.un; omega
theorem Same.tupS {K : PySem.W.Frag} {H H' : Hp} {a : Addr} {xs : List V} (e : Same H H') (h : SqT K H a xs) : SqT K H' a xs := h.ext e
end L2
/-! ### steps, and the locks behind them -/
namespace Rw
open PySem PySem.Spec PyProof.Rows L2
abbrev Step := Str × Str
inductive All2 {α β : Type} (R : α → β → Prop) : List α → List β → Prop
  | nil : All2 R [] []
  | cons {a : α} {b : β} {as : List α} {bs : List β} : R a b → All2 R as bs → All2 R (a :: as) (b :: bs)
theorem All2.length {α β : Type} {R : α → β → Prop} {as : List α} {bs : List β} (h : All2 R as bs) : as.length = bs.length := by
  induction h with
  | nil => rfl
  | cons _ _ ih => exact congrArg (· + 1) ih
theorem All2.get {α β : Type} {R : α → β → Prop} {as : List α} {bs : List β} (h : All2 R as bs) : ∀ {i : Nat} {a : α}, as[i]? = some a → ∃ b, bs[i]? = some b ∧ R a b := by
  induction h with
  | nil => intro i a e; cases e
  | cons r _ ih =>
    intro i a e
    cases i with
    | zero => cases e; exact ⟨_, rfl, r⟩
    | succ i => exact ih e
theorem All2.mono {α β : Type} {R S : α → β → Prop} (f : ∀ a b, R a b → S a b) {as : List α} {bs : List β} (h : All2 R as bs) : All2 S as bs := by
  induction h with
  | nil => exact .nil
  | cons r _ ih => exact .cons (f _ _ r) ih
theorem All2.append {α β : Type} {R : α → β → Prop} {as as' : List α} {bs bs' : List β} (h : All2 R as bs) (h' : All2 R as' bs') : All2 R (as ++ as') (bs ++ bs') := by
  induction h with
  | nil => exact h'
  | cons r _ ih => exact .cons r ih
theorem All2.drop {α β : Type} {R : α → β → Prop} {as : List α} {bs : List β} (h : All2 R as bs) : ∀ n, All2 R (as.drop n) (bs.drop n) := by
  induction h with
  | nil => intro n; simp only [List.drop_nil]; exact .nil
  | cons r t ih =>
    intro n
    cases n with
    | zero => exact .cons r t
    | succ n => exact ih n
theorem All2.take {α β : Type} {R : α → β → Prop} {as : List α} {bs : List β} (h : All2 R as bs) : ∀ n, All2 R (as.take n) (bs.take n) := by
  induction h with
  | nil => intro n; simp only [List.take_nil]; exact .nil
  | cons r t ih =>
    intro n
    cases n with
    | zero => exact .nil
    | succ n => exact .cons r (ih n)
def StepAt (K : PySem.W.Frag) (H : Hp) (v : V) (s : Step) : Prop := ∃ p, v = .ref p ∧ SqT K H p [.str s.1, .str s.2]
def StepsAt (K : PySem.W.Frag) (H : Hp) : List V → List Step → Prop := All2 (StepAt K H)
def TxtT (K : PySem.W.Frag) (H : Hp) (v : V) (ns : List Str) : Prop := ∃ p, v = .ref p ∧ SqT K H p (ns.map V.str)
theorem StepAt.same {K : PySem.W.Frag} {H H' : Hp} (e : Same H H') {v : V} {s : Step} (h : StepAt K H v s) : StepAt K H' v s := let ⟨p, q, r⟩ := h; ⟨p, q, e.tupS r⟩
theorem StepsAt.same {K : PySem.W.Frag} {H H' : Hp} (e : Same H H') {vs : List V} {ss : List Step} (h : StepsAt K H vs ss) : StepsAt K H' vs ss := by
  exact h.mono fun _ _ a => a.same e
theorem TxtT.same {K : PySem.W.Frag} {H H' : Hp} (e : Same H H') {v : V} {s : List Str} (h : TxtT K H v s) : TxtT K H' v s := let ⟨p, q, r⟩ := h; ⟨p, q, e.tupS r⟩
/-- no word of a test or choose -/
def plainW (w : Str) : Prop := w ≠ "test" ∧ w ≠ "choose" ∧ w ≠ "piece"
def behind (s : Step) (h : List Str) : List Str := if s.1 = "take" then h ++ [s.2] else if s.1 = "give" then h.dropLast else h
theorem dec_str {a b : Str} : decide (V.str a = V.str b) = decide (a = b) := by
  by_cases h : a = b
  · rw [h, decide_eq_true rfl, decide_eq_true rfl]
  · rw [decide_eq_false h, decide_eq_false (fun e => h (V.str.inj e))]
theorem sIx_m1 (n d : Nat) : HT.sIx n d (some (-1)) = n - 1 := by
  show (if (-1 : Int) < 0 then ((-1 : Int) + (n : Int)).toNat else min (-1 : Int).toNat n) = n - 1
  rw [if_pos (by decide)]
  omega
theorem cut_m1 (xs : List V) : cutV xs none (some (-1)) = xs.dropLast := by
  show (xs.drop (HT.sIx xs.length 0 none)).take (HT.sIx xs.length xs.length (some (-1)) - HT.sIx xs.length 0 none) = xs.dropLast
  rw [sIx_m1]
  show (xs.drop 0).take (xs.length - 1 - 0) = _
  rw [List.drop_zero, Nat.sub_zero, List.dropLast_eq_take]
def spBr (K : PySem.W.Frag) : Sp := fun vs H Q _ => ∃ (v : V) (s : Step), vs = [v] ∧ StepAt K H v s ∧ plainW s.1 ∧ ∀ H' p, Same H H' → SqT K H' p [] → Q (.ref p) H'
def spBeh (K : PySem.W.Frag) : Sp := fun vs H Q _ => ∃ (v h : V) (s : Step) (ns : List Str), vs = [v, h] ∧ StepAt K H v s ∧ TxtT K H h ns ∧ ns.length ≤ 1000 ∧ ∀ H' u, Same H H' → TxtT K H' u (behind s ns) → Q u H'
section
variable {P : Program} {w : World} {K : PySem.W.Frag} {mg : Str → Option Value} {base : Heap}
abbrev sBr : Stmt := top 11
theorem scBr : FnScope ["item"] ["item"] (defScope sBr) := ⟨rfl, rfl, rfl, by decide +kernel, rfl, by decide +kernel, by decide +kernel⟩
theorem ok_br {f : Addr} {fd : FuncData} (F : Fun K "branches" "branches" sBr f fd) : FnOk P w K mg base CX0 1 f fd ["item"] (spBr K) := by
  refine F.ok scBr (fun vs H Q E h => ?_) (fun cdv A outer s H vs Q E hr h => ?_)
  · obtain ⟨v, s, rfl, _⟩ := h
    rfl
  · obtain ⟨v, st, rfl, ⟨p, rfl, hp⟩, ⟨n1, n2, _⟩, q⟩ := h
    refine ⟨_, (pss_cons (ps_if (pt_cmpR op_eq (pe_ix ix_tup (pv 0) pe_int (fun _ _ => rfl)) pe_str (nomark _))
       (pss_one (ps_ret (pe_slice sl_tupA (pv 0) (po_some pe_int) po_none)))
       pss_nil)
       (pss_cons (ps_if (pt_cmpR op_eq (pe_ix ix_tup (pv 0) pe_int (fun _ _ => rfl)) pe_str (nomark _))
       (pss_one (ps_ret (pe_slice sl_tupA (pv 0) (po_some pe_int) po_none)))
       pss_nil)
       (pss_one (ps_ret (pe_tup pa_nil))))), ?_⟩
    refine ⟨_, rfl, p, _, _, _, rfl, rfl, hp, rfl, rfl, _, rfl, ?_⟩
    rw [dec_str, decide_eq_false n1]
    refine iteF ?_
    refine ⟨_, rfl, p, _, _, _, rfl, rfl, hp, rfl, rfl, _, rfl, ?_⟩
    rw [dec_str, decide_eq_false n2]
    refine iteF ?_
    exact ⟨Nat.zero_le _, fun t nt => q _ t (same_upd nt) (SqT.of upd_same)⟩
abbrev sBeh : Stmt := top 14
theorem scBeh : FnScope ["item", "held"] ["item", "held"] (defScope sBeh) := ⟨rfl, rfl, rfl, by decide +kernel, rfl, by decide +kernel, by decide +kernel⟩
theorem ok_beh {f : Addr} {fd : FuncData} (F : Fun K "locks_behind" "locks_behind" sBeh f fd) : FnOk P w K mg base CX0 1 f fd ["item", "held"] (spBeh K) := by
  refine F.ok scBeh (fun vs H Q E h => ?_) (fun cdv A outer s H vs Q E hr h => ?_)
  · obtain ⟨v, h', s, ns, rfl, _⟩ := h
    rfl
  · obtain ⟨v, h', st, ns, rfl, ⟨p, rfl, hp⟩, ⟨t, rfl, ht⟩, hz, q⟩ := h
    refine ⟨_, (pss_cons (ps_if (pt_cmpR op_eq (pe_ix ix_tup (pv 0) pe_int (fun _ _ => rfl)) pe_str (nomark _))
       (pss_one (ps_ret (pe_op op_catA (pv 1) (pe_tup (pa_cons (pe_ix ix_tup (pv 0) pe_int (fun _ _ => rfl)) pa_nil)))))
       pss_nil)
       (pss_cons (ps_if (pt_cmpR op_eq (pe_ix ix_tup (pv 0) pe_int (fun _ _ => rfl)) pe_str (nomark _))
       (pss_one (ps_ret (pe_slice sl_tupA (pv 1) po_none (po_some (pe_un un_neg pe_int)))))
       pss_nil)
       (pss_one (ps_ret (pv 1))))), ?_⟩
    refine ⟨_, rfl, p, _, _, _, rfl, rfl, hp, rfl, rfl, _, rfl, ?_⟩
    rw [dec_str]
    by_cases h1 : st.1 = "take"
    · rw [decide_eq_true h1]
      refine iteT ?_
      have e : behind st ns = ns ++ [st.2] := if_pos h1
      rw [e] at q
      refine ⟨_, rfl, _, rfl, p, _, _, _, rfl, rfl, hp, rfl, by show 1 ≤ sizeLine; decide, fun y ny => ?_⟩
      have s1 := same_upd (o := HO.tup [V.str st.2]) ny
      have hy : SqT K (upd H y (.tup [V.str st.2])) y [V.str st.2] := SqT.of upd_same
      refine ⟨t, y, _, _, rfl, rfl, s1.tupS ht, hy, ?_, fun en => ?_, fun _ z => absurd z (List.cons_ne_nil _ _), fun _ _ u nu => ?_⟩
      · rw [List.length_map, sizeLine_eq]
        show ns.length + 1 ≤ _
        omega
      · have en2 : ns = [] := List.map_eq_nil_iff.mp en
        rw [en2] at q
        exact q _ _ s1 ⟨y, rfl, hy⟩
      · refine q _ _ (s1.trans (same_upd nu)) ⟨u, rfl, SqT.of ?_⟩
        rw [upd_same, List.map_append]
        rfl
    · rw [decide_eq_false h1]
      refine iteF ?_
      refine ⟨_, rfl, p, _, _, _, rfl, rfl, hp, rfl, rfl, _, rfl, ?_⟩
      rw [dec_str]
      by_cases h2 : st.1 = "give"
      · rw [decide_eq_true h2]
        refine iteT ?_
        have e : behind st ns = ns.dropLast := by
          unfold behind
          rw [if_neg h1, if_pos h2]
        rw [e] at q
        refine ⟨_, rfl, _, rfl, _, rfl, ?_⟩
        refine ⟨t, _, rfl, ht, fun c => ?_, fun c u nu => ?_⟩
        · have e1 : HT.sIx (ns.map V.str).length (ns.map V.str).length (some (-1)) = ns.length - 1 := by rw [List.length_map]; exact sIx_m1 _ _
          have c2 := c.2
          rw [e1, List.length_map] at c2
          have e2 : ns = [] := List.eq_nil_of_length_eq_zero (by omega)
          rw [e2] at q ht
          exact q H _ (Same.refl H) ⟨t, rfl, ht⟩
        · refine q _ _ (same_upd nu) ⟨u, rfl, SqT.of ?_⟩
          rw [upd_same, cut_m1, List.map_dropLast]
      · rw [decide_eq_false h2]
        refine iteF ?_
        have e : behind st ns = ns := by
          unfold behind
          rw [if_neg h1, if_neg h2]
        rw [e] at q
        exact ⟨_, rfl, q H _ (Same.refl H) ⟨t, rfl, ht⟩⟩
end
end Rw

/-! R7 -/
/-! ### the locks along the steps -/
namespace Rw
open PySem PySem.Spec PyProof.Rows L2
def after (ss : List Step) (h : List Str) : List Str := ss.foldl (fun h s => behind s h) h
def helds : List Step → List Str → List (List Str)
  | [], _ => []
  | s :: ss, h => h :: helds ss (behind s h)
theorem after_snoc (ss : List Step) (s : Step) (h : List Str) : after (ss ++ [s]) h = behind s (after ss h) := by
  unfold after
  rw [List.foldl_append]
  rfl
theorem helds_snoc : ∀ (ss : List Step) (s : Step) (h : List Str), helds (ss ++ [s]) h = helds ss h ++ [after ss h]
  | [], _, _ => rfl
  | x :: ss, s, h => by
    show h :: helds (ss ++ [s]) (behind x h) = h :: (helds ss (behind x h) ++ [after ss (behind x h)])
    rw [helds_snoc ss s]
theorem behind_len (s : Step) (h : List Str) : (behind s h).length ≤ h.length + 1 := by
  unfold behind
  split
  · rw [List.length_append]; exact Nat.le_refl _
  · split
    · rw [List.length_dropLast]; omega
    · omega
theorem after_len : ∀ (ss : List Step) (h : List Str), (after ss h).length ≤ h.length + ss.length
  | [], _ => Nat.le_refl _
  | s :: ss, h => by
    have h1 := after_len ss (behind s h)
    have h2 := behind_len s h
    show (after ss (behind s h)).length ≤ h.length + (ss.length + 1)
    omega
theorem sqT_updL {K : PySem.W.Frag} {H : Hp} {o a : Addr} {ys xs : List V} {u : HO} (ho : H o = some (.lst ys)) (h : SqT K H a xs) : SqT K (upd H o u) a xs := by
  rcases h with (h | ⟨ob, h⟩) | h
  · exact .inl (.inl (by rw [upd_ne (fun e => by rw [e, ho] at h; cases h)]; exact h))
  · exact .inl (.inr ⟨ob, by rw [upd_ne (fun e => by rw [e, ho] at h; cases h)]; exact h⟩)
  · exact .inr h
theorem TxtT.updL {K : PySem.W.Frag} {H : Hp} {o : Addr} {ys : List V} {v : V} {ns : List Str} {u : HO} (ho : H o = some (.lst ys)) (h : TxtT K H v ns) : TxtT K (upd H o u) v ns := let ⟨p, e, q⟩ := h; ⟨p, e, sqT_updL ho q⟩
theorem same_updN {H H' : Hp} {o : Addr} {u : HO} (no : H o = none) (s : Same H H') : Same H (upd H' o u) := fun b z e => by
  rw [upd_ne (ne_of_none e no)]
  exact s b z e
theorem take_snoc {α : Type} {xs : List α} {i : Nat} {x : α} (h : xs[i]? = some x) : xs.take (i + 1) = xs.take i ++ [x] := by
  rw [List.take_add_one, h]
  rfl
def spHeld (K : PySem.W.Frag) : Sp := fun vs H Q _ => ∃ (a : Addr) (hv : V) (xs : List V) (ss : List Step) (h0 : List Str), vs = [.ref a, hv] ∧ SqT K H a xs ∧ StepsAt K H xs ss ∧ (∀ s ∈ ss, plainW s.1) ∧ TxtT K H hv h0 ∧ h0.length + ss.length ≤ 900 ∧
  ∀ H' p ys, Same H H' → H p = none → H' p = some (.lst ys) → All2 (TxtT K H') ys (helds ss h0) → Q (.ref p) H'
section
variable {P : Program} {w : World} {K : PySem.W.Frag} {mg : Str → Option Value} {base : Heap}
abbrev sHeld : Stmt := top 15
theorem scHeld : FnScope ["items", "around", "found", "held", "item", "inner"] ["items", "around"] (defScope sHeld) := ⟨rfl, rfl, rfl, by decide +kernel, rfl, by decide +kernel, by decide +kernel⟩
theorem ok_held {f fB fL : Addr} {fd fdB fdL : FuncData} (F : Fun K "held_along" "held_along" sHeld f fd) (GB : FnOk P w K mg base CX0 1 fB fdB ["item"] (spBr K)) (TB : Called K mg "branches" ["item"] fB fdB)
    (GL : FnOk P w K mg base CX0 1 fL fdL ["item", "held"] (spBeh K)) (TL : Called K mg "locks_behind" ["item", "held"] fL fdL) : FnOk P w K mg base CX0 2 f fd ["items", "around"] (spHeld K) := by
  refine F.ok scHeld (fun vs H Q E h => ?_) (fun cdv A outer s H vs Q E hr h => ?_)
  · obtain ⟨a, hv, xs, ss, h0, rfl, _⟩ := h
    rfl
  · obtain ⟨a, hv, xs, ss, h0, rfl, hx, hss, hp, hh, hz, q⟩ := h
    refine ⟨_, (pss_cons (ps_set (i := 2) scHeld.nd rfl (.inl rfl) (pe_lst pa_nil))
       (pss_cons (ps_set (i := 3) scHeld.nd rfl (.inl rfl) (pv 1))
       (pss_cons (ps_for PassesOwn.never rfl (pi_tup (pv 0)) (pg_name (i := 4) scHeld.nd rfl (.inl rfl))
       (pss_cons (ps_expr (pe_bm PySem.F.plainAttrs_list PySem.F.slot_list_append PySem.F.type_list_append mt_append (pv 2) (pa_cons (pv 3) pa_nil)))
       (pss_cons (ps_for PassesOwn.never rfl (pi_tup (pe_call GB (hr.mono (by decide)) rfl TB.1 TB.2.1 TB.2.2 .nil pass0 (pa_cons (pv 4) pa_nil))) (pg_name (i := 5) scHeld.nd rfl (.inl rfl))
       (pss_one ps_dead))
       (pss_one (ps_set (i := 3) scHeld.nd rfl (.inl rfl) (pe_call GL (hr.mono (by decide)) rfl TL.1 TL.2.1 TL.2.2 .nil pass0 (pa_cons (pv 4) (pa_cons (pv 3) pa_nil))))))))
       (pss_one (ps_ret (pv 2)))))), ?_⟩
    refine ⟨Nat.zero_le _, fun o no => ?_⟩
    have s1 : Same H (upd H o (.lst [])) := same_upd no
    have len := hss.length
    refine ⟨_, rfl, _, rfl, a, rfl, ⟨_, s1.tupS hx⟩, for_tup (xs := xs)
      (fun i σ H' => ∃ (ys : List V) (u : V) (v4 v5 : Option V), σ = [some (.ref a), some hv, some (.ref o), some u, v4, v5] ∧ Same H H' ∧ H' o = some (.lst ys) ∧ All2 (TxtT K H') ys (helds (ss.take i) h0) ∧ TxtT K H' u (after (ss.take i) h0))
      ⟨[], hv, none, none, rfl, s1, upd_same, .nil, hh.same s1⟩ ?_ ?_ ?_⟩
    · rintro i σ H' hi ⟨ys, u, v4, v5, rfl, sm, _⟩
      exact sm.tupS hx
    · rintro i x σ H' hxi ⟨ys, u, v4, v5, rfl, sm, ho, hy, hu⟩
      obtain ⟨st, hst, sa⟩ := hss.get hxi
      have pw := hp st (List.mem_of_getElem? hst)
      have hi : i < ss.length := (List.getElem?_eq_some_iff.mp hst).1
      have yl : ys.length = i := by
        rw [hy.length]
        have z : ∀ (ss : List Step) (h : List Str), (helds ss h).length = ss.length := by
          intro ss
          induction ss with
          | nil => intro h; rfl
          | cons s ss ih => intro h; exact congrArg (· + 1) (ih _)
        rw [z, List.length_take]
        omega
      -- found.append(held)
      refine ⟨_, rfl, .inl ⟨rfl, _, SqL.of ho⟩, _, rfl, o, _, _, rfl, rfl, ho, small1000 (by omega), ?_⟩
      have s2 : Same H (upd H' o (.lst (ys ++ [u]))) := same_updN no sm
      -- branches(item)
      refine ⟨_, rfl, _, _, rfl, sa.same s2, pw, fun H3 p3 s3 e3 => ?_⟩
      refine ⟨p3, rfl, ⟨_, e3⟩, for_tup (xs := []) (fun _ σ H' => σ = [some (.ref a), some hv, some (.ref o), some u, some x, v5] ∧ H' = H3) ⟨rfl, rfl⟩ ?_ ?_ ?_⟩
      · rintro _ _ _ _ ⟨_, rfl⟩
        exact e3
      · rintro _ _ _ _ h
        cases h
      · rintro _ _ ⟨rfl, rfl⟩
        have al := after_len (ss.take i) h0
        rw [List.length_take] at al
        refine ⟨_, rfl, _, rfl, _, _, st, _, rfl, sa.same (s2.trans s3), (hu.updL ho).same s3, by omega, fun H4 u4 s4 hu4 => ?_⟩
        refine ⟨ys ++ [u], u4, some x, v5, rfl, (s2.trans s3).trans s4, s4 _ _ (s3 _ _ upd_same), ?_, ?_⟩
        · rw [take_snoc hst, helds_snoc]
          exact ((hy.mono fun _ _ t => t.updL ho).append (.cons (hu.updL ho) .nil)).mono fun _ _ t => (t.same s3).same s4
        · rw [take_snoc hst, after_snoc]
          exact hu4
    · rintro σ H' ⟨ys, u, v4, v5, rfl, sm, ho, hy, hu⟩
      rw [len, List.take_length] at hy
      exact ⟨_, rfl, q H' o ys sm no ho hy⟩
end
end Rw

/-! R8 -/
/-! ### which step takes or gives wrongly -/
namespace Rw
open PySem PySem.Spec PyProof.Rows L2
def txtD (ns : List Str) : PyData := .tuple (ns.map PyData.str)
def stepD (s : Step) : PyData := .tuple [.str s.1, .str s.2]
theorem eqvAll_txt : ∀ as bs : List Str, PyData.eqvAll (as.map PyData.str) (bs.map PyData.str) = decide (as = bs)
  | [], [] => rfl
  | [], b :: bs => by rw [decide_eq_false (by simp)]; rfl
  | a :: as, [] => by rw [decide_eq_false (by simp)]; rfl
  | a :: as, b :: bs => by
    show (a == b && PyData.eqvAll (as.map PyData.str) (bs.map PyData.str)) = _
    rw [eqvAll_txt as bs]
    by_cases h : a = b
    · subst h
      rw [beq_self_eq_true, Bool.true_and]
      by_cases h2 : as = bs
      · subst h2
        rw [decide_eq_true rfl, decide_eq_true rfl]
      · rw [decide_eq_false h2, decide_eq_false (fun e => h2 (List.cons.inj e).2)]
    · rw [beq_eq_false_iff_ne.mpr h, Bool.false_and, decide_eq_false (fun e => h (List.cons.inj e).1)]
theorem eqv_txt (as bs : List Str) : PyData.eqv (txtD as) (txtD bs) = decide (as = bs) := by
  unfold txtD
  rw [show PyData.eqv (.tuple (as.map PyData.str)) (.tuple (bs.map PyData.str)) = PyData.eqvAll (as.map PyData.str) (bs.map PyData.str) by simp only [PyData.eqv]]
  exact eqvAll_txt as bs
theorem stepD_txt (s : Step) : stepD s = txtD [s.1, s.2] := rfl
theorem eqv_step (s t : Step) : PyData.eqv (stepD s) (stepD t) = decide (s = t) := by
  rw [stepD_txt, stepD_txt, eqv_txt]
  by_cases h : s = t
  · subst h
    rw [decide_eq_true rfl, decide_eq_true rfl]
  · rw [decide_eq_false h, decide_eq_false]
    intro e
    have e1 := (List.cons.inj e).1
    have e2 := (List.cons.inj (List.cons.inj e).2).1
    exact h (Prod.ext e1 e2)
theorem any_step (ss : List Step) (t : Step) : (ss.map stepD).any (fun z => PyData.eqv z (stepD t)) = decide (t ∈ ss) := by
  induction ss with
  | nil => rw [decide_eq_false (by simp)]; rfl
  | cons s ss ih =>
    rw [List.map_cons, List.any_cons, ih, eqv_step]
    by_cases h : s = t
    · subst h
      rw [decide_eq_true rfl, decide_eq_true List.mem_cons_self, Bool.true_or]
    · rw [decide_eq_false h, Bool.false_or]
      by_cases h2 : t ∈ ss
      · rw [decide_eq_true h2, decide_eq_true (List.mem_cons_of_mem _ h2)]
      · rw [decide_eq_false h2, decide_eq_false]
        intro e
        rcases List.mem_cons.mp e with e | e
        · exact h e.symm
        · exact h2 e
abbrev sOk (n : Str) : Prop := PyData.strOk n = true
theorem txt_lay : ∀ ns : List Str, (∀ n ∈ ns, sOk n) → PyData.canLayAll0 (ns.map PyData.str) = true ∧ PyData.depthAll (ns.map PyData.str) = 0
  | [], _ => ⟨rfl, rfl⟩
  | n :: ns, h => by
    obtain ⟨a, b⟩ := txt_lay ns (fun x hx => h x (List.mem_cons_of_mem _ hx))
    refine ⟨?_, ?_⟩
    · show (PyData.canLay0 (.str n) && PyData.canLayAll0 (ns.map PyData.str)) = true
      rw [a, Bool.and_true]
      have e : PyData.canLay0 (.str n) = PyData.strOk n := by simp only [PyData.canLay0]
      rw [e]
      exact h n List.mem_cons_self
    · show max (PyData.depth (.str n)) (PyData.depthAll (ns.map PyData.str)) = 0
      have e : PyData.depth (.str n) = 0 := by simp only [PyData.depth]
      rw [b, e]
      rfl
theorem shaped_of {d : PyData} (h1 : d.canLay0 = true) (h2 : d.depth ≤ 64) : SeqAt.shaped d = true := by
  show (d.canLay0 && decide (d.depth ≤ 64)) = true
  rw [h1, decide_eq_true h2]
  rfl
theorem txtD_lay {ns : List Str} (h : ∀ n ∈ ns, sOk n) : (txtD ns).canLay0 = true ∧ (txtD ns).depth = 1 := by
  obtain ⟨a, b⟩ := txt_lay ns h
  unfold txtD
  simp only [PyData.canLay0, PyData.depth]
  rw [a, b]
  exact ⟨rfl, rfl⟩
theorem txtD_shaped {ns : List Str} (h : ∀ n ∈ ns, sOk n) : SeqAt.shaped (txtD ns) = true := by
  obtain ⟨a, b⟩ := txtD_lay h
  exact shaped_of a (by omega)
/-- a step that a row may have, by its signs -/
structure GoodS (s : Step) : Prop where
  pl : plainW s.1
  ok1 : sOk s.1
  ok2 : sOk s.2
theorem GoodS.all {s : Step} (h : GoodS s) : ∀ n ∈ [s.1, s.2], sOk n := by
  intro n hn
  rcases List.mem_cons.mp hn with rfl | hn
  · exact h.ok1
  · rcases List.mem_cons.mp hn with rfl | hn
    · exact h.ok2
    · cases hn
theorem stepsD_lay : ∀ ss : List Step, (∀ s ∈ ss, GoodS s) → PyData.canLayAll0 (ss.map stepD) = true ∧ PyData.depthAll (ss.map stepD) ≤ 1
  | [], _ => ⟨rfl, Nat.zero_le _⟩
  | s :: ss, h => by
    obtain ⟨a, b⟩ := stepsD_lay ss (fun x hx => h x (List.mem_cons_of_mem _ hx))
    obtain ⟨c, d⟩ := txtD_lay (h s List.mem_cons_self).all
    refine ⟨?_, ?_⟩
    · show (PyData.canLay0 (stepD s) && PyData.canLayAll0 (ss.map stepD)) = true
      rw [a, Bool.and_true]
      exact c
    · show max (PyData.depth (stepD s)) (PyData.depthAll (ss.map stepD)) ≤ 1
      have e : PyData.depth (stepD s) = 1 := d
      omega
theorem stepsD_shaped {ss : List Step} (h : ∀ s ∈ ss, GoodS s) : SeqAt.shaped (.tuple (ss.map stepD)) = true := by
  obtain ⟨a, b⟩ := stepsD_lay ss h
  refine shaped_of (by simp only [PyData.canLay0]; exact a) ?_
  simp only [PyData.depth]
  omega
theorem dp_txts {K : PySem.W.Frag} {H : Hp} : ∀ ns : List Str, DpAll K H (ns.map V.str) (ns.map PyData.str)
  | [] => .nil
  | n :: ns => .cons (.str n) (dp_txts ns)
theorem TxtT.dp {K : PySem.W.Frag} {H : Hp} {v : V} {ns : List Str} (h : TxtT K H v ns) : Dp K H v (txtD ns) := by
  obtain ⟨p, rfl, q⟩ := h
  exact .tup q (dp_txts ns)
theorem StepAt.dp {K : PySem.W.Frag} {H : Hp} {v : V} {s : Step} (h : StepAt K H v s) : Dp K H v (stepD s) := by
  obtain ⟨p, rfl, q⟩ := h
  exact .tup q (dp_txts [s.1, s.2])
theorem StepsAt.dp {K : PySem.W.Frag} {H : Hp} {xs : List V} {ss : List Step} (h : StepsAt K H xs ss) : DpAll K H xs (ss.map stepD) := by
  unfold StepsAt at h
  induction h with
  | nil => exact .nil
  | cons a _ ih => exact .cons a.dp ih
theorem inV_txt (n : Str) : ∀ ns : List Str, inV (.str n) (ns.map V.str) = decide (n ∈ ns)
  | [] => by rw [decide_eq_false (by simp)]; rfl
  | m :: ns => by
    have e : inV (.str n) ((m :: ns).map V.str) = ((m == n) || inV (.str n) (ns.map V.str)) := rfl
    rw [e, inV_txt n ns]
    by_cases h : m = n
    · subst h
      rw [beq_self_eq_true, Bool.true_or, decide_eq_true List.mem_cons_self]
    · rw [beq_eq_false_iff_ne.mpr h, Bool.false_or]
      by_cases h2 : n ∈ ns
      · rw [decide_eq_true h2, decide_eq_true (List.mem_cons_of_mem _ h2)]
      · rw [decide_eq_false h2, decide_eq_false]
        intro z
        rcases List.mem_cons.mp z with z | z
        · exact h z.symm
        · exact h2 z
theorem flat_txt : ∀ ns : List Str, (ns.map V.str).all flatV = true
  | [] => rfl
  | n :: ns => by
    show (flatV (.str n) && (ns.map V.str).all flatV) = true
    rw [flat_txt ns]
    rfl
/-- a + b of tuples of texts -/
theorem cat_txt {K : PySem.W.Frag} {H : Hp} {u v : V} {as bs : List Str} {Q : VK} (ha : TxtT K H u as) (hb : TxtT K H v bs) (hl : as.length + bs.length ≤ 1000) (q : ∀ H' u, Same H H' → TxtT K H' u (as ++ bs) → Q u H') : rCatA K u v H Q := by
  obtain ⟨a, rfl, ha⟩ := ha
  obtain ⟨b, rfl, hb⟩ := hb
  refine ⟨a, b, _, _, rfl, rfl, ha, hb, ?_, fun e => ?_, fun _ e => ?_, fun _ _ p np => ?_⟩
  · rw [List.length_map, List.length_map, sizeLine_eq]
    omega
  · have e2 : as = [] := List.map_eq_nil_iff.mp e
    subst e2
    exact q H _ (Same.refl H) ⟨b, rfl, hb⟩
  · have e2 : bs = [] := List.map_eq_nil_iff.mp e
    subst e2
    rw [List.append_nil] at q
    exact q H _ (Same.refl H) ⟨a, rfl, ha⟩
  · refine q _ _ (same_upd np) ⟨p, rfl, SqT.of ?_⟩
    rw [upd_same, List.map_append]
/-- t[-1:] of a tuple of texts -/
theorem last_txt {K : PySem.W.Frag} {H : Hp} {u : V} {ns : List Str} {Q : VK} (h : TxtT K H u ns) (q : ∀ H' u, Same H H' → TxtT K H' u (ns.drop (ns.length - 1)) → Q u H') : rSlA K u (some (-1)) none H Q := by
  obtain ⟨a, rfl, h⟩ := h
  have e1 : HT.sIx (ns.map V.str).length 0 (some (-1)) = ns.length - 1 := by rw [List.length_map]; exact sIx_m1 _ _
  refine ⟨a, _, rfl, h, fun c => ?_, fun c u nu => ?_⟩
  · have c1 := c.1
    rw [e1] at c1
    rw [c1, List.drop_zero] at q
    exact q H _ (Same.refl H) ⟨a, rfl, h⟩
  · refine q _ _ (same_upd nu) ⟨u, rfl, SqT.of ?_⟩
    rw [upd_same]
    have e2 : cutV (ns.map V.str) (some (-1)) none = (ns.drop (ns.length - 1)).map V.str := by
      show ((ns.map V.str).drop (HT.sIx (ns.map V.str).length 0 (some (-1)))).take (HT.sIx (ns.map V.str).length (ns.map V.str).length none - HT.sIx (ns.map V.str).length 0 (some (-1))) = _
      rw [e1, List.map_drop]
      show ((ns.map V.str).drop (ns.length - 1)).take ((ns.map V.str).length - (ns.length - 1)) = _
      rw [List.take_of_length_le]
      rw [List.length_drop]
      exact Nat.le_refl _
    rw [e2]
def wrongS (s : Step) (later : List Step) (around taken : List Str) : Bool :=
  if s.1 = "give" then !decide (taken.drop (taken.length - 1) = [s.2]) else if s.1 = "take" then (if s.2 ∈ around ++ taken then true else !decide ((("give" : Str), s.2) ∈ later)) else false
def spWrong (K : PySem.W.Frag) : Sp := fun vs H Q _ => ∃ (v l ar tk : V) (s : Step) (xs : List V) (p : Addr) (later : List Step) (around taken : List Str), vs = [v, l, ar, tk] ∧ StepAt K H v s ∧ l = .ref p ∧ SqT K H p xs ∧ StepsAt K H xs later ∧ TxtT K H ar around ∧ TxtT K H tk taken ∧
  GoodS s ∧ (∀ s ∈ later, GoodS s) ∧ (∀ n ∈ taken, sOk n) ∧ around.length + taken.length ≤ 1000 ∧ ∀ H', Same H H' → Q (.bl (wrongS s later around taken)) H'
theorem give_plain : plainW "give" := by refine ⟨?_, ?_, ?_⟩ <;> decide +kernel
theorem give_sok : sOk "give" := by decide +kernel
theorem give_good {n : Str} (h : sOk n) : GoodS (("give" : Str), n) := ⟨give_plain, give_sok, h⟩
section
variable {P : Program} {w : World} {K : PySem.W.Frag} {mg : Str → Option Value} {base : Heap}
abbrev sWr : Stmt := top 13
theorem scWr : FnScope ["item", "later", "around", "taken"] ["item", "later", "around", "taken"] (defScope sWr) := ⟨rfl, rfl, rfl, by decide +kernel, rfl, by decide +kernel, by decide +kernel⟩
theorem ok_wr {f : Addr} {fd : FuncData} (F : Fun K "is_wrong" "is_wrong" sWr f fd) : FnOk P w K mg base CX0 1 f fd ["item", "later", "around", "taken"] (spWrong K) := by
  refine F.ok scWr (fun vs H Q E h => ?_) (fun cdv A outer s H vs Q E hr h => ?_)
  · obtain ⟨v, l, ar, tk, s, xs, p, later, around, taken, rfl, _⟩ := h
    rfl
  · obtain ⟨v, l, ar, tk, st, xs, pl, later, around, taken, rfl, ⟨p, rfl, hp⟩, rfl, hl, hls, har, htk, gs, gl, gt, hz, q⟩ := h
    refine ⟨_, (pss_cons (ps_if (pt_cmpR op_eq (pe_ix ix_tup (pv 0) pe_int (fun _ _ => rfl)) pe_str (nomark _))
       (pss_one (ps_ret (pe_cmpR (op_neD hr.units) (pe_slice sl_tupA (pv 3) (po_some (pe_un un_neg pe_int)) po_none) (pe_tup (pa_cons (pe_ix ix_tup (pv 0) pe_int (fun _ _ => rfl)) pa_nil)) (nomark _))))
       pss_nil)
       (pss_cons (ps_if (pt_cmpR op_eq (pe_ix ix_tup (pv 0) pe_int (fun _ _ => rfl)) pe_str (nomark _))
       (pss_one (ps_ret (pe_or (pe_cmpR op_in_seq (pe_ix ix_tup (pv 0) pe_int (fun _ _ => rfl)) (pe_op op_catA (pv 2) (pv 3)) (by rfl)) (pe_one (pe_cmpR (op_notInTD hr.units65) (pe_tup (pa_cons pe_str (pa_cons (pe_ix ix_tup (pv 0) pe_int (fun _ _ => rfl)) pa_nil))) (pv 1) (by rfl))))))
       pss_nil)
       (pss_one (ps_ret (pe_and (pe_cmpR op_eq (pe_ix ix_tup (pv 0) pe_int (fun _ _ => rfl)) pe_str (nomark _)) (pe_one (pe_cmpR op_in_seq (pe_ix ix_tup (pv 0) pe_int (fun _ _ => rfl)) (pe_op op_catA (pv 2) (pv 3)) (by rfl)))))))), ?_⟩
    refine ⟨_, rfl, p, _, _, _, rfl, rfl, hp, rfl, rfl, _, rfl, ?_⟩
    rw [dec_str]
    unfold wrongS at q
    by_cases h1 : st.1 = "give"
    · rw [decide_eq_true h1]
      rw [if_pos h1] at q
      refine iteT ?_
      refine ⟨_, rfl, _, rfl, _, rfl, ?_⟩
      dsimp only [tNoPart]
      refine last_txt htk fun H1 u s1 hu => ?_
      refine ⟨_, rfl, p, _, _, _, rfl, rfl, s1.tupS hp, rfl, by show 1 ≤ sizeLine; decide, fun y ny => ?_⟩
      have s2 := same_upd (o := HO.tup [V.str st.2]) ny
      have hy : TxtT K (upd H1 y (.tup [V.str st.2])) (.ref y) [st.2] := ⟨y, rfl, SqT.of upd_same⟩
      refine ⟨_, _, (hu.same s2).dp, hy.dp, txtD_shaped fun n hn => gt n (List.mem_of_mem_drop hn), txtD_shaped fun n hn => ?_, ?_⟩
      · rcases List.mem_cons.mp hn with rfl | hn
        · exact gs.ok2
        · cases hn
      · rw [eqv_txt]
        exact q _ (s1.trans s2)
    · rw [decide_eq_false h1]
      rw [if_neg h1] at q
      refine iteF ?_
      refine ⟨_, rfl, p, _, _, _, rfl, rfl, hp, rfl, rfl, _, rfl, ?_⟩
      rw [dec_str]
      by_cases h2 : st.1 = "take"
      · rw [decide_eq_true h2]
        rw [if_pos h2] at q
        refine iteT ?_
        refine ⟨_, rfl, p, _, _, _, rfl, rfl, hp, rfl, _, rfl, _, rfl, cat_txt har htk hz fun H1 u s1 hu => ?_⟩
        obtain ⟨pu, rfl, hu⟩ := hu
        refine ⟨pu, _, rfl, .inr hu, rfl, flat_txt _, _, rfl, ?_⟩
        show if inV (.str st.2) ((around ++ taken).map V.str) = true then _ else _
        rw [inV_txt]
        by_cases h3 : st.2 ∈ around ++ taken
        · rw [decide_eq_true h3]
          rw [if_pos h3] at q
          exact iteT (q _ s1)
        · rw [decide_eq_false h3]
          rw [if_neg h3] at q
          refine iteF ?_
          refine ⟨_, rfl, p, _, _, _, rfl, rfl, s1.tupS hp, rfl, by show 2 ≤ sizeLine; decide, fun y ny => ?_⟩
          have s2 := same_upd (o := HO.tup [V.str "give", V.str st.2]) ny
          have hy : StepAt K (upd H1 y (.tup [V.str "give", V.str st.2])) (.ref y) (("give" : Str), st.2) := ⟨y, rfl, SqT.of upd_same⟩
          refine ⟨_, rfl, stepD (("give" : Str), st.2), later.map stepD, hy.dp, .tup ((s1.trans s2).tupS hl) (hls.same (s1.trans s2)).dp, txtD_shaped (give_good gs.ok2).all, stepsD_shaped gl, ?_⟩
          rw [any_step]
          exact q _ (s1.trans s2)
      · rw [decide_eq_false h2]
        rw [if_neg h2] at q
        refine iteF ?_
        refine ⟨_, rfl, p, _, _, _, rfl, rfl, hp, rfl, rfl, _, rfl, ?_⟩
        rw [dec_str, decide_eq_false gs.pl.2.2]
        exact iteF (q H (Same.refl H))
end
end Rw

/-! R9 -/
/-! ### the steps that take or give wrongly -/
namespace Rw
open PySem PySem.Spec PyProof.Rows L2
def wrongs : List Step → List Str → List Str → List Bool
  | [], _, _ => []
  | s :: ss, t, ar => wrongS s ss ar t :: wrongs ss (behind s t) ar
theorem wrongs_len : ∀ (ss : List Step) (t ar : List Str), (wrongs ss t ar).length = ss.length
  | [], _, _ => rfl
  | s :: ss, t, ar => congrArg (· + 1) (wrongs_len ss _ ar)
theorem wrongs_get : ∀ (ss : List Step) (t ar : List Str) (i : Nat) (s : Step), ss[i]? = some s → (wrongs ss t ar)[i]? = some (wrongS s (ss.drop (i + 1)) ar (after (ss.take i) t))
  | [], _, _, _, _, h => by cases h
  | x :: ss, t, ar, 0, s, h => by cases h; rfl
  | x :: ss, t, ar, i + 1, s, h => wrongs_get ss (behind x t) ar i s h
theorem behind_ok {s : Step} {t : List Str} (h : ∀ n ∈ t, sOk n) (hs : sOk s.2) : ∀ n ∈ behind s t, sOk n := by
  intro n hn
  unfold behind at hn
  split at hn
  · rcases List.mem_append.mp hn with hn | hn
    · exact h n hn
    · rcases List.mem_cons.mp hn with rfl | hn
      · exact hs
      · cases hn
  · split at hn
    · exact h n (List.dropLast_subset _ hn)
    · exact h n hn
theorem after_ok : ∀ (ss : List Step) (t : List Str), (∀ n ∈ t, sOk n) → (∀ s ∈ ss, sOk s.2) → ∀ n ∈ after ss t, sOk n
  | [], t, h, _ => h
  | s :: ss, t, h, hs => after_ok ss (behind s t) (behind_ok h (hs s List.mem_cons_self)) (fun x hx => hs x (List.mem_cons_of_mem _ hx))
/-- t[i + 1:] -/
theorem tail_tup {K : PySem.W.Frag} {H : Hp} {p : Addr} {xs : List V} {i : Nat} {Q : VK} (h : SqT K H p xs) (hi : i < xs.length) (q : ∀ H' u, Same H H' → SqT K H' u (xs.drop (i + 1)) → Q (.ref u) H') : rSlA K (.ref p) (some ((i : Int) + 1)) none H Q := by
  have e1 : HT.sIx xs.length 0 (some ((i : Int) + 1)) = i + 1 := by
    have z := HT.sIx_nat xs.length 0 (i + 1)
    rw [show (((i + 1 : Nat) : Int)) = (i : Int) + 1 by omega] at z
    rw [z]
    omega
  refine ⟨p, _, rfl, h, fun c => ?_, fun c u nu => ?_⟩
  · have c1 := c.1
    rw [e1] at c1
    omega
  · refine q _ _ (same_upd nu) (SqT.of ?_)
    rw [upd_same]
    have e2 : cutV xs (some ((i : Int) + 1)) none = xs.drop (i + 1) := by
      show (xs.drop (HT.sIx xs.length 0 (some ((i : Int) + 1)))).take (HT.sIx xs.length xs.length none - HT.sIx xs.length 0 (some ((i : Int) + 1))) = _
      rw [e1]
      show (xs.drop (i + 1)).take (xs.length - (i + 1)) = _
      rw [List.take_of_length_le]
      rw [List.length_drop]
      exact Nat.le_refl _
    rw [e2]
def spWL (K : PySem.W.Frag) : Sp := fun vs H Q _ => ∃ (a : Addr) (ar : V) (xs : List V) (ss : List Step) (around : List Str), vs = [.ref a, ar] ∧ SqT K H a xs ∧ StepsAt K H xs ss ∧ (∀ s ∈ ss, GoodS s) ∧ TxtT K H ar around ∧ around.length + ss.length ≤ 900 ∧
  ∀ H' p, Same H H' → H p = none → H' p = some (.lst ((wrongs ss [] around).map V.bl)) → Q (.ref p) H'
section
variable {P : Program} {w : World} {K : PySem.W.Frag} {mg : Str → Option Value} {base : Heap}
abbrev sWL : Stmt := top 12
theorem scWL : FnScope ["items", "around", "found", "taken", "at", "item", "inner"] ["items", "around"] (defScope sWL) := ⟨rfl, rfl, rfl, by decide +kernel, rfl, by decide +kernel, by decide +kernel⟩
theorem ok_wl {f fB fL fW : Addr} {fd fdB fdL fdW : FuncData} (F : Fun K "wrong_locks" "wrong_locks" sWL f fd) (GB : FnOk P w K mg base CX0 1 fB fdB ["item"] (spBr K)) (TB : Called K mg "branches" ["item"] fB fdB)
    (GL : FnOk P w K mg base CX0 1 fL fdL ["item", "held"] (spBeh K)) (TL : Called K mg "locks_behind" ["item", "held"] fL fdL) (GW : FnOk P w K mg base CX0 1 fW fdW ["item", "later", "around", "taken"] (spWrong K)) (TW : Called K mg "is_wrong" ["item", "later", "around", "taken"] fW fdW)
    (m_enumerate : mg "enumerate" = none) : FnOk P w K mg base CX0 2 f fd ["items", "around"] (spWL K) := by
  refine F.ok scWL (fun vs H Q E h => ?_) (fun cdv A outer s H vs Q E hr h => ?_)
  · obtain ⟨a, ar, xs, ss, around, rfl, _⟩ := h
    rfl
  · obtain ⟨a, ar, xs, ss, around, rfl, hx, hss, hg, har, hz, q⟩ := h
    refine ⟨_, (pss_cons (ps_set (i := 2) scWL.nd rfl (.inl rfl) (pe_lst pa_nil))
       (pss_cons (ps_set (i := 3) scWL.nd rfl (.inl rfl) (pe_tup pa_nil))
       (pss_cons (ps_for PassesOwn.never rfl (pi_enumT rfl m_enumerate (pa_cons (pv 0) pa_nil)) (pg_tup rfl (pgs_cons (pg_name (i := 4) scWL.nd rfl (.inl rfl)) (pgs_cons (pg_name (i := 5) scWL.nd rfl (.inl rfl)) pgs_nil)))
       (pss_cons (ps_expr (pe_bm PySem.F.plainAttrs_list PySem.F.slot_list_append PySem.F.type_list_append mt_append (pv 2) (pa_cons (pe_call GW (hr.mono (by decide)) rfl TW.1 TW.2.1 TW.2.2 .nil pass0 (pa_cons (pv 5) (pa_cons (pe_slice sl_tupA (pv 0) (po_some (pe_op op_add (pv 4) pe_int)) po_none) (pa_cons (pv 1) (pa_cons (pv 3) pa_nil))))) pa_nil)))
       (pss_cons (ps_set (i := 3) scWL.nd rfl (.inl rfl) (pe_call GL (hr.mono (by decide)) rfl TL.1 TL.2.1 TL.2.2 .nil pass0 (pa_cons (pv 5) (pa_cons (pv 3) pa_nil))))
       (pss_one (ps_for PassesOwn.never rfl (pi_tup (pe_call GB (hr.mono (by decide)) rfl TB.1 TB.2.1 TB.2.2 .nil pass0 (pa_cons (pv 5) pa_nil))) (pg_name (i := 6) scWL.nd rfl (.inl rfl))
       (pss_one ps_dead))))))
       (pss_one (ps_ret (pv 2)))))), ?_⟩
    refine ⟨Nat.zero_le _, fun o no => ?_⟩
    have s1 : Same H (upd H o (.lst [])) := same_upd no
    have len := hss.length
    refine ⟨Nat.zero_le _, fun t0 nt0 => ?_⟩
    have s2 := same_upd (o := HO.tup []) nt0
    refine ⟨_, rfl, a, _, rfl, (s1.trans s2).tupS hx, for_enumT (K := K) (a := a) (xs := xs)
      (fun i σ H' => ∃ (u : V) (v4 v5 v6 : Option V), σ = [some (.ref a), some ar, some (.ref o), some u, v4, v5, v6] ∧ Same H H' ∧ H' o = some (.lst (((wrongs ss [] around).take i).map V.bl)) ∧ TxtT K H' u (after (ss.take i) []))
      ⟨.ref t0, none, none, none, rfl, s1.trans s2, s2 _ _ upd_same, ⟨t0, rfl, SqT.of upd_same⟩⟩ ?_ ?_ ?_⟩
    · rintro i σ H' hi ⟨u, v4, v5, v6, rfl, sm, _⟩
      exact sm.tupS hx
    · rintro i x σ H1 T1 hxi ⟨u, v4, v5, v6, rfl, sm, ho, hu⟩ nT
      obtain ⟨st, hst, sa⟩ := hss.get hxi
      have gs := hg st (List.mem_of_getElem? hst)
      have hi : i < ss.length := (List.getElem?_eq_some_iff.mp hst).1
      have u0 := same_upd (o := .tup [.int (i : Nat), x]) nT
      have al := after_len (ss.take i) []
      rw [List.length_take, List.length_nil] at al
      refine ⟨T1, _, rfl, SqT.of upd_same, rfl, _, _, rfl, _, _, rfl, rfl, ?_⟩
      have sm0 := sm.trans u0
      -- is_wrong(item, items[at + 1:], around, taken)
      refine ⟨_, rfl, .inl ⟨rfl, _, SqL.of (u0 _ _ ho)⟩, _, rfl, _, rfl, _, rfl, _, _, rfl, rfl, _, rfl, ?_⟩
      dsimp only [tNoPart]
      refine tail_tup (sm0.tupS hx) (by omega) fun H2 u2 s3 hu2 => ?_
      have sm2 := sm0.trans s3
      refine ⟨_, rfl, _, rfl, _, _, _, _, st, _, u2, ss.drop (i + 1), around, after (ss.take i) [], rfl, sa.same sm2, rfl, hu2, StepsAt.same sm2 (hss.drop (i + 1)), har.same sm2, hu.same (u0.trans s3), gs, fun z hz => hg z (List.mem_of_mem_drop hz), ?_, by omega, fun H3 s4 => ?_⟩
      · refine after_ok _ _ (fun n hn => by cases hn) fun z hz => (hg z (List.mem_of_mem_take hz)).ok2
      have sm3 := sm2.trans s4
      have ho3 := s4 _ _ (s3 _ _ (u0 _ _ ho))
      have hu3 := hu.same (u0.trans (s3.trans s4))
      refine ⟨o, _, _, rfl, rfl, ho3, ?_, ?_⟩
      · rw [List.length_map, List.length_take, wrongs_len, sizeLine_eq]
        omega
      generalize hH4 : upd H3 o _ = H4
      have sm4 : Same H H4 := by
        rw [← hH4]
        exact same_updN no sm3
      have hu4 : TxtT K H4 u (after (ss.take i) []) := by
        rw [← hH4]
        exact hu3.updL ho3
      have ho4 : H4 o = some (.lst (((wrongs ss [] around).take (i + 1)).map V.bl)) := by
        rw [← hH4, upd_same, take_snoc (wrongs_get ss [] around i st hst), List.map_append]
        rfl
      clear hH4
      refine ⟨_, rfl, _, rfl, _, _, st, _, rfl, sa.same sm4, hu4, by omega, fun H5 u5 s6 hu5 => ?_⟩
      refine ⟨_, rfl, _, _, rfl, sa.same (sm4.trans s6), gs.pl, fun H6 p6 s7 e6 => ?_⟩
      refine ⟨p6, rfl, ⟨_, e6⟩, for_tup (xs := []) (fun _ σ H' => σ = [some (.ref a), some ar, some (.ref o), some u5, some (.int (i : Nat)), some x, v6] ∧ H' = H6) ⟨rfl, rfl⟩ ?_ ?_ ?_⟩
      · rintro _ _ _ _ ⟨_, rfl⟩
        exact e6
      · rintro _ _ _ _ h
        cases h
      · rintro _ _ ⟨rfl, rfl⟩
        refine ⟨u5, _, _, _, rfl, (sm4.trans s6).trans s7, s7 _ _ (s6 _ _ ho4), ?_⟩
        rw [take_snoc hst, after_snoc]
        exact hu5.same s7
    · rintro σ H' ⟨u, v4, v5, v6, rfl, sm, ho, hu⟩
      rw [len, ← wrongs_len ss [] around, List.take_length] at ho
      exact ⟨_, rfl, q H' o sm no ho⟩
end
end Rw

/-! R10 -/
/-! ### values that stay what they are; an own error raised -/
namespace Rw
open PySem PySem.Spec PyProof.Rows L2
theorem TyX_same {K : PySem.W.Frag} {H H' : Hp} (e : Same H H') {v : V} {t : Value} (h : TyX K H v t) : TyX K H' v t := by
  cases h with
  | base h =>
    cases h with
    | non => exact .base .non
    | bl x => exact .base (.bl x)
    | int i => exact .base (.int i)
    | str x => exact .base (.str x)
    | flt x => exact .base (.flt x)
    | lst h => exact .base (.lst (e _ _ h))
    | frz h => exact .base (.frz (e _ _ h))
    | tup h => exact .base (.tup (e _ _ h))
    | dK h => exact .base (.dK (e _ _ h))
    | dT h => exact .base (.dT (e _ _ h))
    | ins h a b c d f => exact .base (.ins (e _ _ h) a b c d f)
  | byt b => exact .byt b
  | set h => exact .set (e _ _ h)
  | kList h c => exact .kList h c
  | kTuple h c => exact .kTuple h c
  | kDict h c => exact .kDict h c
  | fTuple h => exact .fTuple (e _ _ h)
  | fDict h => exact .fDict (e _ _ h)
theorem NV.same {K : PySem.W.Frag} {H H' : Hp} (e : Same H H') {v : V} {b : Bool} (h : NV K H v b) : NV K H' v b := by
  cases h with
  | str z hz => exact .str z hz
  | other t m => exact .other (TyX_same e t) m
theorem SV.same {K : PySem.W.Frag} {d : Addr} {H H' : Hp} (e : Same H H') {v : V} {r : Option Step} (h : SV K d H v r) : SV K d H' v r := by
  cases h with
  | good a b c f => exact .good (e.tupS a) b c f
  | name a b c => exact .name (e.tupS a) b (c.same e)
  | word a b => exact .word (e.tupS a) b
  | first a b c => exact .first (e.tupS a) (TyX_same e b) c
  | len a b => exact .len (e.tupS a) b
  | other a b => exact .other (TyX_same e a) b
theorem SV.step {K : PySem.W.Frag} {d : Addr} {H : Hp} {v : V} {s : Step} (h : SV K d H v (some s)) : StepAt K H v s := by
  cases h with
  | good a b c f => exact ⟨_, rfl, a⟩
/-- for i, x in enumerate(list) -/
theorem for_enum {K : PySem.W.Frag} {a : Addr} {xs : List V} {g : TG} {tb : TS} {D : Ends} {σ : L2.St} {H : Hp} (Pv : Nat → L2.St → Hp → Prop) (h0 : Pv 0 σ H) (hl : ∀ i σ H, i ≤ xs.length → Pv i σ H → SqL K H a xs)
    (hs : ∀ i x σ H T, xs[i]? = some x → Pv i σ H → H T = none → g (.ref T) σ (upd H T (.tup [.int (i : Nat), x])) fun σ2 H2 => tb { D with nx := Pv (i + 1), ct := Pv (i + 1), bk := D.nx } σ2 H2) (hd : ∀ σ H, Pv xs.length σ H → D.nx σ H) :
    ∃ W : Nat → Nat → L2.St → Hp → Prop, (∃ m, W 0 m σ H) ∧ ∀ i m σ H, W i m σ H →
      ((Ite K a).stop i H ∧ D.nx σ H) ∨ ((Ite K a).go i H ∧ ∃ N : L2.St → Hp → Prop, (∀ σ' H', N σ' H' → ∃ m', m' < m ∧ W (i + 1) m' σ' H') ∧ ∀ x H', (Ite K a).yld i H x H' → g x σ H' fun σ2 H2 => tb { D with nx := N, ct := N, bk := D.nx } σ2 H2) := by
  refine ⟨fun i m σ H => m = xs.length - i ∧ i ≤ xs.length ∧ Pv i σ H, ⟨xs.length, by simp, Nat.zero_le _, h0⟩, ?_⟩
  rintro i m σ H ⟨rfl, hi, p⟩
  have q := hl i σ H hi p
  by_cases hlt : i < xs.length
  · refine .inr ⟨⟨xs, xs[i], q, by simp [hlt]⟩, Pv (i + 1), fun σ' H' p' => ⟨xs.length - (i + 1), by omega, rfl, hlt, p'⟩, fun v H' y => ?_⟩
    obtain ⟨T, x, rfl, nT, rfl, hx⟩ := y
    exact hs i x σ H T (hx xs q) p nT
  · have e : i = xs.length := by omega
    subst e
    exact .inl ⟨⟨xs, q, Nat.le_refl _⟩, hd σ H p⟩
def SameBut (a : Addr) (H H' : Hp) : Prop := ∀ b o, b ≠ a → H b = some o → H' b = some o
def spR1 (K : PySem.W.Frag) (n : Str) : Sp := fun vs H Q _ => ∃ (a C fI : Addr) (v : V), vs = [.ref a, v] ∧ OexG K C fI ∧ PySem.W.findIn K (.ref C) n = some none ∧ H a = some (exo a C none) ∧
  ∀ H' d, SameBut a H H' → H' a = some (exo a C (some d)) → H' d = some (exd d [(n, v)]) → H d = none → d ≠ a → Q .non H'
/-- what a raise of it leaves -/
def Left (H : Hp) (n : Str) (v : V) (d : Addr) (H' : Hp) : Prop := Same H H' ∧ H d = none ∧ H' d = some (.xd [(n, v)])
theorem Left.before {H0 H H' : Hp} {n : Str} {v : V} {d : Addr} (s : Same H0 H) (h : Left H n v d H') : Left H0 n v d H' := ⟨s.trans h.1, s.free h.2.1, h.2.2⟩
theorem raise1 {K : PySem.W.Frag} {C fI a : Addr} {H : Hp} {n : Str} {v : V} {Q : XK} (T : OexG K C fI) (no : PySem.W.findIn K (.ref C) n = some none) (na : H a = none) (q : ∀ d H', Left H n v d H' → Q (.ref C) (some d) H') :
    spR1 K n [.ref a, v] (upd H a (exo a C none)) (fun u H2 => u = .non ∧ ∃ (d : Addr) (fs : List (Str × V)), H2 a = some (exo a C (some d)) ∧ H2 d = some (exd d fs) ∧ H d = none ∧ Q (.ref C) (some d) (upd (del H2 a) d (.xd fs))) (fun _ _ _ => False) := by
  refine ⟨a, C, fI, v, rfl, T, no, upd_same, fun H' d sb e1 e2 nd ne => ⟨rfl, d, _, e1, e2, ?_, q _ _ ⟨fun b o hb => ?_, ?_, upd_same⟩⟩⟩
  · rw [upd_ne ne] at nd
    exact nd
  · have hb1 : b ≠ a := ne_of_none hb na
    rw [upd_ne ne] at nd
    rw [upd_ne (ne_of_none hb nd), del_ne hb1]
    exact sb b o hb1 (by rw [upd_ne hb1]; exact hb)
  · rw [upd_ne ne] at nd
    exact nd
structure Er (P : Program) (w : World) (K : PySem.W.Frag) (mg : Str → Option Value) (base : Heap) (x n : Str) (C fI : Addr) (fd : FuncData) : Prop where
  g : mg x = some (.ref C)
  o : OexG K C fI
  no : PySem.W.findIn K (.ref C) n = some none
  F : FnOk P w K mg base CX0 1 fI fd ["self", n] (spR1 K n)
  b : Binds K fd ["self", n] []
theorem all_some {α : Type} : ∀ rs : List (Option α), (∀ j, j < rs.length → ∃ s, rs[j]? = some (some s)) → ∃ ss : List α, rs = ss.map some
  | [], _ => ⟨[], rfl⟩
  | r :: rs, h => by
    obtain ⟨s, e⟩ := h 0 (Nat.zero_lt_succ _)
    obtain ⟨ss, rfl⟩ := all_some rs fun j hj => h (j + 1) (Nat.succ_lt_succ hj)
    cases e
    exact ⟨s :: ss, rfl⟩
section
variable {P : Program} {w : World} {K : PySem.W.Frag} {mg : Str → Option Value} {base : Heap}
abbrev sIS : Stmt := inClass (top 3) 0
theorem scIS : FnScope ["self", "index"] ["self", "index"] (defScope sIS) := ⟨rfl, rfl, rfl, by decide +kernel, rfl, by decide +kernel, by decide +kernel⟩
theorem ok_IS {f : Addr} {fd : FuncData} (F : Fun K "__init__" "InvalidStep.__init__" sIS f fd) : FnOk P w K mg base CX0 1 f fd ["self", "index"] (spR1 K "index") := by
  refine F.ok scIS (fun vs H Q E h => ?_) (fun cdv A outer s H vs Q E hr h => ?_)
  · obtain ⟨a, C, fI, v, rfl, _⟩ := h
    rfl
  · obtain ⟨a, C, fI, v, rfl, T, hn, ea, q⟩ := h
    refine ⟨_, pss_one (ps_ostG (pv 0) (pv 1)), ?_⟩
    refine ⟨_, rfl, _, rfl, a, C, fI, rfl, T, hn, .inl ⟨ea, fun dx n ne => ?_⟩⟩
    refine q _ dx (fun b o hb e => ?_) upd_same (by rw [upd_ne ne, upd_same]) n ne
    rw [upd_ne hb, upd_ne (ne_of_none e n)]
    exact e
theorem er_IS {x : Str} {C f : Addr} {fd : FuncData} (F : Fun K "__init__" "InvalidStep.__init__" sIS f fd) (g : mg x = some (.ref C)) (o : OexG K C f) (no : PySem.W.findIn K (.ref C) "index" = some none) : Er P w K mg base x "index" C f fd :=
  ⟨g, o, no, ok_IS F, F.binds (ps := ["self", "index"]) fun _ _ _ _ _ _ us hl => match us, hl with | [_, _], _ => rfl⟩
/-- where a row's first fault lies -/
def fault (rs : List (Option Step)) : Option V :=
  match rs.findIdx? Option.isNone with
  | some i => some (.int (i : Nat))
  | none => if rs.length > 8 then some .non else
    match (wrongs (rs.filterMap id) [] []).findIdx? id with
    | some i => some (.int (i : Nat))
    | none => none
/-- any value, and the step that it is -/
def SVG (K : PySem.W.Frag) (d : Addr) (H : Hp) (v : V) (r : Option Step) : Prop := SV K d H v r ∧ ∀ s, r = some s → GoodS s
theorem SVG.same {K : PySem.W.Frag} {d : Addr} {H H' : Hp} (e : Same H H') {v : V} {r : Option Step} (h : SVG K d H v r) : SVG K d H' v r := ⟨h.1.same e, h.2⟩
theorem steps_of {K : PySem.W.Frag} {d : Addr} {H : Hp} : ∀ {xs : List V} {ss : List Step}, All2 (SVG K d H) xs (ss.map some) → StepsAt K H xs ss
  | [], [], _ => .nil
  | x :: xs, s :: ss, .cons h t => .cons h.1.step (steps_of t)
theorem good_of {K : PySem.W.Frag} {d : Addr} {H : Hp} : ∀ {xs : List V} {ss : List Step}, All2 (SVG K d H) xs (ss.map some) → ∀ s ∈ ss, GoodS s
  | [], [], _ => fun s hs => by cases hs
  | x :: xs, s :: ss, .cons h t => fun s' hs => by
    rcases List.mem_cons.mp hs with rfl | hs
    · exact h.2 _ rfl
    · exact good_of t s' hs
def spCheck (K : PySem.W.Frag) (d CI : Addr) : Sp := fun vs H Q E => ∃ (a : Addr) (xs : List V) (rs : List (Option Step)), vs = [.ref a] ∧ SqT K H a xs ∧ All2 (SVG K d H) xs rs ∧ rs.length ≤ 800 ∧
  (fault rs = none → ∀ H', Same H H' → Q .non H') ∧ (∀ v, fault rs = some v → ∀ t H', Left H "index" v t H' → E (.ref CI) (some t) H')
abbrev sCh : Stmt := top 20
theorem scCh : FnScope ["steps", "index", "step", "wrong"] ["steps"] (defScope sCh) := ⟨rfl, rfl, rfl, by decide +kernel, rfl, by decide +kernel, by decide +kernel⟩
theorem ok_check {f fS fW d CI fI : Addr} {fd fdS fdW fdI : FuncData} (F : Fun K "check_steps" "check_steps" sCh f fd) (GS : FnOk P w K mg base CX0 2 fS fdS ["value"] (spStep K d)) (TS : Called K mg "is_step" ["value"] fS fdS)
    (GW : FnOk P w K mg base CX0 2 fW fdW ["items", "around"] (spWL K)) (TW : Called K mg "wrong_locks" ["items", "around"] fW fdW) (T : Er P w K mg base "InvalidStep" "index" CI fI fdI) {tM : Tok} (mM : mg "MOST_STEPS" = some (.int 8 tM))
    (m_enumerate : mg "enumerate" = none) (m_len : mg "len" = none) : FnOk P w K mg base (L2.CX P w) 3 f fd ["steps"] (spCheck K d CI) := by
  refine F.okX scCh (fun vs H Q E h => ?_) (fun cdv A outer s H vs Q E hr h => ?_)
  · obtain ⟨a, xs, rs, rfl, _⟩ := h
    rfl
  · obtain ⟨a, xs, rs, rfl, hx, hrs, hz, q, qE⟩ := h
    refine ⟨_, (pss_cons (ps_for (passes_of rfl) rfl (pi_enumT rfl m_enumerate (pa_cons (pv 0) pa_nil)) (pg_tup rfl (pgs_cons (pg_name (i := 1) scCh.nd rfl (.inl rfl)) (pgs_cons (pg_name (i := 2) scCh.nd rfl (.inl rfl)) pgs_nil)))
       (pss_one (ps_if (pt_not (pt_val (pe_call GS (hr.mono (by decide)) rfl TS.1 TS.2.1 TS.2.2 .nil pass0 (pa_cons (pv 2) pa_nil))))
       (pss_one (ps_raise rfl (takes_of rfl rfl rfl rfl) (pmk_G T.o T.F (hr.mono (by decide)) T.b pass0 rfl T.g (pa_cons (pv 1) pa_nil))))
       pss_nil)))
       (pss_cons (ps_if (pt_cmpR op_gt (pe_callB call_len_seq (by rfl) m_len PySem.boot_len (pa_cons (pv 0) pa_nil)) (pe_glob (v := .int 8) rfl mM ⟨_, rfl⟩) (nomark _))
       (pss_one (ps_raise rfl (takes_of rfl rfl rfl rfl) (pmk_G T.o T.F (hr.mono (by decide)) T.b pass0 rfl T.g (pa_cons pe_non pa_nil))))
       pss_nil)
       (pss_one (ps_for (passes_of rfl) rfl (pi_enum rfl m_enumerate (pa_cons (pe_call GW (hr.mono (by decide)) rfl TW.1 TW.2.1 TW.2.2 .nil pass0 (pa_cons (pv 0) (pa_cons (pe_tup pa_nil) pa_nil))) pa_nil)) (pg_tup rfl (pgs_cons (pg_name (i := 1) scCh.nd rfl (.inl rfl)) (pgs_cons (pg_name (i := 3) scCh.nd rfl (.inl rfl)) pgs_nil)))
       (pss_one (ps_if (pt_val (pv 3))
       (pss_one (ps_raise rfl (takes_of rfl rfl rfl rfl) (pmk_G T.o T.F (hr.mono (by decide)) T.b pass0 rfl T.g (pa_cons (pv 1) pa_nil))))
       pss_nil)))))), ?_⟩
    have len := hrs.length
    refine ⟨_, rfl, a, _, rfl, hx, for_enumT (K := K) (a := a) (xs := xs)
      (fun i σ H' => ∃ v1 v2 : Option V, σ = [some (.ref a), v1, v2, none] ∧ Same H H' ∧ ∀ j, j < i → ∃ s, rs[j]? = some (some s))
      ⟨none, none, rfl, Same.refl H, fun j hj => absurd hj (Nat.not_lt_zero j)⟩ ?_ ?_ ?_⟩
    · rintro i σ H' hi ⟨v1, v2, rfl, sm, _⟩
      exact sm.tupS hx
    · rintro i x σ H1 T1 hxi ⟨v1, v2, rfl, sm, al⟩ nT
      obtain ⟨r, hr1, hv⟩ := hrs.get hxi
      have u0 := same_upd (o := .tup [.int (i : Nat), x]) nT
      refine ⟨T1, _, rfl, SqT.of upd_same, rfl, _, _, rfl, _, _, rfl, rfl, ?_⟩
      refine ⟨_, rfl, x, r, rfl, hv.1.same (sm.trans u0), fun H2 s2 => ⟨_, rfl, ?_⟩⟩
      have sm2 := (sm.trans u0).trans s2
      cases r with
      | none =>
        refine iteT ⟨_, rfl, Nat.le_of_ble_eq_true rfl, fun e ne => raise1 T.o T.no ne fun t H' l => qE _ ?_ t H' (l.before sm2)⟩
        have e1 : rs.findIdx? Option.isNone = some i := by
          rw [List.findIdx?_eq_some_iff_getElem]
          obtain ⟨hi, he⟩ := List.getElem?_eq_some_iff.mp hr1
          refine ⟨hi, by rw [he]; rfl, fun j hj => ?_⟩
          obtain ⟨s', hs'⟩ := al j hj
          obtain ⟨hj2, he2⟩ := List.getElem?_eq_some_iff.mp hs'
          rw [he2]
          exact Bool.false_ne_true
        unfold fault
        rw [e1]
      | some st =>
        refine iteF ⟨_, _, rfl, sm2, fun j hj => ?_⟩
        by_cases e : j = i
        · exact ⟨st, by rw [e]; exact hr1⟩
        · exact al j (by omega)
    · rintro σ H1 ⟨v1, v2, rfl, sm, al⟩
      obtain ⟨ss, rfl⟩ := all_some rs fun j hj => al j (by omega)
      have e0 : (ss.map some).findIdx? Option.isNone = none := by
        rw [List.findIdx?_eq_none_iff]
        intro x hx
        obtain ⟨s', _, rfl⟩ := List.mem_map.mp hx
        rfl
      have e1 : (ss.map some).filterMap id = ss := by
        rw [List.filterMap_map]
        exact List.filterMap_some
      have hss : StepsAt K H xs ss := steps_of hrs
      have hg : ∀ s ∈ ss, GoodS s := good_of hrs
      rw [List.length_map] at hz len
      unfold fault at q qE
      rw [e0, e1, List.length_map] at q qE
      refine ⟨_, rfl, a, _, rfl, .inr (sm.tupS hx), _, _, rfl, rfl, _, rfl, ?_⟩
      by_cases h8 : (8 : Int) < (xs.length : Nat)
      · rw [decide_eq_true h8]
        have h9 : ss.length > 8 := by omega
        exact iteT ⟨Nat.le_of_ble_eq_true rfl, fun e ne => raise1 T.o T.no ne fun t H' l => qE _ (if_pos h9) t H' (l.before sm)⟩
      · rw [decide_eq_false h8]
        have h9 : ¬ ss.length > 8 := by omega
        rw [if_neg h9] at q qE
        refine iteF ?_
        refine ⟨_, rfl, Nat.zero_le _, fun z nz => ?_⟩
        have s3 := same_upd (o := HO.tup []) nz
        refine ⟨a, .ref z, xs, ss, [], rfl, (sm.trans s3).tupS hx, hss.same (sm.trans s3), hg, ⟨z, rfl, SqT.of upd_same⟩, by rw [List.length_nil]; omega, fun H3 p s4 _ hp => ?_⟩
        have sm3 := (sm.trans s3).trans s4
        refine ⟨p, _, rfl, SqL.of hp, for_enum (K := K) (a := p) (xs := (wrongs ss [] []).map V.bl)
          (fun i σ H' => ∃ v1 v3 : Option V, σ = [some (.ref a), v1, v2, v3] ∧ Same H3 H' ∧ ∀ j, j < i → (wrongs ss [] [])[j]? = some false)
          ⟨v1, none, rfl, Same.refl _, fun j hj => absurd hj (Nat.not_lt_zero j)⟩ (fun i σ H' _ ⟨_, _, _, s5, _⟩ => s5.seq (SqL.of hp)) ?_ ?_⟩
        · rintro i x σ H4 T4 hxi ⟨w1, w3, rfl, s5, al2⟩ nT4
          obtain ⟨b, hb, rfl⟩ : ∃ b, (wrongs ss [] [])[i]? = some b ∧ x = V.bl b := by
            rw [List.getElem?_map] at hxi
            cases e : (wrongs ss [] [])[i]? with
            | none => rw [e] at hxi; cases hxi
            | some z => rw [e] at hxi; exact ⟨z, rfl, (Option.some.inj hxi).symm⟩
          have u4 := same_upd (o := .tup [.int (i : Nat), .bl b]) nT4
          refine ⟨T4, _, rfl, .inl (.inl upd_same), rfl, _, _, rfl, _, _, rfl, rfl, ?_⟩
          refine ⟨_, rfl, _, rfl, ?_⟩
          cases b with
          | true =>
            refine iteT ⟨_, rfl, Nat.le_of_ble_eq_true rfl, fun e ne => raise1 T.o T.no ne fun t H' l => qE _ ?_ t H' (l.before ((sm3.trans s5).trans u4))⟩
            have e2 : (wrongs ss [] []).findIdx? id = some i := by
              rw [List.findIdx?_eq_some_iff_getElem]
              obtain ⟨hi, he⟩ := List.getElem?_eq_some_iff.mp hb
              refine ⟨hi, by rw [he]; rfl, fun j hj => ?_⟩
              obtain ⟨hj2, he2⟩ := List.getElem?_eq_some_iff.mp (al2 j hj)
              rw [he2]
              exact Bool.false_ne_true
            rw [e2]
          | false =>
            refine iteF ⟨_, _, rfl, s5.trans u4, fun j hj => ?_⟩
            by_cases e : j = i
            · rw [e]; exact hb
            · exact al2 j (by omega)
        · rintro σ H4 ⟨w1, w3, rfl, s5, al2⟩
          refine q ?_ _ (sm3.trans s5)
          have e2 : (wrongs ss [] []).findIdx? id = none := by
            rw [List.findIdx?_eq_none_iff]
            intro x hx
            obtain ⟨j, hj⟩ := List.getElem?_of_mem hx
            have hj2 : j < ((wrongs ss [] []).map V.bl).length := by
              rw [List.length_map]
              exact (List.getElem?_eq_some_iff.mp hj).1
            have z := al2 j hj2
            rw [hj] at z
            exact Option.some.inj z
          rw [e2]
end
end Rw

/-! R11 -/
/-! ### rows made, added, listed -/
namespace Rw
open PySem PySem.Spec PyProof.Rows L2
theorem passX {P : Program} {w : World} {K : PySem.W.Frag} {mg : Str → Option Value} {base : Heap} {N : List Str} {q : Str} {sc : Scope} {f : Addr} {cdv : Value} {A : Around} {outer : List Env} {s : Shared} {H : Hp} {E : XK} :
    Passes (L2.CX P w) (cxOf (L2.CX P w) P w K mg base N q sc f cdv A outer s H E) E := passes_call (takes_of rfl rfl rfl rfl) fun _ _ _ _ h => h
/-- what the top has written of the class Row -/
structure RowC (K : PySem.W.Frag) (mg : Str → Option Value) (C fI fA fR : Addr) : Prop where
  g : mg "Row" = some (.ref C)
  cl : Cls K C
  nS : NoAttr K C "_steps"
  nH : NoAttr K C "_held"
  mkC : Mk K C fI
  add : AddC K C fA fR
  ha : PySem.W.findIn K (.ref C) "__class__" = some (some (.builtin "object.__class__"))
  hn : PySem.W.specialIn K (.builtin "object.__class__") "__get__" = some (some (.builtin "getset_descriptor.__get__"))
  htk : PySem.W.takesIn K (.builtin "object.__class__") = some true
  hm : PySem.W.mroIn K C (.type "object") = some true
  kRow : PySem.W.kitOne K (.ref C) (.ref C) = some true
  kT : ∀ T ∈ ["NoneType", "bool", "int", "list", "str", "dict", "tuple"], PySem.W.kitOne K (.type T) (.ref C) = some false
  aT : ∀ T ∈ ["NoneType", "bool", "int", "list", "str", "dict", "tuple"], AddT K C T
  rT : RaddT K "tuple"
/-- what a row's steps are -/
def RowAt (K : PySem.W.Frag) (d : Addr) (H : Hp) : List V → List Step → Prop := All2 fun v s => SVG K d H v (some s)
theorem RowAt.same {K : PySem.W.Frag} {d : Addr} {H H' : Hp} (e : Same H H') {xs : List V} {ss : List Step} (h : RowAt K d H xs ss) : RowAt K d H' xs ss := All2.mono (fun _ _ t => SVG.same e t) h
theorem rowAt_of {K : PySem.W.Frag} {d : Addr} {H : Hp} : ∀ {xs : List V} {ss : List Step}, All2 (SVG K d H) xs (ss.map some) → RowAt K d H xs ss
  | [], [], _ => .nil
  | x :: xs, s :: ss, .cons h t => .cons h (rowAt_of t)
theorem of_rowAt {K : PySem.W.Frag} {d : Addr} {H : Hp} : ∀ {xs : List V} {ss : List Step}, RowAt K d H xs ss → All2 (SVG K d H) xs (ss.map some)
  | [], [], _ => .nil
  | x :: xs, s :: ss, .cons h t => .cons h (of_rowAt t)
/-- the row of the steps ss stands at a -/
def IsRow (K : PySem.W.Frag) (C d : Addr) (H : Hp) (a : Addr) (ss : List Step) : Prop := ∃ (dx p h : Addr) (xs ys : List V), H a = some (.ins C dx [("_steps", .ref p), ("_held", .ref h)]) ∧ SqT K H p xs ∧ RowAt K d H xs ss ∧ SqL K H h ys ∧ All2 (TxtT K H) ys (helds ss [] ++ [[], []])
theorem IsRow.same {K : PySem.W.Frag} {C d : Addr} {H H' : Hp} (e : Same H H') {a : Addr} {ss : List Step} (h : IsRow K C d H a ss) : IsRow K C d H' a ss := by
  obtain ⟨dx, p, hh, xs, ys, h1, h2, h3, h5, h6⟩ := h
  exact ⟨dx, p, hh, xs, ys, e _ _ h1, e.tupS h2, h3.same e, e.seq h5, h6.mono fun _ _ t => t.same e⟩
theorem but_of {x : Addr} {H H' : Hp} (s : Same H H') : SameBut x H H' := fun b o _ e => s b o e
theorem SameBut.trans {x : Addr} {H H1 H2 : Hp} (a : SameBut x H H1) (b : SameBut x H1 H2) : SameBut x H H2 := fun c o n e => b c o n (a c o n e)
theorem but_upd {x : Addr} {H : Hp} {u : HO} : SameBut x H (upd H x u) := fun b o n e => by
  rw [upd_ne n]
  exact e
theorem ne_of_ins {H : Hp} {x C dx a : Addr} {fs : List (Str × V)} {ys : List V} (hx : H x = some (.ins C dx fs)) (ha : H a = some (.lst ys)) : a ≠ x := fun e => by
  rw [e, hx] at ha
  cases ha
theorem sqT_but {K : PySem.W.Frag} {H H' : Hp} {x C dx a : Addr} {fs : List (Str × V)} {xs : List V} (b : SameBut x H H') (hx : H x = some (.ins C dx fs)) (h : SqT K H a xs) : SqT K H' a xs := by
  rcases h with (h | ⟨ob, h⟩) | h
  · exact .inl (.inl (b _ _ (fun e => by rw [e, hx] at h; cases h) h))
  · exact .inl (.inr ⟨ob, b _ _ (fun e => by rw [e, hx] at h; cases h) h⟩)
  · exact .inr h
theorem StepAt.but {K : PySem.W.Frag} {H H' : Hp} {x C dx : Addr} {fs : List (Str × V)} (b : SameBut x H H') (hx : H x = some (.ins C dx fs)) {v : V} {s : Step} (h : StepAt K H v s) : StepAt K H' v s := let ⟨p, e, q⟩ := h; ⟨p, e, sqT_but b hx q⟩
theorem SVG.but {K : PySem.W.Frag} {d : Addr} {H H' : Hp} {x C dx : Addr} {fs : List (Str × V)} (b : SameBut x H H') (hx : H x = some (.ins C dx fs)) {v : V} {s : Step} (h : SVG K d H v (some s)) : SVG K d H' v (some s) := by
  obtain ⟨h, g⟩ := h
  cases h with
  | good a c e f => exact ⟨.good (sqT_but b hx a) c e f, g⟩
theorem TxtT.but {K : PySem.W.Frag} {H H' : Hp} {x C dx : Addr} {fs : List (Str × V)} (b : SameBut x H H') (hx : H x = some (.ins C dx fs)) {v : V} {s : List Str} (h : TxtT K H v s) : TxtT K H' v s := let ⟨p, e, q⟩ := h; ⟨p, e, sqT_but b hx q⟩
theorem helds_len : ∀ (ss : List Step) (h : List Str), (helds ss h).length = ss.length
  | [], _ => rfl
  | s :: ss, h => congrArg (· + 1) (helds_len ss _)
theorem fault_none {rs : List (Option Step)} (h : fault rs = none) : ∃ ss : List Step, rs = ss.map some := by
  refine all_some rs fun j hj => ?_
  unfold fault at h
  split at h
  · cases h
  · rename_i e
    rw [List.findIdx?_eq_none_iff] at e
    have z := e _ (List.getElem_mem hj)
    rw [List.getElem?_eq_getElem hj]
    cases q : rs[j] with
    | none => rw [q] at z; cases z
    | some s => exact ⟨s, rfl⟩
/-- the row of some values, or what is raised for them -/
def Made (C CI d : Addr) (K : PySem.W.Frag) (H : Hp) (rs : List (Option Step)) (Q : VK) (E : XK) : Prop :=
  (fault rs = none → ∀ ss, rs = ss.map some → ∀ x H', Same H H' → IsRow K C d H' x ss → Q (.ref x) H') ∧ (∀ v, fault rs = some v → ∀ t H', Left H "index" v t H' → E (.ref CI) (some t) H')
def spRI (K : PySem.W.Frag) (d C CI : Addr) : Sp := fun vs H Q E => ∃ (x dx p : Addr) (xs : List V) (rs : List (Option Step)), vs = [.ref x, .ref p] ∧ H x = some (.ins C dx []) ∧ SqT K H p xs ∧ All2 (SVG K d H) xs rs ∧ rs.length ≤ 800 ∧
  (fault rs = none → ∀ ss, rs = ss.map some → ∀ H', SameBut x H H' → IsRow K C d H' x ss → Q .non H') ∧ (∀ v, fault rs = some v → ∀ t H', Left H "index" v t H' → E (.ref CI) (some t) H')
abbrev spStar (sp : Sp) : Sp := fun vs H Q E => ∃ ws rest, vs = ws ++ rest ∧ ws.length = 1 ∧ rest.length ≤ sizeLine ∧ ∀ p, H p = Option.none → sp (ws ++ [V.ref p]) (upd H p (.tup rest)) Q E
section
variable {P : Program} {w : World} {K : PySem.W.Frag} {mg : Str → Option Value} {base : Heap}
abbrev sRI : Stmt := inClass (top 22) 0
theorem scRI : FnScope ["self", "steps"] ["self", "steps"] (defScope sRI) := ⟨rfl, rfl, rfl, by decide +kernel, rfl, by decide +kernel, by decide +kernel⟩
theorem ok_RI {f fC fH d C CI fI fA fR : Addr} {fd fdC fdH : FuncData} (F : Fun K "__init__" "Row.__init__" sRI f fd) (T : RowC K mg C fI fA fR)
    (GC : FnOk P w K mg base (L2.CX P w) 3 fC fdC ["steps"] (spCheck K d CI)) (TC : Called K mg "check_steps" ["steps"] fC fdC)
    (GH : FnOk P w K mg base CX0 2 fH fdH ["items", "around"] (spHeld K)) (TH : Called K mg "held_along" ["items", "around"] fH fdH) : FnR P w K mg base (L2.CX P w) 4 f (spStar (spRI K d C CI)) := by
  obtain ⟨oc, od, kV, doc, pm, an, cdv, ct, osl, rfl, lk, hcd⟩ := F.ex
  refine StX.fn_star (ps := ["self"]) (pv := "steps") (N := ["self", "steps"]) lk hcd scRI StX.cxUp (fun us rest hl => match us, rest, hl with | [u], [], _ => rfl | [u], a :: r, _ => rfl) fun A outer s H vs Q E hr h => ?_
  obtain ⟨x, dx, p, xs, rs, rfl, hx, hp, hrs, hz, q, qE⟩ := h
  refine ⟨_, (pss_cons (ps_expr (pe_call GC (hr.mono (by decide)) rfl TC.1 TC.2.1 TC.2.2 .nil passX (pa_cons (pv 1) pa_nil)))
       (pss_cons (ps_fld (pv 0) (pv 1) rfl)
       (pss_one (ps_fld (pv 0) (pe_op op_cat (pe_call GH (hr.mono (by decide)) rfl TH.1 TH.2.1 TH.2.2 .nil pass0 (pa_cons (pv 1) (pa_cons (pe_tup pa_nil) pa_nil))) (pe_lst (pa_cons (pe_tup pa_nil) (pa_cons (pe_tup pa_nil) pa_nil)))) rfl)))), ?_⟩
  refine ⟨_, rfl, p, xs, rs, rfl, hp, hrs, hz, fun hf H1 s1 => ?_, fun v hv t H' l => qE v hv t H' l⟩
  obtain ⟨ss, rfl⟩ := fault_none hf
  have hss : StepsAt K H xs ss := steps_of hrs
  have hg : ∀ s ∈ ss, GoodS s := good_of hrs
  rw [List.length_map] at hz
  have hx1 := s1 _ _ hx
  refine ⟨_, rfl, _, rfl, x, C, dx, [], rfl, hx1, T.cl, T.nS, by decide, ?_⟩
  have b1 : SameBut x H (upd H1 x (.ins C dx (putF "_steps" (.ref p) []))) := (but_of s1).trans but_upd
  have hx2 : (upd H1 x (.ins C dx (putF "_steps" (.ref p) []))) x = some (.ins C dx [("_steps", .ref p)]) := upd_same
  generalize upd H1 x (.ins C dx (putF "_steps" (.ref p) [])) = H2 at b1 hx2
  refine ⟨_, rfl, Nat.zero_le _, fun z nz => ?_⟩
  have s3 := same_upd (o := HO.tup []) nz
  have hss2 : StepsAt K H2 xs ss := hss.mono fun _ _ t => StepAt.but b1 hx t
  refine ⟨p, .ref z, xs, ss, [], rfl, s3.tupS (sqT_but b1 hx hp), hss2.same s3, fun s hs => (hg s hs).pl, ⟨z, rfl, SqT.of upd_same⟩, by rw [List.length_nil]; omega, fun H3 l ys s4 nl hl hys => ?_⟩
  refine ⟨Nat.zero_le _, fun z1 nz1 => ⟨Nat.zero_le _, fun z2 nz2 => ⟨by show 2 ≤ sizeLine; decide, fun l2 nl2 => ?_⟩⟩⟩
  have s5 := same_upd (o := HO.tup []) nz1
  have s6 := same_upd (o := HO.tup []) nz2
  have s7 := same_upd (o := HO.lst [V.ref z1, V.ref z2]) nl2
  have t1 : TxtT K (upd (upd (upd H3 z1 (HO.tup [])) z2 (HO.tup [])) l2 (HO.lst [V.ref z1, V.ref z2])) (.ref z1) [] := ⟨z1, rfl, SqT.of (s7 _ _ (s6 _ _ upd_same))⟩
  have t2 : TxtT K (upd (upd (upd H3 z1 (HO.tup [])) z2 (HO.tup [])) l2 (HO.lst [V.ref z1, V.ref z2])) (.ref z2) [] := ⟨z2, rfl, SqT.of (s7 _ _ upd_same)⟩
  have e7 : (upd (upd (upd H3 z1 (HO.tup [])) z2 (HO.tup [])) l2 (HO.lst [V.ref z1, V.ref z2])) l2 = some (.lst [V.ref z1, V.ref z2]) := upd_same
  have s37 := (s5.trans s6).trans s7
  generalize upd (upd (upd H3 z1 (HO.tup [])) z2 (HO.tup [])) l2 (HO.lst [V.ref z1, V.ref z2]) = H7 at s37 t1 t2 e7 s7
  have yl := hys.length
  rw [helds_len] at yl
  refine ⟨l, l2, ys, _, rfl, rfl, s37 _ _ hl, e7, ?_, fun l3 nl3 => ?_⟩
  · rw [sizeLine_eq]
    show ys.length + 2 ≤ _
    omega
  have s8 := same_upd (o := HO.lst (ys ++ [V.ref z1, V.ref z2])) nl3
  have e8 : (upd H7 l3 (.lst (ys ++ [V.ref z1, V.ref z2]))) l3 = some (.lst (ys ++ [V.ref z1, V.ref z2])) := upd_same
  generalize upd H7 l3 (.lst (ys ++ [V.ref z1, V.ref z2])) = H8 at s8 e8
  have s38 := s37.trans s8
  have s28 := (s3.trans s4).trans s38
  have hx8 := s28 _ _ hx2
  refine ⟨_, rfl, x, C, dx, [("_steps", .ref p)], rfl, hx8, T.cl, T.nH, by show 1 < 1000; decide, ?_⟩
  have b9 : SameBut x H8 (upd H8 x (.ins C dx (putF "_held" (.ref l3) [("_steps", .ref p)]))) := but_upd
  have b : SameBut x H (upd H8 x (.ins C dx (putF "_held" (.ref l3) [("_steps", .ref p)]))) := (b1.trans (but_of s28)).trans b9
  refine q hf ss rfl _ b ⟨dx, p, l3, xs, ys ++ [V.ref z1, V.ref z2], upd_same, sqT_but b hx hp, All2.mono (fun _ _ t => SVG.but b hx t) (rowAt_of hrs), ?_, ?_⟩
  · exact SqL.of (by rw [upd_ne (ne_of_ins hx8 e8)]; exact e8)
  · refine ((hys.mono fun _ _ t => t.same s38).append (.cons (t1.same s8) (.cons (t2.same s8) .nil))).mono fun _ _ t => TxtT.but b9 hx8 t
end
end Rw

/-! R12 -/
/-! ### rows made of tuples, added, listed -/
namespace Rw
open PySem PySem.Spec PyProof.Rows L2
theorem made_of {K : PySem.W.Frag} {d C CI : Addr} {H : Hp} {xs : List V} {rs : List (Option Step)} {Q : VK} {E : XK} (hrs : All2 (SVG K d H) xs rs) (hz : rs.length ≤ 800) (m : Made C CI d K H rs Q E) {x dx : Addr} (nx : H x = none) (nd : H dx = none) (ne : dx ≠ x) :
    spStar (spRI K d C CI) (.ref x :: xs) (upd (upd H dx (.own x)) x (.ins C dx [])) (fun v H2 => v = .non ∧ Q (.ref x) H2) E := by
  refine ⟨[.ref x], xs, rfl, rfl, by rw [hrs.length, sizeLine_eq]; omega, fun p np => ?_⟩
  have s0 : Same H (upd (upd H dx (.own x)) x (.ins C dx [])) := fun b o e => by
    rw [upd_ne (ne_of_none e nx), upd_ne (ne_of_none e nd)]
    exact e
  have e0 : (upd (upd H dx (.own x)) x (.ins C dx [])) x = some (.ins C dx []) := upd_same
  generalize upd (upd H dx (.own x)) x (.ins C dx []) = H1 at np s0 e0
  have s1 := same_upd (o := HO.tup xs) np
  refine ⟨x, dx, p, xs, rs, rfl, s1 _ _ e0, SqT.of upd_same, hrs.mono fun _ _ t => t.same (s0.trans s1), hz, fun hf ss e H' b r => ⟨rfl, m.1 hf ss e x H' (fun b' o hb => ?_) r⟩, fun v hv t H' l => m.2 v hv t H' (l.before (s0.trans s1))⟩
  exact b b' o (ne_of_none hb nx) ((s0.trans s1) b' o hb)
theorem cat_any {K : PySem.W.Frag} {H : Hp} {a b : Addr} {xs ys : List V} {Q : VK} (ha : SqT K H a xs) (hb : SqT K H b ys) (hl : xs.length + ys.length ≤ 1000) (q : ∀ H' p, Same H H' → SqT K H' p (xs ++ ys) → Q (.ref p) H') : rCatA K (.ref a) (.ref b) H Q := by
  refine ⟨a, b, _, _, rfl, rfl, ha, hb, ?_, fun e => ?_, fun _ e => ?_, fun _ _ p np => ?_⟩
  · rw [sizeLine_eq]
    omega
  · subst e
    exact q H _ (Same.refl H) hb
  · subst e
    rw [List.append_nil] at q
    exact q H _ (Same.refl H) ha
  · exact q _ _ (same_upd np) (SqT.of upd_same)
/-- what is added to a row: a row, a tuple, any other thing -/
inductive Src (K : PySem.W.Frag) (C d : Addr) (H : Hp) : V → Option (List (Option Step)) → Prop
  | row {a : Addr} {ss : List Step} : IsRow K C d H a ss → Src K C d H (.ref a) (some (ss.map some))
  | tup {p : Addr} {xs : List V} {rs : List (Option Step)} : SqT K H p xs → All2 (SVG K d H) xs rs → Src K C d H (.ref p) (some rs)
  | other {v : V} {T : String} : TyX K H v (.type T) → T ∈ noTup → Src K C d H v none
theorem Src.same {K : PySem.W.Frag} {C d : Addr} {H H' : Hp} (e : Same H H') {v : V} {r : Option (List (Option Step))} (h : Src K C d H v r) : Src K C d H' v r := by
  cases h with
  | row h => exact .row (h.same e)
  | tup h g => exact .tup (e.tupS h) (g.mono fun _ _ t => t.same e)
  | other h g => exact .other (TyX_same e h) g
def spIn (K : PySem.W.Frag) (C d CI : Addr) : Sp := fun vs H Q E => ∃ (v : V) (r : Option (List (Option Step))), vs = [v] ∧ Src K C d H v r ∧ (∀ rs, r = some rs → ∀ p xs H', Same H H' → SqT K H' p xs → All2 (SVG K d H') xs rs → Q (.ref p) H') ∧ (r = none → ∀ t H', Left H "index" .non t H' → E (.ref CI) (some t) H')
/-- what comes of it -/
def Added (C CI d : Addr) (K : PySem.W.Frag) (H : Hp) (f : List (Option Step) → List (Option Step)) (r : Option (List (Option Step))) (Q : VK) (E : XK) : Prop :=
  (∀ rs, r = some rs → Made C CI d K H (f rs) Q E) ∧ (r = none → ∀ t H', Left H "index" .non t H' → E (.ref CI) (some t) H')
theorem Made.before {C CI d : Addr} {K : PySem.W.Frag} {H H' : Hp} {rs : List (Option Step)} {Q : VK} {E : XK} (s : Same H H') (m : Made C CI d K H rs Q E) : Made C CI d K H' rs Q E :=
  ⟨fun hf ss e x H2 s2 => m.1 hf ss e x H2 (s.trans s2), fun v hv t H2 l => m.2 v hv t H2 (l.before s)⟩
def spAdd (K : PySem.W.Frag) (C d CI : Addr) : Sp := fun vs H Q E => ∃ (a : Addr) (v : V) (ss : List Step) (r : Option (List (Option Step))), vs = [.ref a, v] ∧ IsRow K C d H a ss ∧ Src K C d H v r ∧ ss.length ≤ 300 ∧ (∀ rs, r = some rs → rs.length ≤ 300) ∧ Added C CI d K H (fun rs => ss.map some ++ rs) r Q E
def spRadd (K : PySem.W.Frag) (C d CI : Addr) : Sp := fun vs H Q E => ∃ (a : Addr) (v : V) (ss : List Step) (r : Option (List (Option Step))), vs = [.ref a, v] ∧ IsRow K C d H a ss ∧ Src K C d H v r ∧ ss.length ≤ 300 ∧ (∀ rs, r = some rs → rs.length ≤ 300) ∧ Added C CI d K H (fun rs => rs ++ ss.map some) r Q E
def spSteps (K : PySem.W.Frag) (C d : Addr) : Sp := fun vs H Q _ => ∃ (a : Addr) (ss : List Step), vs = [.ref a] ∧ IsRow K C d H a ss ∧ ∀ H' l xs, Same H H' → H l = none → H' l = some (.lst xs) → RowAt K d H' xs ss → Q (.ref l) H'
section
variable {P : Program} {w : World} {K : PySem.W.Frag} {mg : Str → Option Value} {base : Heap}
theorem row_ty {C d fI fA fR : Addr} (T : RowC K mg C fI fA fR) {H : Hp} {a : Addr} {ss : List Step} (h : IsRow K C d H a ss) : TyX K H (.ref a) (.ref C) := by
  obtain ⟨dx, p, hh, xs, ys, h1, _⟩ := h
  exact .base (.ins h1 T.cl T.ha T.hn T.htk T.hm)
abbrev sIn : Stmt := top 21
theorem scIn : FnScope ["value"] ["value"] (defScope sIn) := ⟨rfl, rfl, rfl, by decide +kernel, rfl, by decide +kernel, by decide +kernel⟩
theorem ok_in {f d C CI fI fA fR fE : Addr} {fd fdE : FuncData} (F : Fun K "steps_in" "steps_in" sIn f fd) (R : RowC K mg C fI fA fR) (T : Er P w K mg base "InvalidStep" "index" CI fE fdE) (m_isinstance : mg "isinstance" = none) (m_tuple : mg "tuple" = none) : FnOk P w K mg base (L2.CX P w) 3 f fd ["value"] (spIn K C d CI) := by
  refine F.okX scIn (fun vs H Q E h => ?_) (fun cdv A outer s H vs Q E hr h => ?_)
  · obtain ⟨v, r, rfl, _⟩ := h
    rfl
  · obtain ⟨v, r, rfl, hs, q, qE⟩ := h
    refine ⟨_, (pss_cons (ps_if (pt_val (pe_callB call_isi (by rfl) m_isinstance (by decide +kernel) (pa_cons (pv 0) (pa_cons (pe_glob (v := .ref C) rfl R.g rfl) pa_nil))))
       (pss_one (ps_ret (pe_fld (pv 0) rfl)))
       pss_nil)
       (pss_cons (ps_if (pt_not (pt_val (pe_callB call_isi (by rfl) m_isinstance (by decide +kernel) (pa_cons (pv 0) (pa_cons (pe_bltn (v := .ty "tuple") (by rfl) m_tuple (by decide +kernel) rfl) pa_nil)))))
       (pss_one (ps_raise rfl (takes_of rfl rfl rfl rfl) (pmk_G T.o T.F (hr.mono (by decide)) T.b pass0 rfl T.g (pa_cons pe_non pa_nil))))
       pss_nil)
       (pss_one (ps_ret (pv 0))))), ?_⟩
    have tup : PySem.W.kitOne K (.type "tuple") (.type "tuple") = some true := kit_ty (by decide +kernel)
    cases hs with
    | @row a ss h =>
      have ty := row_ty R h
      obtain ⟨dx, p, hh, xs, ys, h1, h2, h3, h5, h6⟩ := h
      exact ⟨_, rfl, _, _, _, _, _, rfl, .own _, ty, R.kRow, _, rfl, iteT ⟨_, rfl, a, C, dx, _, _, rfl, h1, R.cl, R.nS, rfl, q _ rfl p xs H (Same.refl H) h2 (of_rowAt h3)⟩⟩
    | @tup p xs rs h g =>
      refine ⟨_, rfl, _, _, _, _, _, rfl, .own _, tyx_tup h, R.kT "tuple" (by decide), _, rfl, iteF ?_⟩
      refine ⟨_, rfl, _, _, _, _, _, rfl, .ty _, tyx_tup h, tup, _, rfl, iteF ?_⟩
      exact ⟨_, rfl, q _ rfl p xs H (Same.refl H) h g⟩
    | @other _ T' ty hT =>
      have hT2 : T' ∈ ["NoneType", "bool", "int", "list", "str", "dict", "tuple"] := by
        simp only [noTup, List.mem_cons, List.mem_nil_iff, or_false] at hT ⊢
        rcases hT with rfl | rfl | rfl | rfl | rfl | rfl <;> simp
      have kt : PySem.W.kitOne K (.type T') (.type "tuple") = some false := by
        simp only [noTup, List.mem_cons, List.mem_nil_iff, or_false] at hT
        rcases hT with rfl | rfl | rfl | rfl | rfl | rfl <;> exact kit_ty (by decide +kernel)
      refine ⟨_, rfl, _, _, _, _, _, rfl, .own _, ty, R.kT T' hT2, _, rfl, iteF ?_⟩
      refine ⟨_, rfl, _, _, _, _, _, rfl, .ty _, ty, kt, _, rfl, iteT ?_⟩
      exact ⟨Nat.le_of_ble_eq_true rfl, fun e ne => raise1 T.o T.no ne fun t H' l => qE rfl t H' l⟩
abbrev sAdd : Stmt := inClass (top 22) 3
theorem scAdd : FnScope ["self", "other", "steps"] ["self", "other"] (defScope sAdd) := ⟨rfl, rfl, rfl, by decide +kernel, rfl, by decide +kernel, by decide +kernel⟩
theorem ok_add {f fN d C CI fI fR : Addr} {fd fdN : FuncData} (F : Fun K "__add__" "Row.__add__" sAdd f fd) (R : RowC K mg C fI f fR) (GI : FnR P w K mg base (L2.CX P w) 4 fI (spStar (spRI K d C CI)))
    (GN : FnOk P w K mg base (L2.CX P w) 3 fN fdN ["value"] (spIn K C d CI)) (TN : Called K mg "steps_in" ["value"] fN fdN) : FnOk P w K mg base (L2.CX P w) 6 f fd ["self", "other"] (spAdd K C d CI) := by
  refine F.okX scAdd (fun vs H Q E h => ?_) (fun cdv A outer s H vs Q E hr h => ?_)
  · obtain ⟨a, v, ss, r, rfl, _⟩ := h
    rfl
  · obtain ⟨a, v, ss, r, rfl, h, hs, l1, l2, q, qE⟩ := h
    refine ⟨_, (pss_cons (ps_set (i := 2) scAdd.nd rfl (.inl rfl) (pe_op op_catA (pe_fld (pv 0) rfl) (pe_call GN (hr.mono (by decide)) rfl TN.1 TN.2.1 TN.2.2 .nil passX (pa_cons (pv 1) pa_nil))))
       (pss_one (ps_ret (pe_makeS1 R.mkC GI hr rfl R.g passX (pv 2))))), ?_⟩
    obtain ⟨dx, p, hh, xs, ys, h1, h2, h3, h5, h6⟩ := h
    refine ⟨_, rfl, a, C, dx, _, _, rfl, h1, R.cl, R.nS, rfl, _, rfl, v, r, rfl, hs, fun rs hr p2 xs2 H2 s2 h2' g2 => ?_, fun hn t H' l => qE hn t H' l⟩
    have xl := h3.length
    have yl := g2.length
    have rl := l2 rs hr
    refine cat_any (s2.tupS h2) h2' (by omega) fun H3 p3 s3 h3' => ?_
    refine ⟨_, rfl, p3, _, rfl, .inl h3', fun x dx nx nd ne => ?_⟩
    refine made_of ((of_rowAt (h3.same (s2.trans s3))).append (g2.mono fun _ _ t => t.same s3)) ?_ ((q rs hr).before (s2.trans s3)) nx nd ne
    rw [List.length_append, List.length_map]
    omega
abbrev sRadd : Stmt := inClass (top 22) 4
theorem scRadd : FnScope ["self", "other", "steps"] ["self", "other"] (defScope sRadd) := ⟨rfl, rfl, rfl, by decide +kernel, rfl, by decide +kernel, by decide +kernel⟩
theorem ok_radd {f fN d C CI fI fA : Addr} {fd fdN : FuncData} (F : Fun K "__radd__" "Row.__radd__" sRadd f fd) (R : RowC K mg C fI fA f) (GI : FnR P w K mg base (L2.CX P w) 4 fI (spStar (spRI K d C CI)))
    (GN : FnOk P w K mg base (L2.CX P w) 3 fN fdN ["value"] (spIn K C d CI)) (TN : Called K mg "steps_in" ["value"] fN fdN) : FnOk P w K mg base (L2.CX P w) 6 f fd ["self", "other"] (spRadd K C d CI) := by
  refine F.okX scRadd (fun vs H Q E h => ?_) (fun cdv A outer s H vs Q E hr h => ?_)
  · obtain ⟨a, v, ss, r, rfl, _⟩ := h
    rfl
  · obtain ⟨a, v, ss, r, rfl, h, hs, l1, l2, q, qE⟩ := h
    refine ⟨_, (pss_cons (ps_set (i := 2) scRadd.nd rfl (.inl rfl) (pe_op op_catA (pe_call GN (hr.mono (by decide)) rfl TN.1 TN.2.1 TN.2.2 .nil passX (pa_cons (pv 1) pa_nil)) (pe_fld (pv 0) rfl)))
       (pss_one (ps_ret (pe_makeS1 R.mkC GI hr rfl R.g passX (pv 2))))), ?_⟩
    obtain ⟨dx, p, hh, xs, ys, h1, h2, h3, h5, h6⟩ := h
    refine ⟨_, rfl, v, r, rfl, hs, fun rs hr p2 xs2 H2 s2 h2' g2 => ?_, fun hn t H' l => qE hn t H' l⟩
    have xl := h3.length
    have yl := g2.length
    have rl := l2 rs hr
    refine ⟨_, rfl, a, C, dx, _, _, rfl, s2 _ _ h1, R.cl, R.nS, rfl, ?_⟩
    refine cat_any h2' (s2.tupS h2) (by omega) fun H3 p3 s3 h3' => ?_
    refine ⟨_, rfl, p3, _, rfl, .inl h3', fun x dx nx nd ne => ?_⟩
    refine made_of ((g2.mono fun _ _ t => t.same s3).append (of_rowAt (h3.same (s2.trans s3)))) ?_ ((q rs hr).before (s2.trans s3)) nx nd ne
    rw [List.length_append, List.length_map]
    omega
abbrev sSt : Stmt := inClass (top 22) 10
theorem scSt : FnScope ["self"] ["self"] (defScope sSt) := ⟨rfl, rfl, rfl, by decide +kernel, rfl, by decide +kernel, by decide +kernel⟩
theorem ok_steps {f d C fI fA fR : Addr} {fd : FuncData} (F : Fun K "steps" "Row.steps" sSt f fd) (R : RowC K mg C fI fA fR) (m_list : mg "list" = none) : FnOk P w K mg base CX0 1 f fd ["self"] (spSteps K C d) := by
  refine F.ok scSt (fun vs H Q E h => ?_) (fun cdv A outer s H vs Q E hr h => ?_)
  · obtain ⟨a, ss, rfl, _⟩ := h
    rfl
  · obtain ⟨a, ss, rfl, h, q⟩ := h
    refine ⟨_, (pss_one (ps_ret (pe_callTy call_list_of (by rfl) m_list (by decide +kernel) (pa_cons (pe_fld (pv 0) rfl) pa_nil)))), ?_⟩
    obtain ⟨dx, p, hh, xs, ys, h1, h2, h3, h5, h6⟩ := h
    refine ⟨_, rfl, a, C, dx, _, _, rfl, h1, R.cl, R.nS, rfl, p, _, rfl, .inr h2, fun l nl => ?_⟩
    exact q _ l xs (same_upd nl) nl upd_same (h3.same (same_upd nl))
end
end Rw

/-! R13 -/
namespace Rw
open PySem PySem.Spec PyProof.Rows L2
abbrev sNum : Stmt := top 24
theorem scN : FnScope ["_law_cell", "_law_salt", "_law_sizes", "_law_whole", "_law_left", "_law_result", "_law_k", "_law_one"] ["_law_cell", "_law_salt", "_law_sizes"] (defScope sNum) := ⟨rfl, rfl, rfl, by decide +kernel, rfl, by decide +kernel, by decide +kernel⟩
/-- what the numbers are: as many as the sizes, each below its size -/
def Drawn (sz ns : List Int) : Prop := ns.length = sz.length ∧ ∀ (i : Nat) (n : Int), sz[i]? = some n → ∃ x : Int, ns[i]? = some x ∧ 0 ≤ x ∧ x < n
def spNum (K : PySem.W.Frag) : Sp := fun vs H Q _ => ∃ (cell salt : Int) (a : Addr) (sz : List Int), vs = [.int cell, .int salt, .ref a] ∧ SqL K H a (sz.map V.int) ∧ sz.length ≤ 400 ∧ (∀ n ∈ sz, 1 ≤ n ∧ n < 2 ^ 200) ∧ 0 ≤ salt ∧ salt ≤ 1000000 ∧
  ∀ H' p ns, Same H H' → H p = none → H' p = some (.lst (ns.map V.int)) → Drawn sz ns → Q (.ref p) H'
theorem map_more (ns : List Int) (x : Int) : some (HO.lst (ns.map V.int ++ [V.int x])) = some (HO.lst ((ns ++ [x]).map V.int)) := by
  rw [List.map_append]
  rfl
theorem drawn_more {sz ns : List Int} {i : Nat} {n x : Int} (h : Drawn (sz.take i) ns) (hn : sz[i]? = some n) (x0 : 0 ≤ x) (x1 : x < n) : Drawn (sz.take (i + 1)) (ns ++ [x]) := by
  obtain ⟨h1, h2⟩ := h
  have hi : i < sz.length := by
    obtain ⟨z, _⟩ := List.getElem?_eq_some_iff.mp hn
    exact z
  have e : sz.take (i + 1) = sz.take i ++ [n] := by
    rw [List.take_add_one, hn]
    rfl
  have l1 : (sz.take i).length = i := by
    rw [List.length_take]
    omega
  rw [e]
  refine ⟨by rw [List.length_append, List.length_append, h1]; rfl, fun j m hm => ?_⟩
  by_cases hj : j < i
  · rw [List.getElem?_append_left (by omega)] at hm
    obtain ⟨y, y1, y2⟩ := h2 j m hm
    exact ⟨y, by rw [List.getElem?_append_left (by omega)]; exact y1, y2⟩
  · rw [List.getElem?_append_right (by omega), l1] at hm
    have ej : j = i := by
      obtain ⟨z, _⟩ := List.getElem?_eq_some_iff.mp hm
      simp at z
      omega
    subst ej
    rw [Nat.sub_self] at hm
    have em : n = m := Option.some.inj hm
    subst em
    exact ⟨x, by rw [List.getElem?_append_right (by omega), h1, l1, Nat.sub_self]; rfl, x0, x1⟩
section
variable {P : Program} {w : World} {K : PySem.W.Frag} {mg : Str → Option Value} {base : Heap}
theorem ok_num {f : Addr} {fd : FuncData} {k : Nat} (F : Fun K "_law_numbers" "_law_numbers" sNum f fd) (m_max : mg "max" = none) (m_range : mg "range" = none) (m_len : mg "len" = none) :
    FnOk P w K mg base CX0 (k + 1) f fd ["_law_cell", "_law_salt", "_law_sizes"] (spNum K) := by
  refine F.ok scN (fun vs H Q E h => ?_) (fun cdv A outer s H vs Q E hr h => ?_)
  · obtain ⟨c, s, a, sz, rfl, _⟩ := h
    rfl
  · obtain ⟨cell, salt, a, sz, rfl, hS, hlen, hsz, hs0, hs1, q⟩ := h
    refine ⟨_, (pss_cons (ps_set (i := 3) scN.nd rfl (.inl rfl) (pe_callB (call_max2 rfl) (by rfl) m_max (by decide +kernel) (pa_cons (pv 0) (pa_cons (pe_op op_sub (pe_un un_neg pe_int) (pv 0)) pa_nil))))
       (pss_cons (ps_set (i := 4) scN.nd rfl (.inl rfl) (pv 3))
       (pss_cons (ps_set (i := 5) scN.nd rfl (.inl rfl) (pe_lst pa_nil))
       (pss_cons (ps_for PassesOwn.never rfl (pi_range1 rfl m_range (pa_cons (pe_callB call_len_seq (by rfl) m_len PySem.boot_len (pa_cons (pv 2) pa_nil)) pa_nil)) (pg_name (i := 6) scN.nd rfl (.inl rfl))
       (pss_one (ps_if (PW.pt (pw_and (pt_cmpR op_ge (pv 3) (pe_op op_pow pe_int pe_int) (nomark _)) (pw_and1 (pt_cmpR op_gt (pv 4) pe_int (nomark _)))))
       (pss_cons (ps_expr (pe_bm PySem.F.plainAttrs_list PySem.F.slot_list_append PySem.F.type_list_append mt_append (pv 5) (pa_cons (pe_op op_modN (pv 4) (pe_ix ix_list (pv 2) (pv 6) (fun _ _ => rfl))) pa_nil)))
       (pss_one (ps_set (i := 4) scN.nd rfl (.inl rfl) (pe_op op_fdivW (pv 4) (pe_ix ix_list (pv 2) (pv 6) (fun _ _ => rfl))))))
       (pss_cons (ps_set (i := 7) scN.nd rfl (.inl rfl) (pe_op op_mod (pe_op op_pow (pe_op op_add (pe_op op_add (pe_op op_mod (pv 3) pe_int) (pe_op op_mul pe_int (pv 1))) pe_int) pe_int) pe_int))
       (pss_cons (ps_set (i := 7) scN.nd rfl (.inl rfl) (pe_op op_mod (pe_op op_mul (pe_op op_add (pv 7) (pe_op op_mul pe_int (pe_op op_add (pv 6) pe_int))) (pe_op op_add (pv 6) pe_int)) pe_int))
       (pss_cons (ps_set (i := 7) scN.nd rfl (.inl rfl) (pe_op op_mod (pe_op op_mul (pe_op op_mod (pe_op op_pow (pv 7) pe_int) pe_int) pe_int) pe_int))
       (pss_one (ps_expr (pe_bm PySem.F.plainAttrs_list PySem.F.slot_list_append PySem.F.type_list_append mt_append (pv 5) (pa_cons (pe_op op_modN (pe_op op_fdiv (pv 7) pe_int) (pe_ix ix_list (pv 2) (pv 6) (fun _ _ => rfl))) pa_nil))))))))))
       (pss_one (ps_ret (pv 5))))))), ?_⟩
    -- whole
    refine ⟨_, rfl, _, rfl, _, rfl, _, _, rfl, rfl, _, _, rfl, ?_⟩
    generalize hwh : (if -1 - cell > cell then -1 - cell else cell) = whole
    -- left
    refine ⟨_, rfl, ?_⟩
    -- result
    refine ⟨Nat.zero_le _, fun o no => ?_⟩
    have s1 : Same H (upd H o (.lst [])) := same_upd no
    -- range(len(sizes))
    refine ⟨_, rfl, a, _, rfl, .inl (s1.seq hS), _, rfl, ?_, ?_, ?_⟩
    · omega
    · rw [List.length_map]; omega
    have hw : 0 ≤ whole := by
      rw [← hwh]
      split <;> omega
    refine for_range (lo := 0) (n := (((sz.map V.int).length : Nat) : Int).toNat)
      (fun i σ H' => ∃ (left : Int) (ns : List Int) (v6 v7 : Option V), σ = [some (.int cell), some (.int salt), some (.ref a), some (.int whole), some (.int left), some (.ref o), v6, v7] ∧ 0 ≤ left ∧ Same H H' ∧
        H' o = some (.lst (ns.map V.int)) ∧ Drawn (sz.take i) ns)
      ⟨whole, [], none, none, rfl, hw, s1, upd_same, rfl, fun i n e => by simp at e⟩ ?_ ?_
    · rintro i σ H' hi ⟨left, ns, v6, v7, rfl, hl, sm, ho, hd⟩
      have hi' : i < sz.length := by
        rw [List.length_map] at hi
        omega
      have hSi : SqL K H' a (sz.map V.int) := sm.seq hS
      obtain ⟨n, hn⟩ : ∃ n, sz[i]? = some n := ⟨_, List.getElem?_eq_getElem hi'⟩
      obtain ⟨n1, n2⟩ := hsz n (List.mem_of_getElem? hn)
      have hat : atI (sz.map V.int) ((0 : Int) + i) = some (V.int n) := by
        rw [Int.zero_add]
        refine atI_nat ?_
        rw [List.getElem?_map, hn]
        rfl
      have more : ∀ x, 0 ≤ x → x < n → Drawn (sz.take (i + 1)) (ns ++ [x]) := fun x x0 x1 => drawn_more hd hn x0 x1
      have nsl : ns.length = i := by
        have z := hd.1
        rw [List.length_take] at z
        omega
      have room : (ns.map V.int).length < sizeLine := by
        rw [List.length_map]
        exact small1000 (by omega)
      have stay : ∀ u, Same H (upd H' o u) := fun u b z e => by
        rw [upd_ne (ne_of_none e no)]
        exact sm b z e
      -- whole >= 10 ** 18 and left > 0
      refine ⟨_, rfl, _, _, rfl, rfl, ⟨by decide, by decide, by decide⟩, _, _, rfl, rfl, _, rfl, ?_⟩
      refine ite2 (fun c1 => ?_) (fun c1 => ?_)
      · refine ⟨_, rfl, _, _, rfl, rfl, _, rfl, ite2 (fun c2 => ?_) (fun c2 => ?_)⟩
        · refine ⟨_, rfl, .inl ⟨rfl, _, .inl (.inl ho)⟩, _, rfl, _, rfl, _, rfl, a, _, _, _, rfl, rfl, hSi, hat, _, _, rfl, rfl, (by omega), o, _, _, rfl, rfl, ho, room, ?_⟩
          refine ⟨_, rfl, _, rfl, _, rfl, a, _, _, _, rfl, rfl, (stay _).seq hS, hat, _, _, rfl, rfl, wide_div (by omega) (b := 200) (by omega) (by decide) (by decide), ?_⟩
          exact ⟨left / n, _, _, _, rfl, Int.ediv_nonneg hl (by omega), stay _, by rw [upd_same, map_more], more _ (Int.fmod_nonneg_of_pos _ (by omega)) (Int.fmod_lt_of_pos _ (by omega))⟩
        · refine ⟨_, rfl, _, _, rfl, rfl, (by show (0 : Int) < 2147483629; decide), _, rfl, _, _, rfl, rfl, .inl ⟨by decide, by decide⟩, _, _, rfl, rfl, _, _, rfl, rfl, _, _, rfl, rfl, ⟨by decide, by decide, by omega⟩, _, _, rfl, rfl, (by show (0 : Int) < 2147483647; decide), ?_⟩
          refine ⟨_, rfl, _, rfl, _, _, rfl, rfl, _, _, rfl, rfl, .inl ⟨by decide, by decide⟩, _, _, rfl, rfl, _, rfl, _, _, rfl, rfl, _, _, rfl, rfl, .inr ⟨by omega, by omega⟩, _, _, rfl, rfl, (by show (0 : Int) < 2147483629; decide), ?_⟩
          refine ⟨_, rfl, _, _, rfl, rfl, ⟨by decide, by decide, by omega⟩, _, _, rfl, rfl, (by show (0 : Int) < 2147483647; decide), _, _, rfl, rfl, .inr ⟨by decide, by decide⟩, _, _, rfl, rfl, (by show (0 : Int) < 2147483629; decide), ?_⟩
          refine ⟨_, rfl, .inl ⟨rfl, _, .inl (.inl ho)⟩, _, rfl, _, _, rfl, rfl, ⟨by decide, by decide⟩, _, rfl, _, rfl, a, _, _, _, rfl, rfl, hSi, hat, _, _, rfl, rfl, (by omega), o, _, _, rfl, rfl, ho, room, ?_⟩
          exact ⟨left, _, _, _, rfl, hl, stay _, by rw [upd_same, map_more], more _ (Int.fmod_nonneg_of_pos _ (by omega)) (Int.fmod_lt_of_pos _ (by omega))⟩
      · refine ⟨_, rfl, _, _, rfl, rfl, (by show (0 : Int) < 2147483629; decide), _, rfl, _, _, rfl, rfl, .inl ⟨by decide, by decide⟩, _, _, rfl, rfl, _, _, rfl, rfl, _, _, rfl, rfl, ⟨by decide, by decide, by omega⟩, _, _, rfl, rfl, (by show (0 : Int) < 2147483647; decide), ?_⟩
        refine ⟨_, rfl, _, rfl, _, _, rfl, rfl, _, _, rfl, rfl, .inl ⟨by decide, by decide⟩, _, _, rfl, rfl, _, rfl, _, _, rfl, rfl, _, _, rfl, rfl, .inr ⟨by omega, by omega⟩, _, _, rfl, rfl, (by show (0 : Int) < 2147483629; decide), ?_⟩
        refine ⟨_, rfl, _, _, rfl, rfl, ⟨by decide, by decide, by omega⟩, _, _, rfl, rfl, (by show (0 : Int) < 2147483647; decide), _, _, rfl, rfl, .inr ⟨by decide, by decide⟩, _, _, rfl, rfl, (by show (0 : Int) < 2147483629; decide), ?_⟩
        refine ⟨_, rfl, .inl ⟨rfl, _, .inl (.inl ho)⟩, _, rfl, _, _, rfl, rfl, ⟨by decide, by decide⟩, _, rfl, _, rfl, a, _, _, _, rfl, rfl, hSi, hat, _, _, rfl, rfl, (by omega), o, _, _, rfl, rfl, ho, room, ?_⟩
        exact ⟨left, _, _, _, rfl, hl, stay _, by rw [upd_same, map_more], more _ (Int.fmod_nonneg_of_pos _ (by omega)) (Int.fmod_lt_of_pos _ (by omega))⟩
    · rintro σ H' ⟨left, ns, v6, v7, rfl, hl, sm, ho, hd⟩
      have e : (((sz.map V.int).length : Nat) : Int).toNat = sz.length := by
        rw [List.length_map]
        omega
      rw [e, List.take_length] at hd
      exact ⟨_, rfl, q H' o ns sm no ho hd⟩
end

end Rw

/-! R14 -/
/-! ### what the law draws -/
namespace Rw
open PySem PySem.Spec PyProof.Rows L2
/-- the pool at o -/
def PoolAt (H : Hp) (o q : Addr) : Prop := ∃ (at_ : Nat) (ns : List Int), H o = some (.lst [.ref q, .int (at_ : Nat)]) ∧ q ≠ o ∧ H q = some (.lst (ns.map V.int)) ∧ ns.length ≤ 1000 ∧ ∀ n ∈ ns, 0 ≤ n ∧ n < 1000
theorem PoolAt.same {H H' : Hp} {o q : Addr} (e : Same H H') (h : PoolAt H o q) : PoolAt H' o q := let ⟨a, ns, h1, h2, h3, h4⟩ := h; ⟨a, ns, e _ _ h1, h2, e _ _ h3, h4⟩
def spPool (K : PySem.W.Frag) : Sp := fun vs H Q _ => ∃ (cell salt many : Int), vs = [.int cell, .int salt, .int many] ∧ 0 ≤ salt ∧ salt ≤ 1000000 ∧ 0 ≤ many ∧ many ≤ 400 ∧ ∀ H' o q, Same H H' → H o = none → PoolAt H' o q → Q (.ref o) H'
def spDraw (K : PySem.W.Frag) : Sp := fun vs H Q _ => ∃ (o q : Addr) (many : Int), vs = [.ref o, .int many] ∧ PoolAt H o q ∧ 1 ≤ many ∧ many ≤ 1000 ∧ ∀ H' n, SameBut o H H' → PoolAt H' o q → 0 ≤ n → n < many → Q (.int n) H'
def spPick (K : PySem.W.Frag) : Sp := fun vs H Q _ => ∃ (o q l : Addr) (xs : List V), vs = [.ref o, .ref l] ∧ PoolAt H o q ∧ l ≠ o ∧ SqL K H l xs ∧ xs ≠ [] ∧ xs.length ≤ 1000 ∧ ∀ H' x, SameBut o H H' → PoolAt H' o q → x ∈ xs → Q x H'
def spTruth (K : PySem.W.Frag) : Sp := fun vs H Q _ => ∃ a b : Bool, vs = [.bl a, .bl b] ∧ ∀ H', Same H H' → Q (.bl (decide (a = b))) H'
theorem sqL_but {K : PySem.W.Frag} {H H' : Hp} {x a : Addr} {xs : List V} (b : SameBut x H H') (n : a ≠ x) (h : SqL K H a xs) : SqL K H' a xs := by
  rcases h with (h | ⟨ob, h⟩) | h
  · exact .inl (.inl (b _ _ n h))
  · exact .inl (.inr ⟨ob, b _ _ n h⟩)
  · exact .inr h
section
variable {P : Program} {w : World} {K : PySem.W.Frag} {mg : Str → Option Value} {base : Heap}
abbrev sPool : Stmt := top 25
theorem scPool : FnScope ["_law_cell", "_law_salt", "_law_many"] ["_law_cell", "_law_salt", "_law_many"] (defScope sPool) := ⟨rfl, rfl, rfl, by decide +kernel, rfl, by decide +kernel, by decide +kernel⟩
theorem ok_pool {f fN : Addr} {fd fdN : FuncData} (F : Fun K "_law_pool" "_law_pool" sPool f fd) (GN : FnOk P w K mg base CX0 1 fN fdN ["_law_cell", "_law_salt", "_law_sizes"] (spNum K)) (TN : Called K mg "_law_numbers" ["_law_cell", "_law_salt", "_law_sizes"] fN fdN) :
    FnOk P w K mg base CX0 2 f fd ["_law_cell", "_law_salt", "_law_many"] (spPool K) := by
  refine F.ok scPool (fun vs H Q E h => ?_) (fun cdv A outer s H vs Q E hr h => ?_)
  · obtain ⟨cell, salt, many, rfl, _⟩ := h
    rfl
  · obtain ⟨cell, salt, many, rfl, h1, h2, h3, h4, q⟩ := h
    refine ⟨_, (pss_one (ps_ret (pe_lst (pa_cons (pe_call GN (hr.mono (by decide)) rfl TN.1 TN.2.1 TN.2.2 .nil pass0 (pa_cons (pv 0) (pa_cons (pv 1) (pa_cons (pe_op op_rep (pe_lst (pa_cons pe_int pa_nil)) (pv 2)) pa_nil)))) (pa_cons pe_int pa_nil))))), ?_⟩
    refine ⟨_, rfl, _, rfl, by show 1 ≤ sizeLine; decide, fun z nz => ?_⟩
    have s1 := same_upd (o := HO.lst [V.int 420]) nz
    refine ⟨_, rfl, z, many, _, rfl, rfl, upd_same, by omega, by omega, ?_, fun y ny => ?_⟩
    · rw [sizeLine_eq]
      show 1 * many.toNat ≤ _
      omega
    have e0 : (List.replicate many.toNat [V.int 420]).flatten = (List.replicate many.toNat (420 : Int)).map V.int := by
      rw [List.map_replicate]
      induction many.toNat with
      | zero => rfl
      | succ n ih => rw [List.replicate_succ, List.replicate_succ, List.flatten_cons, ih]; rfl
    rw [e0]
    have s2 := same_upd (o := HO.lst ((List.replicate many.toNat (420 : Int)).map V.int)) ny
    refine ⟨cell, salt, y, _, rfl, SqL.of upd_same, by rw [List.length_replicate]; omega, fun n hn => ?_, h1, h2, fun H' p ns s3 _ hp dr => ?_⟩
    · rw [List.eq_of_mem_replicate hn]
      exact ⟨by decide, by decide⟩
    refine ⟨by show 2 ≤ sizeLine; decide, fun o no => ?_⟩
    have s4 := same_upd (o := HO.lst [V.ref p, V.int 0]) no
    have st := ((s1.trans s2).trans s3)
    have np : p ≠ o := ne_of_none hp no
    refine q _ o p (st.trans s4) (st.free no) ⟨0, ns, upd_same, np, s4 _ _ hp, ?_, fun n hn => ?_⟩
    · rw [dr.1, List.length_replicate]
      omega
    · obtain ⟨i, hi⟩ := List.getElem?_of_mem hn
      have hi2 : i < ns.length := (List.getElem?_eq_some_iff.mp hi).1
      have hi3 : i < (List.replicate many.toNat (420 : Int)).length := by rw [← dr.1]; exact hi2
      obtain ⟨x, x1, x2, x3⟩ := dr.2 i 420 (by rw [List.getElem?_eq_getElem hi3, List.getElem_replicate])
      rw [hi] at x1
      cases x1
      exact ⟨x2, by omega⟩
abbrev sDraw : Stmt := top 26
theorem scDraw : FnScope ["_law_pool_here", "_law_many", "_law_at"] ["_law_pool_here", "_law_many"] (defScope sDraw) := ⟨rfl, rfl, rfl, by decide +kernel, rfl, by decide +kernel, by decide +kernel⟩
theorem ok_draw {f : Addr} {fd : FuncData} (F : Fun K "_law_draw" "_law_draw" sDraw f fd) (m_len : mg "len" = none) (m_int : mg "int" = none) : FnOk P w K mg base CX0 1 f fd ["_law_pool_here", "_law_many"] (spDraw K) := by
  refine F.ok scDraw (fun vs H Q E h => ?_) (fun cdv A outer s H vs Q E hr h => ?_)
  · obtain ⟨o, q, many, rfl, _⟩ := h
    rfl
  · obtain ⟨o, p, many, rfl, ⟨at_, ns, ho, np, hp, hl, hn⟩, m1, m2, q⟩ := h
    refine ⟨_, (pss_cons (ps_set (i := 2) scDraw.nd rfl (.inl rfl) (pe_ix ix_list (pv 0) pe_int (fun _ _ => rfl)))
       (pss_cons (ps_asg (pe_op op_add (pv 2) pe_int) (pg_sub (pv 0) pe_int set_list))
       (pss_one (ps_ret (pe_ifExp (pt_cmpR op_lt (pv 2) (pe_callB call_len_seq (by rfl) m_len PySem.boot_len (pa_cons (pe_ix ix_list (pv 0) pe_int (fun _ _ => rfl)) pa_nil)) (nomark _))
       (pe_op op_modN (pe_callTy call_int1 (by rfl) m_int (by decide +kernel) (pa_cons (pe_ix ix_list (pe_ix ix_list (pv 0) pe_int (fun _ _ => rfl)) (pv 2) (fun _ _ => rfl)) pa_nil)) (pv 1))
       pe_int))))), ?_⟩
    refine ⟨_, rfl, o, _, _, _, rfl, rfl, SqL.of ho, rfl, ?_⟩
    refine ⟨_, rfl, _, _, rfl, rfl, _, rfl, o, _, 1, 1, rfl, rfl, ho, rfl, ?_⟩
    have e1 : (upd H o (.lst ([V.ref p, V.int (at_ : Nat)].set 1 (.int ((at_ : Int) + 1))))) o = some (.lst [.ref p, .int ((at_ + 1 : Nat) : Int)]) := upd_same
    have b1 : SameBut o H (upd H o (.lst ([V.ref p, V.int (at_ : Nat)].set 1 (.int ((at_ : Int) + 1))))) := but_upd
    generalize upd H o (.lst ([V.ref p, V.int (at_ : Nat)].set 1 (.int ((at_ : Int) + 1)))) = H1 at e1 b1
    have hp1 := b1 _ _ np hp
    have P1 : PoolAt H1 o p := ⟨at_ + 1, ns, e1, np, hp1, hl, hn⟩
    refine ⟨_, rfl, _, rfl, o, _, _, _, rfl, rfl, SqL.of e1, rfl, p, _, rfl, .inl (SqL.of hp1), _, _, rfl, rfl, _, rfl, ?_⟩
    by_cases h : ((at_ : Nat) : Int) < ((ns.map V.int).length : Nat)
    · rw [decide_eq_true h]
      refine iteT ?_
      rw [List.length_map] at h
      have hi : at_ < ns.length := by omega
      have hx : (ns.map V.int)[at_]? = some (V.int ns[at_]) := by rw [List.getElem?_map, List.getElem?_eq_getElem hi]; rfl
      refine ⟨_, rfl, o, _, _, _, rfl, rfl, SqL.of e1, rfl, _, rfl, p, _, _, _, rfl, rfl, SqL.of hp1, atI_nat hx, ?_⟩
      refine .inl ⟨_, rfl, _, rfl, _, _, rfl, rfl, by omega, ?_⟩
      exact q H1 _ b1 P1 (Int.fmod_nonneg_of_pos _ (by omega)) (Int.fmod_lt_of_pos _ (by omega))
    · rw [decide_eq_false h]
      exact iteF (q H1 0 b1 P1 (Int.le_refl _) (by omega))
abbrev sPick : Stmt := top 27
theorem scPick : FnScope ["_law_pool_here", "_law_some"] ["_law_pool_here", "_law_some"] (defScope sPick) := ⟨rfl, rfl, rfl, by decide +kernel, rfl, by decide +kernel, by decide +kernel⟩
theorem ok_pick {f fD : Addr} {fd fdD : FuncData} (F : Fun K "_law_pick" "_law_pick" sPick f fd) (GD : FnOk P w K mg base CX0 1 fD fdD ["_law_pool_here", "_law_many"] (spDraw K)) (TD : Called K mg "_law_draw" ["_law_pool_here", "_law_many"] fD fdD) (m_len : mg "len" = none) : FnOk P w K mg base CX0 2 f fd ["_law_pool_here", "_law_some"] (spPick K) := by
  refine F.ok scPick (fun vs H Q E h => ?_) (fun cdv A outer s H vs Q E hr h => ?_)
  · obtain ⟨o, q, l, xs, rfl, _⟩ := h
    rfl
  · obtain ⟨o, pq, l, xs, rfl, hp, n, hx, ne, hz, q⟩ := h
    refine ⟨_, (pss_one (ps_ret (pe_ix ix_list (pv 1) (pe_call GD (hr.mono (by decide)) rfl TD.1 TD.2.1 TD.2.2 .nil pass0 (pa_cons (pv 0) (pa_cons (pe_callB call_len_seq (by rfl) m_len PySem.boot_len (pa_cons (pv 1) pa_nil)) pa_nil))) (fun _ _ => rfl)))), ?_⟩
    have hpos : 0 < xs.length := List.length_pos_iff.mpr ne
    refine ⟨_, rfl, _, rfl, _, rfl, l, xs, rfl, .inl hx, o, pq, _, rfl, hp, by omega, by omega, fun H' i b hp' i0 i1 => ?_⟩
    have hi : i.toNat < xs.length := by omega
    refine ⟨l, xs, i, xs[i.toNat], rfl, rfl, sqL_but b n hx, ?_, q H' _ b hp' (List.getElem_mem hi)⟩
    have e : i = ((i.toNat : Nat) : Int) := by omega
    have z := atI_nat (xs := xs) (List.getElem?_eq_getElem hi)
    rw [← e] at z
    exact z
abbrev sTruth : Stmt := top 28
theorem scTruth : FnScope ["_law_found", "_law_due_here"] ["_law_found", "_law_due_here"] (defScope sTruth) := ⟨rfl, rfl, rfl, by decide +kernel, rfl, by decide +kernel, by decide +kernel⟩
theorem ok_truth {f : Addr} {fd : FuncData} (F : Fun K "_law_truth" "_law_truth" sTruth f fd) (m_isinstance : mg "isinstance" = none) (m_bool : mg "bool" = none) : FnOk P w K mg base CX0 1 f fd ["_law_found", "_law_due_here"] (spTruth K) := by
  refine F.ok scTruth (fun vs H Q E h => ?_) (fun cdv A outer s H vs Q E hr h => ?_)
  · obtain ⟨a, b, rfl, _⟩ := h
    rfl
  · obtain ⟨a, b, rfl, q⟩ := h
    refine ⟨_, (pss_one (ps_ret (pe_and (pe_callB call_isi (by rfl) m_isinstance (by decide +kernel) (pa_cons (pv 0) (pa_cons (pe_bltn (v := .ty "bool") (by rfl) m_bool (by decide +kernel) rfl) pa_nil))) (pe_one (pe_cmpR op_eq (pv 0) (pv 1) (nomark _)))))), ?_⟩
    have kt : PySem.W.kitOne K (.type "bool") (.type "bool") = some true := kit_ty (by decide +kernel)
    refine ⟨_, rfl, _, _, _, _, _, rfl, .ty _, .base (.bl a), kt, _, rfl, iteT ?_⟩
    refine ⟨_, rfl, _, rfl, rfl, ?_⟩
    have e : decide (V.bl a = V.bl b) = decide (a = b) := by
      by_cases h : a = b
      · rw [h, decide_eq_true rfl, decide_eq_true rfl]
      · rw [decide_eq_false h, decide_eq_false (fun e => h (V.bl.inj e))]
    rw [e]
    exact q H (Same.refl H)
end
end Rw

/-! R15 -/
/-! ### the law's own look at a step -/
namespace Rw
open PySem PySem.Spec PyProof.Rows L2
def W10 : List Str := ["cancel", "bar", "halt", "settle", "close", "drain", "set", "clear", "take", "give"]
/-- any value beside a word, and whether it is a name -/
inductive FN (K : PySem.W.Frag) (H : Hp) : V → Bool → Prop
  | str (z : Str) : z.length ≤ 1000 → sOk z → FN K H (.str z) (nameB z)
  | other {v : V} {T : String} : TyX K H v (.type T) → T ∈ oddTys → FN K H v false
theorem FN.nv {K : PySem.W.Frag} {H : Hp} {v : V} {b : Bool} (h : FN K H v b) : NV K H v b := by
  cases h with
  | str z a b => exact .str z (by omega)
  | other a b => exact .other a b
theorem FN.same {K : PySem.W.Frag} {H H' : Hp} (e : Same H H') {v : V} {b : Bool} (h : FN K H v b) : FN K H' v b := by
  cases h with
  | str z a b => exact .str z a b
  | other a b => exact .other (TyX_same e a) b
/-- any value that the law draws, and the step that it is -/
inductive FV (K : PySem.W.Frag) (d : Addr) (H : Hp) : V → Option Step → Prop
  | good {p : Addr} {w n : Str} : SqT K H p [.str w, .str n] → w ∈ W10 → n.length ≤ 1000 → sOk n → nameB n = true → FV K d H (.ref p) (some (w, n))
  | name {p : Addr} {w : Str} {b : V} : SqT K H p [.str w, b] → w ∈ W10 → FN K H b false → FV K d H (.ref p) none
  | word {p : Addr} {w : Str} {b : V} : SqT K H p [.str w, b] → w ∉ W10 → PySem.W.nsIn K d w = some none → FV K d H (.ref p) none
  | first {p : Addr} {a b : V} {T : String} : SqT K H p [a, b] → TyX K H a (.type T) → T ∈ oddTys → flatV a = true → inV a (W10.map V.str) = false → FV K d H (.ref p) none
  | len {p : Addr} {xs : List V} : SqT K H p xs → xs.length ≠ 2 → FV K d H (.ref p) none
  | other {v : V} {T : String} : TyX K H v (.type T) → T ∈ noTup → FV K d H v none
theorem FV.same {K : PySem.W.Frag} {d : Addr} {H H' : Hp} (e : Same H H') {v : V} {r : Option Step} (h : FV K d H v r) : FV K d H' v r := by
  cases h with
  | good a b c f g => exact .good (e.tupS a) b c f g
  | name a b c => exact .name (e.tupS a) b (c.same e)
  | word a b c => exact .word (e.tupS a) b c
  | first a b c f g => exact .first (e.tupS a) (TyX_same e b) c f g
  | len a b => exact .len (e.tupS a) b
  | other a b => exact .other (TyX_same e a) b
theorem w10_good : ∀ w ∈ W10, plainW w ∧ sOk w := by
  intro w h
  simp only [W10, List.mem_cons, List.mem_nil_iff, or_false] at h
  rcases h with rfl | rfl | rfl | rfl | rfl | rfl | rfl | rfl | rfl | rfl <;> exact ⟨⟨by decide +kernel, by decide +kernel, by decide +kernel⟩, by decide +kernel⟩
theorem FV.svg {K : PySem.W.Frag} {d : Addr} {H : Hp} (hW : ∀ w ∈ W10, ∃ u, PySem.W.nsIn K d w = some (some u)) {v : V} {r : Option Step} (h : FV K d H v r) : SVG K d H v r := by
  cases h with
  | good a b c f g =>
    obtain ⟨u, hu⟩ := hW _ b
    exact ⟨.good a hu (by omega) g, fun s e => by cases e; exact ⟨(w10_good _ b).1, (w10_good _ b).2, f⟩⟩
  | name a b c =>
    obtain ⟨u, hu⟩ := hW _ b
    exact ⟨.name a hu c.nv, fun s e => nomatch e⟩
  | word a b c => exact ⟨.word a c, fun s e => nomatch e⟩
  | first a b c f g => exact ⟨.first a b c, fun s e => nomatch e⟩
  | len a b => exact ⟨.len a b, fun s e => nomatch e⟩
  | other a b => exact ⟨.other a b, fun s e => nomatch e⟩
theorem az_list : (("abcdefghijklmnopqrstuvwxyz" : Str).cps.toList : List Nat) = List.range' 97 26 := by decide +kernel
theorem lt1 (a b : Nat) : ([a] < [b]) ↔ a < b := by
  constructor
  · intro h
    rcases List.cons_lt_cons_iff.mp h with h | ⟨_, h⟩
    · exact h
    · exact absurd h (List.lt_irrefl _)
  · intro h
    exact List.cons_lt_cons_iff.mpr (.inl h)
theorem letB_az (c : Nat) : letB c = decide (c ∈ (("abcdefghijklmnopqrstuvwxyz" : Str).cps.toList : List Nat)) := by
  rw [az_list]
  unfold letB
  by_cases h1 : c < 97
  · rw [decide_eq_true ((lt1 c 97).mpr h1), if_neg (by decide), decide_eq_false]
    rw [List.mem_range'_1]
    omega
  · rw [decide_eq_false (fun e => h1 ((lt1 c 97).mp e)), if_pos (by rfl)]
    by_cases h2 : 122 < c
    · rw [decide_eq_true ((lt1 122 c).mpr h2), decide_eq_false]
      · rfl
      · rw [List.mem_range'_1]
        omega
    · rw [decide_eq_false (fun e => h2 ((lt1 122 c).mp e)), decide_eq_true]
      · rfl
      · rw [List.mem_range'_1]
        omega
/-- the signs that are no letters -/
def oddS (cs : List Nat) : List Str := (cs.filter fun c => !letB c).map fun c => ⟨#[c]⟩
theorem oddS_nil (cs : List Nat) : decide (oddS cs = []) = (cs.map letB).all id := by
  unfold oddS
  induction cs with
  | nil => rfl
  | cons c cs ih =>
    rw [List.map_cons, List.all_cons, ← ih, List.filter_cons]
    cases h : letB c with
    | true => rfl
    | false =>
      show decide ((c :: cs.filter _).map _ = []) = (false && _)
      rw [Bool.false_and, decide_eq_false]
      rw [List.map_cons]
      exact List.cons_ne_nil _ _
theorem oddS_snoc (cs : List Nat) (c : Nat) : oddS (cs ++ [c]) = if letB c = true then oddS cs else oddS cs ++ [⟨#[c]⟩] := by
  unfold oddS
  rw [List.filter_append, List.map_append]
  cases h : letB c with
  | true =>
    rw [if_pos rfl]
    have e : [c].filter (fun c => !letB c) = [] := by
      rw [List.filter_cons, h]
      rfl
    rw [e, List.map_nil, List.append_nil]
  | false =>
    rw [if_neg Bool.false_ne_true]
    have e : [c].filter (fun c => !letB c) = [c] := by
      rw [List.filter_cons, h]
      rfl
    rw [e]
    rfl
theorem oddS_len (cs : List Nat) : (oddS cs).length ≤ cs.length := by
  unfold oddS
  rw [List.length_map]
  exact List.length_filter_le _ _
theorem sOk_at {z : Str} (h : sOk z) : ∀ c ∈ z.cps.toList, c < 0x110000 := by
  intro c hc
  have h1 : z.cps.all (fun x => decide (x < 0x110000)) = true := h
  rw [← Array.all_toList] at h1
  exact of_decide_eq_true (List.all_eq_true.mp h1 c hc)
theorem sOk_one {c : Nat} (h : c < 0x110000) : sOk ⟨#[c]⟩ := by
  show (#[c] : Array Nat).all (fun x => decide (x < 0x110000)) = true
  rw [← Array.all_toList]
  exact List.all_eq_true.mpr fun x hx => by
    rcases List.mem_cons.mp hx with rfl | hx
    · exact decide_eq_true h
    · cases hx
theorem oddS_ok {z : Str} (h : sOk z) : ∀ n ∈ oddS z.cps.toList, sOk n := by
  intro n hn
  obtain ⟨c, hc, rfl⟩ := List.mem_map.mp hn
  exact sOk_one (sOk_at h c (List.mem_filter.mp hc).1)
theorem listD_shaped {ns : List Str} (h : ∀ n ∈ ns, sOk n) : SeqAt.shaped (.list (ns.map PyData.str)) = true := by
  obtain ⟨a, b⟩ := txt_lay ns h
  refine shaped_of (by simp only [PyData.canLay0]; exact a) ?_
  simp only [PyData.depth]
  omega
def spFine (K : PySem.W.Frag) (d : Addr) : Sp := fun vs H Q _ => ∃ (v : V) (r : Option Step), vs = [v] ∧ FV K d H v r ∧ ∀ H', Same H H' → Q (.bl r.isSome) H'
theorem W10_map : W10.map V.str = [V.str "cancel", V.str "bar", V.str "halt", V.str "settle", V.str "close", V.str "drain", V.str "set", V.str "clear", V.str "take", V.str "give"] := rfl
section
variable {P : Program} {w : World} {K : PySem.W.Frag} {mg : Str → Option Value} {base : Heap}
abbrev sFine : Stmt := top 29
theorem scFine : FnScope ["_law_thing", "_law_words", "_law_odd", "_law_sign"] ["_law_thing"] (defScope sFine) := ⟨rfl, rfl, rfl, by decide +kernel, rfl, by decide +kernel, by decide +kernel⟩
theorem ok_fine {f d : Addr} {fd : FuncData} (F : Fun K "_law_fine" "_law_fine" sFine f fd) (m_isinstance : mg "isinstance" = none) (m_tuple : mg "tuple" = none) (m_str : mg "str" = none) (m_len : mg "len" = none) : FnOk P w K mg base CX0 1 f fd ["_law_thing"] (spFine K d) := by
  refine F.ok scFine (fun vs H Q E h => ?_) (fun cdv A outer s H vs Q E hr h => ?_)
  · obtain ⟨v, r, rfl, _⟩ := h
    rfl
  · obtain ⟨v, r, rfl, hv, q⟩ := h
    refine ⟨_, (pss_cons (ps_set (i := 1) scFine.nd rfl (.inl rfl) (pe_lst (pa_cons pe_str (pa_cons pe_str (pa_cons pe_str (pa_cons pe_str (pa_cons pe_str (pa_cons pe_str (pa_cons pe_str (pa_cons pe_str (pa_cons pe_str (pa_cons pe_str pa_nil))))))))))))
       (pss_cons (ps_if (PW.pt (pw_or (pt_not (pt_val (pe_callB call_isi (by rfl) m_isinstance (by decide +kernel) (pa_cons (pv 0) (pa_cons (pe_bltn (v := .ty "tuple") (by rfl) m_tuple (by decide +kernel) rfl) pa_nil))))) (pw_or (pt_cmpR op_ne (pe_callB call_len_seq (by rfl) m_len PySem.boot_len (pa_cons (pv 0) pa_nil)) pe_int (nomark _)) (pw_or (pt_cmpR op_notIn_seq (pe_ix ix_tup (pv 0) pe_int (fun _ _ => rfl)) (pv 1) (by rfl)) (pw_or1 (pt_not (pt_val (pe_callB call_isi (by rfl) m_isinstance (by decide +kernel) (pa_cons (pe_ix ix_tup (pv 0) pe_int (fun _ _ => rfl)) (pa_cons (pe_bltn (v := .ty "str") (by rfl) m_str (by decide +kernel) rfl) pa_nil))))))))))
       (pss_one (ps_ret pe_bl))
       pss_nil)
       (pss_cons (ps_setLc (i := 2) (own := [("_law_sign", 3)]) (g := gName 3) (by rfl) scFine.nd rfl rfl (sw_true rfl rfl rfl (by decide +kernel)) (pi_str (pe_ix ix_tup (pv 0) pe_int (fun _ _ => rfl))) (blkOk_by (own := [("_law_sign", 3)]) (N := ["_law_thing", "_law_words", "_law_odd", "_law_sign"]) (sc := defScope sFine) (by decide +kernel)) (fun _ _ _ _ _ => pg_name (i := 3) scFine.nd rfl (Or.inl rfl)) (fun _ _ _ _ _ => pts_one (pt_cmpR op_notIn_sign (pv 3) pe_str (by rfl))) (fun _ _ _ _ _ => (pv 3)))
       (pss_one (ps_ret (pe_and (pe_cmpR (op_eqD hr.units) (pv 2) (pe_lst pa_nil) (nomark _)) (pe_one (pe_chain op_le op_le pe_int (pe_callB call_len_str (by rfl) m_len PySem.boot_len (pa_cons (pe_ix ix_tup (pv 0) pe_int (fun _ _ => rfl)) pa_nil)) pe_int)))))))), ?_⟩
    have tup : PySem.W.kitOne K (.type "tuple") (.type "tuple") = some true := kit_ty (by decide +kernel)
    have str1 : PySem.W.kitOne K (.type "str") (.type "str") = some true := kit_ty (by decide +kernel)
    refine ⟨by show 10 ≤ sizeLine; decide, fun lw nlw => ?_⟩
    have sw := same_upd (o := HO.lst (W10.map V.str)) nlw
    have ew : (upd H lw (.lst (W10.map V.str))) lw = some (.lst (W10.map V.str)) := upd_same
    rw [← W10_map]
    have hv1 := hv.same sw
    generalize upd H lw (.lst (W10.map V.str)) = H1 at sw ew hv1
    cases hv1 with
    | @other _ T ty hT =>
      have kt : PySem.W.kitOne K (.type T) (.type "tuple") = some false := by
        simp only [noTup, List.mem_cons, List.mem_nil_iff, or_false] at hT
        rcases hT with rfl | rfl | rfl | rfl | rfl | rfl <;> exact kit_ty (by decide +kernel)
      exact ⟨_, rfl, _, _, _, _, _, rfl, .ty _, ty, kt, _, rfl, iteT (iteT (q H1 sw))⟩
    | @len p xs hs hl =>
      refine ⟨_, rfl, _, _, _, _, _, rfl, .ty _, tyx_tup hs, tup, _, rfl, iteF ?_⟩
      refine ⟨_, rfl, p, xs, rfl, .inr hs, rfl, _, rfl, ?_⟩
      have e : (!decide (V.int (xs.length : Nat) = V.int 2)) = true := by
        rw [decide_eq_false]
        · rfl
        · intro z
          have z2 := V.int.inj z
          omega
      rw [e]
      exact iteT (iteT (q H1 sw))
    | @first p a b T hs ty hT fl ni =>
      refine ⟨_, rfl, _, _, _, _, _, rfl, .ty _, tyx_tup hs, tup, _, rfl, iteF ?_⟩
      refine ⟨_, rfl, p, _, rfl, .inr hs, rfl, _, rfl, iteF ?_⟩
      refine ⟨_, rfl, p, _, _, _, rfl, rfl, hs, rfl, _, rfl, lw, _, rfl, .inl (SqL.of ew), fl, flat_txt _, _, rfl, ?_⟩
      show if (!inV a (W10.map V.str)) = true then _ else _
      rw [ni]
      exact iteT (iteT (q H1 sw))
    | @word p wd b hs nw hw =>
      refine ⟨_, rfl, _, _, _, _, _, rfl, .ty _, tyx_tup hs, tup, _, rfl, iteF ?_⟩
      refine ⟨_, rfl, p, _, rfl, .inr hs, rfl, _, rfl, iteF ?_⟩
      refine ⟨_, rfl, p, _, _, _, rfl, rfl, hs, rfl, _, rfl, lw, _, rfl, .inl (SqL.of ew), rfl, flat_txt _, _, rfl, ?_⟩
      show if (!inV (.str wd) (W10.map V.str)) = true then _ else _
      rw [inV_txt, decide_eq_false nw]
      exact iteT (iteT (q H1 sw))
    | @name p wd b hs nw hb =>
      refine ⟨_, rfl, _, _, _, _, _, rfl, .ty _, tyx_tup hs, tup, _, rfl, iteF ?_⟩
      refine ⟨_, rfl, p, _, rfl, .inr hs, rfl, _, rfl, iteF ?_⟩
      refine ⟨_, rfl, p, _, _, _, rfl, rfl, hs, rfl, _, rfl, lw, _, rfl, .inl (SqL.of ew), rfl, flat_txt _, _, rfl, ?_⟩
      show if (!inV (.str wd) (W10.map V.str)) = true then _ else _
      rw [inV_txt, decide_eq_true nw]
      refine iteF ?_
      generalize hf : false = b0 at hb
      cases hb with
      | @other _ T ty hT =>
        have kt : PySem.W.kitOne K (.type T) (.type "str") = some false := by
          simp only [oddTys, List.mem_cons, List.mem_nil_iff, or_false] at hT
          rcases hT with rfl | rfl | rfl | rfl | rfl | rfl <;> exact kit_ty (by decide +kernel)
        exact ⟨_, rfl, p, _, _, _, rfl, rfl, hs, rfl, _, _, _, _, _, rfl, .ty _, ty, kt, _, rfl, iteT (q H1 sw)⟩
      | str nm hl so =>
        refine ⟨_, rfl, p, _, _, _, rfl, rfl, hs, rfl, _, _, _, _, _, rfl, .ty _, .base (.str nm), str1, _, rfl, iteF ?_⟩
        refine ⟨_, rfl, p, _, _, _, rfl, rfl, hs, rfl, nm, rfl, fun D nD => lc_text (fun i H' => Same H1 H' ∧ H' D = some (.lst ((oddS (nm.cps.toList.take i)).map V.str))) ⟨same_upd nD, upd_same⟩ ?_ ?_⟩
        · rintro i c H2 hc ⟨s1, e1⟩
          have hi : i < nm.cps.size := (Array.getElem?_eq_some_iff.mp hc).1
          have e3 : nm.cps.toList[i]? = some c := by rw [Array.getElem?_toList]; exact hc
          have zl : nm.length = nm.cps.size := rfl
          refine ⟨rfl, _, rfl, c, _, rfl, rfl, _, rfl, ?_⟩
          rw [← letB_az]
          have on := oddS_snoc (nm.cps.toList.take i) c
          rw [← take_snoc e3] at on
          cases hb : letB c with
          | true =>
            rw [hb, if_pos rfl] at on
            refine iteF ?_
            rw [on]
            exact ⟨s1, e1⟩
          | false =>
            rw [hb, if_neg Bool.false_ne_true] at on
            refine iteT ⟨_, rfl, _, e1, ?_, same_updN nD s1, ?_⟩
            · have z1 := oddS_len (nm.cps.toList.take i)
              rw [List.length_take] at z1
              rw [List.length_map, sizeLine_eq]
              omega
            · rw [upd_same, on, List.map_append]
              rfl
        · rintro H2 ⟨s1, e1⟩
          rw [← Array.length_toList, List.take_length] at e1
          have zl : nm.length = nm.cps.size := rfl
          refine ⟨_, rfl, Nat.zero_le _, fun t nt => ?_⟩
          have s2 := same_upd (o := HO.lst []) nt
          refine ⟨.list ((oddS nm.cps.toList).map PyData.str), .list (([] : List Str).map PyData.str), .lst (SqL.of (s2 _ _ e1)) (dp_txts _), .lst (SqL.of upd_same) .nil, listD_shaped (oddS_ok so), listD_shaped (fun n hn => nomatch hn), ?_⟩
          have ev : PyData.eqv (.list ((oddS nm.cps.toList).map PyData.str)) (.list (([] : List Str).map PyData.str)) = (nm.cps.toList.map letB).all id := by
            rw [show PyData.eqv (.list ((oddS nm.cps.toList).map PyData.str)) (.list (([] : List Str).map PyData.str)) = PyData.eqvAll ((oddS nm.cps.toList).map PyData.str) (([] : List Str).map PyData.str) by simp only [PyData.eqv], eqvAll_txt, oddS_nil]
          rw [ev]
          have q2 := q _ ((sw.trans s1).trans s2)
          rw [show (none : Option Step).isSome = nameB nm from hf] at q2
          have hs2 := (s1.trans s2).tupS hs
          unfold nameB at q2
          refine ⟨_, rfl, ?_⟩
          cases ha : (nm.cps.toList.map letB).all id with
          | false =>
            rw [ha, Bool.and_false] at q2
            exact iteF q2
          | true =>
            rw [ha, Bool.and_true] at q2
            refine iteT ?_
            refine ⟨_, rfl, p, _, _, _, rfl, rfl, hs2, rfl, nm, rfl, by rw [sizeLine_eq]; omega, ?_⟩
            refine ⟨_, _, rfl, rfl, _, rfl, ?_⟩
            by_cases h1 : (1 : Int) ≤ (nm.length : Int)
            · rw [decide_eq_true h1]
              refine iteT ⟨_, _, rfl, rfl, ?_⟩
              have e1 : decide (1 ≤ nm.length) = true := decide_eq_true (by omega)
              have e2 : decide (nm.length ≤ 8) = decide ((nm.length : Int) ≤ 8) := by
                by_cases h2 : nm.length ≤ 8
                · rw [decide_eq_true h2, decide_eq_true (by omega)]
                · rw [decide_eq_false h2, decide_eq_false (by omega)]
              rw [e1, Bool.true_and, e2] at q2
              exact q2
            · rw [decide_eq_false h1]
              have e1 : decide (1 ≤ nm.length) = false := decide_eq_false (by omega)
              rw [e1, Bool.false_and] at q2
              exact iteF q2
    | @good p wd nm hs nw hl so hb =>
      refine ⟨_, rfl, _, _, _, _, _, rfl, .ty _, tyx_tup hs, tup, _, rfl, iteF ?_⟩
      refine ⟨_, rfl, p, _, rfl, .inr hs, rfl, _, rfl, iteF ?_⟩
      refine ⟨_, rfl, p, _, _, _, rfl, rfl, hs, rfl, _, rfl, lw, _, rfl, .inl (SqL.of ew), rfl, flat_txt _, _, rfl, ?_⟩
      show if (!inV (.str wd) (W10.map V.str)) = true then _ else _
      rw [inV_txt, decide_eq_true nw]
      refine iteF ?_
      refine ⟨_, rfl, p, _, _, _, rfl, rfl, hs, rfl, _, _, _, _, _, rfl, .ty _, .base (.str nm), str1, _, rfl, iteF ?_⟩
      refine ⟨_, rfl, p, _, _, _, rfl, rfl, hs, rfl, nm, rfl, fun D nD => lc_text (fun i H' => Same H1 H' ∧ H' D = some (.lst ((oddS (nm.cps.toList.take i)).map V.str))) ⟨same_upd nD, upd_same⟩ ?_ ?_⟩
      · rintro i c H2 hc ⟨s1, e1⟩
        have hi : i < nm.cps.size := (Array.getElem?_eq_some_iff.mp hc).1
        have e3 : nm.cps.toList[i]? = some c := by rw [Array.getElem?_toList]; exact hc
        have zl : nm.length = nm.cps.size := rfl
        refine ⟨rfl, _, rfl, c, _, rfl, rfl, _, rfl, ?_⟩
        rw [← letB_az]
        have on := oddS_snoc (nm.cps.toList.take i) c
        rw [← take_snoc e3] at on
        cases hb : letB c with
        | true =>
          rw [hb, if_pos rfl] at on
          refine iteF ?_
          rw [on]
          exact ⟨s1, e1⟩
        | false =>
          rw [hb, if_neg Bool.false_ne_true] at on
          refine iteT ⟨_, rfl, _, e1, ?_, same_updN nD s1, ?_⟩
          · have z1 := oddS_len (nm.cps.toList.take i)
            rw [List.length_take] at z1
            rw [List.length_map, sizeLine_eq]
            omega
          · rw [upd_same, on, List.map_append]
            rfl
      · rintro H2 ⟨s1, e1⟩
        rw [← Array.length_toList, List.take_length] at e1
        have zl : nm.length = nm.cps.size := rfl
        refine ⟨_, rfl, Nat.zero_le _, fun t nt => ?_⟩
        have s2 := same_upd (o := HO.lst []) nt
        refine ⟨.list ((oddS nm.cps.toList).map PyData.str), .list (([] : List Str).map PyData.str), .lst (SqL.of (s2 _ _ e1)) (dp_txts _), .lst (SqL.of upd_same) .nil, listD_shaped (oddS_ok so), listD_shaped (fun n hn => nomatch hn), ?_⟩
        have ev : PyData.eqv (.list ((oddS nm.cps.toList).map PyData.str)) (.list (([] : List Str).map PyData.str)) = (nm.cps.toList.map letB).all id := by
          rw [show PyData.eqv (.list ((oddS nm.cps.toList).map PyData.str)) (.list (([] : List Str).map PyData.str)) = PyData.eqvAll ((oddS nm.cps.toList).map PyData.str) (([] : List Str).map PyData.str) by simp only [PyData.eqv], eqvAll_txt, oddS_nil]
        rw [ev]
        have q2 := q _ ((sw.trans s1).trans s2)
        rw [show (some (wd, nm) : Option Step).isSome = nameB nm from hb.symm] at q2
        have hs2 := (s1.trans s2).tupS hs
        unfold nameB at q2
        refine ⟨_, rfl, ?_⟩
        cases ha : (nm.cps.toList.map letB).all id with
        | false =>
          rw [ha, Bool.and_false] at q2
          exact iteF q2
        | true =>
          rw [ha, Bool.and_true] at q2
          refine iteT ?_
          refine ⟨_, rfl, p, _, _, _, rfl, rfl, hs2, rfl, nm, rfl, by rw [sizeLine_eq]; omega, ?_⟩
          refine ⟨_, _, rfl, rfl, _, rfl, ?_⟩
          by_cases h1 : (1 : Int) ≤ (nm.length : Int)
          · rw [decide_eq_true h1]
            refine iteT ⟨_, _, rfl, rfl, ?_⟩
            have e1 : decide (1 ≤ nm.length) = true := decide_eq_true (by omega)
            have e2 : decide (nm.length ≤ 8) = decide ((nm.length : Int) ≤ 8) := by
              by_cases h2 : nm.length ≤ 8
              · rw [decide_eq_true h2, decide_eq_true (by omega)]
              · rw [decide_eq_false h2, decide_eq_false (by omega)]
            rw [e1, Bool.true_and, e2] at q2
            exact q2
          · rw [decide_eq_false h1]
            have e1 : decide (1 ≤ nm.length) = false := decide_eq_false (by omega)
            rw [e1, Bool.false_and] at q2
            exact iteF q2
end
end Rw

/-! R16 -/
/-! ### the law's own look at the locks -/
namespace Rw
open PySem PySem.Spec PyProof.Rows L2
def optV : Option Nat → V
  | none => .non
  | some i => .int (i : Nat)
def spFault (K : PySem.W.Frag) : Sp := fun vs H Q _ => ∃ (l : Addr) (xs : List V) (ss : List Step), vs = [.ref l] ∧ SqL K H l xs ∧ StepsAt K H xs ss ∧ (∀ s ∈ ss, GoodS s) ∧ ss.length ≤ 200 ∧ ∀ H', Same H H' → Q (optV ((wrongs ss [] []).findIdx? id)) H'
theorem eqv_list_txt (as bs : List Str) : PyData.eqv (.list (as.map PyData.str)) (.list (bs.map PyData.str)) = decide (as = bs) := by
  rw [show PyData.eqv (.list (as.map PyData.str)) (.list (bs.map PyData.str)) = PyData.eqvAll (as.map PyData.str) (bs.map PyData.str) by simp only [PyData.eqv]]
  exact eqvAll_txt as bs
theorem stepsL_shaped {ss : List Step} (h : ∀ s ∈ ss, GoodS s) : SeqAt.shaped (.list (ss.map stepD)) = true := by
  obtain ⟨a, b⟩ := stepsD_lay ss h
  refine shaped_of (by simp only [PyData.canLay0]; exact a) ?_
  simp only [PyData.depth]
  omega
theorem cut_tail (xs : List V) (i : Nat) (hi : i < xs.length) : cutV xs (some ((i : Int) + 1)) none = xs.drop (i + 1) := by
  have e1 : HT.sIx xs.length 0 (some ((i : Int) + 1)) = i + 1 := by
    have z := HT.sIx_nat xs.length 0 (i + 1)
    rw [show (((i + 1 : Nat) : Int)) = (i : Int) + 1 by omega] at z
    rw [z]
    omega
  show (xs.drop (HT.sIx xs.length 0 (some ((i : Int) + 1)))).take (HT.sIx xs.length xs.length none - HT.sIx xs.length 0 (some ((i : Int) + 1))) = _
  rw [e1]
  show (xs.drop (i + 1)).take (xs.length - (i + 1)) = _
  rw [List.take_of_length_le]
  rw [List.length_drop]
  exact Nat.le_refl _
section
variable {P : Program} {w : World} {K : PySem.W.Frag} {mg : Str → Option Value} {base : Heap}
abbrev sFault : Stmt := top 30
theorem scFault : FnScope ["_law_steps", "_law_own", "_law_at", "_law_word", "_law_name"] ["_law_steps"] (defScope sFault) := ⟨rfl, rfl, rfl, by decide +kernel, rfl, by decide +kernel, by decide +kernel⟩
theorem ok_fault {f : Addr} {fd : FuncData} (F : Fun K "_law_fault" "_law_fault" sFault f fd) (m_enumerate : mg "enumerate" = none) : FnOk P w K mg base CX0 1 f fd ["_law_steps"] (spFault K) := by
  refine F.ok scFault (fun vs H Q E h => ?_) (fun cdv A outer s H vs Q E hr h => ?_)
  · obtain ⟨l, xs, ss, rfl, _⟩ := h
    rfl
  · obtain ⟨l, xs, ss, rfl, hx, hss, hg, hz, q⟩ := h
    refine ⟨_, (pss_cons (ps_set (i := 1) scFault.nd rfl (.inl rfl) (pe_lst pa_nil))
       (pss_cons (ps_for PassesOwn.never rfl (pi_enum rfl m_enumerate (pa_cons (pv 0) pa_nil)) (pg_tup rfl (pgs_cons (pg_name (i := 2) scFault.nd rfl (.inl rfl)) (pgs_cons (pg_tup rfl (pgs_cons (pg_name (i := 3) scFault.nd rfl (.inl rfl)) (pgs_cons (pg_name (i := 4) scFault.nd rfl (.inl rfl)) pgs_nil))) pgs_nil)))
       (pss_cons (ps_if (PW.pt (pw_and (pt_cmpR op_eq (pv 3) pe_str (nomark _)) (pw_and1 (PW.pt (pw_or (pt_cmpR op_in_seq (pv 4) (pv 1) (by rfl)) (pw_or1 (pt_cmpR (op_notInD hr.units65) (pe_tup (pa_cons pe_str (pa_cons (pv 4) pa_nil))) (pe_slice sl_list (pv 0) (po_some (pe_op op_add (pv 2) pe_int)) po_none) (by rfl))))))))
       (pss_one (ps_ret (pv 2)))
       pss_nil)
       (pss_cons (ps_if (PW.pt (pw_and (pt_cmpR op_eq (pv 3) pe_str (nomark _)) (pw_and1 (PW.pt (pw_or (pt_cmpR (op_eqD hr.units) (pv 1) (pe_lst pa_nil) (nomark _)) (pw_or1 (pt_cmpR op_ne (pe_ix ix_list (pv 1) (pe_un un_neg pe_int) (fun _ _ => rfl)) (pv 4) (nomark _))))))))
       (pss_one (ps_ret (pv 2)))
       pss_nil)
       (pss_one (ps_set (i := 1) scFault.nd rfl (.inl rfl) (pe_ifExp (pt_cmpR op_eq (pv 3) pe_str (nomark _))
       (pe_op op_cat (pv 1) (pe_lst (pa_cons (pv 4) pa_nil)))
       (pe_ifExp (pt_cmpR op_eq (pv 3) pe_str (nomark _))
       (pe_slice sl_list (pv 1) po_none (po_some (pe_un un_neg pe_int)))
       (pv 1))))))))
       (pss_one (ps_ret pe_non)))), ?_⟩
    refine ⟨Nat.zero_le _, fun o0 no0 => ?_⟩
    have s1 := same_upd (o := HO.lst []) no0
    have len := hss.length
    refine ⟨_, rfl, l, _, rfl, s1.seq hx, for_enum (K := K) (a := l) (xs := xs)
      (fun i σ H' => ∃ (u : Addr) (v2 v3 v4 : Option V), σ = [some (.ref l), some (.ref u), v2, v3, v4] ∧ Same H H' ∧ H' u = some (.lst ((after (ss.take i) []).map V.str)) ∧ ∀ j, j < i → (wrongs ss [] [])[j]? = some false)
      ⟨o0, none, none, none, rfl, s1, upd_same, fun j hj => absurd hj (Nat.not_lt_zero j)⟩ ?_ ?_ ?_⟩
    · rintro i σ H' hi ⟨u, v2, v3, v4, rfl, sm, _⟩
      exact sm.seq hx
    · rintro i x σ H1 T1 hxi ⟨u, v2, v3, v4, rfl, sm, hu, al⟩ nT
      obtain ⟨st, hst, p, rfl, sa⟩ := hss.get hxi
      have gs := hg st (List.mem_of_getElem? hst)
      have hi : i < ss.length := (List.getElem?_eq_some_iff.mp hst).1
      have u0 := same_upd (o := .tup [.int (i : Nat), .ref p]) nT
      have e0 : (upd H1 T1 (.tup [.int (i : Nat), .ref p])) T1 = some (.tup [.int (i : Nat), .ref p]) := upd_same
      generalize upd H1 T1 (.tup [.int (i : Nat), .ref p]) = H2 at u0 e0
      have sm2 := sm.trans u0
      have hu2 := u0 _ _ hu
      have ol := after_len (ss.take i) []
      rw [List.length_take, List.length_nil] at ol
      have wg := wrongs_get ss [] [] i st hst
      have own_ok : ∀ n ∈ after (ss.take i) [], sOk n := after_ok _ _ (fun n hn => nomatch hn) fun z hz => (hg z (List.mem_of_mem_take hz)).ok2
      have nxt : after (ss.take (i + 1)) [] = behind st (after (ss.take i) []) := by rw [take_snoc hst, after_snoc]
      generalize after (ss.take i) [] = own at hu2 ol wg own_ok nxt
      have found : wrongS st (ss.drop (i + 1)) [] own = true → (wrongs ss [] []).findIdx? id = some i := fun ht => by
        rw [ht] at wg
        rw [List.findIdx?_eq_some_iff_getElem]
        obtain ⟨hi, he⟩ := List.getElem?_eq_some_iff.mp wg
        refine ⟨hi, by rw [he]; rfl, fun j hj => ?_⟩
        obtain ⟨hj2, he2⟩ := List.getElem?_eq_some_iff.mp (al j hj)
        rw [he2]
        exact Bool.false_ne_true
      have going : wrongS st (ss.drop (i + 1)) [] own = false → ∀ j, j < i + 1 → (wrongs ss [] [])[j]? = some false := fun hf j hj => by
        by_cases e : j = i
        · rw [e, wg, hf]
        · exact al j (by omega)
      refine ⟨T1, _, rfl, SqT.of e0, rfl, _, _, rfl, _, _, rfl, p, _, rfl, sm2.tupS sa, rfl, _, _, rfl, _, _, rfl, rfl, rfl, ?_⟩
      refine ⟨_, rfl, rfl, _, rfl, ?_⟩
      rw [dec_str]
      by_cases h1 : st.1 = "take"
      · have h2 : st.1 ≠ "give" := by rw [h1]; decide +kernel
        have hw : wrongS st (ss.drop (i + 1)) [] own = if st.2 ∈ own then true else !decide ((("give" : Str), st.2) ∈ ss.drop (i + 1)) := by
          unfold wrongS
          rw [if_neg h2, if_pos h1]
          rfl
        have hb : behind st own = own ++ [st.2] := if_pos h1
        rw [decide_eq_true h1]
        refine iteT ⟨_, rfl, _, rfl, u, _, rfl, .inl (SqL.of hu2), rfl, flat_txt _, _, rfl, ?_⟩
        show if inV (.str st.2) (own.map V.str) = true then _ else _
        rw [inV_txt]
        by_cases h3 : st.2 ∈ own
        · rw [decide_eq_true h3]
          have q2 := q H2 sm2
          rw [found (by rw [hw, if_pos h3])] at q2
          exact iteT (iteT ⟨_, rfl, q2⟩)
        · rw [decide_eq_false h3]
          rw [if_neg h3] at hw
          refine iteF ?_
          refine ⟨_, rfl, by show 2 ≤ sizeLine; decide, fun y ny => ?_⟩
          have s3 := same_upd (o := HO.tup [V.str "give", V.str st.2]) ny
          have hy : StepAt K (upd H2 y (.tup [V.str "give", V.str st.2])) (.ref y) (("give" : Str), st.2) := ⟨y, rfl, SqT.of upd_same⟩
          refine ⟨_, rfl, _, rfl, _, _, rfl, rfl, _, rfl, ?_⟩
          dsimp only [tNoPart]
          refine ⟨l, xs, rfl, (sm2.trans s3).seq hx, fun z nz => ?_⟩
          rw [cut_tail xs i (by omega)]
          have s4 := same_upd (o := HO.lst (xs.drop (i + 1))) nz
          have s34 := s3.trans s4
          have hz2 : SqL K (upd (upd H2 y (.tup [V.str "give", V.str st.2])) z (.lst (xs.drop (i + 1)))) z (xs.drop (i + 1)) := SqL.of upd_same
          have hy2 := hy.same s4
          generalize upd (upd H2 y (.tup [V.str "give", V.str st.2])) z (.lst (xs.drop (i + 1))) = H4 at s4 s34 hz2 hy2
          refine ⟨stepD (("give" : Str), st.2), (ss.drop (i + 1)).map stepD, hy2.dp, .lst hz2 (StepsAt.same (sm2.trans s34) (hss.drop (i + 1))).dp, txtD_shaped (give_good gs.ok2).all, stepsL_shaped (fun z hz => hg z (List.mem_of_mem_drop hz)), _, rfl, ?_⟩
          rw [any_step]
          cases h4 : (!decide ((("give" : Str), st.2) ∈ ss.drop (i + 1))) with
          | true =>
            have q2 := q H4 (sm2.trans s34)
            rw [found (by rw [hw, h4])] at q2
            exact iteT ⟨_, rfl, q2⟩
          | false =>
            refine iteF ?_
            refine ⟨_, rfl, rfl, _, rfl, ?_⟩
            rw [dec_str, decide_eq_false h2]
            refine iteF (iteF ?_)
            refine ⟨_, rfl, rfl, _, rfl, ?_⟩
            rw [dec_str, decide_eq_true h1]
            refine iteT ?_
            refine ⟨_, rfl, _, rfl, by show 1 ≤ sizeLine; decide, fun o1 no1 => ?_⟩
            have s5 := same_upd (o := HO.lst [V.str st.2]) no1
            refine ⟨u, o1, _, _, rfl, rfl, s5 _ _ (s34 _ _ hu2), upd_same, ?_, fun o2 no2 => ?_⟩
            · rw [List.length_map, sizeLine_eq]
              show own.length + 1 ≤ _
              omega
            have s6 := same_upd (o := HO.lst (own.map V.str ++ [V.str st.2])) no2
            refine ⟨o2, _, _, _, rfl, (sm2.trans s34).trans (s5.trans s6), ?_, going (by rw [hw, h4])⟩
            rw [upd_same, nxt, hb, List.map_append]
            rfl
      · rw [decide_eq_false h1]
        refine iteF (iteF ?_)
        refine ⟨_, rfl, rfl, _, rfl, ?_⟩
        rw [dec_str]
        by_cases h2 : st.1 = "give"
        · have hw : wrongS st (ss.drop (i + 1)) [] own = !decide (own.drop (own.length - 1) = [st.2]) := by
            unfold wrongS
            rw [if_pos h2]
          have hb : behind st own = own.dropLast := by
            unfold behind
            rw [if_neg h1, if_pos h2]
          rw [decide_eq_true h2]
          refine iteT ⟨_, rfl, Nat.zero_le _, fun t nt => ?_⟩
          have s3 := same_upd (o := HO.lst []) nt
          have ht : SqL K (upd H2 t (.lst [])) t [] := SqL.of upd_same
          have hu3 := s3 _ _ hu2
          generalize upd H2 t (.lst []) = H3 at s3 ht hu3
          refine ⟨.list (own.map PyData.str), .list (([] : List Str).map PyData.str), .lst (SqL.of hu3) (dp_txts _), .lst ht .nil, listD_shaped own_ok, listD_shaped (fun n hn => nomatch hn), _, rfl, ?_⟩
          rw [eqv_list_txt]
          rcases List.eq_nil_or_concat own with e | ⟨L, b, e⟩
          · rw [decide_eq_true e]
            have q2 := q H3 (sm2.trans s3)
            rw [found (by rw [hw, e]; rfl)] at q2
            exact iteT (iteT ⟨_, rfl, q2⟩)
          · have e' : own = L ++ [b] := by simpa using e
            have ne : own ≠ [] := by
              rw [e']
              simp
            rw [decide_eq_false ne]
            refine iteF ?_
            have dl : own.drop (own.length - 1) = [b] := by
              rw [e', List.length_append]
              show (L ++ [b]).drop (L.length + 1 - 1) = [b]
              rw [Nat.add_sub_cancel, List.drop_left]
            rw [dl] at hw
            have lst : atI (own.map V.str) (-1) = some (V.str b) := by
              rw [e', List.map_append]
              exact atI_last _ _
            refine ⟨_, rfl, _, rfl, u, _, _, _, rfl, rfl, SqL.of hu3, lst, _, rfl, rfl, _, rfl, ?_⟩
            rw [dec_str]
            by_cases h3 : b = st.2
            · rw [decide_eq_true h3]
              refine iteF ?_
              refine ⟨_, rfl, rfl, _, rfl, ?_⟩
              rw [dec_str, decide_eq_false h1]
              refine iteF ?_
              refine ⟨_, rfl, rfl, _, rfl, ?_⟩
              rw [dec_str, decide_eq_true h2]
              refine iteT ⟨_, rfl, _, rfl, _, rfl, ?_⟩
              dsimp only [tNoPart]
              refine ⟨u, _, rfl, SqL.of hu3, fun o2 no2 => ?_⟩
              have s6 := same_upd (o := HO.lst (cutV (own.map V.str) none (some (-1)))) no2
              refine ⟨o2, _, _, _, rfl, (sm2.trans s3).trans s6, ?_, going (by rw [hw, h3]; simp)⟩
              rw [upd_same, nxt, hb, cut_m1, List.map_dropLast]
            · rw [decide_eq_false h3]
              have q2 := q H3 (sm2.trans s3)
              rw [found (by rw [hw, decide_eq_false]; rfl; intro z; exact h3 (List.cons.inj z).1)] at q2
              exact iteT ⟨_, rfl, q2⟩
        · have hw : wrongS st (ss.drop (i + 1)) [] own = false := by
            unfold wrongS
            rw [if_neg h2, if_neg h1]
          have hb : behind st own = own := by
            unfold behind
            rw [if_neg h1, if_neg h2]
          rw [decide_eq_false h2]
          refine iteF (iteF ?_)
          refine ⟨_, rfl, rfl, _, rfl, ?_⟩
          rw [dec_str, decide_eq_false h1]
          refine iteF ?_
          refine ⟨_, rfl, rfl, _, rfl, ?_⟩
          rw [dec_str, decide_eq_false h2]
          refine iteF ⟨_, rfl, u, _, _, _, rfl, sm2, ?_, going hw⟩
          rw [nxt, hb]
          exact hu2
    · rintro σ H1 ⟨u, v2, v3, v4, rfl, sm, hu, al⟩
      have e2 : (wrongs ss [] []).findIdx? id = none := by
        rw [List.findIdx?_eq_none_iff]
        intro x hx
        obtain ⟨j, hj⟩ := List.getElem?_of_mem hx
        have hj2 : j < xs.length := by
          rw [len, ← wrongs_len ss [] []]
          exact (List.getElem?_eq_some_iff.mp hj).1
        have z := al j hj2
        rw [hj] at z
        exact Option.some.inj z
      have q2 := q H1 sm
      rw [e2] at q2
      exact q2
end
end Rw

/-! R17 -/
/-! ### what the law expects of a list -/
namespace Rw
open PySem PySem.Spec PyProof.Rows L2
/-- [.. for i, x in enumerate(list)] -/
theorem lc_enum {K : PySem.W.Frag} {a : Addr} {xs : List V} {g : TG} {tt : TT} {te : TE} {vs : List Nat} {σ : L2.St} {H1 : Hp} {D : Addr} {Qd : Hp → Prop} (Pv : Nat → Hp → Prop) (h0 : Pv 0 (upd H1 D (.lst []))) (hl : ∀ i H, i ≤ xs.length → Pv i H → SqL K H a xs)
    (hs : ∀ i x H T, xs[i]? = some x → Pv i H → H T = none → g (.ref T) (wipe σ vs) (upd H T (.tup [.int (i : Nat), x])) fun σ2 H2 => wipe σ2 vs = wipe σ vs ∧ tt σ2 H2 fun b H3 =>
      if b = true then te σ2 H3 fun y H4 => ∃ acc, H4 D = some (.lst acc) ∧ acc.length < sizeLine ∧ Pv (i + 1) (upd H4 D (.lst (acc ++ [y]))) else Pv (i + 1) H3) (hd : ∀ H, Pv xs.length H → Qd H) :
    ∃ W : Nat → Nat → Hp → Prop, (∃ m, W 0 m (upd H1 D (.lst []))) ∧ ∀ i m H, W i m H →
      ((Ite K a).stop i H ∧ Qd H) ∨ ((Ite K a).go i H ∧ ∃ Nx : Hp → Prop, (∀ H', Nx H' → ∃ m', m' < m ∧ W (i + 1) m' H') ∧ ∀ x H', (Ite K a).yld i H x H' → g x (wipe σ vs) H' fun σ2 H2 => wipe σ2 vs = wipe σ vs ∧ tt σ2 H2 fun b H3 =>
        if b = true then te σ2 H3 fun y H4 => ∃ acc, H4 D = some (.lst acc) ∧ acc.length < sizeLine ∧ Nx (upd H4 D (.lst (acc ++ [y]))) else Nx H3) := by
  refine ⟨fun i m H => m = xs.length - i ∧ i ≤ xs.length ∧ Pv i H, ⟨xs.length, by simp, Nat.zero_le _, h0⟩, ?_⟩
  rintro i m H ⟨rfl, hi, p⟩
  have q := hl i H hi p
  by_cases hlt : i < xs.length
  · refine .inr ⟨⟨xs, xs[i], q, by simp [hlt]⟩, Pv (i + 1), fun H' p' => ⟨xs.length - (i + 1), by omega, rfl, hlt, p'⟩, fun v H' y => ?_⟩
    obtain ⟨T, x, rfl, nT, rfl, hx⟩ := y
    exact hs i x H T (hx xs q) p nT
  · have e : i = xs.length := by omega
    subst e
    exact .inl ⟨⟨xs, q, Nat.le_refl _⟩, hd H p⟩
def natsV (ns : List Nat) : List V := ns.map fun n => V.int (n : Nat)
def natsD (ns : List Nat) : List PyData := ns.map fun n => PyData.int (n : Nat)
theorem dp_nats {K : PySem.W.Frag} {H : Hp} : ∀ ns : List Nat, DpAll K H (natsV ns) (natsD ns)
  | [] => .nil
  | n :: ns => .cons (.int _) (dp_nats ns)
theorem nats_lay : ∀ ns : List Nat, PyData.canLayAll0 (natsD ns) = true ∧ PyData.depthAll (natsD ns) = 0
  | [] => ⟨rfl, rfl⟩
  | n :: ns => by
    obtain ⟨a, b⟩ := nats_lay ns
    refine ⟨?_, ?_⟩
    · show (PyData.canLay0 (.int n) && PyData.canLayAll0 (natsD ns)) = true
      rw [a]
      rfl
    · show max (PyData.depth (.int n)) (PyData.depthAll (natsD ns)) = 0
      rw [b, show PyData.depth (.int n) = 0 by simp only [PyData.depth]]
      rfl
theorem nats_shaped (ns : List Nat) : SeqAt.shaped (.list (natsD ns)) = true := by
  obtain ⟨a, b⟩ := nats_lay ns
  refine shaped_of (by simp only [PyData.canLay0]; exact a) ?_
  simp only [PyData.depth]
  omega
theorem eqv_nats_nil (ns : List Nat) : PyData.eqv (.list (natsD ns)) (.list (natsD [])) = decide (ns = []) := by
  rw [show PyData.eqv (.list (natsD ns)) (.list (natsD [])) = PyData.eqvAll (natsD ns) (natsD []) by simp only [PyData.eqv]]
  cases ns with
  | nil => rfl
  | cons n ns => rw [decide_eq_false (List.cons_ne_nil _ _)]; rfl
theorem FV.all {K : PySem.W.Frag} {d : Addr} {H H' : Hp} (e : Same H H') {xs : List V} {rs : List (Option Step)} (h : All2 (FV K d H) xs rs) : All2 (FV K d H') xs rs := h.mono fun _ _ t => t.same e
def spDue (K : PySem.W.Frag) (d : Addr) : Sp := fun vs H Q _ => ∃ (l : Addr) (xs : List V) (rs : List (Option Step)), vs = [.ref l] ∧ SqL K H l xs ∧ All2 (FV K d H) xs rs ∧ rs.length ≤ 200 ∧
  (fault rs = none → ∀ H', Same H H' → Q (.ref l) H') ∧ (∀ v, fault rs = some v → ∀ H' p, Same H H' → H p = none → H' p = some (.lst [.str "none", v]) → Q (.ref p) H')
section
variable {P : Program} {w : World} {K : PySem.W.Frag} {mg : Str → Option Value} {base : Heap}
abbrev sDue : Stmt := top 31
theorem scDue : FnScope ["_law_steps", "_law_bad", "_law_at", "_law_step"] ["_law_steps"] (defScope sDue) := ⟨rfl, rfl, rfl, by decide +kernel, rfl, by decide +kernel, by decide +kernel⟩
theorem ok_due {f fF fU d : Addr} {fd fdF fdU : FuncData} (F : Fun K "_law_due" "_law_due" sDue f fd) (hW : ∀ w ∈ W10, ∃ u, PySem.W.nsIn K d w = some (some u))
    (GF : FnOk P w K mg base CX0 1 fF fdF ["_law_thing"] (spFine K d)) (TF : Called K mg "_law_fine" ["_law_thing"] fF fdF) (GU : FnOk P w K mg base CX0 1 fU fdU ["_law_steps"] (spFault K)) (TU : Called K mg "_law_fault" ["_law_steps"] fU fdU)
    (m_enumerate : mg "enumerate" = none) (m_len : mg "len" = none) : FnOk P w K mg base CX0 2 f fd ["_law_steps"] (spDue K d) := by
  refine F.ok scDue (fun vs H Q E h => ?_) (fun cdv A outer s H vs Q E hr h => ?_)
  · obtain ⟨l, xs, rs, rfl, _⟩ := h
    rfl
  · obtain ⟨l, xs, rs, rfl, hx, hrs, hz, q, qE⟩ := h
    refine ⟨_, (pss_cons (ps_setLc (i := 1) (own := [("_law_at", 2), ("_law_step", 3)]) (g := gTup _ 2 (gCons (gName 2) (gCons (gName 3) gNil))) (by rfl) scDue.nd rfl rfl (sw_true rfl rfl rfl (by decide +kernel)) (pi_enum rfl m_enumerate (pa_cons (pv 0) pa_nil)) (blkOk_by (own := [("_law_at", 2), ("_law_step", 3)]) (N := ["_law_steps", "_law_bad", "_law_at", "_law_step"]) (sc := defScope sDue) (by decide +kernel)) (fun _ _ _ _ _ => pg_tup rfl (pgs_cons (pg_name (i := 2) scDue.nd rfl (Or.inl rfl)) (pgs_cons (pg_name (i := 3) scDue.nd rfl (Or.inl rfl)) pgs_nil))) (fun _ _ _ _ _ => pts_one (pt_not (pt_val (pe_call GF (hr.mono (by decide)) rfl TF.1 TF.2.1 TF.2.2 .nil pass0 (pa_cons (pv 3) pa_nil))))) (fun _ _ _ _ _ => (pv 2)))
       (pss_cons (ps_if (PW.pt (pw_or (pt_cmpR (op_neD hr.units) (pv 1) (pe_lst pa_nil) (nomark _)) (pw_or1 (pt_cmpR op_gt (pe_callB call_len_seq (by rfl) m_len PySem.boot_len (pa_cons (pv 0) pa_nil)) pe_int (nomark _)))))
       (pss_one (ps_ret (pe_lst (pa_cons pe_str (pa_cons (pe_ifExp (pt_cmpR (op_neD hr.units) (pv 1) (pe_lst pa_nil) (nomark _))
       (pe_ix ix_list (pv 1) pe_int (fun _ _ => rfl))
       pe_non) pa_nil)))))
       pss_nil)
       (pss_one (ps_ret (pe_ifExp (pt_cmpR op_isN (pe_call GU (hr.mono (by decide)) rfl TU.1 TU.2.1 TU.2.2 .nil pass0 (pa_cons (pv 0) pa_nil)) pe_non (nomark _))
       (pv 0)
       (pe_lst (pa_cons pe_str (pa_cons (pe_call GU (hr.mono (by decide)) rfl TU.1 TU.2.1 TU.2.2 .nil pass0 (pa_cons (pv 0) pa_nil)) pa_nil)))))))), ?_⟩
    have len := hrs.length
    refine ⟨_, rfl, l, xs, rfl, hx, fun D nD => lc_enum (K := K) (a := l) (xs := xs) (fun i H' => Same H H' ∧ ∃ bs : List Nat, H' D = some (.lst (natsV bs)) ∧ bs.length ≤ i ∧ ((bs = [] ∧ ∀ j, j < i → ∃ s, rs[j]? = some (some s)) ∨ ∃ b r, bs = b :: r ∧ rs.findIdx? Option.isNone = some b))
      ⟨same_upd nD, [], upd_same, Nat.le_refl _, .inl ⟨rfl, fun j hj => absurd hj (Nat.not_lt_zero j)⟩⟩ (fun i H' _ h => h.1.seq hx) ?_ ?_⟩
    · rintro i x H1 T1 hxi ⟨s1, bs, hD, bl, al⟩ nT
      obtain ⟨r, hr1, hv⟩ := hrs.get hxi
      have u0 := same_upd (o := .tup [.int (i : Nat), x]) nT
      refine ⟨T1, _, rfl, SqT.of upd_same, rfl, _, _, rfl, _, _, rfl, rfl, rfl, _, rfl, x, r, rfl, hv.same (s1.trans u0), fun H2 s2 => ⟨_, rfl, ?_⟩⟩
      have sm := (s1.trans u0).trans s2
      have hD2 := s2 _ _ (u0 _ _ hD)
      have hi : i < rs.length := (List.getElem?_eq_some_iff.mp hr1).1
      cases r with
      | none =>
        refine iteT ⟨_, rfl, _, hD2, ?_, same_updN nD sm, bs ++ [i], ?_, ?_, ?_⟩
        · unfold natsV
          rw [List.length_map, sizeLine_eq]
          omega
        · rw [upd_same]
          unfold natsV
          rw [List.map_append]
          rfl
        · rw [List.length_append]
          show bs.length + 1 ≤ i + 1
          omega
        · rcases al with ⟨e, al⟩ | ⟨b, r, e, ef⟩
          · refine .inr ⟨i, [], by rw [e]; rfl, ?_⟩
            rw [List.findIdx?_eq_some_iff_getElem]
            obtain ⟨hi, he⟩ := List.getElem?_eq_some_iff.mp hr1
            refine ⟨hi, by rw [he]; rfl, fun j hj => ?_⟩
            obtain ⟨s', hs'⟩ := al j hj
            obtain ⟨hj2, he2⟩ := List.getElem?_eq_some_iff.mp hs'
            rw [he2]
            exact Bool.false_ne_true
          · exact .inr ⟨b, r ++ [i], by rw [e]; rfl, ef⟩
      | some st =>
        refine iteF ⟨sm, bs, hD2, by omega, ?_⟩
        rcases al with ⟨e, al⟩ | h
        · refine .inl ⟨e, fun j hj => ?_⟩
          by_cases ej : j = i
          · exact ⟨st, by rw [ej]; exact hr1⟩
          · exact al j (by omega)
        · exact .inr h
    · rintro H1 ⟨s1, bs, hD, bl, al⟩
      refine ⟨_, rfl, Nat.zero_le _, fun t nt => ?_⟩
      have s2 := same_upd (o := HO.lst []) nt
      have ht : SqL K (upd H1 t (.lst [])) t [] := SqL.of upd_same
      have hD2 := s2 _ _ hD
      generalize upd H1 t (.lst []) = H2 at s2 ht hD2
      have sm := s1.trans s2
      refine ⟨.list (natsD bs), .list (natsD []), .lst (SqL.of hD2) (dp_nats _), .lst ht .nil, nats_shaped _, nats_shaped _, _, rfl, ?_⟩
      rw [eqv_nats_nil]
      rcases al with ⟨e, al⟩ | ⟨b, r, e, ef⟩
      · subst e
        rw [decide_eq_true rfl]
        refine iteF ?_
        obtain ⟨ss, rfl⟩ := all_some rs fun j hj => al j (by omega)
        have e0 : (ss.map some).findIdx? Option.isNone = none := by
          rw [List.findIdx?_eq_none_iff]
          intro x hx
          obtain ⟨s', _, rfl⟩ := List.mem_map.mp hx
          rfl
        have e1 : (ss.map some).filterMap id = ss := by
          rw [List.filterMap_map]
          exact List.filterMap_some
        have hv : All2 (SVG K d H) xs (ss.map some) := hrs.mono fun _ _ t => t.svg hW
        have hss : StepsAt K H xs ss := steps_of hv
        have hg : ∀ s ∈ ss, GoodS s := good_of hv
        rw [List.length_map] at hz len
        unfold fault at q qE
        rw [e0, e1, List.length_map] at q qE
        refine ⟨_, rfl, l, xs, rfl, .inl (sm.seq hx), _, _, rfl, rfl, _, rfl, ?_⟩
        by_cases h8 : (8 : Int) < (xs.length : Nat)
        · rw [decide_eq_true h8]
          have h9 : ss.length > 8 := by omega
          refine iteT ⟨_, rfl, Nat.zero_le _, fun t3 nt3 => ?_⟩
          have s3 := same_upd (o := HO.lst []) nt3
          have ht3 : SqL K (upd H2 t3 (.lst [])) t3 [] := SqL.of upd_same
          refine ⟨.list (natsD []), .list (natsD []), .lst (SqL.of (s3 _ _ hD2)) (dp_nats _), .lst ht3 .nil, nats_shaped _, nats_shaped _, _, rfl, ?_⟩
          rw [eqv_nats_nil, decide_eq_true rfl]
          refine iteF ⟨by show 2 ≤ sizeLine; decide, fun p np => ?_⟩
          exact qE .non (if_pos h9) _ p ((sm.trans s3).trans (same_upd np)) ((sm.trans s3).free np) upd_same
        · rw [decide_eq_false h8]
          have h9 : ¬ ss.length > 8 := by omega
          rw [if_neg h9] at q qE
          refine iteF ?_
          refine ⟨_, rfl, l, xs, ss, rfl, sm.seq hx, hss.same sm, hg, hz, fun H3 s3 => ⟨rfl, _, rfl, ?_⟩⟩
          have sm3 := sm.trans s3
          cases hf : (wrongs ss [] []).findIdx? id with
          | none =>
            rw [hf] at q
            show if decide (V.non = V.non) = true then _ else _
            rw [decide_eq_true rfl]
            exact iteT ⟨_, rfl, q rfl _ sm3⟩
          | some i =>
            rw [hf] at qE
            show if decide (V.int (i : Nat) = V.non) = true then _ else _
            rw [decide_eq_false (fun z => by cases z)]
            refine iteF ⟨_, rfl, l, xs, ss, rfl, sm3.seq hx, hss.same sm3, hg, hz, fun H4 s4 => ?_⟩
            rw [hf]
            refine ⟨by show 2 ≤ sizeLine; decide, fun p np => ?_⟩
            exact qE (.int (i : Nat)) rfl _ p ((sm3.trans s4).trans (same_upd np)) ((sm3.trans s4).free np) upd_same
      · subst e
        rw [decide_eq_false (List.cons_ne_nil _ _)]
        have hf : fault rs = some (.int (b : Nat)) := by
          unfold fault
          rw [ef]
        refine iteT (iteT ?_)
        refine ⟨_, rfl, Nat.zero_le _, fun t3 nt3 => ?_⟩
        have s3 := same_upd (o := HO.lst []) nt3
        have ht3 : SqL K (upd H2 t3 (.lst [])) t3 [] := SqL.of upd_same
        refine ⟨.list (natsD (b :: r)), .list (natsD []), .lst (SqL.of (s3 _ _ hD2)) (dp_nats _), .lst ht3 .nil, nats_shaped _, nats_shaped _, _, rfl, ?_⟩
        rw [eqv_nats_nil, decide_eq_false (List.cons_ne_nil _ _)]
        have at0 : atI (natsV (b :: r)) ((0 : Nat) : Int) = some (V.int (b : Nat)) := atI_nat rfl
        refine iteT ⟨_, rfl, D, _, _, _, rfl, rfl, SqL.of (s3 _ _ hD2), at0, by show 2 ≤ sizeLine; decide, fun p np => ?_⟩
        exact qE _ hf _ p ((sm.trans s3).trans (same_upd np)) ((sm.trans s3).free np) upd_same
end
end Rw

/-! R18 -/
/-! ### own + within a try -/
namespace L2
open PySem PySem.Spec PyProof.Rows
def tOpS (r : XK → R2) (E : St → XK) (ta tb : TE) : TE := fun σ H Q => ta σ H fun x H1 => tb σ H1 fun y H2 => r (E σ) x y H2 Q
section
variable {X : Cx} {CX : CXT} {k : Nat} {f g C : Addr} {fd : FuncData} {ps : List Str} {sp : Sp} {E : St → XK} {a b : Expr} {ta tb : TE} {pos : Pos}
theorem pe_addTS {K : PySem.W.Frag} (hK : X.K = K) (A : AddC K C f g) (F : FnOk X.prog X.w X.K X.mg X.base CX k f fd ps sp) (hr : Room k X.A) (hb : Binds X.K fd ps []) (hx : ∀ σ, PassesAt CX X σ (E σ)) (ha : PE X a ta) (hb' : PE X b tb) : PE X (.BinOp a .Add b pos) (tOpS (rAddT K C sp) E ta tb) := by
  subst hK
  refine ⟨fun pins s σ H Q I h => ?_⟩
  refine wpAny_BinOp (binT (R := fun x y H2 => rAddT X.K C sp (E σ) x y H2 Q) ha hb' I h fun v u s2 x y H2 I2 rx ry q => ?_)
  obtain ⟨a, dx, fs, T, rfl, ha, ty, ⟨⟨fo, ro, h1, h2⟩, hsub⟩, q⟩ := q
  cases (show v = Value.ref a from rx)
  obtain ⟨P, Z, pz, hne⟩ := kit_of I2 ry ty
  obtain ⟨mA, O, _⟩ := ins_get I2.hok ha
  obtain ⟨od, J, _⟩ := O.look
  refine PySem.LwX.add_own I2.kIn J (fun M => Z.ty M _ I2.kIn pz) A.hc A.hs A.hf A.hr (.inr ⟨_, rfl⟩) h1 h2 hsub ?_
  exact thn (run_fnS (us := [.ref a, u]) (vs := [.ref a, y]) F hr hb (hx σ) I2 (.cons rfl (.cons ry .nil)) q) fun _ _ z => back_ref z
theorem pe_raddTS {K : PySem.W.Frag} (hK : X.K = K) (A : AddC K C f g) (F : FnOk X.prog X.w X.K X.mg X.base CX k g fd ps sp) (hr : Room k X.A) (hb : Binds X.K fd ps []) (hx : ∀ σ, PassesAt CX X σ (E σ)) (ha : PE X a ta) (hb' : PE X b tb) : PE X (.BinOp a .Add b pos) (tOpS (rRaddT K C sp) E ta tb) := by
  subst hK
  refine ⟨fun pins s σ H Q I h => ?_⟩
  refine wpAny_BinOp (binT (R := fun x y H2 => rRaddT X.K C sp (E σ) x y H2 Q) ha hb' I h fun v u s2 x y H2 I2 rx ry q => ?_)
  obtain ⟨a, dx, fs, T, rfl, ha, ty, ⟨fo, ro, h1, h2, h3⟩, q⟩ := q
  cases (show u = Value.ref a from ry)
  obtain ⟨P, Z, pz, hne⟩ := kit_of I2 rx ty
  obtain ⟨mA, O, _⟩ := ins_get I2.hok ha
  obtain ⟨od, J, _⟩ := O.look
  refine PySem.LwX.radd_own I2.kIn J (fun M => Z.ty M _ I2.kIn pz) A.hc A.hs A.hr A.hg h1 h2 h3 ?_
  exact thn (run_fnS (us := [.ref a, v]) (vs := [.ref a, x]) F hr hb (hx σ) I2 (.cons rfl (.cons rx .nil)) q) fun _ _ z => back_ref z
theorem call_tuple_K {K : PySem.W.Frag} (hK : X.K = K) : CallR X (.type "tuple") (fun xs H Q => ∃ p ys, xs = [.ref p] ∧ (SqL K H p ys ∧ (∀ l, H l = none → Q (.ref l) (upd H l (.tup ys))) ∨ SqT K H p ys ∧ Q (.ref p) H)) := by
  subst hK
  exact call_tuple_of
end
end L2
/-! ### what the law hears -/
namespace Rw
open PySem PySem.Spec PyProof.Rows L2
theorem OexG.xf {K : PySem.W.Frag} {C fI : Addr} (T : OexG K C fI) : XfC K C := ⟨T.ga, T.gg, T.exC, T.hdC⟩
def wayAll (way : Int) (ss : List Step) (rs : List (Option Step)) : List (Option Step) := if way = 0 then ss.map some ++ rs else rs ++ ss.map some
def spHeard (K : PySem.W.Frag) (C d : Addr) : Sp := fun vs H Q _ => ∃ (a l : Addr) (way : Int) (ss : List Step) (xs : List V) (rs : List (Option Step)), vs = [.ref a, .ref l, .int way] ∧ IsRow K C d H a ss ∧ SqL K H l xs ∧ All2 (SVG K d H) xs rs ∧ ss.length ≤ 300 ∧ rs.length ≤ 300 ∧
  (fault (wayAll way ss rs) = none → ∀ H' p ys us, wayAll way ss rs = us.map some → Same H H' → H p = none → H' p = some (.lst ys) → RowAt K d H' ys us → Q (.ref p) H') ∧
  (∀ v, fault (wayAll way ss rs) = some v → ∀ H' p, Same H H' → H p = none → H' p = some (.lst [.str "none", v]) → Q (.ref p) H')
section
variable {P : Program} {w : World} {K : PySem.W.Frag} {mg : Str → Option Value} {base : Heap}
abbrev sHeard : Stmt := top 32
theorem scHeard : FnScope ["_law_row", "_law_some", "_law_way", "_law_made", "e"] ["_law_row", "_law_some", "_law_way"] (defScope sHeard) := ⟨rfl, rfl, rfl, by decide +kernel, rfl, by decide +kernel, by decide +kernel⟩
theorem ok_heard {f fA fR fS fI fE C d CI : Addr} {fd fdA fdR fdS fdE : FuncData} (F : Fun K "_law_heard" "_law_heard" sHeard f fd) (R : RowC K mg C fI fA fR) (T : Er P w K mg base "InvalidStep" "index" CI fE fdE) (te : PySem.W.exmOne K (.ref CI) (.ref CI) = some true)
    (GA : FnOk P w K mg base (L2.CX P w) 6 fA fdA ["self", "other"] (spAdd K C d CI)) (bA : Binds K fdA ["self", "other"] []) (GR : FnOk P w K mg base (L2.CX P w) 6 fR fdR ["self", "other"] (spRadd K C d CI)) (bR : Binds K fdR ["self", "other"] [])
    (GS : FnOk P w K mg base CX0 1 fS fdS ["self"] (spSteps K C d)) (bS : Binds K fdS ["self"] []) (mS : Meth K C "steps" fS) (m_tuple : mg "tuple" = none) : FnOk P w K mg base CX0 7 f fd ["_law_row", "_law_some", "_law_way"] (spHeard K C d) := by
  refine F.ok scHeard (fun vs H Q E h => ?_) (fun cdv A outer s H vs Q E hr h => ?_)
  · obtain ⟨a, l, way, ss, xs, rs, rfl, _⟩ := h
    rfl
  · obtain ⟨a, l, way, ss, xs, rs, rfl, ha, hx, hrs, hz1, hz2, q, qE⟩ := h
    refine ⟨_, pss_one (ps_try_as (i := 4) rfl rfl scHeard.nd rfl rfl ⟨rfl, by decide, .inl T.g⟩ takes0
      (fun W pn xe tk _ => pss_cons (ps_set (i := 3) scHeard.nd rfl (.inl rfl) (pe_ifExp (pt_cmpR op_eq (pv 2) pe_int (nomark _))
          (pe_addTS (K := K) rfl R.add GA hr bA (fun σ => passAt tk σ) (pv 0) (pe_callTy (call_tuple_K (K := K) rfl) (by rfl) m_tuple (by decide +kernel) (pa_cons (pv 1) pa_nil)))
          (pe_raddTS (K := K) rfl R.add GR hr bR (fun σ => passAt tk σ) (pe_callTy (call_tuple_K (K := K) rfl) (by rfl) m_tuple (by decide +kernel) (pa_cons (pv 1) pa_nil)) (pv 0))))
        (pss_one (ps_ret (pe_meth0 (pv 3) R.cl mS GS (hr.mono (by decide)) bS .nil pass0))))
      (fun a oe cls dd pn hz hf => pss_one (ps_ret (pe_lst (pa_cons pe_str (pa_cons (pe_xf (OexG.xf T.o) T.no hz hf (pv 4)) pa_nil)))))), ?_⟩
    refine ⟨_, rfl, rfl, _, rfl, ?_⟩
    have ew : decide (V.int way = V.int 0) = decide (way = 0) := by
      by_cases h : way = 0
      · rw [h, decide_eq_true rfl, decide_eq_true rfl]
      · rw [decide_eq_false h, decide_eq_false (fun z => h (V.int.inj z))]
    rw [ew]
    by_cases h0 : way = 0
    · rw [decide_eq_true h0]
      have e0 : wayAll way ss rs = ss.map some ++ rs := if_pos h0
      rw [e0] at q qE
      refine iteT ⟨_, rfl, _, rfl, l, xs, rfl, .inl ⟨hx, fun t nt => ?_⟩⟩
      have s1 := same_upd (o := HO.tup xs) nt
      have ht : SqT K (upd H t (.tup xs)) t xs := SqT.of upd_same
      generalize upd H t (.tup xs) = H1 at s1 ht
      have ha1 := ha.same s1
      obtain ⟨dx, p0, hh, ys0, zs0, h1, _⟩ := ha1
      refine ⟨a, dx, _, "tuple", rfl, h1, tyx_tup ht, R.aT "tuple" (by decide), a, .ref t, ss, some rs, rfl, ha.same s1, .tup ht (hrs.mono fun _ _ t => t.same s1), hz1, fun _ e => by cases e; exact hz2, fun _ e => ?_, fun e => nomatch e⟩
      cases e
      refine ⟨fun hf us eu x H2 s2 row => ⟨⟨x, rfl⟩, ?_⟩, fun v hv t H2 lf => ⟨true, te, fun _ e ne => ?_, fun z => nomatch z⟩⟩
      · have row2 := row
        obtain ⟨dx2, p2, hh2, ys2, zs2, k1, _⟩ := row2
        refine ⟨_, rfl, x, dx2, _, rfl, k1, rfl, x, us, rfl, row, fun H3 p ys s3 np hp ra => ?_⟩
        exact q hf H3 p ys us eu ((s1.trans s2).trans s3) ((s1.trans s2).free np) hp ra
      · obtain ⟨s2, nt2, ht2⟩ := lf
        refine ⟨_, rfl, rfl, rfl, t, _, v, rfl, ht2, rfl, by show 2 ≤ sizeLine; decide, fun p np => ?_⟩
        exact qE v hv _ p ((s1.trans s2).trans (same_upd np)) ((s1.trans s2).free np) upd_same
    · rw [decide_eq_false h0]
      have e0 : wayAll way ss rs = rs ++ ss.map some := if_neg h0
      rw [e0] at q qE
      refine iteF ⟨_, rfl, l, xs, rfl, .inl ⟨hx, fun t nt => ?_⟩⟩
      have s1 := same_upd (o := HO.tup xs) nt
      have ht : SqT K (upd H t (.tup xs)) t xs := SqT.of upd_same
      generalize upd H t (.tup xs) = H1 at s1 ht
      have ha1 := ha.same s1
      obtain ⟨dx, p0, hh, ys0, zs0, h1, _⟩ := ha1
      refine ⟨_, rfl, a, dx, _, "tuple", rfl, h1, tyx_tup ht, R.rT, a, .ref t, ss, some rs, rfl, ha.same s1, .tup ht (hrs.mono fun _ _ t => t.same s1), hz1, fun _ e => by cases e; exact hz2, fun _ e => ?_, fun e => nomatch e⟩
      cases e
      refine ⟨fun hf us eu x H2 s2 row => ⟨⟨x, rfl⟩, ?_⟩, fun v hv t H2 lf => ⟨true, te, fun _ e ne => ?_, fun z => nomatch z⟩⟩
      · have row2 := row
        obtain ⟨dx2, p2, hh2, ys2, zs2, k1, _⟩ := row2
        refine ⟨_, rfl, x, dx2, _, rfl, k1, rfl, x, us, rfl, row, fun H3 p ys s3 np hp ra => ?_⟩
        exact q hf H3 p ys us eu ((s1.trans s2).trans s3) ((s1.trans s2).free np) hp ra
      · obtain ⟨s2, nt2, ht2⟩ := lf
        refine ⟨_, rfl, rfl, rfl, t, _, v, rfl, ht2, rfl, by show 2 ≤ sizeLine; decide, fun p np => ?_⟩
        exact qE v hv _ p ((s1.trans s2).trans (same_upd np)) ((s1.trans s2).free np) upd_same
end
end Rw

/-! R19 -/
/-! ### what is no tuple -/
namespace Rw
open PySem PySem.Spec PyProof.Rows L2
def spNone (K : PySem.W.Frag) : Sp := fun vs H Q _ => ∃ (v : V) (T : String), vs = [v] ∧ TyX K H v (.type T) ∧ T ∈ noTup ∧ ∀ H', Same H H' → Q (.bl true) H'
theorem make0 {K : PySem.W.Frag} {d C CI : Addr} {σ : L2.St} {H : Hp} {Q : VK} (q : ∀ x H1, Same H H1 → IsRow K C d H1 x [] → Q (.ref x) H1) : StX.tMakeR C (spStar (spRI K d C CI)) (fun _ _ _ => False) tNil σ H Q := by
  intro x dx nx nd ne
  refine made_of (rs := []) .nil (Nat.zero_le _) ⟨fun hf ss e x H1 s1 row => ?_, fun v hv => by cases hv⟩ nx nd ne
  have es : ss = [] := by
    cases ss with
    | nil => rfl
    | cons a b => cases e
  subst es
  exact q x H1 s1 row
section
variable {P : Program} {w : World} {K : PySem.W.Frag} {mg : Str → Option Value} {base : Heap}
abbrev sNo : Stmt := top 34
theorem scNo : FnScope ["_law_thing", "_law_made", "e"] ["_law_thing"] (defScope sNo) := ⟨rfl, rfl, rfl, by decide +kernel, rfl, by decide +kernel, by decide +kernel⟩
theorem ok_none {f fA fR fI fE C d CI : Addr} {fd fdA fdE : FuncData} (F : Fun K "_law_none" "_law_none" sNo f fd) (R : RowC K mg C fI fA fR) (T : Er P w K mg base "InvalidStep" "index" CI fE fdE) (te : PySem.W.exmOne K (.ref CI) (.ref CI) = some true)
    (GI : FnR P w K mg base (L2.CX P w) 4 fI (spStar (spRI K d C CI)))
    (GA : FnOk P w K mg base (L2.CX P w) 6 fA fdA ["self", "other"] (spAdd K C d CI)) (bA : Binds K fdA ["self", "other"] []) : FnOk P w K mg base CX0 7 f fd ["_law_thing"] (spNone K) := by
  refine F.ok scNo (fun vs H Q E h => ?_) (fun cdv A outer s H vs Q E hr h => ?_)
  · obtain ⟨v, T, rfl, _⟩ := h
    rfl
  · obtain ⟨v, T', rfl, ty, hT, q⟩ := h
    refine ⟨_, pss_one (ps_try_as (i := 2) rfl rfl scNo.nd rfl rfl ⟨rfl, by decide, .inl T.g⟩ takes0
      (fun W pn xe tk _ => pss_cons (ps_set (i := 1) scNo.nd rfl (.inl rfl)
          (pe_addTS (K := K) rfl R.add GA hr bA (fun σ => passAt tk σ) (pe_makeR0 R.mkC GI (hr.mono (by decide)) rfl R.g (passes_call tk (E := fun _ _ _ => False) fun _ _ _ _ h => h.elim)) (pv 0)))
        (pss_one (ps_ret (pe_cmpR op_isN (pv 1) pe_non (nomark _)))))
      (fun a oe cls dd pn hz hf => pss_one (ps_ret (pe_cmpR op_isN (pe_xf (OexG.xf T.o) T.no hz hf (pv 2)) pe_non (nomark _))))), ?_⟩
    dsimp only [tSeq, tAsg, tOpS]
    refine make0 (d := d) (CI := CI) fun x H1 s1 row => ?_
    have hT2 : T' ∈ ["NoneType", "bool", "int", "list", "str", "dict", "tuple"] := by
      simp only [noTup, List.mem_cons, List.mem_nil_iff, or_false] at hT ⊢
      rcases hT with rfl | rfl | rfl | rfl | rfl | rfl <;> simp
    have row2 := row
    obtain ⟨dx2, p2, hh2, ys2, zs2, k1, _⟩ := row2
    refine ⟨_, rfl, x, dx2, _, T', rfl, k1, TyX_same s1 ty, R.aT T' hT2, x, v, [], none, rfl, row, .other (TyX_same s1 ty) hT, Nat.zero_le _, (fun _ e => by cases e), (fun _ e => by cases e), fun _ t H2 lf => ⟨true, te, fun _ e ne => ?_, fun z => nomatch z⟩⟩
    obtain ⟨s2, nt2, ht2⟩ := lf
    refine ⟨_, rfl, rfl, rfl, t, _, .non, rfl, ht2, rfl, rfl, ?_⟩
    exact q H2 (s1.trans s2)
end
end Rw

/-! R20 -/
/-! ### xs[::-1] -/
namespace L2
open PySem PySem.Spec PyProof.Rows
def tRevL (K : PySem.W.Frag) (te : TE) : TE := fun σ H Q => te σ H fun x H1 => ∃ a xs, x = .ref a ∧ SqL K H1 a xs ∧ ∀ p, H1 p = none → Q (.ref p) (upd H1 p (.lst xs.reverse))
theorem vals_rev2 {zs : List V} {ws : List Value} (h : Vals zs ws) : Vals zs.reverse ws.reverse := by
  induction h with
  | nil => exact .nil
  | cons r t ih =>
    rw [List.reverse_cons, List.reverse_cons]
    exact ih.append (.cons r .nil)
section
variable {X : Cx} {e : Expr} {te : TE} {p1 p2 p3 pos : Pos} {k : Nat}
theorem pe_revL (he : PE X e te) : PE X (.Subscript e (.Slice none none (some (.UnaryOp .USub (.Constant (.int 1) k p1) p3)) p2) pos) (tRevL X.K te) := by
  refine ⟨fun pins s σ H Q I h => ?_⟩
  refine Subscript_ (thn (he.run pins s σ H _ I h) fun v s1 ⟨x, H1, I1, r1, q1⟩ => ?_)
  obtain ⟨a, xs, rfl, hx, q⟩ := q1
  cases r1
  have hst : PO X (some (.UnaryOp .USub (.Constant (.int 1) k p1) p3)) _ := po_some (pe_un un_neg pe_int)
  have hn : PO X none _ := po_none
  refine wpAny_Slice (thn (hn.run pins s1 σ H1 (fun l H2 => l = none ∧ H2 = H1) I1 ⟨rfl, rfl⟩) fun vl s2 ⟨l, H2, I2, pl, el, eH2⟩ => thn (hn.run pins s2 σ H2 (fun l H3 => l = none ∧ H3 = H2) I2 ⟨rfl, rfl⟩) fun vu s3 ⟨u, H3, I3, pu, eu, eH3⟩ =>
    thn (hst.run pins s3 σ H3 (fun l H4 => l = some (-1) ∧ H4 = H3) I3 ⟨_, rfl, _, rfl, by exact ⟨rfl, rfl⟩⟩) fun vs s4 ⟨t, H4, I4, pt, et, eH4⟩ => ?_)
  subst el eu et eH4 eH3 eH2
  have I5 : Inv X pins σ H4 { s4 with heap := s4.heap.push { cls := .type "slice", data := .fields #[vl, vu, vs] } } := I4.kept (t' := s4.toks) fun b ob q => Heap.get?_push_of_some _ q
  obtain ⟨its, r, ht, hz⟩ := I5.list hx
  have hlen := r.length
  refine tail_any (ops := [.ref a, .ref s4.heap.objs.size]) ht.isList.typeIs slot_list_getitem.lookup ?_ (by with_unfolding_all rfl)
  refine wpAny_getItem_list_slice ht.isList (Heap.IsSliceOf.new ..) pl pu pt (by decide) ?_ (by rw [List.size_toArray] <;> omega)
  rw [PySem.W.krv_pick]
  refine ⟨.ref _, _, I5.laid (t' := s4.toks) (o := .lst xs.reverse) (fun b ob q => Heap.get?_push_of_some _ q) (Nat.le_refl _) ?_, rfl, q _ (I5.hok.fresh (Nat.le_refl _))⟩
  exact ⟨by rw [List.length_reverse]; exact hz, _, 0, vals_rev2 r, Heap.get?_push_size _ rfl⟩
end
end L2

/-! R21 -/
namespace L2
open PySem PySem.Spec PyProof.Rows
theorem ix_listK {X : Cx} {K : PySem.W.Frag} (hK : X.K = K) : IxR X (rIxL K) := by
  subst hK
  exact ix_list
theorem ix_tupK {X : Cx} {K : PySem.W.Frag} (hK : X.K = K) : IxR X (rIxT K) := by
  subst hK
  exact ix_tup
theorem op_in_seqK {X : Cx} {K : PySem.W.Frag} (hK : X.K = K) : OpR X (compareOp .In) (rIn K false) := by
  subst hK
  exact op_in_seq
end L2
/-! ### the lists that the law draws -/
namespace Rw
open PySem PySem.Spec PyProof.Rows L2
theorem get_pool {H H' : Hp} {o qq a : Addr} {u : HO} (b : SameBut o H H') (h : PoolAt H o qq) (e : H a = some u) (hu : ∀ ys, u ≠ .lst ys) : H' a = some u := by
  refine b a u (fun ea => ?_) e
  obtain ⟨at_, ns, h1, _⟩ := h
  rw [ea, h1] at e
  exact hu _ (Option.some.inj e).symm
theorem sqT_pool {K : PySem.W.Frag} {H H' : Hp} {o qq a : Addr} {xs : List V} (b : SameBut o H H') (p : PoolAt H o qq) (h : SqT K H a xs) : SqT K H' a xs := by
  rcases h with (h | ⟨ob, h⟩) | h
  · exact .inl (.inl (get_pool b p h fun _ z => by cases z))
  · exact .inl (.inr ⟨ob, get_pool b p h fun _ z => by cases z⟩)
  · exact .inr h
theorem TyX_pool {K : PySem.W.Frag} {H H' : Hp} {o qq : Addr} (b : SameBut o H H') (p : PoolAt H o qq) (p' : PoolAt H' o qq) {v : V} {t : Value} (h : TyX K H v t) : TyX K H' v t := by
  cases h with
  | base h =>
    cases h with
    | non => exact .base .non
    | bl x => exact .base (.bl x)
    | int i => exact .base (.int i)
    | str x => exact .base (.str x)
    | flt x => exact .base (.flt x)
    | @lst a xs h =>
      by_cases e : a = o
      · subst e
        obtain ⟨at_, ns, h1, _⟩ := p'
        exact .base (.lst h1)
      · exact .base (.lst (b _ _ e h))
    | frz h => exact .base (.frz (get_pool b p h fun _ z => by cases z))
    | tup h => exact .base (.tup (get_pool b p h fun _ z => by cases z))
    | dK h => exact .base (.dK (get_pool b p h fun _ z => by cases z))
    | dT h => exact .base (.dT (get_pool b p h fun _ z => by cases z))
    | ins h a c d e f => exact .base (.ins (get_pool b p h fun _ z => by cases z) a c d e f)
  | byt b => exact .byt b
  | set h => exact .set (get_pool b p h fun _ z => by cases z)
  | kList h c => exact .kList h c
  | kTuple h c => exact .kTuple h c
  | kDict h c => exact .kDict h c
  | fTuple h => exact .fTuple (get_pool b p h fun _ z => by cases z)
  | fDict h => exact .fDict (get_pool b p h fun _ z => by cases z)
theorem FV.pool {K : PySem.W.Frag} {d : Addr} {H H' : Hp} {o qq : Addr} (b : SameBut o H H') (p : PoolAt H o qq) (p' : PoolAt H' o qq) {v : V} {r : Option Step} (h : FV K d H v r) : FV K d H' v r := by
  cases h with
  | good a c e f g => exact .good (sqT_pool b p a) c e f g
  | name a c e =>
    refine .name (sqT_pool b p a) c ?_
    generalize hf : false = b0 at e
    cases e with
    | str z x y => exact .str z x y
    | other x y => exact .other (TyX_pool b p p' x) y
  | word a c e => exact .word (sqT_pool b p a) c e
  | first a c e f g => exact .first (sqT_pool b p a) (TyX_pool b p p' c) e f g
  | len a c => exact .len (sqT_pool b p a) c
  | other a c => exact .other (TyX_pool b p p' a) c
def AllF (K : PySem.W.Frag) (d : Addr) (H : Hp) (xs : List V) : Prop := ∀ x ∈ xs, ∃ r, FV K d H x r
def AllG (K : PySem.W.Frag) (d : Addr) (H : Hp) (xs : List V) : Prop := ∀ x ∈ xs, ∃ s, FV K d H x (some s)
theorem AllF.all2 {K : PySem.W.Frag} {d : Addr} {H : Hp} : ∀ {xs : List V}, AllF K d H xs → ∃ rs, All2 (FV K d H) xs rs
  | [], _ => ⟨[], .nil⟩
  | x :: xs, h => by
    obtain ⟨r, hr⟩ := h x List.mem_cons_self
    obtain ⟨rs, hrs⟩ := AllF.all2 (xs := xs) fun y hy => h y (List.mem_cons_of_mem _ hy)
    exact ⟨r :: rs, .cons hr hrs⟩
theorem AllG.f {K : PySem.W.Frag} {d : Addr} {H : Hp} {xs : List V} (h : AllG K d H xs) : AllF K d H xs := fun x hx => let ⟨s, q⟩ := h x hx; ⟨some s, q⟩
theorem AllG.same {K : PySem.W.Frag} {d : Addr} {H H' : Hp} (e : Same H H') {xs : List V} (h : AllG K d H xs) : AllG K d H' xs := fun x hx => let ⟨s, q⟩ := h x hx; ⟨s, q.same e⟩
theorem AllF.same {K : PySem.W.Frag} {d : Addr} {H H' : Hp} (e : Same H H') {xs : List V} (h : AllF K d H xs) : AllF K d H' xs := fun x hx => let ⟨s, q⟩ := h x hx; ⟨s, q.same e⟩
theorem AllG.pool {K : PySem.W.Frag} {d : Addr} {H H' : Hp} {o qq : Addr} (b : SameBut o H H') (p : PoolAt H o qq) (p' : PoolAt H' o qq) {xs : List V} (h : AllG K d H xs) : AllG K d H' xs := fun x hx => let ⟨s, q⟩ := h x hx; ⟨s, q.pool b p p'⟩
theorem AllF.pool {K : PySem.W.Frag} {d : Addr} {H H' : Hp} {o qq : Addr} (b : SameBut o H H') (p : PoolAt H o qq) (p' : PoolAt H' o qq) {xs : List V} (h : AllF K d H xs) : AllF K d H' xs := fun x hx => let ⟨s, q⟩ := h x hx; ⟨s, q.pool b p p'⟩
theorem AllG.more {K : PySem.W.Frag} {d D : Addr} {H : Hp} {zs ys : List V} {v : V} {s : Step} {u : HO} (hD : H D = some (.lst zs)) (ag : AllG K d H ys) (fv : FV K d H v (some s)) : AllG K d (upd H D u) (ys ++ [v]) := by
  intro x hx
  rcases List.mem_append.mp hx with hx | hx
  · obtain ⟨s', h'⟩ := ag x hx
    cases h' with
    | good a b c f g => exact ⟨_, .good (sqT_updL hD a) b c f g⟩
  · rcases List.mem_cons.mp hx with rfl | hx
    · cases fv with
      | good a b c f g => exact ⟨_, .good (sqT_updL hD a) b c f g⟩
    · cases hx
theorem none_back {H H' : Hp} {o qq a : Addr} (b : SameBut o H H') (p : PoolAt H' o qq) (n : H' a = none) : H a = none := by
  cases e : H a with
  | none => rfl
  | some u =>
    by_cases ea : a = o
    · obtain ⟨a', n', h1, _⟩ := p
      rw [ea, h1] at n
      cases n
    · rw [b _ _ ea e] at n
      cases n
/-- what the law's names are -/
def NameOk (n : Str) : Prop := n.length ≤ 1000 ∧ sOk n ∧ nameB n = true
def W20 : List Str := (["cancel", "bar", "halt", "settle", "close", "drain", "set", "clear"] : List Str) ++ (List.replicate 6 (["take", "give"] : List Str)).flatten
theorem w20_10 : ∀ w ∈ W20, w ∈ W10 := by decide +kernel
theorem take10 : ("take" : Str) ∈ W10 := by decide +kernel
theorem give10 : ("give" : Str) ∈ W10 := by decide +kernel
theorem allF_nil {K : PySem.W.Frag} {d : Addr} {H : Hp} : AllF K d H [] := fun x hx => by cases hx
theorem allF_cons {K : PySem.W.Frag} {d : Addr} {H : Hp} {x : V} {xs : List V} (h : ∃ r, FV K d H x r) (t : AllF K d H xs) : AllF K d H (x :: xs) := fun y hy => by
  rcases List.mem_cons.mp hy with rfl | hy
  · exact h
  · exact t y hy
theorem fn_str {K : PySem.W.Frag} {H : Hp} {z : Str} (h1 : z.length ≤ 1000) (h2 : sOk z) (h3 : nameB z = false) : FN K H (.str z) false := by
  have e := FN.str (K := K) (H := H) z h1 h2
  rw [h3] at e
  exact e
def spListed (K : PySem.W.Frag) (d : Addr) : Sp := fun vs H Q _ => ∃ (o qq nl : Addr) (ns : List Str), vs = [.ref o, .ref nl] ∧ PoolAt H o qq ∧ nl ≠ o ∧ SqL K H nl (ns.map V.str) ∧ ns ≠ [] ∧ ns.length ≤ 1000 ∧ (∀ n ∈ ns, NameOk n) ∧
  ∀ H' l xs rs, SameBut o H H' → PoolAt H' o qq → H l = none → H' l = some (.lst xs) → All2 (FV K d H') xs rs → rs.length ≤ 60 → Q (.ref l) H'
section
variable {P : Program} {w : World} {K : PySem.W.Frag} {mg : Str → Option Value} {base : Heap}
abbrev sLi : Stmt := top 33
theorem scLi : FnScope ["_law_pool_here", "_law_names", "_law_words", "_law_found", "_law_odd", "_law_at", "_law_turn", "_law_step", "_law_word", "_law_name"] ["_law_pool_here", "_law_names"] (defScope sLi) := ⟨rfl, rfl, rfl, by decide +kernel, rfl, by decide +kernel, by decide +kernel⟩
theorem ok_listed {f fD fP d : Addr} {fd fdD fdP : FuncData} (F : Fun K "_law_listed" "_law_listed" sLi f fd) (GD : FnOk P w K mg base CX0 1 fD fdD ["_law_pool_here", "_law_many"] (spDraw K)) (TD : Called K mg "_law_draw" ["_law_pool_here", "_law_many"] fD fdD)
    (GP : FnOk P w K mg base CX0 2 fP fdP ["_law_pool_here", "_law_some"] (spPick K)) (TP : Called K mg "_law_pick" ["_law_pool_here", "_law_some"] fP fdP) (m_range : mg "range" = none) (m_len : mg "len" = none)
    (nUse : PySem.W.nsIn K d "use" = some none) (nStart : PySem.W.nsIn K d "start" = some none) : FnOk P w K mg base CX0 3 f fd ["_law_pool_here", "_law_names"] (spListed K d) := by
  refine F.ok scLi (fun vs H Q E h => ?_) (fun cdv A outer s H vs Q E hr h => ?_)
  · obtain ⟨o, qq, nl, ns, rfl, _⟩ := h
    rfl
  · obtain ⟨o, qq, nl, ns, rfl, hp, nn, hns, ne, hz, hok, q⟩ := h
    refine ⟨_, (pss_cons (ps_set (i := 2) scLi.nd rfl (.inr rfl) (pe_op op_cat (pe_lst (pa_cons pe_str (pa_cons pe_str (pa_cons pe_str (pa_cons pe_str (pa_cons pe_str (pa_cons pe_str (pa_cons pe_str (pa_cons pe_str pa_nil))))))))) (pe_op op_rep (pe_lst (pa_cons pe_str (pa_cons pe_str pa_nil))) pe_int)))
       (pss_cons (ps_setLc (i := 3) (own := [("_law_turn", 6)]) (g := gName 6) (by rfl) scLi.nd rfl rfl (sw_true rfl rfl rfl (by decide +kernel)) (pi_range1 rfl m_range (pa_cons (pe_call GD (hr.mono (by decide)) rfl TD.1 TD.2.1 TD.2.2 .nil pass0 (pa_cons (pv 0) (pa_cons pe_int pa_nil))) pa_nil)) (blkOk_by (own := [("_law_turn", 6)]) (N := ["_law_pool_here", "_law_names", "_law_words", "_law_found", "_law_odd", "_law_at", "_law_turn", "_law_step", "_law_word", "_law_name"]) (sc := defScope sLi) (by decide +kernel)) (fun _ _ _ _ _ => (pg_name (i := 6) scLi.nd rfl (Or.inl rfl))) (fun _ _ _ _ _ => pts_nil) (fun _ _ _ _ _ => (pe_tup (pa_cons (pe_call GP (hr.mono (by decide)) rfl TP.1 TP.2.1 TP.2.2 .nil pass0 (pa_cons (pv 0) (pa_cons (pv 2) pa_nil))) (pa_cons (pe_call GP (hr.mono (by decide)) rfl TP.1 TP.2.1 TP.2.2 .nil pass0 (pa_cons (pv 0) (pa_cons (pv 1) pa_nil))) pa_nil)))))
       (pss_cons (ps_if (pt_cmpR op_eq (pe_call GD (hr.mono (by decide)) rfl TD.1 TD.2.1 TD.2.2 .nil pass0 (pa_cons (pv 0) (pa_cons pe_int pa_nil))) pe_int (nomark _))
       (pss_cons (ps_setLc (i := 3) (own := [("_law_step", 7)]) (g := gName 7) (by rfl) scLi.nd rfl rfl (sw_true rfl rfl rfl (by decide +kernel)) (pi_list (pe_slice sl_list (pv 3) po_none (po_some pe_int))) (blkOk_by (own := [("_law_step", 7)]) (N := ["_law_pool_here", "_law_names", "_law_words", "_law_found", "_law_odd", "_law_at", "_law_turn", "_law_step", "_law_word", "_law_name"]) (sc := defScope sLi) (by decide +kernel)) (fun _ _ _ _ _ => (pg_name (i := 7) scLi.nd rfl (Or.inl rfl))) (fun _ _ _ _ _ => pts_nil) (fun _ _ _ _ _ => (pe_ifExp (pt_cmpR (op_in_seqK (K := K) rfl) (pe_ix (ix_tupK (K := K) rfl) (pv 7) pe_int (fun _ _ => rfl)) (pe_lst (pa_cons pe_str (pa_cons pe_str pa_nil))) (by rfl)) (pv 7) (pe_tup (pa_cons pe_str (pa_cons (pe_ix (ix_listK (K := K) rfl) (pv 1) pe_int (fun _ _ => rfl)) pa_nil))))))
       (pss_one (ps_set (i := 3) scLi.nd rfl (.inl rfl) (pe_op op_cat (pv 3) (pe_lc (own := [("_law_word", 8), ("_law_name", 9)]) (g := gTup K 2 (gCons (gName 8) (gCons (gName 9) gNil))) (by rfl) scLi.nd (pi_list (pe_revL (pv 3))) (blkOk_by (own := [("_law_word", 8), ("_law_name", 9)]) (N := ["_law_pool_here", "_law_names", "_law_words", "_law_found", "_law_odd", "_law_at", "_law_turn", "_law_step", "_law_word", "_law_name"]) (sc := defScope sLi) (by decide +kernel)) (fun _ _ _ _ _ => pg_tup rfl (pgs_cons (pg_name (i := 8) scLi.nd rfl (Or.inl rfl)) (pgs_cons (pg_name (i := 9) scLi.nd rfl (Or.inl rfl)) pgs_nil))) (fun _ _ _ _ _ => pts_one (pt_cmpR op_eq (pv 8) pe_str (nomark _))) (fun _ _ _ _ _ => (pe_tup (pa_cons pe_str (pa_cons (pv 9) pa_nil)))))))))
       pss_nil)
       (pss_cons (ps_set (i := 4) scLi.nd rfl (.inl rfl) (pe_lst (pa_cons pe_non (pa_cons (pe_tup pa_nil) (pa_cons pe_str (pa_cons (pe_tup (pa_cons pe_str (pa_cons pe_str pa_nil))) (pa_cons (pe_tup (pa_cons pe_str pa_nil)) (pa_cons (pe_tup (pa_cons pe_str (pa_cons pe_str pa_nil))) (pa_cons (pe_tup (pa_cons pe_str (pa_cons pe_str pa_nil))) (pa_cons (pe_tup (pa_cons pe_str (pa_cons pe_str pa_nil))) (pa_cons (pe_tup (pa_cons pe_str (pa_cons pe_int pa_nil))) (pa_cons pe_int pa_nil))))))))))))
       (pss_cons (ps_set (i := 4) scLi.nd rfl (.inl rfl) (pe_op op_cat (pv 4) (pe_lst (pa_cons (pe_lst (pa_cons pe_str (pa_cons pe_str pa_nil))) (pa_cons (pe_tup (pa_cons pe_str (pa_cons pe_str (pa_cons pe_str pa_nil)))) (pa_cons (pe_tup (pa_cons pe_str (pa_cons pe_str pa_nil))) (pa_cons (pe_tup (pa_cons pe_non (pa_cons pe_str pa_nil))) (pa_cons (pe_tup (pa_cons pe_str pa_nil)) (pa_cons (pe_tup (pa_cons pe_str (pa_cons pe_str pa_nil))) (pa_cons pe_bl pa_nil))))))))))
       (pss_cons (ps_if (pt_cmpR op_eq (pe_call GD (hr.mono (by decide)) rfl TD.1 TD.2.1 TD.2.2 .nil pass0 (pa_cons (pv 0) (pa_cons pe_int pa_nil))) pe_int (nomark _))
       (pss_cons (ps_set (i := 5) scLi.nd rfl (.inl rfl) (pe_call GD (hr.mono (by decide)) rfl TD.1 TD.2.1 TD.2.2 .nil pass0 (pa_cons (pv 0) (pa_cons (pe_op op_add (pe_callB call_len_seq (by rfl) m_len PySem.boot_len (pa_cons (pv 3) pa_nil)) pe_int) pa_nil))))
       (pss_one (ps_set (i := 3) scLi.nd rfl (.inl rfl) (pe_op op_cat (pe_op op_cat (pe_slice sl_list (pv 3) po_none (po_some (pv 5))) (pe_lst (pa_cons (pe_call GP (hr.mono (by decide)) rfl TP.1 TP.2.1 TP.2.2 .nil pass0 (pa_cons (pv 0) (pa_cons (pv 4) pa_nil))) pa_nil))) (pe_slice sl_list (pv 3) (po_some (pv 5)) po_none)))))
       pss_nil)
       (pss_one (ps_ret (pv 3))))))))), ?_⟩
    refine ⟨by show 8 ≤ sizeLine; decide, fun w1 m1 => ⟨by show 2 ≤ sizeLine; decide, fun w2 m2 => ?_⟩⟩
    refine ⟨w2, 6, _, rfl, rfl, upd_same, by decide, by decide, by show 2 * 6 ≤ sizeLine; decide, fun w3 m3 => ?_⟩
    have t1 := same_upd (o := HO.lst [V.str "cancel", V.str "bar", V.str "halt", V.str "settle", V.str "close", V.str "drain", V.str "set", V.str "clear"]) m1
    have t2 := same_upd (o := HO.lst [V.str "take", V.str "give"]) m2
    have t3 := same_upd (o := HO.lst (List.replicate (6 : Int).toNat [V.str "take", V.str "give"]).flatten) m3
    refine ⟨w1, w3, _, _, rfl, rfl, t3 _ _ (t2 _ _ upd_same), upd_same, by show 8 + 12 ≤ sizeLine; decide, fun lw m4 => ?_⟩
    have eW : [V.str "cancel", V.str "bar", V.str "halt", V.str "settle", V.str "close", V.str "drain", V.str "set", V.str "clear"] ++ (List.replicate (6 : Int).toNat [V.str "take", V.str "give"]).flatten = W20.map V.str := rfl
    rw [eW]
    have t4 := same_upd (o := HO.lst (W20.map V.str)) m4
    have t := ((t1.trans t2).trans t3).trans t4
    have nlo : lw ≠ o := by
      have p3 := hp.same ((t1.trans t2).trans t3)
      obtain ⟨a', n', h1, _⟩ := p3
      exact fun e => by rw [e, h1] at m4; cases m4
    have hw1 : SqL K (upd (upd (upd (upd H w1 (HO.lst [V.str "cancel", V.str "bar", V.str "halt", V.str "settle", V.str "close", V.str "drain", V.str "set", V.str "clear"])) w2 (HO.lst [V.str "take", V.str "give"])) w3 (HO.lst (List.replicate (6 : Int).toNat [V.str "take", V.str "give"]).flatten)) lw (.lst (W20.map V.str))) lw (W20.map V.str) := SqL.of upd_same
    have p1 := hp.same t
    revert t hw1 p1
    generalize upd (upd (upd (upd H w1 (HO.lst [V.str "cancel", V.str "bar", V.str "halt", V.str "settle", V.str "close", V.str "drain", V.str "set", V.str "clear"])) w2 (HO.lst [V.str "take", V.str "give"])) w3 (HO.lst (List.replicate (6 : Int).toNat [V.str "take", V.str "give"]).flatten)) lw (.lst (W20.map V.str)) = H1
    intro t hw1 p1
    refine ⟨_, rfl, o, qq, 11, rfl, p1, by decide, by decide, fun H2 n b2 p2 n0 n1 => ?_⟩
    have hw2 := sqL_but b2 nlo hw1
    have hns2 := sqL_but b2 nn (t.seq hns)
    refine ⟨n, rfl, by omega, by omega, fun D nD => lc_range (lo := 0) (n := n.toNat) (fun i H' => SameBut o H2 H' ∧ PoolAt H' o qq ∧ ∃ xs, H' D = some (.lst xs) ∧ xs.length = i ∧ AllG K d H' xs)
      ⟨but_of (same_upd nD), p2.same (same_upd nD), [], upd_same, rfl, fun x hx => by cases hx⟩ ?_ ?_⟩
    · rintro i H3 hi ⟨b3, p3, xs, hD, xl, ag⟩
      have nDo : D ≠ o := by
        obtain ⟨a', n', h1, _⟩ := p2
        exact fun e => by rw [e, h1] at nD; cases nD
      refine ⟨rfl, ?_⟩
      dsimp only [tYes]
      rw [if_pos rfl]
      refine ⟨_, rfl, _, rfl, o, qq, lw, _, rfl, p3, nlo, sqL_but b3 nlo hw2, by decide +kernel, by decide +kernel, fun H4 x1 b4 p4 m1 => ?_⟩
      refine ⟨_, rfl, _, rfl, o, qq, nl, _, rfl, p4, nn, sqL_but b4 nn (sqL_but b3 nn hns2), by intro z; exact ne (List.map_eq_nil_iff.mp z), by rw [List.length_map]; exact hz, fun H5 x2 b5 p5 m2 => ?_⟩
      refine ⟨by show 2 ≤ sizeLine; decide, fun y ny => ?_⟩
      have s6 := same_upd (o := HO.tup [x1, x2]) ny
      obtain ⟨w0, hw0, rfl⟩ := List.mem_map.mp m1
      obtain ⟨n0, hn0, rfl⟩ := List.mem_map.mp m2
      obtain ⟨ok1, ok2, ok3⟩ := hok n0 hn0
      have hD5 : H5 D = some (.lst xs) := b5 _ _ nDo (b4 _ _ nDo hD)
      have p6 := p5.same s6
      have g6 : AllG K d (upd H5 y (.tup [.str w0, .str n0])) xs := ((ag.pool b4 p3 p4).pool b5 p4 p5).same s6
      have e6 : FV K d (upd H5 y (.tup [.str w0, .str n0])) (.ref y) (some (w0, n0)) := .good (SqT.of upd_same) (w20_10 _ hw0) ok1 ok2 ok3
      have hD6 := s6 _ _ hD5
      have b6 : SameBut o H2 (upd H5 y (.tup [.str w0, .str n0])) := ((b3.trans b4).trans b5).trans (but_of s6)
      generalize upd H5 y (.tup [.str w0, .str n0]) = H6 at s6 p6 g6 e6 hD6 b6
      refine ⟨xs, hD6, by rw [sizeLine_eq]; omega, ?_, ?_, xs ++ [.ref y], upd_same, by rw [List.length_append, xl]; rfl, ?_⟩
      · exact fun b x nb e => by rw [upd_ne (ne_of_none e nD)]; exact b6 b x nb e
      · obtain ⟨a', n', h1, h2, h3, h4⟩ := p6
        obtain ⟨a'', n'', k1, k2, k3, k4⟩ := p2
        refine ⟨a', n', ?_, h2, ?_, h4⟩
        · rw [upd_ne (Ne.symm nDo)]
          exact h1
        · rw [upd_ne (ne_of_none k3 nD)]
          exact h3
      · intro x hx
        rcases List.mem_append.mp hx with hx | hx
        · obtain ⟨s', h'⟩ := g6 x hx
          cases h' with
          | good a b c f g => exact ⟨_, .good (sqT_updL hD6 a) b c f g⟩
        · rcases List.mem_cons.mp hx with rfl | hx
          · cases e6 with
            | good a b c f g => exact ⟨_, .good (sqT_updL hD6 a) b c f g⟩
          · cases hx
    · rintro H3 ⟨b3, p3, xs, hD, xl, ag⟩
      have nDo : D ≠ o := by
        obtain ⟨a', n', h1, _⟩ := p2
        exact fun e => by rw [e, h1] at nD; cases nD
      have x10 : xs.length ≤ 10 := by omega
      have nDH : H D = none := t.free ((show H1 D = none from by
        cases e : H1 D with
        | none => rfl
        | some u => rw [b2 _ _ nDo e] at nD; cases nD))
      have b03 : SameBut o H H3 := (but_of t).trans (b2.trans b3)
      have hns3 := sqL_but b3 nn hns2
      refine ⟨_, rfl, o, qq, 2, rfl, p3, by decide, by decide, fun H4 n4 b4 p4 _ _ => ⟨rfl, _, rfl, ?_⟩⟩
      have ag4 := ag.pool b4 p3 p4
      have hD4 := b4 _ _ nDo hD
      have b04 := b03.trans b4
      have hns4 := sqL_but b4 nn hns3
      cases hdec : decide (V.int n4 = V.int 0) with
      | false =>
        refine iteF ?_
        have x20 : xs.length ≤ 20 := by omega
        refine ⟨by show 0 ≤ sizeLine; decide, fun a1 na1 => ?_⟩
        have sa1 := same_upd (o := HO.tup []) na1
        have ea1 : (upd H4 a1 (HO.tup [])) a1 = some (HO.tup []) := upd_same
        generalize upd H4 a1 (HO.tup []) = Ha1 at sa1 ea1
        refine ⟨by show 2 ≤ sizeLine; decide, fun a2 na2 => ?_⟩
        have sa2 := same_upd (o := HO.tup [V.str "use", V.str "a"]) na2
        have ea2 : (upd Ha1 a2 (HO.tup [V.str "use", V.str "a"])) a2 = some (HO.tup [V.str "use", V.str "a"]) := upd_same
        generalize upd Ha1 a2 (HO.tup [V.str "use", V.str "a"]) = Ha2 at sa2 ea2
        refine ⟨by show 1 ≤ sizeLine; decide, fun a3 na3 => ?_⟩
        have sa3 := same_upd (o := HO.tup [V.str "take"]) na3
        have ea3 : (upd Ha2 a3 (HO.tup [V.str "take"])) a3 = some (HO.tup [V.str "take"]) := upd_same
        generalize upd Ha2 a3 (HO.tup [V.str "take"]) = Ha3 at sa3 ea3
        refine ⟨by show 2 ≤ sizeLine; decide, fun a4 na4 => ?_⟩
        have sa4 := same_upd (o := HO.tup [V.str "give", V.str ""]) na4
        have ea4 : (upd Ha3 a4 (HO.tup [V.str "give", V.str ""])) a4 = some (HO.tup [V.str "give", V.str ""]) := upd_same
        generalize upd Ha3 a4 (HO.tup [V.str "give", V.str ""]) = Ha4 at sa4 ea4
        refine ⟨by show 2 ≤ sizeLine; decide, fun a5 na5 => ?_⟩
        have sa5 := same_upd (o := HO.tup [V.str "bar", V.str "A"]) na5
        have ea5 : (upd Ha4 a5 (HO.tup [V.str "bar", V.str "A"])) a5 = some (HO.tup [V.str "bar", V.str "A"]) := upd_same
        generalize upd Ha4 a5 (HO.tup [V.str "bar", V.str "A"]) = Ha5 at sa5 ea5
        refine ⟨by show 2 ≤ sizeLine; decide, fun a6 na6 => ?_⟩
        have sa6 := same_upd (o := HO.tup [V.str "halt", V.str "abcdefghi"]) na6
        have ea6 : (upd Ha5 a6 (HO.tup [V.str "halt", V.str "abcdefghi"])) a6 = some (HO.tup [V.str "halt", V.str "abcdefghi"]) := upd_same
        generalize upd Ha5 a6 (HO.tup [V.str "halt", V.str "abcdefghi"]) = Ha6 at sa6 ea6
        refine ⟨by show 2 ≤ sizeLine; decide, fun a7 na7 => ?_⟩
        have sa7 := same_upd (o := HO.tup [V.str "set", V.int 1]) na7
        have ea7 : (upd Ha6 a7 (HO.tup [V.str "set", V.int 1])) a7 = some (HO.tup [V.str "set", V.int 1]) := upd_same
        generalize upd Ha6 a7 (HO.tup [V.str "set", V.int 1]) = Ha7 at sa7 ea7
        refine ⟨by show 10 ≤ sizeLine; decide, fun l1 nl1 => ?_⟩
        have sl1 := same_upd (o := HO.lst [V.non, V.ref a1, V.str "take", V.ref a2, V.ref a3, V.ref a4, V.ref a5, V.ref a6, V.ref a7, V.int 0]) nl1
        have el1 : (upd Ha7 l1 (HO.lst [V.non, V.ref a1, V.str "take", V.ref a2, V.ref a3, V.ref a4, V.ref a5, V.ref a6, V.ref a7, V.int 0])) l1 = some (HO.lst [V.non, V.ref a1, V.str "take", V.ref a2, V.ref a3, V.ref a4, V.ref a5, V.ref a6, V.ref a7, V.int 0]) := upd_same
        generalize upd Ha7 l1 (HO.lst [V.non, V.ref a1, V.str "take", V.ref a2, V.ref a3, V.ref a4, V.ref a5, V.ref a6, V.ref a7, V.int 0]) = Hl1 at sl1 el1
        refine ⟨_, rfl, by show 2 ≤ sizeLine; decide, fun b1 nb1 => ?_⟩
        have sb1 := same_upd (o := HO.lst [V.str "bar", V.str "a"]) nb1
        have eb1 : (upd Hl1 b1 (HO.lst [V.str "bar", V.str "a"])) b1 = some (HO.lst [V.str "bar", V.str "a"]) := upd_same
        generalize upd Hl1 b1 (HO.lst [V.str "bar", V.str "a"]) = Hb1 at sb1 eb1
        refine ⟨by show 3 ≤ sizeLine; decide, fun b2 nb2 => ?_⟩
        have sb2 := same_upd (o := HO.tup [V.str "bar", V.str "a", V.str "a"]) nb2
        have eb2 : (upd Hb1 b2 (HO.tup [V.str "bar", V.str "a", V.str "a"])) b2 = some (HO.tup [V.str "bar", V.str "a", V.str "a"]) := upd_same
        generalize upd Hb1 b2 (HO.tup [V.str "bar", V.str "a", V.str "a"]) = Hb2 at sb2 eb2
        refine ⟨by show 2 ≤ sizeLine; decide, fun b3 nb3 => ?_⟩
        have sb3 := same_upd (o := HO.tup [V.str "start", V.str "a"]) nb3
        have eb3 : (upd Hb2 b3 (HO.tup [V.str "start", V.str "a"])) b3 = some (HO.tup [V.str "start", V.str "a"]) := upd_same
        generalize upd Hb2 b3 (HO.tup [V.str "start", V.str "a"]) = Hb3 at sb3 eb3
        refine ⟨by show 2 ≤ sizeLine; decide, fun b4 nb4 => ?_⟩
        have sb4 := same_upd (o := HO.tup [V.non, V.str "a"]) nb4
        have eb4 : (upd Hb3 b4 (HO.tup [V.non, V.str "a"])) b4 = some (HO.tup [V.non, V.str "a"]) := upd_same
        generalize upd Hb3 b4 (HO.tup [V.non, V.str "a"]) = Hb4 at sb4 eb4
        refine ⟨by show 1 ≤ sizeLine; decide, fun b5 nb5 => ?_⟩
        have sb5 := same_upd (o := HO.tup [V.str "free"]) nb5
        have eb5 : (upd Hb4 b5 (HO.tup [V.str "free"])) b5 = some (HO.tup [V.str "free"]) := upd_same
        generalize upd Hb4 b5 (HO.tup [V.str "free"]) = Hb5 at sb5 eb5
        refine ⟨by show 2 ≤ sizeLine; decide, fun b6 nb6 => ?_⟩
        have sb6 := same_upd (o := HO.tup [V.str "drain", V.str "a b"]) nb6
        have eb6 : (upd Hb5 b6 (HO.tup [V.str "drain", V.str "a b"])) b6 = some (HO.tup [V.str "drain", V.str "a b"]) := upd_same
        generalize upd Hb5 b6 (HO.tup [V.str "drain", V.str "a b"]) = Hb6 at sb6 eb6
        refine ⟨by show 7 ≤ sizeLine; decide, fun l2 nl2 => ?_⟩
        have sl2 := same_upd (o := HO.lst [V.ref b1, V.ref b2, V.ref b3, V.ref b4, V.ref b5, V.ref b6, V.bl true]) nl2
        have el2 : (upd Hb6 l2 (HO.lst [V.ref b1, V.ref b2, V.ref b3, V.ref b4, V.ref b5, V.ref b6, V.bl true])) l2 = some (HO.lst [V.ref b1, V.ref b2, V.ref b3, V.ref b4, V.ref b5, V.ref b6, V.bl true]) := upd_same
        generalize upd Hb6 l2 (HO.lst [V.ref b1, V.ref b2, V.ref b3, V.ref b4, V.ref b5, V.ref b6, V.bl true]) = Hl2 at sl2 el2
        refine ⟨l1, l2, _, _, rfl, rfl, ((((((sb1.trans sb2).trans sb3).trans sb4).trans sb5).trans sb6).trans sl2) _ _ el1, el2, by show 10 + 7 ≤ sizeLine; decide, fun l3 nl3 => ?_⟩
        have sl3 := same_upd (o := HO.lst ([V.non, V.ref a1, V.str "take", V.ref a2, V.ref a3, V.ref a4, V.ref a5, V.ref a6, V.ref a7, V.int 0] ++ [V.ref b1, V.ref b2, V.ref b3, V.ref b4, V.ref b5, V.ref b6, V.bl true])) nl3
        have el3 : (upd Hl2 l3 (HO.lst ([V.non, V.ref a1, V.str "take", V.ref a2, V.ref a3, V.ref a4, V.ref a5, V.ref a6, V.ref a7, V.int 0] ++ [V.ref b1, V.ref b2, V.ref b3, V.ref b4, V.ref b5, V.ref b6, V.bl true]))) l3 = some (HO.lst ([V.non, V.ref a1, V.str "take", V.ref a2, V.ref a3, V.ref a4, V.ref a5, V.ref a6, V.ref a7, V.int 0] ++ [V.ref b1, V.ref b2, V.ref b3, V.ref b4, V.ref b5, V.ref b6, V.bl true])) := upd_same
        generalize upd Hl2 l3 (HO.lst ([V.non, V.ref a1, V.str "take", V.ref a2, V.ref a3, V.ref a4, V.ref a5, V.ref a6, V.ref a7, V.int 0] ++ [V.ref b1, V.ref b2, V.ref b3, V.ref b4, V.ref b5, V.ref b6, V.bl true])) = Hl3 at sl3 el3
        have sT := (((((((((((((((sa1.trans sa2).trans sa3).trans sa4).trans sa5).trans sa6).trans sa7).trans sl1).trans sb1).trans sb2).trans sb3).trans sb4).trans sb5).trans sb6).trans sl2).trans sl3)
        have ka1 := ((((((((((((((sa2.trans sa3).trans sa4).trans sa5).trans sa6).trans sa7).trans sl1).trans sb1).trans sb2).trans sb3).trans sb4).trans sb5).trans sb6).trans sl2).trans sl3) _ _ ea1
        have ka2 := (((((((((((((sa3.trans sa4).trans sa5).trans sa6).trans sa7).trans sl1).trans sb1).trans sb2).trans sb3).trans sb4).trans sb5).trans sb6).trans sl2).trans sl3) _ _ ea2
        have ka3 := ((((((((((((sa4.trans sa5).trans sa6).trans sa7).trans sl1).trans sb1).trans sb2).trans sb3).trans sb4).trans sb5).trans sb6).trans sl2).trans sl3) _ _ ea3
        have ka4 := (((((((((((sa5.trans sa6).trans sa7).trans sl1).trans sb1).trans sb2).trans sb3).trans sb4).trans sb5).trans sb6).trans sl2).trans sl3) _ _ ea4
        have ka5 := ((((((((((sa6.trans sa7).trans sl1).trans sb1).trans sb2).trans sb3).trans sb4).trans sb5).trans sb6).trans sl2).trans sl3) _ _ ea5
        have ka6 := (((((((((sa7.trans sl1).trans sb1).trans sb2).trans sb3).trans sb4).trans sb5).trans sb6).trans sl2).trans sl3) _ _ ea6
        have ka7 := ((((((((sl1.trans sb1).trans sb2).trans sb3).trans sb4).trans sb5).trans sb6).trans sl2).trans sl3) _ _ ea7
        have kb1 := ((((((sb2.trans sb3).trans sb4).trans sb5).trans sb6).trans sl2).trans sl3) _ _ eb1
        have kb2 := (((((sb3.trans sb4).trans sb5).trans sb6).trans sl2).trans sl3) _ _ eb2
        have kb3 := ((((sb4.trans sb5).trans sb6).trans sl2).trans sl3) _ _ eb3
        have kb4 := (((sb5.trans sb6).trans sl2).trans sl3) _ _ eb4
        have kb5 := ((sb6.trans sl2).trans sl3) _ _ eb5
        have kb6 := (sl2.trans sl3) _ _ eb6
        have aO : AllF K d Hl3 ([V.non, V.ref a1, V.str "take", V.ref a2, V.ref a3, V.ref a4, V.ref a5, V.ref a6, V.ref a7, V.int 0] ++ [V.ref b1, V.ref b2, V.ref b3, V.ref b4, V.ref b5, V.ref b6, V.bl true]) := (allF_cons ⟨none, .other (.base .non) (by decide)⟩ (allF_cons ⟨none, .len (SqT.of ka1) (by decide)⟩ (allF_cons ⟨none, .other (.base (.str _)) (by decide)⟩ (allF_cons ⟨none, .word (SqT.of ka2) (by decide +kernel) nUse⟩ (allF_cons ⟨none, .len (SqT.of ka3) (by decide)⟩ (allF_cons ⟨none, .name (SqT.of ka4) (by decide +kernel) (fn_str (by decide +kernel) (by decide +kernel) (by decide +kernel))⟩ (allF_cons ⟨none, .name (SqT.of ka5) (by decide +kernel) (fn_str (by decide +kernel) (by decide +kernel) (by decide +kernel))⟩ (allF_cons ⟨none, .name (SqT.of ka6) (by decide +kernel) (fn_str (by decide +kernel) (by decide +kernel) (by decide +kernel))⟩ (allF_cons ⟨none, .name (SqT.of ka7) (by decide +kernel) (.other (.base (.int 1)) (by decide))⟩ (allF_cons ⟨none, .other (.base (.int 0)) (by decide)⟩ (allF_cons ⟨none, .other (.base (.lst kb1)) (by decide)⟩ (allF_cons ⟨none, .len (SqT.of kb2) (by decide)⟩ (allF_cons ⟨none, .word (SqT.of kb3) (by decide +kernel) nStart⟩ (allF_cons ⟨none, .first (SqT.of kb4) (.base .non) (by decide) rfl (by decide +kernel)⟩ (allF_cons ⟨none, .len (SqT.of kb5) (by decide)⟩ (allF_cons ⟨none, .name (SqT.of kb6) (by decide +kernel) (fn_str (by decide +kernel) (by decide +kernel) (by decide +kernel))⟩ (allF_cons ⟨none, .other (.base (.bl true)) (by decide)⟩ (allF_nil))))))))))))))))))
        generalize hO : ([V.non, V.ref a1, V.str "take", V.ref a2, V.ref a3, V.ref a4, V.ref a5, V.ref a6, V.ref a7, V.int 0] ++ [V.ref b1, V.ref b2, V.ref b3, V.ref b4, V.ref b5, V.ref b6, V.bl true]) = od at el3 aO
        have oN : od ≠ [] := by rw [← hO]; exact List.cons_ne_nil _ _
        have oL : od.length = 17 := by rw [← hO]; rfl
        have pT := p4.same sT
        have bT := b04.trans (but_of sT)
        have hfT := sT _ _ hD4
        have agT := ag4.same sT
        have l3o : l3 ≠ o := by
          obtain ⟨a', n', h1, _⟩ := p4.same ((((((((((((((sa1.trans sa2).trans sa3).trans sa4).trans sa5).trans sa6).trans sa7).trans sl1).trans sb1).trans sb2).trans sb3).trans sb4).trans sb5).trans sb6).trans sl2)
          exact fun e => by rw [e, h1] at nl3; cases nl3
        refine ⟨_, rfl, o, qq, 3, rfl, pT, by decide, by decide, fun Hg n3 bg pg _ _ => ⟨rfl, _, rfl, ?_⟩⟩
        have hfg := bg _ _ nDo hfT
        have agg := agT.pool bg pT pg
        cases hd3 : decide (V.int n3 = V.int 0) with
        | false =>
          obtain ⟨rs, hrs⟩ := AllF.all2 agg.f
          exact iteF ⟨_, rfl, q Hg D _ rs (bT.trans bg) pg nDH hfg hrs (by rw [← hrs.length]; omega)⟩
        | true =>
          refine iteT ?_
          refine ⟨_, rfl, _, rfl, D, _, rfl, .inl (SqL.of hfg), _, _, rfl, rfl, o, qq, _, rfl, pg, by omega, by omega, fun Hh at1 bh ph i0 i1 => ?_⟩
          have hfh := bh _ _ nDo hfg
          have agh := agg.pool bh pg ph
          have aOh := (aO.pool bg pT pg).pool bh pg ph
          have el3h := bh _ _ l3o (bg _ _ l3o el3)
          refine ⟨_, rfl, _, rfl, _, rfl, ?_⟩
          dsimp only [tNoPart]
          refine ⟨D, _, rfl, SqL.of hfh, fun u1 nu1 => ?_⟩
          have su1 := same_upd (o := HO.lst (cutV xs none (some at1))) nu1
          have eu1 : (upd Hh u1 (HO.lst (cutV xs none (some at1)))) u1 = some (HO.lst (cutV xs none (some at1))) := upd_same
          generalize upd Hh u1 (HO.lst (cutV xs none (some at1))) = Hu1 at su1 eu1
          have pu1 := ph.same su1
          have u1o : u1 ≠ o := by
            obtain ⟨a', n', h1, _⟩ := ph
            exact fun e => by rw [e, h1] at nu1; cases nu1
          refine ⟨_, rfl, _, rfl, o, qq, l3, _, rfl, pu1, l3o, SqL.of (su1 _ _ el3h), oN, by omega, fun Hk x bk pk mx => ⟨by show 1 ≤ sizeLine; decide, fun u2 nu2 => ?_⟩⟩
          have su2 := same_upd (o := HO.lst ([x])) nu2
          have eu2 : (upd Hk u2 (HO.lst ([x]))) u2 = some (HO.lst ([x])) := upd_same
          generalize upd Hk u2 (HO.lst ([x])) = Hu2 at su2 eu2
          have cl1 := cutV_length xs none (some at1)
          have cl2 := cutV_length xs (some at1) none
          refine ⟨u1, u2, _, _, rfl, rfl, su2 _ _ (bk _ _ u1o eu1), eu2, by rw [sizeLine_eq]; show (cutV xs none (some at1)).length + 1 ≤ _; omega, fun u3 nu3 => ?_⟩
          have su3 := same_upd (o := HO.lst (cutV xs none (some at1) ++ [x])) nu3
          have eu3 : (upd Hu2 u3 (HO.lst (cutV xs none (some at1) ++ [x]))) u3 = some (HO.lst (cutV xs none (some at1) ++ [x])) := upd_same
          generalize upd Hu2 u3 (HO.lst (cutV xs none (some at1) ++ [x])) = Hu3 at su3 eu3
          have hf3 := su3 _ _ (su2 _ _ (bk _ _ nDo (su1 _ _ hfh)))
          refine ⟨_, rfl, _, rfl, _, rfl, ?_⟩
          dsimp only [tNoPart]
          refine ⟨D, _, rfl, SqL.of hf3, fun u4 nu4 => ?_⟩
          have su4 := same_upd (o := HO.lst (cutV xs (some at1) none)) nu4
          have eu4 : (upd Hu3 u4 (HO.lst (cutV xs (some at1) none))) u4 = some (HO.lst (cutV xs (some at1) none)) := upd_same
          generalize upd Hu3 u4 (HO.lst (cutV xs (some at1) none)) = Hu4 at su4 eu4
          refine ⟨u3, u4, _, _, rfl, rfl, su4 _ _ eu3, eu4, by rw [sizeLine_eq, List.length_append]; show (cutV xs none (some at1)).length + 1 + (cutV xs (some at1) none).length ≤ _; omega, fun u5 nu5 => ?_⟩
          have su5 := same_upd (o := HO.lst ((cutV xs none (some at1) ++ [x]) ++ cutV xs (some at1) none)) nu5
          have eu5 : (upd Hu4 u5 (HO.lst ((cutV xs none (some at1) ++ [x]) ++ cutV xs (some at1) none))) u5 = some (HO.lst ((cutV xs none (some at1) ++ [x]) ++ cutV xs (some at1) none)) := upd_same
          generalize upd Hu4 u5 (HO.lst ((cutV xs none (some at1) ++ [x]) ++ cutV xs (some at1) none)) = Hu5 at su5 eu5
          have s25 := ((su2.trans su3).trans su4).trans su5
          have aF : AllF K d Hu5 xs := ((agh.f.same su1).pool bk pu1 pk).same s25
          have aX : AllF K d Hu5 od := ((aOh.same su1).pool bk pu1 pk).same s25
          have aE : AllF K d Hu5 ((cutV xs none (some at1) ++ [x]) ++ cutV xs (some at1) none) := fun y hy => by
            rcases List.mem_append.mp hy with hy | hy
            · rcases List.mem_append.mp hy with hy | hy
              · exact aF y (List.mem_of_mem_drop (List.mem_of_mem_take hy))
              · rcases List.mem_cons.mp hy with rfl | hy
                · exact aX _ mx
                · cases hy
            · exact aF y (List.mem_of_mem_drop (List.mem_of_mem_take hy))
          obtain ⟨rs, hrs⟩ := AllF.all2 aE
          have bE := ((((bT.trans bg).trans bh).trans (but_of su1)).trans bk).trans (but_of s25)
          have pE := pk.same s25
          refine ⟨_, rfl, q Hu5 u5 _ rs bE pE ?_ eu5 hrs ?_⟩
          · exact none_back (((((bT.trans bg).trans bh).trans (but_of su1)).trans bk).trans (but_of ((su2.trans su3).trans su4))) (pk.same ((su2.trans su3).trans su4)) nu5
          · rw [← hrs.length, List.length_append, List.length_append]; show (cutV xs none (some at1)).length + 1 + (cutV xs (some at1) none).length ≤ 60; omega
      | true =>
        refine iteT ?_
        refine ⟨_, rfl, _, rfl, ?_⟩
        dsimp only [tNoPart]
        refine ⟨D, xs, rfl, SqL.of hD4, fun z nz => ?_⟩
        have s5 := same_upd (o := HO.lst (cutV xs none (some 4))) nz
        have hz5 : (upd H4 z (.lst (cutV xs none (some 4)))) z = some (.lst (cutV xs none (some 4))) := upd_same
        have c4 : (cutV xs none (some 4)).length ≤ 10 := Nat.le_trans (cutV_length _ _ _) x10
        have agc : AllG K d H4 (cutV xs none (some 4)) := fun x hx => ag4 x (List.mem_of_mem_drop (List.mem_of_mem_take hx))
        have agc5 := agc.same s5
        have p5 := p4.same s5
        have b05 := b04.trans (but_of s5)
        have hns5 := s5.seq hns4
        generalize cutV xs none (some 4) = cs at s5 hz5 c4 agc agc5 p5 b05 hns5
        generalize upd H4 z (.lst cs) = H5 at s5 hz5 agc5 p5 b05 hns5
        refine ⟨z, rfl, ⟨_, SqL.of hz5⟩, fun D2 nD2 => lc_list (K := K) (a := z) (xs := cs) (fun i H' => Same H5 H' ∧ ∃ ys, H' D2 = some (.lst ys) ∧ ys.length = i ∧ AllG K d H' ys)
          ⟨same_upd nD2, [], upd_same, rfl, fun x hx => by cases hx⟩ (fun i H' _ h => h.1.seq (SqL.of hz5)) ?_ ?_⟩
        · rintro i x H6 hx ⟨s6, ys, hD6, yl, ag6⟩
          refine ⟨rfl, ?_⟩
          dsimp only [tYes]
          rw [if_pos rfl]
          obtain ⟨stx, hstx⟩ := agc5 x (List.mem_of_getElem? hx)
          have fx := hstx.same s6
          have hi : i < cs.length := (List.getElem?_eq_some_iff.mp hx).1
          cases fx with
          | @good p wd nm a b c f g =>
            refine ⟨_, rfl, p, _, _, _, rfl, rfl, a, rfl, by show 2 ≤ sizeLine; decide, fun z2 nz2 => ⟨z2, _, rfl, .inl (SqL.of upd_same), rfl, rfl, _, rfl, ?_⟩⟩
            have s7 := same_upd (o := HO.lst [V.str "take", V.str "give"]) nz2
            generalize upd H6 z2 (.lst [V.str "take", V.str "give"]) = H7 at s7
            have hD7 := s7 _ _ hD6
            have ag7 := ag6.same s7
            have s57 := s6.trans s7
            show if inV (V.str wd) [V.str "take", V.str "give"] = true then _ else _
            cases hin : inV (V.str wd) [V.str "take", V.str "give"] with
            | true =>
              exact iteT ⟨_, rfl, ys, hD7, by rw [sizeLine_eq]; omega, same_updN nD2 s57, ys ++ [.ref p], upd_same, by rw [List.length_append, yl]; rfl, ag7.more hD7 (.good (s7.tupS a) b c f g)⟩
            | false =>
              obtain ⟨m0, mr, em⟩ : ∃ m0 mr, ns = m0 :: mr := by
                cases ns with
                | nil => exact absurd rfl ne
                | cons a b => exact ⟨a, b, rfl⟩
              have at0 : atI (ns.map V.str) ((0 : Nat) : Int) = some (V.str m0) := atI_nat (by rw [em]; rfl)
              obtain ⟨ok1, ok2, ok3⟩ := hok m0 (by rw [em]; exact List.mem_cons_self)
              refine iteF ⟨_, rfl, nl, _, _, _, rfl, rfl, s57.seq hns5, at0, by show 2 ≤ sizeLine; decide, fun y ny => ?_⟩
              have s8 := same_upd (o := HO.tup [V.str "take", V.str m0]) ny
              have fy : FV K d (upd H7 y (.tup [V.str "take", V.str m0])) (.ref y) (some ((("take" : Str)), m0)) := .good (SqT.of upd_same) take10 ok1 ok2 ok3
              generalize upd H7 y (.tup [V.str "take", V.str m0]) = H8 at s8 fy
              exact ⟨ys, s8 _ _ hD7, by rw [sizeLine_eq]; omega, same_updN nD2 (s57.trans s8), ys ++ [.ref y], upd_same, by rw [List.length_append, yl]; rfl, (ag7.same s8).more (s8 _ _ hD7) fy⟩
        · rintro H6 ⟨s6, ys, hD6, yl, ag6⟩
          refine ⟨_, rfl, _, rfl, D2, ys, rfl, SqL.of hD6, fun z3 nz3 => ?_⟩
          have s7 := same_upd (o := HO.lst ys.reverse) nz3
          have hz7 : (upd H6 z3 (.lst ys.reverse)) z3 = some (.lst ys.reverse) := upd_same
          generalize upd H6 z3 (.lst ys.reverse) = H7 at s7 hz7
          have hD7 := s7 _ _ hD6
          have ag7 := ag6.same s7
          refine ⟨z3, rfl, ⟨_, SqL.of hz7⟩, fun D3 nD3 => lc_list (K := K) (a := z3) (xs := ys.reverse) (fun i H' => Same H7 H' ∧ ∃ us, H' D3 = some (.lst us) ∧ us.length ≤ i ∧ AllG K d H' us)
            ⟨same_upd nD3, [], upd_same, Nat.le_refl _, fun x hx => by cases hx⟩ (fun i H' _ h => h.1.seq (SqL.of hz7)) ?_ ?_⟩
          · rintro i x H8 hx ⟨s8, us, hD8, ul, ag8⟩
            obtain ⟨stx, hstx⟩ := ag7 x (List.mem_reverse.mp (List.mem_of_getElem? hx))
            have hi : i < ys.reverse.length := (List.getElem?_eq_some_iff.mp hx).1
            rw [List.length_reverse] at hi
            have fx := hstx.same s8
            cases fx with
            | @good p wd nm a b c f g =>
              refine ⟨p, _, rfl, a, rfl, _, _, rfl, _, _, rfl, rfl, rfl, _, rfl, rfl, _, rfl, ?_⟩
              cases hdt : decide (V.str wd = V.str "take") with
              | false => exact iteF ⟨s8, us, hD8, by omega, ag8⟩
              | true =>
                refine iteT ⟨_, rfl, by show 2 ≤ sizeLine; decide, fun y ny => ?_⟩
                have s9 := same_upd (o := HO.tup [V.str "give", V.str nm]) ny
                have fy : FV K d (upd H8 y (.tup [V.str "give", V.str nm])) (.ref y) (some ((("give" : Str)), nm)) := .good (SqT.of upd_same) give10 c f g
                generalize upd H8 y (.tup [V.str "give", V.str nm]) = H9 at s9 fy
                exact ⟨us, s9 _ _ hD8, by rw [sizeLine_eq]; omega, same_updN nD3 (s8.trans s9), us ++ [.ref y], upd_same, by rw [List.length_append]; show us.length + 1 ≤ _; omega, (ag8.same s9).more (s9 _ _ hD8) fy⟩
          · rintro H8 ⟨s8, us, hD8, ul, ag8⟩
            rw [List.length_reverse] at ul
            refine ⟨D2, D3, ys, us, rfl, rfl, s8 _ _ hD7, hD8, by rw [sizeLine_eq]; omega, fun lf nlf => ?_⟩
            have slf := same_upd (o := HO.lst (ys ++ us)) nlf
            have elf : (upd H8 lf (.lst (ys ++ us))) lf = some (.lst (ys ++ us)) := upd_same
            have s58 := (s6.trans s7).trans s8
            have agf : AllG K d (upd H8 lf (.lst (ys ++ us))) (ys ++ us) := fun x hx => by
              rcases List.mem_append.mp hx with hx | hx
              · exact ((ag7.same s8).same slf) x hx
              · exact (ag8.same slf) x hx
            have p8 := p5.same s58
            have lfo : lf ≠ o := by
              obtain ⟨a', n', h1, _⟩ := p8
              exact fun e => by rw [e, h1] at nlf; cases nlf
            have b08 := b05.trans (but_of s58)
            have lfn : H lf = none := none_back b08 p8 nlf
            have pC := p8.same slf
            have bC := b08.trans (but_of slf)
            have x20 : (ys ++ us).length ≤ 20 := by rw [List.length_append]; omega
            generalize upd H8 lf (.lst (ys ++ us)) = HC at slf elf agf pC bC
            generalize ys ++ us = fs at elf agf x20
            refine ⟨by show 0 ≤ sizeLine; decide, fun a1 na1 => ?_⟩
            have sa1 := same_upd (o := HO.tup []) na1
            have ea1 : (upd HC a1 (HO.tup [])) a1 = some (HO.tup []) := upd_same
            generalize upd HC a1 (HO.tup []) = Ha1 at sa1 ea1
            refine ⟨by show 2 ≤ sizeLine; decide, fun a2 na2 => ?_⟩
            have sa2 := same_upd (o := HO.tup [V.str "use", V.str "a"]) na2
            have ea2 : (upd Ha1 a2 (HO.tup [V.str "use", V.str "a"])) a2 = some (HO.tup [V.str "use", V.str "a"]) := upd_same
            generalize upd Ha1 a2 (HO.tup [V.str "use", V.str "a"]) = Ha2 at sa2 ea2
            refine ⟨by show 1 ≤ sizeLine; decide, fun a3 na3 => ?_⟩
            have sa3 := same_upd (o := HO.tup [V.str "take"]) na3
            have ea3 : (upd Ha2 a3 (HO.tup [V.str "take"])) a3 = some (HO.tup [V.str "take"]) := upd_same
            generalize upd Ha2 a3 (HO.tup [V.str "take"]) = Ha3 at sa3 ea3
            refine ⟨by show 2 ≤ sizeLine; decide, fun a4 na4 => ?_⟩
            have sa4 := same_upd (o := HO.tup [V.str "give", V.str ""]) na4
            have ea4 : (upd Ha3 a4 (HO.tup [V.str "give", V.str ""])) a4 = some (HO.tup [V.str "give", V.str ""]) := upd_same
            generalize upd Ha3 a4 (HO.tup [V.str "give", V.str ""]) = Ha4 at sa4 ea4
            refine ⟨by show 2 ≤ sizeLine; decide, fun a5 na5 => ?_⟩
            have sa5 := same_upd (o := HO.tup [V.str "bar", V.str "A"]) na5
            have ea5 : (upd Ha4 a5 (HO.tup [V.str "bar", V.str "A"])) a5 = some (HO.tup [V.str "bar", V.str "A"]) := upd_same
            generalize upd Ha4 a5 (HO.tup [V.str "bar", V.str "A"]) = Ha5 at sa5 ea5
            refine ⟨by show 2 ≤ sizeLine; decide, fun a6 na6 => ?_⟩
            have sa6 := same_upd (o := HO.tup [V.str "halt", V.str "abcdefghi"]) na6
            have ea6 : (upd Ha5 a6 (HO.tup [V.str "halt", V.str "abcdefghi"])) a6 = some (HO.tup [V.str "halt", V.str "abcdefghi"]) := upd_same
            generalize upd Ha5 a6 (HO.tup [V.str "halt", V.str "abcdefghi"]) = Ha6 at sa6 ea6
            refine ⟨by show 2 ≤ sizeLine; decide, fun a7 na7 => ?_⟩
            have sa7 := same_upd (o := HO.tup [V.str "set", V.int 1]) na7
            have ea7 : (upd Ha6 a7 (HO.tup [V.str "set", V.int 1])) a7 = some (HO.tup [V.str "set", V.int 1]) := upd_same
            generalize upd Ha6 a7 (HO.tup [V.str "set", V.int 1]) = Ha7 at sa7 ea7
            refine ⟨by show 10 ≤ sizeLine; decide, fun l1 nl1 => ?_⟩
            have sl1 := same_upd (o := HO.lst [V.non, V.ref a1, V.str "take", V.ref a2, V.ref a3, V.ref a4, V.ref a5, V.ref a6, V.ref a7, V.int 0]) nl1
            have el1 : (upd Ha7 l1 (HO.lst [V.non, V.ref a1, V.str "take", V.ref a2, V.ref a3, V.ref a4, V.ref a5, V.ref a6, V.ref a7, V.int 0])) l1 = some (HO.lst [V.non, V.ref a1, V.str "take", V.ref a2, V.ref a3, V.ref a4, V.ref a5, V.ref a6, V.ref a7, V.int 0]) := upd_same
            generalize upd Ha7 l1 (HO.lst [V.non, V.ref a1, V.str "take", V.ref a2, V.ref a3, V.ref a4, V.ref a5, V.ref a6, V.ref a7, V.int 0]) = Hl1 at sl1 el1
            refine ⟨_, rfl, by show 2 ≤ sizeLine; decide, fun b1 nb1 => ?_⟩
            have sb1 := same_upd (o := HO.lst [V.str "bar", V.str "a"]) nb1
            have eb1 : (upd Hl1 b1 (HO.lst [V.str "bar", V.str "a"])) b1 = some (HO.lst [V.str "bar", V.str "a"]) := upd_same
            generalize upd Hl1 b1 (HO.lst [V.str "bar", V.str "a"]) = Hb1 at sb1 eb1
            refine ⟨by show 3 ≤ sizeLine; decide, fun b2 nb2 => ?_⟩
            have sb2 := same_upd (o := HO.tup [V.str "bar", V.str "a", V.str "a"]) nb2
            have eb2 : (upd Hb1 b2 (HO.tup [V.str "bar", V.str "a", V.str "a"])) b2 = some (HO.tup [V.str "bar", V.str "a", V.str "a"]) := upd_same
            generalize upd Hb1 b2 (HO.tup [V.str "bar", V.str "a", V.str "a"]) = Hb2 at sb2 eb2
            refine ⟨by show 2 ≤ sizeLine; decide, fun b3 nb3 => ?_⟩
            have sb3 := same_upd (o := HO.tup [V.str "start", V.str "a"]) nb3
            have eb3 : (upd Hb2 b3 (HO.tup [V.str "start", V.str "a"])) b3 = some (HO.tup [V.str "start", V.str "a"]) := upd_same
            generalize upd Hb2 b3 (HO.tup [V.str "start", V.str "a"]) = Hb3 at sb3 eb3
            refine ⟨by show 2 ≤ sizeLine; decide, fun b4 nb4 => ?_⟩
            have sb4 := same_upd (o := HO.tup [V.non, V.str "a"]) nb4
            have eb4 : (upd Hb3 b4 (HO.tup [V.non, V.str "a"])) b4 = some (HO.tup [V.non, V.str "a"]) := upd_same
            generalize upd Hb3 b4 (HO.tup [V.non, V.str "a"]) = Hb4 at sb4 eb4
            refine ⟨by show 1 ≤ sizeLine; decide, fun b5 nb5 => ?_⟩
            have sb5 := same_upd (o := HO.tup [V.str "free"]) nb5
            have eb5 : (upd Hb4 b5 (HO.tup [V.str "free"])) b5 = some (HO.tup [V.str "free"]) := upd_same
            generalize upd Hb4 b5 (HO.tup [V.str "free"]) = Hb5 at sb5 eb5
            refine ⟨by show 2 ≤ sizeLine; decide, fun b6 nb6 => ?_⟩
            have sb6 := same_upd (o := HO.tup [V.str "drain", V.str "a b"]) nb6
            have eb6 : (upd Hb5 b6 (HO.tup [V.str "drain", V.str "a b"])) b6 = some (HO.tup [V.str "drain", V.str "a b"]) := upd_same
            generalize upd Hb5 b6 (HO.tup [V.str "drain", V.str "a b"]) = Hb6 at sb6 eb6
            refine ⟨by show 7 ≤ sizeLine; decide, fun l2 nl2 => ?_⟩
            have sl2 := same_upd (o := HO.lst [V.ref b1, V.ref b2, V.ref b3, V.ref b4, V.ref b5, V.ref b6, V.bl true]) nl2
            have el2 : (upd Hb6 l2 (HO.lst [V.ref b1, V.ref b2, V.ref b3, V.ref b4, V.ref b5, V.ref b6, V.bl true])) l2 = some (HO.lst [V.ref b1, V.ref b2, V.ref b3, V.ref b4, V.ref b5, V.ref b6, V.bl true]) := upd_same
            generalize upd Hb6 l2 (HO.lst [V.ref b1, V.ref b2, V.ref b3, V.ref b4, V.ref b5, V.ref b6, V.bl true]) = Hl2 at sl2 el2
            refine ⟨l1, l2, _, _, rfl, rfl, ((((((sb1.trans sb2).trans sb3).trans sb4).trans sb5).trans sb6).trans sl2) _ _ el1, el2, by show 10 + 7 ≤ sizeLine; decide, fun l3 nl3 => ?_⟩
            have sl3 := same_upd (o := HO.lst ([V.non, V.ref a1, V.str "take", V.ref a2, V.ref a3, V.ref a4, V.ref a5, V.ref a6, V.ref a7, V.int 0] ++ [V.ref b1, V.ref b2, V.ref b3, V.ref b4, V.ref b5, V.ref b6, V.bl true])) nl3
            have el3 : (upd Hl2 l3 (HO.lst ([V.non, V.ref a1, V.str "take", V.ref a2, V.ref a3, V.ref a4, V.ref a5, V.ref a6, V.ref a7, V.int 0] ++ [V.ref b1, V.ref b2, V.ref b3, V.ref b4, V.ref b5, V.ref b6, V.bl true]))) l3 = some (HO.lst ([V.non, V.ref a1, V.str "take", V.ref a2, V.ref a3, V.ref a4, V.ref a5, V.ref a6, V.ref a7, V.int 0] ++ [V.ref b1, V.ref b2, V.ref b3, V.ref b4, V.ref b5, V.ref b6, V.bl true])) := upd_same
            generalize upd Hl2 l3 (HO.lst ([V.non, V.ref a1, V.str "take", V.ref a2, V.ref a3, V.ref a4, V.ref a5, V.ref a6, V.ref a7, V.int 0] ++ [V.ref b1, V.ref b2, V.ref b3, V.ref b4, V.ref b5, V.ref b6, V.bl true])) = Hl3 at sl3 el3
            have sT := (((((((((((((((sa1.trans sa2).trans sa3).trans sa4).trans sa5).trans sa6).trans sa7).trans sl1).trans sb1).trans sb2).trans sb3).trans sb4).trans sb5).trans sb6).trans sl2).trans sl3)
            have ka1 := ((((((((((((((sa2.trans sa3).trans sa4).trans sa5).trans sa6).trans sa7).trans sl1).trans sb1).trans sb2).trans sb3).trans sb4).trans sb5).trans sb6).trans sl2).trans sl3) _ _ ea1
            have ka2 := (((((((((((((sa3.trans sa4).trans sa5).trans sa6).trans sa7).trans sl1).trans sb1).trans sb2).trans sb3).trans sb4).trans sb5).trans sb6).trans sl2).trans sl3) _ _ ea2
            have ka3 := ((((((((((((sa4.trans sa5).trans sa6).trans sa7).trans sl1).trans sb1).trans sb2).trans sb3).trans sb4).trans sb5).trans sb6).trans sl2).trans sl3) _ _ ea3
            have ka4 := (((((((((((sa5.trans sa6).trans sa7).trans sl1).trans sb1).trans sb2).trans sb3).trans sb4).trans sb5).trans sb6).trans sl2).trans sl3) _ _ ea4
            have ka5 := ((((((((((sa6.trans sa7).trans sl1).trans sb1).trans sb2).trans sb3).trans sb4).trans sb5).trans sb6).trans sl2).trans sl3) _ _ ea5
            have ka6 := (((((((((sa7.trans sl1).trans sb1).trans sb2).trans sb3).trans sb4).trans sb5).trans sb6).trans sl2).trans sl3) _ _ ea6
            have ka7 := ((((((((sl1.trans sb1).trans sb2).trans sb3).trans sb4).trans sb5).trans sb6).trans sl2).trans sl3) _ _ ea7
            have kb1 := ((((((sb2.trans sb3).trans sb4).trans sb5).trans sb6).trans sl2).trans sl3) _ _ eb1
            have kb2 := (((((sb3.trans sb4).trans sb5).trans sb6).trans sl2).trans sl3) _ _ eb2
            have kb3 := ((((sb4.trans sb5).trans sb6).trans sl2).trans sl3) _ _ eb3
            have kb4 := (((sb5.trans sb6).trans sl2).trans sl3) _ _ eb4
            have kb5 := ((sb6.trans sl2).trans sl3) _ _ eb5
            have kb6 := (sl2.trans sl3) _ _ eb6
            have aO : AllF K d Hl3 ([V.non, V.ref a1, V.str "take", V.ref a2, V.ref a3, V.ref a4, V.ref a5, V.ref a6, V.ref a7, V.int 0] ++ [V.ref b1, V.ref b2, V.ref b3, V.ref b4, V.ref b5, V.ref b6, V.bl true]) := (allF_cons ⟨none, .other (.base .non) (by decide)⟩ (allF_cons ⟨none, .len (SqT.of ka1) (by decide)⟩ (allF_cons ⟨none, .other (.base (.str _)) (by decide)⟩ (allF_cons ⟨none, .word (SqT.of ka2) (by decide +kernel) nUse⟩ (allF_cons ⟨none, .len (SqT.of ka3) (by decide)⟩ (allF_cons ⟨none, .name (SqT.of ka4) (by decide +kernel) (fn_str (by decide +kernel) (by decide +kernel) (by decide +kernel))⟩ (allF_cons ⟨none, .name (SqT.of ka5) (by decide +kernel) (fn_str (by decide +kernel) (by decide +kernel) (by decide +kernel))⟩ (allF_cons ⟨none, .name (SqT.of ka6) (by decide +kernel) (fn_str (by decide +kernel) (by decide +kernel) (by decide +kernel))⟩ (allF_cons ⟨none, .name (SqT.of ka7) (by decide +kernel) (.other (.base (.int 1)) (by decide))⟩ (allF_cons ⟨none, .other (.base (.int 0)) (by decide)⟩ (allF_cons ⟨none, .other (.base (.lst kb1)) (by decide)⟩ (allF_cons ⟨none, .len (SqT.of kb2) (by decide)⟩ (allF_cons ⟨none, .word (SqT.of kb3) (by decide +kernel) nStart⟩ (allF_cons ⟨none, .first (SqT.of kb4) (.base .non) (by decide) rfl (by decide +kernel)⟩ (allF_cons ⟨none, .len (SqT.of kb5) (by decide)⟩ (allF_cons ⟨none, .name (SqT.of kb6) (by decide +kernel) (fn_str (by decide +kernel) (by decide +kernel) (by decide +kernel))⟩ (allF_cons ⟨none, .other (.base (.bl true)) (by decide)⟩ (allF_nil))))))))))))))))))
            generalize hO : ([V.non, V.ref a1, V.str "take", V.ref a2, V.ref a3, V.ref a4, V.ref a5, V.ref a6, V.ref a7, V.int 0] ++ [V.ref b1, V.ref b2, V.ref b3, V.ref b4, V.ref b5, V.ref b6, V.bl true]) = od at el3 aO
            have oN : od ≠ [] := by rw [← hO]; exact List.cons_ne_nil _ _
            have oL : od.length = 17 := by rw [← hO]; rfl
            have pT := pC.same sT
            have bT := bC.trans (but_of sT)
            have hfT := sT _ _ elf
            have agT := agf.same sT
            have l3o : l3 ≠ o := by
              obtain ⟨a', n', h1, _⟩ := pC.same ((((((((((((((sa1.trans sa2).trans sa3).trans sa4).trans sa5).trans sa6).trans sa7).trans sl1).trans sb1).trans sb2).trans sb3).trans sb4).trans sb5).trans sb6).trans sl2)
              exact fun e => by rw [e, h1] at nl3; cases nl3
            refine ⟨_, rfl, o, qq, 3, rfl, pT, by decide, by decide, fun Hg n3 bg pg _ _ => ⟨rfl, _, rfl, ?_⟩⟩
            have hfg := bg _ _ lfo hfT
            have agg := agT.pool bg pT pg
            cases hd3 : decide (V.int n3 = V.int 0) with
            | false =>
              obtain ⟨rs, hrs⟩ := AllF.all2 agg.f
              exact iteF ⟨_, rfl, q Hg lf _ rs (bT.trans bg) pg lfn hfg hrs (by rw [← hrs.length]; omega)⟩
            | true =>
              refine iteT ?_
              refine ⟨_, rfl, _, rfl, lf, _, rfl, .inl (SqL.of hfg), _, _, rfl, rfl, o, qq, _, rfl, pg, by omega, by omega, fun Hh at1 bh ph i0 i1 => ?_⟩
              have hfh := bh _ _ lfo hfg
              have agh := agg.pool bh pg ph
              have aOh := (aO.pool bg pT pg).pool bh pg ph
              have el3h := bh _ _ l3o (bg _ _ l3o el3)
              refine ⟨_, rfl, _, rfl, _, rfl, ?_⟩
              dsimp only [tNoPart]
              refine ⟨lf, _, rfl, SqL.of hfh, fun u1 nu1 => ?_⟩
              have su1 := same_upd (o := HO.lst (cutV fs none (some at1))) nu1
              have eu1 : (upd Hh u1 (HO.lst (cutV fs none (some at1)))) u1 = some (HO.lst (cutV fs none (some at1))) := upd_same
              generalize upd Hh u1 (HO.lst (cutV fs none (some at1))) = Hu1 at su1 eu1
              have pu1 := ph.same su1
              have u1o : u1 ≠ o := by
                obtain ⟨a', n', h1, _⟩ := ph
                exact fun e => by rw [e, h1] at nu1; cases nu1
              refine ⟨_, rfl, _, rfl, o, qq, l3, _, rfl, pu1, l3o, SqL.of (su1 _ _ el3h), oN, by omega, fun Hk x bk pk mx => ⟨by show 1 ≤ sizeLine; decide, fun u2 nu2 => ?_⟩⟩
              have su2 := same_upd (o := HO.lst ([x])) nu2
              have eu2 : (upd Hk u2 (HO.lst ([x]))) u2 = some (HO.lst ([x])) := upd_same
              generalize upd Hk u2 (HO.lst ([x])) = Hu2 at su2 eu2
              have cl1 := cutV_length fs none (some at1)
              have cl2 := cutV_length fs (some at1) none
              refine ⟨u1, u2, _, _, rfl, rfl, su2 _ _ (bk _ _ u1o eu1), eu2, by rw [sizeLine_eq]; show (cutV fs none (some at1)).length + 1 ≤ _; omega, fun u3 nu3 => ?_⟩
              have su3 := same_upd (o := HO.lst (cutV fs none (some at1) ++ [x])) nu3
              have eu3 : (upd Hu2 u3 (HO.lst (cutV fs none (some at1) ++ [x]))) u3 = some (HO.lst (cutV fs none (some at1) ++ [x])) := upd_same
              generalize upd Hu2 u3 (HO.lst (cutV fs none (some at1) ++ [x])) = Hu3 at su3 eu3
              have hf3 := su3 _ _ (su2 _ _ (bk _ _ lfo (su1 _ _ hfh)))
              refine ⟨_, rfl, _, rfl, _, rfl, ?_⟩
              dsimp only [tNoPart]
              refine ⟨lf, _, rfl, SqL.of hf3, fun u4 nu4 => ?_⟩
              have su4 := same_upd (o := HO.lst (cutV fs (some at1) none)) nu4
              have eu4 : (upd Hu3 u4 (HO.lst (cutV fs (some at1) none))) u4 = some (HO.lst (cutV fs (some at1) none)) := upd_same
              generalize upd Hu3 u4 (HO.lst (cutV fs (some at1) none)) = Hu4 at su4 eu4
              refine ⟨u3, u4, _, _, rfl, rfl, su4 _ _ eu3, eu4, by rw [sizeLine_eq, List.length_append]; show (cutV fs none (some at1)).length + 1 + (cutV fs (some at1) none).length ≤ _; omega, fun u5 nu5 => ?_⟩
              have su5 := same_upd (o := HO.lst ((cutV fs none (some at1) ++ [x]) ++ cutV fs (some at1) none)) nu5
              have eu5 : (upd Hu4 u5 (HO.lst ((cutV fs none (some at1) ++ [x]) ++ cutV fs (some at1) none))) u5 = some (HO.lst ((cutV fs none (some at1) ++ [x]) ++ cutV fs (some at1) none)) := upd_same
              generalize upd Hu4 u5 (HO.lst ((cutV fs none (some at1) ++ [x]) ++ cutV fs (some at1) none)) = Hu5 at su5 eu5
              have s25 := ((su2.trans su3).trans su4).trans su5
              have aF : AllF K d Hu5 fs := ((agh.f.same su1).pool bk pu1 pk).same s25
              have aX : AllF K d Hu5 od := ((aOh.same su1).pool bk pu1 pk).same s25
              have aE : AllF K d Hu5 ((cutV fs none (some at1) ++ [x]) ++ cutV fs (some at1) none) := fun y hy => by
                rcases List.mem_append.mp hy with hy | hy
                · rcases List.mem_append.mp hy with hy | hy
                  · exact aF y (List.mem_of_mem_drop (List.mem_of_mem_take hy))
                  · rcases List.mem_cons.mp hy with rfl | hy
                    · exact aX _ mx
                    · cases hy
                · exact aF y (List.mem_of_mem_drop (List.mem_of_mem_take hy))
              obtain ⟨rs, hrs⟩ := AllF.all2 aE
              have bE := ((((bT.trans bg).trans bh).trans (but_of su1)).trans bk).trans (but_of s25)
              have pE := pk.same s25
              refine ⟨_, rfl, q Hu5 u5 _ rs bE pE ?_ eu5 hrs ?_⟩
              · exact none_back (((((bT.trans bg).trans bh).trans (but_of su1)).trans bk).trans (but_of ((su2.trans su3).trans su4))) (pk.same ((su2.trans su3).trans su4)) nu5
              · rw [← hrs.length, List.length_append, List.length_append]; show (cutV fs none (some at1)).length + 1 + (cutV fs (some at1) none).length ≤ 60; omega
end
end Rw

/-! R22 -/
/-! ### the law -/
namespace Rw
open PySem PySem.Spec PyProof.Rows L2
def vD : V → PyData
  | .int i => .int i
  | _ => .none
def outD (rs : List (Option Step)) : List PyData := match fault rs with
  | some v => [.str "none", vD v]
  | none => (rs.filterMap id).map stepD
theorem fault_val {rs : List (Option Step)} {v : V} (h : fault rs = some v) : v = .non ∨ ∃ i : Nat, v = .int (i : Nat) := by
  unfold fault at h
  split at h
  · exact .inr ⟨_, (Option.some.inj h).symm⟩
  · split at h
    · exact .inl (Option.some.inj h).symm
    · split at h
      · exact .inr ⟨_, (Option.some.inj h).symm⟩
      · cases h
theorem fault_len {rs : List (Option Step)} (h : fault rs = none) : ∃ ss : List Step, rs = ss.map some ∧ ss.length ≤ 8 := by
  unfold fault at h
  split at h
  · cases h
  · rename_i e
    rw [List.findIdx?_eq_none_iff] at e
    obtain ⟨ss, rfl⟩ := all_some rs fun j hj => by
      have z := e rs[j] (List.getElem_mem hj)
      cases hr : rs[j] with
      | none => rw [hr] at z; cases z
      | some s => exact ⟨s, by rw [List.getElem?_eq_getElem hj, hr]⟩
    refine ⟨ss, rfl, ?_⟩
    split at h
    · cases h
    · rename_i z
      rw [List.length_map] at z
      omega
theorem outD_lay {rs : List (Option Step)} (hg : ∀ s, some s ∈ rs → GoodS s) : PyData.canLay0 (.list (outD rs)) = true ∧ SeqAt.shaped (.list (outD rs)) = true := by
  unfold outD
  cases hf : fault rs with
  | some v =>
    rcases fault_val hf with rfl | ⟨i, rfl⟩
    · show PyData.canLay0 (.list [.str "none", .none]) = true ∧ SeqAt.shaped (.list [.str "none", .none]) = true
      exact ⟨by decide +kernel, by decide +kernel⟩
    · show PyData.canLay0 (.list [.str "none", .int (i : Nat)]) = true ∧ SeqAt.shaped (.list [.str "none", .int (i : Nat)]) = true
      have z : PyData.canLay0 (.list [.str "none", .int (i : Nat)]) = true := by
        simp only [PyData.canLay0, PyData.canLayAll0, Bool.and_true]
        decide +kernel
      refine ⟨z, shaped_of z ?_⟩
      simp [PyData.depth, PyData.depthAll]
  | none =>
    obtain ⟨ss, rfl, _⟩ := fault_len hf
    have e1 : (ss.map some).filterMap id = ss := by
      rw [List.filterMap_map]
      exact List.filterMap_some
    have hg2 : ∀ s ∈ ss, GoodS s := fun s hs => hg s (List.mem_map.mpr ⟨s, hs, rfl⟩)
    dsimp only
    rw [e1]
    refine ⟨?_, stepsL_shaped hg2⟩
    simp only [PyData.canLay0]
    exact (stepsD_lay ss hg2).1
/-- what is heard, or due, of some things -/
def Out (K : PySem.W.Frag) (H : Hp) (v : V) (rs : List (Option Step)) : Prop := ∃ p, v = .ref p ∧ ((∃ u, fault rs = some u ∧ SqL K H p [.str "none", u]) ∨ ∃ (ss : List Step) (xs : List V), rs = ss.map some ∧ fault rs = none ∧ SqL K H p xs ∧ StepsAt K H xs ss)
theorem Out.same {K : PySem.W.Frag} {H H' : Hp} (s : Same H H') {v : V} {rs : List (Option Step)} (h : Out K H v rs) : Out K H' v rs := by
  obtain ⟨p, e, ⟨u, h1, h2⟩ | ⟨ss, xs, h1, h2, h3, h4⟩⟩ := h
  · exact ⟨p, e, .inl ⟨u, h1, s.seq h2⟩⟩
  · exact ⟨p, e, .inr ⟨ss, xs, h1, h2, s.seq h3, StepsAt.same s h4⟩⟩
theorem Out.dp {K : PySem.W.Frag} {H : Hp} {v : V} {rs : List (Option Step)} (h : Out K H v rs) : Dp K H v (.list (outD rs)) := by
  obtain ⟨p, rfl, ⟨u, h1, h2⟩ | ⟨ss, xs, h1, h2, h3, h4⟩⟩ := h
  · unfold outD
    rw [h1]
    refine .lst h2 ?_
    rcases fault_val h1 with rfl | ⟨i, rfl⟩
    · exact .cons (.str _) (.cons .non .nil)
    · exact .cons (.str _) (.cons (.int _) .nil)
  · unfold outD
    rw [h2]
    subst h1
    have e1 : (ss.map some).filterMap id = ss := by
      rw [List.filterMap_map]
      exact List.filterMap_some
    dsimp only
    rw [e1]
    exact .lst h3 h4.dp
theorem out_none {K : PySem.W.Frag} {H : Hp} {p : Addr} {rs : List (Option Step)} {v : V} (hf : fault rs = some v) (hp : H p = some (.lst [.str "none", v])) : Out K H (.ref p) rs := ⟨p, rfl, .inl ⟨v, hf, SqL.of hp⟩⟩
theorem out_steps {K : PySem.W.Frag} {H : Hp} {p : Addr} {xs : List V} {ss : List Step} (hf : fault (ss.map some) = none) (hp : SqL K H p xs) (hs : StepsAt K H xs ss) : Out K H (.ref p) (ss.map some) := ⟨p, rfl, .inr ⟨ss, xs, rfl, hf, hp, hs⟩⟩
theorem good_in {K : PySem.W.Frag} {d : Addr} {H : Hp} {xs : List V} {rs : List (Option Step)} (h : All2 (SVG K d H) xs rs) : ∀ s, some s ∈ rs → GoodS s := by
  induction h with
  | nil => exact fun s hs => by cases hs
  | cons a _ ih =>
    intro s hs
    rcases List.mem_cons.mp hs with e | hs
    · exact a.2 s e.symm
    · exact ih s hs
theorem rowAt_steps {K : PySem.W.Frag} {d : Addr} {H : Hp} {xs : List V} {ss : List Step} (h : RowAt K d H xs ss) : StepsAt K H xs ss := steps_of (of_rowAt h)
theorem due_out {K : PySem.W.Frag} {d : Addr} {H : Hp} {l : Addr} {xs : List V} {rs : List (Option Step)} {Q : VK} {E : XK} (hW : ∀ w ∈ W10, ∃ u, PySem.W.nsIn K d w = some (some u)) (hx : SqL K H l xs) (hr : All2 (FV K d H) xs rs) (hz : rs.length ≤ 200)
    (q : ∀ H' v, Same H H' → Out K H' v rs → Q v H') : spDue K d [.ref l] H Q E := by
  refine ⟨l, xs, rs, rfl, hx, hr, hz, fun hf H' s => ?_, fun v hf H' p s _ hp => q H' _ s (out_none hf hp)⟩
  obtain ⟨ss, rfl, _⟩ := fault_len hf
  have hv : All2 (SVG K d H) xs (ss.map some) := hr.mono fun _ _ t => t.svg hW
  exact q H' _ s (out_steps hf (s.seq hx) (StepsAt.same s (steps_of hv)))
theorem heard_out {K : PySem.W.Frag} {C d : Addr} {H : Hp} {a l : Addr} {way : Int} {ss : List Step} {xs : List V} {rs : List (Option Step)} {Q : VK} {E : XK} (ha : IsRow K C d H a ss) (hx : SqL K H l xs) (hr : All2 (SVG K d H) xs rs) (h1 : ss.length ≤ 300) (h2 : rs.length ≤ 300)
    (q : ∀ H' v, Same H H' → Out K H' v (wayAll way ss rs) → Q v H') : spHeard K C d [.ref a, .ref l, .int way] H Q E := by
  refine ⟨a, l, way, ss, xs, rs, rfl, ha, hx, hr, h1, h2, fun hf H' p ys us e s _ hp row => ?_, fun v hf H' p s _ hp => q H' _ s (out_none hf hp)⟩
  refine q H' _ s ?_
  rw [e] at hf ⊢
  exact out_steps hf (SqL.of hp) (rowAt_steps row)
theorem ints_of_cut (ns : List Int) (m : Int) (k : Nat) : ∃ ms : List Int, cutV (ns.map V.int) none (some m) ++ (List.replicate k [V.int 7]).flatten = ms.map V.int ∧ ms.length ≤ ns.length + k := by
  refine ⟨((ns.drop (HT.sIx ns.length 0 none)).take (HT.sIx ns.length ns.length (some m) - HT.sIx ns.length 0 none)) ++ List.replicate k 7, ?_, ?_⟩
  · unfold cutV
    rw [List.map_append, List.length_map, List.map_take, List.map_drop]
    congr 1
    induction k with
    | zero => rfl
    | succ k ih => rw [List.replicate_succ, List.flatten_cons, ih]; rfl
  · rw [List.length_append, List.length_replicate, List.length_take, List.length_drop]
    omega
theorem shaped_ints (ns : List Int) : SeqAt.shaped (.list (ns.map PyData.int)) = true := by
  have a : PyData.canLayAll0 (ns.map PyData.int) = true := by
    induction ns with
    | nil => rfl
    | cons n r ih => simp only [List.map, PyData.canLayAll0, PyData.canLay0, Bool.true_and]; exact ih
  have b : PyData.depthAll (ns.map PyData.int) = 0 := by
    induction ns with
    | nil => rfl
    | cons n r ih =>
      simp only [List.map, PyData.canLayAll0, PyData.canLay0, Bool.true_and] at a
      simp only [List.map, PyData.depthAll, PyData.depth, ih a]
      rfl
  unfold SeqAt.shaped
  simp only [PyData.canLay0, PyData.depth, a, b]
  decide
theorem dp_ints {K : PySem.W.Frag} {H : Hp} : ∀ ns : List Int, DpAll K H (ns.map V.int) (ns.map PyData.int)
  | [] => .nil
  | _ :: r => .cons (.int _) (dp_ints r)
def spLaw (K : PySem.W.Frag) : Sp := fun vs H Q _ => ∃ (a : Addr) (ns : List Int), vs = [.ref a] ∧ SqL K H a (ns.map V.int) ∧ ns.length ≤ 63 ∧ ∀ H', Q (.bl true) H'
section
variable {P : Program} {w : World} {K : PySem.W.Frag} {mg : Str → Option Value} {base : Heap}
theorem nil_in {σ : L2.St} {H : Hp} {k : List V → Hp → Prop} (h : k [] H) : tNil σ H k := h
theorem cons_in {te : TE} {t : TA} {σ : L2.St} {H : Hp} {k : List V → Hp → Prop} (h : te σ H fun x H1 => t σ H1 fun xs H2 => k (x :: xs) H2) : tCons te t σ H k := h
theorem c_in {v : V} {σ : L2.St} {H : Hp} {k : V → Hp → Prop} (h : k v H) : tC v σ H k := h
theorem seq_in {t u : TS} {D : Ends} {σ : L2.St} {H : Hp} (h : t { D with nx := u D } σ H) : tSeq t u D σ H := h
theorem if_in {c : TT} {t u : TS} {D : Ends} {σ : L2.St} {H : Hp} (h : c σ H fun b H1 => if b = true then t D σ H1 else u D σ H1) : tIfS c t u D σ H := h
theorem or_in {t u : TT} {σ : L2.St} {H : Hp} {Q : Bool → Hp → Prop} (h : t σ H fun c H1 => if c = true then Q true H1 else u σ H1 Q) : tOr t u σ H Q := h
theorem test_in {t : TE} {σ : L2.St} {H : Hp} {Q : Bool → Hp → Prop} (h : t σ H fun x H' => ∃ k, x = .bl k ∧ Q k H') : tTest t σ H Q := h
theorem op_in {r : R2} {ta tb : TE} {σ : L2.St} {H : Hp} {Q : VK} (h : ta σ H fun x H1 => tb σ H1 fun y H2 => r x y H2 Q) : tOp r ta tb σ H Q := h
theorem call_in {sp : Sp} {E : XK} {t : TA} {σ : L2.St} {H : Hp} {Q : VK} (h : t σ H fun vs H1 => sp (vs ++ []) H1 Q E) : tCall sp [] E t σ H Q := h
theorem asg_in {te : TE} {g : TG} {D : Ends} {σ : L2.St} {H : Hp} (h : te σ H fun x H1 => g x σ H1 D.nx) : tAsg te g D σ H := h
theorem name_in {i : Nat} {v : V} {σ : L2.St} {H : Hp} {Q : L2.St → Hp → Prop} (h : Q (σ.set i (some v)) H) : gName i v σ H Q := h
theorem ops_in {r : XK → R2} {E : L2.St → XK} {ta tb : TE} {σ : L2.St} {H : Hp} {Q : VK} (h : ta σ H fun x H1 => tb σ H1 fun y H2 => r (E σ) x y H2 Q) : tOpS r E ta tb σ H Q := h
def first3 (n0 n1 : Str) : List Step := [("take", n0), ("bar", n1), ("give", n0)]
theorem bar10 : ("bar" : Str) ∈ W10 := by decide +kernel
theorem fault_first (n0 n1 : Str) : fault ((first3 n0 n1).map some) = none := by
  have e1 : ("take" : Str) ≠ "give" := by decide +kernel
  have e2 : ("bar" : Str) ≠ "give" := by decide +kernel
  have e3 : ("bar" : Str) ≠ "take" := by decide +kernel
  have e4 : ("give" : Str) ≠ "take" := by decide +kernel
  have w : wrongs [("take", n0), ("bar", n1), ("give", n0)] [] [] = [false, false, false] := by
    simp [wrongs, wrongS, behind, e1, e2, e3]
  have z : fault ((first3 n0 n1).map some) = match (wrongs [("take", n0), ("bar", n1), ("give", n0)] [] []).findIdx? id with
    | some i => some (.int (i : Nat))
    | none => none := rfl
  rw [z, w]
  rfl
abbrev sLaw : Stmt := top 35
theorem scLaw : FnScope ["_law_script", "_law_k", "_law_cell", "_law_pool_here", "_law_names", "_law_turn", "_law_some", "_law_due_here", "_law_first", "_law_row", "_law_step", "_law_one"] ["_law_script"] (defScope sLaw) := ⟨rfl, rfl, rfl, by decide +kernel, rfl, by decide +kernel, by decide +kernel⟩
theorem ok_law {f fP fD fLi fDu fHe fTr fSt fFi fNo fA fR fI fS C d CI : Addr} {fd fdP fdD fdLi fdDu fdHe fdTr fdSt fdFi fdNo fdA fdS : FuncData} (F : Fun K "law" "law" sLaw f fd) (hW : ∀ w ∈ W10, ∃ u, PySem.W.nsIn K d w = some (some u)) (R : RowC K mg C fI fA fR)
    (GP : FnOk P w K mg base CX0 2 fP fdP ["_law_cell", "_law_salt", "_law_many"] (spPool K)) (TP : Called K mg "_law_pool" ["_law_cell", "_law_salt", "_law_many"] fP fdP)
    (GD : FnOk P w K mg base CX0 1 fD fdD ["_law_pool_here", "_law_many"] (spDraw K)) (TD : Called K mg "_law_draw" ["_law_pool_here", "_law_many"] fD fdD)
    (GLi : FnOk P w K mg base CX0 3 fLi fdLi ["_law_pool_here", "_law_names"] (spListed K d)) (TLi : Called K mg "_law_listed" ["_law_pool_here", "_law_names"] fLi fdLi)
    (GDu : FnOk P w K mg base CX0 2 fDu fdDu ["_law_steps"] (spDue K d)) (TDu : Called K mg "_law_due" ["_law_steps"] fDu fdDu)
    (GHe : FnOk P w K mg base CX0 7 fHe fdHe ["_law_row", "_law_some", "_law_way"] (spHeard K C d)) (THe : Called K mg "_law_heard" ["_law_row", "_law_some", "_law_way"] fHe fdHe)
    (GTr : FnOk P w K mg base CX0 1 fTr fdTr ["_law_found", "_law_due_here"] (spTruth K)) (TTr : Called K mg "_law_truth" ["_law_found", "_law_due_here"] fTr fdTr)
    (GSt : FnOk P w K mg base CX0 2 fSt fdSt ["value"] (spStep K d)) (TSt : Called K mg "is_step" ["value"] fSt fdSt)
    (GFi : FnOk P w K mg base CX0 1 fFi fdFi ["_law_thing"] (spFine K d)) (TFi : Called K mg "_law_fine" ["_law_thing"] fFi fdFi)
    (GNo : FnOk P w K mg base CX0 7 fNo fdNo ["_law_thing"] (spNone K)) (TNo : Called K mg "_law_none" ["_law_thing"] fNo fdNo)
    (GI : FnR P w K mg base (L2.CX P w) 4 fI (spStar (spRI K d C CI)))
    (GA : FnOk P w K mg base (L2.CX P w) 6 fA fdA ["self", "other"] (spAdd K C d CI)) (bA : Binds K fdA ["self", "other"] [])
    (GS : FnOk P w K mg base CX0 1 fS fdS ["self"] (spSteps K C d)) (bS : Binds K fdS ["self"] []) (mS : Meth K C "steps" fS)
    (m_enumerate : mg "enumerate" = none) (m_int : mg "int" = none) (m_range : mg "range" = none) (m_tuple : mg "tuple" = none) : FnOk P w K mg base CX0 8 f fd ["_law_script"] (spLaw K) := by
  refine F.ok scLaw (fun vs H Q E h => ?_) (fun cdv A outer s H vs Q E hr h => ?_)
  · obtain ⟨a, ns, rfl, _⟩ := h
    rfl
  · obtain ⟨a, ns, rfl, hS, hlen, q⟩ := h
    refine ⟨_, (pss_cons (ps_for PassesOwn.never rfl (pi_enum (by rfl) m_enumerate (pa_cons (pe_op op_cat (pe_slice sl_list (pv 0) po_none (po_some pe_int)) (pe_op op_rep (pe_lst (pa_cons pe_int pa_nil)) (pe_callTy call_int1 (by rfl) m_int (by decide +kernel) (pa_cons (pe_cmpR (op_eqD hr.units) (pv 0) (pe_lst pa_nil) (nomark _)) pa_nil)))) pa_nil)) (pg_tup rfl (pgs_cons (pg_name (i := 1) scLaw.nd rfl (.inl rfl)) (pgs_cons (pg_name (i := 2) scLaw.nd rfl (.inl rfl)) pgs_nil)))
       (pss_cons (ps_set (i := 3) scLaw.nd rfl (.inl rfl) (pe_call GP (hr.mono (by decide)) rfl TP.1 TP.2.1 TP.2.2 .nil pass0 (pa_cons (pv 2) (pa_cons (pe_op op_add pe_int (pv 1)) (pa_cons pe_int pa_nil)))))
       (pss_cons (ps_set (i := 4) scLaw.nd rfl (.inl rfl) (pe_ix ix_list (pe_lst (pa_cons (pe_lst (pa_cons pe_str (pa_cons pe_str (pa_cons pe_str pa_nil)))) (pa_cons (pe_lst (pa_cons pe_str (pa_cons pe_str (pa_cons pe_str pa_nil)))) (pa_cons (pe_lst (pa_cons pe_str (pa_cons pe_str (pa_cons pe_str pa_nil)))) pa_nil)))) (pe_call GD (hr.mono (by decide)) rfl TD.1 TD.2.1 TD.2.2 .nil pass0 (pa_cons (pv 3) (pa_cons pe_int pa_nil))) (fun _ _ => rfl)))
       (pss_one (ps_for PassesOwn.never rfl (pi_range1 rfl m_range (pa_cons pe_int pa_nil)) (pg_name (i := 5) scLaw.nd rfl (.inl rfl))
       (pss_cons (ps_set (i := 6) scLaw.nd rfl (.inl rfl) (pe_call GLi (hr.mono (by decide)) rfl TLi.1 TLi.2.1 TLi.2.2 .nil pass0 (pa_cons (pv 3) (pa_cons (pv 4) pa_nil))))
       (pss_cons (ps_set (i := 7) scLaw.nd rfl (.inl rfl) (pe_call GDu (hr.mono (by decide)) rfl TDu.1 TDu.2.1 TDu.2.2 .nil pass0 (pa_cons (pv 6) pa_nil)))
       (pss_cons (ps_if (PW.pt (pw_or (pt_cmpR (op_neD hr.units) (pe_call GHe (hr.mono (by decide)) rfl THe.1 THe.2.1 THe.2.2 .nil pass0 (pa_cons (pe_makeR0 R.mkC GI (hr.mono (by decide)) rfl R.g (passes_call takes0 (E := fun _ _ _ => False) fun _ _ _ _ h => h.elim)) (pa_cons (pv 6) (pa_cons pe_int pa_nil)))) (pv 7) (nomark _)) (pw_or1 (pt_cmpR (op_neD hr.units) (pe_call GHe (hr.mono (by decide)) rfl THe.1 THe.2.1 THe.2.2 .nil pass0 (pa_cons (pe_makeR0 R.mkC GI (hr.mono (by decide)) rfl R.g (passes_call takes0 (E := fun _ _ _ => False) fun _ _ _ _ h => h.elim)) (pa_cons (pv 6) (pa_cons pe_int pa_nil)))) (pv 7) (nomark _)))))
       (pss_one (ps_ret pe_bl))
       pss_nil)
       (pss_cons (ps_if (pt_cmpR (op_neD hr.units) (pe_lc (own := [("_law_step", 10)]) (g := gName 10) (by rfl) scLaw.nd (pi_list (pv 6)) (blkOk_by (own := [("_law_step", 10)]) (N := ["_law_script", "_law_k", "_law_cell", "_law_pool_here", "_law_names", "_law_turn", "_law_some", "_law_due_here", "_law_first", "_law_row", "_law_step", "_law_one"]) (sc := defScope sLaw) (by decide +kernel)) (fun _ _ _ _ _ => pg_name (i := 10) scLaw.nd rfl (Or.inl rfl)) (fun _ _ _ _ _ => pts_one (pt_not (pt_val (pe_call GTr (hr.mono (by decide)) rfl TTr.1 TTr.2.1 TTr.2.2 .nil pass0 (pa_cons (pe_call GSt (hr.mono (by decide)) rfl TSt.1 TSt.2.1 TSt.2.2 .nil pass0 (pa_cons (pv 10) pa_nil)) (pa_cons (pe_call GFi (hr.mono (by decide)) rfl TFi.1 TFi.2.1 TFi.2.2 .nil pass0 (pa_cons (pv 10) pa_nil)) pa_nil)))))) (fun _ _ _ _ _ => (pv 10))) (pe_lst pa_nil) (nomark _))
       (pss_one (ps_ret pe_bl))
       pss_nil)
       (pss_cons (ps_set (i := 8) scLaw.nd rfl (.inl rfl) (pe_lst (pa_cons (pe_tup (pa_cons pe_str (pa_cons (pe_ix ix_list (pv 4) pe_int (fun _ _ => rfl)) pa_nil))) (pa_cons (pe_tup (pa_cons pe_str (pa_cons (pe_ix ix_list (pv 4) pe_int (fun _ _ => rfl)) pa_nil))) (pa_cons (pe_tup (pa_cons pe_str (pa_cons (pe_ix ix_list (pv 4) pe_int (fun _ _ => rfl)) pa_nil))) pa_nil)))))
       (pss_cons (ps_set (i := 9) scLaw.nd rfl (.inl rfl) (pe_addTS (K := K) rfl R.add GA (hr.mono (by decide)) bA (fun σ => passAt takes0 σ) (pe_makeR0 R.mkC GI (hr.mono (by decide)) rfl R.g (passes_call takes0 (E := fun _ _ _ => False) fun _ _ _ _ h => h.elim)) (pe_callTy (call_tuple_K (K := K) rfl) (by rfl) m_tuple (by decide +kernel) (pa_cons (pv 8) pa_nil))))
       (pss_cons (ps_if (PW.pt (pw_or (pt_cmpR (op_neD hr.units) (pe_call GHe (hr.mono (by decide)) rfl THe.1 THe.2.1 THe.2.2 .nil pass0 (pa_cons (pv 9) (pa_cons (pv 6) (pa_cons pe_int pa_nil)))) (pe_call GDu (hr.mono (by decide)) rfl TDu.1 TDu.2.1 TDu.2.2 .nil pass0 (pa_cons (pe_op op_cat (pv 8) (pv 6)) pa_nil)) (nomark _)) (pw_or1 (pt_cmpR (op_neD hr.units) (pe_call GHe (hr.mono (by decide)) rfl THe.1 THe.2.1 THe.2.2 .nil pass0 (pa_cons (pv 9) (pa_cons (pv 6) (pa_cons pe_int pa_nil)))) (pe_call GDu (hr.mono (by decide)) rfl TDu.1 TDu.2.1 TDu.2.2 .nil pass0 (pa_cons (pe_op op_cat (pv 6) (pv 8)) pa_nil)) (nomark _)))))
       (pss_one (ps_ret pe_bl))
       pss_nil)
       (pss_one (ps_if (PW.pt (pw_or (pt_cmpR (op_neD hr.units) (pe_meth0 (pv 9) R.cl mS GS (hr.mono (by decide)) bS .nil pass0) (pv 8) (nomark _)) (pw_or1 (pt_cmpR (op_neD hr.units) (pe_call GHe (hr.mono (by decide)) rfl THe.1 THe.2.1 THe.2.2 .nil pass0 (pa_cons (pv 9) (pa_cons (pe_lst pa_nil) (pa_cons pe_int pa_nil)))) (pv 8) (nomark _)))))
       (pss_one (ps_ret pe_bl))
       pss_nil))))))))))))))
       (pss_one (ps_ret (pe_cmpR (op_eqD hr.units) (pe_lc (own := [("_law_one", 11)]) (g := gName 11) (by rfl) scLaw.nd (pi_list (pe_lst (pa_cons pe_non (pa_cons (pe_lst (pa_cons (pe_tup (pa_cons pe_str (pa_cons pe_str pa_nil))) pa_nil)) (pa_cons pe_str (pa_cons pe_int pa_nil)))))) (blkOk_by (own := [("_law_one", 11)]) (N := ["_law_script", "_law_k", "_law_cell", "_law_pool_here", "_law_names", "_law_turn", "_law_some", "_law_due_here", "_law_first", "_law_row", "_law_step", "_law_one"]) (sc := defScope sLaw) (by decide +kernel)) (fun _ _ _ _ _ => pg_name (i := 11) scLaw.nd rfl (Or.inl rfl)) (fun _ _ _ _ _ => pts_one (pt_not (pt_val (pe_call GNo (hr.mono (by decide)) rfl TNo.1 TNo.2.1 TNo.2.2 .nil pass0 (pa_cons (pv 11) pa_nil))))) (fun _ _ _ _ _ => (pv 11))) (pe_lst pa_nil) (nomark _))))), ?_⟩
    refine ⟨.ref a, rfl, 5, rfl, a, ns.map V.int, rfl, hS, fun c nc => ?_⟩
    have t0 := same_upd (o := HO.lst (cutV (ns.map V.int) none (some 5))) nc
    refine ⟨(by show 1 ≤ sizeLine; decide), fun l nl => ?_⟩
    have t1 := same_upd (o := HO.lst [V.int 7]) nl
    refine ⟨.ref a, rfl, (by show 0 ≤ sizeLine; decide), fun e ne => ?_⟩
    have t2 := same_upd (o := HO.lst []) ne
    refine ⟨.list (ns.map .int), .list [], .lst (((t0.trans t1).trans t2).seq hS) (dp_ints ns), .lst (SqL.of upd_same) .nil, shaped_ints ns, (by decide), ?_⟩
    generalize PyData.eqv (.list (ns.map .int)) (.list []) = b
    refine .inr ⟨b, rfl, ?_⟩
    have hb : ∃ k : Nat, k ≤ 1 ∧ (if b = true then (1 : Int) else 0) = k := by
      cases b
      · exact ⟨0, by decide, rfl⟩
      · exact ⟨1, by decide, rfl⟩
    obtain ⟨kb, hk1, hkb⟩ := hb
    rw [hkb]
    obtain ⟨ms, hms, hml⟩ := ints_of_cut ns 5 kb
    refine ⟨l, kb, _, rfl, rfl, t2 _ _ upd_same, by omega, by omega, ?_, fun r nr => ?_⟩
    · show 1 * ((kb : Int)).toNat ≤ sizeLine
      rw [sizeLine_eq]
      omega
    have t3 := same_upd (o := HO.lst (List.replicate ((kb : Int)).toNat [V.int 7]).flatten) nr
    refine ⟨c, r, _, _, rfl, rfl, ((t1.trans t2).trans t3) _ _ upd_same, upd_same, ?_, fun L nL => ?_⟩
    · have z : (cutV (ns.map V.int) none (some 5)).length ≤ (ns.map V.int).length := cutV_length _ _ _
      have z2 : (List.replicate ((kb : Int)).toNat [V.int 7]).flatten.length ≤ 1 := by
        match kb, hk1 with
        | 0, _ => decide
        | 1, _ => decide
      rw [List.length_map] at z
      rw [sizeLine_eq]
      omega
    have t4 := same_upd (o := HO.lst (cutV (ns.map V.int) none (some 5) ++ (List.replicate ((kb : Int)).toNat [V.int 7]).flatten)) nL
    have hms' : cutV (ns.map V.int) none (some 5) ++ (List.replicate ((kb : Int)).toNat [V.int 7]).flatten = ms.map V.int := hms
    rw [hms']
    rw [hms'] at t4
    have hml2 : ms.length ≤ 64 := by omega
    refine ⟨L, ms.map V.int, rfl, SqL.of upd_same, for_enum (K := K) (a := L) (xs := ms.map V.int)
      (fun i σ H' => ∃ v1 v2 v3 v4 v5 v6 v7 v8 v9 : Option V, σ = [some (.ref a), v1, v2, v3, v4, v5, v6, v7, v8, v9, none, none] ∧ H' L = some (.lst (ms.map V.int)))
      ⟨none, none, none, none, none, none, none, none, none, rfl, upd_same⟩ (fun i σ H' _ ⟨_, _, _, _, _, _, _, _, _, _, hL⟩ => SqL.of hL) ?_ ?_⟩
    · rintro i x σ H1 T1 hxi ⟨v1, v2, v3, v4, v5, v6, v7, v8, v9, rfl, hL⟩ nT
      have hi : i < ms.length := by
        have z := (List.getElem?_eq_some_iff.mp hxi).1
        rw [List.length_map] at z
        exact z
      obtain ⟨cell, rfl⟩ : ∃ cell : Int, x = .int cell := by
        rw [List.getElem?_map] at hxi
        obtain ⟨y, _, hy⟩ := Option.map_eq_some_iff.mp hxi
        exact ⟨y, hy.symm⟩
      have u0 := same_upd (o := .tup [.int (i : Nat), .int cell]) nT
      refine ⟨T1, _, rfl, SqT.of upd_same, rfl, _, _, rfl, _, _, rfl, rfl, ?_⟩
      refine ⟨_, rfl, _, rfl, _, _, rfl, rfl, cell, 1100 + (i : Nat), 220, rfl, by omega, by omega, by decide, by decide, fun H2 o qq s2 no hp2 => ?_⟩
      have s02 := u0.trans s2
      have hL2 := s02 _ _ hL
      have nLo : L ≠ o := ne_of_none (u0 _ _ hL) no
      obtain ⟨ob, hob⟩ : ∃ ob, H2 o = some ob := by
        obtain ⟨_, _, z, _⟩ := hp2
        exact ⟨_, z⟩
      refine ⟨by show 3 ≤ sizeLine; decide, fun l0 nl0 => ?_⟩
      have a0 := same_upd (o := HO.lst [V.str "a", V.str "b", V.str "ab"]) nl0
      have e0 : (upd H2 l0 (.lst [V.str "a", V.str "b", V.str "ab"])) l0 = some (.lst [V.str "a", V.str "b", V.str "ab"]) := upd_same
      have o0 : l0 ≠ o := (ne_of_none hob nl0).symm
      generalize upd H2 l0 (.lst [V.str "a", V.str "b", V.str "ab"]) = H3 at a0 e0
      refine ⟨by show 3 ≤ sizeLine; decide, fun l1 nl1 => ?_⟩
      have a1 := same_upd (o := HO.lst [V.str "l", V.str "take", V.str "give"]) nl1
      have e1 : (upd H3 l1 (.lst [V.str "l", V.str "take", V.str "give"])) l1 = some (.lst [V.str "l", V.str "take", V.str "give"]) := upd_same
      have o1 : l1 ≠ o := (ne_of_none (a0 _ _ hob) nl1).symm
      generalize upd H3 l1 (.lst [V.str "l", V.str "take", V.str "give"]) = H4 at a1 e1
      refine ⟨by show 3 ≤ sizeLine; decide, fun l2 nl2 => ?_⟩
      have a2 := same_upd (o := HO.lst [V.str "x", V.str "abcdefgh", V.str "xx"]) nl2
      have e2 : (upd H4 l2 (.lst [V.str "x", V.str "abcdefgh", V.str "xx"])) l2 = some (.lst [V.str "x", V.str "abcdefgh", V.str "xx"]) := upd_same
      have o2 : l2 ≠ o := (ne_of_none ((a0.trans a1) _ _ hob) nl2).symm
      generalize upd H4 l2 (.lst [V.str "x", V.str "abcdefgh", V.str "xx"]) = H5 at a2 e2
      refine ⟨by show 3 ≤ sizeLine; decide, fun l3 nl3 => ?_⟩
      have a3 := same_upd (o := HO.lst [V.ref l0, V.ref l1, V.ref l2]) nl3
      have e3 : (upd H5 l3 (.lst [V.ref l0, V.ref l1, V.ref l2])) l3 = some (.lst [V.ref l0, V.ref l1, V.ref l2]) := upd_same
      have o3 : l3 ≠ o := (ne_of_none (((a0.trans a1).trans a2) _ _ hob) nl3).symm
      generalize upd H5 l3 (.lst [V.ref l0, V.ref l1, V.ref l2]) = H6 at a3 e3
      have a06 := ((a0.trans a1).trans a2).trans a3
      refine ⟨_, rfl, o, qq, 3, rfl, hp2.same a06, by decide, by decide, fun H7 dn b7 hp7 dn0 dn3 => ?_⟩
      obtain ⟨nl, n0, n1, n2, hat, hnl, nlo, k0, k1, k2⟩ : ∃ (nl : Addr) (n0 n1 n2 : Str), atI [V.ref l0, V.ref l1, V.ref l2] dn = some (.ref nl) ∧ H7 nl = some (.lst [.str n0, .str n1, .str n2]) ∧ nl ≠ o ∧ NameOk n0 ∧ NameOk n1 ∧ NameOk n2 := by
        have hd : dn = 0 ∨ dn = 1 ∨ dn = 2 := by omega
        rcases hd with rfl | rfl | rfl
        · exact ⟨l0, "a", "b", "ab", rfl, b7 _ _ o0 (((a1.trans a2).trans a3) _ _ e0), o0, ⟨by decide +kernel, by decide +kernel, by decide +kernel⟩, ⟨by decide +kernel, by decide +kernel, by decide +kernel⟩, ⟨by decide +kernel, by decide +kernel, by decide +kernel⟩⟩
        · exact ⟨l1, "l", "take", "give", rfl, b7 _ _ o1 ((a2.trans a3) _ _ e1), o1, ⟨by decide +kernel, by decide +kernel, by decide +kernel⟩, ⟨by decide +kernel, by decide +kernel, by decide +kernel⟩, ⟨by decide +kernel, by decide +kernel, by decide +kernel⟩⟩
        · exact ⟨l2, "x", "abcdefgh", "xx", rfl, b7 _ _ o2 (a3 _ _ e2), o2, ⟨by decide +kernel, by decide +kernel, by decide +kernel⟩, ⟨by decide +kernel, by decide +kernel, by decide +kernel⟩, ⟨by decide +kernel, by decide +kernel, by decide +kernel⟩⟩
      refine ⟨l3, _, dn, .ref nl, rfl, rfl, SqL.of (b7 _ _ o3 e3), hat, ?_⟩
      have hL7 := b7 _ _ nLo (a06 _ _ hL2)
      refine ⟨5, rfl, by decide, by decide, for_range (lo := 0) (n := 5)
        (fun j σ H' => ∃ v5 v6 v7 v8 v9 : Option V, σ = [some (.ref a), some (.int (i : Nat)), some (.int cell), some (.ref o), some (.ref nl), v5, v6, v7, v8, v9, none, none] ∧ H' L = some (.lst (ms.map V.int)) ∧ PoolAt H' o qq ∧ H' nl = some (.lst [.str n0, .str n1, .str n2]))
        ⟨v5, v6, v7, v8, v9, rfl, hL7, hp7, hnl⟩ ?_ ?_⟩
      · rintro j σ H8 hj ⟨v5, v6, v7, v8, v9, rfl, hL8, hp8, hnl8⟩
        have ok3 : ∀ n ∈ [n0, n1, n2], NameOk n := by
          intro n hn
          rcases List.mem_cons.mp hn with rfl | hn
          · exact k0
          · rcases List.mem_cons.mp hn with rfl | hn
            · exact k1
            · rcases List.mem_cons.mp hn with rfl | hn
              · exact k2
              · exact absurd hn List.not_mem_nil
        refine ⟨_, rfl, _, rfl, o, qq, nl, [n0, n1, n2], rfl, hp8, nlo, SqL.of hnl8, List.cons_ne_nil _ _, (by show 3 ≤ 1000; decide), ok3, fun H9 ls xs rs b9 hp9 _ h9 hr9 hz9 => ?_⟩
        have hL9 := b9 _ _ nLo hL8
        have hnl9 := b9 _ _ nlo hnl8
        have sv9 : All2 (SVG K d H9) xs rs := hr9.mono fun _ _ t => t.svg hW
        have good9 := good_in sv9
        have lay9 := outD_lay good9
        refine ⟨_, rfl, nil_in ?_⟩
        refine due_out hW (SqL.of h9) hr9 (by omega) fun H10 vd s10 od => ?_
        -- heard(Row(), some, 0) != due_here
        refine name_in ?_
        dsimp only
        refine seq_in (if_in (or_in (test_in (op_in (call_in (cons_in ?_))))))
        refine make0 (d := d) (CI := CI) fun x1 H11 s11 row1 => ?_
        have s911 := s10.trans s11
        refine ⟨_, rfl, cons_in (c_in (nil_in ?_))⟩
        refine heard_out row1 (SqL.of (s911 _ _ h9)) (sv9.mono fun _ _ t => t.same s911) (Nat.zero_le _) (by omega) fun H12 v12 s12 o12 => ?_
        refine ⟨_, rfl, ?_⟩
        have w0 : wayAll 0 [] rs = rs := if_pos rfl
        have w1 : wayAll 1 [] rs = rs := (if_neg (by decide)).trans (List.append_nil _)
        rw [w0] at o12
        refine ⟨_, _, o12.dp, (od.same (s11.trans s12)).dp, lay9.2, lay9.2, _, rfl, ?_⟩
        rw [SeqAt.eqv_refl _ lay9.1]
        refine iteF ?_
        -- heard(Row(), some, 1) != due_here
        refine test_in (op_in (call_in (cons_in ?_)))
        refine make0 (d := d) (CI := CI) fun x2 H13 s13 row2 => ?_
        have s913 := (s911.trans s12).trans s13
        refine ⟨_, rfl, cons_in (c_in (nil_in ?_))⟩
        refine heard_out row2 (SqL.of (s913 _ _ h9)) (sv9.mono fun _ _ t => t.same s913) (Nat.zero_le _) (by omega) fun H14 v14 s14 o14 => ?_
        refine ⟨_, rfl, ?_⟩
        rw [w1] at o14
        refine ⟨_, _, o14.dp, (od.same (((s11.trans s12).trans s13).trans s14)).dp, lay9.2, lay9.2, _, rfl, ?_⟩
        rw [SeqAt.eqv_refl _ lay9.1]
        refine iteF ?_
        dsimp only [tNext]
        have s914 := s913.trans s14
        -- is_step
        refine seq_in (if_in (test_in (op_in ?_)))
        refine ⟨_, rfl, ls, rfl, ⟨xs, SqL.of (s914 _ _ h9)⟩, fun D nD => lc_list (K := K) (a := ls) (xs := xs) (fun i H' => Same H14 H' ∧ H' D = some (.lst []))
          ⟨same_upd nD, upd_same⟩ (fun i H' _ h => SqL.of (h.1 _ _ (s914 _ _ h9))) ?_ ?_⟩
        · rintro k x H15 hx ⟨s15, hD⟩
          obtain ⟨r, hr, hv⟩ := hr9.get hx
          have s915 := s914.trans s15
          refine ⟨rfl, ?_⟩
          refine ⟨_, rfl, x, r, rfl, ((hv.same s915).svg hW).1, fun H16 s16 => ⟨_, rfl, x, r, rfl, hv.same (s915.trans s16), fun H17 s17 => ⟨_, _, rfl, fun H18 s18 => ⟨_, rfl, ?_⟩⟩⟩⟩
          rw [decide_eq_true rfl]
          refine iteF ⟨((s15.trans s16).trans s17).trans s18, ((s16.trans s17).trans s18) _ _ hD⟩
        · rintro H15 ⟨s15, hD⟩
          refine ⟨Nat.zero_le _, fun t nt => ?_⟩
          have st := same_upd (o := HO.lst []) nt
          have ht : SqL K (upd H15 t (.lst [])) t [] := SqL.of upd_same
          have hD2 := st _ _ hD
          generalize upd H15 t (.lst []) = H16 at st ht hD2
          refine ⟨.list [], .list [], .lst (SqL.of hD2) .nil, .lst ht .nil, rfl, rfl, _, rfl, ?_⟩
          rw [show PyData.eqv (.list []) (.list []) = true from rfl]
          refine iteF ?_
          dsimp only [tNext]
          have s916 := (s914.trans s15).trans st
          have hnl16 := s916 _ _ hnl9
          have gt1 : atI [V.str n0, V.str n1, V.str n2] 0 = some (.str n0) := rfl
          have gt2 : atI [V.str n0, V.str n1, V.str n2] 1 = some (.str n1) := rfl
          -- first
          refine seq_in (asg_in ?_)
          refine ⟨_, rfl, nl, _, 0, _, rfl, rfl, SqL.of hnl16, gt1, by show 2 ≤ sizeLine; decide, fun p0 np0 => ?_⟩
          have q0 := same_upd (o := HO.tup [V.str "take", V.str n0]) np0
          have z0 : (upd H16 p0 (.tup [V.str "take", V.str n0])) p0 = some (.tup [V.str "take", V.str n0]) := upd_same
          generalize upd H16 p0 (.tup [V.str "take", V.str n0]) = H17 at q0 z0
          refine ⟨_, rfl, nl, _, 1, _, rfl, rfl, SqL.of (q0 _ _ hnl16), gt2, by show 2 ≤ sizeLine; decide, fun p1 np1 => ?_⟩
          have q1 := same_upd (o := HO.tup [V.str "bar", V.str n1]) np1
          have z1 : (upd H17 p1 (.tup [V.str "bar", V.str n1])) p1 = some (.tup [V.str "bar", V.str n1]) := upd_same
          generalize upd H17 p1 (.tup [V.str "bar", V.str n1]) = H18 at q1 z1
          refine ⟨_, rfl, nl, _, 0, _, rfl, rfl, SqL.of ((q0.trans q1) _ _ hnl16), gt1, by show 2 ≤ sizeLine; decide, fun p2 np2 => ?_⟩
          have q2 := same_upd (o := HO.tup [V.str "give", V.str n0]) np2
          have z2 : (upd H18 p2 (.tup [V.str "give", V.str n0])) p2 = some (.tup [V.str "give", V.str n0]) := upd_same
          generalize upd H18 p2 (.tup [V.str "give", V.str n0]) = H19 at q2 z2
          refine ⟨by show 3 ≤ sizeLine; decide, fun fl nfl => ?_⟩
          have q3 := same_upd (o := HO.lst [V.ref p0, V.ref p1, V.ref p2]) nfl
          have z3 : (upd H19 fl (.lst [V.ref p0, V.ref p1, V.ref p2])) fl = some (.lst [V.ref p0, V.ref p1, V.ref p2]) := upd_same
          generalize upd H19 fl (.lst [V.ref p0, V.ref p1, V.ref p2]) = H20 at q3 z3
          have s920 := (((s916.trans q0).trans q1).trans q2).trans q3
          have hF : All2 (FV K d H20) [V.ref p0, V.ref p1, V.ref p2] ((first3 n0 n1).map some) :=
            .cons (.good (SqT.of (((q1.trans q2).trans q3) _ _ z0)) take10 k0.1 k0.2.1 k0.2.2) (.cons (.good (SqT.of ((q2.trans q3) _ _ z1)) bar10 k1.1 k1.2.1 k1.2.2) (.cons (.good (SqT.of (q3 _ _ z2)) give10 k0.1 k0.2.1 k0.2.2) .nil))
          have sF : All2 (SVG K d H20) [V.ref p0, V.ref p1, V.ref p2] ((first3 n0 n1).map some) := hF.mono fun _ _ t => t.svg hW
          have fF := fault_first n0 n1
          have layF := outD_lay (good_in sF)
          refine name_in ?_
          dsimp only
          -- Row() + tuple(first)
          refine seq_in (asg_in (ops_in ?_))
          refine make0 (d := d) (CI := CI) fun x3 H21 s21 row3 => ?_
          refine ⟨_, rfl, fl, _, rfl, .inl ⟨SqL.of (s21 _ _ z3), fun tp ntp => ?_⟩⟩
          have s22 := same_upd (o := HO.tup [V.ref p0, V.ref p1, V.ref p2]) ntp
          have ht2 : SqT K (upd H21 tp (.tup [V.ref p0, V.ref p1, V.ref p2])) tp [V.ref p0, V.ref p1, V.ref p2] := SqT.of upd_same
          generalize upd H21 tp (.tup [V.ref p0, V.ref p1, V.ref p2]) = H22 at s22 ht2
          have row4 := row3.same s22
          have row5 := row4
          obtain ⟨dx, pp, hh, ys, zs, h1, _⟩ := row5
          refine ⟨x3, dx, _, "tuple", rfl, h1, tyx_tup ht2, R.aT "tuple" (by decide), x3, .ref tp, [], some ((first3 n0 n1).map some), rfl, row4, .tup ht2 (sF.mono fun _ _ t => t.same (s21.trans s22)), Nat.zero_le _, (fun _ e => by cases e; show 3 ≤ 300; decide), (fun _ e => ?_), fun e => nomatch e⟩
          cases e
          refine ⟨fun _ us eu x4 H23 s23 row6 => ⟨⟨x4, rfl⟩, ?_⟩, fun v hv => ?_⟩
          rotate_left
          · have hv2 : fault ((first3 n0 n1).map some) = some v := hv
            rw [fF] at hv2
            cases hv2
          have eus : us = first3 n0 n1 := ((List.map_inj_right (fun _ _ h => Option.some.inj h)).mp eu).symm
          subst eus
          have s2023 := (s21.trans s22).trans s23
          have s923 := s920.trans s2023
          refine name_in ?_
          dsimp only
          have z23 := s2023 _ _ z3
          have h923 := s923 _ _ h9
          have sv23 : All2 (SVG K d H23) xs rs := sv9.mono fun _ _ t => t.same s923
          have fv23 : All2 (FV K d H23) xs rs := hr9.mono fun _ _ t => t.same s923
          have ff23 : All2 (FV K d H23) [V.ref p0, V.ref p1, V.ref p2] ((first3 n0 n1).map some) := hF.mono fun _ _ t => t.same s2023
          have sf23 : All2 (SVG K d H23) [V.ref p0, V.ref p1, V.ref p2] ((first3 n0 n1).map some) := ff23.mono fun _ _ t => t.svg hW
          have l3 : (first3 n0 n1).length = 3 := rfl
          have lf3 : ((first3 n0 n1).map some).length = 3 := rfl
          have lxs : xs.length = rs.length := hr9.length
          have layA := outD_lay (good_in (sf23.append sv23))
          have layB := outD_lay (good_in (sv23.append sf23))
          -- heard(row, some, 0) != due(first + some)
          refine seq_in (if_in (or_in (test_in (op_in (call_in ?_)))))
          refine ⟨_, rfl, _, rfl, cons_in (c_in (nil_in ?_))⟩
          refine heard_out row6 (SqL.of h923) sv23 (by omega) (by omega) fun H24 v24 s24 o24 => ?_
          refine call_in ?_
          refine ⟨_, rfl, _, rfl, fl, ls, _, _, rfl, rfl, s24 _ _ z23, s24 _ _ h923, ?_, fun c1 nc1 => nil_in ?_⟩
          · rw [sizeLine_eq]
            show 3 + xs.length ≤ _
            omega
          have s25 := same_upd (o := HO.lst ([V.ref p0, V.ref p1, V.ref p2] ++ xs)) nc1
          refine due_out hW (SqL.of upd_same) ((ff23.append fv23).mono fun _ _ t => t.same (s24.trans s25)) (by rw [List.length_append, lf3]; omega) fun H26 v26 s26 o26 => ?_
          have wA : wayAll 0 (first3 n0 n1) rs = (first3 n0 n1).map some ++ rs := if_pos rfl
          have wB : wayAll 1 (first3 n0 n1) rs = rs ++ (first3 n0 n1).map some := if_neg (by decide)
          rw [wA] at o24
          refine ⟨_, _, (o24.same (s25.trans s26)).dp, o26.dp, layA.2, layA.2, _, rfl, ?_⟩
          rw [SeqAt.eqv_refl _ layA.1]
          refine iteF ?_
          have s2326 := (s24.trans s25).trans s26
          clear o24 o26 s24 s25
          -- heard(row, some, 1) != due(some + first)
          refine test_in (op_in (call_in ?_))
          refine ⟨_, rfl, _, rfl, cons_in (c_in (nil_in ?_))⟩
          refine heard_out (row6.same s2326) (SqL.of (s2326 _ _ h923)) (sv23.mono fun _ _ t => t.same s2326) (by omega) (by omega) fun H27 v27 s27 o27 => ?_
          have s2327 := s2326.trans s27
          refine call_in ?_
          refine ⟨_, rfl, _, rfl, ls, fl, _, _, rfl, rfl, s2327 _ _ h923, s2327 _ _ z23, ?_, fun c2 nc2 => nil_in ?_⟩
          · rw [sizeLine_eq]
            show xs.length + 3 ≤ _
            omega
          have s28 := same_upd (o := HO.lst (xs ++ [V.ref p0, V.ref p1, V.ref p2])) nc2
          refine due_out hW (SqL.of upd_same) ((fv23.append ff23).mono fun _ _ t => t.same (s2327.trans s28)) (by rw [List.length_append, lf3]; omega) fun H29 v29 s29 o29 => ?_
          rw [wB] at o27
          refine ⟨_, _, (o27.same (s28.trans s29)).dp, o29.dp, layB.2, layB.2, _, rfl, ?_⟩
          rw [SeqAt.eqv_refl _ layB.1]
          refine iteF ?_
          dsimp only [tNext]
          have s2329 := (s2327.trans s28).trans s29
          have row7 := row6.same s2329
          have z29 := s2329 _ _ z23
          -- row.steps() != first
          refine if_in (or_in (test_in (op_in ?_)))
          have row8 := row7
          obtain ⟨dx, pp, hh, ys, zs, h1, _⟩ := row8
          refine ⟨_, rfl, x4, dx, _, rfl, h1, rfl, ?_⟩
          refine nil_in ?_
          refine ⟨x4, first3 n0 n1, rfl, row7, fun H30 p ys s30 np hp ra => ?_⟩
          refine ⟨_, rfl, ?_⟩
          have oF : Out K H30 (.ref fl) ((first3 n0 n1).map some) := out_steps fF (SqL.of (s30 _ _ z29)) (StepsAt.same (s2329.trans s30) (steps_of sf23))
          refine ⟨_, _, (out_steps fF (SqL.of hp) (rowAt_steps ra)).dp, oF.dp, layF.2, layF.2, _, rfl, ?_⟩
          rw [SeqAt.eqv_refl _ layF.1]
          refine iteF ?_
          -- heard(row, [], 0) != first
          refine test_in (op_in (call_in ?_))
          refine ⟨_, rfl, Nat.zero_le _, fun t3 nt3 => ?_⟩
          have s31 := same_upd (o := HO.lst []) nt3
          refine c_in (nil_in ?_)
          refine heard_out (rs := []) ((row7.same s30).same s31) (SqL.of upd_same) .nil (by omega) (Nat.zero_le _) fun H32 v32 s32 o32 => ?_
          have wC : wayAll 0 (first3 n0 n1) [] = (first3 n0 n1).map some := (if_pos rfl).trans (List.append_nil _)
          rw [wC] at o32
          refine ⟨_, rfl, ?_⟩
          refine ⟨_, _, o32.dp, (oF.same (s31.trans s32)).dp, layF.2, layF.2, _, rfl, ?_⟩
          rw [SeqAt.eqv_refl _ layF.1]
          refine iteF ?_
          dsimp only [tNext]
          have s932 := s923.trans (((s2329.trans s30).trans s31).trans s32)
          exact ⟨_, _, _, _, _, rfl, s932 _ _ hL9, hp9.same s932, s932 _ _ hnl9⟩
      · rintro σ H8 ⟨v5, v6, v7, v8, v9, rfl, hL8, hp8, hnl8⟩
        exact ⟨_, _, _, _, _, _, _, _, _, rfl, hL8⟩
    · rintro σ H8 ⟨v1, v2, v3, v4, v5, v6, v7, v8, v9, rfl, hL8⟩
      refine ⟨by show 2 ≤ sizeLine; decide, fun u1 nu1 => ?_⟩
      have j1 := same_upd (o := HO.tup [V.str "bar", V.str "a"]) nu1
      refine ⟨by show 1 ≤ sizeLine; decide, fun u2 nu2 => ?_⟩
      have j2 := same_upd (o := HO.lst [V.ref u1]) nu2
      have y2 : (upd (upd H8 u1 (.tup [V.str "bar", V.str "a"])) u2 (.lst [V.ref u1])) u2 = some (.lst [V.ref u1]) := upd_same
      generalize upd (upd H8 u1 (.tup [V.str "bar", V.str "a"])) u2 (.lst [V.ref u1]) = H9 at y2
      refine ⟨by show 4 ≤ sizeLine; decide, fun u3 nu3 => ?_⟩
      have j3 := same_upd (o := HO.lst [V.non, V.ref u2, V.str "ab", V.int 5]) nu3
      have y3 : (upd H9 u3 (.lst [V.non, V.ref u2, V.str "ab", V.int 5])) u3 = some (.lst [V.non, V.ref u2, V.str "ab", V.int 5]) := upd_same
      generalize upd H9 u3 (.lst [V.non, V.ref u2, V.str "ab", V.int 5]) = H10 at j3 y3
      have y22 := j3 _ _ y2
      refine ⟨u3, rfl, ⟨_, SqL.of y3⟩, fun D nD => lc_list (K := K) (a := u3) (xs := [V.non, V.ref u2, V.str "ab", V.int 5]) (fun i H' => Same H10 H' ∧ H' D = some (.lst []))
          ⟨same_upd nD, upd_same⟩ (fun i H' _ h => SqL.of (h.1 _ _ y3)) ?_ ?_⟩
      · rintro k x H11 hx ⟨s11, hD⟩
        refine ⟨rfl, ?_⟩
        have ht : ∃ T : String, TyX K H11 x (.type T) ∧ T ∈ noTup := by
          have hm := List.mem_of_getElem? hx
          rcases List.mem_cons.mp hm with rfl | hm
          · exact ⟨"NoneType", .base .non, by decide⟩
          · rcases List.mem_cons.mp hm with rfl | hm
            · exact ⟨"list", .base (.lst (s11 _ _ y22)), by decide⟩
            · rcases List.mem_cons.mp hm with rfl | hm
              · exact ⟨"str", .base (.str _), by decide⟩
              · rcases List.mem_cons.mp hm with rfl | hm
                · exact ⟨"int", .base (.int _), by decide⟩
                · exact absurd hm List.not_mem_nil
        obtain ⟨T, ty, hT⟩ := ht
        refine ⟨_, rfl, x, T, rfl, ty, hT, fun H12 s12 => ⟨_, rfl, ?_⟩⟩
        exact iteF ⟨s11.trans s12, s12 _ _ hD⟩
      · rintro H11 ⟨s11, hD⟩
        refine ⟨Nat.zero_le _, fun t nt => ?_⟩
        have st := same_upd (o := HO.lst []) nt
        refine ⟨.list [], .list [], .lst (SqL.of (st _ _ hD)) .nil, .lst (SqL.of upd_same) .nil, rfl, rfl, ?_⟩
        rw [show PyData.eqv (.list []) (.list []) = true from rfl]
        exact q _
end
end Rw

/-! R23 -/
namespace Rw
open PySem PySem.Spec PyProof.Rows L2
open PySem.W (findIn typeIn keepIn codeIn subIn nsIn hasDictIn mroIn specialIn takesIn kitOne isFn selfFirst makesIn plainGet plainOver exmOne)
/-- which class is below which, by computation -/
def kitB (K : PySem.W.Frag) (cI cR : Addr) : Bool := (exmOne K (.ref cI) (.ref cI) == some true) && ((kitOne K (.ref cR) (.ref cR) == some true) && (["NoneType", "bool", "int", "list", "str", "dict", "tuple"].all fun T => kitOne K (.type T) (.ref cR) == some false))
theorem kit_of_B {K : PySem.W.Frag} {cI cR : Addr} (h : kitB K cI cR = true) : exmOne K (.ref cI) (.ref cI) = some true ∧ kitOne K (.ref cR) (.ref cR) = some true ∧ ∀ T ∈ ["NoneType", "bool", "int", "list", "str", "dict", "tuple"], kitOne K (.type T) (.ref cR) = some false := by
  unfold kitB at h
  simp only [Bool.and_eq_true, beq_iff_eq] at h
  exact ⟨h.1, h.2.1, fun T hT => beq_iff_eq.mp (List.all_eq_true.mp h.2.2 T hT)⟩
theorem all_mk {P : Program} {w : World} {K : PySem.W.Frag} {h : Heap} {mg : Str → Option Value} {fa : Addr} (X : K.In h) (G : h.Ns mainGlobals mg) (hfa : mg "law" = some (.ref fa))
    {cD : Addr} {nmI qI : Str} {NI : Addr} {bsI : List Value} {snI : List Str} {subI : List Value} {abI : Bool} {colI : Option Bool} {ddI : Option Addr} {m0I m1I m2I m3I m5I : Option Value} {cI fI : Addr}
    {cR : Addr}
    {fo0 ro0 : Option Value}
    {fo1 ro1 : Option Value}
    {fo2 ro2 : Option Value}
    {fo3 ro3 : Option Value}
    {fo4 ro4 : Option Value}
    {fo5 ro5 : Option Value}
    {fo6 ro6 : Option Value}
    {dK : Addr} {esK : Array DictEntry} {nK : Nat} {tL tS : Tok}
    {u0 : Value}
    {u1 : Value}
    {u2 : Value}
    {u3 : Value}
    {u4 : Value}
    {u5 : Value}
    {u6 : Value}
    {u7 : Value}
    {u8 : Value}
    {u9 : Value}
    {fName : Addr} {ocName dcName pmName cdName ctName kVName : Value} {odName anName : Option Addr} {slName : Array (Option Value)}
    {fStep : Addr} {ocStep dcStep pmStep cdStep ctStep kVStep : Value} {odStep anStep : Option Addr} {slStep : Array (Option Value)}
    {fBr : Addr} {ocBr dcBr pmBr cdBr ctBr kVBr : Value} {odBr anBr : Option Addr} {slBr : Array (Option Value)}
    {fBeh : Addr} {ocBeh dcBeh pmBeh cdBeh ctBeh kVBeh : Value} {odBeh anBeh : Option Addr} {slBeh : Array (Option Value)}
    {fHeld : Addr} {ocHeld dcHeld pmHeld cdHeld ctHeld kVHeld : Value} {odHeld anHeld : Option Addr} {slHeld : Array (Option Value)}
    {fWr : Addr} {ocWr dcWr pmWr cdWr ctWr kVWr : Value} {odWr anWr : Option Addr} {slWr : Array (Option Value)}
    {fWL : Addr} {ocWL dcWL pmWL cdWL ctWL kVWL : Value} {odWL anWL : Option Addr} {slWL : Array (Option Value)}
    {fCh : Addr} {ocCh dcCh pmCh cdCh ctCh kVCh : Value} {odCh anCh : Option Addr} {slCh : Array (Option Value)}
    {fIn : Addr} {ocIn dcIn pmIn cdIn ctIn kVIn : Value} {odIn anIn : Option Addr} {slIn : Array (Option Value)}
    {fNum : Addr} {ocNum dcNum pmNum cdNum ctNum kVNum : Value} {odNum anNum : Option Addr} {slNum : Array (Option Value)}
    {fPool : Addr} {ocPool dcPool pmPool cdPool ctPool kVPool : Value} {odPool anPool : Option Addr} {slPool : Array (Option Value)}
    {fDraw : Addr} {ocDraw dcDraw pmDraw cdDraw ctDraw kVDraw : Value} {odDraw anDraw : Option Addr} {slDraw : Array (Option Value)}
    {fPick : Addr} {ocPick dcPick pmPick cdPick ctPick kVPick : Value} {odPick anPick : Option Addr} {slPick : Array (Option Value)}
    {fTruth : Addr} {ocTruth dcTruth pmTruth cdTruth ctTruth kVTruth : Value} {odTruth anTruth : Option Addr} {slTruth : Array (Option Value)}
    {fFine : Addr} {ocFine dcFine pmFine cdFine ctFine kVFine : Value} {odFine anFine : Option Addr} {slFine : Array (Option Value)}
    {fFault : Addr} {ocFault dcFault pmFault cdFault ctFault kVFault : Value} {odFault anFault : Option Addr} {slFault : Array (Option Value)}
    {fDue : Addr} {ocDue dcDue pmDue cdDue ctDue kVDue : Value} {odDue anDue : Option Addr} {slDue : Array (Option Value)}
    {fHeard : Addr} {ocHeard dcHeard pmHeard cdHeard ctHeard kVHeard : Value} {odHeard anHeard : Option Addr} {slHeard : Array (Option Value)}
    {fLi : Addr} {ocLi dcLi pmLi cdLi ctLi kVLi : Value} {odLi anLi : Option Addr} {slLi : Array (Option Value)}
    {fNo : Addr} {ocNo dcNo pmNo cdNo ctNo kVNo : Value} {odNo anNo : Option Addr} {slNo : Array (Option Value)}
    {fL : Addr} {ocL dcL pmL cdL ctL kVL : Value} {odL anL : Option Addr} {slL : Array (Option Value)}
    {ocIS dcIS pmIS cdIS ctIS kVIS : Value} {odIS anIS : Option Addr} {slIS : Array (Option Value)}
    {fRI : Addr}
    {ocRI dcRI pmRI cdRI ctRI kVRI : Value} {odRI anRI : Option Addr} {slRI : Array (Option Value)}
    {fAdd : Addr}
    {ocAdd dcAdd pmAdd cdAdd ctAdd kVAdd : Value} {odAdd anAdd : Option Addr} {slAdd : Array (Option Value)}
    {fRadd : Addr}
    {ocRadd dcRadd pmRadd cdRadd ctRadd kVRadd : Value} {odRadd anRadd : Option Addr} {slRadd : Array (Option Value)}
    {fSt : Addr}
    {ocSt dcSt pmSt cdSt ctSt kVSt : Value} {odSt anSt : Option Addr} {slSt : Array (Option Value)}
    (aI : nsIn K mainGlobals "InvalidStep" = some (some (.ref cI)))
    (xI : K.lookup cI = some (excClassObj nmI qI cI NI bsI [.ref cD, .type "Exception", .type "BaseException", .type "object"] true snI subI abI colI ddI m0I m1I m2I m3I m5I "Exception.__new__"))
    (saI : findIn K (.ref cI) "__setattr__" = some (some (.builtin "object.__setattr__")))
    (gaI : findIn K (.ref cI) "__getattribute__" = some (some (.builtin "BaseException.__getattribute__")))
    (ggI : findIn K (.ref cI) "__getattr__" = some none)
    (nI : findIn K (.ref cI) "index" = some none)
    (iI : findIn K (.ref cI) "__init__" = some (some (.ref fI)))
    (tI : typeIn K (.ref fI) = some (.type "function"))
    (kCI : keepIn K (.ref cI) = true)
    (eCI : subIn K (.ref cI) (.type "BaseException") = some true)
    (tCI : typeIn K (.ref cI) = some (.type "type"))
    (hCI : hasDictIn K cI = true)
    (haI : findIn K (.ref cI) "__class__" = some (some (.builtin "object.__class__")))
    (hmI : mroIn K cI (.type "object") = some true)
    (hn : specialIn K (.builtin "object.__class__") "__get__" = some (some (.builtin "getset_descriptor.__get__")))
    (ht : takesIn K (.builtin "object.__class__") = some true)
    (aR : nsIn K mainGlobals "Row" = some (some (.ref cR)))
    (pgR : plainGet K cR Str.empty = true)
    (hdR : hasDictIn K cR = true)
    (poR : plainOver K cR = true)
    (saR : findIn K (.ref cR) "__setattr__" = some (some (.builtin "object.__setattr__")))
    (nSR : findIn K (.ref cR) "_steps" = some none)
    (nHR : findIn K (.ref cR) "_held" = some none)
    (mkR : makesIn K cR = true)
    (kCR : keepIn K (.ref cR) = true)
    (sfR : selfFirst K cR = true)
    (haR : findIn K (.ref cR) "__class__" = some (some (.builtin "object.__class__")))
    (hmR : mroIn K cR (.type "object") = some true)
    (kb : kitB K cI cR = true)
    (fo_0 : findIn K (.type "NoneType") "__add__" = some fo0)
    (ro_0 : findIn K (.type "NoneType") "__radd__" = some ro0)
    (su0 : subIn K (.type "NoneType") (.ref cR) = some false)
    (fo_1 : findIn K (.type "bool") "__add__" = some fo1)
    (ro_1 : findIn K (.type "bool") "__radd__" = some ro1)
    (su1 : subIn K (.type "bool") (.ref cR) = some false)
    (fo_2 : findIn K (.type "int") "__add__" = some fo2)
    (ro_2 : findIn K (.type "int") "__radd__" = some ro2)
    (su2 : subIn K (.type "int") (.ref cR) = some false)
    (fo_3 : findIn K (.type "list") "__add__" = some fo3)
    (ro_3 : findIn K (.type "list") "__radd__" = some ro3)
    (su3 : subIn K (.type "list") (.ref cR) = some false)
    (fo_4 : findIn K (.type "str") "__add__" = some fo4)
    (ro_4 : findIn K (.type "str") "__radd__" = some ro4)
    (su4 : subIn K (.type "str") (.ref cR) = some false)
    (fo_5 : findIn K (.type "dict") "__add__" = some fo5)
    (ro_5 : findIn K (.type "dict") "__radd__" = some ro5)
    (su5 : subIn K (.type "dict") (.ref cR) = some false)
    (fo_6 : findIn K (.type "tuple") "__add__" = some fo6)
    (ro_6 : findIn K (.type "tuple") "__radd__" = some ro6)
    (su6 : subIn K (.type "tuple") (.ref cR) = some false)
    (rtup : ((fo6.isSome && !isSeqSlot fo6) || (ro6.isSome && !isSeqSlot ro6)) = false)
    (gK : nsIn K mainGlobals "STEP_KINDS" = some (some (.ref dK)))
    (lK : K.lookup dK = some ⟨.type "dict", none, .dict esK nK, #[]⟩)
    (hK : PySem.W.KeysLit w.params esK.toList)
    (lowK : (dK == sysModules) = false)
    (w0 : nsIn K dK "cancel" = some (some u0))
    (w1 : nsIn K dK "bar" = some (some u1))
    (w2 : nsIn K dK "halt" = some (some u2))
    (w3 : nsIn K dK "settle" = some (some u3))
    (w4 : nsIn K dK "close" = some (some u4))
    (w5 : nsIn K dK "drain" = some (some u5))
    (w6 : nsIn K dK "set" = some (some u6))
    (w7 : nsIn K dK "clear" = some (some u7))
    (w8 : nsIn K dK "take" = some (some u8))
    (w9 : nsIn K dK "give" = some (some u9))
    (nUse : nsIn K dK "use" = some none)
    (nStart : nsIn K dK "start" = some none)
    (gML : nsIn K mainGlobals "MOST_LETTERS" = some (some (.int 8 tL)))
    (gMS : nsIn K mainGlobals "MOST_STEPS" = some (some (.int 8 tS)))
    (aName : nsIn K mainGlobals "is_name" = some (some (.ref fName)))
    (aStep : nsIn K mainGlobals "is_step" = some (some (.ref fStep)))
    (aBr : nsIn K mainGlobals "branches" = some (some (.ref fBr)))
    (aBeh : nsIn K mainGlobals "locks_behind" = some (some (.ref fBeh)))
    (aHeld : nsIn K mainGlobals "held_along" = some (some (.ref fHeld)))
    (aWr : nsIn K mainGlobals "is_wrong" = some (some (.ref fWr)))
    (aWL : nsIn K mainGlobals "wrong_locks" = some (some (.ref fWL)))
    (aCh : nsIn K mainGlobals "check_steps" = some (some (.ref fCh)))
    (aIn : nsIn K mainGlobals "steps_in" = some (some (.ref fIn)))
    (aNum : nsIn K mainGlobals "_law_numbers" = some (some (.ref fNum)))
    (aPool : nsIn K mainGlobals "_law_pool" = some (some (.ref fPool)))
    (aDraw : nsIn K mainGlobals "_law_draw" = some (some (.ref fDraw)))
    (aPick : nsIn K mainGlobals "_law_pick" = some (some (.ref fPick)))
    (aTruth : nsIn K mainGlobals "_law_truth" = some (some (.ref fTruth)))
    (aFine : nsIn K mainGlobals "_law_fine" = some (some (.ref fFine)))
    (aFault : nsIn K mainGlobals "_law_fault" = some (some (.ref fFault)))
    (aDue : nsIn K mainGlobals "_law_due" = some (some (.ref fDue)))
    (aHeard : nsIn K mainGlobals "_law_heard" = some (some (.ref fHeard)))
    (aLi : nsIn K mainGlobals "_law_listed" = some (some (.ref fLi)))
    (aNo : nsIn K mainGlobals "_law_none" = some (some (.ref fNo)))
    (aL : nsIn K mainGlobals "law" = some (some (.ref fL)))
    (aRI : findIn K (.ref cR) "__init__" = some (some (.ref fRI)))
    (iRI : isFn K (.ref fRI) = true)
    (aAdd : findIn K (.ref cR) "__add__" = some (some (.ref fAdd)))
    (iAdd : isFn K (.ref fAdd) = true)
    (aRadd : findIn K (.ref cR) "__radd__" = some (some (.ref fRadd)))
    (iRadd : isFn K (.ref fRadd) = true)
    (aSt : findIn K (.ref cR) "steps" = some (some (.ref fSt)))
    (iSt : isFn K (.ref fSt) = true)
    (lName : K.lookup fName = some ⟨ocName, odName, .func (PySem.W.fnOf "is_name" "is_name" (defArgs sName) (defBody sName) (defScope sName) .none kVName dcName pmName anName cdName ctName), slName⟩)
    (ccName : codeIn K cdName "is_name" = true)
    (kfName : keepIn K (.ref fName) = true)
    (lStep : K.lookup fStep = some ⟨ocStep, odStep, .func (PySem.W.fnOf "is_step" "is_step" (defArgs sStep) (defBody sStep) (defScope sStep) .none kVStep dcStep pmStep anStep cdStep ctStep), slStep⟩)
    (ccStep : codeIn K cdStep "is_step" = true)
    (kfStep : keepIn K (.ref fStep) = true)
    (lBr : K.lookup fBr = some ⟨ocBr, odBr, .func (PySem.W.fnOf "branches" "branches" (defArgs sBr) (defBody sBr) (defScope sBr) .none kVBr dcBr pmBr anBr cdBr ctBr), slBr⟩)
    (ccBr : codeIn K cdBr "branches" = true)
    (kfBr : keepIn K (.ref fBr) = true)
    (lBeh : K.lookup fBeh = some ⟨ocBeh, odBeh, .func (PySem.W.fnOf "locks_behind" "locks_behind" (defArgs sBeh) (defBody sBeh) (defScope sBeh) .none kVBeh dcBeh pmBeh anBeh cdBeh ctBeh), slBeh⟩)
    (ccBeh : codeIn K cdBeh "locks_behind" = true)
    (kfBeh : keepIn K (.ref fBeh) = true)
    (lHeld : K.lookup fHeld = some ⟨ocHeld, odHeld, .func (PySem.W.fnOf "held_along" "held_along" (defArgs sHeld) (defBody sHeld) (defScope sHeld) .none kVHeld dcHeld pmHeld anHeld cdHeld ctHeld), slHeld⟩)
    (ccHeld : codeIn K cdHeld "held_along" = true)
    (kfHeld : keepIn K (.ref fHeld) = true)
    (lWr : K.lookup fWr = some ⟨ocWr, odWr, .func (PySem.W.fnOf "is_wrong" "is_wrong" (defArgs sWr) (defBody sWr) (defScope sWr) .none kVWr dcWr pmWr anWr cdWr ctWr), slWr⟩)
    (ccWr : codeIn K cdWr "is_wrong" = true)
    (kfWr : keepIn K (.ref fWr) = true)
    (lWL : K.lookup fWL = some ⟨ocWL, odWL, .func (PySem.W.fnOf "wrong_locks" "wrong_locks" (defArgs sWL) (defBody sWL) (defScope sWL) .none kVWL dcWL pmWL anWL cdWL ctWL), slWL⟩)
    (ccWL : codeIn K cdWL "wrong_locks" = true)
    (kfWL : keepIn K (.ref fWL) = true)
    (lCh : K.lookup fCh = some ⟨ocCh, odCh, .func (PySem.W.fnOf "check_steps" "check_steps" (defArgs sCh) (defBody sCh) (defScope sCh) .none kVCh dcCh pmCh anCh cdCh ctCh), slCh⟩)
    (ccCh : codeIn K cdCh "check_steps" = true)
    (kfCh : keepIn K (.ref fCh) = true)
    (lIn : K.lookup fIn = some ⟨ocIn, odIn, .func (PySem.W.fnOf "steps_in" "steps_in" (defArgs sIn) (defBody sIn) (defScope sIn) .none kVIn dcIn pmIn anIn cdIn ctIn), slIn⟩)
    (ccIn : codeIn K cdIn "steps_in" = true)
    (kfIn : keepIn K (.ref fIn) = true)
    (lNum : K.lookup fNum = some ⟨ocNum, odNum, .func (PySem.W.fnOf "_law_numbers" "_law_numbers" (defArgs sNum) (defBody sNum) (defScope sNum) .none kVNum dcNum pmNum anNum cdNum ctNum), slNum⟩)
    (ccNum : codeIn K cdNum "_law_numbers" = true)
    (kfNum : keepIn K (.ref fNum) = true)
    (lPool : K.lookup fPool = some ⟨ocPool, odPool, .func (PySem.W.fnOf "_law_pool" "_law_pool" (defArgs sPool) (defBody sPool) (defScope sPool) .none kVPool dcPool pmPool anPool cdPool ctPool), slPool⟩)
    (ccPool : codeIn K cdPool "_law_pool" = true)
    (kfPool : keepIn K (.ref fPool) = true)
    (lDraw : K.lookup fDraw = some ⟨ocDraw, odDraw, .func (PySem.W.fnOf "_law_draw" "_law_draw" (defArgs sDraw) (defBody sDraw) (defScope sDraw) .none kVDraw dcDraw pmDraw anDraw cdDraw ctDraw), slDraw⟩)
    (ccDraw : codeIn K cdDraw "_law_draw" = true)
    (kfDraw : keepIn K (.ref fDraw) = true)
    (lPick : K.lookup fPick = some ⟨ocPick, odPick, .func (PySem.W.fnOf "_law_pick" "_law_pick" (defArgs sPick) (defBody sPick) (defScope sPick) .none kVPick dcPick pmPick anPick cdPick ctPick), slPick⟩)
    (ccPick : codeIn K cdPick "_law_pick" = true)
    (kfPick : keepIn K (.ref fPick) = true)
    (lTruth : K.lookup fTruth = some ⟨ocTruth, odTruth, .func (PySem.W.fnOf "_law_truth" "_law_truth" (defArgs sTruth) (defBody sTruth) (defScope sTruth) .none kVTruth dcTruth pmTruth anTruth cdTruth ctTruth), slTruth⟩)
    (ccTruth : codeIn K cdTruth "_law_truth" = true)
    (kfTruth : keepIn K (.ref fTruth) = true)
    (lFine : K.lookup fFine = some ⟨ocFine, odFine, .func (PySem.W.fnOf "_law_fine" "_law_fine" (defArgs sFine) (defBody sFine) (defScope sFine) .none kVFine dcFine pmFine anFine cdFine ctFine), slFine⟩)
    (ccFine : codeIn K cdFine "_law_fine" = true)
    (kfFine : keepIn K (.ref fFine) = true)
    (lFault : K.lookup fFault = some ⟨ocFault, odFault, .func (PySem.W.fnOf "_law_fault" "_law_fault" (defArgs sFault) (defBody sFault) (defScope sFault) .none kVFault dcFault pmFault anFault cdFault ctFault), slFault⟩)
    (ccFault : codeIn K cdFault "_law_fault" = true)
    (kfFault : keepIn K (.ref fFault) = true)
    (lDue : K.lookup fDue = some ⟨ocDue, odDue, .func (PySem.W.fnOf "_law_due" "_law_due" (defArgs sDue) (defBody sDue) (defScope sDue) .none kVDue dcDue pmDue anDue cdDue ctDue), slDue⟩)
    (ccDue : codeIn K cdDue "_law_due" = true)
    (kfDue : keepIn K (.ref fDue) = true)
    (lHeard : K.lookup fHeard = some ⟨ocHeard, odHeard, .func (PySem.W.fnOf "_law_heard" "_law_heard" (defArgs sHeard) (defBody sHeard) (defScope sHeard) .none kVHeard dcHeard pmHeard anHeard cdHeard ctHeard), slHeard⟩)
    (ccHeard : codeIn K cdHeard "_law_heard" = true)
    (kfHeard : keepIn K (.ref fHeard) = true)
    (lLi : K.lookup fLi = some ⟨ocLi, odLi, .func (PySem.W.fnOf "_law_listed" "_law_listed" (defArgs sLi) (defBody sLi) (defScope sLi) .none kVLi dcLi pmLi anLi cdLi ctLi), slLi⟩)
    (ccLi : codeIn K cdLi "_law_listed" = true)
    (kfLi : keepIn K (.ref fLi) = true)
    (lNo : K.lookup fNo = some ⟨ocNo, odNo, .func (PySem.W.fnOf "_law_none" "_law_none" (defArgs sNo) (defBody sNo) (defScope sNo) .none kVNo dcNo pmNo anNo cdNo ctNo), slNo⟩)
    (ccNo : codeIn K cdNo "_law_none" = true)
    (kfNo : keepIn K (.ref fNo) = true)
    (lL : K.lookup fL = some ⟨ocL, odL, .func (PySem.W.fnOf "law" "law" (defArgs sLaw) (defBody sLaw) (defScope sLaw) .none kVL dcL pmL anL cdL ctL), slL⟩)
    (ccL : codeIn K cdL "law" = true)
    (kfL : keepIn K (.ref fL) = true)
    (lIS : K.lookup fI = some ⟨ocIS, odIS, .func (PySem.W.fnOf "__init__" "InvalidStep.__init__" (defArgs sIS) (defBody sIS) (defScope sIS) .none kVIS dcIS pmIS anIS cdIS ctIS), slIS⟩)
    (ccIS : codeIn K cdIS "InvalidStep.__init__" = true)
    (kfIS : keepIn K (.ref fI) = true)
    (lRI : K.lookup fRI = some ⟨ocRI, odRI, .func (PySem.W.fnOf "__init__" "Row.__init__" (defArgs sRI) (defBody sRI) (defScope sRI) .none kVRI dcRI pmRI anRI cdRI ctRI), slRI⟩)
    (ccRI : codeIn K cdRI "Row.__init__" = true)
    (kfRI : keepIn K (.ref fRI) = true)
    (lAdd : K.lookup fAdd = some ⟨ocAdd, odAdd, .func (PySem.W.fnOf "__add__" "Row.__add__" (defArgs sAdd) (defBody sAdd) (defScope sAdd) .none kVAdd dcAdd pmAdd anAdd cdAdd ctAdd), slAdd⟩)
    (ccAdd : codeIn K cdAdd "Row.__add__" = true)
    (kfAdd : keepIn K (.ref fAdd) = true)
    (lRadd : K.lookup fRadd = some ⟨ocRadd, odRadd, .func (PySem.W.fnOf "__radd__" "Row.__radd__" (defArgs sRadd) (defBody sRadd) (defScope sRadd) .none kVRadd dcRadd pmRadd anRadd cdRadd ctRadd), slRadd⟩)
    (ccRadd : codeIn K cdRadd "Row.__radd__" = true)
    (kfRadd : keepIn K (.ref fRadd) = true)
    (lSt : K.lookup fSt = some ⟨ocSt, odSt, .func (PySem.W.fnOf "steps" "Row.steps" (defArgs sSt) (defBody sSt) (defScope sSt) .none kVSt dcSt pmSt anSt cdSt ctSt), slSt⟩)
    (ccSt : codeIn K cdSt "Row.steps" = true)
    (kfSt : keepIn K (.ref fSt) = true)
    (z_isinstance : nsIn K mainGlobals "isinstance" = some none)
    (z_str : nsIn K mainGlobals "str" = some none)
    (z_len : nsIn K mainGlobals "len" = some none)
    (z_all : nsIn K mainGlobals "all" = some none)
    (z_tuple : nsIn K mainGlobals "tuple" = some none)
    (z_enumerate : nsIn K mainGlobals "enumerate" = some none)
    (z_list : nsIn K mainGlobals "list" = some none)
    (z_max : nsIn K mainGlobals "max" = some none)
    (z_range : nsIn K mainGlobals "range" = some none)
    (z_int : nsIn K mainGlobals "int" = some none)
    (z_bool : nsIn K mainGlobals "bool" = some none)
    : ∃ fd : FuncData, (∀ (s : Shared) (v : Value), BindsTo s fd ⟨[v], []⟩ [("_law_script", v)]) ∧ ∀ base : Heap, K.In base → base.Ns mainGlobals mg → FnOk P w K mg base CX0 8 fa fd ["_law_script"] (spLaw K) := by
  have e := hfa.symm.trans (PySem.W.mg_of X G aL)
  cases e
  have FName := fun_mk (st := sName) lName ccName kfName
  have FStep := fun_mk (st := sStep) lStep ccStep kfStep
  have FBr := fun_mk (st := sBr) lBr ccBr kfBr
  have FBeh := fun_mk (st := sBeh) lBeh ccBeh kfBeh
  have FHeld := fun_mk (st := sHeld) lHeld ccHeld kfHeld
  have FWr := fun_mk (st := sWr) lWr ccWr kfWr
  have FWL := fun_mk (st := sWL) lWL ccWL kfWL
  have FCh := fun_mk (st := sCh) lCh ccCh kfCh
  have FIn := fun_mk (st := sIn) lIn ccIn kfIn
  have FNum := fun_mk (st := sNum) lNum ccNum kfNum
  have FPool := fun_mk (st := sPool) lPool ccPool kfPool
  have FDraw := fun_mk (st := sDraw) lDraw ccDraw kfDraw
  have FPick := fun_mk (st := sPick) lPick ccPick kfPick
  have FTruth := fun_mk (st := sTruth) lTruth ccTruth kfTruth
  have FFine := fun_mk (st := sFine) lFine ccFine kfFine
  have FFault := fun_mk (st := sFault) lFault ccFault kfFault
  have FDue := fun_mk (st := sDue) lDue ccDue kfDue
  have FHeard := fun_mk (st := sHeard) lHeard ccHeard kfHeard
  have FLi := fun_mk (st := sLi) lLi ccLi kfLi
  have FNo := fun_mk (st := sNo) lNo ccNo kfNo
  have FL := fun_mk (st := sLaw) lL ccL kfL
  have FIS := fun_mk (st := sIS) lIS ccIS kfIS
  have FRI := fun_mk (st := sRI) lRI ccRI kfRI
  have FAdd := fun_mk (st := sAdd) lAdd ccAdd kfAdd
  have FRadd := fun_mk (st := sRadd) lRadd ccRadd kfRadd
  have FSt := fun_mk (st := sSt) lSt ccSt kfSt
  have z : ∀ {x : Str}, nsIn K mainGlobals x = some none → mg x = none := fun e => PySem.W.mg_none_of X G e
  have CName : Called K mg "is_name" ["value"] fName _ := ⟨PySem.W.mg_of X G aName, kfName, FName.binds (ps := ["value"]) fun _ _ _ _ _ _ us hl => match us, hl with | [_], _ => rfl⟩
  have CStep : Called K mg "is_step" ["value"] fStep _ := ⟨PySem.W.mg_of X G aStep, kfStep, FStep.binds (ps := ["value"]) fun _ _ _ _ _ _ us hl => match us, hl with | [_], _ => rfl⟩
  have CBr : Called K mg "branches" ["item"] fBr _ := ⟨PySem.W.mg_of X G aBr, kfBr, FBr.binds (ps := ["item"]) fun _ _ _ _ _ _ us hl => match us, hl with | [_], _ => rfl⟩
  have CBeh : Called K mg "locks_behind" ["item", "held"] fBeh _ := ⟨PySem.W.mg_of X G aBeh, kfBeh, FBeh.binds (ps := ["item", "held"]) fun _ _ _ _ _ _ us hl => match us, hl with | [_, _], _ => rfl⟩
  have CHeld : Called K mg "held_along" ["items", "around"] fHeld _ := ⟨PySem.W.mg_of X G aHeld, kfHeld, FHeld.binds (ps := ["items", "around"]) fun _ _ _ _ _ _ us hl => match us, hl with | [_, _], _ => rfl⟩
  have CWr : Called K mg "is_wrong" ["item", "later", "around", "taken"] fWr _ := ⟨PySem.W.mg_of X G aWr, kfWr, FWr.binds (ps := ["item", "later", "around", "taken"]) fun _ _ _ _ _ _ us hl => match us, hl with | [_, _, _, _], _ => rfl⟩
  have CWL : Called K mg "wrong_locks" ["items", "around"] fWL _ := ⟨PySem.W.mg_of X G aWL, kfWL, FWL.binds (ps := ["items", "around"]) fun _ _ _ _ _ _ us hl => match us, hl with | [_, _], _ => rfl⟩
  have CCh : Called K mg "check_steps" ["steps"] fCh _ := ⟨PySem.W.mg_of X G aCh, kfCh, FCh.binds (ps := ["steps"]) fun _ _ _ _ _ _ us hl => match us, hl with | [_], _ => rfl⟩
  have CIn : Called K mg "steps_in" ["value"] fIn _ := ⟨PySem.W.mg_of X G aIn, kfIn, FIn.binds (ps := ["value"]) fun _ _ _ _ _ _ us hl => match us, hl with | [_], _ => rfl⟩
  have CNum : Called K mg "_law_numbers" ["_law_cell", "_law_salt", "_law_sizes"] fNum _ := ⟨PySem.W.mg_of X G aNum, kfNum, FNum.binds (ps := ["_law_cell", "_law_salt", "_law_sizes"]) fun _ _ _ _ _ _ us hl => match us, hl with | [_, _, _], _ => rfl⟩
  have CPool : Called K mg "_law_pool" ["_law_cell", "_law_salt", "_law_many"] fPool _ := ⟨PySem.W.mg_of X G aPool, kfPool, FPool.binds (ps := ["_law_cell", "_law_salt", "_law_many"]) fun _ _ _ _ _ _ us hl => match us, hl with | [_, _, _], _ => rfl⟩
  have CDraw : Called K mg "_law_draw" ["_law_pool_here", "_law_many"] fDraw _ := ⟨PySem.W.mg_of X G aDraw, kfDraw, FDraw.binds (ps := ["_law_pool_here", "_law_many"]) fun _ _ _ _ _ _ us hl => match us, hl with | [_, _], _ => rfl⟩
  have CPick : Called K mg "_law_pick" ["_law_pool_here", "_law_some"] fPick _ := ⟨PySem.W.mg_of X G aPick, kfPick, FPick.binds (ps := ["_law_pool_here", "_law_some"]) fun _ _ _ _ _ _ us hl => match us, hl with | [_, _], _ => rfl⟩
  have CTruth : Called K mg "_law_truth" ["_law_found", "_law_due_here"] fTruth _ := ⟨PySem.W.mg_of X G aTruth, kfTruth, FTruth.binds (ps := ["_law_found", "_law_due_here"]) fun _ _ _ _ _ _ us hl => match us, hl with | [_, _], _ => rfl⟩
  have CFine : Called K mg "_law_fine" ["_law_thing"] fFine _ := ⟨PySem.W.mg_of X G aFine, kfFine, FFine.binds (ps := ["_law_thing"]) fun _ _ _ _ _ _ us hl => match us, hl with | [_], _ => rfl⟩
  have CFault : Called K mg "_law_fault" ["_law_steps"] fFault _ := ⟨PySem.W.mg_of X G aFault, kfFault, FFault.binds (ps := ["_law_steps"]) fun _ _ _ _ _ _ us hl => match us, hl with | [_], _ => rfl⟩
  have CDue : Called K mg "_law_due" ["_law_steps"] fDue _ := ⟨PySem.W.mg_of X G aDue, kfDue, FDue.binds (ps := ["_law_steps"]) fun _ _ _ _ _ _ us hl => match us, hl with | [_], _ => rfl⟩
  have CHeard : Called K mg "_law_heard" ["_law_row", "_law_some", "_law_way"] fHeard _ := ⟨PySem.W.mg_of X G aHeard, kfHeard, FHeard.binds (ps := ["_law_row", "_law_some", "_law_way"]) fun _ _ _ _ _ _ us hl => match us, hl with | [_, _, _], _ => rfl⟩
  have CLi : Called K mg "_law_listed" ["_law_pool_here", "_law_names"] fLi _ := ⟨PySem.W.mg_of X G aLi, kfLi, FLi.binds (ps := ["_law_pool_here", "_law_names"]) fun _ _ _ _ _ _ us hl => match us, hl with | [_, _], _ => rfl⟩
  have CNo : Called K mg "_law_none" ["_law_thing"] fNo _ := ⟨PySem.W.mg_of X G aNo, kfNo, FNo.binds (ps := ["_law_thing"]) fun _ _ _ _ _ _ us hl => match us, hl with | [_], _ => rfl⟩
  have bIS := FIS.binds (ps := ["self", "index"]) fun _ _ _ _ _ _ us hl => match us, hl with | [_, _], _ => rfl
  have bAdd := FAdd.binds (ps := ["self", "other"]) fun _ _ _ _ _ _ us hl => match us, hl with | [_, _], _ => rfl
  have bRadd := FRadd.binds (ps := ["self", "other"]) fun _ _ _ _ _ _ us hl => match us, hl with | [_, _], _ => rfl
  have bSt := FSt.binds (ps := ["self"]) fun _ _ _ _ _ _ us hl => match us, hl with | [_], _ => rfl
  have oI : OexG K cI fI := ⟨⟨_, _, _, _, PySem.F.excBase_Exception, PySem.F.store_Exception, _, _, _, _, _, _, _, _, _, _, _, _, _, _, _, xI, by rfl⟩, saI, gaI, ggI, eCI, tCI, kCI, hCI, iI, tI, haI, hn, ht, hmI⟩
  have hW : ∀ w ∈ W10, ∃ u, PySem.W.nsIn K dK w = some (some u) := fun w hw => by
    simp only [W10, List.mem_cons, List.mem_nil_iff, or_false] at hw
    rcases hw with rfl | rfl | rfl | rfl | rfl | rfl | rfl | rfl | rfl | rfl
    · exact ⟨_, w0⟩
    · exact ⟨_, w1⟩
    · exact ⟨_, w2⟩
    · exact ⟨_, w3⟩
    · exact ⟨_, w4⟩
    · exact ⟨_, w5⟩
    · exact ⟨_, w6⟩
    · exact ⟨_, w7⟩
    · exact ⟨_, w8⟩
    · exact ⟨_, w9⟩
  have DK : KDict K w dK esK nK := ⟨lK, hK, lowK⟩
  obtain ⟨exI, kRR, kT⟩ := kit_of_B kb
  have aT : ∀ T ∈ ["NoneType", "bool", "int", "list", "str", "dict", "tuple"], AddT K cR T := fun T hT => by
    simp only [List.mem_cons, List.mem_nil_iff, or_false] at hT
    rcases hT with rfl | rfl | rfl | rfl | rfl | rfl | rfl
    · exact ⟨⟨_, _, fo_0, ro_0⟩, su0⟩
    · exact ⟨⟨_, _, fo_1, ro_1⟩, su1⟩
    · exact ⟨⟨_, _, fo_2, ro_2⟩, su2⟩
    · exact ⟨⟨_, _, fo_3, ro_3⟩, su3⟩
    · exact ⟨⟨_, _, fo_4, ro_4⟩, su4⟩
    · exact ⟨⟨_, _, fo_5, ro_5⟩, su5⟩
    · exact ⟨⟨_, _, fo_6, ro_6⟩, su6⟩
  have R : RowC K mg cR fRI fAdd fRadd := ⟨PySem.W.mg_of X G aR, ⟨pgR, hdR, poR, saR⟩, nSR, nHR, ⟨mkR, aRI, iRI, kCR⟩, ⟨sfR, aAdd, iAdd, aRadd, iRadd⟩, haR, hn, ht, hmR, kRR, kT, aT, ⟨_, _, fo_6, ro_6, rtup⟩⟩
  refine ⟨PySem.W.fnOf "law" "law" (defArgs sLaw) (defBody sLaw) (defScope sLaw) .none kVL dcL pmL anL cdL ctL, fun s v => .of_eq rfl, fun base _ _ => ?_⟩
  have T : Er P w K mg base "InvalidStep" "index" cI fI _ := ⟨PySem.W.mg_of X G aI, oI, nI, ok_IS FIS, bIS⟩
  have gName := ok_name (P := P) (w := w) (base := base) FName (z z_isinstance) (z z_str) (z z_len) (z z_all) (PySem.W.mg_of X G gML)
  have gStep := ok_step FStep gName CName (z z_isinstance) (z z_str) (z z_tuple) (z z_len) (PySem.W.mg_of X G gK) DK
  have gBr := ok_br (P := P) (w := w) (mg := mg) (base := base) FBr
  have gBeh := ok_beh (P := P) (w := w) (mg := mg) (base := base) FBeh
  have gHeld := ok_held FHeld gBr CBr gBeh CBeh
  have gWr := ok_wr (P := P) (w := w) (mg := mg) (base := base) FWr
  have gWL := ok_wl FWL gBr CBr gBeh CBeh gWr CWr (z z_enumerate)
  have gCh := ok_check FCh gStep CStep gWL CWL T (PySem.W.mg_of X G gMS) (z z_enumerate) (z z_len)
  have gRI := ok_RI (d := dK) (C := cR) (CI := cI) FRI R gCh CCh gHeld CHeld
  have gIn := ok_in (d := dK) FIn R T (z z_isinstance) (z z_tuple)
  have gAdd := ok_add FAdd R gRI gIn CIn
  have gRadd := ok_radd FRadd R gRI gIn CIn
  have gSt := ok_steps (P := P) (w := w) (base := base) (d := dK) FSt R (z z_list)
  have gNum := ok_num (P := P) (w := w) (base := base) (k := 0) FNum (z z_max) (z z_range) (z z_len)
  have gPool := ok_pool FPool gNum CNum
  have gDraw := ok_draw (P := P) (w := w) (base := base) FDraw (z z_len) (z z_int)
  have gPick := ok_pick FPick gDraw CDraw (z z_len)
  have gTruth := ok_truth (P := P) (w := w) (base := base) FTruth (z z_isinstance) (z z_bool)
  have gFine := ok_fine (P := P) (w := w) (base := base) (d := dK) FFine (z z_isinstance) (z z_tuple) (z z_str) (z z_len)
  have gFault := ok_fault (P := P) (w := w) (base := base) FFault (z z_enumerate)
  have gDue := ok_due FDue hW gFine CFine gFault CFault (z z_enumerate) (z z_len)
  have mSt : Meth K cR "steps" fSt := ⟨aSt, iSt, kfSt⟩
  have gHeard := ok_heard FHeard R T exI gAdd bAdd gRadd bRadd gSt bSt mSt (z z_tuple)
  have gNo := ok_none FNo R T exI gRI gAdd bAdd
  have gLi := ok_listed (d := dK) FLi gDraw CDraw gPick CPick (z z_range) (z z_len) nUse nStart
  exact ok_law FL hW R gPool CPool gDraw CDraw gLi CLi gDue CDue gHeard CHeard gTruth CTruth gStep CStep gFine CFine gNo CNo gRI gAdd bAdd gSt bSt mSt (z z_enumerate) (z z_int) (z z_range) (z z_tuple)
theorem walk {l : PySem.W.OpenLaw} {q : Program} {loose : List Str} {XP : (Str → Option Value) → Heap → Prop} {YP : World → Heap → Prop} {d : DefRec} {K : Params → PySem.W.Frag} (hn : l.most = some 63) (hdf : d.params.defaults = [])
    (hY : ∀ (w : World) (h : Heap), YP w h → (K w.params).In h)
    (F : ∀ (w : World) (mg : Str → Option Value) (fa : Addr) (h : Heap), (K w.params).In h → h.Ns mainGlobals mg → mg d.name = some (.ref fa) →
      ∃ fd : FuncData, (∀ (s : Shared) (u : Value), BindsTo s fd ⟨[u], []⟩ [("_law_script", u)]) ∧ ∀ base : Heap, (K w.params).In base → base.Ns mainGlobals mg → FnOk l.prog w (K w.params) mg base CX0 8 fa fd ["_law_script"] (spLaw (K w.params))) :
    PySem.W.WalkO q loose XP YP l.row.toRowW d [] (fun f vs => PySem.call f vs) :=
  L2.walk_of (n := 63) (k := 8) (x := "_law_script") (CX := fun _ => CX0) (sp := fun w => spLaw (K w.params)) hn (by decide) hdf ⟨rfl, by decide, by decide⟩ hY F (fun _ _ a ns hl _ hS => ⟨a, ns, rfl, hS, hl, fun _ => rfl⟩) fun _ _ _ _ _ z => z
end Rw

/-! R24 -/
open PySem PySem.W PyProof.Rows
set_option maxRecDepth 100000 in
set_option maxHeartbeats 0 in
theorem PySem.Challenge.cw_takendown_k11_rows_judged_holds : PySem.Challenge.rw_takendown_k11_rows_judged.Holds := by
  w_on; o_law; k_head; (case hw => w_witness2)
  k_fill
  refine Rw.walk (l := PySem.Challenge.rw_takendown_k11_rows_judged) rfl rfl (fun w h Y => PySem.W.kIn_of Y) ?F
  case F =>
    intro w mg fa h KX G hmg
    refine' Rw.all_mk KX G hmg ?aI ?xI ?saI ?gaI ?ggI ?nI ?iI ?tI ?kCI ?eCI ?tCI ?hCI ?haI ?hmI ?hn ?ht ?aR ?pgR ?hdR ?poR ?saR ?nSR ?nHR ?mkR ?kCR ?sfR ?haR ?hmR ?kb ?fo_0 ?ro_0 ?su0 ?fo_1 ?ro_1 ?su1 ?fo_2 ?ro_2 ?su2 ?fo_3 ?ro_3 ?su3 ?fo_4 ?ro_4 ?su4 ?fo_5 ?ro_5 ?su5 ?fo_6 ?ro_6 ?su6 ?rtup ?gK ?lK ?hK ?lowK ?w0 ?w1 ?w2 ?w3 ?w4 ?w5 ?w6 ?w7 ?w8 ?w9 ?nUse ?nStart ?gML ?gMS ?aName ?aStep ?aBr ?aBeh ?aHeld ?aWr ?aWL ?aCh ?aIn ?aNum ?aPool ?aDraw ?aPick ?aTruth ?aFine ?aFault ?aDue ?aHeard ?aLi ?aNo ?aL ?aRI ?iRI ?aAdd ?iAdd ?aRadd ?iRadd ?aSt ?iSt ?lName ?ccName ?kfName ?lStep ?ccStep ?kfStep ?lBr ?ccBr ?kfBr ?lBeh ?ccBeh ?kfBeh ?lHeld ?ccHeld ?kfHeld ?lWr ?ccWr ?kfWr ?lWL ?ccWL ?kfWL ?lCh ?ccCh ?kfCh ?lIn ?ccIn ?kfIn ?lNum ?ccNum ?kfNum ?lPool ?ccPool ?kfPool ?lDraw ?ccDraw ?kfDraw ?lPick ?ccPick ?kfPick ?lTruth ?ccTruth ?kfTruth ?lFine ?ccFine ?kfFine ?lFault ?ccFault ?kfFault ?lDue ?ccDue ?kfDue ?lHeard ?ccHeard ?kfHeard ?lLi ?ccLi ?kfLi ?lNo ?ccNo ?kfNo ?lL ?ccL ?kfL ?lIS ?ccIS ?kfIS ?lRI ?ccRI ?kfRI ?lAdd ?ccAdd ?kfAdd ?lRadd ?ccRadd ?kfRadd ?lSt ?ccSt ?kfSt ?z_isinstance ?z_str ?z_len ?z_all ?z_tuple ?z_enumerate ?z_list ?z_max ?z_range ?z_int ?z_bool
    (case aI => k_is)
    (case xI => k_is)
    (case saI => k_is)
    (case gaI => k_is)
    (case ggI => k_is)
    (case nI => k_is)
    (case iI => k_is)
    (case tI => k_is)
    (case kCI => k_is)
    (case eCI => k_is)
    (case tCI => k_is)
    (case hCI => k_is)
    (case haI => k_is)
    (case hmI => k_is)
    (case hn => k_is)
    (case ht => k_is)
    (case aR => k_is)
    (case pgR => k_is)
    (case hdR => k_is)
    (case poR => k_is)
    (case saR => k_is)
    (case nSR => k_is)
    (case nHR => k_is)
    (case mkR => k_is)
    (case kCR => k_is)
    (case sfR => k_is)
    (case haR => k_is)
    (case hmR => k_is)
    (case kb => kernel_rfl)
    (case fo_0 => k_is)
    (case ro_0 => k_is)
    (case su0 => k_is)
    (case fo_1 => k_is)
    (case ro_1 => k_is)
    (case su1 => k_is)
    (case fo_2 => k_is)
    (case ro_2 => k_is)
    (case su2 => k_is)
    (case fo_3 => k_is)
    (case ro_3 => k_is)
    (case su3 => k_is)
    (case fo_4 => k_is)
    (case ro_4 => k_is)
    (case su4 => k_is)
    (case fo_5 => k_is)
    (case ro_5 => k_is)
    (case su5 => k_is)
    (case fo_6 => k_is)
    (case ro_6 => k_is)
    (case su6 => k_is)
    (case rtup => rfl)
    (case gK => k_is)
    (case lK => k_is)
    (case hK => k_keys)
    (case lowK => rfl)
    (case w0 => k_is)
    (case w1 => k_is)
    (case w2 => k_is)
    (case w3 => k_is)
    (case w4 => k_is)
    (case w5 => k_is)
    (case w6 => k_is)
    (case w7 => k_is)
    (case w8 => k_is)
    (case w9 => k_is)
    (case nUse => k_is)
    (case nStart => k_is)
    (case gML => k_is)
    (case gMS => k_is)
    (case aName => k_is)
    (case aStep => k_is)
    (case aBr => k_is)
    (case aBeh => k_is)
    (case aHeld => k_is)
    (case aWr => k_is)
    (case aWL => k_is)
    (case aCh => k_is)
    (case aIn => k_is)
    (case aNum => k_is)
    (case aPool => k_is)
    (case aDraw => k_is)
    (case aPick => k_is)
    (case aTruth => k_is)
    (case aFine => k_is)
    (case aFault => k_is)
    (case aDue => k_is)
    (case aHeard => k_is)
    (case aLi => k_is)
    (case aNo => k_is)
    (case aL => k_is)
    (case aRI => k_is)
    (case iRI => k_is)
    (case aAdd => k_is)
    (case iAdd => k_is)
    (case aRadd => k_is)
    (case iRadd => k_is)
    (case aSt => k_is)
    (case iSt => k_is)
    (case lName => k_is)
    (case ccName => k_is)
    (case kfName => k_is)
    (case lStep => k_is)
    (case ccStep => k_is)
    (case kfStep => k_is)
    (case lBr => k_is)
    (case ccBr => k_is)
    (case kfBr => k_is)
    (case lBeh => k_is)
    (case ccBeh => k_is)
    (case kfBeh => k_is)
    (case lHeld => k_is)
    (case ccHeld => k_is)
    (case kfHeld => k_is)
    (case lWr => k_is)
    (case ccWr => k_is)
    (case kfWr => k_is)
    (case lWL => k_is)
    (case ccWL => k_is)
    (case kfWL => k_is)
    (case lCh => k_is)
    (case ccCh => k_is)
    (case kfCh => k_is)
    (case lIn => k_is)
    (case ccIn => k_is)
    (case kfIn => k_is)
    (case lNum => k_is)
    (case ccNum => k_is)
    (case kfNum => k_is)
    (case lPool => k_is)
    (case ccPool => k_is)
    (case kfPool => k_is)
    (case lDraw => k_is)
    (case ccDraw => k_is)
    (case kfDraw => k_is)
    (case lPick => k_is)
    (case ccPick => k_is)
    (case kfPick => k_is)
    (case lTruth => k_is)
    (case ccTruth => k_is)
    (case kfTruth => k_is)
    (case lFine => k_is)
    (case ccFine => k_is)
    (case kfFine => k_is)
    (case lFault => k_is)
    (case ccFault => k_is)
    (case kfFault => k_is)
    (case lDue => k_is)
    (case ccDue => k_is)
    (case kfDue => k_is)
    (case lHeard => k_is)
    (case ccHeard => k_is)
    (case kfHeard => k_is)
    (case lLi => k_is)
    (case ccLi => k_is)
    (case kfLi => k_is)
    (case lNo => k_is)
    (case ccNo => k_is)
    (case kfNo => k_is)
    (case lL => k_is)
    (case ccL => k_is)
    (case kfL => k_is)
    (case lIS => k_is)
    (case ccIS => k_is)
    (case kfIS => k_is)
    (case lRI => k_is)
    (case ccRI => k_is)
    (case kfRI => k_is)
    (case lAdd => k_is)
    (case ccAdd => k_is)
    (case kfAdd => k_is)
    (case lRadd => k_is)
    (case ccRadd => k_is)
    (case kfRadd => k_is)
    (case lSt => k_is)
    (case ccSt => k_is)
    (case kfSt => k_is)
    (case z_isinstance => k_is)
    (case z_str => k_is)
    (case z_len => k_is)
    (case z_all => k_is)
    (case z_tuple => k_is)
    (case z_enumerate => k_is)
    (case z_list => k_is)
    (case z_max => k_is)
    (case z_range => k_is)
    (case z_int => k_is)
    (case z_bool => k_is)
