import PyProof.Rows.All
import Wide.All
import OpenK.AllK
import Wide.FinOn
import PyProof.Rows.NestShow
import HandS.ForMost
import HandS.ForExc
import HandS.Ends
import HandS.ExcInit
import HandS.ExcIs
import HandS.IsInst
import HandS.ExcField
import HandS.MakeKw
import HandS.MakeKwOnly
import KE.KExcInit
import KE.KExcIs
import KE.KOpsOwn
import HandS.Wide
import HandS.Flow
import HandS.Star
import HandS.ClsMeth
import HandS.Deep
import HandS.OwnEq
import HandS.TupAny
import HandS.More
import HandS.WrittenGet
import KE.GoesMore
import KE.GoesEnum
import KE.KRevSl
import HandS.SetTxt0
import HandS.Set
import HandS.SetBool
import PyProof.StrOps2
import HandS.Style
import HandS.TupMul
import HandS.Property
import PySem.Challenge.RW_takendown_k03_whole_bodies_judged
set_option Elab.async false
set_option linter.all false
set_option maxRecDepth 100000
set_option maxHeartbeats 400000
/-! E1 -/
/-! ### own error classes with an __init__ of their own, over any built-in base; made by position and by keywords -/
namespace PySem
namespace LwX
open PySem.HandSPX Builtin Builtin.ObjectAttr
section
variable {M : Model} {A : Around} {E : Value → Shared → Prop} {h : Heap} {g : Array GenState} {d : Drawn} {t : Nat} {os : OsState}
variable {nm q : Str} {C N : Addr} {bs bm bmB : List Value} {hdct : Bool} {sn : List Str} {sub : List Value} {ab : Bool} {col : Option Bool} {dd : Option Addr} {k0 k1 k2 k3 k5 : Option Value} {B newId initId : String}
theorem check_new_kw (F : ExcBaseFacts B newId initId bmB) (hT : ∀ X : String, bm.contains (.type X) = bmB.contains (.type X)) {rest : List Value} {kw : List (Str × Value)} {Q : Unit → Shared → Prop}
    (hC : h.get? C = some (excClassObj nm q C N bs bm hdct sn sub ab col dd k0 k1 k2 k3 k5 newId)) (hq : Q () ⟨h, g, d, t, os⟩) : wpAny M A (checkBuiltinCall newId ⟨.ref C :: rest, kw⟩) Q E ⟨h, g, d, t, os⟩ := by
  have hcont : (Value.ref C :: bm).contains (.type B) = true := by rw [List.contains_cons, hT, F.hasB, Bool.or_true]
  have hstar := F.noStar
  simp only [checkBuiltinCall, F.newKind, F.newSplit, F.newRow]
  repeat (first | refine wpAny_loadPart_at hC ?_ | (refine wpAny_isSubtype_exc hC ?_; rw [hcont]) | refine wpAny_staticBase_exc hC ?_ | refine wpAny_madeBy_exc hC ?_ | simp only [bne_self_eq_false, Bool.false_eq_true, if_false] | wp_step)
  exact hq
end
section
variable {prog : Program} {w : World} {A : Around} {E : Value → Shared → Prop} {R : Result → Shared → Prop} {h : Heap} {g : Array GenState} {d : Drawn} {t : Nat} {os : OsState}
variable {nm q : Str} {C N : Addr} {bs bm bmB : List Value} {hdct : Bool} {sn : List Str} {sub : List Value} {ab : Bool} {col : Option Bool} {dd : Option Addr} {k0 k1 k2 k3 k5 : Option Value} {B newId initId : String}
theorem new_kw (F : ExcBaseFacts B newId initId bmB) (hT : ∀ X : String, bm.contains (.type X) = bmB.contains (.type X)) {rest : List Value} {kw : List (Str × Value)}
    (hC : h.get? C = some (excClassObj nm q C N bs bm hdct sn sub ab col dd k0 k1 k2 k3 k5 newId))
    (hq : R (.ok (.ret (.ref (h.objs.size + 1)))) ⟨(h.push { cls := .type "tuple", data := .seq rest.toArray }).push
      { cls := .ref C, data := .fields #[.ref h.objs.size, .none, .none, .none, .bool false, .none] }, g, d, t, os⟩) (hrest : rest.length ≤ sizeLine) :
    codeAny (model prog w) A (.builtin newId ⟨.ref C :: rest, kw⟩) R ⟨h, g, d, t, os⟩ := by
  have hends := F.ends
  have hcB : (Value.ref C :: bm).contains (.type B) = true := by rw [List.contains_cons, hT, F.hasB, Bool.or_true]
  have hcA : (Value.ref C :: bm).contains (.type "AttributeError") = false := by rw [List.contains_cons, hT, F.noAttr]; rfl
  have hcN : (Value.ref C :: bm).contains (.type "NameError") = false := by rw [List.contains_cons, hT, F.noName]; rfl
  refine codeAny_builtinAt F.entry ?_
  unfold Builtin.«BaseException.__new__»
  refine wpAt_bind ?_
  show wpAt _ _ _ (stack >>= _) _ _ _
  refine wpAt_bind (wpAt_stack fun p below => wpAt_of_wpAny ?_)
  wp_walk
  refine wpAt_of_wpAny ?_
  rw [F.owner]
  repeat (first | with_reducible refine wpAny_madeHere_exc F.canon hC ?_ | with_reducible refine wpAny_loadPart_at hC ?_ | (with_reducible refine wpAny_isSubtype_exc hC ?_; first | rw [hcB] | rw [hcA] | rw [hcN]) | wp_step)
  show R _ _
  rw [Heap.size_push]
  exact hq
theorem type_call_kw (F : ExcBaseFacts B newId initId bmB) (hT : ∀ X : String, bm.contains (.type X) = bmB.contains (.type X)) {rest : List Value} {kw : List (Str × Value)} {fI : Addr} {Q : Fin → Shared → Prop}
    (hC : h.get? C = some (excClassObj nm q C N bs bm hdct sn sub ab col dd k0 k1 k2 k3 k5 newId))
    (hi : W.Looks (model prog w) h (typeLookup (.ref C) "__init__") (some (.ref fI))) (hb : ∀ self, W.Looks (model prog w) h (bindSpecial (.ref fI) self) (.ref fI, [self])) (hrest : rest.length ≤ sizeLine)
    (hq : codeAny (model prog w) A (.call (.ref fI) ⟨.ref (h.objs.size + 1) :: rest, kw⟩)
      (fun r s' => match r with | .ok (.ret v) => v = .none ∧ Q (.done (.ret (.ref (h.objs.size + 1)))) s' | .ok _ => False | .error e => E e s')
      ⟨(h.push (W.kdv_tup rest)).push (excO C h.objs.size), g, d, t, os⟩) :
    wpAny (model prog w) A (Builtin.«type.__call__» ⟨.ref C :: rest, kw⟩) Q E ⟨h, g, d, t, os⟩ := by
  repeat (first | with_reducible refine wpAny_loadPart_at hC ?_ | with_reducible refine wpAny_madeBy_exc hC ?_ | wp_step)
  refine codeAny_call_builtin_code (Code.quiet_builtin _ F.quiet) (check_new_kw F hT hC ?_)
  refine new_kw F hT hC ?_ hrest
  show wpAny _ _ _ _ _ _
  have k : ∀ b o, h.get? b = some o → ((h.push (W.kdv_tup rest)).push (excO C h.objs.size)).get? b = some o := fun b o e => Heap.get?_push_of_some _ (Heap.get?_push_of_some _ e)
  have hC₁ := k _ _ hC
  have hget : ((h.push (W.kdv_tup rest)).push (excO C h.objs.size)).get? (h.objs.size + 1) = some (excO C h.objs.size) := by heap_get
  have hcC : (Value.ref C :: bm).contains (.ref C) = true := by simp
  have i1 := hi.keeps k
  have b1 := (hb (.ref (h.objs.size + 1))).keeps k
  unfold isInstance
  repeat (first | with_reducible refine wpAny_loadPart_at hget ?_ | (with_reducible refine wpAny_isSubtype_exc hC₁ ?_; rw [hcC]) | wp_step)
  show wpAny _ _ (typeLookup (.ref C) _) _ _ _
  refine i1.at ?_
  refine wpAny_holding (wpAny_bind (b1.at ?_))
  refine wpAny_bind (wpAny_call (codeAny_mono hq fun r s' z => ?_))
  rcases r with e | (v | _ | _ | _) <;> first | exact z | exact z.elim | skip
  obtain ⟨rfl, z⟩ := z
  first
    | exact wpAny_pure (wpAny_pure z)
    | (wp_walk; exact z)
theorem check_type_call_kw {M : Model} {rest : List Value} {kw : List (Str × Value)} {Q : Unit → Shared → Prop} (hC : h.get? C = some (excClassObj nm q C N bs bm hdct sn sub ab col dd k0 k1 k2 k3 k5 newId)) (hq : Q () ⟨h, g, d, t, os⟩) :
    wpAny M A (checkBuiltinCall "type.__call__" ⟨.ref C :: rest, kw⟩) Q E ⟨h, g, d, t, os⟩ := by
  have f3 := tc_sub
  have hT : (⟨h, g, d, t, os⟩ : Shared).TypeIs (.ref C) "type" := ⟨_, hC, rfl⟩
  simp only [checkBuiltinCall, tc_kind, tc_split]
  repeat (any_goals (first | assumption | with_reducible refine wpAny_loadPart_at hC ?_ | with_reducible refine wpAny_onRaise ?_ | with_reducible refine wpAny_map ?_ | wp_step))
theorem call_kw (F : ExcBaseFacts B newId initId bmB) (hT : ∀ X : String, bm.contains (.type X) = bmB.contains (.type X)) {rest : List Value} {kw : List (Str × Value)} {fI : Addr}
    (hC : h.get? C = some (excClassObj nm q C N bs bm hdct sn sub ab col dd k0 k1 k2 k3 k5 newId))
    (hi : W.Looks (model prog w) h (typeLookup (.ref C) "__init__") (some (.ref fI))) (hb : ∀ self, W.Looks (model prog w) h (bindSpecial (.ref fI) self) (.ref fI, [self])) (hrest : rest.length ≤ sizeLine)
    (hq : codeAny (model prog w) (A.under (.builtin "type.__call__" ⟨.ref C :: rest, kw⟩)) (.call (.ref fI) ⟨.ref (h.objs.size + 1) :: rest, kw⟩) (W.InitBack (h.objs.size + 1) R)
      ⟨(h.push (W.kdv_tup rest)).push (excO C h.objs.size), g, d, t, os⟩) :
    codeAny (model prog w) A (.call (.ref C) ⟨rest, kw⟩) R ⟨h, g, d, t, os⟩ := by
  have f1 := tc_lookup
  have f2 := tc_bind (.ref C)
  have hTy : (⟨h, g, d, t, os⟩ : Shared).TypeIs (.ref C) "type" := ⟨_, hC, rfl⟩
  refine codeAny_of_tree ?_
  show wpAny _ _ (callAny (.ref C) _) _ _ _
  repeat (any_goals (first | assumption | with_reducible refine wpAny_loadPart_at hC ?_ | wp_step))
  refine ⟨rfl, ?_⟩
  refine codeAny_call_builtin_at (Code.quiet_builtin _ (by decide +kernel)) entry_typeCall (check_type_call_kw hC (type_call_kw F hT hC hi hb hrest ?_))
  refine codeAny_mono hq fun r s' z => ?_
  rcases r with e | (v | _ | _ | _) <;> exact z
end
section
variable {prog : Program} {w : World} {A : Around} {E : Value → Shared → Prop} {R : Result → Shared → Prop} {hp : Heap} {g : Array GenState} {d : Drawn} {t : Nat} {os : OsState} {B : String} {bmB : List Value}
/-- self.name = v, the first field -/
theorem osa_first {K : W.Frag} {name : Str} {tk : Tok} {v : Value} {x C : Addr} {fv : Array Value} {cd : ClassData} (SB : StoreFacts B bmB "object.__setattr__" "object")
    (X : K.In hp) (hx : hp.get? x = some { cls := .ref C, data := .fields fv }) (hcd : W.clsIn K C = some cd) (hm : W.excTail bmB cd.mro = true) (hh : cd.hasDict = true) (ha : W.findIn K (.ref C) name = some none)
    (hq : ∀ h' tk' dx, (∀ b o, b ≠ x → hp.get? b = some o → h'.get? b = some o) → hp.objs.size ≤ dx → dx ≠ x → h'.get? x = some { cls := .ref C, dict := some dx, data := .fields fv } →
      h'.Ns1 dx (fun y => if y = name then some v else none) → R (.ok (.ret .none)) ⟨h', g, d, tk', os⟩) :
    codeAny (model prog w) A (.call (.builtin "object.__setattr__") ⟨[.ref x, .str name tk, v], []⟩) R ⟨hp, g, d, t, os⟩ := by
  have I : W.InstAt hp x { cls := .ref C, data := .fields fv } C none := ⟨hx, rfl, rfl, trivial⟩
  have SF := F.store_object
  have hob : cd.mro.contains (.type "object") = true := (W.excTail_contains "object" _ hm).trans SB.hasOwner
  have ne : cd.mro.isEmpty = false := by
    cases e : cd.mro with
    | nil =>
      rw [e] at hob
      cases hob
    | cons _ _ => rfl
  have hxs : x ≠ hp.objs.size := Nat.ne_of_lt (Heap.lt_size hx)
  have sub : W.Looks (model prog w) hp (isInstance (.ref x) (.type "object")) true := I.type.andThen (W.looks_mroIn X (by unfold W.mroIn; rw [hcd, Option.bind_some, if_neg (by rw [ne]; decide), hob]))
  refine codeAny_call_builtin SF.slot.plain SF.entry (@W.check_slot (model prog w) _ _ ⟨hp, g, d, t, os⟩ "object.__setattr__" "object" "__setattr__" (.ref x) [.str name tk, v] [] _ SF.kind SF.split sub (SF.args (.ref x) (.str name tk) v) ?_)
  have hmr : W.Looks (model prog w) hp (mroOf (.ref C)) cd.mro := (W.looks_clsIn X hcd).andThen .now
  have L3 : W.Looks (model prog w) hp (storeTaker? none) none := .now
  have hcls : W.Looks (model prog w) hp (classData C) cd := W.looks_clsIn X hcd
  rw [W.osa_eq, refuse_eq]
  refine wpAny_bind (wpAny_bind (I.type.at (wpAny_bind (hmr.at ?_))))
  rw [W.excTail_pass _ (SB.passes _) _ hm]
  refine wpAny_pure (wpAny_bind (I.type.at (wpAny_bind ((W.looks_findIn X ha).at (wpAny_bind (L3.at ?_))))))
  show wpAny _ _ (storeInOwnDict (.ref x) (.ref C) (.str name tk) name v false) _ _ _
  obtain ⟨nm, bs, mro, ns, qn, hd, sn, sb, ab, col, del⟩ := cd
  dsimp only at hh
  subst hh
  unfold storeInOwnDict ownDictForStores
  repeat (first | with_reducible refine store_in_new ?_ ?_ | with_reducible refine wpAny_loadPart_at hx ?_ | with_reducible refine hcls.at ?_ | wp_step)
  · exact ⟨_, #[], _, (Heap.get?_update_ne _ _ _ _ hxs.symm).trans (Heap.get?_push_at rfl rfl), rfl, fun e he => absurd he (by simp), fun _ => rfl⟩
  · intro h' tk' hn' hs
    have hx₁ : (hp.push { cls := .type "dict", data := .dict #[] }).get? x = some { cls := .ref C, data := .fields fv } := Heap.get?_push_of_some _ hx
    refine hq h' tk' hp.objs.size (fun b o hb ho => ?_) (Nat.le_refl _) hxs.symm ?_ hn'
    · exact (hs.2 b (Nat.ne_of_lt (Heap.lt_size ho))).trans ((Heap.get?_update_ne _ _ _ _ hb).trans (Heap.get?_push_of_some _ ho))
    · exact (hs.2 x hxs).trans (Heap.get?_update_self _ hx₁ rfl)
/-- a further field -/
theorem osa_further {K : W.Frag} {name : Str} {tk : Tok} {v : Value} {x C dx : Addr} {fv : Array Value} {cd : ClassData} {m0 : Str → Option Value} {nl : List Str} (SB : StoreFacts B bmB "object.__setattr__" "object")
    (X : K.In hp) (hx : hp.get? x = some { cls := .ref C, dict := some dx, data := .fields fv }) (hns : hp.Ns1 dx m0) (hw : Within m0 nl) (hz : nl.length ≤ 1000) (hcd : W.clsIn K C = some cd) (hm : W.excTail bmB cd.mro = true) (hh : cd.hasDict = true)
    (ha : W.findIn K (.ref C) name = some none)
    (hq : ∀ h' tk', (∀ b o, b ≠ dx → hp.get? b = some o → h'.get? b = some o) → h'.Ns1 dx (fun y => if y = name then some v else m0 y) → R (.ok (.ret .none)) ⟨h', g, d, tk', os⟩) :
    codeAny (model prog w) A (.call (.builtin "object.__setattr__") ⟨[.ref x, .str name tk, v], []⟩) R ⟨hp, g, d, t, os⟩ := by
  obtain ⟨oD, esD, epD, hoD, hdD, _⟩ := hns.count hw
  have I : W.InstAt hp x { cls := .ref C, dict := some dx, data := .fields fv } C (some oD) := ⟨hx, rfl, rfl, hoD⟩
  have SF := F.store_object
  have hob : cd.mro.contains (.type "object") = true := (W.excTail_contains "object" _ hm).trans SB.hasOwner
  have ne : cd.mro.isEmpty = false := by
    cases e : cd.mro with
    | nil =>
      rw [e] at hob
      cases hob
    | cons _ _ => rfl
  have sub : W.Looks (model prog w) hp (isInstance (.ref x) (.type "object")) true := I.type.andThen (W.looks_mroIn X (by unfold W.mroIn; rw [hcd, Option.bind_some, if_neg (by rw [ne]; decide), hob]))
  refine codeAny_call_builtin SF.slot.plain SF.entry (@W.check_slot (model prog w) _ _ ⟨hp, g, d, t, os⟩ "object.__setattr__" "object" "__setattr__" (.ref x) [.str name tk, v] [] _ SF.kind SF.split sub (SF.args (.ref x) (.str name tk) v) ?_)
  have hmr : W.Looks (model prog w) hp (mroOf (.ref C)) cd.mro := (W.looks_clsIn X hcd).andThen .now
  have L3 : W.Looks (model prog w) hp (storeTaker? none) none := .now
  have hcls : W.Looks (model prog w) hp (classData C) cd := W.looks_clsIn X hcd
  rw [W.osa_eq, refuse_eq]
  refine wpAny_bind (wpAny_bind (I.type.at (wpAny_bind (hmr.at ?_))))
  rw [W.excTail_pass _ (SB.passes _) _ hm]
  refine wpAny_pure (wpAny_bind (I.type.at (wpAny_bind ((W.looks_findIn X ha).at (wpAny_bind (L3.at ?_))))))
  show wpAny _ _ (storeInOwnDict (.ref x) (.ref C) (.str name tk) name v false) _ _ _
  obtain ⟨nm, bs, mro, ns, qn, hd, sn, sb, ab, col, del⟩ := cd
  dsimp only at hh
  subst hh
  unfold storeInOwnDict ownDictForStores
  repeat (first | with_reducible refine PySem.OEX.store_in_old hns hw hz ?_ | with_reducible refine wpAny_loadPart_at hx ?_ | with_reducible refine hcls.at ?_ | wp_step)
  intro h' tk' hn' hs
  exact hq h' tk' (fun b o hb ho => (hs.2 b hb).trans ho) hn'
end
end LwX
end PySem

/-! E2 -/
/-! ### the same over the layer -/
namespace L2
open PySem PySem.Spec PyProof.Rows
/-- what the written part says of an own error class at C whose __init__ is the def at fI -/
structure OexG (K : PySem.W.Frag) (C fI : Addr) : Prop where
  base : ∃ (B newId initId : String) (bmB : List Value), ExcBaseFacts B newId initId bmB ∧ StoreFacts B bmB "object.__setattr__" "object" ∧
    ∃ nm q N bs bm sn sub ab col dd k0 k1 k2 k3 k5, K.lookup C = some (excClassObj nm q C N bs bm true sn sub ab col dd k0 k1 k2 k3 k5 newId) ∧ PySem.W.excTail bmB bm = true
  sa : PySem.W.findIn K (.ref C) "__setattr__" = some (some (.builtin "object.__setattr__"))
  ga : PySem.W.findIn K (.ref C) "__getattribute__" = some (some (.builtin "BaseException.__getattribute__"))
  gg : PySem.W.findIn K (.ref C) "__getattr__" = some none
  exC : PySem.W.subIn K (.ref C) (.type "BaseException") = some true
  tyC : PySem.W.typeIn K (.ref C) = some (.type "type")
  kC : PySem.W.keepIn K (.ref C) = true
  hdC : PySem.W.hasDictIn K C = true
  iC : PySem.W.findIn K (.ref C) "__init__" = some (some (.ref fI))
  tI : PySem.W.typeIn K (.ref fI) = some (.type "function")
  ha : PySem.W.findIn K (.ref C) "__class__" = some (some (.builtin "object.__class__"))
  hn : PySem.W.specialIn K (.builtin "object.__class__") "__get__" = some (some (.builtin "getset_descriptor.__get__"))
  ht : PySem.W.takesIn K (.builtin "object.__class__") = some true
  hm : PySem.W.mroIn K C (.type "object") = some true
section
variable {X : Cx} {pins : List (Addr × Obj)} {σ : St} {H : Hp} {s : Shared} {a C fI dx : Addr} {f : Str} {y : V} {u : Value} {fs : List (Str × V)} {Q : Unit → Shared → Prop} {E : Value → Shared → Prop} {A : Around}
theorem ost_first (T : OexG X.K C fI) (I : Inv X pins σ H s) (e : H a = some (exo a C none)) (hno : PySem.W.findIn X.K (.ref C) f = some none) (ry : RelV y u)
    (h : ∀ dx s', H dx = none → dx ≠ a → Inv X pins σ (upd (upd H dx (exd dx [(f, y)])) a (exo a C (some dx))) s' → Q () s') : wpAny (model X.prog X.w) A (setAttr (.ref a) f u) Q E s := by
  obtain ⟨B, newId, initId, bmB, FB, SB, nm, q, N, bs, bm, sn, sub, ab, col, dd, k0, k1, k2, k3, k5, hC, hbm⟩ := T.base
  have hcl : PySem.W.clsIn X.K C = some { name := nm, bases := bs, mro := .ref C :: bm, ns := N, qualname := q, hasDict := true, slotNames := sn, subclasses := sub, abstract := ab, collection := col, hasDel := false } := by unfold PySem.W.clsIn; rw [hC] <;> rfl
  obtain ⟨t1, ho⟩ := exo_at I.hok e
  obtain ⟨hp, g, d, t, os⟩ := s
  refine PySem.W.set_plain I.kIn (ox := { cls := .ref C, dict := none, data := .fields #[.ref t1, .none, .none, .none, .bool false, .none] }) (od := none) ⟨ho, rfl, rfl, trivial⟩ T.sa ?_
  refine PySem.LwX.osa_first SB I.kIn ho hcl (show PySem.W.excTail bmB (.ref C :: bm) = true from hbm) rfl hno (fun h' tk' dx k dn dne hx hn => ?_)
  have hnd : H dx = none := I.hok.fresh dn
  have nd : ∀ {b : Addr} {o : Obj}, hp.get? b = some o → b ≠ dx := fun {b o} q => Nat.ne_of_lt (Nat.lt_of_lt_of_le (Heap.lt_size q) dn)
  have na : ∀ {b : Addr}, H b = none → b ≠ a := fun {b} n z => by
    rw [z, e] at n
    cases n
  have Un1 : Un X.fs [] H (upd (upd H dx (exd dx [(f, y)])) a (exo a C (some dx))) hp h' := {
    keep := fun b o q n _ _ => k b o (na n) q
    slot := fun b o q n _ _ => ⟨o.slots, k b o (na n) q⟩
    free := fun b o q n _ => by rw [upd_ne (na n), upd_ne (nd q)]; exact n
    there := fun b o q _ => by
      by_cases hb : b = a
      · exact ⟨_, by rw [hb]; exact hx⟩
      · exact ⟨o, k b o hb q⟩
    tups := fun b xs q => by rw [upd_ne (at_ne e q exo_tup), upd_ne (ne_of_none q hnd)]; exact q
    frzs := fun b o v q => by rw [upd_ne (at_ne e q exo_frz), upd_ne (ne_of_none q hnd)]; exact q
    tbls := fun b ps q => ⟨#[], by rw [upd_ne (at_ne e q exo_tbl), upd_ne (ne_of_none q hnd), q]; simp⟩ }
  refine h dx _ hnd dne (I.un (t' := tk') Un1 fun b o q => ?_)
  by_cases hb : b = a
  · subst hb
    rw [upd_same] at q
    cases q
    exact exo_ok hx
  · rw [upd_ne hb] at q
    by_cases hd : b = dx
    · subst hd
      rw [upd_same] at q
      cases q
      exact exd_ok hn (relO_put (fs := []) ry fun g => True.intro)
    · rw [upd_ne hd] at q
      exact (I.hok b o q).stay (fun c v hc z => k c v (by
          rcases hc with hc | hc
          · rw [hc]
            exact hb
          · exact at_ne e hc exo_own) z)
        (fun c hc => by rw [upd_ne (at_ne e hc exo_own), upd_ne (ne_of_none hc hnd)]; exact hc) (fun c xs hc => by rw [upd_ne (at_ne e hc exo_tup), upd_ne (ne_of_none hc hnd)]; exact hc)
theorem ost_further (T : OexG X.K C fI) (I : Inv X pins σ H s) (e : H a = some (exo a C (some dx))) (ed : H dx = some (exd dx fs)) (hl : fs.length ≤ 900) (hno : PySem.W.findIn X.K (.ref C) f = some none) (ry : RelV y u)
    (h : ∀ s', Inv X pins σ (upd H dx (exd dx ((f, y) :: fs))) s' → Q () s') : wpAny (model X.prog X.w) A (setAttr (.ref a) f u) Q E s := by
  obtain ⟨B, newId, initId, bmB, FB, SB, nm, q, N, bs, bm, sn, sub, ab, col, dd, k0, k1, k2, k3, k5, hC, hbm⟩ := T.base
  have hcl : PySem.W.clsIn X.K C = some { name := nm, bases := bs, mro := .ref C :: bm, ns := N, qualname := q, hasDict := true, slotNames := sn, subclasses := sub, abstract := ab, collection := col, hasDel := false } := by unfold PySem.W.clsIn; rw [hC] <;> rfl
  obtain ⟨t1, ho⟩ := exo_at I.hok e
  obtain ⟨mA, hns, rel⟩ := exd_at I.hok ed
  have hw := within_of rel
  obtain ⟨hp, g, d, t, os⟩ := s
  obtain ⟨oD, _, _, hoD, _, _⟩ := hns.count hw
  refine PySem.W.set_plain I.kIn (ox := { cls := .ref C, dict := some dx, data := .fields #[.ref t1, .none, .none, .none, .bool false, .none] }) (od := some oD) ⟨ho, rfl, rfl, hoD⟩ T.sa ?_
  refine PySem.LwX.osa_further SB I.kIn ho hns hw (by rw [List.length_map]; omega) hcl (show PySem.W.excTail bmB (.ref C :: bm) = true from hbm) rfl hno (fun h' tk' k hn => ?_)
  have hd : ∃ o, h'.get? dx = some o := by
    obtain ⟨o, _, _, e', _⟩ := hn
    exact ⟨o, e'⟩
  exact h _ (I.write (t' := tk') (x := dx) (e := dx) (o := exd dx ((f, y) :: fs)) (by rw [ed]; exact True.intro) (.inl rfl) k hd (exd_ok hn (relO_put ry rel)))
end
/-- self.f = e -/
def tOstG (K : PySem.W.Frag) (f : Str) (to te : TE) : TS := fun D σ H => te σ H fun y H1 => to σ H1 fun x H2 => ∃ a C fI : Addr, x = .ref a ∧ OexG K C fI ∧ PySem.W.findIn K (.ref C) f = some none ∧
  ((H2 a = some (exo a C none) ∧ ∀ dx, H2 dx = none → dx ≠ a → D.nx σ (upd (upd H2 dx (exd dx [(f, y)])) a (exo a C (some dx)))) ∨
    ∃ (dx : Addr) (fs : List (Str × V)), H2 a = some (exo a C (some dx)) ∧ H2 dx = some (exd dx fs) ∧ fs.length ≤ 900 ∧ D.nx σ (upd H2 dx (exd dx ((f, y) :: fs))))
/-- C(e, ..), C(k = e, ..): a new error, its __init__ keeping sp -/
def tMkG (C fI : Addr) (K : PySem.W.Frag) (sp : Sp) (ta : TA) : TE := fun σ H Q => ta σ H fun vs H1 => vs.length ≤ 1000 ∧ ∀ a, H1 a = none → sp (.ref a :: vs) (upd H1 a (exo a C none)) (fun v H2 => v = .non ∧ Q (.ref a) H2) (fun _ _ _ => False)
def tMkGK (C fI : Addr) (n : Nat) (sp : Sp) (gV : List V → List V → List V) (tk : TA) : TE := fun σ H Q => tk σ H fun zs H1 => zs.length = n ∧ ∀ a, H1 a = none → sp (gV [.ref a] zs) (upd H1 a (exo a C none)) (fun v H2 => v = .non ∧ Q (.ref a) H2) (fun _ _ _ => False)
/-- e.f of such an error -/
def tXg (K : PySem.W.Frag) (f : Str) (te : TE) : TE := fun σ H Q => te σ H fun x H1 => ∃ (a C fI d : Addr) (fs : List (Str × V)) (v : V), x = .ref a ∧ OexG K C fI ∧ PySem.W.findIn K (.ref C) f = some none ∧ H1 a = some (exo a C (some d)) ∧ H1 d = some (exd d fs) ∧ fs.lookup f = some v ∧ Q v H1
/-- isinstance(e, c) of such an error -/
def rIsG (K : PySem.W.Frag) : List V → Hp → VK → Prop := fun xs H Q => ∃ (a C fI d : Addr) (fs : List (Str × V)) (c : V) (u : Value) (b : Bool), xs = [.ref a, c] ∧ ClsV c u ∧ OexG K C fI ∧ H a = some (exo a C (some d)) ∧ H d = some (exd d fs) ∧
  PySem.W.kitOne K (.ref C) u = some b ∧ Q (.bl b) H
section
variable {X : Cx} {o e : Expr} {es : List Expr} {to te : TE} {ta tk : TA} {f x : Str} {p p' p1 p2 pos : Pos} {CX : CXT} {C fI : Addr} {k : Nat} {fd : FuncData} {ps ks : List Str} {sp : Sp} {kws : List Keyword} {g : List Value → List Value → List Value} {gV : List V → List V → List V}
theorem ps_ostG (ho : PE X o to) (he : PE X e te) (hs : swapsWith e (some (.Attribute o f p')) pos.line X.env = pure false := by rfl) : PS X (.Assign [.Attribute o f p'] e pos) (tOstG X.K f to te) := by
  refine ⟨fun pins s σ H D I h => ?_⟩
  refine plainObj_wpAny_Assign_Attribute (thn (he.run pins s σ H _ I h) fun v s1 ⟨y, H1, I1, r1, q1⟩ => thn (ho.run pins s1 σ H1 _ I1 q1) fun u s2 ⟨x, H2, I2, r2, a, C, fI, ex, T, hno, q⟩ => ?_) hs
  subst ex
  obtain rfl : u = Value.ref a := r2
  rcases q with ⟨ea, q⟩ | ⟨dx, fs, ea, ed, hl, q⟩
  · exact ost_first T I2 ea hno r1 fun dx s' n ne J => ⟨σ, _, J, q dx n ne⟩
  · exact ost_further T I2 ea ed hl hno r1 fun s' J => ⟨σ, _, J, q⟩
theorem run_mkG {pins : List (Addr × Obj)} {σ : St} {H1 : Hp} {s1 : Shared} {Q : VK} {us : List Value} {bV : Addr → List V} {bv : Addr → List Value} {kw : List (Str × Value)} (T : OexG X.K C fI) (F1 : FnOk X.prog X.w X.K X.mg X.base CX k fI fd ps sp) (hr : Room (k + 1) X.A)
    (hx : Passes CX X (fun _ _ _ => False)) (I1 : Inv X pins σ H1 s1) (hz : us.length ≤ sizeLine)
    (hbt : ∀ (a : Addr) (s : Shared), X.K.In s.heap → BindsTo s fd ⟨.ref a :: us, kw⟩ (ps.zip (bv a))) (r3 : ∀ a, Vals (bV a) (bv a))
    (h : ∀ a, H1 a = none → sp (bV a) (upd H1 a (exo a C none)) (fun v H2 => v = .non ∧ Q (.ref a) H2) (fun _ _ _ => False)) :
    wpAny (model X.prog X.w) X.A (call (.ref C) us kw) (EP X pins σ Q) X.xe s1 := by
  obtain ⟨B, newId, initId, bmB, FB, SB, nm, q, N, bs, bm, sn, sub, ab, col, dd, k0, k1, k2, k3, k5, hC, hbm⟩ := T.base
  obtain ⟨hp, g, dr, tk, os⟩ := s1
  have hsz : hp.objs.size ≤ hp.objs.size + 1 := Nat.le_succ _
  have hn : H1 (hp.objs.size + 1) = none := I1.hok.fresh hsz
  have hq := h (hp.objs.size + 1) hn
  have kk : ∀ b o, hp.get? b = some o → ((hp.push (PySem.W.kdv_tup us)).push (PySem.HandSPX.excO C hp.objs.size)).get? b = some o := fun b o e => Heap.get?_push_of_some _ (Heap.get?_push_of_some _ e)
  have hget : ((hp.push (PySem.W.kdv_tup us)).push (PySem.HandSPX.excO C hp.objs.size)).get? (hp.objs.size + 1) = some (PySem.HandSPX.excO C hp.objs.size) := by heap_get
  have I2 : Inv X pins σ (upd H1 (hp.objs.size + 1) (exo (hp.objs.size + 1) C none)) ⟨(hp.push (PySem.W.kdv_tup us)).push (PySem.HandSPX.excO C hp.objs.size), g, dr, tk, os⟩ :=
    I1.laid (t' := tk) (a := hp.objs.size + 1) (o := exo (hp.objs.size + 1) C none) (h' := (hp.push (PySem.W.kdv_tup us)).push (PySem.HandSPX.excO C hp.objs.size)) kk hsz (exo_ok hget)
  refine wpAny_call (PySem.LwX.call_kw FB (fun Y => PySem.W.excTail_contains Y bm hbm) (I1.kIn _ _ hC) (PySem.W.looks_findIn I1.kIn T.iC) (fun self => PySem.W.bind_fn I1.kIn self T.tI) hz
    (codeAny_mono (F1.run _ X.stack _ _ ⟨Value.ref (hp.objs.size + 1) :: us, kw⟩ (bv (hp.objs.size + 1)) _ _ (fun _ _ _ => False) (hr.make C us kw) (I2.env0.make C us kw) (hbt _ _ I2.kIn) (r3 _) hq) fun r s' hq' => ?_))
  cases r with
  | error er => exact hx pins σ _ _ er s' I2 hq'
  | ok fl =>
    cases fl with
    | ret u =>
      obtain ⟨v, H', I3, rv, ev, q3⟩ := I2.after hq'
      subst ev
      exact ⟨rv, ⟨V.ref (hp.objs.size + 1), H', I3, rfl, q3⟩⟩
    | next => exact False.elim hq'
    | brk => exact False.elim hq'
    | cont => exact False.elim hq'
theorem pe_mkG (T : OexG X.K C fI) (F1 : FnOk X.prog X.w X.K X.mg X.base CX k fI fd ps sp) (hr : Room (k + 1) X.A) (hb : Binds X.K fd ps []) (hx : Passes CX X (fun _ _ _ => False)) (hg : Gl X x) (hm : X.mg x = some (.ref C)) (ha : PA X (e :: es) ta)
    (hdb : (x == ("__debug__" : Str)) = false := by decide) (he : starEach (e :: es) X.env = (false, eval e X.env) :: starEach es X.env := by rfl) (hpl : (backTo pos (starEach es X.env)).any (·.1) = false := by rfl) :
    PE X (.Call (.Name x p) (e :: es) [] pos) (tMkG C fI X.K sp ta) := by
  refine ⟨fun pins s σ H Q I h => ?_⟩
  refine wpAny_Call_Name_kw (ld_glob I hg hm ?_ hdb)
  refine PySem.W.callWith_K (h₀ := X.base) I.ok.mod.kin T.kC (thn (ha.run pos pins s σ H _ I h) fun us s1 ⟨vs, H1, I1, r1, hz, q1⟩ => ⟨I1.kIn, ?_⟩) he hpl
  show wpAny _ _ (call (.ref C) us) _ _ _
  refine run_mkG (bv := fun a => .ref a :: us) (bV := fun a => .ref a :: vs) (kw := []) T F1 hr hx I1 (by rw [← Paired.length r1, sizeLine_eq]; omega) (fun a s hk => ?_) (fun a => .cons rfl r1) q1
  have hl : (Value.ref a :: us).length = ps.length := by
    obtain ⟨b, hb0⟩ : ∃ b, H1 b = none := ⟨_, I1.hok.fresh (Nat.le_refl _)⟩
    have z := F1.len _ _ _ _ (q1 b hb0)
    rw [List.length_cons, ← Paired.length r1]
    exact z
  have z := hb s (Value.ref a :: us) hk (by rw [List.append_nil]; exact hl)
  rw [List.append_nil] at z
  exact z
theorem pe_mkGK (T : OexG X.K C fI) (F1 : FnOk X.prog X.w X.K X.mg X.base CX k fI fd ps sp) (hr : Room (k + 1) X.A) (hb : KBn X.K fd ps 1 ks g gV) (hx : Passes CX X (fun _ _ _ => False)) (hg : Gl X x) (hm : X.mg x = some (.ref C)) (hkw : PK X kws tk)
    (hall : (backToKw pos (keywordEach kws X.env)).all (·.1.isSome) = true := by rfl) (hks : (backToKw pos (keywordEach kws X.env)).filterMap (·.1) = ks := by rfl) (hdb : (x == ("__debug__" : Str)) = false := by decide)
    (hpl : ((backTo pos (starEach [] X.env)).any (·.1) || (backToKw pos (keywordEach kws X.env)).any (·.1.isNone)) = false := by rfl) :
    PE X (.Call (.Name x p) [] kws pos) (tMkGK C fI ks.length sp gV tk) := by
  refine ⟨fun pins s σ H Q I h => ?_⟩
  refine wpAny_Call_Name_kw (ld_glob I hg hm ?_ hdb)
  refine PySem.W.callWith_KW0 (h₀ := X.base) I.ok.mod.kin T.kC hall ?_ hpl
  refine thn (hkw.run pos pins s σ H _ I h) fun ws s2 ⟨zs, H2, I2, rz, l2, q2⟩ => ⟨I2.kIn, ?_⟩
  rw [hks]
  exact run_mkG (us := []) (bv := fun a => g [.ref a] ws) (bV := fun a => gV [.ref a] zs) T F1 hr hx I2 (Nat.zero_le _) (fun a s hk => hb.to s [.ref a] ws hk rfl (rz.length.symm.trans l2)) (fun a => hb.rel (.cons rfl .nil) rz) q2
theorem pe_xg (he : PE X e te) (hb : attributeBase e f X.env (eval e X.env) = eval e X.env := by rfl) : PE X (.Attribute e f pos) (tXg X.K f te) := by
  refine ⟨fun pins s σ H Q I h => ?_⟩
  refine attr_of hb (thn (he.run pins s σ H _ I h) fun u s1 hh => ?_)
  obtain ⟨x, H1, I1, rx, a, C, fI, d, fs, v, ex, T, hno, ea, ed, l, q⟩ := hh
  subst ex
  obtain rfl : u = Value.ref a := rx
  obtain ⟨t1, ho⟩ := exo_at I1.hok ea
  obtain ⟨mA, hns, hr⟩ := exd_at I1.hok ed
  obtain ⟨od, hod, hl⟩ := lookIn_ns hns
  obtain ⟨u, hu, ru⟩ := RelO.some_of (v := v) (o := mA f) (by rw [← l]; exact hr f)
  have J : PySem.W.InstAt s1.heap a { cls := .ref C, dict := some d, data := .fields #[.ref t1, .none, .none, .none, .bool false, .none] } C (some od) := ⟨ho, rfl, rfl, hod⟩
  exact HandSPX.exc_get I1.kIn J T.ga T.gg T.exC (PySem.W.findObj_own T.hdC hno rfl (by rw [hl, hu])) (handed_of ru) ⟨v, H1, I1.tok _, ru, q⟩
theorem call_isG : CallR X (.builtin "isinstance") (rIsG X.K) := by
  intro pins s σ H xs us Q I r h
  obtain ⟨a, C, fI, d, fs, c, u, b, rfl, k, T, ea, ed, e, q⟩ := h
  obtain ⟨u1, u2, rfl, r1, r2⟩ := vals2 r
  have e2 := k.eq r2
  subst e2
  cases (show u1 = Value.ref a from r1)
  obtain ⟨t1, ho⟩ := exo_at I.hok ea
  obtain ⟨mA, hns, hr⟩ := exd_at I.hok ed
  obtain ⟨od, hod, hl⟩ := lookIn_ns hns
  have J : PySem.W.InstAt s.heap a { cls := .ref C, dict := some d, data := .fields #[.ref t1, .none, .none, .none, .bool false, .none] } C (some od) := ⟨ho, rfl, rfl, hod⟩
  have hcl : (PySem.W.clsIn X.K C).isSome = true := by
    obtain ⟨cdD, hcD, _⟩ := PySem.W.any_some T.hdC
    rw [hcD]
    rfl
  exact PySem.W.kia_one (PySem.W.kitx_exc hcl T.ga T.gg T.exC T.ha T.hn T.ht T.hm) I.kIn J e (fun z => nomatch z) fun tk => ⟨.bl b, H, I.tok tk, rfl, q⟩
end
end L2

/-! E3 -/
/-! ### repr of nested data, an empty dict among it, where no repr is under way -/
namespace L2
open PySem PySem.Spec PyProof.Rows
mutual
inductive Dq (K : PySem.W.Frag) (H : Hp) : V → PyData → Prop
  | non : Dq K H .non .none
  | bl (b : Bool) : Dq K H (.bl b) (.bool b)
  | int (i : Int) : Dq K H (.int i) (.int i)
  | str (x : Str) : Dq K H (.str x) (.str x)
  | lst {a : Addr} {xs : List V} {ds : List PyData} : SqL K H a xs → DqAll K H xs ds → Dq K H (.ref a) (.list ds)
  | tup {a : Addr} {xs : List V} {ds : List PyData} : SqT K H a xs → DqAll K H xs ds → Dq K H (.ref a) (.tuple ds)
  | dic {a : Addr} : H a = some (.dK []) → Dq K H (.ref a) (.dict [])
inductive DqAll (K : PySem.W.Frag) (H : Hp) : List V → List PyData → Prop
  | nil : DqAll K H [] []
  | cons {v : V} {vs : List V} {d : PyData} {ds : List PyData} : Dq K H v d → DqAll K H vs ds → DqAll K H (v :: vs) (d :: ds)
end
section
variable {X : Cx} {pins : List (Addr × Obj)} {σ : St} {H : Hp} {s : Shared}
mutual
theorem Dq.reprs (I : Inv X pins σ H s) : ∀ (d : PyData) (v : V) (u : Value), Dq X.K H v d → RelV v u → d.showable = true → d.shown.length ≤ sizeLine →
    ∃ as bs, Reads s.heap u d as ∧ ReadAtMost s.heap d.depth bs ∧ ReprK X.prog X.w bs s.heap d.depth u d.shown
  | .none, _, _, h, r, _, _ => by
    cases h
    cases r
    exact ⟨_, [], Reads.none, (fun _ h => nomatch h), by simp only [PyData.shown]; exact .of_is ReprIs.none _ _ _⟩
  | .bool b, _, _, h, r, _, _ => by
    cases h
    cases r
    exact ⟨_, [], Reads.bool b, (fun _ h => nomatch h), by simp only [PyData.shown]; exact .of_is (ReprIs.bool b) _ _ _⟩
  | .int i, _, _, h, r, hs, _ => by
    cases h
    obtain ⟨t, rfl⟩ := r
    exact ⟨_, [], Reads.int i t, (fun _ h => nomatch h), by simp only [PyData.shown]; exact .of_is (ReprIs.int t (by simpa [PyData.showable] using hs)) _ _ _⟩
  | .str x, _, _, h, r, _, hz => by
    cases h
    obtain ⟨t, rfl⟩ := r
    exact ⟨_, [], Reads.str x t, (fun _ h => nomatch h), by simp only [PyData.shown]; exact .of_is (ReprIs.str x t (by simpa only [PyData.shown] using hz)) _ _ _⟩
  | .list ds, _, _, h, r, hs, hz => by
    cases h with
    | @lst a xs _ hq ha =>
      cases r
      obtain ⟨its, rv, ⟨o, n, ho, hc, _, hd⟩, _⟩ := I.list hq
      have hz' : (listText (PyData.shownAll ds)).length ≤ sizeLine := by simpa only [PyData.shown] using hz
      obtain ⟨as, bs, hr, hb, hk⟩ := Dq.reprsAll I ds _ its ha rv (by simpa [PyData.showable] using hs) (fun t ht => Nat.le_trans (listText_mem_le ht) hz')
      have rr : Reads s.heap (.ref a) (.list ds) _ := Reads.list ho hc hd hr
      have hna : a ∉ bs := not_mem_of_deeper rr (by simp only [PyData.depth]; omega) hb
      refine ⟨_, a :: bs, rr, ReadAtMost.cons rr (by simp only [PyData.depth]; omega) hb, ?_⟩
      simp only [PyData.depth, PyData.shown]
      cases its with
      | nil =>
        have h4' : ReadsAll s.heap [] ds _ := hr
        cases h4'
        simp only [PyData.shownAll, listText_nil]
        exact ReprK.listEmpty ho hc hd
      | cons x l => exact ReprK.list ho hc hd hna (by simpa using hk.length_eq) (fun i y e => hk.item i y (by simpa using e))
  | .tuple ds, _, _, h, r, hs, hz => by
    cases h with
    | @tup a xs _ hq ha =>
      cases r
      obtain ⟨its, rv, ⟨o, ho, hc, n, hd⟩, _⟩ := I.tuple hq
      have hz' : (tupleText (PyData.shownAll ds)).length ≤ sizeLine := by simpa only [PyData.shown] using hz
      obtain ⟨as, bs, hr, hb, hk⟩ := Dq.reprsAll I ds _ its ha rv (by simpa [PyData.showable] using hs) (fun t ht => Nat.le_trans (tupleText_mem_le ht) hz')
      have rr : Reads s.heap (.ref a) (.tuple ds) _ := Reads.tuple ho hc hd hr
      have hna : a ∉ bs := not_mem_of_deeper rr (by simp only [PyData.depth]; omega) hb
      refine ⟨_, a :: bs, rr, ReadAtMost.cons rr (by simp only [PyData.depth]; omega) hb, ?_⟩
      simp only [PyData.depth, PyData.shown]
      exact ReprK.tuple ho hc hd hna hk
  | .dict kvs, _, _, h, r, hs, hz => by
    cases h with
    | @dic a ea =>
      cases r
      obtain ⟨_, hsys, vs, kv, o, es, ep, h1, h2, h3⟩ := (show ObjOk X.prog X.w H s.heap a (.dK []) from I.hok a _ ea)
      cases kv
      have hes : es.toList = [] := List.eq_nil_of_length_eq_zero (by rw [PySem.Pairs.length h3.2.2.1]; rfl)
      have e1 : ReadsAll s.heap (es.toList.map (·.key)) (([] : List (PyData × PyData)).map (·.1)) [] := by rw [hes]; exact .nil
      have e2 : ReadsAll s.heap (es.toList.map (·.val)) (([] : List (PyData × PyData)).map (·.2)) [] := by rw [hes]; exact .nil
      have rr : Reads s.heap (.ref a) (.dict []) _ := Reads.dict h1 h2.1 h3.1 e1 e2
      refine ⟨_, [a], rr, ReadAtMost.cons rr (Nat.zero_le (PyData.dict []).depth) (fun _ h => nomatch h), ?_⟩
      simp only [PyData.depth, PyData.shown, PyData.shownKv]
      exact ReprK.dict h1 h2.1 h3.1 hsys (List.not_mem_nil) (by rw [hes]; exact .nil)
theorem Dq.reprsAll (I : Inv X pins σ H s) : ∀ (ds : List PyData) (vs : List V) (us : List Value), DqAll X.K H vs ds → Vals vs us → PyData.showableAll ds = true → (∀ t ∈ PyData.shownAll ds, t.length ≤ sizeLine) →
    ∃ as bs, ReadsAll s.heap us ds as ∧ ReadAtMost s.heap (PyData.depthAll ds) bs ∧ ReprAllK X.prog X.w bs s.heap (PyData.depthAll ds) us (PyData.shownAll ds)
  | [], _, _, h, r, _, _ => by
    cases h
    cases r
    exact ⟨_, [], ReadsAll.nil, (fun _ h => nomatch h), by simp only [PyData.shownAll]; exact .nil⟩
  | d :: ds, _, _, h, r, hs, hz => by
    cases h with
    | cons h1 h2 =>
      cases r with
      | cons r1 r2 =>
        have hs' : d.showable = true ∧ PyData.showableAll ds = true := by simpa [PyData.showableAll] using hs
        obtain ⟨as, b1, q1, hb1, k1⟩ := Dq.reprs I d _ _ h1 r1 hs'.1 (hz _ (by simp only [PyData.shownAll]; exact List.mem_cons_self ..))
        obtain ⟨bs, b2, q2, hb2, k2⟩ := Dq.reprsAll I ds _ _ h2 r2 hs'.2 (fun t ht => hz t (by simp only [PyData.shownAll]; exact List.mem_cons_of_mem _ ht))
        refine ⟨_, b1 ++ b2, ReadsAll.cons q1 q2, ?_, ?_⟩
        · intro b hm
          simp only [PyData.depthAll]
          rcases List.mem_append.mp hm with hm | hm
          · obtain ⟨d', as', r', hd'⟩ := hb1 b hm
            exact ⟨d', as', r', Nat.le_trans hd' (Nat.le_max_left _ _)⟩
          · obtain ⟨d', as', r', hd'⟩ := hb2 b hm
            exact ⟨d', as', r', Nat.le_trans hd' (Nat.le_max_right _ _)⟩
        · simp only [PyData.depthAll, PyData.shownAll]
          exact .cons ((k1.more fun b hb => List.mem_append_left _ hb).level_le (Nat.le_max_left _ _)) (k2.more_le (fun b hb => List.mem_append_right _ hb) (Nat.le_max_right _ _))
end
end
/-- repr of a list -/
def rRepr (K : PySem.W.Frag) : List V → Hp → VK → Prop := fun xs H Q => ∃ (a : Addr) (ds : List PyData), xs = [.ref a] ∧ Dq K H (.ref a) (.list ds) ∧ ds ≠ [] ∧ PyData.showableAll ds = true ∧ PyData.depthAll ds ≤ 40 ∧ (PyData.list ds).shown.length ≤ sizeLine ∧ Q (.str (PyData.list ds).shown) H
theorem call_reprL {X : Cx} (hg : X.A.guards = some []) (hu : X.A.units + 64 < cLine) : CallR X (.builtin "repr") (rRepr X.K) := by
  intro pins s σ H xs us Q I r h
  obtain ⟨a, ds, rfl, hd, hne, hs, hdep, hz, q⟩ := h
  obtain ⟨u, rfl, hu1⟩ := vals1 r
  cases (show u = Value.ref a from hu1)
  cases hd with
  | @lst _ xs _ hq ha =>
    obtain ⟨its, rv, ⟨o, n, ho, hc, _, hd⟩, _⟩ := I.list hq
    have hz' : (listText (PyData.shownAll ds)).length ≤ sizeLine := by simpa only [PyData.shown] using hz
    obtain ⟨as, bs, hr, hb, hk⟩ := Dq.reprsAll I ds _ its ha rv hs (fun t ht => Nat.le_trans (listText_mem_le ht) hz')
    have rr : Reads s.heap (.ref a) (.list ds) _ := Reads.list ho hc hd hr
    have hna : a ∉ bs := not_mem_of_deeper rr (by simp only [PyData.depth]; omega) hb
    cases its with
    | nil =>
      have h4' : ReadsAll s.heap [] ds _ := hr
      cases h4'
      exact absurd rfl hne
    | cons x l =>
      refine call_repr_slot (T := "list") (idr := "list.__repr__") (by omega) ⟨o, ho, hc⟩ F.slot_list_repr.toG ?_
      refine call_list_reprK ho hc hd hna (by simpa using hk.length_eq) (fun i y e => hk.item i y (by simpa using e)) (show X.A.in1.guards = some [] from hg) (fun b _ => Clear.nil b) (by show X.A.units + 1 + (PyData.depthAll ds + 1) < cLine; omega) (fun _ _ e => e) (fun h' u tk hk => ?_) hz'
      simp only [PyData.shown] at q
      exact ⟨_, _, rfl, ⟨.str (listText (PyData.shownAll ds)), H, I.kept hk, ⟨_, rfl⟩, q⟩⟩
end L2

/-! ### a def that is called where no repr is under way, and the law's own end -/
namespace L2
open PySem PySem.Spec PyProof.Rows
structure FnOkG (P : Program) (w : World) (K : PySem.W.Frag) (mg : Str → Option Value) (base : Heap) (CX : CXT) (k : Nat) (f : Addr) (fd : FuncData) (ps : List Str) (sp : Sp) : Prop where
  len : ∀ vs H Q E, sp vs H Q E → vs.length = ps.length
  run : ∀ (A : Around) (outer : List Env) (s : Shared) (H : Hp) (args : Args) (us : List Value) (vs : List V) (Q : VK) (E : XK), A.guards = some [] → Room k A → Env0 P w K mg base A outer s H → BindsTo s fd args (ps.zip us) → Vals vs us → sp vs H Q E →
    codeAny (model P w) A (.call (.ref f) args) (CR CX outer P w H s Q E) s
theorem fn_ofG {CX : CXT} {P : Program} {w : World} {K : PySem.W.Frag} {mg : Str → Option Value} {base : Heap} {k : Nat} {f : Addr} {name qual : Str} {params : Arguments} {body : List Stmt} {scope : Scope} {dV kV doc pm cdv ct oc : Value} {an od : Option Addr}
    {osl : Array (Option Value)} {N ps : List Str} {sp : Sp} (lk : K.lookup f = some ⟨oc, od, .func (PySem.W.fnOf name qual params body scope dV kV doc pm an cdv ct), osl⟩) (hcd : PySem.W.codeIn K cdv qual = true) (S : FnScope N ps scope)
    (len : ∀ vs H Q E, sp vs H Q E → vs.length = ps.length)
    (hbody : ∀ (A : Around) (outer : List Env) (s : Shared) (H : Hp) (vs : List V) (Q : VK) (E : XK), A.guards = some [] → Room k (A.deeper (envOfC qual scope s.heap.objs.size f cdv)) → sp vs H Q E →
      ∃ t, PSs (cxOf CX P w K mg base N qual scope f cdv A outer s H E) body t ∧ t { nx := fun _ H' => Q .non H', rt := Q } (start N vs) H) :
    FnOkG P w K mg base CX (k + 1) f (PySem.W.fnOf name qual params body scope dV kV doc pm an cdv ct) ps sp := by
  refine ⟨len, fun A outer s H args us vs Q E hgd hr e0 hb r hsp => ?_⟩
  have hl := len _ _ _ _ hsp
  have KX : K.In s.heap := e0.mod.kin.keeps fun b o e => (e0.bs b o e).1
  have lim : s.heap.NoLimit := e0.mod.nolimit.keeps fun b o e => (e0.bs b o e).1
  have hkind : ∀ y ∈ ps.zip us, scope.names.lookup y.1 = some .local ∨ (scope.names.lookup y.1 = some .cell ∧ ((cellsFrom (s.heap.objs.size + 1) scope.names []).lookup y.1).isSome = true) := fun ⟨n, v⟩ hy => by
    rcases S.par n (List.of_mem_zip hy).1 with q | q
    · exact .inl q
    · exact .inr ⟨q, PySem.W.cellsFrom_some _ _ _ (.inl q)⟩
  refine codeAny_call_function hr.depth (KX _ _ lk) rfl S.co S.gen rfl (PySem.W.codeRec_of KX hcd) (hb _ _ _ _ ?_)
  refine wpAny_newFunctionEnv_cells S.kind hkind fun env he s1 x => ?_
  subst he
  refine ⟨lim.keeps x.toInCall.keep, codeAny_func ?_⟩
  obtain ⟨t, ht, hq⟩ := hbody A outer s H vs Q E hgd (hr.deeper _) hsp
  have I : Inv (cxOf CX P w K mg base N qual scope f cdv A outer s H E) [] (start N vs) H s1 := inv_start S hr.hd e0 hl r x
  refine wpAny_mono (ht.run [] s1 (start N vs) H _ I hq) (fun fl s' hs => ?_) fun e s' hs => hs
  have fin : ∀ {σ' : St} {H' : Hp} {v : V} {u : Value}, Inv (cxOf CX P w K mg base N qual scope f cdv A outer s H E) [] σ' H' s' → RelV v u → Q v H' → CE outer P w H s Q u s' :=
    fun {σ' H' v u} J rv q => ⟨v, H', J.os, J.bare, J.base, J.hok, rv, q⟩
  cases fl with
  | ret u =>
    obtain ⟨v, σ', H', J, rv, q⟩ := hs
    exact fin J rv q
  | next =>
    obtain ⟨σ', H', J, q⟩ := hs
    exact fin (v := V.non) (u := Value.none) J rfl q
  | brk =>
    obtain ⟨_, _, _, q⟩ := hs
    exact False.elim q
  | cont =>
    obtain ⟨_, _, _, q⟩ := hs
    exact False.elim q
theorem Fun.okG {P : Program} {w : World} {K : PySem.W.Frag} {mg : Str → Option Value} {base : Heap} {x qual : Str} {st : Stmt} {f : Addr} {fd : FuncData} {N ps : List Str} {k : Nat} {sp : Sp} (F : Fun K x qual st f fd) (S : FnScope N ps (defScope st)) (len : ∀ vs H Q E, sp vs H Q E → vs.length = ps.length)
    (hbody : ∀ (cdv : Value) (A : Around) (outer : List Env) (s : Shared) (H : Hp) (vs : List V) (Q : VK) (E : XK), A.guards = some [] → Room k (A.deeper (envOfC qual (defScope st) s.heap.objs.size f cdv)) → sp vs H Q E →
      ∃ t, PSs (cxOf CX0 P w K mg base N qual (defScope st) f cdv A outer s H E).nox (defBody st) t ∧ t { nx := fun _ H' => Q .non H', rt := Q } (start N vs) H) : FnOkG P w K mg base CX0 (k + 1) f fd ps sp := by
  obtain ⟨oc, od, kV, doc, pm, an, cdv, ct, osl, rfl, lk, hcd⟩ := F.ex
  refine fn_ofG lk hcd S len fun A outer s H vs Q E hgd hr hsp => ?_
  obtain ⟨t, h, q⟩ := hbody cdv A outer s H vs Q E hgd hr hsp
  exact ⟨t, h.nox, q⟩
theorem law_callG {P : Program} {w : World} {K : PySem.W.Frag} {mg mb : Str → Option Value} {CX : CXT} {k : Nat} {fa a : Addr} {fd : FuncData} {x : Str} {sp : Sp} {s₁ : Shared} {vs : List Value} {ns : List Int}
    (KX : K.In s₁.heap) (hns : s₁.heap.Ns mainGlobals mg) (hb : s₁.heap.Ns builtinsNs mb) (hbb : ∀ x : Str, x ≠ "__name__" → mb x = bootBuiltins x) (hlim : s₁.heap.NoLimit) (hg : s₁.gens = #[])
    (ha : s₁.heap.get? a = some { cls := .type "list", data := .seq vs.toArray }) (hi : IntsAre vs ns) (hl : ns.length ≤ sizeLine) (hr : Room k callerA)
    (F : ∀ base : Heap, K.In base → base.Ns mainGlobals mg → FnOkG P w K mg base CX k fa fd [x] sp) (hbind : ∀ (s : Shared) (u : Value), BindsTo s fd ⟨[u], []⟩ [(x, u)])
    (hsp : ∀ H : Hp, Only H → SqL K H a (ns.map V.int) → sp [.ref a] H (fun v _ => v = .bl true) fun _ _ _ => False)
    (hCX : ∀ H e s', CX [] H s₁ (fun _ _ _ => False) e s' → False) :
    codeAny (model P w) callerA (.call (.ref fa) ⟨[.ref a], []⟩) (fun r s' => r = .ok (.ret (.bool true)) ∧ OldK s₁.heap s'.heap ∧ s'.os = s₁.os ∧ AllBare s'.gens) s₁ := by
  have rv := vals_ints hi
  have lenV := hi.length
  -- from an abstract heap in which nothing but the script may be tracked
  have core : ∀ H : Hp, Only H → SqL K H a (ns.map V.int) → HOk P w H s₁.heap → (∀ b, H b ≠ none → b = a) → (H a ≠ none → K.lookup a = none) →
      codeAny (model P w) callerA (.call (.ref fa) ⟨[.ref a], []⟩) (fun r s' => r = .ok (.ret (.bool true)) ∧ OldK s₁.heap s'.heap ∧ s'.os = s₁.os ∧ AllBare s'.gens) s₁ := by
    intro H hO hS hok hA hK
    have base_of : ∀ {b : Addr} {o : Obj}, s₁.heap.get? b = some o → H b = none → (hidT s₁.heap H).get? b = some o := fun e n => hidT_get e n
    have noA : ∀ {b : Addr} {o : Obj} {es : Array DictEntry} {ep : Nat}, s₁.heap.get? b = some o → o.data = .dict es ep → H b = none := fun {b o es ep} e d => by
      cases q : H b with
      | none => rfl
      | some u =>
        have e' : b = a := hA b (by rw [q]; simp)
        subst e'
        rw [ha] at e; cases e
        have d' : Data.seq vs.toArray _ = Data.dict es ep := d
        cases d'
    have nsK : ∀ {b : Addr} {m : Str → Option Value}, s₁.heap.Ns b m → (hidT s₁.heap H).Ns b m := fun {b m} ⟨o, es, ep, e, d, r⟩ => ⟨o, es, ep, base_of e (noA e d), d, r⟩
    have hKb : K.In (hidT s₁.heap H) := fun b o e => base_of (KX b o e) (by
      cases q : H b with
      | none => rfl
      | some u =>
        have e' : b = a := hA b (by rw [q]; simp)
        subst e'
        rw [hK (by rw [q]; simp)] at e; cases e)
    have hM : Mod K mg (hidT s₁.heap H) := ⟨hKb, nsK hns, ⟨mb, nsK hb, hbb⟩, let ⟨mc, h1, h2⟩ := hlim; ⟨mc, nsK h1, h2⟩⟩
    have e0 : Env0 P w K mg (hidT s₁.heap H) callerA [] s₁ H := ⟨rfl, hM, fun b o e => of_hidT e, Nat.le_of_eq (hidT_size _ _), trivial, fun b hb => absurd (show b ∈ ([] : List Addr) from hb) (by simp), hok, .of_eq hg⟩
    refine codeAny_mono ((F _ hKb (nsK hns)).run callerA [] s₁ H ⟨[.ref a], []⟩ [.ref a] [.ref a] _ _ rfl hr e0 (hbind s₁ (.ref a)) (.cons rfl .nil) (hsp H hO hS)) fun r s' h => ?_
    cases r with
    | error e => exact (hCX H e s' h).elim
    | ok fl =>
      cases fl with
      | next => exact False.elim h
      | brk => exact False.elim h
      | cont => exact False.elim h
      | ret u =>
        obtain ⟨v, H', os, bare, un, hok', r', q⟩ := h
        have q' : v = .bl true := q
        subst q'
        obtain rfl : u = Value.bool true := r'
        refine ⟨rfl, OldK.of_keep fun b o e => ?_, os, bare⟩
        cases q : H b with
        | none => exact un.keep b o e q (by intro z; exact absurd (show b ∈ ([] : List Addr) from z) (by simp)) (by simp)
        | some u =>
          rcases hO b with z | ⟨ob, xs, z⟩
          · rw [q] at z; cases z
          · have z2 := un.frzs b ob _ z
            obtain ⟨e1, _⟩ := hok b _ z
            obtain ⟨e2, _⟩ := hok' b _ z2
            rw [e] at e1; cases e1
            exact e2
  cases hk : K.lookup a with
  | some o =>
    -- the script is one of the module's own objects
    have e := KX a o hk
    rw [ha] at e
    cases e
    refine core (fun _ => none) (fun _ => .inl rfl) (.inr ⟨_, vs.toArray, _, hk, rfl, rfl, rfl, by rw [List.size_toArray, lenV]; exact hl, by simpa using rv⟩) (fun b u z => by have z' : (none : Option HO) = some u := z; cases z') (fun b z => absurd rfl z) fun z => absurd rfl z
  | none =>
    refine core (fun b => if b = a then some (.frz { cls := .type "list", data := .seq vs.toArray } (.lst (ns.map V.int))) else none) (fun b => ?_) (.inl (.inr ⟨{ cls := .type "list", data := .seq vs.toArray }, if_pos rfl⟩)) (fun b u z => ?_) (fun b z => ?_) fun _ => hk
    · by_cases hb : b = a
      · exact .inr ⟨_, _, if_pos hb⟩
      · exact .inl (if_neg hb)
    · by_cases hb : b = a
      · have z' := (if_pos hb).symm.trans z
        cases z'
        subst hb
        exact ⟨ha, by rw [List.length_map]; exact hl, vs, _, rv, ha⟩
      · have z' := (if_neg hb).symm.trans z
        cases z'
    · by_cases hb : b = a
      · exact hb
      · exact absurd (if_neg hb) z
theorem walk_ofG {l : PySem.W.OpenLaw} {n k : Nat} {q : Program} {loose : List Str} {XP : (Str → Option Value) → Heap → Prop} {YP : World → Heap → Prop} {d : DefRec} {K : Params → PySem.W.Frag} {CX : World → CXT} {sp : World → Sp} {x : Str}
    (hn : l.most = some n) (hn2 : n ≤ sizeLine) (hdf : d.params.defaults = []) (hr : Room k callerA)
    (hY : ∀ (w : World) (h : Heap), YP w h → (K w.params).In h)
    (F : ∀ (w : World) (mg : Str → Option Value) (fa : Addr) (h : Heap), (K w.params).In h → h.Ns mainGlobals mg → mg d.name = some (.ref fa) →
      ∃ fd : FuncData, (∀ (s : Shared) (u : Value), BindsTo s fd ⟨[u], []⟩ [(x, u)]) ∧
        ∀ base : Heap, (K w.params).In base → base.Ns mainGlobals mg → FnOkG l.prog w (K w.params) mg base (CX w) k fa fd [x] (sp w))
    (hsp : ∀ (w : World) (H : Hp) (a : Addr) (ns : List Int), ns.length ≤ n → Only H → SqL (K w.params) H a (ns.map V.int) → sp w [.ref a] H (fun v _ => v = .bl true) fun _ _ _ => False)
    (hCX : ∀ (w : World) (H : Hp) (s : Shared) (e : Value) (s' : Shared), CX w [] H s (fun _ _ _ => False) e s' → False) :
    PySem.W.WalkO q loose XP YP l.row.toRowW d [] (fun f vs => PySem.call f vs) := by
  refine Att.attach_call hn hdf fun w s₀ s₁ mg mb fa o pm cd doc a vs ns G Y ho hd hcd hmg hobj hints hlen hg => ?_
  have KX := hY w _ Y
  obtain ⟨fd, hb, hF⟩ := F w mg fa _ KX G.T.g hmg
  exact law_callG KX G.T.g G.T.b G.T.builtins G.T.nolimit hg hobj hints (Nat.le_trans hlen hn2) hr hF hb (fun H hO hS => hsp w H a ns hlen hO hS) fun H e s' => hCX w H s₁ e s'
end L2
/-! ### own __add__ and __radd__ -/
namespace PySem
namespace LwX
open PySem.W PySem.Calls
section
variable {prog : Program} {w : World} {A : Around} {E : Value → Shared → Prop} {s : Shared} {K : Frag} {x C f : Addr} {ox : Obj} {od : Option Obj} {T : String}
/-- x + b, b of a built-in type -/
theorem add_own {b : Value} {fo ro rc : Option Value} {Q : Value → Shared → Prop} (X : K.In s.heap) (I : InstAt s.heap x ox C od) (hb : ∀ M, Looks M s.heap (typeOf b) (.type T)) (hc : selfFirst K C = true)
    (hs : findIn K (.ref C) "__add__" = some (some (.ref f))) (hf : isFn K (.ref f) = true) (hr : findIn K (.ref C) "__radd__" = some rc) (hp : rc = none ∨ ∃ g : Addr, rc = some (.ref g))
    (h1 : findIn K (.type T) "__add__" = some fo) (h2 : findIn K (.type T) "__radd__" = some ro) (hsub : subIn K (.type T) (.ref C) = some false)
    (h : wpAny (model prog w) A (call (.ref f) [.ref x, b]) (CmpBack Q) E s) : wpAny (model prog w) A (binaryOp .Add (.ref x) b) Q E s := by
  obtain ⟨cd, rest, hcd, hm⟩ := ksp_first hc
  have one := ksp_try X I hs hf h
  obtain ⟨hh, g, d, tt, os⟩ := s
  have L1 : Looks (model prog w) hh (typeOf (.ref x)) (.ref C) := I.type
  have L2 : Looks (model prog w) hh (typeOf b) (.type T) := hb _
  have L3 : Looks (model prog w) hh (fillsNumberSlot (.ref C) "add") true := fills_K X hcd hm hs
  have L4 : Looks (model prog w) hh (fillsNumberSlot (.type T) "add") ((fo.isSome && !isSeqSlot fo) || (ro.isSome && !isSeqSlot ro)) := ksp_fillsT X h1 h2
  have L5 : Looks (model prog w) hh (isSubtype (.type T) (.ref C)) false := looks_subIn X hsub
  have L6 : Looks (model prog w) hh (numberSlotInPython (.ref C) "add") true := ksp_inPy X hs hr hp
  have L7 : Looks (model prog w) hh (numberSlotInPython (.type T) "add") false := Looks.of_pure rfl
  have L8 : Looks (model prog w) hh (typeLookup (.type T) (dunderR "add")) ro := looks_findIn X h2
  generalize ((fo.isSome && !isSeqSlot fo) || (ro.isSome && !isSeqSlot ro)) = right at L4
  have hne : (Value.ref C == Value.type T) = false := Bool.eq_false_iff.mpr fun q => by cases beq_iff_eq.mp q
  have hi : Operator.info .Add = ("+", "add") := rfl
  simp only [binaryOp, hi]
  refine wpAny_holding (wpAny_bind ?_)
  unfold binaryOp1
  refine wpAny_bind (L1.at (wpAny_bind (L2.at (wpAny_bind (L3.at ?_)))))
  simp only [hne, Bool.false_eq_true, if_false]
  cases right with
  | false =>
    ksp_lk
    refine wpAny_mono one (fun r s' hr' => ?_) fun _ _ e => e
    obtain ⟨v, rfl, hq⟩ := hr'
    ksp_lk
    exact hq
  | true =>
    ksp_lk
    refine wpAny_mono one (fun r s' hr' => ?_) fun _ _ e => e
    obtain ⟨v, rfl, hq⟩ := hr'
    ksp_lk
    exact hq
/-- x + y, both of the class at C -/
theorem add_same {y : Addr} {oy : Obj} {oyd : Option Obj} {Q : Value → Shared → Prop} (X : K.In s.heap) (I : InstAt s.heap x ox C od) (J : InstAt s.heap y oy C oyd) (hc : selfFirst K C = true)
    (hs : findIn K (.ref C) "__add__" = some (some (.ref f))) (hf : isFn K (.ref f) = true)
    (h : wpAny (model prog w) A (call (.ref f) [.ref x, .ref y]) (CmpBack Q) E s) : wpAny (model prog w) A (binaryOp .Add (.ref x) (.ref y)) Q E s := by
  obtain ⟨cd, rest, hcd, hm⟩ := ksp_first hc
  have one := ksp_try X I hs hf h
  obtain ⟨hh, g, d, tt, os⟩ := s
  have L1 : Looks (model prog w) hh (typeOf (.ref x)) (.ref C) := I.type
  have L2 : Looks (model prog w) hh (typeOf (.ref y)) (.ref C) := J.type
  have L3 : Looks (model prog w) hh (fillsNumberSlot (.ref C) "add") true := fills_K X hcd hm hs
  have hi : Operator.info .Add = ("+", "add") := rfl
  simp only [binaryOp, hi]
  refine wpAny_holding (wpAny_bind ?_)
  unfold binaryOp1
  refine wpAny_bind (L1.at (wpAny_bind (L2.at (wpAny_bind (L3.at ?_)))))
  simp only [beq_self_eq_true, if_true]
  ksp_lk
  refine wpAny_mono one (fun r s' hr' => ?_) fun _ _ e => e
  obtain ⟨v, rfl, hq⟩ := hr'
  ksp_lk
  exact hq
/-- a + x, a of a built-in type whose + is a sequence's -/
theorem radd_own {a : Value} {fa : Addr} {fo ro : Option Value} {Q : Value → Shared → Prop} (X : K.In s.heap) (I : InstAt s.heap x ox C od) (ha : ∀ M, Looks M s.heap (typeOf a) (.type T)) (hc : selfFirst K C = true)
    (hs0 : findIn K (.ref C) "__add__" = some (some (.ref fa))) (hs : findIn K (.ref C) "__radd__" = some (some (.ref f))) (hf : isFn K (.ref f) = true)
    (h1 : findIn K (.type T) "__add__" = some fo) (h2 : findIn K (.type T) "__radd__" = some ro) (hseq : ((fo.isSome && !isSeqSlot fo) || (ro.isSome && !isSeqSlot ro)) = false)
    (h : wpAny (model prog w) A (call (.ref f) [.ref x, a]) (CmpBack Q) E s) : wpAny (model prog w) A (binaryOp .Add a (.ref x)) Q E s := by
  obtain ⟨cd, rest, hcd, hm⟩ := ksp_first hc
  have one := ksp_try X I hs hf h
  obtain ⟨hh, g, d, tt, os⟩ := s
  have L1 : Looks (model prog w) hh (typeOf (.ref x)) (.ref C) := I.type
  have L2 : Looks (model prog w) hh (typeOf a) (.type T) := ha _
  have L3 : Looks (model prog w) hh (fillsNumberSlot (.ref C) "add") true := fills_K X hcd hm hs0
  have L4 : Looks (model prog w) hh (fillsNumberSlot (.type T) "add") false := by
    rw [← hseq]
    exact ksp_fillsT X h1 h2
  have hne : (Value.type T == Value.ref C) = false := Bool.eq_false_iff.mpr fun q => by cases beq_iff_eq.mp q
  have hi : Operator.info .Add = ("+", "add") := rfl
  simp only [binaryOp, hi]
  refine wpAny_holding (wpAny_bind ?_)
  unfold binaryOp1
  refine wpAny_bind (L2.at (wpAny_bind (L1.at (wpAny_bind (L4.at ?_)))))
  simp only [hne, Bool.false_eq_true, if_false]
  refine wpAny_bind (L3.at ?_)
  ksp_lk
  refine wpAny_mono one (fun r s' hr' => ?_) fun _ _ e => e
  obtain ⟨v, rfl, hq⟩ := hr'
  ksp_lk
  exact hq
end
end LwX
end PySem

/-! R2 -/
/-! ### enumerate over a tuple -/
namespace PySem
namespace LwX
open Sem (wp)
theorem meets_enumT (l : Addr) (items : Array Value) :
    Meets (Builtin.«enumerate.__new__» ⟨[.type "enumerate", .ref l], []⟩) (fun _ R s => s.heap.IsTuple l items ∧
      R (.ok (.ret (.ref (s.heap.push { cls := .type "tuple_iterator", data := .fields #[.ref l, .int 0 0] }).objs.size)))
        { s with heap := (s.heap.push { cls := .type "tuple_iterator", data := .fields #[.ref l, .int 0 0] }).push { cls := .type "enumerate", data := .fields #[.none, .bool false, .ref s.heap.objs.size, rawInt 0, .none, .none] } }) :=
  .of_wp fun prog w A R s h => by
    obtain ⟨hp, g, d, tk, os⟩ := s
    obtain ⟨hL, h⟩ := h
    have hsub := sub_enumerate
    have q1 : ∀ {A' : Around} {E : Value → Shared → Prop} {Q : Value → Shared → Prop}, Q (.ref hp.objs.size) ⟨hp.push { cls := .type "tuple_iterator", data := .fields #[.ref l, .int 0 0] }, g, d, tk, os⟩ → wpAny (model prog w) A' (pyIter (.ref l)) Q E ⟨hp, g, d, tk, os⟩ :=
      fun q => wpAny_pyIter_tuple (s := ⟨hp, g, d, tk, os⟩) hL q
    wp_walk using q1
    refine wpAny_stack_any fun st => wpAny_pure ?_
    split
    · rename_i c _ _ _ _ _
      cases (c == Value.type "enumerate") <;> (wp_walk using q1; exact ⟨_, rfl, h⟩)
    · wp_walk using q1
      exact ⟨_, rfl, h⟩
theorem call_enumT {prog : Program} {w : World} {A : Around} {E : Value → Shared → Prop} {s : Shared} {l : Addr} {items : Array Value} {Q : Value → Shared → Prop} (hL : s.heap.IsTuple l items)
    (h : ∀ h', IsEnum h' (s.heap.objs.size + 1) s.heap.objs.size 0 .none → h'.IsTupleIter s.heap.objs.size l 0 → h'.objs.size = s.heap.objs.size + 2 →
      (∀ b o, s.heap.get? b = some o → h'.get? b = some o) → Q (.ref (s.heap.objs.size + 1)) { s with heap := h' }) :
    wpAny (model prog w) A (call (.type "enumerate") [.ref l]) Q E s := by
  refine callType_new F.called_enumerate (by decide) (F.typeCall_enumerate_1 _) (F.newCall_enumerate_1 _) (fun obj => F.args_object_init_2 obj _) F.entry_enumerate_new (meets_enumT l items) ⟨hL, ?_⟩
  have hz : (s.heap.push { cls := .type "tuple_iterator", data := .fields #[.ref l, .int 0 0] }).objs.size = s.heap.objs.size + 1 := Heap.size_push ..
  show _ ∧ _
  rw [hz]
  have he : IsEnum ((s.heap.push { cls := .type "tuple_iterator", data := .fields #[.ref l, .int 0 0] }).push
      { cls := .type "enumerate", data := .fields #[.none, .bool false, .ref s.heap.objs.size, rawInt 0, .none, .none] }) (s.heap.objs.size + 1) s.heap.objs.size 0 .none := by
    have z := Heap.get?_push_size (s.heap.push { cls := .type "tuple_iterator", data := .fields #[.ref l, .int 0 0] })
      (o := { cls := .type "enumerate", data := .fields #[.none, .bool false, .ref s.heap.objs.size, rawInt 0, .none, .none] }) rfl
    rw [hz] at z
    exact z
  exact ⟨⟨_, he, rfl⟩, h _ he ⟨_, Heap.get?_push_of_some _ (Heap.get?_push_size _ rfl), rfl, rfl⟩ (by rw [Heap.size_push, hz]) fun b o x => Heap.get?_push_of_some _ (Heap.get?_push_of_some _ x)⟩
end LwX
end PySem
namespace L2
open PySem PySem.Spec PyProof.Rows
/-- the tuple at a, each item in a new pair -/
def IteT (K : PySem.W.Frag) (a : Addr) : It :=
  ⟨fun i H => ∃ (xs : List V) (x : V), SqT K H a xs ∧ xs[i]? = some x, fun i H v H' => ∃ T x, v = .ref T ∧ H T = none ∧ H' = upd H T (.tup [.int (i : Nat), x]) ∧ ∀ xs, SqT K H a xs → xs[i]? = some x, fun i H => ∃ xs : List V, SqT K H a xs ∧ xs.length = i⟩
theorem turn_enumT {P : Program} {w : World} {K : PySem.W.Frag} {elts : List Expr} {kk : Nat} {tpos : Pos} (a e it : Addr) :
    Turn P w K (.Tuple elts kk tpos) (IteT K a) [e, it] e (fun i h => (∃ old, IsEnum h e it ((i : Nat) : Int) old) ∧ h.IsTupleIter it a i ∧ e ≠ it) where
  mem := by simp
  obj := fun i h st b hb => by
    obtain ⟨⟨old, he⟩, ⟨o, ho, hc, hd⟩, _⟩ := st
    have e' : b = e ∨ b = it := by simpa using hb
    rcases e' with z | z
    · rw [z]; exact ⟨_, he, fun v q => nomatch q⟩
    · rw [z]; exact ⟨o, ho, fun v q => by rw [hd] at q; cases q⟩
  keep := fun i h h' st k => let ⟨⟨old, he⟩, hi, hne⟩ := st; ⟨⟨old, k e (by simp) _ he⟩, hi.at fun o q => k it (by simp) o q, hne⟩
  item := by
    intro X hP hw hK hc i pins s σ H E I hf st hg
    subst hP hw hK
    obtain ⟨⟨old, he⟩, hit, hne⟩ := st
    obtain ⟨xs, x, hq, hx⟩ := hg
    obtain ⟨its, rv, p, hz⟩ := I.tuple hq
    obtain ⟨u, hu, ru⟩ := rv.get hx
    have p' : s.heap.IsTuple a its.toArray := p
    have hel : e < s.heap.objs.size := Heap.lt_size he
    have hil : it < s.heap.objs.size := by obtain ⟨_, q, _⟩ := hit; exact Heap.lt_size q
    have hai : a ≠ it := by
      rintro rfl
      obtain ⟨o1, e1, c1, _⟩ := p'
      obtain ⟨o2, e2, c2, _⟩ := hit
      rw [e1] at e2
      cases e2
      rw [c1] at c2
      exact absurd (Value.type.inj c2) (by decide)
    have hae : e ∉ [it, a] := by
      intro z
      rcases List.mem_cons.mp z with z | z
      · exact hne z
      · rcases List.mem_cons.mp z with z | z
        · obtain ⟨o1, e1, c1, _⟩ := p'
          rw [← z, he] at e1
          cases e1
          exact absurd (Value.type.inj c1) (by decide)
        · cases z
    have hlt : i < its.toArray.size := by
      have z := (List.getElem?_eq_some_iff.mp hu).1
      simpa using z
    refine wpAny_pyNext_enum_itemD (Draws.tuple (A := X.A.in1) (show X.A.in1.handled = none from I.ok.hd hc) it a hai its.toArray) he ⟨hit, p'⟩ hlt hne hae fun x' h' tk hP ho hst hT hsz hk => ?_
    have ex : x' = u := by
      have z : its[i]? = some x' := by simpa using hP
      rw [hu] at z
      exact (Option.some.inj z).symm
    subst ex
    refine ⟨_, rfl, wpAny_letOwnedTupleGo_enum (s := { s with heap := h', toks := tk + 1 }) ho fun h'' he' sb => ?_⟩
    have hT2 : h''.get? s.heap.objs.size = some { cls := .type "tuple", data := .seq #[.int i tk, x'] } := (sb.2 _ (Nat.ne_of_gt hel)).trans hT
    have new : ObjOk X.prog X.w (upd H s.heap.objs.size (.tup [.int (i : Nat), x])) h'' s.heap.objs.size (.tup [.int (i : Nat), x]) :=
      ⟨by show 2 ≤ sizeLine; decide, [.int i tk, x'], .cons ⟨_, rfl⟩ (.cons ru .nil), ⟨_, hT2, rfl, _, rfl⟩⟩
    have I1 : Inv X pins σ (upd H s.heap.objs.size (.tup [.int (i : Nat), x])) { s with heap := h'', toks := tk + 1 } :=
      I.turnedNew (ch := [e, it]) (fun b ob hb q => (sb.2 b (fun z => hb (by simp [z]))).trans (hk b ob (fun z => hb (by simp [z])) (fun z => hb (by simp [z])) q)) hf (Nat.le_refl _) new
    refine ⟨.ref s.heap.objs.size, _, I1, rfl, ⟨_, x, rfl, I.hok.fresh (Nat.le_refl _), rfl, fun ys hy => by rw [I.tuple_inj hy hq]; exact hx⟩, ⟨⟨x', ?_⟩, hst.1.at fun o q => (sb.2 it (Ne.symm hne)).trans q, hne⟩, fun b hb => ?_⟩
    · have e1 : ((i + 1 : Nat) : Int) = (i : Int) + 1 := by omega
      rw [e1]; exact he'
    · have hb' : b < s.heap.objs.size := by
        have e' : b = e ∨ b = it := by simpa using hb
        rcases e' with z | z
        · rw [z]; exact hel
        · rw [z]; exact hil
      rw [upd_ne (Nat.ne_of_lt hb')]
      exact (hf b hb).1
  done := by
    intro X hP hw hK hc i pins s σ H E I hf st hg
    subst hP hw hK
    obtain ⟨⟨old, he⟩, hit, hne⟩ := st
    obtain ⟨xs, hq, hx⟩ := hg
    obtain ⟨its, rv, p, hz⟩ := I.tuple hq
    have p' : s.heap.IsTuple a its.toArray := p
    obtain ⟨f0, f1, f2, f3, f4, f5⟩ := hf it (by simp)
    have hl := rv.length
    have hai : a ≠ it := by
      rintro rfl
      obtain ⟨o1, e1, c1, _⟩ := p'
      obtain ⟨o2, e2, c2, _⟩ := hit
      rw [e1] at e2
      cases e2
      rw [c1] at c2
      exact absurd (Value.type.inj c2) (by decide)
    have en : i = its.toArray.size := by simp; omega
    rw [en] at hit
    exact wpAny_pyNext_enum_endD (Draws.tuple (A := X.A.in1) (show X.A.in1.handled = none from I.ok.hd hc) it a hai its.toArray) he ⟨hit, p'⟩ fun h' eb => ⟨rfl, I.turned (t' := s.toks) (fun b o hb q => eb b o hb q) f0 f1 f3 f4 f5⟩
  self := fun A i s Q E st h => let ⟨⟨_, he⟩, _⟩ := st; wpAny_pyIter_enum he h
def iEnumT (K : PySem.W.Frag) (ta : TA) : TI := fun σ H R => ta σ H fun vs H1 => ∃ a xs, vs = [.ref a] ∧ SqT K H1 a xs ∧ R (IteT K a) H1
theorem pi_enumT {X : Cx} {e : Expr} {ta : TA} {p pos tpos : Pos} {elts : List Expr} {kk : Nat} (hg : Gl X "enumerate") (hm : X.mg "enumerate" = none) (ha : PA X [e] ta) (hs : starEach [e] X.env = [(false, eval e X.env)] := by rfl) :
    PI X (.Tuple elts kk tpos) (.Call (.Name "enumerate" p) [e] [] pos) (iEnumT X.K ta) := by
  refine ⟨fun pins s σ H R I h => ?_⟩
  refine Call_ (ld_blt I hg hm boot_enumerate (PyProof.Rows.callWith_type1 (thn (ha.run pos pins s σ H _ I h) fun us s1 ⟨vs, H1, I1, r1, q1⟩ => ?_) hs rfl))
  obtain ⟨a, xs, ex, hq, q⟩ := q1
  subst ex
  cases r1 with
  | cons r rr =>
    cases rr
    cases r
    obtain ⟨its, rv, p', hz⟩ := I1.tuple hq
    refine PySem.LwX.call_enumT (items := its.toArray) p' fun h' he hit hsz hk => wpAny_pyIter_enum he ?_
    have I2 : Inv X pins σ H1 { s1 with heap := h' } := I1.kept (t' := s1.toks) hk
    refine ⟨s1.heap.objs.size + 1, [s1.heap.objs.size + 1, s1.heap.objs.size], _, _, H1, rfl, I2, turn_enumT a (s1.heap.objs.size + 1) s1.heap.objs.size, ⟨⟨.none, he⟩, hit, Nat.succ_ne_self _⟩, fun b hb => ?_, q⟩
    have e' : b = s1.heap.objs.size + 1 ∨ b = s1.heap.objs.size := by simpa using hb
    have hle : s1.heap.objs.size ≤ b := by
      rcases e' with z | z
      · rw [z]; exact Nat.le_add_right _ _
      · rw [z]; exact Nat.le_refl _
    exact I1.fpOk hle (I1.hok.fresh hle)
end L2

/-! R3 -/
/-! ### star calls of a class, own operators, static methods, raising, text * int -/
namespace L2
open PySem PySem.Spec PyProof.Rows StX
/-- the facts of a class with its own + from both sides -/
structure AddC (K : PySem.W.Frag) (C f g : Addr) : Prop where
  hc : PySem.W.selfFirst K C = true
  hs : PySem.W.findIn K (.ref C) "__add__" = some (some (.ref f))
  hf : PySem.W.isFn K (.ref f) = true
  hr : PySem.W.findIn K (.ref C) "__radd__" = some (some (.ref g))
  hg : PySem.W.isFn K (.ref g) = true
/-- what is asked of a built-in type beside it -/
structure AddT (K : PySem.W.Frag) (C : Addr) (T : String) : Prop where
  ex : ∃ fo ro, PySem.W.findIn K (.type T) "__add__" = some fo ∧ PySem.W.findIn K (.type T) "__radd__" = some ro
  sub : PySem.W.subIn K (.type T) (.ref C) = some false
structure RaddT (K : PySem.W.Frag) (T : String) : Prop where
  ex : ∃ fo ro, PySem.W.findIn K (.type T) "__add__" = some fo ∧ PySem.W.findIn K (.type T) "__radd__" = some ro ∧ ((fo.isSome && !isSeqSlot fo) || (ro.isSome && !isSeqSlot ro)) = false
def rAddT (K : PySem.W.Frag) (C : Addr) (sp : Sp) (E : XK) : R2 := fun x y H Q => ∃ (a dx : Addr) (fs : List (Str × V)) (T : String), x = .ref a ∧ H a = some (.ins C dx fs) ∧ TyX K H y (.type T) ∧ AddT K C T ∧ sp [.ref a, y] H (fun v H' => (∃ p, v = .ref p) ∧ Q v H') E
def rAddS (C : Addr) (sp : Sp) (E : XK) : R2 := fun x y H Q => ∃ (a b dx dy : Addr) (fs gs : List (Str × V)), x = .ref a ∧ y = .ref b ∧ H a = some (.ins C dx fs) ∧ H b = some (.ins C dy gs) ∧ sp [.ref a, .ref b] H (fun v H' => (∃ p, v = .ref p) ∧ Q v H') E
def rRaddT (K : PySem.W.Frag) (C : Addr) (sp : Sp) (E : XK) : R2 := fun x y H Q => ∃ (a dx : Addr) (fs : List (Str × V)) (T : String), y = .ref a ∧ H a = some (.ins C dx fs) ∧ TyX K H x (.type T) ∧ RaddT K T ∧ sp [.ref a, x] H (fun v H' => (∃ p, v = .ref p) ∧ Q v H') E
section
variable {X : Cx} {CX : CXT} {k : Nat} {f g C : Addr} {fd : FuncData} {ps : List Str} {sp : Sp} {E : XK} {x : Str} {e : Expr} {es : List Expr} {te : TE} {t : TA} {p sp_ pos : Pos}
theorem back_ref {pins : List (Addr × Obj)} {σ : St} {Q : VK} {u : Value} {s' : Shared} (h : EP X pins σ (fun v H' => (∃ p, v = .ref p) ∧ Q v H') u s') : PySem.W.CmpBack (fun u s' => EP X pins σ Q u s') u s' := by
  obtain ⟨v, H', I, r, ⟨p, rfl⟩, q⟩ := h
  cases (show u = Value.ref p from r)
  exact ⟨V.ref p, H', I, rfl, q⟩
theorem op_addT (A : AddC X.K C f g) (F : FnOk X.prog X.w X.K X.mg X.base CX k f fd ps sp) (hr : Room k X.A) (hb : Binds X.K fd ps []) (hx : Passes CX X E) : OpR X (binaryOp .Add) (rAddT X.K C sp E) := by
  intro pins s σ H x y v u Q I rx ry h
  obtain ⟨a, dx, fs, T, rfl, ha, ty, ⟨⟨fo, ro, h1, h2⟩, hsub⟩, q⟩ := h
  cases (show v = Value.ref a from rx)
  obtain ⟨P, Z, pz, hne⟩ := kit_of I ry ty
  obtain ⟨mA, O, _⟩ := ins_get I.hok ha
  obtain ⟨od, J, _⟩ := O.look
  refine PySem.LwX.add_own I.kIn J (fun M => Z.ty M _ I.kIn pz) A.hc A.hs A.hf A.hr (.inr ⟨_, rfl⟩) h1 h2 hsub ?_
  exact thn (run_fn (us := [.ref a, u]) (vs := [.ref a, y]) F hr hb .nil hx I (.cons rfl (.cons ry .nil)) q) fun _ _ z => back_ref z
theorem op_addS (A : AddC X.K C f g) (F : FnOk X.prog X.w X.K X.mg X.base CX k f fd ps sp) (hr : Room k X.A) (hb : Binds X.K fd ps []) (hx : Passes CX X E) : OpR X (binaryOp .Add) (rAddS C sp E) := by
  intro pins s σ H x y v u Q I rx ry h
  obtain ⟨a, b, dx, dy, fs, gs, rfl, rfl, ha, hb', q⟩ := h
  cases (show v = Value.ref a from rx)
  cases (show u = Value.ref b from ry)
  obtain ⟨mA, O, _⟩ := ins_get I.hok ha
  obtain ⟨od, J, _⟩ := O.look
  obtain ⟨mB, O2, _⟩ := ins_get I.hok hb'
  obtain ⟨od2, J2, _⟩ := O2.look
  refine PySem.LwX.add_same I.kIn J J2 A.hc A.hs A.hf ?_
  exact thn (run_fn (us := [.ref a, .ref b]) (vs := [.ref a, .ref b]) F hr hb .nil hx I (.cons rfl (.cons rfl .nil)) q) fun _ _ z => back_ref z
theorem op_raddT (A : AddC X.K C f g) (F : FnOk X.prog X.w X.K X.mg X.base CX k g fd ps sp) (hr : Room k X.A) (hb : Binds X.K fd ps []) (hx : Passes CX X E) : OpR X (binaryOp .Add) (rRaddT X.K C sp E) := by
  intro pins s σ H x y v u Q I rx ry h
  obtain ⟨a, dx, fs, T, rfl, ha, ty, ⟨fo, ro, h1, h2, h3⟩, q⟩ := h
  cases (show u = Value.ref a from ry)
  obtain ⟨P, Z, pz, hne⟩ := kit_of I rx ty
  obtain ⟨mA, O, _⟩ := ins_get I.hok ha
  obtain ⟨od, J, _⟩ := O.look
  refine PySem.LwX.radd_own I.kIn J (fun M => Z.ty M _ I.kIn pz) A.hc A.hs A.hr A.hg h1 h2 h3 ?_
  exact thn (run_fn (us := [.ref a, v]) (vs := [.ref a, x]) F hr hb .nil hx I (.cons rfl (.cons rx .nil)) q) fun _ _ z => back_ref z
/-- C(*y) -/
theorem pe_makeS1 (M : Mk X.K C f) (F : FnR X.prog X.w X.K X.mg X.base CX k f sp) (hr : Room (k + 1) X.A) (hg : Gl X x) (hm : X.mg x = some (.ref C)) (hx : Passes CX X E) (he : PE X e te) (hd : (x == ("__debug__" : Str)) = false := by decide)
    (hst : starEach [.Starred e sp_] X.env = [(true, eval e X.env)] := by rfl) :
    PE X (.Call (.Name x p) [.Starred e sp_] [] pos) (fun σ H Q => te σ H fun y H1 => ∃ a xs, y = V.ref a ∧ (SqT X.K H1 a xs ∨ SqL X.K H1 a xs) ∧ ∀ x dx, H1 x = Option.none → H1 dx = Option.none → dx ≠ x →
      sp (V.ref x :: xs) (upd (upd H1 dx (.own x)) x (.ins C dx [])) (fun v H2 => v = .non ∧ Q (.ref x) H2) E) := by
  refine ⟨fun pins s σ H Q I h => ?_⟩
  refine wpAny_Call_Name_kw (ld_glob I hg hm ?_ hd)
  refine PySem.W.callWith_S (h₀ := X.base) I.ok.mod.kin M.kp (thn (he.run pins s σ H _ I h) fun v s1 ⟨y, H1, I1, ry, a, xs, ey, hxs, q⟩ => ?_) hst
  subst ey
  obtain rfl : v = Value.ref a := ry
  exact star_any I1 hxs fun us s2 I2 rv => ⟨I2.kIn, run_makeR M F hr hx I2 rv q⟩
/-- C(e, .., *y, ..) -/
theorem pe_makeS2 (M : Mk X.K C f) (F : FnR X.prog X.w X.K X.mg X.base CX k f sp) (hr : Room (k + 1) X.A) (hg : Gl X x) (hm : X.mg x = some (.ref C)) (hx : Passes CX X E) (ha : PA X (e :: es) t) (hd : (x == ("__debug__" : Str)) = false := by decide)
    (he : starEach (e :: es) X.env = (false, eval e X.env) :: starEach es X.env := by rfl) (hst : (backTo pos (starEach es X.env)).any (·.1) = true := by rfl) : PE X (.Call (.Name x p) (e :: es) [] pos) (tMakeR C sp E t) := by
  refine ⟨fun pins s σ H Q I h => ?_⟩
  refine wpAny_Call_Name_kw (ld_glob I hg hm ?_ hd)
  refine PySem.W.callWith_S2 (h₀ := X.base) I.ok.mod.kin M.kp (thn (ha.run pos pins s σ H _ I h) fun us s1 ⟨vs, H1, I1, r, q⟩ => ⟨I1.kIn, ?_⟩) he hst
  exact run_makeR M F hr hx I1 r q
/-- C() -/
theorem pe_makeR0 (M : Mk X.K C f) (F : FnR X.prog X.w X.K X.mg X.base CX k f sp) (hr : Room (k + 1) X.A) (hg : Gl X x) (hm : X.mg x = some (.ref C)) (hx : Passes CX X E) (hd : (x == ("__debug__" : Str)) = false := by decide) : PE X (.Call (.Name x p) [] [] pos) (tMakeR C sp E tNil) := by
  refine ⟨fun pins s σ H Q I h => ?_⟩
  refine wpAny_Call_Name_kw (ld_glob I hg hm ?_ hd)
  exact PySem.W.callWith_K0 I.kIn M.kp (run_makeR (us := []) M F hr hx I .nil h)
end
/-! ### raising an own error with an __init__ of its own -/
def tMkX (C : Addr) (sp : Sp) (ta : TA) : St → Hp → XK → Prop := fun σ H Q => ta σ H fun vs H1 => vs.length ≤ 1000 ∧ ∀ a, H1 a = none → sp (.ref a :: vs) (upd H1 a (exo a C none))
  (fun v H2 => v = .non ∧ ∃ (d : Addr) (fs : List (Str × V)), H2 a = some (exo a C (some d)) ∧ H2 d = some (exd d fs) ∧ H1 d = none ∧ Q (.ref C) (some d) (upd (del H2 a) d (.xd fs))) (fun _ _ _ => False)
section
variable {X : Cx} {e : Expr} {es : List Expr} {ta : TA} {p pos : Pos}
theorem pmk_G {CX : CXT} {x : Str} {C fI : Addr} {k : Nat} {fd : FuncData} {ps : List Str} {sp : Sp} (T : OexG X.K C fI)
    (F1 : FnOk X.prog X.w X.K X.mg X.base CX k fI fd ps sp) (hr : Room (k + 1) X.A) (hb : Binds X.K fd ps []) (hx : Passes CX X (fun _ _ _ => False)) (hg : Gl X x) (hm : X.mg x = some (.ref C)) (ha : PA X (e :: es) ta)
    (hdb : (x == ("__debug__" : Str)) = false := by decide) (he : starEach (e :: es) X.env = (false, eval e X.env) :: starEach es X.env := by rfl) (hpl : (backTo pos (starEach es X.env)).any (·.1) = false := by rfl) :
    PMk X (.Call (.Name x p) (e :: es) [] pos) (tMkX C sp ta) := by
  intro pins s σ H Q I h
  obtain ⟨B, newId, initId, bmB, FB, SB, nm, q, N, bs, bm, sn, sub, ab, col, dd, k0, k1, k2, k3, k5, hC, hbm⟩ := T.base
  refine wpAny_Call_Name_kw (ld_glob I hg hm ?_ hdb)
  refine PySem.W.callWith_K (h₀ := X.base) I.ok.mod.kin T.kC (thn (ha.run pos pins s σ H _ I h) fun us s1 ⟨vs, H1, I1, r1, hz, q1⟩ => ⟨I1.kIn, ?_⟩) he hpl
  show wpAny _ _ (call (.ref C) us) _ _ _
  obtain ⟨hp, g, dr, tk, os⟩ := s1
  have hsz : hp.objs.size ≤ hp.objs.size + 1 := Nat.le_succ _
  have hn : H1 (hp.objs.size + 1) = none := I1.hok.fresh hsz
  have hq := q1 (hp.objs.size + 1) hn
  have kk : ∀ b o, hp.get? b = some o → ((hp.push (PySem.W.kdv_tup us)).push (PySem.HandSPX.excO C hp.objs.size)).get? b = some o := fun b o e => Heap.get?_push_of_some _ (Heap.get?_push_of_some _ e)
  have hget : ((hp.push (PySem.W.kdv_tup us)).push (PySem.HandSPX.excO C hp.objs.size)).get? (hp.objs.size + 1) = some (PySem.HandSPX.excO C hp.objs.size) := by heap_get
  have I2 : Inv X pins σ (upd H1 (hp.objs.size + 1) (exo (hp.objs.size + 1) C none)) ⟨(hp.push (PySem.W.kdv_tup us)).push (PySem.HandSPX.excO C hp.objs.size), g, dr, tk, os⟩ :=
    I1.laid (t' := tk) (a := hp.objs.size + 1) (o := exo (hp.objs.size + 1) C none) (h' := (hp.push (PySem.W.kdv_tup us)).push (PySem.HandSPX.excO C hp.objs.size)) kk hsz (exo_ok hget)
  have r2 : Vals (V.ref (hp.objs.size + 1) :: vs) (Value.ref (hp.objs.size + 1) :: us) := .cons rfl r1
  have hl : (Value.ref (hp.objs.size + 1) :: us).length = ps.length := by
    have z := F1.len _ _ _ _ hq
    rw [← z, r2.length]
  have hbt := hb ⟨(hp.push (PySem.W.kdv_tup us)).push (PySem.HandSPX.excO C hp.objs.size), g, dr, tk, os⟩ (Value.ref (hp.objs.size + 1) :: us) I2.kIn (by rw [List.append_nil]; exact hl)
  rw [List.append_nil] at hbt
  have hus : us.length ≤ sizeLine := by
    rw [← Paired.length r1, sizeLine_eq]
    omega
  refine wpAny_call (PySem.LwX.call_kw FB (fun Y => PySem.W.excTail_contains Y bm hbm) (I1.kIn _ _ hC) (PySem.W.looks_findIn I1.kIn T.iC) (fun self => PySem.W.bind_fn I1.kIn self T.tI) hus
    (codeAny_mono (F1.run _ X.stack _ _ ⟨Value.ref (hp.objs.size + 1) :: us, []⟩ (Value.ref (hp.objs.size + 1) :: us) _ _ (fun _ _ _ => False) (hr.make C us []) (I2.env0.make C us []) hbt r2 hq) fun r s' hq' => ?_))
  cases r with
  | error er => exact hx pins σ _ _ er s' I2 hq'
  | ok fl =>
    cases fl with
    | ret u =>
      obtain ⟨v, H2, os2, bare2, un2, hok2, rv, ev, d, fs, ea, ed, hd1, q2⟩ := hq'
      subst ev
      obtain ⟨h2, g2, d2, t2, os'⟩ := s'
      exact ⟨rv, mk_end (raises_own T.exC T.tyC) I1 hsz kk un2 hok2 os2 bare2 ea ed hd1 q2⟩
    | next => exact False.elim hq'
    | brk => exact False.elim hq'
    | cont => exact False.elim hq'
end
end L2

/-! R4 -/
/-! ### names and steps -/
namespace Rw
open PySem PySem.Spec PyProof.Rows L2
def top (i : Nat) : Stmt := PySem.Challenge.pw_takendown_k03_whole_bodies_judged.main.body.getD i (.Pass ⟨0, 0, 0, 0⟩)
theorem same_upd {H : Hp} {p : Addr} {o : HO} (h : H p = none) : Same H (upd H p o) := fun b x e => by
  rw [upd_ne (ne_of_none e h)]
  exact e
/-- for i, x in enumerate(tuple) -/
theorem for_enumT {K : PySem.W.Frag} {a : Addr} {xs : List V} {g : TG} {tb : TS} {D : Ends} {σ : L2.St} {H : Hp} (Pv : Nat → L2.St → Hp → Prop) (h0 : Pv 0 σ H) (hl : ∀ i σ H, i ≤ xs.length → Pv i σ H → SqT K H a xs)
    (hs : ∀ i x σ H T, xs[i]? = some x → Pv i σ H → H T = none → g (.ref T) σ (upd H T (.tup [.int (i : Nat), x])) fun σ2 H2 => tb { D with nx := Pv (i + 1), ct := Pv (i + 1), bk := D.nx } σ2 H2) (hd : ∀ σ H, Pv xs.length σ H → D.nx σ H) :
    ∃ W : Nat → Nat → L2.St → Hp → Prop, (∃ m, W 0 m σ H) ∧ ∀ i m σ H, W i m σ H →
      ((IteT K a).stop i H ∧ D.nx σ H) ∨ ((IteT K a).go i H ∧ ∃ N : L2.St → Hp → Prop, (∀ σ' H', N σ' H' → ∃ m', m' < m ∧ W (i + 1) m' σ' H') ∧ ∀ x H', (IteT K a).yld i H x H' → g x σ H' fun σ2 H2 => tb { D with nx := N, ct := N, bk := D.nx } σ2 H2) := by
  refine ⟨fun i m σ H => m = xs.length - i ∧ i ≤ xs.length ∧ Pv i σ H, ⟨xs.length, by simp, Nat.zero_le _, h0⟩, ?_⟩
  rintro i m σ H ⟨rfl, hi, p⟩
  have q := hl i σ H hi p
  by_cases hlt : i < xs.length
  · refine .inr ⟨⟨xs, xs[i], q, by simp [hlt]⟩, Pv (i + 1), fun σ' H' p' => ⟨xs.length - (i + 1), by omega, rfl, hlt, p'⟩, fun v H' y => ?_⟩
    obtain ⟨T, x, rfl, nT, rfl, hx⟩ := y
    exact hs i x σ H T (hx xs q) p nT
  · have e : i = xs.length := by omega
    subst e
    exact .inl ⟨⟨xs, q, rfl⟩, hd σ H p⟩
/-- [.. for c in text] -/
theorem lc_text {z : Str} {g : TG} {tt : TT} {te : TE} {vs : List Nat} {σ : L2.St} {H1 : Hp} {D : Addr} {Qd : Hp → Prop} (Pv : Nat → Hp → Prop) (h0 : Pv 0 (upd H1 D (.lst [])))
    (hs : ∀ i c H, z.cps[i]? = some c → Pv i H → g (.str ⟨#[c]⟩) (wipe σ vs) H fun σ2 H2 => wipe σ2 vs = wipe σ vs ∧ tt σ2 H2 fun b H3 =>
      if b = true then te σ2 H3 fun y H4 => ∃ acc, H4 D = some (.lst acc) ∧ acc.length < sizeLine ∧ Pv (i + 1) (upd H4 D (.lst (acc ++ [y]))) else Pv (i + 1) H3) (hd : ∀ H, Pv z.cps.size H → Qd H) :
    ∃ W : Nat → Nat → Hp → Prop, (∃ m, W 0 m (upd H1 D (.lst []))) ∧ ∀ i m H, W i m H →
      ((Its z).stop i H ∧ Qd H) ∨ ((Its z).go i H ∧ ∃ Nx : Hp → Prop, (∀ H', Nx H' → ∃ m', m' < m ∧ W (i + 1) m' H') ∧ ∀ x H', (Its z).yld i H x H' → g x (wipe σ vs) H' fun σ2 H2 => wipe σ2 vs = wipe σ vs ∧ tt σ2 H2 fun b H3 =>
        if b = true then te σ2 H3 fun y H4 => ∃ acc, H4 D = some (.lst acc) ∧ acc.length < sizeLine ∧ Nx (upd H4 D (.lst (acc ++ [y]))) else Nx H3) := by
  refine ⟨fun i m H => m = z.cps.size - i ∧ i ≤ z.cps.size ∧ Pv i H, ⟨z.cps.size, by simp, Nat.zero_le _, h0⟩, ?_⟩
  rintro i m H ⟨rfl, hi, p⟩
  by_cases hlt : i < z.cps.size
  · refine .inr ⟨hlt, Pv (i + 1), fun H' p' => ⟨z.cps.size - (i + 1), by omega, rfl, hlt, p'⟩, fun x H' y => ?_⟩
    obtain ⟨rfl, c, hc, rfl⟩ := y
    exact hs i c _ hc p
  · have e : i = z.cps.size := by omega
    subst e
    exact .inl ⟨Nat.le_refl _, hd H p⟩
/-- a sign from a to z -/
def letB (c : Nat) : Bool := if (!decide ([c] < [97])) = true then !decide ([122] < [c]) else false
def nameB (z : Str) : Bool := decide (1 ≤ z.length) && decide (z.length ≤ 8) && (z.cps.toList.map letB).all id
abbrev oddTys : List String := ["NoneType", "bool", "int", "list", "tuple", "dict"]
/-- any value, and whether it is a name -/
inductive NV (K : PySem.W.Frag) (H : Hp) : V → Bool → Prop
  | str (z : Str) : z.length ≤ 1000000 → NV K H (.str z) (nameB z)
  | other {v : V} {T : String} : TyX K H v (.type T) → T ∈ oddTys → NV K H v false
def spName (K : PySem.W.Frag) : Sp := fun vs H Q _ => ∃ (v : V) (b : Bool), vs = [v] ∧ NV K H v b ∧ ∀ H', Same H H' → Q (.bl b) H'
theorem len_codes (z : Str) : z.length = z.cps.size := rfl
section
variable {P : Program} {w : World} {K : PySem.W.Frag} {mg : Str → Option Value} {base : Heap}
abbrev sName : Stmt := top 14
theorem scName : FnScope ["value", "letter"] ["value"] (defScope sName) := ⟨rfl, rfl, rfl, by decide +kernel, rfl, by decide +kernel, by decide +kernel⟩
theorem ok_name {f : Addr} {fd : FuncData} (F : Fun K "is_name" "is_name" sName f fd) (m_isinstance : mg "isinstance" = none) (m_str : mg "str" = none) (m_len : mg "len" = none) (m_all : mg "all" = none) {tM : Tok} (mM : mg "MOST_LETTERS" = some (.int 8 tM)) :
    FnOk P w K mg base CX0 1 f fd ["value"] (spName K) := by
  refine F.ok scName (fun vs H Q E h => ?_) (fun cdv A outer s H vs Q E hr h => ?_)
  · obtain ⟨v, b, rfl, _⟩ := h
    rfl
  · obtain ⟨v, b, rfl, hv, q⟩ := h
    refine ⟨_, (pss_cons (ps_if (PW.pt (pw_or (pt_not (pt_val (pe_callB call_isi (by rfl) m_isinstance (by decide +kernel) (pa_cons (pv 0) (pa_cons (pe_bltn (v := .ty "str") (by rfl) m_str (by decide +kernel) rfl) pa_nil))))) (pw_or1 (pt_not (pt_chain op_le op_le pe_int (pe_callB call_len_str (by rfl) m_len PySem.boot_len (pa_cons (pv 0) pa_nil)) (pe_glob (v := .int 8) rfl mM ⟨_, rfl⟩))))))
       (pss_one (ps_ret pe_bl))
       pss_nil)
       (pss_one (ps_ret (pe_callB (cr_all rfl) (by rfl) m_all (by decide +kernel) (pa_cons (pe_lc (own := [("letter", 1)]) (g := gName 1) (tt := tYes) rfl scName.nd (pi_str (pv 0)) (blkOk_by (N := ["value", "letter"]) (sc := defScope sName) (by decide +kernel)) (fun _ _ _ _ _ => pg_name (i := 1) scName.nd rfl (Or.inl rfl)) (fun _ _ _ _ _ => pts_nil) (fun _ _ _ _ _ => (pe_chain op_le_str op_le_str pe_str (pv 1) pe_str))) pa_nil))))), ?_⟩
    cases hv with
    | @other _ T ty hT =>
      have kt : PySem.W.kitOne K (.type T) (.type "str") = some false := by
        simp only [oddTys, List.mem_cons, List.mem_nil_iff, or_false] at hT
        rcases hT with rfl | rfl | rfl | rfl | rfl | rfl <;> exact kit_ty (by decide +kernel)
      exact ⟨_, rfl, _, _, _, _, _, rfl, .ty _, ty, kt, _, rfl, iteT (iteT (q H (Same.refl H)))⟩
    | str z hz =>
      have kt : PySem.W.kitOne K (.type "str") (.type "str") = some true := kit_ty (by decide +kernel)
      have hz2 : z.length ≤ sizeLine := by
        rw [sizeLine_eq]
        omega
      refine ⟨_, rfl, _, _, _, _, _, rfl, .ty _, .base (.str z), kt, _, rfl, iteF ?_⟩
      refine ⟨_, rfl, z, rfl, hz2, _, _, rfl, rfl, _, rfl, ?_⟩
      refine ite2 (fun h1 => ?_) (fun h1 => ?_)
      · have h1' : (1 : Int) ≤ (z.length : Int) := of_decide_eq_true h1
        refine ⟨_, _, rfl, rfl, _, rfl, ?_⟩
        by_cases h2 : (z.length : Int) ≤ 8
        · refine iteNS h2 ?_
          refine ⟨_, rfl, z, rfl, fun D nD => lc_text (fun i H' => Same H H' ∧ H' D = some (.lst (((z.cps.toList.take i).map letB).map V.bl))) ⟨same_upd nD, upd_same⟩ ?_ ?_⟩
          · rintro i c H1 hc ⟨s1, e1⟩
            have hi : i < z.cps.size := (Array.getElem?_eq_some_iff.mp hc).1
            refine ⟨rfl, ?_⟩
            dsimp only [tYes]
            rw [if_pos rfl]
            have fin : ∀ y, y = V.bl (letB c) → ∃ acc, H1 D = some (.lst acc) ∧ acc.length < sizeLine ∧ Same H (upd H1 D (.lst (acc ++ [y]))) ∧ (upd H1 D (.lst (acc ++ [y]))) D = some (.lst (((z.cps.toList.take (i + 1)).map letB).map V.bl)) := by
              rintro y rfl
              refine ⟨_, e1, ?_, fun b o e => ?_, ?_⟩
              · rw [List.length_map, List.length_map, List.length_take, sizeLine_eq]
                have z1 : z.cps.toList.length = z.cps.size := Array.length_toList
                have z2 : z.length = z.cps.size := rfl
                omega
              · rw [upd_ne (ne_of_none e nD)]
                exact s1 b o e
              · have e3 : z.cps.toList[i]? = some c := by rw [Array.getElem?_toList]; exact hc
                rw [upd_same, List.take_add_one, e3, List.map_append, List.map_append]
                rfl
            refine ⟨_, rfl, _, _, rfl, rfl, _, rfl, ?_⟩
            by_cases h3 : (!decide ([c] < [97])) = true
            · refine (if_pos h3).mpr ?_
              refine ⟨_, _, rfl, rfl, fin _ ?_⟩
              unfold letB
              rw [if_pos h3]
              rfl
            · refine (if_neg h3).mpr ?_
              refine fin _ ?_
              unfold letB
              rw [if_neg h3]
          · rintro H1 ⟨s1, e1⟩
            have e2 : z.cps.toList.take z.cps.size = z.cps.toList := by
              rw [List.take_of_length_le]
              rw [Array.length_toList]
              exact Nat.le_refl _
            rw [e2] at e1
            refine ⟨D, _, rfl, .inl (.inl e1), ?_⟩
            have e3 : (z.cps.toList.map letB).all id = nameB z := by
              unfold nameB
              rw [decide_eq_true (show 1 ≤ z.length by omega), decide_eq_true (show z.length ≤ 8 by omega)]
              rfl
            rw [e3]
            exact q H1 s1
        · have e3 : nameB z = false := by
            unfold nameB
            rw [decide_eq_false (show ¬ z.length ≤ 8 by omega), Bool.and_false, Bool.false_and]
          have z := q H (Same.refl H)
          rw [e3] at z
          rw [decide_eq_false h2]
          exact iteT z
      · have h1' : ¬ (1 : Int) ≤ (z.length : Int) := fun e => h1 (decide_eq_true e)
        have e3 : nameB z = false := by
          unfold nameB
          rw [decide_eq_false (show ¬ 1 ≤ z.length by omega), Bool.false_and, Bool.false_and]
        have y := q H (Same.refl H)
        rw [e3] at y
        exact ⟨_, rfl, iteT y⟩
end
end Rw

/-! T1 -/
/-! ### is_step -/
namespace Rw
open PySem PySem.Spec PyProof.Rows L2
theorem tyx_tup {K : PySem.W.Frag} {H : Hp} {p : Addr} {xs : List V} (h : SqT K H p xs) : TyX K H (.ref p) (.type "tuple") := by
  rcases h with (h | ⟨o, h⟩) | ⟨o, its, n, hl, hc, r⟩
  · exact .base (.tup h)
  · exact .fTuple h
  · exact .kTuple hl hc
abbrev noTup : List String := ["NoneType", "bool", "int", "list", "str", "dict"]
/-- a def as it is called -/
def Called (K : PySem.W.Frag) (mg : Str → Option Value) (x : Str) (ps : List Str) (f : Addr) (fd : FuncData) : Prop := mg x = some (.ref f) ∧ PySem.W.keepIn K (.ref f) = true ∧ Binds K fd ps []
section
variable {P : Program} {w : World} {K : PySem.W.Frag} {mg : Str → Option Value} {base : Heap}
end
end Rw

/-! ### what is never come to; not in a tuple of data -/
namespace L2
open PySem PySem.Spec PyProof.Rows
def tDead : TE := fun _ _ _ => False
def sDead : TS := fun _ _ _ => False
theorem pe_dead {X : Cx} {e : Expr} : PE X e tDead := ⟨fun _ _ _ _ _ _ h => False.elim h⟩
theorem ps_dead {X : Cx} {st : Stmt} : PS X st sDead := ⟨fun _ _ _ _ _ _ h => False.elim h⟩
theorem pss_dead {X : Cx} {st : List Stmt} : PSs X st sDead := ⟨fun _ _ _ _ _ _ h => False.elim h⟩
def rNotInTD (K : PySem.W.Frag) : R2 := fun x y H Q => ∃ d ds, Dp K H x d ∧ Dp K H y (.tuple ds) ∧ SeqAt.shaped d = true ∧ SeqAt.shaped (.tuple ds) = true ∧ Q (.bl (!ds.any fun z => PyData.eqv z d)) H
theorem op_notInTD {X : Cx} (hu : X.A.units + 65 < cLine) : OpR X (compareOp .NotIn) (rNotInTD X.K) := by
  intro pins s σ H x y v u Q I rx ry h
  obtain ⟨d, ds, hd, he, sd, se, q⟩ := h
  obtain ⟨as, r1⟩ := Dp.reads I d x v hd rx
  obtain ⟨bs, r2⟩ := Dp.reads I (.tuple ds) y u he ry
  exact SeqAt.notIn_tuple_reads r2 r1 (SeqAt.canLay_of_shaped se) (SeqAt.canLay_of_shaped sd) (room_in_shaped sd hu) ⟨.bl _, H, I, rfl, q⟩
theorem Room.units65 {k : Nat} {A : Around} (r : Room k A) : A.units + 65 < cLine := by have := r.un; omega
theorem Same.tupS {K : PySem.W.Frag} {H H' : Hp} {a : Addr} {xs : List V} (e : Same H H') (h : SqT K H a xs) : SqT K H' a xs := h.ext e
end L2
/-! ### steps, and the locks behind them -/
namespace Rw
open PySem PySem.Spec PyProof.Rows L2
abbrev Step := Str × Str
inductive All2 {α β : Type} (R : α → β → Prop) : List α → List β → Prop
  | nil : All2 R [] []
  | cons {a : α} {b : β} {as : List α} {bs : List β} : R a b → All2 R as bs → All2 R (a :: as) (b :: bs)
theorem All2.length {α β : Type} {R : α → β → Prop} {as : List α} {bs : List β} (h : All2 R as bs) : as.length = bs.length := by
  induction h with
  | nil => rfl
  | cons _ _ ih => exact congrArg (· + 1) ih
theorem All2.get {α β : Type} {R : α → β → Prop} {as : List α} {bs : List β} (h : All2 R as bs) : ∀ {i : Nat} {a : α}, as[i]? = some a → ∃ b, bs[i]? = some b ∧ R a b := by
  induction h with
  | nil => intro i a e; cases e
  | cons r _ ih =>
    intro i a e
    cases i with
    | zero => cases e; exact ⟨_, rfl, r⟩
    | succ i => exact ih e
theorem All2.mono {α β : Type} {R S : α → β → Prop} (f : ∀ a b, R a b → S a b) {as : List α} {bs : List β} (h : All2 R as bs) : All2 S as bs := by
  induction h with
  | nil => exact .nil
  | cons r _ ih => exact .cons (f _ _ r) ih
theorem All2.append {α β : Type} {R : α → β → Prop} {as as' : List α} {bs bs' : List β} (h : All2 R as bs) (h' : All2 R as' bs') : All2 R (as ++ as') (bs ++ bs') := by
  induction h with
  | nil => exact h'
  | cons r _ ih => exact .cons r ih
theorem All2.drop {α β : Type} {R : α → β → Prop} {as : List α} {bs : List β} (h : All2 R as bs) : ∀ n, All2 R (as.drop n) (bs.drop n) := by
  induction h with
  | nil => intro n; simp only [List.drop_nil]; exact .nil
  | cons r t ih =>
    intro n
    cases n with
    | zero => exact .cons r t
    | succ n => exact ih n
theorem All2.take {α β : Type} {R : α → β → Prop} {as : List α} {bs : List β} (h : All2 R as bs) : ∀ n, All2 R (as.take n) (bs.take n) := by
  induction h with
  | nil => intro n; simp only [List.take_nil]; exact .nil
  | cons r t ih =>
    intro n
    cases n with
    | zero => exact .nil
    | succ n => exact .cons r (ih n)
def StepAt (K : PySem.W.Frag) (H : Hp) (v : V) (s : Step) : Prop := ∃ p, v = .ref p ∧ SqT K H p [.str s.1, .str s.2]
def StepsAt (K : PySem.W.Frag) (H : Hp) : List V → List Step → Prop := All2 (StepAt K H)
def TxtT (K : PySem.W.Frag) (H : Hp) (v : V) (ns : List Str) : Prop := ∃ p, v = .ref p ∧ SqT K H p (ns.map V.str)
theorem StepAt.same {K : PySem.W.Frag} {H H' : Hp} (e : Same H H') {v : V} {s : Step} (h : StepAt K H v s) : StepAt K H' v s := let ⟨p, q, r⟩ := h; ⟨p, q, e.tupS r⟩
theorem StepsAt.same {K : PySem.W.Frag} {H H' : Hp} (e : Same H H') {vs : List V} {ss : List Step} (h : StepsAt K H vs ss) : StepsAt K H' vs ss := by
  exact h.mono fun _ _ a => a.same e
theorem TxtT.same {K : PySem.W.Frag} {H H' : Hp} (e : Same H H') {v : V} {s : List Str} (h : TxtT K H v s) : TxtT K H' v s := let ⟨p, q, r⟩ := h; ⟨p, q, e.tupS r⟩
theorem dec_str {a b : Str} : decide (V.str a = V.str b) = decide (a = b) := by
  by_cases h : a = b
  · rw [h, decide_eq_true rfl, decide_eq_true rfl]
  · rw [decide_eq_false h, decide_eq_false (fun e => h (V.str.inj e))]
theorem sIx_m1 (n d : Nat) : HT.sIx n d (some (-1)) = n - 1 := by
  show (if (-1 : Int) < 0 then ((-1 : Int) + (n : Int)).toNat else min (-1 : Int).toNat n) = n - 1
  rw [if_pos (by decide)]
  omega
theorem cut_m1 (xs : List V) : cutV xs none (some (-1)) = xs.dropLast := by
  show (xs.drop (HT.sIx xs.length 0 none)).take (HT.sIx xs.length xs.length (some (-1)) - HT.sIx xs.length 0 none) = xs.dropLast
  rw [sIx_m1]
  show (xs.drop 0).take (xs.length - 1 - 0) = _
  rw [List.drop_zero, Nat.sub_zero, List.dropLast_eq_take]
section
variable {P : Program} {w : World} {K : PySem.W.Frag} {mg : Str → Option Value} {base : Heap}
end
end Rw

/-! ### the locks along the steps -/
namespace Rw
open PySem PySem.Spec PyProof.Rows L2
theorem sqT_updL {K : PySem.W.Frag} {H : Hp} {o a : Addr} {ys xs : List V} {u : HO} (ho : H o = some (.lst ys)) (h : SqT K H a xs) : SqT K (upd H o u) a xs := by
  rcases h with (h | ⟨ob, h⟩) | h
  · exact .inl (.inl (by rw [upd_ne (fun e => by rw [e, ho] at h; cases h)]; exact h))
  · exact .inl (.inr ⟨ob, by rw [upd_ne (fun e => by rw [e, ho] at h; cases h)]; exact h⟩)
  · exact .inr h
theorem TxtT.updL {K : PySem.W.Frag} {H : Hp} {o : Addr} {ys : List V} {v : V} {ns : List Str} {u : HO} (ho : H o = some (.lst ys)) (h : TxtT K H v ns) : TxtT K (upd H o u) v ns := let ⟨p, e, q⟩ := h; ⟨p, e, sqT_updL ho q⟩
theorem same_updN {H H' : Hp} {o : Addr} {u : HO} (no : H o = none) (s : Same H H') : Same H (upd H' o u) := fun b z e => by
  rw [upd_ne (ne_of_none e no)]
  exact s b z e
theorem take_snoc {α : Type} {xs : List α} {i : Nat} {x : α} (h : xs[i]? = some x) : xs.take (i + 1) = xs.take i ++ [x] := by
  rw [List.take_add_one, h]
  rfl
section
variable {P : Program} {w : World} {K : PySem.W.Frag} {mg : Str → Option Value} {base : Heap}
end
end Rw

/-! ### which step takes or gives wrongly -/
namespace Rw
open PySem PySem.Spec PyProof.Rows L2
def txtD (ns : List Str) : PyData := .tuple (ns.map PyData.str)
def stepD (s : Step) : PyData := .tuple [.str s.1, .str s.2]
theorem eqvAll_txt : ∀ as bs : List Str, PyData.eqvAll (as.map PyData.str) (bs.map PyData.str) = decide (as = bs)
  | [], [] => rfl
  | [], b :: bs => by rw [decide_eq_false (by simp)]; rfl
  | a :: as, [] => by rw [decide_eq_false (by simp)]; rfl
  | a :: as, b :: bs => by
    show (a == b && PyData.eqvAll (as.map PyData.str) (bs.map PyData.str)) = _
    rw [eqvAll_txt as bs]
    by_cases h : a = b
    · subst h
      rw [beq_self_eq_true, Bool.true_and]
      by_cases h2 : as = bs
      · subst h2
        rw [decide_eq_true rfl, decide_eq_true rfl]
      · rw [decide_eq_false h2, decide_eq_false (fun e => h2 (List.cons.inj e).2)]
    · rw [beq_eq_false_iff_ne.mpr h, Bool.false_and, decide_eq_false (fun e => h (List.cons.inj e).1)]
theorem eqv_txt (as bs : List Str) : PyData.eqv (txtD as) (txtD bs) = decide (as = bs) := by
  unfold txtD
  rw [show PyData.eqv (.tuple (as.map PyData.str)) (.tuple (bs.map PyData.str)) = PyData.eqvAll (as.map PyData.str) (bs.map PyData.str) by simp only [PyData.eqv]]
  exact eqvAll_txt as bs
theorem stepD_txt (s : Step) : stepD s = txtD [s.1, s.2] := rfl
theorem eqv_step (s t : Step) : PyData.eqv (stepD s) (stepD t) = decide (s = t) := by
  rw [stepD_txt, stepD_txt, eqv_txt]
  by_cases h : s = t
  · subst h
    rw [decide_eq_true rfl, decide_eq_true rfl]
  · rw [decide_eq_false h, decide_eq_false]
    intro e
    have e1 := (List.cons.inj e).1
    have e2 := (List.cons.inj (List.cons.inj e).2).1
    exact h (Prod.ext e1 e2)
theorem any_step (ss : List Step) (t : Step) : (ss.map stepD).any (fun z => PyData.eqv z (stepD t)) = decide (t ∈ ss) := by
  induction ss with
  | nil => rw [decide_eq_false (by simp)]; rfl
  | cons s ss ih =>
    rw [List.map_cons, List.any_cons, ih, eqv_step]
    by_cases h : s = t
    · subst h
      rw [decide_eq_true rfl, decide_eq_true List.mem_cons_self, Bool.true_or]
    · rw [decide_eq_false h, Bool.false_or]
      by_cases h2 : t ∈ ss
      · rw [decide_eq_true h2, decide_eq_true (List.mem_cons_of_mem _ h2)]
      · rw [decide_eq_false h2, decide_eq_false]
        intro e
        rcases List.mem_cons.mp e with e | e
        · exact h e.symm
        · exact h2 e
abbrev sOk (n : Str) : Prop := PyData.strOk n = true
theorem txt_lay : ∀ ns : List Str, (∀ n ∈ ns, sOk n) → PyData.canLayAll0 (ns.map PyData.str) = true ∧ PyData.depthAll (ns.map PyData.str) = 0
  | [], _ => ⟨rfl, rfl⟩
  | n :: ns, h => by
    obtain ⟨a, b⟩ := txt_lay ns (fun x hx => h x (List.mem_cons_of_mem _ hx))
    refine ⟨?_, ?_⟩
    · show (PyData.canLay0 (.str n) && PyData.canLayAll0 (ns.map PyData.str)) = true
      rw [a, Bool.and_true]
      have e : PyData.canLay0 (.str n) = PyData.strOk n := by simp only [PyData.canLay0]
      rw [e]
      exact h n List.mem_cons_self
    · show max (PyData.depth (.str n)) (PyData.depthAll (ns.map PyData.str)) = 0
      have e : PyData.depth (.str n) = 0 := by simp only [PyData.depth]
      rw [b, e]
      rfl
theorem shaped_of {d : PyData} (h1 : d.canLay0 = true) (h2 : d.depth ≤ 64) : SeqAt.shaped d = true := by
  show (d.canLay0 && decide (d.depth ≤ 64)) = true
  rw [h1, decide_eq_true h2]
  rfl
theorem txtD_lay {ns : List Str} (h : ∀ n ∈ ns, sOk n) : (txtD ns).canLay0 = true ∧ (txtD ns).depth = 1 := by
  obtain ⟨a, b⟩ := txt_lay ns h
  unfold txtD
  simp only [PyData.canLay0, PyData.depth]
  rw [a, b]
  exact ⟨rfl, rfl⟩
theorem txtD_shaped {ns : List Str} (h : ∀ n ∈ ns, sOk n) : SeqAt.shaped (txtD ns) = true := by
  obtain ⟨a, b⟩ := txtD_lay h
  exact shaped_of a (by omega)
theorem dp_txts {K : PySem.W.Frag} {H : Hp} : ∀ ns : List Str, DpAll K H (ns.map V.str) (ns.map PyData.str)
  | [] => .nil
  | n :: ns => .cons (.str n) (dp_txts ns)
theorem TxtT.dp {K : PySem.W.Frag} {H : Hp} {v : V} {ns : List Str} (h : TxtT K H v ns) : Dp K H v (txtD ns) := by
  obtain ⟨p, rfl, q⟩ := h
  exact .tup q (dp_txts ns)
theorem StepAt.dp {K : PySem.W.Frag} {H : Hp} {v : V} {s : Step} (h : StepAt K H v s) : Dp K H v (stepD s) := by
  obtain ⟨p, rfl, q⟩ := h
  exact .tup q (dp_txts [s.1, s.2])
theorem StepsAt.dp {K : PySem.W.Frag} {H : Hp} {xs : List V} {ss : List Step} (h : StepsAt K H xs ss) : DpAll K H xs (ss.map stepD) := by
  unfold StepsAt at h
  induction h with
  | nil => exact .nil
  | cons a _ ih => exact .cons a.dp ih
theorem inV_txt (n : Str) : ∀ ns : List Str, inV (.str n) (ns.map V.str) = decide (n ∈ ns)
  | [] => by rw [decide_eq_false (by simp)]; rfl
  | m :: ns => by
    have e : inV (.str n) ((m :: ns).map V.str) = ((m == n) || inV (.str n) (ns.map V.str)) := rfl
    rw [e, inV_txt n ns]
    by_cases h : m = n
    · subst h
      rw [beq_self_eq_true, Bool.true_or, decide_eq_true List.mem_cons_self]
    · rw [beq_eq_false_iff_ne.mpr h, Bool.false_or]
      by_cases h2 : n ∈ ns
      · rw [decide_eq_true h2, decide_eq_true (List.mem_cons_of_mem _ h2)]
      · rw [decide_eq_false h2, decide_eq_false]
        intro z
        rcases List.mem_cons.mp z with z | z
        · exact h z.symm
        · exact h2 z
theorem flat_txt : ∀ ns : List Str, (ns.map V.str).all flatV = true
  | [] => rfl
  | n :: ns => by
    show (flatV (.str n) && (ns.map V.str).all flatV) = true
    rw [flat_txt ns]
    rfl
/-- a + b of tuples of texts -/
theorem cat_txt {K : PySem.W.Frag} {H : Hp} {u v : V} {as bs : List Str} {Q : VK} (ha : TxtT K H u as) (hb : TxtT K H v bs) (hl : as.length + bs.length ≤ 1000) (q : ∀ H' u, Same H H' → TxtT K H' u (as ++ bs) → Q u H') : rCatA K u v H Q := by
  obtain ⟨a, rfl, ha⟩ := ha
  obtain ⟨b, rfl, hb⟩ := hb
  refine ⟨a, b, _, _, rfl, rfl, ha, hb, ?_, fun e => ?_, fun _ e => ?_, fun _ _ p np => ?_⟩
  · rw [List.length_map, List.length_map, sizeLine_eq]
    omega
  · have e2 : as = [] := List.map_eq_nil_iff.mp e
    subst e2
    exact q H _ (Same.refl H) ⟨b, rfl, hb⟩
  · have e2 : bs = [] := List.map_eq_nil_iff.mp e
    subst e2
    rw [List.append_nil] at q
    exact q H _ (Same.refl H) ⟨a, rfl, ha⟩
  · refine q _ _ (same_upd np) ⟨p, rfl, SqT.of ?_⟩
    rw [upd_same, List.map_append]
/-- t[-1:] of a tuple of texts -/
theorem last_txt {K : PySem.W.Frag} {H : Hp} {u : V} {ns : List Str} {Q : VK} (h : TxtT K H u ns) (q : ∀ H' u, Same H H' → TxtT K H' u (ns.drop (ns.length - 1)) → Q u H') : rSlA K u (some (-1)) none H Q := by
  obtain ⟨a, rfl, h⟩ := h
  have e1 : HT.sIx (ns.map V.str).length 0 (some (-1)) = ns.length - 1 := by rw [List.length_map]; exact sIx_m1 _ _
  refine ⟨a, _, rfl, h, fun c => ?_, fun c u nu => ?_⟩
  · have c1 := c.1
    rw [e1] at c1
    rw [c1, List.drop_zero] at q
    exact q H _ (Same.refl H) ⟨a, rfl, h⟩
  · refine q _ _ (same_upd nu) ⟨u, rfl, SqT.of ?_⟩
    rw [upd_same]
    have e2 : cutV (ns.map V.str) (some (-1)) none = (ns.drop (ns.length - 1)).map V.str := by
      show ((ns.map V.str).drop (HT.sIx (ns.map V.str).length 0 (some (-1)))).take (HT.sIx (ns.map V.str).length (ns.map V.str).length none - HT.sIx (ns.map V.str).length 0 (some (-1))) = _
      rw [e1, List.map_drop]
      show ((ns.map V.str).drop (ns.length - 1)).take ((ns.map V.str).length - (ns.length - 1)) = _
      rw [List.take_of_length_le]
      rw [List.length_drop]
      exact Nat.le_refl _
    rw [e2]
section
variable {P : Program} {w : World} {K : PySem.W.Frag} {mg : Str → Option Value} {base : Heap}
end
end Rw

/-! ### the steps that take or give wrongly -/
namespace Rw
open PySem PySem.Spec PyProof.Rows L2
/-- t[i + 1:] -/
theorem tail_tup {K : PySem.W.Frag} {H : Hp} {p : Addr} {xs : List V} {i : Nat} {Q : VK} (h : SqT K H p xs) (hi : i < xs.length) (q : ∀ H' u, Same H H' → SqT K H' u (xs.drop (i + 1)) → Q (.ref u) H') : rSlA K (.ref p) (some ((i : Int) + 1)) none H Q := by
  have e1 : HT.sIx xs.length 0 (some ((i : Int) + 1)) = i + 1 := by
    have z := HT.sIx_nat xs.length 0 (i + 1)
    rw [show (((i + 1 : Nat) : Int)) = (i : Int) + 1 by omega] at z
    rw [z]
    omega
  refine ⟨p, _, rfl, h, fun c => ?_, fun c u nu => ?_⟩
  · have c1 := c.1
    rw [e1] at c1
    omega
  · refine q _ _ (same_upd nu) (SqT.of ?_)
    rw [upd_same]
    have e2 : cutV xs (some ((i : Int) + 1)) none = xs.drop (i + 1) := by
      show (xs.drop (HT.sIx xs.length 0 (some ((i : Int) + 1)))).take (HT.sIx xs.length xs.length none - HT.sIx xs.length 0 (some ((i : Int) + 1))) = _
      rw [e1]
      show (xs.drop (i + 1)).take (xs.length - (i + 1)) = _
      rw [List.take_of_length_le]
      rw [List.length_drop]
      exact Nat.le_refl _
    rw [e2]
section
variable {P : Program} {w : World} {K : PySem.W.Frag} {mg : Str → Option Value} {base : Heap}
end
end Rw

/-! ### values that stay what they are; an own error raised -/
namespace Rw
open PySem PySem.Spec PyProof.Rows L2
theorem TyX_same {K : PySem.W.Frag} {H H' : Hp} (e : Same H H') {v : V} {t : Value} (h : TyX K H v t) : TyX K H' v t := by
  cases h with
  | base h =>
    cases h with
    | non => exact .base .non
    | bl x => exact .base (.bl x)
    | int i => exact .base (.int i)
    | str x => exact .base (.str x)
    | flt x => exact .base (.flt x)
    | lst h => exact .base (.lst (e _ _ h))
    | frz h => exact .base (.frz (e _ _ h))
    | tup h => exact .base (.tup (e _ _ h))
    | dK h => exact .base (.dK (e _ _ h))
    | dT h => exact .base (.dT (e _ _ h))
    | ins h a b c d f => exact .base (.ins (e _ _ h) a b c d f)
  | byt b => exact .byt b
  | set h => exact .set (e _ _ h)
  | kList h c => exact .kList h c
  | kTuple h c => exact .kTuple h c
  | kDict h c => exact .kDict h c
  | fTuple h => exact .fTuple (e _ _ h)
  | fDict h => exact .fDict (e _ _ h)
theorem NV.same {K : PySem.W.Frag} {H H' : Hp} (e : Same H H') {v : V} {b : Bool} (h : NV K H v b) : NV K H' v b := by
  cases h with
  | str z hz => exact .str z hz
  | other t m => exact .other (TyX_same e t) m
/-- for i, x in enumerate(list) -/
theorem for_enum {K : PySem.W.Frag} {a : Addr} {xs : List V} {g : TG} {tb : TS} {D : Ends} {σ : L2.St} {H : Hp} (Pv : Nat → L2.St → Hp → Prop) (h0 : Pv 0 σ H) (hl : ∀ i σ H, i ≤ xs.length → Pv i σ H → SqL K H a xs)
    (hs : ∀ i x σ H T, xs[i]? = some x → Pv i σ H → H T = none → g (.ref T) σ (upd H T (.tup [.int (i : Nat), x])) fun σ2 H2 => tb { D with nx := Pv (i + 1), ct := Pv (i + 1), bk := D.nx } σ2 H2) (hd : ∀ σ H, Pv xs.length σ H → D.nx σ H) :
    ∃ W : Nat → Nat → L2.St → Hp → Prop, (∃ m, W 0 m σ H) ∧ ∀ i m σ H, W i m σ H →
      ((Ite K a).stop i H ∧ D.nx σ H) ∨ ((Ite K a).go i H ∧ ∃ N : L2.St → Hp → Prop, (∀ σ' H', N σ' H' → ∃ m', m' < m ∧ W (i + 1) m' σ' H') ∧ ∀ x H', (Ite K a).yld i H x H' → g x σ H' fun σ2 H2 => tb { D with nx := N, ct := N, bk := D.nx } σ2 H2) := by
  refine ⟨fun i m σ H => m = xs.length - i ∧ i ≤ xs.length ∧ Pv i σ H, ⟨xs.length, by simp, Nat.zero_le _, h0⟩, ?_⟩
  rintro i m σ H ⟨rfl, hi, p⟩
  have q := hl i σ H hi p
  by_cases hlt : i < xs.length
  · refine .inr ⟨⟨xs, xs[i], q, by simp [hlt]⟩, Pv (i + 1), fun σ' H' p' => ⟨xs.length - (i + 1), by omega, rfl, hlt, p'⟩, fun v H' y => ?_⟩
    obtain ⟨T, x, rfl, nT, rfl, hx⟩ := y
    exact hs i x σ H T (hx xs q) p nT
  · have e : i = xs.length := by omega
    subst e
    exact .inl ⟨⟨xs, q, Nat.le_refl _⟩, hd σ H p⟩
def SameBut (a : Addr) (H H' : Hp) : Prop := ∀ b o, b ≠ a → H b = some o → H' b = some o
def spR1 (K : PySem.W.Frag) (n : Str) : Sp := fun vs H Q _ => ∃ (a C fI : Addr) (v : V), vs = [.ref a, v] ∧ OexG K C fI ∧ PySem.W.findIn K (.ref C) n = some none ∧ H a = some (exo a C none) ∧
  ∀ H' d, SameBut a H H' → H' a = some (exo a C (some d)) → H' d = some (exd d [(n, v)]) → H d = none → d ≠ a → Q .non H'
/-- what a raise of it leaves -/
def Left (H : Hp) (n : Str) (v : V) (d : Addr) (H' : Hp) : Prop := Same H H' ∧ H d = none ∧ H' d = some (.xd [(n, v)])
theorem Left.before {H0 H H' : Hp} {n : Str} {v : V} {d : Addr} (s : Same H0 H) (h : Left H n v d H') : Left H0 n v d H' := ⟨s.trans h.1, s.free h.2.1, h.2.2⟩
theorem raise1 {K : PySem.W.Frag} {C fI a : Addr} {H : Hp} {n : Str} {v : V} {Q : XK} (T : OexG K C fI) (no : PySem.W.findIn K (.ref C) n = some none) (na : H a = none) (q : ∀ d H', Left H n v d H' → Q (.ref C) (some d) H') :
    spR1 K n [.ref a, v] (upd H a (exo a C none)) (fun u H2 => u = .non ∧ ∃ (d : Addr) (fs : List (Str × V)), H2 a = some (exo a C (some d)) ∧ H2 d = some (exd d fs) ∧ H d = none ∧ Q (.ref C) (some d) (upd (del H2 a) d (.xd fs))) (fun _ _ _ => False) := by
  refine ⟨a, C, fI, v, rfl, T, no, upd_same, fun H' d sb e1 e2 nd ne => ⟨rfl, d, _, e1, e2, ?_, q _ _ ⟨fun b o hb => ?_, ?_, upd_same⟩⟩⟩
  · rw [upd_ne ne] at nd
    exact nd
  · have hb1 : b ≠ a := ne_of_none hb na
    rw [upd_ne ne] at nd
    rw [upd_ne (ne_of_none hb nd), del_ne hb1]
    exact sb b o hb1 (by rw [upd_ne hb1]; exact hb)
  · rw [upd_ne ne] at nd
    exact nd
structure Er (P : Program) (w : World) (K : PySem.W.Frag) (mg : Str → Option Value) (base : Heap) (x n : Str) (C fI : Addr) (fd : FuncData) : Prop where
  g : mg x = some (.ref C)
  o : OexG K C fI
  no : PySem.W.findIn K (.ref C) n = some none
  F : FnOk P w K mg base CX0 1 fI fd ["self", n] (spR1 K n)
  b : Binds K fd ["self", n] []
theorem all_some {α : Type} : ∀ rs : List (Option α), (∀ j, j < rs.length → ∃ s, rs[j]? = some (some s)) → ∃ ss : List α, rs = ss.map some
  | [], _ => ⟨[], rfl⟩
  | r :: rs, h => by
    obtain ⟨s, e⟩ := h 0 (Nat.zero_lt_succ _)
    obtain ⟨ss, rfl⟩ := all_some rs fun j hj => h (j + 1) (Nat.succ_lt_succ hj)
    cases e
    exact ⟨s :: ss, rfl⟩
section
variable {P : Program} {w : World} {K : PySem.W.Frag} {mg : Str → Option Value} {base : Heap}
end
end Rw

/-! ### rows made, added, listed -/
namespace Rw
open PySem PySem.Spec PyProof.Rows L2
theorem passX {P : Program} {w : World} {K : PySem.W.Frag} {mg : Str → Option Value} {base : Heap} {N : List Str} {q : Str} {sc : Scope} {f : Addr} {cdv : Value} {A : Around} {outer : List Env} {s : Shared} {H : Hp} {E : XK} :
    Passes (L2.CX P w) (cxOf (L2.CX P w) P w K mg base N q sc f cdv A outer s H E) E := passes_call (takes_of rfl rfl rfl rfl) fun _ _ _ _ h => h
theorem but_of {x : Addr} {H H' : Hp} (s : Same H H') : SameBut x H H' := fun b o _ e => s b o e
theorem SameBut.trans {x : Addr} {H H1 H2 : Hp} (a : SameBut x H H1) (b : SameBut x H1 H2) : SameBut x H H2 := fun c o n e => b c o n (a c o n e)
theorem but_upd {x : Addr} {H : Hp} {u : HO} : SameBut x H (upd H x u) := fun b o n e => by
  rw [upd_ne n]
  exact e
theorem ne_of_ins {H : Hp} {x C dx a : Addr} {fs : List (Str × V)} {ys : List V} (hx : H x = some (.ins C dx fs)) (ha : H a = some (.lst ys)) : a ≠ x := fun e => by
  rw [e, hx] at ha
  cases ha
theorem sqT_but {K : PySem.W.Frag} {H H' : Hp} {x C dx a : Addr} {fs : List (Str × V)} {xs : List V} (b : SameBut x H H') (hx : H x = some (.ins C dx fs)) (h : SqT K H a xs) : SqT K H' a xs := by
  rcases h with (h | ⟨ob, h⟩) | h
  · exact .inl (.inl (b _ _ (fun e => by rw [e, hx] at h; cases h) h))
  · exact .inl (.inr ⟨ob, b _ _ (fun e => by rw [e, hx] at h; cases h) h⟩)
  · exact .inr h
section
variable {P : Program} {w : World} {K : PySem.W.Frag} {mg : Str → Option Value} {base : Heap}
end
end Rw

/-! ### rows made of tuples, added, listed -/
namespace Rw
open PySem PySem.Spec PyProof.Rows L2
theorem cat_any {K : PySem.W.Frag} {H : Hp} {a b : Addr} {xs ys : List V} {Q : VK} (ha : SqT K H a xs) (hb : SqT K H b ys) (hl : xs.length + ys.length ≤ 1000) (q : ∀ H' p, Same H H' → SqT K H' p (xs ++ ys) → Q (.ref p) H') : rCatA K (.ref a) (.ref b) H Q := by
  refine ⟨a, b, _, _, rfl, rfl, ha, hb, ?_, fun e => ?_, fun _ e => ?_, fun _ _ p np => ?_⟩
  · rw [sizeLine_eq]
    omega
  · subst e
    exact q H _ (Same.refl H) hb
  · subst e
    rw [List.append_nil] at q
    exact q H _ (Same.refl H) ha
  · exact q _ _ (same_upd np) (SqT.of upd_same)
section
variable {P : Program} {w : World} {K : PySem.W.Frag} {mg : Str → Option Value} {base : Heap}
end
end Rw

/-! ### what the law draws -/
namespace Rw
open PySem PySem.Spec PyProof.Rows L2
/-- the pool at o -/
def PoolAt (H : Hp) (o q : Addr) : Prop := ∃ (at_ : Nat) (ns : List Int), H o = some (.lst [.ref q, .int (at_ : Nat)]) ∧ q ≠ o ∧ H q = some (.lst (ns.map V.int)) ∧ ns.length ≤ 1000 ∧ ∀ n ∈ ns, 0 ≤ n ∧ n < 1000
theorem PoolAt.same {H H' : Hp} {o q : Addr} (e : Same H H') (h : PoolAt H o q) : PoolAt H' o q := let ⟨a, ns, h1, h2, h3, h4⟩ := h; ⟨a, ns, e _ _ h1, h2, e _ _ h3, h4⟩
def spPool (K : PySem.W.Frag) : Sp := fun vs H Q _ => ∃ (cell salt many : Int), vs = [.int cell, .int salt, .int many] ∧ 0 ≤ salt ∧ salt ≤ 1000000 ∧ 0 ≤ many ∧ many ≤ 400 ∧ ∀ H' o q, Same H H' → H o = none → PoolAt H' o q → Q (.ref o) H'
def spDraw (K : PySem.W.Frag) : Sp := fun vs H Q _ => ∃ (o q : Addr) (many : Int), vs = [.ref o, .int many] ∧ PoolAt H o q ∧ 1 ≤ many ∧ many ≤ 1000 ∧ ∀ H' n, SameBut o H H' → PoolAt H' o q → 0 ≤ n → n < many → Q (.int n) H'
def spPick (K : PySem.W.Frag) : Sp := fun vs H Q _ => ∃ (o q l : Addr) (xs : List V), vs = [.ref o, .ref l] ∧ PoolAt H o q ∧ l ≠ o ∧ SqL K H l xs ∧ xs ≠ [] ∧ xs.length ≤ 1000 ∧ ∀ H' x, SameBut o H H' → PoolAt H' o q → x ∈ xs → Q x H'
def spTruth (K : PySem.W.Frag) : Sp := fun vs H Q _ => ∃ a b : Bool, vs = [.bl a, .bl b] ∧ ∀ H', Same H H' → Q (.bl (decide (a = b))) H'
theorem sqL_but {K : PySem.W.Frag} {H H' : Hp} {x a : Addr} {xs : List V} (b : SameBut x H H') (n : a ≠ x) (h : SqL K H a xs) : SqL K H' a xs := by
  rcases h with (h | ⟨ob, h⟩) | h
  · exact .inl (.inl (b _ _ n h))
  · exact .inl (.inr ⟨ob, b _ _ n h⟩)
  · exact .inr h
section
variable {P : Program} {w : World} {K : PySem.W.Frag} {mg : Str → Option Value} {base : Heap}
end
end Rw

/-! ### what the law expects of a list -/
namespace Rw
open PySem PySem.Spec PyProof.Rows L2
/-- [.. for i, x in enumerate(list)] -/
theorem lc_enum {K : PySem.W.Frag} {a : Addr} {xs : List V} {g : TG} {tt : TT} {te : TE} {vs : List Nat} {σ : L2.St} {H1 : Hp} {D : Addr} {Qd : Hp → Prop} (Pv : Nat → Hp → Prop) (h0 : Pv 0 (upd H1 D (.lst []))) (hl : ∀ i H, i ≤ xs.length → Pv i H → SqL K H a xs)
    (hs : ∀ i x H T, xs[i]? = some x → Pv i H → H T = none → g (.ref T) (wipe σ vs) (upd H T (.tup [.int (i : Nat), x])) fun σ2 H2 => wipe σ2 vs = wipe σ vs ∧ tt σ2 H2 fun b H3 =>
      if b = true then te σ2 H3 fun y H4 => ∃ acc, H4 D = some (.lst acc) ∧ acc.length < sizeLine ∧ Pv (i + 1) (upd H4 D (.lst (acc ++ [y]))) else Pv (i + 1) H3) (hd : ∀ H, Pv xs.length H → Qd H) :
    ∃ W : Nat → Nat → Hp → Prop, (∃ m, W 0 m (upd H1 D (.lst []))) ∧ ∀ i m H, W i m H →
      ((Ite K a).stop i H ∧ Qd H) ∨ ((Ite K a).go i H ∧ ∃ Nx : Hp → Prop, (∀ H', Nx H' → ∃ m', m' < m ∧ W (i + 1) m' H') ∧ ∀ x H', (Ite K a).yld i H x H' → g x (wipe σ vs) H' fun σ2 H2 => wipe σ2 vs = wipe σ vs ∧ tt σ2 H2 fun b H3 =>
        if b = true then te σ2 H3 fun y H4 => ∃ acc, H4 D = some (.lst acc) ∧ acc.length < sizeLine ∧ Nx (upd H4 D (.lst (acc ++ [y]))) else Nx H3) := by
  refine ⟨fun i m H => m = xs.length - i ∧ i ≤ xs.length ∧ Pv i H, ⟨xs.length, by simp, Nat.zero_le _, h0⟩, ?_⟩
  rintro i m H ⟨rfl, hi, p⟩
  have q := hl i H hi p
  by_cases hlt : i < xs.length
  · refine .inr ⟨⟨xs, xs[i], q, by simp [hlt]⟩, Pv (i + 1), fun H' p' => ⟨xs.length - (i + 1), by omega, rfl, hlt, p'⟩, fun v H' y => ?_⟩
    obtain ⟨T, x, rfl, nT, rfl, hx⟩ := y
    exact hs i x H T (hx xs q) p nT
  · have e : i = xs.length := by omega
    subst e
    exact .inl ⟨⟨xs, q, Nat.le_refl _⟩, hd H p⟩
section
variable {P : Program} {w : World} {K : PySem.W.Frag} {mg : Str → Option Value} {base : Heap}
end
end Rw


/-! T2 -/
/-! ### repr of any data, where no repr is under way -/
namespace L2
open PySem PySem.Spec PyProof.Rows
/-- what repr(x) asks -/
def rReprD (K : PySem.W.Frag) : List V → Hp → VK → Prop := fun xs H Q => ∃ (x : V) (d : PyData), xs = [x] ∧ Dq K H x d ∧ (d.hasDict = false ∨ d = .dict []) ∧ d.showable = true ∧ d.depth ≤ 40 ∧ d.shown.length ≤ sizeLine ∧ Q (.str d.shown) H
theorem call_reprD {X : Cx} (hg : X.A.guards = some []) (hu : X.A.units + 64 < cLine) : CallR X (.builtin "repr") (rReprD X.K) := by
  intro pins s σ H xs us Q I r h
  obtain ⟨x, d, rfl, hd, hk, hs, hdep, hz, q⟩ := h
  obtain ⟨u, rfl, ru⟩ := vals1 r
  have last : ∀ {a : Addr} {as : List Addr}, u = .ref a → Reads s.heap (.ref a) d as → (d.hasDict = true → sysModules ∉ as) → wpAny (model X.prog X.w) X.A (call (.builtin "repr") [u]) (fun v s' => EP X pins σ Q v s') X.xe s := fun e rd no => by
    subst e
    exact PySem.repr_of_reads' rd hs no hg (by omega) (fun _ _ z => z) (fun h' t tk kk => ⟨.str d.shown, H, I.kept kk, ⟨_, rfl⟩, q⟩) hz
  cases hd with
  | non =>
    cases ru
    simp only [PyData.shown] at q
    exact PySem.P.repr_of_none ⟨.str _, H, I.tok _, ⟨_, rfl⟩, q⟩
  | bl b =>
    cases ru
    simp only [PyData.shown] at q
    refine PySem.P.repr_of_bool ⟨.str _, H, I.tok _, ⟨_, rfl⟩, ?_⟩
    cases b <;> exact q
  | int i =>
    obtain ⟨t, rfl⟩ := ru
    simp only [PyData.shown] at q
    exact PySem.P.repr_of_int (by simpa [PyData.showable] using hs) ⟨.str _, H, I.tok _, ⟨_, rfl⟩, q⟩
  | str y =>
    obtain ⟨t, rfl⟩ := ru
    simp only [PyData.shown] at q
    exact PySem.P.repr_of_str ⟨.str _, H, I.tok _, ⟨_, rfl⟩, q⟩ (by simpa only [PyData.shown] using hz)
  | lst hq ha =>
    have hz2 : ∀ t ∈ PyData.shownAll _, t.length ≤ sizeLine := fun t ht => Nat.le_trans (listText_mem_le ht) (by simpa only [PyData.shown] using hz)
    cases ru
    obtain ⟨its, rv, ⟨o, n, ho, hc, _, hd⟩, _⟩ := I.list hq
    obtain ⟨as, bs, hr, _⟩ := Dq.reprsAll I _ _ its ha rv (by simpa [PyData.showable] using hs) hz2
    exact last rfl (Reads.list ho hc hd hr) fun z => by
      rcases hk with k | k
      · rw [k] at z; cases z
      · cases k
  | tup hq ha =>
    have hz2 : ∀ t ∈ PyData.shownAll _, t.length ≤ sizeLine := fun t ht => Nat.le_trans (tupleText_mem_le ht) (by simpa only [PyData.shown] using hz)
    cases ru
    obtain ⟨its, rv, ⟨o, ho, hc, n, hd⟩, _⟩ := I.tuple hq
    obtain ⟨as, bs, hr, _⟩ := Dq.reprsAll I _ _ its ha rv (by simpa [PyData.showable] using hs) hz2
    exact last rfl (Reads.tuple ho hc hd hr) fun z => by
      rcases hk with k | k
      · rw [k] at z; cases z
      · cases k
  | @dic a ea =>
    cases ru
    obtain ⟨_, hsys, vs, kv, o, es, ep, h1, h2, h3⟩ := (show ObjOk X.prog X.w H s.heap a (.dK []) from I.hok a _ ea)
    cases kv
    have hes : es.toList = [] := List.eq_nil_of_length_eq_zero (by rw [PySem.Pairs.length h3.2.2.1]; rfl)
    refine last rfl (Reads.dict (kvs := []) h1 h2.1 h3.1 (by rw [hes]; exact .nil) (by rw [hes]; exact .nil)) fun _ z => ?_
    rcases List.mem_cons.mp z with z | z
    · rw [← z] at hsys
      simp at hsys
    · exact absurd z List.not_mem_nil
end L2
/-! ### static methods off their class -/
namespace L2
open PySem PySem.Spec PyProof.Rows
/-- C.m is a staticmethod: its record at p, its def at g -/
structure SMet (K : PySem.W.Frag) (C : Addr) (m : Str) (p g : Addr) : Prop where
  rd : PySem.W.readsIn K C (.type "type") = true
  ga : PySem.W.specialIn K (.ref C) "__getattribute__" = some (some (.builtin "type.__getattribute__"))
  at_ : PySem.W.findCls K (.ref C) (.type "type") m = some (.get (.builtin "staticmethod.__get__") (.ref p) .none (.ref C))
  rc : ∃ rest, PySem.W.recIn K p "staticmethod" = some (.ref g :: rest)
  kp : PySem.W.keepIn K (.ref g) = true
def tSMeth (C : Addr) (sp : Sp) (E : St → XK) (ta : TE) (t : TA) : TE := fun σ H Q => ta σ H fun x H1 => x = .ref C ∧ t σ H1 fun vs H2 => sp vs H2 Q (E σ)
section
variable {X : Cx} {pins : List (Addr × Obj)} {σ : St} {H : Hp} {s : Shared} {C p g : Addr} {m : Str} {pl : Sem Bool}
theorem getmethsm_ok {Q : Value × List Value → Shared → Prop} {A : Around} {E : Value → Shared → Prop} (I : Inv X pins σ H s) (k : SMet X.K C m p g) (h : ∀ s', Inv X pins σ H s' → Q (.ref g, []) s') : wpAny (model X.prog X.w) A (getMethod (.ref C) m pl) Q E s := by
  obtain ⟨rest, hp⟩ := k.rc
  refine PySem.W.method_cls I.kIn k.ga (PySem.W.cls_bind I.kIn k.rd k.at_ (wpAny_call (PySem.W.sm_get (s := { s with toks := s.toks + 1 }) I.kIn hp (PySem.W.handed_on rfl ?_))))
  exact h _ (I.tok _)
theorem run_fnRS {CX : CXT} {k : Nat} {sp : Sp} {E : XK} {Q : VK} {us : List Value} {vs : List V} (F : FnR X.prog X.w X.K X.mg X.base CX k g sp) (hr : Room k X.A) (hx : PassesAt CX X σ E) (I : Inv X pins σ H s) (r : Vals vs us) (h : sp vs H Q E) :
    wpAny (model X.prog X.w) X.A (call (.ref g) us) (EP X pins σ Q) X.xe s := by
  refine wpAny_call (codeAny_mono (F X.A X.stack s H us vs Q E hr I.env0 r h) fun r s' hq => ?_)
  cases r with
  | error e => exact hx pins H s e s' I hq
  | ok fl =>
    cases fl with
    | ret u => exact I.after hq
    | next => exact False.elim hq
    | brk => exact False.elim hq
    | cont => exact False.elim hq
variable {CX : CXT} {k : Nat} {sp : Sp} {E : St → XK} {o e : Expr} {es : List Expr} {ta : TE} {t : TA} {pos apos : Pos}
theorem pe_smeth (he : PE X o ta) (c : SMet X.K C m p g) (F : FnR X.prog X.w X.K X.mg X.base CX k g sp) (hr : Room k X.A) (hx : ∀ σ, PassesAt CX X σ (E σ)) (ha : PA X (e :: es) t)
    (hst : starEach (e :: es) X.env = (false, eval e X.env) :: starEach es X.env := by rfl) (hpl : (backTo pos (starEach es X.env)).any (·.1) = false := by rfl)
    (ht : eval (.Call (.Attribute o m apos) (e :: es) [] pos) X.env = (do
      let v ← eval o X.env
      standAt apos.atName
      let (f, first) ← holding [v] (getMethod v m pl)
      callWith pos f first (backTo pos (starEach (e :: es) X.env)) (backToKw pos (keywordEach [] X.env))) := by rfl) :
    PE X (.Call (.Attribute o m apos) (e :: es) [] pos) (tSMeth C sp E ta t) := by
  refine ⟨fun pins s σ H Q I h => ?_⟩
  refine PySem.W.methodCall_KW (pl := pl) (thn (he.run pins s σ H _ I h) fun u s1 ⟨x, H1, I1, rx, ex, q⟩ => ?_) ht
  subst ex
  obtain rfl : u = Value.ref C := rx
  refine getmethsm_ok I1 c fun s2 I2 => ?_
  exact PySem.W.callWith_K (h₀ := X.base) I2.ok.mod.kin c.kp (thn (ha.run pos pins s2 σ H1 _ I2 q) fun us s3 ⟨vs, H2, I3, rv, q2⟩ => ⟨I3.kIn, run_fnRS F hr (hx σ) I3 rv q2⟩) hst hpl
end
/-! ### a def that is called where no repr is under way -/
section
variable {X : Cx} {CX : CXT} {k : Nat} {f : Addr} {fd : FuncData} {ps : List Str} {sp : Sp} {E : XK} {x : Str} {e : Expr} {es : List Expr} {t : TA} {p pos : Pos}
theorem pe_callG (F : FnOkG X.prog X.w X.K X.mg X.base CX k f fd ps sp) (free : X.A.guards = some []) (hr : Room k X.A) (hg : Gl X x) (hm : X.mg x = some (.ref f)) (hk : PySem.W.keepIn X.K (.ref f) = true) (hb : Binds X.K fd ps []) (hx : Passes CX X E)
    (ha : PA X (e :: es) t) (hdb : (x == ("__debug__" : Str)) = false := by decide) (he : starEach (e :: es) X.env = (false, eval e X.env) :: starEach es X.env := by rfl) (hpl : (backTo pos (starEach es X.env)).any (·.1) = false := by rfl) :
    PE X (.Call (.Name x p) (e :: es) [] pos) (tCall sp [] E t) := by
  refine ⟨fun pins s σ H Q I h => ?_⟩
  refine wpAny_Call_Name_kw (ld_glob I hg hm ?_ hdb)
  refine PySem.W.callWith_K (h₀ := X.base) I.ok.mod.kin hk (thn (ha.run pos pins s σ H _ I h) fun us s1 ⟨vs, H1, I1, r, q⟩ => ⟨I1.kIn, ?_⟩) he hpl
  have q2 : sp (vs ++ []) H1 Q E := q
  rw [List.append_nil] at q2
  have many : (us ++ []).length = ps.length := by rw [List.append_nil, ← r.length]; exact F.len _ _ _ _ q2
  have bind := hb s1 us I1.kIn many
  rw [List.append_nil] at bind
  refine wpAny_call (codeAny_mono (F.run X.A X.stack s1 H1 ⟨us, []⟩ us vs Q E free hr I1.env0 bind r q2) fun r s' hq => ?_)
  cases r with
  | error er => exact hx pins σ H1 s1 er s' I1 hq
  | ok fl =>
    cases fl with
    | ret u => exact I1.after hq
    | next => exact False.elim hq
    | brk => exact False.elim hq
    | cont => exact False.elim hq
end
end L2

/-! ### names of one kind -/
namespace L2
open PySem PySem.Spec PyProof.Rows
theorem ix_tupK {X : Cx} {K : PySem.W.Frag} (hK : X.K = K) : IxR X (rIxT K) := by
  subst hK
  exact ix_tup
theorem ix_listK {X : Cx} {K : PySem.W.Frag} (hK : X.K = K) : IxR X (rIxL K) := by
  subst hK
  exact ix_list
theorem ix_kdictK {X : Cx} {K : PySem.W.Frag} {w : World} (hK : X.K = K) (hw : X.w = w) : IxR X (rIxD K w) := by
  subst hK hw
  exact ix_kdict
end L2
namespace Rw
open PySem PySem.Spec PyProof.Rows L2
section
variable {P : Program} {w : World} {K : PySem.W.Frag} {mg : Str → Option Value} {base : Heap}
end
end Rw

/-! ### a method called within a try -/
namespace L2
open PySem PySem.Spec PyProof.Rows
def tMethT (C : Addr) (m : Str) (sp : Sp) (E : St → XK) (ta : TE) (t : TA) : TE := fun σ H Q => ta σ H fun x H1 => ∃ (a dx : Addr) (fs : List (Str × V)), x = .ref a ∧ H1 a = some (.ins C dx fs) ∧ fs.lookup m = none ∧ t σ H1 fun vs H2 => sp (x :: vs) H2 Q (E σ)
section
variable {X : Cx} {CX : CXT} {k : Nat} {f C : Addr} {fd : FuncData} {m : Str} {ps : List Str} {sp : Sp} {E : St → XK} {o e : Expr} {es : List Expr} {ta : TE} {t : TA} {apos pos : Pos} {pl : Sem Bool}
theorem pe_methT (he : PE X o ta) (c : Cls X.K C) (hm : Meth X.K C m f) (F : FnOk X.prog X.w X.K X.mg X.base CX k f fd ps sp) (hr : Room k X.A) (hb : Binds X.K fd ps []) (hx : ∀ σ, PassesAt CX X σ (E σ)) (ha : PA X (e :: es) t)
    (hst : starEach (e :: es) X.env = (false, eval e X.env) :: starEach es X.env := by rfl) (hpl : (backTo pos (starEach es X.env)).any (·.1) = false := by rfl)
    (ht : eval (.Call (.Attribute o m apos) (e :: es) [] pos) X.env = (do
      let v ← eval o X.env
      standAt apos.atName
      let (f, first) ← holding [v] (getMethod v m pl)
      callWith pos f first (backTo pos (starEach (e :: es) X.env)) (backToKw pos (keywordEach [] X.env))) := by rfl) : PE X (.Call (.Attribute o m apos) (e :: es) [] pos) (tMethT C m sp E ta t) := by
  refine ⟨fun pins s σ H Q I h => PySem.W.methodCall_KW (pl := pl) (thn (he.run pins s σ H _ I h) fun u s1 ⟨x, H1, I1, rx, a, dx, fs, ex, ea, l, q⟩ => ?_) ht⟩
  subst ex
  obtain rfl : u = Value.ref a := rx
  refine getmeth_ok I1 ea c hm l (PySem.W.callWith_K (first := [.ref a]) (h₀ := X.base) I1.ok.mod.kin hm.kp (thn (ha.run pos pins s1 σ H1 _ I1 q) fun us s2 ⟨vs, H2, I2, r, q2⟩ => ⟨I2.kIn, ?_⟩) hst hpl)
  exact run_fnS (us := .ref a :: us) (vs := .ref a :: vs) F hr hb (hx σ) I2 (.cons rfl r) q2
theorem call_reprDK {K : PySem.W.Frag} (hK : X.K = K) (hg : X.A.guards = some []) (hu : X.A.units + 64 < cLine) : CallR X (.builtin "repr") (rReprD K) := by
  subst hK
  exact call_reprD hg hu
theorem call_len_K {K : PySem.W.Frag} (hK : X.K = K) : CallR X (.builtin "len") (fun xs H Q => ∃ p ys, xs = [.ref p] ∧ (SqL K H p ys ∨ SqT K H p ys) ∧ Q (.int ys.length) H) := by
  subst hK
  exact call_len_seq
end
end L2
/-! ### what the law hears of rows by words -/
namespace Rw
open PySem PySem.Spec PyProof.Rows L2
theorem xf_of {K : PySem.W.Frag} {C fI : Addr} (T : OexG K C fI) : XfC K C := ⟨T.ga, T.gg, T.exC, T.hdC⟩
section
variable {P : Program} {w : World} {K : PySem.W.Frag} {mg : Str → Option Value} {base : Heap}
end
end Rw

/-! ### own + within a try -/
namespace L2
open PySem PySem.Spec PyProof.Rows
def tOpS (r : XK → R2) (E : St → XK) (ta tb : TE) : TE := fun σ H Q => ta σ H fun x H1 => tb σ H1 fun y H2 => r (E σ) x y H2 Q
section
variable {X : Cx} {CX : CXT} {k : Nat} {f g C : Addr} {fd : FuncData} {ps : List Str} {sp : Sp} {E : St → XK} {a b : Expr} {ta tb : TE} {pos : Pos}
theorem pe_addTS {K : PySem.W.Frag} (hK : X.K = K) (A : AddC K C f g) (F : FnOk X.prog X.w X.K X.mg X.base CX k f fd ps sp) (hr : Room k X.A) (hb : Binds X.K fd ps []) (hx : ∀ σ, PassesAt CX X σ (E σ)) (ha : PE X a ta) (hb' : PE X b tb) : PE X (.BinOp a .Add b pos) (tOpS (rAddT K C sp) E ta tb) := by
  subst hK
  refine ⟨fun pins s σ H Q I h => ?_⟩
  refine wpAny_BinOp (binT (R := fun x y H2 => rAddT X.K C sp (E σ) x y H2 Q) ha hb' I h fun v u s2 x y H2 I2 rx ry q => ?_)
  obtain ⟨a, dx, fs, T, rfl, ha, ty, ⟨⟨fo, ro, h1, h2⟩, hsub⟩, q⟩ := q
  cases (show v = Value.ref a from rx)
  obtain ⟨P, Z, pz, hne⟩ := kit_of I2 ry ty
  obtain ⟨mA, O, _⟩ := ins_get I2.hok ha
  obtain ⟨od, J, _⟩ := O.look
  refine PySem.LwX.add_own I2.kIn J (fun M => Z.ty M _ I2.kIn pz) A.hc A.hs A.hf A.hr (.inr ⟨_, rfl⟩) h1 h2 hsub ?_
  exact thn (run_fnS (us := [.ref a, u]) (vs := [.ref a, y]) F hr hb (hx σ) I2 (.cons rfl (.cons ry .nil)) q) fun _ _ z => back_ref z
theorem pe_raddTS {K : PySem.W.Frag} (hK : X.K = K) (A : AddC K C f g) (F : FnOk X.prog X.w X.K X.mg X.base CX k g fd ps sp) (hr : Room k X.A) (hb : Binds X.K fd ps []) (hx : ∀ σ, PassesAt CX X σ (E σ)) (ha : PE X a ta) (hb' : PE X b tb) : PE X (.BinOp a .Add b pos) (tOpS (rRaddT K C sp) E ta tb) := by
  subst hK
  refine ⟨fun pins s σ H Q I h => ?_⟩
  refine wpAny_BinOp (binT (R := fun x y H2 => rRaddT X.K C sp (E σ) x y H2 Q) ha hb' I h fun v u s2 x y H2 I2 rx ry q => ?_)
  obtain ⟨a, dx, fs, T, rfl, ha, ty, ⟨fo, ro, h1, h2, h3⟩, q⟩ := q
  cases (show u = Value.ref a from ry)
  obtain ⟨P, Z, pz, hne⟩ := kit_of I2 rx ty
  obtain ⟨mA, O, _⟩ := ins_get I2.hok ha
  obtain ⟨od, J, _⟩ := O.look
  refine PySem.LwX.radd_own I2.kIn J (fun M => Z.ty M _ I2.kIn pz) A.hc A.hs A.hr A.hg h1 h2 h3 ?_
  exact thn (run_fnS (us := [.ref a, v]) (vs := [.ref a, x]) F hr hb (hx σ) I2 (.cons rfl (.cons rx .nil)) q) fun _ _ z => back_ref z
theorem call_tuple_K {K : PySem.W.Frag} (hK : X.K = K) : CallR X (.type "tuple") (fun xs H Q => ∃ p ys, xs = [.ref p] ∧ (SqL K H p ys ∧ (∀ l, H l = none → Q (.ref l) (upd H l (.tup ys))) ∨ SqT K H p ys ∧ Q (.ref p) H)) := by
  subst hK
  exact call_tuple_of
end
end L2
/-! ### what is compared -/
namespace Rw
open PySem PySem.Spec PyProof.Rows L2
def vD : V → PyData
  | .int i => .int i
  | _ => .none
theorem ints_of_cut (ns : List Int) (m : Int) (k : Nat) : ∃ ms : List Int, cutV (ns.map V.int) none (some m) ++ (List.replicate k [V.int 7]).flatten = ms.map V.int ∧ ms.length ≤ ns.length + k := by
  refine ⟨((ns.drop (HT.sIx ns.length 0 none)).take (HT.sIx ns.length ns.length (some m) - HT.sIx ns.length 0 none)) ++ List.replicate k 7, ?_, ?_⟩
  · unfold cutV
    rw [List.map_append, List.length_map, List.map_take, List.map_drop]
    congr 1
    induction k with
    | zero => rfl
    | succ k ih => rw [List.replicate_succ, List.flatten_cons, ih]; rfl
  · rw [List.length_append, List.length_replicate, List.length_take, List.length_drop]
    omega
theorem shaped_ints (ns : List Int) : SeqAt.shaped (.list (ns.map PyData.int)) = true := by
  have a : PyData.canLayAll0 (ns.map PyData.int) = true := by
    induction ns with
    | nil => rfl
    | cons n r ih => simp only [List.map, PyData.canLayAll0, PyData.canLay0, Bool.true_and]; exact ih
  have b : PyData.depthAll (ns.map PyData.int) = 0 := by
    induction ns with
    | nil => rfl
    | cons n r ih =>
      simp only [List.map, PyData.canLayAll0, PyData.canLay0, Bool.true_and] at a
      simp only [List.map, PyData.depthAll, PyData.depth, ih a]
      rfl
  unfold SeqAt.shaped
  simp only [PyData.canLay0, PyData.depth, a, b]
  decide
theorem dp_ints {K : PySem.W.Frag} {H : Hp} : ∀ ns : List Int, DpAll K H (ns.map V.int) (ns.map PyData.int)
  | [] => .nil
  | _ :: r => .cons (.int _) (dp_ints r)
theorem nil_in {σ : L2.St} {H : Hp} {k : List V → Hp → Prop} (h : k [] H) : tNil σ H k := h
theorem cons_in {te : TE} {t : TA} {σ : L2.St} {H : Hp} {k : List V → Hp → Prop} (h : te σ H fun x H1 => t σ H1 fun xs H2 => k (x :: xs) H2) : tCons te t σ H k := h
theorem c_in {v : V} {σ : L2.St} {H : Hp} {k : V → Hp → Prop} (h : k v H) : tC v σ H k := h
theorem seq_in {t u : TS} {D : Ends} {σ : L2.St} {H : Hp} (h : t { D with nx := u D } σ H) : tSeq t u D σ H := h
theorem if_in {c : TT} {t u : TS} {D : Ends} {σ : L2.St} {H : Hp} (h : c σ H fun b H1 => if b = true then t D σ H1 else u D σ H1) : tIfS c t u D σ H := h
theorem or_in {t u : TT} {σ : L2.St} {H : Hp} {Q : Bool → Hp → Prop} (h : t σ H fun c H1 => if c = true then Q true H1 else u σ H1 Q) : tOr t u σ H Q := h
theorem test_in {t : TE} {σ : L2.St} {H : Hp} {Q : Bool → Hp → Prop} (h : t σ H fun x H' => ∃ k, x = .bl k ∧ Q k H') : tTest t σ H Q := h
theorem op_in {r : R2} {ta tb : TE} {σ : L2.St} {H : Hp} {Q : VK} (h : ta σ H fun x H1 => tb σ H1 fun y H2 => r x y H2 Q) : tOp r ta tb σ H Q := h
theorem call_in {sp : Sp} {E : XK} {t : TA} {σ : L2.St} {H : Hp} {Q : VK} (h : t σ H fun vs H1 => sp (vs ++ []) H1 Q E) : tCall sp [] E t σ H Q := h
theorem asg_in {te : TE} {g : TG} {D : Ends} {σ : L2.St} {H : Hp} (h : te σ H fun x H1 => g x σ H1 D.nx) : tAsg te g D σ H := h
theorem name_in {i : Nat} {v : V} {σ : L2.St} {H : Hp} {Q : L2.St → Hp → Prop} (h : Q (σ.set i (some v)) H) : gName i v σ H Q := h
theorem ops_in {r : XK → R2} {E : L2.St → XK} {ta tb : TE} {σ : L2.St} {H : Hp} {Q : VK} (h : ta σ H fun x H1 => tb σ H1 fun y H2 => r (E σ) x y H2 Q) : tOpS r E ta tb σ H Q := h
end Rw

/-! ### data stands where the heap stands -/
namespace Rw
open PySem PySem.Spec PyProof.Rows L2
section
variable {K : PySem.W.Frag} {H H' : Hp}
theorem sqT_same {a : Addr} {xs : List V} (s : Same H H') (h : SqT K H a xs) : SqT K H' a xs := by
  rcases h with (h | ⟨o, h⟩) | h
  · exact .inl (.inl (s _ _ h))
  · exact .inl (.inr ⟨o, s _ _ h⟩)
  · exact .inr h
mutual
theorem dq_same (s : Same H H') : ∀ (d : PyData) (v : V), Dq K H v d → Dq K H' v d
  | .none, _, h => by cases h; exact .non
  | .bool _, _, h => by cases h; exact .bl _
  | .int _, _, h => by cases h; exact .int _
  | .str _, _, h => by cases h; exact .str _
  | .list ds, _, h => by
    cases h with
    | lst h1 h2 => exact .lst (s.seq h1) (dqs_same s ds _ h2)
  | .tuple ds, _, h => by
    cases h with
    | tup h1 h2 => exact .tup (sqT_same s h1) (dqs_same s ds _ h2)
  | .dict _, _, h => by
    cases h with
    | dic h1 => exact .dic (s _ _ h1)
theorem dqs_same (s : Same H H') : ∀ (ds : List PyData) (vs : List V), DqAll K H vs ds → DqAll K H' vs ds
  | [], _, h => by cases h; exact .nil
  | d :: ds, _, h => by
    cases h with
    | cons h1 h2 => exact .cons (dq_same s d _ h1) (dqs_same s ds _ h2)
end
end
end Rw
/-! ### x in a tuple of data -/
namespace L2
open PySem PySem.Spec PyProof.Rows
def rInTD (K : PySem.W.Frag) : R2 := fun x y H Q => ∃ d ds, Dp K H x d ∧ Dp K H y (.tuple ds) ∧ SeqAt.shaped d = true ∧ SeqAt.shaped (.tuple ds) = true ∧ Q (.bl (ds.any fun z => PyData.eqv z d)) H
theorem op_inTD {X : Cx} {K : PySem.W.Frag} (hK : X.K = K) (hu : X.A.units + 65 < cLine) : OpR X (compareOp .In) (rInTD K) := by
  subst hK
  intro pins s σ H x y v u Q I rx ry h
  obtain ⟨d, ds, hd, he, sd, se, q⟩ := h
  obtain ⟨as, r1⟩ := Dp.reads I d x v hd rx
  obtain ⟨bs, r2⟩ := Dp.reads I (.tuple ds) y u he ry
  exact SeqAt.in_tuple_reads r2 r1 (SeqAt.canLay_of_shaped se) (SeqAt.canLay_of_shaped sd) (room_in_shaped sd hu) ⟨.bl _, H, I, rfl, q⟩
end L2
/-! ### a row's own operators -/
namespace Rw
open PySem PySem.Spec PyProof.Rows L2
section
variable {P : Program} {w : World} {K : PySem.W.Frag} {mg : Str → Option Value} {base : Heap}
end
end Rw

/-! ### a row without a step, beginnings, equal rows -/
namespace Rw
open PySem PySem.Spec PyProof.Rows L2
theorem cut_head (xs : List V) (i : Nat) (hi : i ≤ xs.length) : cutV xs none (some (i : Int)) = xs.take i := by
  show (xs.drop 0).take (HT.sIx xs.length xs.length (some (i : Int)) - 0) = _
  rw [HT.sIx_nat, List.drop_zero, Nat.min_eq_left hi]
  rfl
/-- t[:i] -/
theorem head_tup {K : PySem.W.Frag} {H : Hp} {p : Addr} {xs : List V} {i : Nat} {Q : VK} (h : SqT K H p xs) (q : ∀ H' u, Same H H' → SqT K H' u (xs.take i) → Q (.ref u) H') : rSlA K (.ref p) none (some (i : Int)) H Q := by
  refine ⟨p, _, rfl, h, fun c => ?_, fun c u nu => ?_⟩
  · have c2 := c.2
    rw [HT.sIx_nat] at c2
    have z := q H p (Same.refl H)
    rw [List.take_of_length_le (by omega)] at z
    exact z h
  · refine q _ _ (same_upd nu) (SqT.of ?_)
    rw [upd_same]
    show some (HO.tup ((xs.drop 0).take (HT.sIx xs.length xs.length (some (i : Int)) - 0))) = _
    rw [HT.sIx_nat, List.drop_zero, Nat.sub_zero]
    congr 2
    by_cases hi : i ≤ xs.length
    · rw [Nat.min_eq_left hi]
    · rw [Nat.min_eq_right (by omega), List.take_of_length_le (Nat.le_refl _), List.take_of_length_le (by omega)]
section
variable {P : Program} {w : World} {K : PySem.W.Frag} {mg : Str → Option Value} {base : Heap}
end
/-! two rows -/
section
variable {P : Program} {w : World} {K : PySem.W.Frag} {mg : Str → Option Value} {base : Heap}
end
end Rw

/-! ### what stands, stands behind the first look at a name -/
namespace Nm
open PySem PySem.Spec PyProof.Rows L2
section
variable {K : PySem.W.Frag} {C : Addr} {n : Str} {v : Value} {H : Hp}
end
theorem op_eqDK {X : Cx} {K : PySem.W.Frag} (hK : X.K = K) (hu : X.A.units + 64 < cLine) : OpR X (compareOp .Eq) (rEqD K) := by
  subst hK
  exact op_eqD hu
theorem op_neDK {X : Cx} {K : PySem.W.Frag} (hK : X.K = K) (hu : X.A.units + 64 < cLine) : OpR X (compareOp .NotEq) (rNeD K) := by
  subst hK
  exact op_neD hu
end Nm
/-! ### a row's own == -/
namespace Rw
open PySem PySem.Spec PyProof.Rows L2
section
variable {P : Program} {w : World} {K : PySem.W.Frag} {mg : Str → Option Value} {base : Heap}
end
end Rw

/-! ### the law's kinds, and what it takes as held -/
namespace Rw
open PySem PySem.Spec PyProof.Rows L2
theorem sqT_upd {K : PySem.W.Frag} {H : Hp} {D p : Addr} {as xs : List V} {u : HO} (e : H D = some (.lst as)) (h : SqT K H p xs) : SqT K (upd H D u) p xs := by
  rcases h with (h | ⟨o, h⟩) | h
  · refine .inl (.inl ?_)
    rw [upd_ne]
    · exact h
    · rintro rfl
      rw [e] at h
      cases h
  · refine .inl (.inr ⟨o, ?_⟩)
    rw [upd_ne]
    · exact h
    · rintro rfl
      rw [e] at h
      cases h
  · exact .inr h
section
variable {P : Program} {w : World} {K : PySem.W.Frag} {mg : Str → Option Value} {base : Heap}
end
end Rw

/-! ### the rows that the law draws: the def -/
namespace Rw
open PySem PySem.Spec PyProof.Rows L2
theorem ifS_via {tc : TT} {t u : TS} {D : Ends} {σ : L2.St} {H : Hp} (F : Bool → Hp → Prop) (hc : ∀ Q : Bool → Hp → Prop, (∀ b H2, F b H2 → Q b H2) → tc σ H Q) (h : ∀ b H2, F b H2 → if b = true then t D σ H2 else u D σ H2) : tIfS tc t u D σ H := hc _ h
theorem seqS_in {t u : TS} {D : Ends} {σ : L2.St} {H : Hp} (h : t { D with nx := u D } σ H) : tSeq t u D σ H := h
section
variable {P : Program} {w : World} {K : PySem.W.Frag} {mg : Str → Option Value} {base : Heap}
end
end Rw

/-! ### append within a try -/
namespace L2
open PySem PySem.Spec PyProof.Rows
def rTry (t : TS) : TS := t
theorem ps_named {X : Cx} {st : Stmt} {t : TS} (h : PS X st t) : PS X st (rTry t) := h
theorem rTry_in {t : TS} {D : Ends} {σ : St} {H : Hp} (h : t D σ H) : rTry t D σ H := h
theorem pe_appendK {X : Cx} {K : PySem.W.Frag} (hK : X.K = K) {o e : Expr} {apos cpos : Pos} {to : TE} {t : TA} (ho : PE X o to) (ha : PA X [e] t) (hbase : attributeBase o "append" X.env (eval o X.env) = eval o X.env := by rfl)
    (hfew : ((backTo cpos (starEach [e] X.env)).all (fun x => !x.1) && (backToKw cpos (keywordEach [] X.env)).all (fun x => x.1.isSome) && decide ([e].length + ([] : List Keyword).length + (if ([] : List Keyword).isEmpty then 0 else 1) < 30)) = true := by rfl)
    (hline : (apos.endLine == cpos.line) = true := by rfl) (hs : starEach [e] X.env = (false, eval e X.env) :: starEach [] X.env := by rfl) (hplain : (backTo cpos (starEach [] X.env)).any (·.1) = false := by rfl) :
    PE X (.Call (.Attribute o "append" apos) [e] [] cpos) (tBM K "list" rAppend to t) := by
  subst hK
  exact pe_bm PySem.F.plainAttrs_list PySem.F.slot_list_append PySem.F.type_list_append mt_append ho ha hbase hfew hline hs hplain
section
variable {X : Cx} {CX : CXT} {k : Nat} {f g C : Addr} {fd : FuncData} {ps : List Str} {sp : Sp} {E : St → XK} {a b : Expr} {ta tb : TE} {pos : Pos}
end
end L2
/-! ### what is added -/
namespace Rw
open PySem PySem.Spec PyProof.Rows L2
section
variable {P : Program} {w : World} {K : PySem.W.Frag} {mg : Str → Option Value} {base : Heap}
end
end Rw

/-! ### the rows that the law draws -/
namespace L2
open PySem PySem.Spec PyProof.Rows
theorem op_notIn_seqKK {X : Cx} {K : PySem.W.Frag} (hK : X.K = K) : OpR X (compareOp .NotIn) (rIn K true) := by
  subst hK
  exact op_notIn_seq
end L2
namespace Rw
open PySem PySem.Spec PyProof.Rows L2
section
variable {K : PySem.W.Frag} {d o q : Addr} {H0 : Hp} {wl fl : Addr} {xs : List V} {ss : List Step} {H H' : Hp}
end
end Rw

/-! ### the law -/
namespace Rw
open PySem PySem.Spec PyProof.Rows L2
theorem cut_any (xs : List V) (i : Nat) : cutV xs none (some (i : Int)) = xs.take i := by
  by_cases h : i ≤ xs.length
  · exact cut_head xs i h
  · show (xs.drop 0).take (HT.sIx xs.length xs.length (some (i : Int)) - 0) = _
    rw [HT.sIx_nat, List.drop_zero, Nat.sub_zero, Nat.min_eq_right (by omega), List.take_of_length_le (Nat.le_refl _), List.take_of_length_le (by omega)]
theorem asg_via {te : TE} {g : TG} {D : Ends} {σ : L2.St} {H : Hp} (F : V → Hp → Prop) (hc : ∀ Qx : VK, (∀ v H2, F v H2 → Qx v H2) → te σ H Qx) (h : ∀ v H2, F v H2 → g v σ H2 D.nx) : tAsg te g D σ H := hc _ h
section
variable {P : Program} {w : World} {K : PySem.W.Frag} {mg : Str → Option Value} {base : Heap}
end
end Rw


/-! M1 -/
/-! ### trees of items: what is asked of them, as plain functions -/
namespace Tr
open PySem PySem.Spec PyProof.Rows L2 Rw
abbrev D := PyData
def nameD : D → Bool
  | .str z => nameB z
  | _ => false
def isTup : D → Bool
  | .tuple _ => true
  | _ => false
def plain6 : List Str := ["start", "cancel", "set", "clear", "take", "give"]
def inner3 : List Str := ["use", "start", "test"]
def wordIn : D → Bool
  | .tuple (.str w :: _) => decide (w ∈ inner3)
  | _ => false
/-- the two tuples of a test or a choose -/
def forkOf : D → Option (List D × List D)
  | .tuple [.str w, _, .tuple x, .tuple y] => if w = "test" then some (x, y) else none
  | .tuple [.str w, .tuple x, .tuple y] => if w = "choose" then some (x, y) else none
  | _ => none
mutual
def flat : List D → List D
  | [] => []
  | d :: ds => d :: (flatk d ++ flat ds)
termination_by ds => sizeOf ds
def flatk : D → List D
  | .tuple [.str w, _, .tuple x, .tuple y] => if w = "test" then flat x ++ flat y else []
  | .tuple [.str w, .tuple x, .tuple y] => if w = "choose" then flat x ++ flat y else []
  | _ => []
termination_by d => sizeOf d
end
def forkShape (w : Str) (r : List D) : Bool :=
  match r with
  | [n, x, y] => decide (w = "test") && nameD n && isTup x && isTup y
  | [x, y] => decide (w = "choose") && isTup x && isTup y
  | _ => false
mutual
/-- is_shaped -/
def shaped : D → Nat → Bool
  | .tuple [.str w], a => decide (w = "use")
  | .tuple [.str w, n], a => decide (w ≠ "use") && decide (w ∈ plain6) && nameD n
  | .tuple [.str w, n, v], a => decide (w ≠ "use") && !decide (w ∈ plain6) && (if w = "piece" then nameD n && innerP v else decide (a < 3) && forkShape w [n, v])
  | .tuple [.str w, n, x, y], a => decide (w ≠ "use") && !decide (w ∈ plain6) && !decide (w = "piece") && decide (a < 3) && forkShape w [n, x, y]
  | _, _ => false
termination_by d => sizeOf d
/-- is_inner -/
def innerP : D → Bool
  | .tuple ds => !ds.isEmpty && !(misl ds 0).contains true && decide ((flat ds).length ≤ 4) && (flat ds).all wordIn
  | _ => false
termination_by d => sizeOf d
/-- misshapen -/
def misl : List D → Nat → List Bool
  | [], _ => []
  | d :: ds, a => (!shaped d a) :: ((if shaped d a then misk d a else []) ++ misl ds a)
termination_by ds => sizeOf ds
def misk : D → Nat → List Bool
  | .tuple [.str w, _, .tuple x, .tuple y], a => if w = "test" then misl x (a + 1) ++ misl y (a + 1) else []
  | .tuple [.str w, .tuple x, .tuple y], a => if w = "choose" then misl x (a + 1) ++ misl y (a + 1) else []
  | _, _ => []
termination_by d => sizeOf d
end
mutual
/-- the law's form -/
def lform : D → Nat → Bool
  | .tuple [.str w], a => decide (w = "use")
  | .tuple [.str w, n], a => decide (w ∈ plain6) && nameD n
  | .tuple [.str w, n, .tuple v], a => if w = "choose" then isTup n && decide (a < 3) else decide (w = "piece") && nameD n && lall v 0 && !v.isEmpty && decide ((lnum v 0).length ≤ 4)
  | .tuple [.str w, n, x, y], a => decide (w = "test") && isTup x && isTup y && nameD n && decide (a < 3)
  | _, _ => false
termination_by d => (sizeOf d, 0)
def linner : D → Nat → Bool
  | d, a => lform d a && wordIn d && lkids d a
termination_by d => (sizeOf d, 2)
def lkids : D → Nat → Bool
  | .tuple [.str w, _, .tuple x, .tuple y], a => if w = "test" then lall x (a + 1) && lall y (a + 1) else true
  | .tuple [.str w, .tuple x, .tuple y], a => if w = "choose" then lall x (a + 1) && lall y (a + 1) else true
  | _, _ => true
termination_by d => (sizeOf d, 1)
def lall : List D → Nat → Bool
  | [], _ => true
  | d :: ds, a => linner d a && lall ds a
termination_by ds => (sizeOf ds, 0)
def lnum : List D → Nat → List (D × Nat)
  | [], _ => []
  | d :: ds, a => (d, a) :: ((if lform d a then lnumk d a else []) ++ lnum ds a)
termination_by ds => (sizeOf ds, 0)
def lnumk : D → Nat → List (D × Nat)
  | .tuple [.str w, _, .tuple x, .tuple y], a => if w = "test" then lnum x (a + 1) ++ lnum y (a + 1) else []
  | .tuple [.str w, .tuple x, .tuple y], a => if w = "choose" then lnum x (a + 1) ++ lnum y (a + 1) else []
  | _, _ => []
termination_by d => (sizeOf d, 0)
end
theorem fork_none {d : D} (h : forkOf d = none) : flatk d = [] ∧ (∀ a, misk d a = []) ∧ (∀ a, lkids d a = true) ∧ ∀ a, lnumk d a = [] := by
  unfold forkOf at h
  split at h
  · split at h
    · cases h
    · next hw => exact ⟨by rw [flatk, if_neg hw], fun a => by rw [misk, if_neg hw], fun a => by rw [lkids, if_neg hw], fun a => by rw [lnumk, if_neg hw]⟩
  · split at h
    · cases h
    · next hw => exact ⟨by rw [flatk, if_neg hw], fun a => by rw [misk, if_neg hw], fun a => by rw [lkids, if_neg hw], fun a => by rw [lnumk, if_neg hw]⟩
  · next h1 h2 => 
    refine ⟨?_, fun a => ?_, fun a => ?_, fun a => ?_⟩
    · rw [flatk] <;> assumption
    · rw [misk] <;> assumption
    · rw [lkids] <;> assumption
    · rw [lnumk] <;> assumption
theorem fork_some {d : D} {x y : List D} (h : forkOf d = some (x, y)) : flatk d = flat x ++ flat y ∧ (∀ a, misk d a = misl x (a + 1) ++ misl y (a + 1)) ∧ (∀ a, lkids d a = (lall x (a + 1) && lall y (a + 1))) ∧ (∀ a, lnumk d a = lnum x (a + 1) ++ lnum y (a + 1)) ∧ sizeOf x < sizeOf d ∧ sizeOf y < sizeOf d := by
  unfold forkOf at h
  split at h
  · split at h
    · next hw =>
      cases h
      exact ⟨by rw [flatk, if_pos hw], fun a => by rw [misk, if_pos hw], fun a => by rw [lkids, if_pos hw], fun a => by rw [lnumk, if_pos hw], by simp; omega, by simp; omega⟩
    · cases h
  · split at h
    · next hw =>
      cases h
      exact ⟨by rw [flatk, if_pos hw], fun a => by rw [misk, if_pos hw], fun a => by rw [lkids, if_pos hw], fun a => by rw [lnumk, if_pos hw], by simp; omega, by simp; omega⟩
    · cases h
  · cases h
end Tr

/-! M2 -/
/-! ### the program's look at a tree and the law's are one -/
namespace Tr
open PySem PySem.Spec PyProof.Rows L2 Rw
theorem use_not_plain : ¬ (("use" : Str) ∈ plain6) := by decide +kernel
theorem piece_not_plain : ¬ (("piece" : Str) ∈ plain6) := by decide +kernel
theorem choose_not_plain : ¬ (("choose" : Str) ∈ plain6) := by decide +kernel
theorem test_not_plain : ¬ (("test" : Str) ∈ plain6) := by decide +kernel
theorem piece_use : ("piece" : Str) ≠ "use" := by decide +kernel
theorem choose_use : ("choose" : Str) ≠ "use" := by decide +kernel
theorem test_use : ("test" : Str) ≠ "use" := by decide +kernel
theorem choose_piece : ("choose" : Str) ≠ "piece" := by decide +kernel
theorem test_piece : ("test" : Str) ≠ "piece" := by decide +kernel
theorem test_choose : ("test" : Str) ≠ "choose" := by decide +kernel
/-- the four facts of lists below a size -/
structure Below (N : Nat) : Prop where
  mis : ∀ ds : List D, sizeOf ds < N → ∀ a, misl ds a = (lnum ds a).map fun p => !lform p.1 p.2
  all : ∀ ds : List D, sizeOf ds < N → ∀ a, lall ds a = (!(misl ds a).contains true && (flat ds).all wordIn)
  len : ∀ ds : List D, sizeOf ds < N → ∀ a, (misl ds a).contains true = false → (lnum ds a).map (·.1) = flat ds
theorem shaped_eq : (d : D) → Below (sizeOf d) → (a : Nat) → shaped d a = lform d a
  | .none, _, _ => by simp [shaped, lform]
  | .bool _, _, _ => by simp [shaped, lform]
  | .int _, _, _ => by simp [shaped, lform]
  | .str _, _, _ => by simp [shaped, lform]
  | .list _, _, _ => by simp [shaped, lform]
  | .dict _, _, _ => by simp [shaped, lform]
  | .tuple [], _, _ => by simp [shaped, lform]
  | .tuple (.none :: _), _, _ => by simp [shaped, lform]
  | .tuple (.bool _ :: _), _, _ => by simp [shaped, lform]
  | .tuple (.int _ :: _), _, _ => by simp [shaped, lform]
  | .tuple (.list _ :: _), _, _ => by simp [shaped, lform]
  | .tuple (.tuple _ :: _), _, _ => by simp [shaped, lform]
  | .tuple (.dict _ :: _), _, _ => by simp [shaped, lform]
  | .tuple [.str w], _, a => by rw [shaped, lform]
  | .tuple [.str w, n], _, a => by
    rw [shaped, lform]
    by_cases h : w = "use"
    · subst h
      rw [decide_eq_false use_not_plain]
      simp
    · rw [decide_eq_true h, Bool.true_and]
  | .tuple [.str w, n, v], B, a => by
    rw [shaped]
    cases v with
    | tuple v =>
      rw [lform]
      have hv : sizeOf v < sizeOf (PyData.tuple [.str w, n, .tuple v]) := by simp; omega
      by_cases h : w = "choose"
      · subst h
        rw [if_pos rfl, if_neg choose_piece, decide_eq_false choose_not_plain, decide_eq_true choose_use]
        simp [forkShape, isTup, Bool.and_comm]
      · rw [if_neg h]
        by_cases h2 : w = "piece"
        · subst h2
          rw [if_pos rfl, decide_eq_true rfl, decide_eq_false piece_not_plain, decide_eq_true piece_use, innerP, B.all v hv 0]
          cases hc : (misl v 0).contains true with
          | true => simp
          | false =>
            have e := congrArg List.length (B.len v hv 0 hc)
            rw [List.length_map] at e
            rw [e]
            cases nameD n <;> cases v.isEmpty <;> cases decide ((flat v).length ≤ 4) <;> cases (flat v).all wordIn <;> rfl
        · rw [if_neg h2, decide_eq_false h2]
          simp [forkShape, h]
    | _ => simp [lform, forkShape, isTup, innerP]
  | .tuple [.str w, n, x, y], _, a => by
    rw [shaped, lform]
    by_cases h : w = "test"
    · subst h
      rw [decide_eq_true rfl, decide_eq_false test_not_plain, decide_eq_true test_use, decide_eq_false test_piece]
      simp only [forkShape, decide_true]
      cases nameD n <;> cases isTup x <;> cases isTup y <;> cases decide (a < 3) <;> rfl
    · rw [decide_eq_false h]
      simp [forkShape, h]
  | .tuple (.str w :: n :: x :: y :: z :: r), _, _ => by simp [shaped, lform]
theorem below (N : Nat) : Below N := by
  induction N with
  | zero => exact ⟨fun _ h => absurd h (by omega), fun _ h => absurd h (by omega), fun _ h => absurd h (by omega)⟩
  | succ N ih =>
    have sm : ∀ {d : D} {ds : List D}, sizeOf (d :: ds) < N + 1 → sizeOf d ≤ N ∧ sizeOf ds < N := fun {d ds} h => by
      simp at h
      omega
    have up : ∀ d : D, sizeOf d ≤ N → Below (sizeOf d) := fun d h => ⟨fun ds hd => ih.mis ds (by omega), fun ds hd => ih.all ds (by omega), fun ds hd => ih.len ds (by omega)⟩
    have sh : ∀ d : D, sizeOf d ≤ N → ∀ a, shaped d a = lform d a := fun d h a => shaped_eq d (up d h) a
    refine ⟨fun ds h a => ?_, fun ds h a => ?_, fun ds h a => ?_⟩
    · cases ds with
      | nil => rw [misl, lnum]; rfl
      | cons d ds =>
        obtain ⟨h1, h2⟩ := sm h
        rw [misl, lnum, List.map_cons, List.map_append, sh d h1 a, ih.mis ds h2 a]
        congr 2
        split
        · cases hf : forkOf d with
          | none => rw [(fork_none hf).2.1, (fork_none hf).2.2.2]; rfl
          | some p =>
            obtain ⟨x, y⟩ := p
            obtain ⟨_, f2, _, f4, s1, s2⟩ := fork_some hf
            rw [f2, f4, List.map_append, ih.mis x (by omega), ih.mis y (by omega)]
        · rfl
    · cases ds with
      | nil => rw [misl, lall, flat]; rfl
      | cons d ds =>
        obtain ⟨h1, h2⟩ := sm h
        rw [misl, lall, flat, linner, sh d h1 a, ih.all ds h2 a]
        have key : lform d a = true → lkids d a = (!(misk d a).contains true && (flatk d).all wordIn) := fun _ => by
          cases hf : forkOf d with
          | none => rw [(fork_none hf).1, (fork_none hf).2.1, (fork_none hf).2.2.1]; rfl
          | some p =>
            obtain ⟨x, y⟩ := p
            obtain ⟨f1, f2, f3, _, s1, s2⟩ := fork_some hf
            rw [f1, f2, f3, ih.all x (by omega), ih.all y (by omega)]
            simp only [List.contains_eq_any_beq, List.any_append, List.all_append]
            cases (misl x (a + 1)).any fun z => true == z <;> cases (misl y (a + 1)).any (fun z => true == z) <;> cases (flat x).all wordIn <;> cases (flat y).all wordIn <;> rfl
        cases hl : lform d a with
        | false => simp
        | true =>
          rw [key hl]
          simp only [List.contains_eq_any_beq, List.any_append, List.all_append, List.any_cons, List.all_cons, if_true]
          cases (misk d a).any (fun z => true == z) <;> cases (misl ds a).any (fun z => true == z) <;> cases (flatk d).all wordIn <;> cases (flat ds).all wordIn <;> cases wordIn d <;> rfl
    · cases ds with
      | nil => intro _; rw [lnum, flat]; rfl
      | cons d ds =>
        obtain ⟨h1, h2⟩ := sm h
        rw [misl, lnum, flat, sh d h1 a]
        cases hl : lform d a with
        | false => simp
        | true =>
          intro hc
          simp only [List.contains_eq_any_beq, List.any_append, List.any_cons, if_true] at hc
          have hc1 : (misk d a).any (fun z => true == z) = false := by
            cases h : (misk d a).any (fun z => true == z)
            · rfl
            · rw [h] at hc; simp at hc
          have hc2 : (misl ds a).any (fun z => true == z) = false := by
            cases h : (misl ds a).any (fun z => true == z)
            · rfl
            · rw [h] at hc; simp at hc
          rw [if_pos rfl, List.map_cons, List.map_append, ih.len ds h2 a (by rw [List.contains_eq_any_beq]; exact hc2)]
          congr 2
          cases hf : forkOf d with
          | none => rw [(fork_none hf).1, (fork_none hf).2.2.2]; rfl
          | some p =>
            obtain ⟨x, y⟩ := p
            obtain ⟨f1, f2, _, f4, s1, s2⟩ := fork_some hf
            rw [f2, List.any_append, Bool.or_eq_false_iff] at hc1
            rw [f1, f4, List.map_append, ih.len x (by omega) _ (by rw [List.contains_eq_any_beq]; exact hc1.1), ih.len y (by omega) _ (by rw [List.contains_eq_any_beq]; exact hc1.2)]
theorem shaped_lform (d : D) (a : Nat) : shaped d a = lform d a := shaped_eq d (below _) a
theorem misl_lnum (ds : List D) (a : Nat) : misl ds a = (lnum ds a).map fun p => !lform p.1 p.2 := (below (sizeOf ds + 1)).mis ds (by omega) a
theorem lall_eq (ds : List D) (a : Nat) : lall ds a = (!(misl ds a).contains true && (flat ds).all wordIn) := (below (sizeOf ds + 1)).all ds (by omega) a
theorem lnum_flat {ds : List D} {a : Nat} (h : (misl ds a).contains true = false) : (lnum ds a).map (·.1) = flat ds := (below (sizeOf ds + 1)).len ds (by omega) a h
end Tr

/-! P1 -/
/-! ### items as the program reads them -/
namespace L2
open PySem PySem.Spec PyProof.Rows
theorem call_list_K {X : Cx} {K : PySem.W.Frag} (hK : X.K = K) : CallR X (.type "list") (fun xs H Q => ∃ p ys, xs = [.ref p] ∧ (SqL K H p ys ∨ SqT K H p ys) ∧ ∀ l, H l = none → Q (.ref l) (upd H l (.lst ys))) := by
  subst hK
  exact call_list_of
theorem call_isiKK {X : Cx} {K : PySem.W.Frag} (hK : X.K = K) : CallR X (.builtin "isinstance") (rIsi K) := by
  subst hK
  exact call_isi
theorem op_in_seqKK {X : Cx} {K : PySem.W.Frag} (hK : X.K = K) : OpR X (compareOp .In) (rIn K false) := by
  subst hK
  exact op_in_seq
end L2
namespace Tr
open PySem PySem.Spec PyProof.Rows L2 Rw
theorem tyx_lst {K : PySem.W.Frag} {H : Hp} {p : Addr} {xs : List V} (h : SqL K H p xs) : TyX K H (.ref p) (.type "list") := by
  rcases h with (h | ⟨o, h⟩) | ⟨o, its, n, hl, hc, r⟩
  · exact .base (.lst h)
  · exact .base (.frz h)
  · exact .kList hl hc
def tyD : D → String
  | .none => "NoneType"
  | .bool _ => "bool"
  | .int _ => "int"
  | .str _ => "str"
  | .list _ => "list"
  | .tuple _ => "tuple"
  | .dict _ => "dict"
def isStr : D → Bool
  | .str _ => true
  | _ => false
theorem dp_ty {K : PySem.W.Frag} {H : Hp} {v : V} {d : D} (h : Dp K H v d) : TyX K H v (.type (tyD d)) := by
  cases h with
  | non => exact .base .non
  | bl b => exact .base (.bl b)
  | int i => exact .base (.int i)
  | str x => exact .base (.str x)
  | lst h _ => exact tyx_lst h
  | tup h _ => exact tyx_tup h
theorem kit_tup {K : PySem.W.Frag} : (d : D) → PySem.W.kitOne K (.type (tyD d)) (.type "tuple") = some (isTup d)
  | .none => show PySem.W.kitOne K (.type "NoneType") (.type "tuple") = some false from kit_ty (by decide +kernel)
  | .bool _ => show PySem.W.kitOne K (.type "bool") (.type "tuple") = some false from kit_ty (by decide +kernel)
  | .int _ => show PySem.W.kitOne K (.type "int") (.type "tuple") = some false from kit_ty (by decide +kernel)
  | .str _ => show PySem.W.kitOne K (.type "str") (.type "tuple") = some false from kit_ty (by decide +kernel)
  | .list _ => show PySem.W.kitOne K (.type "list") (.type "tuple") = some false from kit_ty (by decide +kernel)
  | .tuple _ => show PySem.W.kitOne K (.type "tuple") (.type "tuple") = some true from kit_ty (by decide +kernel)
  | .dict _ => show PySem.W.kitOne K (.type "dict") (.type "tuple") = some false from kit_ty (by decide +kernel)
theorem kit_str {K : PySem.W.Frag} : (d : D) → PySem.W.kitOne K (.type (tyD d)) (.type "str") = some (isStr d)
  | .none => show PySem.W.kitOne K (.type "NoneType") (.type "str") = some false from kit_ty (by decide +kernel)
  | .bool _ => show PySem.W.kitOne K (.type "bool") (.type "str") = some false from kit_ty (by decide +kernel)
  | .int _ => show PySem.W.kitOne K (.type "int") (.type "str") = some false from kit_ty (by decide +kernel)
  | .str _ => show PySem.W.kitOne K (.type "str") (.type "str") = some true from kit_ty (by decide +kernel)
  | .list _ => show PySem.W.kitOne K (.type "list") (.type "str") = some false from kit_ty (by decide +kernel)
  | .tuple _ => show PySem.W.kitOne K (.type "tuple") (.type "str") = some false from kit_ty (by decide +kernel)
  | .dict _ => show PySem.W.kitOne K (.type "dict") (.type "str") = some false from kit_ty (by decide +kernel)
mutual
theorem dp_same {K : PySem.W.Frag} {H H' : Hp} (s : Same H H') : ∀ (d : D) (v : V), Dp K H v d → Dp K H' v d
  | .none, _, h => by cases h; exact .non
  | .bool _, _, h => by cases h; exact .bl _
  | .int _, _, h => by cases h; exact .int _
  | .str _, _, h => by cases h; exact .str _
  | .list ds, _, h => by
    cases h with
    | lst h1 h2 => exact .lst (s.seq h1) (dps_same s ds _ h2)
  | .tuple ds, _, h => by
    cases h with
    | tup h1 h2 => exact .tup (sqT_same s h1) (dps_same s ds _ h2)
  | .dict _, _, h => by cases h
theorem dps_same {K : PySem.W.Frag} {H H' : Hp} (s : Same H H') : ∀ (ds : List D) (vs : List V), DpAll K H vs ds → DpAll K H' vs ds
  | [], _, h => by cases h; exact .nil
  | d :: ds, _, h => by
    cases h with
    | cons h1 h2 => exact .cons (dp_same s d _ h1) (dps_same s ds _ h2)
end
theorem _root_.L2.Dp.same {K : PySem.W.Frag} {H H' : Hp} {v : V} {d : D} (h : Dp K H v d) (s : Same H H') : Dp K H' v d := dp_same s d v h
theorem _root_.L2.DpAll.same {K : PySem.W.Frag} {H H' : Hp} {vs : List V} {ds : List D} (h : DpAll K H vs ds) (s : Same H H') : DpAll K H' vs ds := dps_same s ds vs h
theorem dpl {K : PySem.W.Frag} {H : Hp} : ∀ {vs : List V} {ds : List D}, DpAll K H vs ds → vs.length = ds.length
  | _, _, .nil => rfl
  | _, _, .cons _ t => by rw [List.length_cons, List.length_cons, dpl t]
theorem dp_get {K : PySem.W.Frag} {H : Hp} : ∀ {vs : List V} {ds : List D} {i : Nat} {v : V}, DpAll K H vs ds → vs[i]? = some v → ∃ d, ds[i]? = some d ∧ Dp K H v d
  | _, _, 0, _, .cons h _, e => by cases e; exact ⟨_, rfl, h⟩
  | _, _, i + 1, _, .cons _ t, e => dp_get (i := i) t e
theorem dp_drop {K : PySem.W.Frag} {H : Hp} : ∀ {vs : List V} {ds : List D} (i : Nat), DpAll K H vs ds → DpAll K H (vs.drop i) (ds.drop i)
  | _, _, 0, h => h
  | _, _, _ + 1, .nil => .nil
  | _, _, i + 1, .cons _ t => dp_drop i t
theorem dp_take {K : PySem.W.Frag} {H : Hp} : ∀ {vs : List V} {ds : List D} (i : Nat), DpAll K H vs ds → DpAll K H (vs.take i) (ds.take i)
  | _, _, 0, h => .nil
  | _, _, _ + 1, .nil => .nil
  | _, _, i + 1, .cons h t => .cons h (dp_take i t)
theorem dp_app {K : PySem.W.Frag} {H : Hp} : ∀ {vs us : List V} {ds es : List D}, DpAll K H vs ds → DpAll K H us es → DpAll K H (vs ++ us) (ds ++ es)
  | _, _, _, _, .nil, h => h
  | _, _, _, _, .cons a t, h => .cons a (dp_app t h)
/-- a text's length is kept small -/
def smallD : D → Bool
  | .str z => decide (z.length ≤ 1000000)
  | _ => true
theorem dp_nv {K : PySem.W.Frag} {H : Hp} {v : V} {d : D} (h : Dp K H v d) (z : smallD d = true) : NV K H v (nameD d) := by
  cases h with
  | non => exact .other (.base .non) (by decide)
  | bl b => exact .other (.base (.bl b)) (by decide)
  | int i => exact .other (.base (.int i)) (by decide)
  | str x => exact .str x (of_decide_eq_true z)
  | lst h _ => exact .other (tyx_lst h) (by decide)
  | tup h _ => exact .other (tyx_tup h) (by decide)
def spTups (K : PySem.W.Frag) : Sp := fun vs H Q _ => ∃ (p : Addr) (xs : List V) (ds : List D), vs = [.ref p] ∧ SqT K H p xs ∧ DpAll K H xs ds ∧ ds.length ≤ 1000 ∧ ∀ H', Same H H' → Q (.bl (ds.all isTup)) H'
section
variable {P : Program} {w : World} {K : PySem.W.Frag} {mg : Str → Option Value} {base : Heap}
abbrev sTups : Stmt := top 22
theorem scTups : FnScope ["values", "value"] ["values"] (defScope sTups) := ⟨rfl, rfl, rfl, by decide +kernel, rfl, by decide +kernel, by decide +kernel⟩
theorem ok_tups {f : Addr} {fd : FuncData} (F : Fun K "are_tuples" "are_tuples" sTups f fd) (m_isinstance : mg "isinstance" = none) (m_tuple : mg "tuple" = none) (m_all : mg "all" = none) : FnOk P w K mg base CX0 1 f fd ["values"] (spTups K) := by
  refine F.ok scTups (fun vs H Q E h => ?_) (fun cdv A outer s H vs Q E hr h => ?_)
  · obtain ⟨p, xs, ds, rfl, _⟩ := h
    rfl
  · obtain ⟨p, xs, ds, rfl, hx, hd, hz, q⟩ := h
    refine ⟨_, (pss_one (ps_ret (pe_callB (cr_all rfl) (by rfl) m_all (by decide +kernel) (pa_cons (pe_lc (own := [("value", 1)]) (g := gName 1) (tt := tYes) (by rfl) scTups.nd (pi_tup (pv 0)) (blkOk_by (own := [("value", 1)]) (N := ["values", "value"]) (sc := defScope sTups) (by decide +kernel)) (fun _ _ _ _ _ => (pg_name (i := 1) scTups.nd rfl (Or.inl rfl))) (fun _ _ _ _ _ => pts_nil) (fun _ _ _ _ _ => (pe_callB (call_isiKK (K := K) rfl) (by rfl) m_isinstance (by decide +kernel) (pa_cons (pv 1) (pa_cons (pe_bltn (v := .ty "tuple") (by rfl) m_tuple (by decide +kernel) rfl) pa_nil))))) pa_nil)))), ?_⟩
    have len := dpl hd
    refine ⟨_, rfl, p, rfl, ⟨_, hx⟩, fun L nL => lc_tup (xs := xs) (fun i H' => Same H H' ∧ H' L = some (.lst ((ds.take i).map fun d => V.bl (isTup d)))) ⟨same_upd nL, upd_same⟩ (fun i H' _ h => h.1.tupS hx) ?_ ?_⟩
    · rintro i x H1 hxi ⟨s1, e1⟩
      obtain ⟨d, hd1, hdx⟩ := dp_get hd hxi
      refine ⟨rfl, ?_⟩
      dsimp only [tYes]
      rw [if_pos rfl]
      refine ⟨_, rfl, _, _, _, _, _, rfl, .ty _, dp_ty (hdx.same s1), kit_tup d, _, e1, ?_, same_updN nL s1, ?_⟩
      · rw [List.length_map, List.length_take, sizeLine_eq]
        omega
      · rw [upd_same, take_snoc hd1, List.map_append]
        rfl
    · rintro H1 ⟨s1, e1⟩
      rw [len, List.take_length] at e1
      have e3 : (ds.map fun d => V.bl (isTup d)) = (ds.map isTup).map V.bl := by rw [List.map_map]; rfl
      rw [e3] at e1
      refine ⟨L, _, rfl, .inl (.inl e1), ?_⟩
      have e4 : (ds.map isTup).all id = ds.all isTup := by rw [List.all_map]; rfl
      rw [e4]
      exact q H1 s1
end
end Tr

/-! P2 -/
/-! ### what fits, branches, the locks behind an item -/
namespace Tr
open PySem PySem.Spec PyProof.Rows L2 Rw
mutual
def goodD : D → Bool
  | .str z => PyData.strOk z && decide (z.length ≤ 1000)
  | .tuple ds => goodAll ds
  | .list ds => goodAll ds
  | .dict _ => false
  | _ => true
def goodAll : List D → Bool
  | [] => true
  | d :: ds => goodD d && goodAll ds
end
mutual
def cntD : D → Nat
  | .tuple ds => cntAll ds + 1
  | .list ds => cntAll ds + 1
  | _ => 1
def cntAll : List D → Nat
  | [] => 0
  | d :: ds => cntD d + cntAll ds
end
structure FitD (n : Nat) (d : D) : Prop where
  good : goodD d = true
  dep : d.depth < n
  cnt : cntD d ≤ 60000
structure Fits (n : Nat) (ds : List D) : Prop where
  good : goodAll ds = true
  dep : PyData.depthAll ds < n
  cnt : cntAll ds ≤ 60000
theorem Fits.head {n : Nat} {d : D} {ds : List D} (h : Fits n (d :: ds)) : FitD n d := by
  obtain ⟨a, b, c⟩ := h
  rw [goodAll, Bool.and_eq_true] at a
  rw [PyData.depthAll] at b
  rw [cntAll] at c
  exact ⟨a.1, by omega, by omega⟩
theorem Fits.tail {n : Nat} {d : D} {ds : List D} (h : Fits n (d :: ds)) : Fits n ds := by
  obtain ⟨a, b, c⟩ := h
  rw [goodAll, Bool.and_eq_true] at a
  rw [PyData.depthAll] at b
  rw [cntAll] at c
  exact ⟨a.2, by omega, by omega⟩
theorem Fits.mem {n : Nat} : ∀ {ds : List D} {d : D}, Fits n ds → d ∈ ds → FitD n d
  | _ :: _, _, h, .head _ => h.head
  | _ :: _, _, h, .tail _ t => h.tail.mem t
theorem FitD.inside {n : Nat} {ds : List D} (h : FitD (n + 1) (.tuple ds)) : Fits n ds := by
  obtain ⟨a, b, c⟩ := h
  rw [goodD] at a
  rw [PyData.depth] at b
  rw [cntD] at c
  exact ⟨a, by omega, by omega⟩
theorem FitD.wrap {n : Nat} {ds : List D} (h : Fits n ds) (c : cntAll ds < 60000) : FitD (n + 1) (.tuple ds) := by
  obtain ⟨a, b, _⟩ := h
  exact ⟨by rw [goodD]; exact a, by rw [PyData.depth]; omega, by rw [cntD]; omega⟩
theorem FitD.pos {n : Nat} {d : D} (h : FitD n d) : 0 < n := Nat.lt_of_le_of_lt (Nat.zero_le _) h.dep
theorem FitD.mono {n m : Nat} {d : D} (h : FitD n d) (e : n ≤ m) : FitD m d := ⟨h.good, Nat.lt_of_lt_of_le h.dep e, h.cnt⟩
theorem Fits.mono {n m : Nat} {d : List D} (h : Fits n d) (e : n ≤ m) : Fits m d := ⟨h.good, Nat.lt_of_lt_of_le h.dep e, h.cnt⟩
theorem len_cnt : ∀ ds : List D, ds.length ≤ cntAll ds
  | [] => Nat.zero_le _
  | d :: ds => by
    have h := len_cnt ds
    have h1 : 1 ≤ cntD d := by cases d <;> simp [cntD]
    rw [List.length_cons, cntAll]
    omega
theorem Fits.len {n : Nat} {ds : List D} (h : Fits n ds) : ds.length ≤ 60000 := Nat.le_trans (len_cnt ds) h.cnt
mutual
theorem lay_of : ∀ d : D, goodD d = true → PyData.canLay0 d = true
  | .none, _ => rfl
  | .bool _, _ => rfl
  | .int _, _ => rfl
  | .str z, h => by
    rw [goodD, Bool.and_eq_true] at h
    rw [PyData.canLay0]
    exact h.1
  | .tuple ds, h => by
    rw [goodD] at h
    rw [PyData.canLay0]
    exact lays_of ds h
  | .list ds, h => by
    rw [goodD] at h
    rw [PyData.canLay0]
    exact lays_of ds h
  | .dict _, h => by rw [goodD] at h; cases h
theorem lays_of : ∀ ds : List D, goodAll ds = true → PyData.canLayAll0 ds = true
  | [], _ => rfl
  | d :: ds, h => by
    rw [goodAll, Bool.and_eq_true] at h
    rw [PyData.canLayAll0, lay_of d h.1, lays_of ds h.2]
    rfl
end
theorem FitD.small {n : Nat} {d : D} (h : FitD n d) : smallD d = true := by
  cases d with
  | str z =>
    have g := h.good
    rw [goodD, Bool.and_eq_true] at g
    have g2 := of_decide_eq_true g.2
    exact decide_eq_true (by omega)
  | _ => rfl
theorem FitD.shaped {n : Nat} {d : D} (h : FitD n d) (hn : n ≤ 40) : SeqAt.shaped d = true := shaped_of (lay_of d h.good) (by have := h.dep; omega)
theorem tail_from {K : PySem.W.Frag} {H : Hp} {p : Addr} {xs : List V} {x : Int} {i : Nat} {Q : VK} (h : SqT K H p xs) (hx : x = (i : Nat)) (q : ∀ H' u, Same H H' → SqT K H' u (xs.drop i) → Q (.ref u) H') : rSlA K (.ref p) (some x) none H Q := by
  subst hx
  have e1 : HT.sIx xs.length 0 (some ((i : Nat) : Int)) = min i xs.length := HT.sIx_nat xs.length 0 i
  have e0 : HT.sIx xs.length xs.length none = xs.length := rfl
  refine ⟨p, _, rfl, h, fun c => ?_, fun c u nu => ?_⟩
  · have c1 := c.1
    rw [e1] at c1
    have z : xs.drop i = xs := by
      by_cases hi : i = 0
      · rw [hi]; rfl
      · have z2 : xs.length = 0 := by omega
        rw [List.eq_nil_of_length_eq_zero z2]
        cases i <;> rfl
    have y := q H p (Same.refl H)
    rw [z] at y
    exact y h
  · refine q _ _ (same_upd nu) (SqT.of ?_)
    rw [upd_same]
    have e2 : cutV xs (some ((i : Nat) : Int)) none = xs.drop i := by
      show (xs.drop (HT.sIx xs.length 0 (some ((i : Nat) : Int)))).take (HT.sIx xs.length xs.length none - HT.sIx xs.length 0 (some ((i : Nat) : Int))) = _
      rw [e1, e0, List.take_of_length_le (by rw [List.length_drop]; exact Nat.le_refl _)]
      by_cases hi : i ≤ xs.length
      · rw [Nat.min_eq_left hi]
      · rw [Nat.min_eq_right (by omega), List.drop_of_length_le (Nat.le_refl _), List.drop_of_length_le (by omega)]
    rw [e2]
theorem atN {xs : List V} {i : Nat} {x : V} (h : xs[i]? = some x) : atI xs ((i : Nat) : Int) = some x := by
  have hi : i < xs.length := (List.getElem?_eq_some_iff.mp h).1
  unfold atI ixN
  rw [if_pos (Int.natCast_nonneg i), if_pos (Int.ofNat_lt.mpr hi)]
  exact h
theorem at0 {x : V} {xs : List V} : atI (x :: xs) 0 = some x := atN (i := 0) rfl
theorem at1 {x y : V} {xs : List V} : atI (x :: y :: xs) 1 = some y := atN (i := 1) rfl
theorem at2 {x y z : V} {xs : List V} : atI (x :: y :: z :: xs) 2 = some z := atN (i := 2) rfl
theorem at3 {x y z t : V} {xs : List V} : atI (x :: y :: z :: t :: xs) 3 = some t := atN (i := 3) rfl
def wD : D → Str
  | .tuple (.str w :: _) => w
  | _ => ""
def nmD : D → Str
  | .tuple (_ :: .str n :: _) => n
  | _ => ""
/-- an item of which the tuples, the names can be read -/
def BrOk (d : D) : Prop := ∃ w r, d = .tuple (.str w :: r) ∧ (w = "test" → ∃ n x y, r = [n, .tuple x, .tuple y]) ∧ (w = "choose" → ∃ x y, r = [.tuple x, .tuple y]) ∧ (w = "take" ∨ w = "give" ∨ w = "piece" → ∃ n r', r = .str n :: r')
def kids (d : D) : List (List D) := match forkOf d with
  | some (x, y) => [x, y]
  | none => []
theorem kids_test {n : D} {x y : List D} : kids (.tuple [.str "test", n, .tuple x, .tuple y]) = [x, y] := by
  rfl
theorem kids_choose {x y : List D} : kids (.tuple [.str "choose", .tuple x, .tuple y]) = [x, y] := by
  rfl
theorem kids_none {w : Str} {r : List D} (h1 : w ≠ "test") (h2 : w ≠ "choose") : kids (.tuple (.str w :: r)) = [] := by
  unfold kids
  have e : forkOf (.tuple (.str w :: r)) = none := by
    unfold forkOf
    split
    · next e =>
      cases e
      exact if_neg h1
    · next e =>
      cases e
      exact if_neg h2
    · rfl
  rw [e]
def spBr (K : PySem.W.Frag) : Sp := fun vs H Q _ => ∃ (H0 : Hp) (v : V) (d : D), vs = [v] ∧ Same H0 H ∧ Dp K H0 v d ∧ BrOk d ∧ ∀ H' t ys, Same H H' → SqT K H' t ys → DpAll K H0 ys ((kids d).map PyData.tuple) → Q (.ref t) H'
def behindD (d : D) (h : List Str) : List Str := if wD d = "take" then h ++ [nmD d] else if wD d = "give" then h.dropLast else h
def spBeh (K : PySem.W.Frag) : Sp := fun vs H Q _ => ∃ (v hv : V) (d : D) (h : List Str), vs = [v, hv] ∧ Dp K H v d ∧ BrOk d ∧ TxtT K H hv h ∧ h.length ≤ 900 ∧ ∀ H' u, Same H H' → TxtT K H' u (behindD d h) → Q u H'
section
variable {P : Program} {w : World} {K : PySem.W.Frag} {mg : Str → Option Value} {base : Heap}
abbrev sBr : Stmt := top 24
theorem scBr : FnScope ["item"] ["item"] (defScope sBr) := ⟨rfl, rfl, rfl, by decide +kernel, rfl, by decide +kernel, by decide +kernel⟩
theorem ok_br {f : Addr} {fd : FuncData} (F : Fun K "branches" "branches" sBr f fd) : FnOk P w K mg base CX0 1 f fd ["item"] (spBr K) := by
  refine F.ok scBr (fun vs H Q E h => ?_) (fun cdv A outer s H vs Q E hr h => ?_)
  · obtain ⟨H0, v, d, rfl, _⟩ := h
    rfl
  · obtain ⟨H0, v, d, rfl, s0, hd, ⟨wd, r, rfl, b1, b2, b3⟩, q⟩ := h
    refine ⟨_, (pss_cons (ps_if (pt_cmpR op_eq (pe_ix (ix_tupK (K := K) rfl) (pv 0) pe_int (fun _ _ => rfl)) pe_str (nomark _))
       (pss_one (ps_ret (pe_slice sl_tupA (pv 0) (po_some pe_int) po_none)))
       pss_nil)
       (pss_cons (ps_if (pt_cmpR op_eq (pe_ix (ix_tupK (K := K) rfl) (pv 0) pe_int (fun _ _ => rfl)) pe_str (nomark _))
       (pss_one (ps_ret (pe_slice sl_tupA (pv 0) (po_some pe_int) po_none)))
       pss_nil)
       (pss_one (ps_ret (pe_tup pa_nil))))), ?_⟩
    cases hd with
    | @tup p xs _ hp ha =>
      cases ha with
      | @cons x0 xs _ _ h0 ha =>
        cases h0
        have hp1 := s0.tupS hp
        refine ⟨_, rfl, p, _, _, _, rfl, rfl, hp1, at0, rfl, _, rfl, ?_⟩
        rw [Rw.dec_str]
        by_cases e1 : wd = "test"
        · rw [decide_eq_true e1]
          subst e1
          obtain ⟨n, x, y, rfl⟩ := b1 rfl
          refine iteT ⟨_, rfl, _, rfl, ?_⟩
          dsimp only [tNoPart]
          refine tail_from (i := 2) hp1 rfl fun H' u s1 hu => ?_
          refine q H' u _ s1 hu ?_
          rw [kids_test]
          cases ha with
          | cons _ ha => exact ha
        · rw [decide_eq_false e1]
          refine iteF ?_
          refine ⟨_, rfl, p, _, _, _, rfl, rfl, hp1, at0, rfl, _, rfl, ?_⟩
          rw [Rw.dec_str]
          by_cases e2 : wd = "choose"
          · rw [decide_eq_true e2]
            subst e2
            obtain ⟨x, y, rfl⟩ := b2 rfl
            refine iteT ⟨_, rfl, _, rfl, ?_⟩
            dsimp only [tNoPart]
            refine tail_from (i := 1) hp1 rfl fun H' u s1 hu => ?_
            refine q H' u _ s1 hu ?_
            rw [kids_choose]
            exact ha
          · rw [decide_eq_false e2]
            refine iteF ?_
            refine ⟨Nat.zero_le _, fun t nt => q _ t [] (same_upd nt) (SqT.of upd_same) ?_⟩
            rw [kids_none e1 e2]
            exact .nil
abbrev sBeh : Stmt := top 30
theorem scBeh : FnScope ["item", "held"] ["item", "held"] (defScope sBeh) := ⟨rfl, rfl, rfl, by decide +kernel, rfl, by decide +kernel, by decide +kernel⟩
theorem ok_beh {f : Addr} {fd : FuncData} (F : Fun K "locks_behind" "locks_behind" sBeh f fd) : FnOk P w K mg base CX0 1 f fd ["item", "held"] (spBeh K) := by
  refine F.ok scBeh (fun vs H Q E h => ?_) (fun cdv A outer s H vs Q E hr h => ?_)
  · obtain ⟨v, hv, d, ns, rfl, _⟩ := h
    rfl
  · obtain ⟨v, hv, d, ns, rfl, hd, ⟨wd, r, rfl, b1, b2, b3⟩, ht0, hz, q⟩ := h
    obtain ⟨t, rfl, ht⟩ := id ht0
    refine ⟨_, (pss_cons (ps_if (pt_cmpR op_eq (pe_ix (ix_tupK (K := K) rfl) (pv 0) pe_int (fun _ _ => rfl)) pe_str (nomark _))
       (pss_one (ps_ret (pe_op op_catA (pv 1) (pe_tup (pa_cons (pe_ix (ix_tupK (K := K) rfl) (pv 0) pe_int (fun _ _ => rfl)) pa_nil)))))
       pss_nil)
       (pss_cons (ps_if (pt_cmpR op_eq (pe_ix (ix_tupK (K := K) rfl) (pv 0) pe_int (fun _ _ => rfl)) pe_str (nomark _))
       (pss_one (ps_ret (pe_slice sl_tupA (pv 1) po_none (po_some (pe_un un_neg pe_int)))))
       pss_nil)
       (pss_one (ps_ret (pv 1))))), ?_⟩
    cases hd with
    | @tup p xs _ hp ha =>
      cases ha with
      | @cons x0 xs _ _ h0 ha =>
        cases h0
        refine ⟨_, rfl, p, _, _, _, rfl, rfl, hp, at0, rfl, _, rfl, ?_⟩
        rw [Rw.dec_str]
        unfold behindD at q
        rw [show wD (.tuple (.str wd :: r)) = wd from rfl] at q
        by_cases h1 : wd = "take"
        · rw [decide_eq_true h1]
          rw [if_pos h1] at q
          obtain ⟨n, r', rfl⟩ := b3 (.inl h1)
          cases ha with
          | @cons x1 xs2 _ _ h0 ha =>
          cases h0
          refine iteT ?_
          refine ⟨_, rfl, _, rfl, p, _, _, _, rfl, rfl, hp, at1, by show 1 ≤ sizeLine; decide, fun y ny => ?_⟩
          have s1 := same_upd (o := HO.tup [V.str n]) ny
          refine cat_txt (ht0.same s1) ⟨y, rfl, SqT.of upd_same⟩ (bs := [n]) (by show ns.length + 1 ≤ 1000; omega) fun H' u s2 hu => q H' u (s1.trans s2) hu
        · rw [decide_eq_false h1]
          rw [if_neg h1] at q
          refine iteF ?_
          refine ⟨_, rfl, p, _, _, _, rfl, rfl, hp, at0, rfl, _, rfl, ?_⟩
          rw [Rw.dec_str]
          by_cases h2 : wd = "give"
          · rw [decide_eq_true h2]
            rw [if_pos h2] at q
            refine iteT ?_
            refine ⟨_, rfl, _, rfl, _, rfl, ?_⟩
            refine ⟨t, _, rfl, ht, fun c => ?_, fun c u nu => ?_⟩
            · have e1 : HT.sIx (ns.map V.str).length (ns.map V.str).length (some (-1)) = ns.length - 1 := by rw [List.length_map]; exact sIx_m1 _ _
              have c2 := c.2
              rw [e1, List.length_map] at c2
              have e2 : ns = [] := List.eq_nil_of_length_eq_zero (by omega)
              rw [e2] at q ht
              exact q H _ (Same.refl H) ⟨t, rfl, ht⟩
            · refine q _ _ (same_upd nu) ⟨u, rfl, SqT.of ?_⟩
              rw [upd_same, cut_m1, List.map_dropLast]
          · rw [decide_eq_false h2]
            rw [if_neg h2] at q
            refine iteF ?_
            exact ⟨_, rfl, q H _ (Same.refl H) ⟨t, rfl, ht⟩⟩
end
end Tr

/-! P3 -/
/-! ### is_fork, flat -/
namespace Tr
open PySem PySem.Spec PyProof.Rows L2 Rw
theorem int_dec {n : Nat} (m : Int) (k : Nat) (h : m = (k : Nat)) : decide (V.int ((n : Nat) : Int) = V.int m) = decide (n = k) := by
  subst h
  by_cases e : n = k
  · rw [decide_eq_true e, decide_eq_true (by rw [e])]
  · rw [decide_eq_false e, decide_eq_false fun z => e (by have := V.int.inj z; omega)]
theorem fs_test {r : List D} (h : r.length ≠ 3) : forkShape "test" r = false := by
  match r, h with
  | [], _ => rfl
  | [_], _ => rfl
  | [x, y], _ => simp [forkShape, test_choose]
  | [_, _, _], h => exact absurd rfl h
  | _ :: _ :: _ :: _ :: _, _ => rfl
theorem fs_choose {r : List D} (h : r.length ≠ 2) : forkShape "choose" r = false := by
  match r, h with
  | [], _ => rfl
  | [_], _ => rfl
  | [_, _], h => exact absurd rfl h
  | [x, y, z], _ => simp [forkShape, test_choose.symm]
  | _ :: _ :: _ :: _ :: _, _ => rfl
theorem fs_other {w : Str} {r : List D} (h : w ≠ "test") (h2 : w ≠ "choose") : forkShape w r = false := by
  match r with
  | [] => rfl
  | [_] => rfl
  | [_, _] => simp [forkShape, h2]
  | [x, y, z] => simp [forkShape, h]
  | _ :: _ :: _ :: _ :: _ => rfl
def spFork (K : PySem.W.Frag) : Sp := fun vs H Q _ => ∃ (p : Addr) (xs : List V) (w : Str) (r : List D), vs = [.ref p] ∧ SqT K H p xs ∧ DpAll K H xs (.str w :: r) ∧ (∀ d ∈ r, smallD d = true) ∧ ∀ H', Same H H' → Q (.bl (forkShape w r)) H'
section
variable {P : Program} {w : World} {K : PySem.W.Frag} {mg : Str → Option Value} {base : Heap}
abbrev sFork : Stmt := top 21
theorem scFork : FnScope ["value"] ["value"] (defScope sFork) := ⟨rfl, rfl, rfl, by decide +kernel, rfl, by decide +kernel, by decide +kernel⟩
theorem ok_fork {f fN fT : Addr} {fd fdN fdT : FuncData} (F : Fun K "is_fork" "is_fork" sFork f fd) (GN : FnOk P w K mg base CX0 1 fN fdN ["value"] (spName K)) (TN : Called K mg "is_name" ["value"] fN fdN)
    (GT : FnOk P w K mg base CX0 1 fT fdT ["values"] (spTups K)) (TT : Called K mg "are_tuples" ["values"] fT fdT) (m_len : mg "len" = none) : FnOk P w K mg base CX0 2 f fd ["value"] (spFork K) := by
  refine F.ok scFork (fun vs H Q E h => ?_) (fun cdv A outer s H vs Q E hr h => ?_)
  · obtain ⟨p, xs, wd, r, rfl, _⟩ := h
    rfl
  · obtain ⟨p, xs0, wd, r, rfl, hp, ha, sm, q⟩ := h
    refine ⟨_, (pss_cons (ps_if (pt_cmpR op_eq (pe_ix (ix_tupK (K := K) rfl) (pv 0) pe_int (fun _ _ => rfl)) pe_str (nomark _))
       (pss_one (ps_ret (pe_and (pe_cmpR op_eq (pe_callB (call_len_K (K := K) rfl) (by rfl) m_len PySem.boot_len (pa_cons (pv 0) pa_nil)) pe_int (nomark _)) (pe_and (pe_call GN (hr.mono (by first | decide | omega)) rfl TN.1 TN.2.1 TN.2.2 .nil pass0 (pa_cons (pe_ix (ix_tupK (K := K) rfl) (pv 0) pe_int (fun _ _ => rfl)) pa_nil)) (pe_one (pe_call GT (hr.mono (by first | decide | omega)) rfl TT.1 TT.2.1 TT.2.2 .nil pass0 (pa_cons (pe_slice sl_tupA (pv 0) (po_some pe_int) po_none) pa_nil)))))))
       pss_nil)
       (pss_one (ps_ret (pe_and (pe_cmpR op_eq (pe_ix (ix_tupK (K := K) rfl) (pv 0) pe_int (fun _ _ => rfl)) pe_str (nomark _)) (pe_and (pe_cmpR op_eq (pe_callB (call_len_K (K := K) rfl) (by rfl) m_len PySem.boot_len (pa_cons (pv 0) pa_nil)) pe_int (nomark _)) (pe_one (pe_call GT (hr.mono (by first | decide | omega)) rfl TT.1 TT.2.1 TT.2.2 .nil pass0 (pa_cons (pe_slice sl_tupA (pv 0) (po_some pe_int) po_none) pa_nil)))))))), ?_⟩
    cases ha with
    | @cons x0 xs _ _ h0 ha =>
    cases h0
    have len := dpl ha
    have lenE : (V.str wd :: xs).length = r.length + 1 := by rw [List.length_cons, len]
    refine ⟨_, rfl, p, _, _, _, rfl, rfl, hp, at0, rfl, _, rfl, ?_⟩
    rw [Rw.dec_str]
    by_cases e1 : wd = "test"
    · rw [decide_eq_true e1]
      subst e1
      refine iteT ?_
      refine ⟨_, rfl, p, _, rfl, .inr hp, rfl, _, rfl, ?_⟩
      rw [lenE, int_dec 4 4 rfl]
      by_cases h3 : r.length = 3
      · rw [decide_eq_true (by omega)]
        match r, h3, ha with
        | [n, x, y], _, .cons hn (.cons hx (.cons hy .nil)) =>
        refine iteT ?_
        refine ⟨_, rfl, p, _, _, _, rfl, rfl, hp, at1, _, _, rfl, dp_nv hn (sm n List.mem_cons_self), fun H1 s1 => ⟨_, rfl, ?_⟩⟩
        cases hnm : nameD n with
        | false =>
          have z := q H1 s1
          rw [show forkShape "test" [n, x, y] = false by simp [forkShape, hnm]] at z
          exact iteF z
        | true =>
          refine iteT ?_
          refine ⟨_, rfl, _, rfl, ?_⟩
          dsimp only [tNoPart]
          refine tail_from (i := 2) (s1.tupS hp) rfl fun H2 u s2 hu => ?_
          refine ⟨u, _, [x, y], rfl, hu, (DpAll.cons hx (.cons hy .nil)).same (s1.trans s2), by show 2 ≤ 1000; decide, fun H3 s3 => ?_⟩
          have z := q H3 ((s1.trans s2).trans s3)
          rw [show forkShape "test" [n, x, y] = [x, y].all isTup by simp [forkShape, hnm]] at z
          exact z
      · rw [decide_eq_false (by omega)]
        rw [fs_test h3] at q
        exact iteF (q H (Same.refl H))
    · rw [decide_eq_false e1]
      refine iteF ?_
      refine ⟨_, rfl, p, _, _, _, rfl, rfl, hp, at0, rfl, _, rfl, ?_⟩
      rw [Rw.dec_str]
      by_cases e2 : wd = "choose"
      · rw [decide_eq_true e2]
        subst e2
        refine iteT ?_
        refine ⟨_, rfl, p, _, rfl, .inr hp, rfl, _, rfl, ?_⟩
        rw [lenE, int_dec 3 3 rfl]
        by_cases h3 : r.length = 2
        · rw [decide_eq_true (by omega)]
          match r, h3, ha with
          | [x, y], _, .cons hx (.cons hy .nil) =>
          refine iteT ?_
          refine ⟨_, rfl, _, rfl, ?_⟩
          dsimp only [tNoPart]
          refine tail_from (i := 1) hp rfl fun H2 u s2 hu => ?_
          refine ⟨u, _, [x, y], rfl, hu, (DpAll.cons hx (.cons hy .nil)).same s2, by show 2 ≤ 1000; decide, fun H3 s3 => ?_⟩
          have z := q H3 (s2.trans s3)
          rw [show forkShape "choose" [x, y] = [x, y].all isTup by simp [forkShape]] at z
          exact z
        · rw [decide_eq_false (by omega)]
          rw [fs_choose h3] at q
          exact iteF (q H (Same.refl H))
      · rw [decide_eq_false e2]
        rw [fs_other e1 e2] at q
        exact iteF (q H (Same.refl H))
end
/-! flat -/
theorem flat_app : ∀ as bs : List D, flat (as ++ bs) = flat as ++ flat bs
  | [], bs => by rw [List.nil_append]; rw [flat]; rfl
  | a :: as, bs => by
    rw [List.cons_append, flat, flat, flat_app as bs]
    simp
theorem flat_one (d : D) : flat [d] = d :: flatk d := by rw [flat, flat, List.append_nil]
theorem flatk_kids (d : D) : flatk d = (kids d).flatMap flat := by
  unfold kids
  cases h : forkOf d with
  | none => exact (fork_none h).1
  | some p =>
    obtain ⟨x, y⟩ := p
    rw [(fork_some h).1]
    simp
theorem fork_depth {d : D} {x y : List D} (h : forkOf d = some (x, y)) : PyData.depthAll x + 2 ≤ d.depth ∧ PyData.depthAll y + 2 ≤ d.depth ∧ cntAll x + cntAll y + 3 ≤ cntD d ∧ (goodD d = true → goodAll x = true ∧ goodAll y = true) := by
  unfold forkOf at h
  split at h
  · split at h
    · cases h
      simp only [PyData.depth, PyData.depthAll, cntD, cntAll, goodD, goodAll, Bool.and_eq_true]
      exact ⟨by omega, by omega, by omega, fun g => ⟨g.2.2.1, g.2.2.2.1⟩⟩
    · cases h
  · split at h
    · cases h
      simp only [PyData.depth, PyData.depthAll, cntD, cntAll, goodD, goodAll, Bool.and_eq_true]
      exact ⟨by omega, by omega, by omega, fun g => ⟨g.2.1, g.2.2.1⟩⟩
    · cases h
  · cases h
theorem kid_fit {n : Nat} {d : D} {x : List D} (h : FitD (n + 1) d) (hx : x ∈ kids d) : Fits n x := by
  unfold kids at hx
  cases hf : forkOf d with
  | none => rw [hf] at hx; cases hx
  | some p =>
    obtain ⟨a, b⟩ := p
    rw [hf] at hx
    obtain ⟨d1, d2, d3, d4⟩ := fork_depth hf
    obtain ⟨g1, g2⟩ := d4 h.good
    have hd := h.dep
    have hc := h.cnt
    simp only [List.mem_cons, List.not_mem_nil, or_false] at hx
    rcases hx with rfl | rfl
    · exact ⟨g1, by omega, by omega⟩
    · exact ⟨g2, by omega, by omega⟩
theorem kids_len (d : D) : (kids d).length ≤ 2 := by
  unfold kids
  split
  · exact Nat.le_refl _
  · exact Nat.zero_le _
theorem flat_cnt_aux (N : Nat) : ∀ ds : List D, sizeOf ds < N → (flat ds).length ≤ cntAll ds := by
  induction N with
  | zero => exact fun _ h => absurd h (by omega)
  | succ N ih =>
    intro ds h
    cases ds with
    | nil => rw [flat]; exact Nat.zero_le _
    | cons d ds =>
      simp at h
      rw [flat, cntAll, List.length_cons, List.length_append]
      have h1 := ih ds (by omega)
      have h2 : (flatk d).length + 1 ≤ cntD d := by
        cases hf : forkOf d with
        | none =>
          rw [(fork_none hf).1]
          cases d <;> simp [cntD]
        | some p =>
          obtain ⟨x, y⟩ := p
          obtain ⟨f1, _, _, _, s1, s2⟩ := fork_some hf
          obtain ⟨_, _, d3, _⟩ := fork_depth hf
          rw [f1, List.length_append]
          have a := ih x (by omega)
          have b := ih y (by omega)
          omega
      omega
theorem flat_cnt (ds : List D) : (flat ds).length ≤ cntAll ds := flat_cnt_aux _ ds (Nat.lt_succ_self _)
theorem dp_map_tup {K : PySem.W.Frag} {H : Hp} {ys : List V} {dss : List (List D)} {j : Nat} {v : V} (h : DpAll K H ys (dss.map PyData.tuple)) (e : ys[j]? = some v) : ∃ (p : Addr) (xs : List V) (ds : List D), v = .ref p ∧ dss[j]? = some ds ∧ SqT K H p xs ∧ DpAll K H xs ds := by
  obtain ⟨d, h1, h2⟩ := dp_get h e
  rw [List.getElem?_map, Option.map_eq_some_iff] at h1
  obtain ⟨ds, h3, rfl⟩ := h1
  cases h2 with
  | @tup p xs _ a b => exact ⟨p, xs, ds, rfl, h3, a, b⟩
def spFlat (K : PySem.W.Frag) (n : Nat) : Sp := fun vs H Q _ => ∃ (H0 : Hp) (p : Addr) (xs : List V) (ds : List D), vs = [.ref p] ∧ Same H0 H ∧ SqT K H p xs ∧ DpAll K H0 xs ds ∧ Fits n ds ∧ (∀ d ∈ flat ds, BrOk d) ∧ ∀ H' l ys, Same H H' → H l = none → H' l = some (.lst ys) → DpAll K H0 ys (flat ds) → Q (.ref l) H'
section
variable {P : Program} {w : World} {K : PySem.W.Frag} {mg : Str → Option Value} {base : Heap}
abbrev sFlat : Stmt := top 25
theorem scFlat : FnScope ["items", "found", "item", "inner"] ["items"] (defScope sFlat) := ⟨rfl, rfl, rfl, by decide +kernel, rfl, by decide +kernel, by decide +kernel⟩
theorem ok_flat {f fB : Addr} {fd fdB : FuncData} (F : Fun K "flat" "flat" sFlat f fd) (TF : Called K mg "flat" ["items"] f fd) (GB : FnOk P w K mg base CX0 1 fB fdB ["item"] (spBr K)) (TB : Called K mg "branches" ["item"] fB fdB) : ∀ n, FnOk P w K mg base CX0 (n + 2) f fd ["items"] (spFlat K n) := by
  intro n
  induction n with
  | zero =>
    refine F.ok scFlat (fun vs H Q E h => ?_) (fun cdv A outer s H vs Q E hr h => ?_)
    · obtain ⟨H0, p, xs, ds, rfl, _⟩ := h
      rfl
    · obtain ⟨H0, p, xs, ds, rfl, _, _, _, ft, _⟩ := h
      exact absurd ft.dep (Nat.not_lt_zero _)
  | succ n GF =>
    refine F.ok scFlat (fun vs H Q E h => ?_) (fun cdv A outer s H vs Q E hr h => ?_)
    · obtain ⟨H0, p, xs, ds, rfl, _⟩ := h
      rfl
    · obtain ⟨H0, p, xs, ds, rfl, s0, hp, ha, ft, br, q⟩ := h
      refine ⟨_, (pss_cons (ps_set (i := 1) scFlat.nd rfl (.inl rfl) (pe_lst pa_nil))
       (pss_cons (ps_for PassesOwn.never rfl (pi_tup (pv 0)) (pg_name (i := 2) scFlat.nd rfl (.inl rfl))
       (pss_cons (ps_expr (pe_bm PySem.F.plainAttrs_list PySem.F.slot_list_append PySem.F.type_list_append mt_append (pv 1) (pa_cons (pv 2) pa_nil)))
       (pss_one (ps_for PassesOwn.never rfl (pi_tup (pe_call GB (hr.mono (by first | decide | omega)) rfl TB.1 TB.2.1 TB.2.2 .nil pass0 (pa_cons (pv 2) pa_nil))) (pg_name (i := 3) scFlat.nd rfl (.inl rfl))
       (pss_one (ps_expr (pe_bm PySem.F.plainAttrs_list PySem.F.slot_list_extend PySem.F.type_list_extend mt_extend (pv 1) (pa_cons (pe_call GF (hr.mono (by first | decide | omega)) rfl TF.1 TF.2.1 TF.2.2 .nil pass0 (pa_cons (pv 3) pa_nil)) pa_nil))))))))
       (pss_one (ps_ret (pv 1))))), ?_⟩
      have len := dpl ha
      refine ⟨Nat.zero_le _, fun l nl => ?_⟩
      have cl := flat_cnt ds
      have cc := ft.cnt
      refine ⟨_, rfl, p, rfl, ⟨_, (same_upd nl).tupS hp⟩, for_tup (xs := xs)
        (fun i σ H' => ∃ (ys : List V) (v2 v3 : Option V), σ = [some (.ref p), some (.ref l), v2, v3] ∧ Same H H' ∧ H' l = some (.lst ys) ∧ DpAll K H0 ys (flat (ds.take i)))
        ⟨[], none, none, rfl, same_upd nl, upd_same, by rw [List.take_zero, flat]; exact .nil⟩ ?_ ?_ ?_⟩
      · rintro i σ H' hi ⟨ys, v2, v3, rfl, sm, _⟩
        exact sm.tupS hp
      · rintro i x σ H1 hxi ⟨ys, v2, v3, rfl, s1, hl, hy⟩
        obtain ⟨d, hd, hx⟩ := dp_get ha hxi
        have mem : d ∈ ds := List.mem_of_getElem? hd
        have tk := take_snoc hd
        have fl1 : flat (ds.take (i + 1)) = flat (ds.take i) ++ (d :: flatk d) := by rw [tk, flat_app, flat_one]
        have sub : ∀ e ∈ flat (ds.take (i + 1)), e ∈ flat ds := fun e he => by
          rw [← List.take_append_drop (i + 1) ds, flat_app]
          exact List.mem_append_left _ he
        have le1 : (flat (ds.take (i + 1))).length ≤ 60000 := by
          have z : (flat ds).length = (flat (ds.take (i + 1))).length + (flat (ds.drop (i + 1))).length := by
            rw [← List.length_append, ← flat_app, List.take_append_drop]
          omega
        have brd : BrOk d := br d (sub d (by rw [fl1]; exact List.mem_append_right _ List.mem_cons_self))
        -- found.append(item)
        have ly := dpl hy
        rw [fl1, List.length_append, List.length_cons] at le1
        refine ⟨_, rfl, .inl ⟨rfl, _, SqL.of hl⟩, _, rfl, l, _, _, rfl, rfl, hl, by rw [sizeLine_eq]; omega, ?_⟩
        have s2 : Same H (upd H1 l (.lst (ys ++ [x]))) := same_updN nl s1
        refine ⟨_, rfl, H0, x, d, rfl, s0.trans s2, hx, brd, fun H3 t ks s3 ht hk => ?_⟩
        have lk := dpl hk
        rw [List.length_map] at lk
        have l3 : H3 l = some (.lst (ys ++ [x])) := s3 _ _ upd_same
        have s03 := s2.trans s3
        refine ⟨t, rfl, ⟨_, ht⟩, for_tup (xs := ks) (fun j σ H' => ∃ (zs : List V) (v3 : Option V), σ = [some (.ref p), some (.ref l), some x, v3] ∧ Same H H' ∧ SqT K H' t ks ∧ H' l = some (.lst zs) ∧ DpAll K H0 zs (flat (ds.take i) ++ d :: ((kids d).take j).flatMap flat))
          ⟨ys ++ [x], v3, rfl, s03, ht, l3, dp_app hy (.cons hx .nil)⟩ ?_ ?_ ?_⟩
        · rintro j σ H' hj ⟨zs, v3, rfl, _, ht, _⟩
          exact ht
        · rintro j k σ H4 hkj ⟨zs, v3, rfl, s4, ht4, hl4, hz⟩
          obtain ⟨pk, xk, dk, rfl, hdk, hpk, hak⟩ := dp_map_tup hk hkj
          have memk : dk ∈ kids d := List.mem_of_getElem? hdk
          have subk : ∀ e ∈ flat dk, e ∈ flatk d := fun e he => by
            rw [flatk_kids]
            exact List.mem_flatMap.mpr ⟨dk, memk, he⟩
          refine ⟨_, rfl, .inl ⟨rfl, _, SqL.of hl4⟩, _, rfl, H0, pk, xk, dk, rfl, s0.trans s4, (s0.trans s4).tupS hpk, hak, kid_fit ((ft.mem mem)) memk, fun e he => br e (sub e (by rw [fl1]; exact List.mem_append_right _ (List.mem_cons_of_mem _ (subk e he)))), fun H5 l5 ws s5 n5 h5 hw => ?_⟩
          have lz := dpl hz
          have lw := dpl hw
          have tkk := take_snoc hdk
          have ll : (flat (ds.take i) ++ d :: ((kids d).take (j + 1)).flatMap flat).length ≤ 60000 := by
            have z : ((kids d).flatMap flat).length = (((kids d).take (j + 1)).flatMap flat).length + (((kids d).drop (j + 1)).flatMap flat).length := by
              rw [← List.length_append, ← List.flatMap_append, List.take_append_drop]
            rw [flatk_kids] at le1
            rw [List.length_append, List.length_cons]
            omega
          rw [tkk, List.flatMap_append] at ll
          simp only [List.length_append, List.length_cons, List.flatMap_cons, List.flatMap_nil, List.append_nil] at ll lz
          refine ⟨l, l5, _, _, rfl, rfl, s5 _ _ hl4, h5, by rw [sizeLine_eq]; omega, ?_⟩
          refine ⟨zs ++ ws, some (.ref pk), rfl, same_updN nl (s4.trans s5), sqT_updL (s5 _ _ hl4) (s5.tupS ht4), upd_same, ?_⟩
          rw [tkk, List.flatMap_append]
          have z := dp_app hz hw
          simpa using z
        · rintro σ H4 ⟨zs, v3, rfl, s4, ht4, hl4, hz⟩
          refine ⟨zs, some x, v3, rfl, s4, hl4, ?_⟩
          rw [fl1, flatk_kids]
          rw [lk, List.take_length] at hz
          exact hz
      · rintro σ H1 ⟨ys, v2, v3, rfl, s1, hl, hy⟩
        rw [len, List.take_length] at hy
        exact ⟨_, rfl, q H1 l ys s1 nl hl hy⟩
end
end Tr

/-! P4 -/
/-! ### is_inner, is_shaped, misshapen -/
namespace Tr
open PySem PySem.Spec PyProof.Rows L2 Rw
theorem inV_bl (b : Bool) : ∀ bs : List Bool, inV (.bl b) (bs.map V.bl) = bs.contains b
  | [] => rfl
  | c :: bs => by
    have e : inV (.bl b) ((c :: bs).map V.bl) = ((c == b) || inV (.bl b) (bs.map V.bl)) := by
      cases c <;> cases b <;> rfl
    rw [e, inV_bl b bs, List.contains_cons]
    cases c <;> cases b <;> rfl
theorem flat_bl : ∀ bs : List Bool, (bs.map V.bl).all flatV = true
  | [] => rfl
  | n :: ns => by
    show (flatV (.bl n) && (ns.map V.bl).all flatV) = true
    rw [flat_bl ns]
    rfl
theorem plain_facts {w : Str} (h : w ∈ plain6) : w ≠ "test" ∧ w ≠ "choose" ∧ w ≠ "piece" := ⟨fun e => test_not_plain (e ▸ h), fun e => choose_not_plain (e ▸ h), fun e => piece_not_plain (e ▸ h)⟩
theorem use_facts : ("use" : Str) ≠ "test" ∧ ("use" : Str) ≠ "choose" ∧ ¬ (("use" : Str) = "take" ∨ ("use" : Str) = "give" ∨ ("use" : Str) = "piece") := by decide +kernel
theorem name_str {n : D} (h : nameD n = true) : ∃ z, n = .str z := by
  cases n with
  | str z => exact ⟨z, rfl⟩
  | _ => cases h
theorem tup_of {n : D} (h : isTup n = true) : ∃ z, n = .tuple z := by
  cases n with
  | tuple z => exact ⟨z, rfl⟩
  | _ => cases h
theorem choose_lock : ¬ (("choose" : Str) = "take" ∨ ("choose" : Str) = "give" ∨ ("choose" : Str) = "piece") := by decide +kernel
theorem br_of : (d : D) → (a : Nat) → shaped d a = true → BrOk d
  | .none, _, h => by simp [shaped] at h
  | .bool _, _, h => by simp [shaped] at h
  | .int _, _, h => by simp [shaped] at h
  | .str _, _, h => by simp [shaped] at h
  | .list _, _, h => by simp [shaped] at h
  | .dict _, _, h => by simp [shaped] at h
  | .tuple [], _, h => by simp [shaped] at h
  | .tuple (.none :: _), _, h => by simp [shaped] at h
  | .tuple (.bool _ :: _), _, h => by simp [shaped] at h
  | .tuple (.int _ :: _), _, h => by simp [shaped] at h
  | .tuple (.list _ :: _), _, h => by simp [shaped] at h
  | .tuple (.tuple _ :: _), _, h => by simp [shaped] at h
  | .tuple (.dict _ :: _), _, h => by simp [shaped] at h
  | .tuple [.str w], a, h => by
    rw [shaped] at h
    have e := of_decide_eq_true h
    subst e
    exact ⟨_, _, rfl, fun e => absurd e use_facts.1, fun e => absurd e use_facts.2.1, fun e => absurd e use_facts.2.2⟩
  | .tuple [.str w, n], a, h => by
    rw [shaped, Bool.and_eq_true, Bool.and_eq_true] at h
    obtain ⟨⟨_, h2⟩, h3⟩ := h
    obtain ⟨p1, p2, _⟩ := plain_facts (of_decide_eq_true h2)
    obtain ⟨z, rfl⟩ := name_str h3
    exact ⟨_, _, rfl, fun e => absurd e p1, fun e => absurd e p2, fun _ => ⟨z, [], rfl⟩⟩
  | .tuple [.str w, n, v], a, h => by
    rw [shaped] at h
    simp only [Bool.and_eq_true] at h
    obtain ⟨_, h2⟩ := h
    by_cases e : w = "piece"
    · rw [if_pos e, Bool.and_eq_true] at h2
      obtain ⟨z, rfl⟩ := name_str h2.1
      exact ⟨_, _, rfl, fun x => absurd (e.symm.trans x) test_piece.symm, fun x => absurd (e.symm.trans x) choose_piece.symm, fun _ => ⟨z, [v], rfl⟩⟩
    · rw [if_neg e, Bool.and_eq_true] at h2
      have h3 := h2.2
      simp only [forkShape, Bool.and_eq_true] at h3
      obtain ⟨⟨h4, h5⟩, h6⟩ := h3
      have e2 := of_decide_eq_true h4
      obtain ⟨x, rfl⟩ := tup_of h5
      obtain ⟨y, rfl⟩ := tup_of h6
      subst e2
      exact ⟨_, _, rfl, fun x => absurd x test_choose.symm, fun _ => ⟨x, y, rfl⟩, fun x => absurd x choose_lock⟩
  | .tuple [.str w, n, x, y], a, h => by
    rw [shaped] at h
    simp only [forkShape, Bool.and_eq_true] at h
    obtain ⟨_, ⟨⟨h4, h7⟩, h5⟩, h6⟩ := h
    have e2 := of_decide_eq_true h4
    obtain ⟨x, rfl⟩ := tup_of h5
    obtain ⟨y, rfl⟩ := tup_of h6
    obtain ⟨z, rfl⟩ := name_str h7
    subst e2
    exact ⟨_, _, rfl, fun _ => ⟨_, x, y, rfl⟩, fun e => absurd e test_choose, fun _ => ⟨z, _, rfl⟩⟩
  | .tuple (.str w :: n :: x :: y :: z :: r), _, h => by simp [shaped] at h
theorem br_flat {ds : List D} {a : Nat} (h : (misl ds a).contains true = false) : ∀ e ∈ flat ds, BrOk e ∧ ∃ a', shaped e a' = true := by
  intro e he
  rw [← lnum_flat h] at he
  obtain ⟨p, hp, rfl⟩ := List.mem_map.mp he
  rw [misl_lnum] at h
  have z : lform p.1 p.2 = true := by
    cases hz : lform p.1 p.2 with
    | true => rfl
    | false =>
      have m : true ∈ (lnum ds a).map fun p => !lform p.1 p.2 := List.mem_map.mpr ⟨p, hp, by rw [hz]; rfl⟩
      rw [← List.contains_iff_mem, h] at m
      cases m
  rw [← shaped_lform] at z
  exact ⟨br_of _ _ z, _, z⟩
theorem misl_app : ∀ (as bs : List D) (a : Nat), misl (as ++ bs) a = misl as a ++ misl bs a
  | [], bs, a => by rw [List.nil_append, misl]; rfl
  | d :: as, bs, a => by
    rw [List.cons_append, misl, misl, misl_app as bs]
    simp
theorem misl_one (d : D) (a : Nat) : misl [d] a = (!shaped d a) :: (if shaped d a then misk d a else []) := by rw [misl, misl, List.append_nil]
theorem misk_kids (d : D) (a : Nat) : misk d a = (kids d).flatMap fun x => misl x (a + 1) := by
  unfold kids
  cases h : forkOf d with
  | none => exact (fork_none h).2.1 a
  | some p =>
    obtain ⟨x, y⟩ := p
    rw [(fork_some h).2.1]
    simp
theorem misl_cnt_aux (N : Nat) : ∀ (ds : List D) (a : Nat), sizeOf ds < N → (misl ds a).length ≤ cntAll ds := by
  induction N with
  | zero => exact fun _ _ h => absurd h (by omega)
  | succ N ih =>
    intro ds a h
    cases ds with
    | nil => rw [misl]; exact Nat.zero_le _
    | cons d ds =>
      simp at h
      rw [misl, cntAll, List.length_cons, List.length_append]
      have h1 := ih ds a (by omega)
      have h3 : (if shaped d a then misk d a else []).length ≤ (misk d a).length := by
        split
        · exact Nat.le_refl _
        · exact Nat.zero_le _
      have h2 : (misk d a).length + 1 ≤ cntD d := by
        cases hf : forkOf d with
        | none =>
          rw [(fork_none hf).2.1]
          cases d <;> simp [cntD]
        | some p =>
          obtain ⟨x, y⟩ := p
          obtain ⟨_, f1, _, _, s1, s2⟩ := fork_some hf
          obtain ⟨_, _, d3, _⟩ := fork_depth hf
          rw [f1, List.length_append]
          have a1 := ih x (a + 1) (by omega)
          have b1 := ih y (a + 1) (by omega)
          omega
      omega
theorem misl_cnt (ds : List D) (a : Nat) : (misl ds a).length ≤ cntAll ds := misl_cnt_aux _ ds a (Nat.lt_succ_self _)
theorem one_of {α : Type} {xs : List α} (h : xs.length = 1) : ∃ a, xs = [a] := by
  cases xs with
  | nil => cases h
  | cons a t =>
    have e : t = [] := List.eq_nil_of_length_eq_zero (by rw [List.length_cons] at h; omega)
    exact ⟨a, by rw [e]⟩
theorem two_of {α : Type} {xs : List α} (h : xs.length = 2) : ∃ a b, xs = [a, b] := by
  cases xs with
  | nil => cases h
  | cons a t =>
    obtain ⟨b, rfl⟩ := one_of (xs := t) (by rw [List.length_cons] at h; omega)
    exact ⟨a, b, rfl⟩
theorem drop_cons {α : Type} {xs : List α} {i : Nat} {x : α} (h : xs[i]? = some x) : xs.drop i = x :: xs.drop (i + 1) := by
  obtain ⟨hi, e⟩ := List.getElem?_eq_some_iff.mp h
  rw [List.drop_eq_getElem_cons hi, e]
def spMis (K : PySem.W.Frag) (n : Nat) : Sp := fun vs H Q _ => ∃ (p : Addr) (xs : List V) (ds : List D) (a : Nat), vs = [.ref p, .int (a : Nat)] ∧ SqT K H p xs ∧ DpAll K H xs ds ∧ Fits n ds ∧ ∀ H' l, Same H H' → H l = none → H' l = some (.lst ((misl ds a).map V.bl)) → Q (.ref l) H'
def spSh (K : PySem.W.Frag) (n : Nat) : Sp := fun vs H Q _ => ∃ (v : V) (d : D) (a : Nat), vs = [v, .int (a : Nat)] ∧ Dp K H v d ∧ FitD n d ∧ ∀ H', Same H H' → Q (.bl (shaped d a)) H'
def spInn (K : PySem.W.Frag) (n : Nat) : Sp := fun vs H Q _ => ∃ (v : V) (d : D), vs = [v] ∧ Dp K H v d ∧ FitD n d ∧ ∀ H', Same H H' → Q (.bl (innerP d)) H'
section
variable {P : Program} {w : World} {K : PySem.W.Frag} {mg : Str → Option Value} {base : Heap}
abbrev sIn : Stmt := top 23
theorem scIn : FnScope ["value", "inside", "item"] ["value"] (defScope sIn) := ⟨rfl, rfl, rfl, by decide +kernel, rfl, by decide +kernel, by decide +kernel⟩
theorem ok_inn {f fM fF iw : Addr} {fd fdM fdF : FuncData} (F : Fun K "is_inner" "is_inner" sIn f fd) (TM : Called K mg "misshapen" ["items", "around"] fM fdM) (TF : Called K mg "flat" ["items"] fF fdF) (n : Nat)
    (GM : FnOk P w K mg base CX0 (2 * n + 4) fM fdM ["items", "around"] (spMis K n)) (GF : FnOk P w K mg base CX0 (n + 2) fF fdF ["items"] (spFlat K n)) (m_isinstance : mg "isinstance" = none) (m_tuple : mg "tuple" = none) (m_all : mg "all" = none) (m_len : mg "len" = none)
    (gI : mg "INNER_WORDS" = some (.ref iw)) (hI : ∀ H, SqT K H iw (inner3.map V.str)) {tI : Tok} (mI : mg "MOST_INNER" = some (.int 4 tI)) : FnOk P w K mg base CX0 (2 * n + 5) f fd ["value"] (spInn K (n + 1)) := by
  refine F.ok scIn (fun vs H Q E h => ?_) (fun cdv A outer s H vs Q E hr h => ?_)
  · obtain ⟨v, d, rfl, _⟩ := h
    rfl
  · obtain ⟨v, d, rfl, hd, ft, q⟩ := h
    refine ⟨_, (pss_cons (ps_if (PW.pt (pw_or (pt_not (pt_val (pe_callB (call_isiKK (K := K) rfl) (by rfl) m_isinstance (by decide +kernel) (pa_cons (pv 0) (pa_cons (pe_bltn (v := .ty "tuple") (by rfl) m_tuple (by decide +kernel) rfl) pa_nil))))) (pw_or (pt_cmpR op_eq (pe_callB (call_len_K (K := K) rfl) (by rfl) m_len PySem.boot_len (pa_cons (pv 0) pa_nil)) pe_int (nomark _)) (pw_or1 (pt_cmpR (op_in_seqKK (K := K) rfl) pe_bl (pe_call GM (hr.mono (by first | decide | omega)) rfl TM.1 TM.2.1 TM.2.2 .nil pass0 (pa_cons (pv 0) (pa_cons pe_int pa_nil))) (by rfl))))))
       (pss_one (ps_ret pe_bl))
       pss_nil)
       (pss_cons (ps_set (i := 1) scIn.nd rfl (.inl rfl) (pe_call GF (hr.mono (by first | decide | omega)) rfl TF.1 TF.2.1 TF.2.2 .nil pass0 (pa_cons (pv 0) pa_nil)))
       (pss_one (ps_ret (pe_and (pe_cmpR op_le (pe_callB (call_len_K (K := K) rfl) (by rfl) m_len PySem.boot_len (pa_cons (pv 1) pa_nil)) (pe_glob (v := .int 4) rfl mI ⟨_, rfl⟩) (nomark _)) (pe_one (pe_callB (cr_all rfl) (by rfl) m_all (by decide +kernel) (pa_cons (pe_lc (own := [("item", 2)]) (g := gName 2) (tt := tYes) (by rfl) scIn.nd (pi_list (pv 1)) (blkOk_by (own := [("item", 2)]) (N := ["value", "inside", "item"]) (sc := defScope sIn) (by decide +kernel)) (fun _ _ _ _ _ => (pg_name (i := 2) scIn.nd rfl (Or.inl rfl))) (fun _ _ _ _ _ => pts_nil) (fun _ _ _ _ _ => (pe_cmpR (op_in_seqKK (K := K) rfl) (pe_ix (ix_tupK (K := K) rfl) (pv 2) pe_int (fun _ _ => rfl)) (pe_glob (v := .ref iw) rfl gI rfl) (by rfl)))) pa_nil)))))))), ?_⟩
    refine ⟨_, rfl, _, _, _, _, _, rfl, .ty _, dp_ty hd, kit_tup d, _, rfl, ?_⟩
    cases htp : isTup d with
    | false =>
      have e : innerP d = false := by
        cases d with
        | tuple _ => cases htp
        | _ => simp [innerP]
      rw [e] at q
      exact iteT (iteT (q H (Same.refl H)))
    | true =>
      refine iteF ?_
      obtain ⟨ds, rfl⟩ := tup_of htp
      rw [innerP] at q
      cases hd with
      | @tup p xs _ hp ha =>
      have len := dpl ha
      refine ⟨_, rfl, p, _, rfl, .inr hp, rfl, _, rfl, ?_⟩
      rw [len, int_dec 0 0 rfl]
      by_cases e0 : ds.length = 0
      · rw [decide_eq_true e0]
        rw [List.eq_nil_of_length_eq_zero e0] at q
        exact iteT (iteT (q H (Same.refl H)))
      · rw [decide_eq_false e0]
        have e1 : ds.isEmpty = false := by
          cases ds with
          | nil => exact absurd rfl e0
          | cons _ _ => rfl
        rw [e1] at q
        refine iteF ?_
        refine ⟨_, rfl, p, xs, ds, 0, rfl, hp, ha, ft.inside, fun H1 l s1 nl hl => ?_⟩
        refine ⟨l, _, rfl, .inl (SqL.of hl), rfl, flat_bl _, _, rfl, ?_⟩
        rw [if_neg Bool.false_ne_true, inV_bl]
        cases hc : (misl ds 0).contains true with
        | true =>
          rw [hc] at q
          exact iteT (q H1 s1)
        | false =>
          rw [hc] at q
          refine iteF ?_
          refine ⟨_, rfl, H, p, xs, ds, rfl, s1, s1.tupS hp, ha, ft.inside, fun e he => (br_flat hc e he).1, fun H2 l2 ys s2 n2 h2 hy => ?_⟩
          have s12 := s1.trans s2
          have ly := dpl hy
          refine ⟨_, rfl, l2, _, rfl, .inl (SqL.of h2), _, _, rfl, rfl, _, rfl, ?_⟩
          have e3 : decide ((ys.length : Int) ≤ 4) = decide ((flat ds).length ≤ 4) := by
            rw [ly]
            by_cases h : (flat ds).length ≤ 4
            · rw [decide_eq_true h, decide_eq_true (by omega)]
            · rw [decide_eq_false h, decide_eq_false (by omega)]
          rw [e3]
          cases h4 : decide ((flat ds).length ≤ 4) with
          | false =>
            rw [h4] at q
            exact iteF (q H2 s12)
          | true =>
            rw [h4] at q
            refine iteT ?_
            have h5 := of_decide_eq_true h4
            refine ⟨_, rfl, l2, rfl, ⟨_, SqL.of h2⟩, fun L nL => lc_list (K := K) (a := l2) (xs := ys) (fun i H' => Same H2 H' ∧ H' L = some (.lst (((flat ds).take i).map fun d => V.bl (wordIn d)))) ⟨same_upd nL, upd_same⟩ (fun i H' _ h => h.1.seq (SqL.of h2)) ?_ ?_⟩
            · rintro i x H3 hxi ⟨s3, e1⟩
              obtain ⟨d, hd1, hdx⟩ := dp_get hy hxi
              obtain ⟨wd, r, rfl, _⟩ := (br_flat hc d (List.mem_of_getElem? hd1)).1
              refine ⟨rfl, ?_⟩
              dsimp only [tYes]
              rw [if_pos rfl]
              cases hdx with
              | @tup px xx _ hpx hax =>
              cases hax with
              | @cons x0 xx _ _ h0 hax =>
              cases h0
              refine ⟨_, rfl, px, _, _, _, rfl, rfl, (s12.trans s3).tupS hpx, at0, iw, _, rfl, .inr (hI H3), rfl, flat_txt _, ?_⟩
              rw [if_neg Bool.false_ne_true, inV_txt]
              refine ⟨_, e1, ?_, same_updN nL s3, ?_⟩
              · rw [List.length_map, List.length_take, sizeLine_eq]
                omega
              · rw [upd_same, take_snoc hd1, List.map_append]
                rfl
            · rintro H3 ⟨s3, e1⟩
              rw [ly, List.take_length] at e1
              have e6 : ((flat ds).map fun d => V.bl (wordIn d)) = ((flat ds).map wordIn).map V.bl := by rw [List.map_map]; rfl
              rw [e6] at e1
              refine ⟨L, _, rfl, .inl (.inl e1), ?_⟩
              have e4 : ((flat ds).map wordIn).all id = (flat ds).all wordIn := by rw [List.all_map]; rfl
              rw [e4]
              exact q H3 (s12.trans s3)
abbrev sSh : Stmt := top 20
theorem scSh : FnScope ["value", "around", "word"] ["value", "around"] (defScope sSh) := ⟨rfl, rfl, rfl, by decide +kernel, rfl, by decide +kernel, by decide +kernel⟩
theorem ok_sh {f fN fI fK pw : Addr} {fd fdN fdI fdK : FuncData} (F : Fun K "is_shaped" "is_shaped" sSh f fd) (TN : Called K mg "is_name" ["value"] fN fdN) (TI : Called K mg "is_inner" ["value"] fI fdI) (TK : Called K mg "is_fork" ["value"] fK fdK) (n : Nat)
    (GN : FnOk P w K mg base CX0 1 fN fdN ["value"] (spName K)) (GI : FnOk P w K mg base CX0 (2 * n + 3) fI fdI ["value"] (spInn K n)) (GK : FnOk P w K mg base CX0 2 fK fdK ["value"] (spFork K))
    (m_isinstance : mg "isinstance" = none) (m_tuple : mg "tuple" = none) (m_str : mg "str" = none) (m_len : mg "len" = none)
    (gP : mg "PLAIN_WORDS" = some (.ref pw)) (hP : ∀ H, SqT K H pw (plain6.map V.str)) {tW : Tok} (mW : mg "MOST_WITHIN" = some (.int 3 tW)) : FnOk P w K mg base CX0 (2 * n + 5) f fd ["value", "around"] (spSh K (n + 1)) := by
  refine F.ok scSh (fun vs H Q E h => ?_) (fun cdv A outer s H vs Q E hr h => ?_)
  · obtain ⟨v, d, a, rfl, _⟩ := h
    rfl
  · obtain ⟨v, d, a, rfl, hd, ft, q⟩ := h
    refine ⟨_, (pss_cons (ps_if (PW.pt (pw_or (pt_not (pt_val (pe_callB (call_isiKK (K := K) rfl) (by rfl) m_isinstance (by decide +kernel) (pa_cons (pv 0) (pa_cons (pe_bltn (v := .ty "tuple") (by rfl) m_tuple (by decide +kernel) rfl) pa_nil))))) (pw_or (pt_cmpR op_eq (pe_callB (call_len_K (K := K) rfl) (by rfl) m_len PySem.boot_len (pa_cons (pv 0) pa_nil)) pe_int (nomark _)) (pw_or1 (pt_not (pt_val (pe_callB (call_isiKK (K := K) rfl) (by rfl) m_isinstance (by decide +kernel) (pa_cons (pe_ix (ix_tupK (K := K) rfl) (pv 0) pe_int (fun _ _ => rfl)) (pa_cons (pe_bltn (v := .ty "str") (by rfl) m_str (by decide +kernel) rfl) pa_nil)))))))))
       (pss_one (ps_ret pe_bl))
       pss_nil)
       (pss_cons (ps_set (i := 2) scSh.nd rfl (.inl rfl) (pe_ix (ix_tupK (K := K) rfl) (pv 0) pe_int (fun _ _ => rfl)))
       (pss_cons (ps_if (pt_cmpR op_eq (pv 2) pe_str (nomark _))
       (pss_one (ps_ret (pe_cmpR op_eq (pe_callB (call_len_K (K := K) rfl) (by rfl) m_len PySem.boot_len (pa_cons (pv 0) pa_nil)) pe_int (nomark _))))
       pss_nil)
       (pss_cons (ps_if (pt_cmpR (op_in_seqKK (K := K) rfl) (pv 2) (pe_glob (v := .ref pw) rfl gP rfl) (by rfl))
       (pss_one (ps_ret (pe_and (pe_cmpR op_eq (pe_callB (call_len_K (K := K) rfl) (by rfl) m_len PySem.boot_len (pa_cons (pv 0) pa_nil)) pe_int (nomark _)) (pe_one (pe_call GN (hr.mono (by first | decide | omega)) rfl TN.1 TN.2.1 TN.2.2 .nil pass0 (pa_cons (pe_ix (ix_tupK (K := K) rfl) (pv 0) pe_int (fun _ _ => rfl)) pa_nil))))))
       pss_nil)
       (pss_cons (ps_if (pt_cmpR op_eq (pv 2) pe_str (nomark _))
       (pss_one (ps_ret (pe_and (pe_cmpR op_eq (pe_callB (call_len_K (K := K) rfl) (by rfl) m_len PySem.boot_len (pa_cons (pv 0) pa_nil)) pe_int (nomark _)) (pe_and (pe_call GN (hr.mono (by first | decide | omega)) rfl TN.1 TN.2.1 TN.2.2 .nil pass0 (pa_cons (pe_ix (ix_tupK (K := K) rfl) (pv 0) pe_int (fun _ _ => rfl)) pa_nil)) (pe_one (pe_call GI (hr.mono (by first | decide | omega)) rfl TI.1 TI.2.1 TI.2.2 .nil pass0 (pa_cons (pe_ix (ix_tupK (K := K) rfl) (pv 0) pe_int (fun _ _ => rfl)) pa_nil)))))))
       pss_nil)
       (pss_one (ps_ret (pe_and (pe_cmpR op_lt (pv 1) (pe_glob (v := .int 3) rfl mW ⟨_, rfl⟩) (nomark _)) (pe_one (pe_call GK (hr.mono (by first | decide | omega)) rfl TK.1 TK.2.1 TK.2.2 .nil pass0 (pa_cons (pv 0) pa_nil))))))))))), ?_⟩
    refine ⟨_, rfl, _, _, _, _, _, rfl, .ty _, dp_ty hd, kit_tup d, _, rfl, ?_⟩
    cases htp : isTup d with
    | false =>
      have e : shaped d a = false := by
        cases d with
        | tuple _ => cases htp
        | _ => simp [shaped]
      rw [e] at q
      exact iteT (iteT (q H (Same.refl H)))
    | true =>
      refine iteF ?_
      obtain ⟨ds, rfl⟩ := tup_of htp
      cases hd with
      | @tup p xs _ hp ha =>
      have len := dpl ha
      refine ⟨_, rfl, p, _, rfl, .inr hp, rfl, _, rfl, ?_⟩
      rw [len, int_dec 0 0 rfl]
      cases ha with
      | nil =>
        have e : shaped (.tuple []) a = false := by simp [shaped]
        rw [e] at q
        rw [decide_eq_true (p := ([] : List D).length = 0) rfl]
        exact iteT (iteT (q H (Same.refl H)))
      | @cons x0 xs d0 ds h0 ha =>
        rw [decide_eq_false (by rw [List.length_cons]; omega)]
        refine iteF ?_
        refine ⟨_, rfl, p, _, _, _, rfl, rfl, hp, at0, _, _, _, _, _, rfl, .ty _, dp_ty h0, kit_str d0, _, rfl, ?_⟩
        cases hst : isStr d0 with
        | false =>
          have e : shaped (.tuple (d0 :: ds)) a = false := by
            cases d0 with
            | str _ => cases hst
            | _ => simp [shaped]
          rw [e] at q
          exact iteT (q H (Same.refl H))
        | true =>
          obtain ⟨wd, rfl⟩ : ∃ z, d0 = .str z := by
            cases d0 with
            | str z => exact ⟨z, rfl⟩
            | _ => cases hst
          cases h0
          refine iteF ?_
          refine ⟨_, rfl, p, _, _, _, rfl, rfl, hp, at0, ?_⟩
          refine ⟨_, rfl, rfl, _, rfl, ?_⟩
          rw [Rw.dec_str]
          have lenE : (V.str wd :: xs).length = ds.length + 1 := by rw [List.length_cons, dpl ha]
          have fit : ∀ d ∈ ds, FitD n d := fun d hd => ft.inside.tail.mem hd
          by_cases h1 : wd = "use"
          · rw [decide_eq_true h1]
            refine iteT ?_
            refine ⟨_, rfl, p, _, rfl, .inr hp, rfl, ?_⟩
            rw [lenE, int_dec 1 1 rfl]
            have e : shaped (.tuple (.str wd :: ds)) a = decide (ds.length + 1 = 1) := by
              match ds with
              | [] => simp [shaped, h1]
              | [_] => simp [shaped, h1]
              | [_, _] => simp [shaped, h1]
              | [_, _, _] => simp [shaped, h1]
              | _ :: _ :: _ :: _ :: _ => simp [shaped]
            rw [← e]
            exact q H (Same.refl H)
          · rw [decide_eq_false h1]
            refine iteF ?_
            refine ⟨_, rfl, pw, _, rfl, .inr (hP H), rfl, flat_txt _, _, rfl, ?_⟩
            rw [if_neg Bool.false_ne_true, inV_txt]
            by_cases h2 : wd ∈ plain6
            · rw [decide_eq_true h2]
              refine iteT ?_
              refine ⟨_, rfl, p, _, rfl, .inr hp, rfl, _, rfl, ?_⟩
              rw [lenE, int_dec 2 2 rfl]
              by_cases h3 : ds.length = 1
              · rw [decide_eq_true (by omega)]
                obtain ⟨nd, rfl⟩ := one_of h3
                cases ha with
                | cons hn ha =>
                cases ha
                refine iteT ?_
                refine ⟨_, rfl, p, _, _, _, rfl, rfl, hp, at1, _, _, rfl, dp_nv hn (fit nd List.mem_cons_self).small, fun H1 s1 => ?_⟩
                have e : shaped (.tuple [.str wd, nd]) a = nameD nd := by simp [shaped, h1, h2]
                rw [← e]
                exact q H1 s1
              · rw [decide_eq_false (by omega)]
                have e : shaped (.tuple (.str wd :: ds)) a = false := by
                  match ds, h3 with
                  | [], _ => simp [shaped, h1]
                  | [_], h3 => exact absurd rfl h3
                  | [_, _], _ => simp [shaped, h2]
                  | [_, _, _], _ => simp [shaped, h2]
                  | _ :: _ :: _ :: _ :: _, _ => simp [shaped]
                rw [e] at q
                exact iteF (q H (Same.refl H))
            · rw [decide_eq_false h2]
              refine iteF ?_
              refine ⟨_, rfl, rfl, _, rfl, ?_⟩
              rw [Rw.dec_str]
              by_cases h4 : wd = "piece"
              · rw [decide_eq_true h4]
                refine iteT ?_
                refine ⟨_, rfl, p, _, rfl, .inr hp, rfl, _, rfl, ?_⟩
                rw [lenE, int_dec 3 3 rfl]
                by_cases h3 : ds.length = 2
                · rw [decide_eq_true (by omega)]
                  obtain ⟨nd, vd, rfl⟩ := two_of h3
                  cases ha with
                  | cons hn ha =>
                  cases ha with
                  | cons hv ha =>
                  cases ha
                  refine iteT ?_
                  refine ⟨_, rfl, p, _, _, _, rfl, rfl, hp, at1, _, _, rfl, dp_nv hn (fit nd List.mem_cons_self).small, fun H1 s1 => ⟨_, rfl, ?_⟩⟩
                  have e : shaped (.tuple [.str wd, nd, vd]) a = (nameD nd && innerP vd) := by simp [shaped, h1, h2, h4, piece_use, piece_not_plain]
                  rw [e] at q
                  cases hnm : nameD nd with
                  | false =>
                    rw [hnm] at q
                    exact iteF (q H1 s1)
                  | true =>
                    rw [hnm] at q
                    refine iteT ?_
                    refine ⟨_, rfl, p, _, _, _, rfl, rfl, s1.tupS hp, at2, _, _, rfl, hv.same s1, fit vd (List.mem_cons_of_mem _ List.mem_cons_self), fun H2 s2 => ?_⟩
                    exact q H2 (s1.trans s2)
                · rw [decide_eq_false (by omega)]
                  have e : shaped (.tuple (.str wd :: ds)) a = false := by
                    match ds, h3 with
                    | [], _ => simp [shaped, h1]
                    | [_], _ => simp [shaped, h2]
                    | [_, _], h3 => exact absurd rfl h3
                    | [_, _, _], _ => simp [shaped, h4]
                    | _ :: _ :: _ :: _ :: _, _ => simp [shaped]
                  rw [e] at q
                  exact iteF (q H (Same.refl H))
              · rw [decide_eq_false h4]
                refine iteF ?_
                have e : shaped (.tuple (.str wd :: ds)) a = (decide (a < 3) && forkShape wd ds) := by
                  match ds with
                  | [] => simp [shaped, h1, forkShape]
                  | [_] => simp [shaped, h2, forkShape]
                  | [_, _] => simp [shaped, h1, h2, h4]
                  | [_, _, _] => simp [shaped, h1, h2, h4]
                  | _ :: _ :: _ :: _ :: _ => simp [shaped, forkShape]
                rw [e] at q
                refine ⟨_, rfl, _, _, rfl, rfl, _, rfl, ?_⟩
                have e3 : decide ((a : Int) < 3) = decide (a < 3) := by
                  by_cases h : a < 3
                  · rw [decide_eq_true h, decide_eq_true (by omega)]
                  · rw [decide_eq_false h, decide_eq_false (by omega)]
                rw [e3]
                cases h5 : decide (a < 3) with
                | false =>
                  rw [h5] at q
                  exact iteF (q H (Same.refl H))
                | true =>
                  rw [h5] at q
                  refine iteT ?_
                  exact ⟨_, rfl, p, _, wd, ds, rfl, hp, .cons (.str wd) ha, fun d hd => (fit d hd).small, q⟩
abbrev sMis : Stmt := top 19
theorem scMis : FnScope ["items", "around", "found", "item", "fit", "inner"] ["items", "around"] (defScope sMis) := ⟨rfl, rfl, rfl, by decide +kernel, rfl, by decide +kernel, by decide +kernel⟩
theorem ok_mis {f fS fB : Addr} {fd fdS fdB : FuncData} (F : Fun K "misshapen" "misshapen" sMis f fd) (TM : Called K mg "misshapen" ["items", "around"] f fd) (TS : Called K mg "is_shaped" ["value", "around"] fS fdS) (TB : Called K mg "branches" ["item"] fB fdB) (n : Nat)
    (GS : FnOk P w K mg base CX0 (2 * n + 5) fS fdS ["value", "around"] (spSh K (n + 1))) (GM : FnOk P w K mg base CX0 (2 * n + 4) f fd ["items", "around"] (spMis K n)) (GB : FnOk P w K mg base CX0 1 fB fdB ["item"] (spBr K)) : FnOk P w K mg base CX0 (2 * n + 6) f fd ["items", "around"] (spMis K (n + 1)) := by
  refine F.ok scMis (fun vs H Q E h => ?_) (fun cdv A outer s H vs Q E hr h => ?_)
  · obtain ⟨p, xs, ds, a, rfl, _⟩ := h
    rfl
  · obtain ⟨p, xs, ds, a, rfl, hp, ha, ft, q⟩ := h
    refine ⟨_, (pss_cons (ps_set (i := 2) scMis.nd rfl (.inl rfl) (pe_lst pa_nil))
       (pss_cons (ps_for PassesOwn.never rfl (pi_tup (pv 0)) (pg_name (i := 3) scMis.nd rfl (.inl rfl))
       (pss_cons (ps_set (i := 4) scMis.nd rfl (.inl rfl) (pe_call GS (hr.mono (by first | decide | omega)) rfl TS.1 TS.2.1 TS.2.2 .nil pass0 (pa_cons (pv 3) (pa_cons (pv 1) pa_nil))))
       (pss_cons (ps_expr (pe_bm PySem.F.plainAttrs_list PySem.F.slot_list_append PySem.F.type_list_append mt_append (pv 2) (pa_cons (pe_not (pv 4)) pa_nil)))
       (pss_one (ps_if (pt_val (pv 4))
       (pss_one (ps_for PassesOwn.never rfl (pi_tup (pe_call GB (hr.mono (by first | decide | omega)) rfl TB.1 TB.2.1 TB.2.2 .nil pass0 (pa_cons (pv 3) pa_nil))) (pg_name (i := 5) scMis.nd rfl (.inl rfl))
       (pss_one (ps_expr (pe_bm PySem.F.plainAttrs_list PySem.F.slot_list_extend PySem.F.type_list_extend mt_extend (pv 2) (pa_cons (pe_call GM (hr.mono (by first | decide | omega)) rfl TM.1 TM.2.1 TM.2.2 .nil pass0 (pa_cons (pv 5) (pa_cons (pe_op op_add (pv 1) pe_int) pa_nil))) pa_nil))))))
       pss_nil)))))
       (pss_one (ps_ret (pv 2))))), ?_⟩
    have len := dpl ha
    refine ⟨Nat.zero_le _, fun l nl => ?_⟩
    have cl := misl_cnt ds a
    have cc := ft.cnt
    have small : ∀ as bs : List Bool, as ++ bs = misl ds a → as.length < sizeLine := fun as bs e => by
      have z := congrArg List.length e
      rw [List.length_append] at z
      rw [sizeLine_eq]
      omega
    refine ⟨_, rfl, p, rfl, ⟨_, (same_upd nl).tupS hp⟩, for_tup (xs := xs)
      (fun i σ H' => ∃ (done : List Bool) (v3 v4 v5 : Option V), σ = [some (.ref p), some (.int (a : Nat)), some (.ref l), v3, v4, v5] ∧ Same H H' ∧ H' l = some (.lst (done.map V.bl)) ∧ done ++ misl (ds.drop i) a = misl ds a)
      ⟨[], none, none, none, rfl, same_upd nl, upd_same, rfl⟩ ?_ ?_ ?_⟩
    · rintro i σ H' hi ⟨_, v3, v4, v5, rfl, sm, _⟩
      exact sm.tupS hp
    · rintro i x σ H1 hxi ⟨done, v3, v4, v5, rfl, s1, hl, e⟩
      obtain ⟨d, hd, hx⟩ := dp_get ha hxi
      have mem : d ∈ ds := List.mem_of_getElem? hd
      rw [drop_cons hd, misl] at e
      refine ⟨_, rfl, _, rfl, x, d, a, rfl, hx.same s1, ft.mem mem, fun H2 s2 => ?_⟩
      have s12 := s1.trans s2
      refine ⟨_, rfl, .inl ⟨rfl, _, SqL.of (s2 _ _ hl)⟩, _, rfl, _, rfl, l, _, _, rfl, rfl, s2 _ _ hl, by rw [List.length_map]; exact small _ _ e, ?_⟩
      have hl3 : (upd H2 l (.lst (done.map V.bl ++ [V.bl (!shaped d a)]))) l = some (.lst ((done ++ [!shaped d a]).map V.bl)) := by rw [upd_same, List.map_append]; rfl
      have s3 : Same H (upd H2 l (.lst (done.map V.bl ++ [V.bl (!shaped d a)]))) := same_updN nl s12
      generalize upd H2 l (.lst (done.map V.bl ++ [V.bl (!shaped d a)])) = H3 at hl3 s3
      refine ⟨_, rfl, _, rfl, ?_⟩
      cases hs : shaped d a with
      | false =>
        rw [hs] at e hl3
        refine iteF ⟨done ++ [true], _, _, _, rfl, s3, hl3, ?_⟩
        rw [← e]
        simp
      | true =>
        rw [hs, if_pos rfl, misk_kids] at e
        rw [hs] at hl3
        refine iteT ?_
        refine ⟨_, rfl, H, x, d, rfl, s3, hx, br_of d a hs, fun H4 t ks s4 ht hk => ?_⟩
        have lk := dpl hk
        rw [List.length_map] at lk
        refine ⟨t, rfl, ⟨_, ht⟩, for_tup (xs := ks) (fun j σ H' => ∃ (dn : List Bool) (v5 : Option V), σ = [some (.ref p), some (.int (a : Nat)), some (.ref l), some x, some (.bl true), v5] ∧ Same H H' ∧ SqT K H' t ks ∧ H' l = some (.lst (dn.map V.bl)) ∧ dn ++ (((kids d).drop j).flatMap (fun x => misl x (a + 1)) ++ misl (ds.drop (i + 1)) a) = misl ds a)
          ⟨done ++ [false], v5, rfl, s3.trans s4, ht, s4 _ _ hl3, by rw [← e]; simp⟩ ?_ ?_ ?_⟩
        · rintro j σ H' hj ⟨dn, v5, rfl, _, ht, _⟩
          exact ht
        · rintro j k σ H5 hkj ⟨dn, v5, rfl, s5, ht5, hl5, e5⟩
          obtain ⟨pk, xk, dk, rfl, hdk, hpk, hak⟩ := dp_map_tup hk hkj
          have memk : dk ∈ kids d := List.mem_of_getElem? hdk
          rw [drop_cons hdk, List.flatMap_cons] at e5
          refine ⟨_, rfl, .inl ⟨rfl, _, SqL.of hl5⟩, _, rfl, _, rfl, _, _, rfl, rfl, pk, xk, dk, a + 1, rfl, s5.tupS hpk, hak.same s5, kid_fit (ft.mem mem) memk, fun H6 l6 s6 n6 h6 => ?_⟩
          refine ⟨l, l6, _, _, rfl, rfl, s6 _ _ hl5, h6, ?_, ?_⟩
          · have z := congrArg List.length e5
            simp only [List.length_append] at z
            rw [List.length_map, List.length_map, sizeLine_eq]
            omega
          refine ⟨dn ++ misl dk (a + 1), some (.ref pk), rfl, same_updN nl (s5.trans s6), sqT_updL (s6 _ _ hl5) (s6.tupS ht5), by rw [upd_same, List.map_append], ?_⟩
          rw [← e5]
          simp
        · rintro σ H5 ⟨dn, v5, rfl, s5, ht5, hl5, e5⟩
          refine ⟨dn, _, _, _, rfl, s5, hl5, ?_⟩
          rw [lk, List.drop_length] at e5
          exact e5
    · rintro σ H1 ⟨done, v3, v4, v5, rfl, s1, hl, e⟩
      rw [len, List.drop_length, misl, List.append_nil] at e
      rw [e] at hl
      exact ⟨_, rfl, q H1 l s1 nl hl⟩
end
end Tr

/-! M3 -/
/-! ### takes and gives over a tree, the locks held, as plain functions -/
namespace Tr
open PySem PySem.Spec PyProof.Rows L2 Rw
def giveD (n : Str) : D := .tuple [.str "give", .str n]
/-- is_wrong -/
def isWr (d : D) (later : List D) (ar t : List Str) : Bool :=
  if wD d = "give" then !decide (t.drop (t.length - 1) = [nmD d])
  else if wD d = "take" then (if nmD d ∈ ar ++ t then true else !(later.any fun z => PyData.eqv z (giveD (nmD d))))
  else decide (wD d = "piece") && decide (nmD d ∈ ar ++ t)
mutual
/-- wrong_locks, from the names taken so far -/
def wl : List D → List Str → List Str → List Bool
  | [], _, _ => []
  | d :: ds, t, ar => isWr d ds ar t :: (wlk d (ar ++ behindD d t) ++ wl ds (behindD d t) ar)
termination_by ds => sizeOf ds
def wlk : D → List Str → List Bool
  | .tuple [.str w, _, .tuple x, .tuple y], ar => if w = "test" then wl x [] ar ++ wl y [] ar else []
  | .tuple [.str w, .tuple x, .tuple y], ar => if w = "choose" then wl x [] ar ++ wl y [] ar else []
  | _, _ => []
termination_by d => sizeOf d
end
mutual
/-- held_along -/
def hl : List D → List Str → List (List Str)
  | [], _ => []
  | d :: ds, h => h :: (hlk d h ++ hl ds (behindD d h))
termination_by ds => sizeOf ds
def hlk : D → List Str → List (List Str)
  | .tuple [.str w, _, .tuple x, .tuple y], h => if w = "test" then hl x h ++ hl y h else []
  | .tuple [.str w, .tuple x, .tuple y], h => if w = "choose" then hl x h ++ hl y h else []
  | _, _ => []
termination_by d => sizeOf d
end
mutual
/-- ways_along: the next places of each item, the first item at s, behind the last one b -/
def wa : List D → Nat → Nat → List (List Nat)
  | [], _, _ => []
  | d :: ds, s, b => wo d s (if ds.isEmpty then b else s + (flat [d]).length) ++ wa ds (s + (flat [d]).length) b
termination_by ds => (sizeOf ds, 0)
/-- ways_of -/
def wo : D → Nat → Nat → List (List Nat)
  | .tuple [.str w, n, .tuple x, .tuple y], s, f => if w = "test" then woF x y s f ++ wa x (s + 1) f ++ wa y (s + 1 + (flat x).length) f else [[f]]
  | .tuple [.str w, .tuple x, .tuple y], s, f => if w = "choose" then woF x y s f ++ wa x (s + 1) f ++ wa y (s + 1 + (flat x).length) f else [[f]]
  | _, _, f => [[f]]
termination_by d => (sizeOf d, 0)
def woF : List D → List D → Nat → Nat → List (List Nat)
  | x, y, s, f => [[if x.isEmpty then f else s + 1, if y.isEmpty then f else s + 1 + (flat x).length]]
termination_by (0, 0)
end
theorem fork2_none {d : D} (h : forkOf d = none) : (∀ a, wlk d a = []) ∧ (∀ a, hlk d a = []) ∧ ∀ s f, wo d s f = [[f]] := by
  unfold forkOf at h
  split at h
  · split at h
    · cases h
    · next hw => exact ⟨fun a => by rw [wlk, if_neg hw], fun a => by rw [hlk, if_neg hw], fun s f => by rw [wo, if_neg hw]⟩
  · split at h
    · cases h
    · next hw => exact ⟨fun a => by rw [wlk, if_neg hw], fun a => by rw [hlk, if_neg hw], fun s f => by rw [wo, if_neg hw]⟩
  · next h1 h2 =>
    refine ⟨fun a => ?_, fun a => ?_, fun s f => ?_⟩
    · rw [wlk] <;> assumption
    · rw [hlk] <;> assumption
    · rw [wo] <;> assumption
theorem fork2_some {d : D} {x y : List D} (h : forkOf d = some (x, y)) : (∀ a, wlk d a = wl x [] a ++ wl y [] a) ∧ (∀ a, hlk d a = hl x a ++ hl y a) ∧ ∀ s f, wo d s f = [[if x.isEmpty then f else s + 1, if y.isEmpty then f else s + 1 + (flat x).length]] ++ wa x (s + 1) f ++ wa y (s + 1 + (flat x).length) f := by
  unfold forkOf at h
  split at h
  · split at h
    · next hw =>
      cases h
      exact ⟨fun a => by rw [wlk, if_pos hw], fun a => by rw [hlk, if_pos hw], fun s f => by rw [wo, if_pos hw, woF]⟩
    · cases h
  · split at h
    · next hw =>
      cases h
      exact ⟨fun a => by rw [wlk, if_pos hw], fun a => by rw [hlk, if_pos hw], fun s f => by rw [wo, if_pos hw, woF]⟩
    · cases h
  · cases h
theorem wlk_kids (d : D) (a : List Str) : wlk d a = (kids d).flatMap fun x => wl x [] a := by
  unfold kids
  cases h : forkOf d with
  | none => exact (fork2_none h).1 a
  | some p =>
    obtain ⟨x, y⟩ := p
    rw [(fork2_some h).1]
    simp
theorem hlk_kids (d : D) (a : List Str) : hlk d a = (kids d).flatMap fun x => hl x a := by
  unfold kids
  cases h : forkOf d with
  | none => exact (fork2_none h).2.1 a
  | some p =>
    obtain ⟨x, y⟩ := p
    rw [(fork2_some h).2.1]
    simp
/-- each of them has as many as there are items -/
theorem lens_aux (N : Nat) : ∀ ds : List D, sizeOf ds < N → (∀ t a, (wl ds t a).length = (flat ds).length) ∧ (∀ h, (hl ds h).length = (flat ds).length) ∧ ∀ s b, (wa ds s b).length = (flat ds).length := by
  induction N with
  | zero => exact fun _ h => absurd h (by omega)
  | succ N ih =>
    intro ds h
    cases ds with
    | nil => rw [flat]; exact ⟨fun t a => by rw [wl]; rfl, fun h => by rw [hl]; rfl, fun s b => by rw [wa]; rfl⟩
    | cons d ds =>
      simp at h
      obtain ⟨i1, i2, i3⟩ := ih ds (by omega)
      have key : (∀ a, (wlk d a).length = (flatk d).length) ∧ (∀ a, (hlk d a).length = (flatk d).length) ∧ ∀ s f, (wo d s f).length = (flatk d).length + 1 := by
        cases hf : forkOf d with
        | none =>
          obtain ⟨e1, e2, e3⟩ := fork2_none hf
          rw [(fork_none hf).1]
          exact ⟨fun a => by rw [e1]; rfl, fun a => by rw [e2]; rfl, fun s f => by rw [e3]; rfl⟩
        | some p =>
          obtain ⟨x, y⟩ := p
          obtain ⟨e1, e2, e3⟩ := fork2_some hf
          obtain ⟨f1, _, _, _, s1, s2⟩ := fork_some hf
          obtain ⟨x1, x2, x3⟩ := ih x (by omega)
          obtain ⟨y1, y2, y3⟩ := ih y (by omega)
          rw [f1]
          refine ⟨fun a => ?_, fun a => ?_, fun s f => ?_⟩
          · rw [e1, List.length_append, List.length_append, x1, y1]
          · rw [e2, List.length_append, List.length_append, x2, y2]
          · rw [e3, List.length_append, List.length_append, List.length_append, x3, y3]
            simp only [List.length_cons, List.length_nil]
            omega
      obtain ⟨k1, k2, k3⟩ := key
      rw [flat]
      refine ⟨fun t a => ?_, fun h => ?_, fun s b => ?_⟩
      · rw [wl, List.length_cons, List.length_append, List.length_cons, List.length_append, k1, i1]
      · rw [hl, List.length_cons, List.length_append, List.length_cons, List.length_append, k2, i2]
      · rw [wa, List.length_append, List.length_cons, List.length_append, k3, i3]
        omega
theorem wl_len (ds : List D) (t a : List Str) : (wl ds t a).length = (flat ds).length := (lens_aux _ ds (Nat.lt_succ_self _)).1 t a
theorem hl_len (ds : List D) (h : List Str) : (hl ds h).length = (flat ds).length := (lens_aux _ ds (Nat.lt_succ_self _)).2.1 h
theorem wa_len (ds : List D) (s b : Nat) : (wa ds s b).length = (flat ds).length := (lens_aux _ ds (Nat.lt_succ_self _)).2.2 s b
theorem wo_len (d : D) (s f : Nat) : (wo d s f).length = (flat [d]).length := by
  have h := wa_len [d] s f
  rw [wa, wa, List.append_nil] at h
  exact h
/-- the least that keeps the texts of a datum -/
theorem good_nm {d : D} (h : goodD d = true) : BrOk d → (wD d = "take" ∨ wD d = "give" ∨ wD d = "piece") → sOk (nmD d) := by
  rintro ⟨w, r, rfl, _, _, b3⟩ hw
  obtain ⟨n, r', rfl⟩ := b3 hw
  simp only [goodD, goodAll, Bool.and_eq_true] at h
  exact h.2.1.1
theorem behindD_ok {d : D} {t : List Str} (h : ∀ n ∈ t, sOk n) (g : goodD d = true) (b : BrOk d) : ∀ n ∈ behindD d t, sOk n := by
  intro n hn
  unfold behindD at hn
  split at hn
  · next e =>
    rcases List.mem_append.mp hn with hn | hn
    · exact h n hn
    · rcases List.mem_cons.mp hn with rfl | hn
      · exact good_nm g b (.inl e)
      · cases hn
  · split at hn
    · exact h n (List.dropLast_subset _ hn)
    · exact h n hn
theorem behindD_len (d : D) (h : List Str) : (behindD d h).length ≤ h.length + 1 := by
  unfold behindD
  split
  · rw [List.length_append]; exact Nat.le_refl _
  · split
    · rw [List.length_dropLast]; omega
    · omega
theorem kid_flat {d : D} {x : List D} (h : x ∈ kids d) : (flat x).length ≤ (flatk d).length ∧ ∀ e ∈ flat x, e ∈ flatk d := by
  rw [flatk_kids]
  refine ⟨?_, fun e he => List.mem_flatMap.mpr ⟨x, h, he⟩⟩
  obtain ⟨a, b, e⟩ := List.append_of_mem h
  rw [e, List.flatMap_append, List.flatMap_cons, List.length_append, List.length_append]
  omega
end Tr

/-! P5 -/
/-! ### is_wrong, wrong_locks, held_along -/
namespace Tr
open PySem PySem.Spec PyProof.Rows L2 Rw
theorem fits_shaped {n : Nat} {ds : List D} (h : Fits n ds) (hn : n ≤ 40) : SeqAt.shaped (.tuple ds) = true := by
  refine shaped_of ?_ ?_
  · rw [PyData.canLay0]
    exact lays_of ds h.good
  · rw [PyData.depth]
    have := h.dep
    omega
theorem fits_drop {n : Nat} : ∀ {ds : List D} (i : Nat), Fits n ds → Fits n (ds.drop i)
  | _, 0, h => h
  | [], _ + 1, h => h
  | _ :: _, i + 1, h => fits_drop i h.tail
def spWr (K : PySem.W.Frag) : Sp := fun vs H Q _ => ∃ (v ar tk : V) (d : D) (xs : List V) (p : Addr) (later : List D) (around taken : List Str), vs = [v, .ref p, ar, tk] ∧ Dp K H v d ∧ BrOk d ∧ goodD d = true ∧ SqT K H p xs ∧ DpAll K H xs later ∧ SeqAt.shaped (.tuple later) = true ∧
  TxtT K H ar around ∧ TxtT K H tk taken ∧ (∀ n ∈ taken, sOk n) ∧ around.length + taken.length ≤ 1000 ∧ ∀ H', Same H H' → Q (.bl (isWr d later around taken)) H'
section
variable {P : Program} {w : World} {K : PySem.W.Frag} {mg : Str → Option Value} {base : Heap}
abbrev sWr : Stmt := top 29
theorem scWr : FnScope ["item", "later", "around", "taken"] ["item", "later", "around", "taken"] (defScope sWr) := ⟨rfl, rfl, rfl, by decide +kernel, rfl, by decide +kernel, by decide +kernel⟩
theorem ok_wr {f : Addr} {fd : FuncData} (F : Fun K "is_wrong" "is_wrong" sWr f fd) : FnOk P w K mg base CX0 1 f fd ["item", "later", "around", "taken"] (spWr K) := by
  refine F.ok scWr (fun vs H Q E h => ?_) (fun cdv A outer s H vs Q E hr h => ?_)
  · obtain ⟨v, ar, tk, d, xs, p, later, around, taken, rfl, _⟩ := h
    rfl
  · obtain ⟨v, ar, tk, d, xs, pl, later, around, taken, rfl, hd, br, gd, hl, hls, hsh, har, htk, gt, hz, q⟩ := h
    have gn := good_nm gd br
    obtain ⟨wd, r, rfl, b1, b2, b3⟩ := br
    refine ⟨_, (pss_cons (ps_if (pt_cmpR op_eq (pe_ix (ix_tupK (K := K) rfl) (pv 0) pe_int (fun _ _ => rfl)) pe_str (nomark _))
       (pss_one (ps_ret (pe_cmpR (Nm.op_neDK (K := K) rfl hr.units) (pe_slice sl_tupA (pv 3) (po_some (pe_un un_neg pe_int)) po_none) (pe_tup (pa_cons (pe_ix (ix_tupK (K := K) rfl) (pv 0) pe_int (fun _ _ => rfl)) pa_nil)) (nomark _))))
       pss_nil)
       (pss_cons (ps_if (pt_cmpR op_eq (pe_ix (ix_tupK (K := K) rfl) (pv 0) pe_int (fun _ _ => rfl)) pe_str (nomark _))
       (pss_one (ps_ret (pe_or (pe_cmpR (op_in_seqKK (K := K) rfl) (pe_ix (ix_tupK (K := K) rfl) (pv 0) pe_int (fun _ _ => rfl)) (pe_op op_catA (pv 2) (pv 3)) (by rfl)) (pe_one (pe_cmpR (op_notInTD hr.units65) (pe_tup (pa_cons pe_str (pa_cons (pe_ix (ix_tupK (K := K) rfl) (pv 0) pe_int (fun _ _ => rfl)) pa_nil))) (pv 1) (by rfl))))))
       pss_nil)
       (pss_one (ps_ret (pe_and (pe_cmpR op_eq (pe_ix (ix_tupK (K := K) rfl) (pv 0) pe_int (fun _ _ => rfl)) pe_str (nomark _)) (pe_one (pe_cmpR (op_in_seqKK (K := K) rfl) (pe_ix (ix_tupK (K := K) rfl) (pv 0) pe_int (fun _ _ => rfl)) (pe_op op_catA (pv 2) (pv 3)) (by rfl)))))))), ?_⟩
    rw [show wD (.tuple (.str wd :: r)) = wd from rfl] at gn
    cases hd with
    | @tup p xs0 _ hp ha =>
    cases ha with
    | @cons x0 xs0 _ _ h0 ha =>
    cases h0
    refine ⟨_, rfl, p, _, _, _, rfl, rfl, hp, at0, rfl, _, rfl, ?_⟩
    rw [Rw.dec_str]
    unfold isWr at q
    rw [show wD (.tuple (.str wd :: r)) = wd from rfl] at q
    by_cases h1 : wd = "give"
    · rw [decide_eq_true h1]
      rw [if_pos h1] at q
      obtain ⟨n, r', rfl⟩ := b3 (.inr (.inl h1))
      rw [show nmD (.tuple (.str wd :: .str n :: r')) = n from rfl] at q gn
      cases ha with
      | @cons x1 xs2 _ _ h0 ha =>
      cases h0
      refine iteT ?_
      refine ⟨_, rfl, _, rfl, _, rfl, ?_⟩
      dsimp only [tNoPart]
      refine last_txt htk fun H1 u s1 hu => ?_
      refine ⟨_, rfl, p, _, _, _, rfl, rfl, s1.tupS hp, at1, by show 1 ≤ sizeLine; decide, fun y ny => ?_⟩
      have s2 := same_upd (o := HO.tup [V.str n]) ny
      have hy : TxtT K (upd H1 y (.tup [V.str n])) (.ref y) [n] := ⟨y, rfl, SqT.of upd_same⟩
      refine ⟨_, _, (hu.same s2).dp, hy.dp, txtD_shaped fun n hn => gt n (List.mem_of_mem_drop hn), txtD_shaped fun m hn => ?_, ?_⟩
      · rcases List.mem_cons.mp hn with rfl | hn
        · exact gn (.inr (.inl h1))
        · cases hn
      · rw [eqv_txt]
        exact q _ (s1.trans s2)
    · rw [decide_eq_false h1]
      rw [if_neg h1] at q
      refine iteF ?_
      refine ⟨_, rfl, p, _, _, _, rfl, rfl, hp, at0, rfl, _, rfl, ?_⟩
      rw [Rw.dec_str]
      by_cases h2 : wd = "take"
      · rw [decide_eq_true h2]
        rw [if_pos h2] at q
        obtain ⟨n, r', rfl⟩ := b3 (.inl h2)
        rw [show nmD (.tuple (.str wd :: .str n :: r')) = n from rfl] at q gn
        cases ha with
        | @cons x1 xs2 _ _ h0 ha =>
        cases h0
        refine iteT ?_
        refine ⟨_, rfl, p, _, _, _, rfl, rfl, hp, at1, _, rfl, _, rfl, cat_txt har htk hz fun H1 u s1 hu => ?_⟩
        obtain ⟨pu, rfl, hu⟩ := hu
        refine ⟨pu, _, rfl, .inr hu, rfl, flat_txt _, _, rfl, ?_⟩
        rw [if_neg Bool.false_ne_true, inV_txt]
        by_cases h3 : n ∈ around ++ taken
        · rw [decide_eq_true h3]
          rw [if_pos h3] at q
          exact iteT (q _ s1)
        · rw [decide_eq_false h3]
          rw [if_neg h3] at q
          refine iteF ?_
          refine ⟨_, rfl, p, _, _, _, rfl, rfl, s1.tupS hp, at1, by show 2 ≤ sizeLine; decide, fun y ny => ?_⟩
          have s2 := same_upd (o := HO.tup [V.str "give", V.str n]) ny
          have hy : TxtT K (upd H1 y (.tup [V.str "give", V.str n])) (.ref y) ["give", n] := ⟨y, rfl, SqT.of upd_same⟩
          have gok : ∀ m ∈ [("give" : Str), n], sOk m := fun m hm => by
            rcases List.mem_cons.mp hm with rfl | hm
            · exact (by decide +kernel : sOk "give")
            · rcases List.mem_cons.mp hm with rfl | hm
              · exact gn (.inl h2)
              · cases hm
          refine ⟨_, rfl, giveD n, later, hy.dp, .tup ((s1.trans s2).tupS hl) (hls.same (s1.trans s2)), txtD_shaped gok, hsh, ?_⟩
          exact q _ (s1.trans s2)
      · rw [decide_eq_false h2]
        rw [if_neg h2] at q
        refine iteF ?_
        refine ⟨_, rfl, p, _, _, _, rfl, rfl, hp, at0, rfl, _, rfl, ?_⟩
        rw [Rw.dec_str]
        by_cases h3 : wd = "piece"
        · rw [decide_eq_true h3]
          rw [decide_eq_true h3] at q
          obtain ⟨n, r', rfl⟩ := b3 (.inr (.inr h3))
          rw [show nmD (.tuple (.str wd :: .str n :: r')) = n from rfl] at q
          cases ha with
          | @cons x1 xs2 _ _ h0 ha =>
          cases h0
          refine iteT ?_
          refine ⟨_, rfl, p, _, _, _, rfl, rfl, hp, at1, _, rfl, _, rfl, cat_txt har htk hz fun H1 u s1 hu => ?_⟩
          obtain ⟨pu, rfl, hu⟩ := hu
          refine ⟨pu, _, rfl, .inr hu, rfl, flat_txt _, ?_⟩
          rw [if_neg Bool.false_ne_true, inV_txt]
          exact q _ s1
        · rw [decide_eq_false h3]
          rw [decide_eq_false h3] at q
          exact iteF (q H (Same.refl H))
end
def spWLk (K : PySem.W.Frag) (n : Nat) : Sp := fun vs H Q _ => ∃ (p : Addr) (ar : V) (xs : List V) (ds : List D) (around : List Str), vs = [.ref p, ar] ∧ SqT K H p xs ∧ DpAll K H xs ds ∧ Fits n ds ∧ (∀ d ∈ flat ds, BrOk d) ∧ TxtT K H ar around ∧ around.length + (flat ds).length ≤ 900 ∧
  ∀ H' l, Same H H' → H l = none → H' l = some (.lst ((wl ds [] around).map V.bl)) → Q (.ref l) H'
section
variable {P : Program} {w : World} {K : PySem.W.Frag} {mg : Str → Option Value} {base : Heap}
abbrev sWL : Stmt := top 28
theorem scWL : FnScope ["items", "around", "found", "taken", "at", "item", "inner"] ["items", "around"] (defScope sWL) := ⟨rfl, rfl, rfl, by decide +kernel, rfl, by decide +kernel, by decide +kernel⟩
theorem ok_wlk {f fB fL fW : Addr} {fd fdB fdL fdW : FuncData} (F : Fun K "wrong_locks" "wrong_locks" sWL f fd) (TX : Called K mg "wrong_locks" ["items", "around"] f fd) (GB : FnOk P w K mg base CX0 1 fB fdB ["item"] (spBr K)) (TB : Called K mg "branches" ["item"] fB fdB)
    (GL : FnOk P w K mg base CX0 1 fL fdL ["item", "held"] (spBeh K)) (TL : Called K mg "locks_behind" ["item", "held"] fL fdL) (GW : FnOk P w K mg base CX0 1 fW fdW ["item", "later", "around", "taken"] (spWr K)) (TW : Called K mg "is_wrong" ["item", "later", "around", "taken"] fW fdW)
    (m_enumerate : mg "enumerate" = none) : ∀ n, n ≤ 40 → FnOk P w K mg base CX0 (n + 2) f fd ["items", "around"] (spWLk K n) := by
  intro n
  induction n with
  | zero =>
    intro _
    refine F.ok scWL (fun vs H Q E h => ?_) (fun cdv A outer s H vs Q E hr h => ?_)
    · obtain ⟨p, ar, xs, ds, around, rfl, _⟩ := h
      rfl
    · obtain ⟨p, ar, xs, ds, around, rfl, _, _, ft, _⟩ := h
      exact absurd ft.dep (Nat.not_lt_zero _)
  | succ n ih =>
    intro hn
    have GX := ih (by omega)
    refine F.ok scWL (fun vs H Q E h => ?_) (fun cdv A outer s H vs Q E hr h => ?_)
    · obtain ⟨p, ar, xs, ds, around, rfl, _⟩ := h
      rfl
    · obtain ⟨p, ar, xs, ds, around, rfl, hp, ha, ft, br, har, hz, q⟩ := h
      refine ⟨_, (pss_cons (ps_set (i := 2) scWL.nd rfl (.inl rfl) (pe_lst pa_nil))
       (pss_cons (ps_set (i := 3) scWL.nd rfl (.inl rfl) (pe_tup pa_nil))
       (pss_cons (ps_for PassesOwn.never rfl (pi_enumT rfl m_enumerate (pa_cons (pv 0) pa_nil)) (pg_tup rfl (pgs_cons (pg_name (i := 4) scWL.nd rfl (.inl rfl)) (pgs_cons (pg_name (i := 5) scWL.nd rfl (.inl rfl)) pgs_nil)))
       (pss_cons (ps_expr (pe_bm PySem.F.plainAttrs_list PySem.F.slot_list_append PySem.F.type_list_append mt_append (pv 2) (pa_cons (pe_call GW (hr.mono (by first | decide | omega)) rfl TW.1 TW.2.1 TW.2.2 .nil pass0 (pa_cons (pv 5) (pa_cons (pe_slice sl_tupA (pv 0) (po_some (pe_op op_add (pv 4) pe_int)) po_none) (pa_cons (pv 1) (pa_cons (pv 3) pa_nil))))) pa_nil)))
       (pss_cons (ps_set (i := 3) scWL.nd rfl (.inl rfl) (pe_call GL (hr.mono (by first | decide | omega)) rfl TL.1 TL.2.1 TL.2.2 .nil pass0 (pa_cons (pv 5) (pa_cons (pv 3) pa_nil))))
       (pss_one (ps_for PassesOwn.never rfl (pi_tup (pe_call GB (hr.mono (by first | decide | omega)) rfl TB.1 TB.2.1 TB.2.2 .nil pass0 (pa_cons (pv 5) pa_nil))) (pg_name (i := 6) scWL.nd rfl (.inl rfl))
       (pss_one (ps_expr (pe_bm PySem.F.plainAttrs_list PySem.F.slot_list_extend PySem.F.type_list_extend mt_extend (pv 2) (pa_cons (pe_call GX (hr.mono (by first | decide | omega)) rfl TX.1 TX.2.1 TX.2.2 .nil pass0 (pa_cons (pv 6) (pa_cons (pe_op op_catA (pv 1) (pv 3)) pa_nil))) pa_nil)))))))))
       (pss_one (ps_ret (pv 2)))))), ?_⟩
      have len := dpl ha
      have tot := wl_len ds [] around
      have small : ∀ as bs : List Bool, as ++ bs = wl ds [] around → as.length ≤ 900 := fun as bs e => by
        have z := congrArg List.length e
        rw [List.length_append] at z
        omega
      refine ⟨Nat.zero_le _, fun l nl => ?_⟩
      have s1 : Same H (upd H l (.lst [])) := same_upd nl
      refine ⟨Nat.zero_le _, fun t0 nt0 => ?_⟩
      have s2 := same_upd (o := HO.tup []) nt0
      refine ⟨_, rfl, p, _, rfl, (s1.trans s2).tupS hp, for_enumT (K := K) (a := p) (xs := xs)
        (fun i σ H' => ∃ (u : V) (done : List Bool) (t : List Str) (v4 v5 v6 : Option V), σ = [some (.ref p), some ar, some (.ref l), some u, v4, v5, v6] ∧ Same H H' ∧ H' l = some (.lst (done.map V.bl)) ∧ TxtT K H' u t ∧ (∀ n ∈ t, sOk n) ∧
          done ++ wl (ds.drop i) t around = wl ds [] around ∧ t.length + (flat (ds.drop i)).length ≤ (flat ds).length)
        ⟨.ref t0, [], [], none, none, none, rfl, s1.trans s2, s2 _ _ upd_same, ⟨t0, rfl, SqT.of upd_same⟩, fun n hn => (nomatch hn), rfl, Nat.zero_add _ ▸ Nat.le_refl _⟩ ?_ ?_ ?_⟩
      · rintro i σ H' hi ⟨u, _, _, v4, v5, v6, rfl, sm, _⟩
        exact sm.tupS hp
      · rintro i x σ H1 T1 hxi ⟨u, done, t, v4, v5, v6, rfl, sm, ho, hu, tok, e, hl⟩ nT
        obtain ⟨d, hd, hx⟩ := dp_get ha hxi
        have mem : d ∈ ds := List.mem_of_getElem? hd
        have dr := drop_cons hd
        rw [dr, wl] at e
        rw [dr, flat, List.length_cons, List.length_append] at hl
        have fl : flat ds = flat (ds.take i) ++ (d :: (flatk d ++ flat (ds.drop (i + 1)))) := by
          have z := flat_app (ds.take i) (ds.drop i)
          rw [List.take_append_drop, dr, flat] at z
          exact z
        have brd : BrOk d := br d (by rw [fl]; simp)
        have gd := (ft.mem mem).good
        have hi : i < ds.length := (List.getElem?_eq_some_iff.mp hd).1
        have u0 := same_upd (o := .tup [.int (i : Nat), x]) nT
        refine ⟨T1, _, rfl, SqT.of upd_same, rfl, _, _, rfl, _, _, rfl, rfl, ?_⟩
        have sm0 := sm.trans u0
        refine ⟨_, rfl, .inl ⟨rfl, _, SqL.of (u0 _ _ ho)⟩, _, rfl, _, rfl, _, rfl, _, _, rfl, rfl, _, rfl, ?_⟩
        dsimp only [tNoPart]
        refine tail_tup (sm0.tupS hp) (by omega) fun H2 u2 s3 hu2 => ?_
        have sm2 := sm0.trans s3
        refine ⟨_, rfl, _, rfl, x, ar, u, d, _, u2, ds.drop (i + 1), around, t, rfl, hx.same sm2, brd, gd, hu2, (dp_drop (i + 1) ha).same sm2, fits_shaped (fits_drop (i + 1) ft) hn, har.same sm2, hu.same (u0.trans s3), tok, by omega, fun H3 s4 => ?_⟩
        have sm3 := sm2.trans s4
        have ho3 := s4 _ _ (s3 _ _ (u0 _ _ ho))
        have hu3 := hu.same (u0.trans (s3.trans s4))
        have dl := small _ _ e
        refine ⟨l, _, _, rfl, rfl, ho3, by rw [List.length_map, sizeLine_eq]; omega, ?_⟩
        generalize hH4 : upd H3 l _ = H4
        have sm4 : Same H H4 := by
          rw [← hH4]
          exact same_updN nl sm3
        have hu4 : TxtT K H4 u t := by
          rw [← hH4]
          exact hu3.updL ho3
        have ho4 : H4 l = some (.lst ((done ++ [isWr d (ds.drop (i + 1)) around t]).map V.bl)) := by
          rw [← hH4, upd_same, List.map_append]
          rfl
        clear hH4
        have bl := behindD_len d t
        refine ⟨_, rfl, _, rfl, x, u, d, t, rfl, hx.same sm4, brd, hu4, by omega, fun H5 u5 s6 hu5 => ?_⟩
        have bok := behindD_ok tok gd brd
        have sm5 := sm4.trans s6
        refine ⟨_, rfl, H, x, d, rfl, sm5, hx, brd, fun H6 p6 ks s7 ht hk => ?_⟩
        have lk := dpl hk
        rw [List.length_map] at lk
        rw [wlk_kids] at e
        refine ⟨p6, rfl, ⟨_, ht⟩, for_tup (xs := ks) (fun j σ H' => ∃ (dn : List Bool) (v6 : Option V), σ = [some (.ref p), some ar, some (.ref l), some u5, some (.int (i : Nat)), some x, v6] ∧ Same H H' ∧ SqT K H' p6 ks ∧ TxtT K H' u5 (behindD d t) ∧ H' l = some (.lst (dn.map V.bl)) ∧
            dn ++ (((kids d).drop j).flatMap (fun x => wl x [] (around ++ behindD d t)) ++ wl (ds.drop (i + 1)) (behindD d t) around) = wl ds [] around)
          ⟨done ++ [isWr d (ds.drop (i + 1)) around t], v6, rfl, sm5.trans s7, ht, hu5.same s7, s7 _ _ (s6 _ _ ho4), by rw [← e]; simp⟩ ?_ ?_ ?_⟩
        · rintro j σ H' hj ⟨dn, v6, rfl, _, ht, _⟩
          exact ht
        · rintro j k σ H7 hkj ⟨dn, v6, rfl, s8, ht8, hu8, hl8, e8⟩
          obtain ⟨pk, xk, dk, rfl, hdk, hpk, hak⟩ := dp_map_tup hk hkj
          have memk : dk ∈ kids d := List.mem_of_getElem? hdk
          rw [drop_cons hdk, List.flatMap_cons] at e8
          obtain ⟨kl, ks2⟩ := kid_flat memk
          refine ⟨_, rfl, .inl ⟨rfl, _, SqL.of hl8⟩, _, rfl, _, rfl, _, rfl, cat_txt (har.same s8) hu8 (by omega) fun H8 a8 s9 ha8 => ?_⟩
          refine ⟨pk, a8, xk, dk, around ++ behindD d t, rfl, (s8.trans s9).tupS hpk, hak.same (s8.trans s9), kid_fit (ft.mem mem) memk, fun z hz => br z (by rw [fl]; exact List.mem_append_right _ (List.mem_cons_of_mem _ (List.mem_append_left _ (ks2 z hz)))), ha8, by rw [List.length_append]; omega, fun H9 l9 s10 n9 h9 => ?_⟩
          have s89 := s9.trans s10
          refine ⟨l, l9, _, _, rfl, rfl, s89 _ _ hl8, h9, ?_, ?_⟩
          · have z := congrArg List.length e8
            simp only [List.length_append] at z
            rw [List.length_map, List.length_map, sizeLine_eq]
            omega
          refine ⟨dn ++ wl dk [] (around ++ behindD d t), some (.ref pk), rfl, same_updN nl (s8.trans s89), sqT_updL (s89 _ _ hl8) (s89.tupS ht8), (hu8.same s89).updL (s89 _ _ hl8), by rw [upd_same, List.map_append], ?_⟩
          rw [← e8]
          simp
        · rintro σ H7 ⟨dn, v6, rfl, s8, ht8, hu8, hl8, e8⟩
          refine ⟨u5, dn, behindD d t, _, _, _, rfl, s8, hl8, hu8, bok, ?_, by omega⟩
          rw [lk, List.drop_length] at e8
          exact e8
      · rintro σ H1 ⟨u, done, t, v4, v5, v6, rfl, sm, ho, hu, tok, e, hl⟩
        rw [len, List.drop_length, wl, List.append_nil] at e
        rw [e] at ho
        exact ⟨_, rfl, q H1 l sm nl ho⟩
end
def spHl (K : PySem.W.Frag) (n : Nat) : Sp := fun vs H Q _ => ∃ (p : Addr) (hv : V) (xs : List V) (ds : List D) (h0 : List Str), vs = [.ref p, hv] ∧ SqT K H p xs ∧ DpAll K H xs ds ∧ Fits n ds ∧ (∀ d ∈ flat ds, BrOk d) ∧ TxtT K H hv h0 ∧ h0.length + (flat ds).length ≤ 900 ∧
  ∀ H' l ys, Same H H' → H l = none → H' l = some (.lst ys) → All2 (TxtT K H') ys (hl ds h0) → Q (.ref l) H'
section
variable {P : Program} {w : World} {K : PySem.W.Frag} {mg : Str → Option Value} {base : Heap}
abbrev sHl : Stmt := top 31
theorem scHl : FnScope ["items", "around", "found", "held", "item", "inner"] ["items", "around"] (defScope sHl) := ⟨rfl, rfl, rfl, by decide +kernel, rfl, by decide +kernel, by decide +kernel⟩
theorem ok_hl {f fB fL : Addr} {fd fdB fdL : FuncData} (F : Fun K "held_along" "held_along" sHl f fd) (TX : Called K mg "held_along" ["items", "around"] f fd) (GB : FnOk P w K mg base CX0 1 fB fdB ["item"] (spBr K)) (TB : Called K mg "branches" ["item"] fB fdB)
    (GL : FnOk P w K mg base CX0 1 fL fdL ["item", "held"] (spBeh K)) (TL : Called K mg "locks_behind" ["item", "held"] fL fdL) : ∀ n, FnOk P w K mg base CX0 (n + 2) f fd ["items", "around"] (spHl K n) := by
  intro n
  induction n with
  | zero =>
    refine F.ok scHl (fun vs H Q E h => ?_) (fun cdv A outer s H vs Q E hr h => ?_)
    · obtain ⟨p, ar, xs, ds, around, rfl, _⟩ := h
      rfl
    · obtain ⟨p, ar, xs, ds, around, rfl, _, _, ft, _⟩ := h
      exact absurd ft.dep (Nat.not_lt_zero _)
  | succ n GX =>
    refine F.ok scHl (fun vs H Q E h => ?_) (fun cdv A outer s H vs Q E hr h => ?_)
    · obtain ⟨p, ar, xs, ds, around, rfl, _⟩ := h
      rfl
    · obtain ⟨p, hv, xs, ds, h0, rfl, hp, ha, ft, br, hh, hz, q⟩ := h
      refine ⟨_, (pss_cons (ps_set (i := 2) scHl.nd rfl (.inl rfl) (pe_lst pa_nil))
       (pss_cons (ps_set (i := 3) scHl.nd rfl (.inl rfl) (pv 1))
       (pss_cons (ps_for PassesOwn.never rfl (pi_tup (pv 0)) (pg_name (i := 4) scHl.nd rfl (.inl rfl))
       (pss_cons (ps_expr (pe_bm PySem.F.plainAttrs_list PySem.F.slot_list_append PySem.F.type_list_append mt_append (pv 2) (pa_cons (pv 3) pa_nil)))
       (pss_cons (ps_for PassesOwn.never rfl (pi_tup (pe_call GB (hr.mono (by first | decide | omega)) rfl TB.1 TB.2.1 TB.2.2 .nil pass0 (pa_cons (pv 4) pa_nil))) (pg_name (i := 5) scHl.nd rfl (.inl rfl))
       (pss_one (ps_expr (pe_bm PySem.F.plainAttrs_list PySem.F.slot_list_extend PySem.F.type_list_extend mt_extend (pv 2) (pa_cons (pe_call GX (hr.mono (by first | decide | omega)) rfl TX.1 TX.2.1 TX.2.2 .nil pass0 (pa_cons (pv 5) (pa_cons (pv 3) pa_nil))) pa_nil)))))
       (pss_one (ps_set (i := 3) scHl.nd rfl (.inl rfl) (pe_call GL (hr.mono (by first | decide | omega)) rfl TL.1 TL.2.1 TL.2.2 .nil pass0 (pa_cons (pv 4) (pa_cons (pv 3) pa_nil))))))))
       (pss_one (ps_ret (pv 2)))))), ?_⟩
      have len := dpl ha
      have tot := hl_len ds h0
      have small : ∀ as bs : List (List Str), as ++ bs = hl ds h0 → as.length ≤ 900 := fun as bs e => by
        have z := congrArg List.length e
        rw [List.length_append] at z
        omega
      refine ⟨Nat.zero_le _, fun l nl => ?_⟩
      have s1 : Same H (upd H l (.lst [])) := same_upd nl
      refine ⟨_, rfl, _, rfl, p, rfl, ⟨_, s1.tupS hp⟩, for_tup (xs := xs)
        (fun i σ H' => ∃ (ys : List V) (done : List (List Str)) (u : V) (t : List Str) (v4 v5 : Option V), σ = [some (.ref p), some hv, some (.ref l), some u, v4, v5] ∧ Same H H' ∧ H' l = some (.lst ys) ∧ All2 (TxtT K H') ys done ∧ TxtT K H' u t ∧
          done ++ hl (ds.drop i) t = hl ds h0 ∧ t.length + (flat (ds.drop i)).length ≤ h0.length + (flat ds).length)
        ⟨[], [], hv, h0, none, none, rfl, s1, upd_same, .nil, hh.same s1, rfl, Nat.le_refl _⟩ ?_ ?_ ?_⟩
      · rintro i σ H' hi ⟨_, _, u, _, v4, v5, rfl, sm, _⟩
        exact sm.tupS hp
      · rintro i x σ H1 hxi ⟨ys, done, u, t, v4, v5, rfl, sm, ho, hy, hu, e, hl2⟩
        obtain ⟨d, hd, hx⟩ := dp_get ha hxi
        have mem : d ∈ ds := List.mem_of_getElem? hd
        have dr := drop_cons hd
        rw [dr, hl] at e
        rw [dr, flat, List.length_cons, List.length_append] at hl2
        have fl : flat ds = flat (ds.take i) ++ (d :: (flatk d ++ flat (ds.drop (i + 1)))) := by
          have z := flat_app (ds.take i) (ds.drop i)
          rw [List.take_append_drop, dr, flat] at z
          exact z
        have brd : BrOk d := br d (by rw [fl]; simp)
        have yl := hy.length
        have dl := small _ _ e
        refine ⟨_, rfl, .inl ⟨rfl, _, SqL.of ho⟩, _, rfl, l, _, _, rfl, rfl, ho, small1000 (by omega), ?_⟩
        have s2 : Same H (upd H1 l (.lst (ys ++ [u]))) := same_updN nl sm
        have hy2 : All2 (TxtT K (upd H1 l (.lst (ys ++ [u])))) (ys ++ [u]) (done ++ [t]) := (hy.mono fun _ _ z => z.updL ho).append (.cons (hu.updL ho) .nil)
        have hu2 := hu.updL (u := .lst (ys ++ [u])) ho
        have ho2 : (upd H1 l (.lst (ys ++ [u]))) l = some (.lst (ys ++ [u])) := upd_same
        generalize upd H1 l (.lst (ys ++ [u])) = H2 at s2 hy2 hu2 ho2
        refine ⟨_, rfl, H, x, d, rfl, s2, hx, brd, fun H3 p3 ks s3 ht hk => ?_⟩
        have lk := dpl hk
        rw [List.length_map] at lk
        rw [hlk_kids] at e
        refine ⟨p3, rfl, ⟨_, ht⟩, for_tup (xs := ks) (fun j σ H' => ∃ (zs : List V) (dn : List (List Str)) (v5 : Option V), σ = [some (.ref p), some hv, some (.ref l), some u, some x, v5] ∧ Same H H' ∧ SqT K H' p3 ks ∧ TxtT K H' u t ∧ H' l = some (.lst zs) ∧ All2 (TxtT K H') zs dn ∧
            dn ++ (((kids d).drop j).flatMap (fun x => hl x t) ++ hl (ds.drop (i + 1)) (behindD d t)) = hl ds h0)
          ⟨ys ++ [u], done ++ [t], v5, rfl, s2.trans s3, ht, hu2.same s3, s3 _ _ ho2, hy2.mono fun _ _ z => z.same s3, by rw [← e]; simp⟩ ?_ ?_ ?_⟩
        · rintro j σ H' hj ⟨_, dn, v6, rfl, _, ht, _⟩
          exact ht
        · rintro j k σ H7 hkj ⟨zs, dn, v6, rfl, s8, ht8, hu8, hl8, hz8, e8⟩
          obtain ⟨pk, xk, dk, rfl, hdk, hpk, hak⟩ := dp_map_tup hk hkj
          have memk : dk ∈ kids d := List.mem_of_getElem? hdk
          rw [drop_cons hdk, List.flatMap_cons] at e8
          obtain ⟨kl, ks2⟩ := kid_flat memk
          refine ⟨_, rfl, .inl ⟨rfl, _, SqL.of hl8⟩, _, rfl, _, rfl, pk, u, xk, dk, t, rfl, s8.tupS hpk, hak.same s8, kid_fit (ft.mem mem) memk, fun z hz => br z (by rw [fl]; exact List.mem_append_right _ (List.mem_cons_of_mem _ (List.mem_append_left _ (ks2 z hz)))), hu8, by omega, fun H9 l9 ws s9 n9 h9 hw => ?_⟩
          have zl := hz8.length
          have wln := hw.length
          refine ⟨l, l9, _, _, rfl, rfl, s9 _ _ hl8, h9, ?_, ?_⟩
          · have z := congrArg List.length e8
            simp only [List.length_append] at z
            rw [sizeLine_eq]
            omega
          refine ⟨zs ++ ws, dn ++ hl dk t, some (.ref pk), rfl, same_updN nl (s8.trans s9), sqT_updL (s9 _ _ hl8) (s9.tupS ht8), (hu8.same s9).updL (s9 _ _ hl8), upd_same, ?_, ?_⟩
          · exact ((hz8.mono fun _ _ z => (z.same s9).updL (s9 _ _ hl8)).append (hw.mono fun _ _ z => z.updL (s9 _ _ hl8)))
          · rw [← e8]
            simp
        · rintro σ H7 ⟨zs, dn, v6, rfl, s8, ht8, hu8, hl8, hz8, e8⟩
          rw [lk, List.drop_length] at e8
          have bl := behindD_len d t
          refine ⟨_, rfl, _, rfl, x, u, d, t, rfl, hx.same s8, brd, hu8, by omega, fun H9 u9 s9 hu9 => ?_⟩
          refine ⟨zs, dn, u9, behindD d t, _, _, rfl, s8.trans s9, s9 _ _ hl8, hz8.mono fun _ _ z => z.same s9, hu9, e8, by omega⟩
      · rintro σ H1 ⟨ys, done, u, t, v4, v5, rfl, sm, ho, hy, hu, e, hl2⟩
        rw [len, List.drop_length, hl, List.append_nil] at e
        rw [e] at hy
        exact ⟨_, rfl, q H1 l ys sm nl ho hy⟩
end
end Tr

/-! P6 -/
/-! ### check_each, check_body, is_body, is_item -/
namespace Tr
open PySem PySem.Spec PyProof.Rows L2 Rw
/-- what Body says of a value: none, or where its first fault lies -/
def faultL (ds : List D) : Option V :=
  if ds.isEmpty then some .non else
    match (misl ds 0).findIdx? id with
    | some i => some (.int (i : Nat))
    | none => if 8 < (flat ds).length then some .non else
      match (wl ds [] []).findIdx? id with
      | some i => some (.int (i : Nat))
      | none => none
def faultB : D → Option V
  | .tuple ds => faultL ds
  | _ => some .non
theorem find_none {bs : List Bool} (h : bs.findIdx? id = none) : bs.contains true = false := by
  rw [List.findIdx?_eq_none_iff] at h
  cases hc : bs.contains true with
  | false => rfl
  | true =>
    have z := h true (List.contains_iff_mem.mp hc)
    cases z
def spEach (K : PySem.W.Frag) (CI : Addr) : Sp := fun vs H Q E => ∃ (l : Addr) (bs : List Bool), vs = [.ref l] ∧ SqL K H l (bs.map V.bl) ∧ (bs.findIdx? id = none → ∀ H', Same H H' → Q .non H') ∧ (∀ i : Nat, bs.findIdx? id = some i → ∀ t H', Left H "place" (.int (i : Nat)) t H' → E (.ref CI) (some t) H')
def spCB (K : PySem.W.Frag) (CI : Addr) (n : Nat) : Sp := fun vs H Q E => ∃ (v : V) (d : D), vs = [v] ∧ Dp K H v d ∧ FitD n d ∧ (faultB d = none → ∀ H', Same H H' → Q .non H') ∧ (∀ r, faultB d = some r → ∀ t H', Left H "place" r t H' → E (.ref CI) (some t) H')
def spIB (K : PySem.W.Frag) (n : Nat) : Sp := fun vs H Q _ => ∃ (v : V) (d : D), vs = [v] ∧ Dp K H v d ∧ FitD n d ∧ ∀ H', Same H H' → Q (.bl (faultB d).isNone) H'
def spII (K : PySem.W.Frag) (n : Nat) : Sp := fun vs H Q _ => ∃ (v : V) (d : D), vs = [v] ∧ Dp K H v d ∧ FitD n d ∧ cntD d < 60000 ∧ ∀ H', Same H H' → Q (.bl (!(misl [d] 0).contains true)) H'
section
variable {P : Program} {w : World} {K : PySem.W.Frag} {mg : Str → Option Value} {base : Heap}
abbrev sII : Stmt := inClass (top 3) 0
theorem scII : FnScope ["self", "place"] ["self", "place"] (defScope sII) := ⟨rfl, rfl, rfl, by decide +kernel, rfl, by decide +kernel, by decide +kernel⟩
theorem ok_II {f : Addr} {fd : FuncData} (F : Fun K "__init__" "InvalidItem.__init__" sII f fd) : FnOk P w K mg base CX0 1 f fd ["self", "place"] (spR1 K "place") := by
  refine F.ok scII (fun vs H Q E h => ?_) (fun cdv A outer s H vs Q E hr h => ?_)
  · obtain ⟨a, C, fI, v, rfl, _⟩ := h
    rfl
  · obtain ⟨a, C, fI, v, rfl, T, hn, ea, q⟩ := h
    refine ⟨_, pss_one (ps_ostG (pv 0) (pv 1)), ?_⟩
    refine ⟨_, rfl, _, rfl, a, C, fI, rfl, T, hn, .inl ⟨ea, fun dx n ne => ?_⟩⟩
    refine q _ dx (fun b o hb e => ?_) upd_same (by rw [upd_ne ne, upd_same]) n ne
    rw [upd_ne hb, upd_ne (ne_of_none e n)]
    exact e
theorem er_II {x : Str} {C f : Addr} {fd : FuncData} (F : Fun K "__init__" "InvalidItem.__init__" sII f fd) (g : mg x = some (.ref C)) (o : OexG K C f) (no : PySem.W.findIn K (.ref C) "place" = some none) : Er P w K mg base x "place" C f fd :=
  ⟨g, o, no, ok_II F, F.binds (ps := ["self", "place"]) fun _ _ _ _ _ _ us hl => match us, hl with | [_, _], _ => rfl⟩
abbrev sEach : Stmt := top 18
theorem scEach : FnScope ["faults", "place", "wrong"] ["faults"] (defScope sEach) := ⟨rfl, rfl, rfl, by decide +kernel, rfl, by decide +kernel, by decide +kernel⟩
theorem ok_each {f CI fI : Addr} {fd fdI : FuncData} (F : Fun K "check_each" "check_each" sEach f fd) (T : Er P w K mg base "InvalidItem" "place" CI fI fdI) (m_enumerate : mg "enumerate" = none) : FnOk P w K mg base (L2.CX P w) 3 f fd ["faults"] (spEach K CI) := by
  refine F.okX scEach (fun vs H Q E h => ?_) (fun cdv A outer s H vs Q E hr h => ?_)
  · obtain ⟨l, bs, rfl, _⟩ := h
    rfl
  · obtain ⟨l, bs, rfl, hl, q, qE⟩ := h
    refine ⟨_, (pss_one (ps_for (passes_of rfl) rfl (pi_enum (by rfl) m_enumerate (pa_cons (pv 0) pa_nil)) (pg_tup rfl (pgs_cons (pg_name (i := 1) scEach.nd rfl (.inl rfl)) (pgs_cons (pg_name (i := 2) scEach.nd rfl (.inl rfl)) pgs_nil)))
       (pss_one (ps_if (pt_val (pv 2))
       (pss_one (ps_raise rfl (takes_of rfl rfl rfl rfl) (pmk_G T.o T.F (hr.mono (by first | decide | omega)) T.b pass0 rfl T.g (pa_cons (pv 1) pa_nil))))
       pss_nil)))), ?_⟩
    refine ⟨_, rfl, l, _, rfl, hl, for_enum (K := K) (a := l) (xs := bs.map V.bl)
      (fun i σ H' => ∃ v1 v2 : Option V, σ = [some (.ref l), v1, v2] ∧ Same H H' ∧ ∀ j, j < i → bs[j]? = some false)
      ⟨none, none, rfl, Same.refl _, fun j hj => absurd hj (Nat.not_lt_zero j)⟩ (fun i σ H' _ ⟨_, _, _, s5, _⟩ => s5.seq hl) ?_ ?_⟩
    · rintro i x σ H4 T4 hxi ⟨w1, w3, rfl, s5, al2⟩ nT4
      obtain ⟨b, hb, rfl⟩ : ∃ b, bs[i]? = some b ∧ x = V.bl b := by
        rw [List.getElem?_map] at hxi
        cases e : bs[i]? with
        | none => rw [e] at hxi; cases hxi
        | some z => rw [e] at hxi; exact ⟨z, rfl, (Option.some.inj hxi).symm⟩
      have u4 := same_upd (o := .tup [.int (i : Nat), .bl b]) nT4
      refine ⟨T4, _, rfl, .inl (.inl upd_same), rfl, _, _, rfl, _, _, rfl, rfl, ?_⟩
      refine ⟨_, rfl, _, rfl, ?_⟩
      cases b with
      | true =>
        refine iteT ⟨_, rfl, Nat.le_of_ble_eq_true rfl, fun e ne => raise1 T.o T.no ne fun t H' l => qE i ?_ t H' (l.before (s5.trans u4))⟩
        rw [List.findIdx?_eq_some_iff_getElem]
        obtain ⟨hi, he⟩ := List.getElem?_eq_some_iff.mp hb
        refine ⟨hi, by rw [he]; rfl, fun j hj => ?_⟩
        obtain ⟨hj2, he2⟩ := List.getElem?_eq_some_iff.mp (al2 j hj)
        rw [he2]
        exact Bool.false_ne_true
      | false =>
        refine iteF ⟨_, _, rfl, s5.trans u4, fun j hj => ?_⟩
        by_cases e : j = i
        · rw [e]; exact hb
        · exact al2 j (by omega)
    · rintro σ H4 ⟨w1, w3, rfl, s5, al2⟩
      refine q ?_ _ s5
      rw [List.findIdx?_eq_none_iff]
      intro x hx
      obtain ⟨j, hj⟩ := List.getElem?_of_mem hx
      have hj2 : j < (bs.map V.bl).length := by
        rw [List.length_map]
        exact (List.getElem?_eq_some_iff.mp hj).1
      have z := al2 j hj2
      rw [hj] at z
      exact Option.some.inj z
abbrev sCB : Stmt := top 17
theorem scCB : FnScope ["value"] ["value"] (defScope sCB) := ⟨rfl, rfl, rfl, by decide +kernel, rfl, by decide +kernel, by decide +kernel⟩
theorem ok_cb {f fM fF fW fE CI fI : Addr} {fd fdM fdF fdW fdE fdI : FuncData} (F : Fun K "check_body" "check_body" sCB f fd) (n : Nat) (hn : n ≤ 40) (T : Er P w K mg base "InvalidItem" "place" CI fI fdI)
    (GM : FnOk P w K mg base CX0 (2 * n + 4) fM fdM ["items", "around"] (spMis K n)) (TM : Called K mg "misshapen" ["items", "around"] fM fdM) (GF : FnOk P w K mg base CX0 (n + 2) fF fdF ["items"] (spFlat K n)) (TF : Called K mg "flat" ["items"] fF fdF)
    (GW : FnOk P w K mg base CX0 (n + 2) fW fdW ["items", "around"] (spWLk K n)) (TW : Called K mg "wrong_locks" ["items", "around"] fW fdW) (GE : FnOk P w K mg base (L2.CX P w) 3 fE fdE ["faults"] (spEach K CI)) (TE : Called K mg "check_each" ["faults"] fE fdE)
    (m_isinstance : mg "isinstance" = none) (m_tuple : mg "tuple" = none) (m_len : mg "len" = none) {tM : Tok} (mM : mg "MOST_ITEMS" = some (.int 8 tM)) : FnOk P w K mg base (L2.CX P w) (2 * n + 5) f fd ["value"] (spCB K CI (n + 1)) := by
  refine F.okX scCB (fun vs H Q E h => ?_) (fun cdv A outer s H vs Q E hr h => ?_)
  · obtain ⟨v, d, rfl, _⟩ := h
    rfl
  · obtain ⟨v, d, rfl, hd, ft, q, qE⟩ := h
    refine ⟨_, (pss_cons (ps_if (PW.pt (pw_or (pt_not (pt_val (pe_callB (call_isiKK (K := K) rfl) (by rfl) m_isinstance (by decide +kernel) (pa_cons (pv 0) (pa_cons (pe_bltn (v := .ty "tuple") (by rfl) m_tuple (by decide +kernel) rfl) pa_nil))))) (pw_or1 (pt_cmpR op_eq (pe_callB (call_len_K (K := K) rfl) (by rfl) m_len PySem.boot_len (pa_cons (pv 0) pa_nil)) pe_int (nomark _)))))
       (pss_one (ps_raise rfl (takes_of rfl rfl rfl rfl) (pmk_G T.o T.F (hr.mono (by first | decide | omega)) T.b pass0 rfl T.g (pa_cons pe_non pa_nil))))
       pss_nil)
       (pss_cons (ps_expr (pe_call GE (hr.mono (by first | decide | omega)) rfl TE.1 TE.2.1 TE.2.2 .nil passX (pa_cons (pe_call GM (hr.mono (by first | decide | omega)) rfl TM.1 TM.2.1 TM.2.2 .nil pass0 (pa_cons (pv 0) (pa_cons pe_int pa_nil))) pa_nil)))
       (pss_cons (ps_if (pt_cmpR op_gt (pe_callB (call_len_K (K := K) rfl) (by rfl) m_len PySem.boot_len (pa_cons (pe_call GF (hr.mono (by first | decide | omega)) rfl TF.1 TF.2.1 TF.2.2 .nil pass0 (pa_cons (pv 0) pa_nil)) pa_nil)) (pe_glob (v := .int 8) rfl mM ⟨_, rfl⟩) (nomark _))
       (pss_one (ps_raise rfl (takes_of rfl rfl rfl rfl) (pmk_G T.o T.F (hr.mono (by first | decide | omega)) T.b pass0 rfl T.g (pa_cons pe_non pa_nil))))
       pss_nil)
       (pss_one (ps_expr (pe_call GE (hr.mono (by first | decide | omega)) rfl TE.1 TE.2.1 TE.2.2 .nil passX (pa_cons (pe_call GW (hr.mono (by first | decide | omega)) rfl TW.1 TW.2.1 TW.2.2 .nil pass0 (pa_cons (pv 0) (pa_cons (pe_tup pa_nil) pa_nil))) pa_nil))))))), ?_⟩
    refine ⟨_, rfl, _, _, _, _, _, rfl, .ty _, dp_ty hd, kit_tup d, _, rfl, ?_⟩
    cases htp : isTup d with
    | false =>
      have e : faultB d = some .non := by
        cases d with
        | tuple _ => cases htp
        | _ => rfl
      exact iteT (iteT ⟨Nat.le_of_ble_eq_true rfl, fun x ne => raise1 T.o T.no ne fun t H' l => qE _ e t H' l⟩)
    | true =>
      refine iteF ?_
      obtain ⟨ds, rfl⟩ := tup_of htp
      cases hd with
      | @tup p xs _ hp ha =>
      have len := dpl ha
      rw [show faultB (.tuple ds) = faultL ds from rfl] at q qE
      unfold faultL at q qE
      refine ⟨_, rfl, p, _, rfl, .inr hp, rfl, _, rfl, ?_⟩
      rw [len, int_dec 0 0 rfl]
      by_cases e0 : ds.length = 0
      · rw [decide_eq_true e0]
        rw [List.eq_nil_of_length_eq_zero e0] at qE
        exact iteT ⟨Nat.le_of_ble_eq_true rfl, fun x ne => raise1 T.o T.no ne fun t H' l => qE _ rfl t H' l⟩
      · rw [decide_eq_false e0]
        have e1 : ¬ (ds.isEmpty = true) := by
          cases ds with
          | nil => exact absurd rfl e0
          | cons _ _ => exact Bool.false_ne_true
        rw [if_neg e1] at q qE
        refine iteF ?_
        refine ⟨_, rfl, p, xs, ds, 0, rfl, hp, ha, ft.inside, fun H1 l s1 nl hl => ?_⟩
        refine ⟨l, _, rfl, SqL.of hl, fun hf H2 s2 => ?_, fun i hi t H' lf => qE _ (by rw [hi]) t H' (lf.before s1)⟩
        rw [hf] at q qE
        have hc := find_none hf
        have s12 := s1.trans s2
        refine ⟨_, rfl, H, p, xs, ds, rfl, s12, s12.tupS hp, ha, ft.inside, fun e he => (br_flat hc e he).1, fun H3 l3 ys s3 n3 h3 hy => ?_⟩
        have ly := dpl hy
        have s13 := s12.trans s3
        refine ⟨l3, _, rfl, .inl (SqL.of h3), _, _, rfl, rfl, _, rfl, ?_⟩
        by_cases h8 : 8 < (flat ds).length
        · rw [decide_eq_true (by omega)]
          refine iteT ⟨Nat.le_of_ble_eq_true rfl, fun x ne => raise1 T.o T.no ne fun t H' l => qE .non (by rw [if_pos h8]) t H' (l.before s13)⟩
        · rw [decide_eq_false (by omega)]
          rw [if_neg h8] at q qE
          refine iteF ?_
          refine ⟨_, rfl, Nat.zero_le _, fun z nz => ?_⟩
          have s4 := s13.trans (same_upd (o := HO.tup []) nz)
          refine ⟨p, .ref z, xs, ds, [], rfl, s4.tupS hp, ha.same s4, ft.inside, fun e he => (br_flat hc e he).1, ⟨z, rfl, SqT.of upd_same⟩, by rw [List.length_nil]; omega, fun H5 l5 s5 n5 h5 => ?_⟩
          have s45 := s4.trans s5
          refine ⟨l5, _, rfl, SqL.of h5, fun hf2 H6 s6 => ?_, fun i hi t H' lf => qE _ (by rw [hi]) t H' (lf.before s45)⟩
          exact q (by rw [hf2]) H6 (s45.trans s6)
abbrev sIB : Stmt := top 16
theorem scIB : FnScope ["value"] ["value"] (defScope sIB) := ⟨rfl, rfl, rfl, by decide +kernel, rfl, by decide +kernel, by decide +kernel⟩
theorem ok_ib {f fC CI fI : Addr} {fd fdC fdI : FuncData} (F : Fun K "is_body" "is_body" sIB f fd) (n : Nat) (T : Er P w K mg base "InvalidItem" "place" CI fI fdI) (te : PySem.W.exmOne K (.ref CI) (.ref CI) = some true)
    (GC : FnOk P w K mg base (L2.CX P w) (2 * n + 5) fC fdC ["value"] (spCB K CI (n + 1))) (TC : Called K mg "check_body" ["value"] fC fdC) : FnOk P w K mg base CX0 (2 * n + 6) f fd ["value"] (spIB K (n + 1)) := by
  refine F.ok scIB (fun vs H Q E h => ?_) (fun cdv A outer s H vs Q E hr h => ?_)
  · obtain ⟨v, d, rfl, _⟩ := h
    rfl
  · obtain ⟨v, d, rfl, hd, ft, q⟩ := h
    refine ⟨_, pss_cons (ps_try_only rfl rfl ⟨rfl, by decide, .inl T.g⟩ takes0
      (fun W pn xe tk _ => pss_one (ps_expr (pe_callS GC (hr.mono (by first | decide | omega)) rfl TC.1 TC.2.1 TC.2.2 (fun σ => passAt tk σ) (pa_cons (pv 0) pa_nil))))
      (fun a oe cls dd pn hz hf => pss_one (ps_ret pe_bl))) (pss_one (ps_ret pe_bl)), ?_⟩
    refine ⟨_, rfl, v, d, rfl, hd, ft, fun hf H1 s1 => ?_, fun r hr t H1 lf => ⟨true, te, fun _ _ _ => ?_, fun z => nomatch z⟩⟩
    · have z := q H1 s1
      rw [hf] at z
      exact z
    · have z := q H1 lf.1
      rw [hr] at z
      exact z
abbrev sIt : Stmt := top 15
theorem scIt : FnScope ["value"] ["value"] (defScope sIt) := ⟨rfl, rfl, rfl, by decide +kernel, rfl, by decide +kernel, by decide +kernel⟩
theorem ok_it {f fM : Addr} {fd fdM : FuncData} (F : Fun K "is_item" "is_item" sIt f fd) (n : Nat) (GM : FnOk P w K mg base CX0 (2 * n + 4) fM fdM ["items", "around"] (spMis K n)) (TM : Called K mg "misshapen" ["items", "around"] fM fdM) : FnOk P w K mg base CX0 (2 * n + 5) f fd ["value"] (spII K n) := by
  refine F.ok scIt (fun vs H Q E h => ?_) (fun cdv A outer s H vs Q E hr h => ?_)
  · obtain ⟨v, d, rfl, _⟩ := h
    rfl
  · obtain ⟨v, d, rfl, hd, ft, hc, q⟩ := h
    refine ⟨_, (pss_one (ps_ret (pe_cmpR (op_notIn_seqKK (K := K) rfl) pe_bl (pe_call GM (hr.mono (by first | decide | omega)) rfl TM.1 TM.2.1 TM.2.2 .nil pass0 (pa_cons (pe_tup (pa_cons (pv 0) pa_nil)) (pa_cons pe_int pa_nil))) (by rfl)))), ?_⟩
    refine ⟨_, rfl, by show 1 ≤ sizeLine; decide, fun y ny => ?_⟩
    have s1 := same_upd (o := HO.tup [v]) ny
    refine ⟨y, [v], [d], 0, rfl, SqT.of upd_same, .cons (hd.same s1) .nil, ⟨?_, ?_, ?_⟩, fun H1 l s2 nl hl => ?_⟩
    · rw [goodAll, ft.good]
      rfl
    · rw [PyData.depthAll, PyData.depthAll]
      have := ft.dep
      omega
    · rw [cntAll, cntAll]
      omega
    · refine ⟨l, _, rfl, .inl (SqL.of hl), rfl, flat_bl _, ?_⟩
      rw [if_pos rfl, inV_bl]
      exact q H1 (s1.trans s2)
end
end Tr

/-! P7 -/
/-! ### ways_along, ways_of -/
namespace Tr
open PySem PySem.Spec PyProof.Rows L2 Rw
def WayT (K : PySem.W.Frag) (H : Hp) (v : V) (ns : List Nat) : Prop := ∃ p, v = .ref p ∧ SqT K H p (ns.map fun (n : Nat) => V.int (n : Int))
theorem WayT.same {K : PySem.W.Frag} {H H' : Hp} (s : Same H H') {v : V} {ns : List Nat} (h : WayT K H v ns) : WayT K H' v ns := let ⟨p, e, q⟩ := h; ⟨p, e, s.tupS q⟩
theorem WayT.updL {K : PySem.W.Frag} {H : Hp} {l : Addr} {xs : List V} {u : HO} (hl : H l = some (.lst xs)) {v : V} {ns : List Nat} (h : WayT K H v ns) : WayT K (upd H l u) v ns := let ⟨p, e, q⟩ := h; ⟨p, e, sqT_updL hl q⟩
def spWA (K : PySem.W.Frag) (n : Nat) : Sp := fun vs H Q _ => ∃ (p : Addr) (xs : List V) (ds : List D) (s b : Nat), vs = [.ref p, .int (s : Nat), .int (b : Nat)] ∧ SqT K H p xs ∧ DpAll K H xs ds ∧ Fits n ds ∧ (∀ d ∈ flat ds, BrOk d) ∧ (flat ds).length ≤ 900 ∧
  ∀ H' l ys, Same H H' → H l = none → H' l = some (.lst ys) → All2 (WayT K H') ys (wa ds s b) → Q (.ref l) H'
def spWO (K : PySem.W.Frag) (n : Nat) : Sp := fun vs H Q _ => ∃ (v : V) (d : D) (s f : Nat), vs = [v, .int (s : Nat), .int (f : Nat)] ∧ Dp K H v d ∧ FitD n d ∧ BrOk d ∧ (∀ e ∈ flatk d, BrOk e) ∧ (flatk d).length < 900 ∧
  ∀ H' l ys, Same H H' → H l = none → H' l = some (.lst ys) → All2 (WayT K H') ys (wo d s f) → Q (.ref l) H'
theorem fit_one {n : Nat} {d : D} (h : FitD n d) : Fits n [d] := ⟨by rw [goodAll, goodAll, h.good]; rfl, by rw [PyData.depthAll, PyData.depthAll]; have := h.dep; omega, by rw [cntAll, cntAll]; exact h.cnt⟩
theorem cons_mem_app {α : Type} {e d : α} {as bs : List α} (h : e ∈ d :: as) : e ∈ d :: (as ++ bs) := by
  rcases List.mem_cons.mp h with rfl | h
  · exact List.mem_cons_self
  · exact List.mem_cons_of_mem _ (List.mem_append_left _ h)
section
variable {P : Program} {w : World} {K : PySem.W.Frag} {mg : Str → Option Value} {base : Heap}
abbrev sWA : Stmt := top 34
theorem scWA : FnScope ["items", "start", "behind", "found", "at", "item", "place", "follows"] ["items", "start", "behind"] (defScope sWA) := ⟨rfl, rfl, rfl, by decide +kernel, rfl, by decide +kernel, by decide +kernel⟩
theorem ok_wa {f fF fO : Addr} {fd fdF fdO : FuncData} (F : Fun K "ways_along" "ways_along" sWA f fd) (TF : Called K mg "flat" ["items"] fF fdF) (TO : Called K mg "ways_of" ["item", "place", "follows"] fO fdO) (n : Nat)
    (GF : FnOk P w K mg base CX0 (n + 2) fF fdF ["items"] (spFlat K n)) (GO : FnOk P w K mg base CX0 (2 * n + 3) fO fdO ["item", "place", "follows"] (spWO K n)) (m_enumerate : mg "enumerate" = none) (m_len : mg "len" = none) : FnOk P w K mg base CX0 (2 * n + 4) f fd ["items", "start", "behind"] (spWA K n) := by
  refine F.ok scWA (fun vs H Q E h => ?_) (fun cdv A outer s H vs Q E hr h => ?_)
  · obtain ⟨p, xs, ds, s, b, rfl, _⟩ := h
    rfl
  · obtain ⟨p, xs, ds, s, b, rfl, hp, ha, ft, br, hz, q⟩ := h
    refine ⟨_, (pss_cons (ps_set (i := 3) scWA.nd rfl (.inl rfl) (pe_lst pa_nil))
       (pss_cons (ps_for PassesOwn.never rfl (pi_enumT rfl m_enumerate (pa_cons (pv 0) pa_nil)) (pg_tup rfl (pgs_cons (pg_name (i := 4) scWA.nd rfl (.inl rfl)) (pgs_cons (pg_name (i := 5) scWA.nd rfl (.inl rfl)) pgs_nil)))
       (pss_cons (ps_set (i := 6) scWA.nd rfl (.inl rfl) (pe_op op_add (pv 1) (pe_callB (call_len_K (K := K) rfl) (by rfl) m_len PySem.boot_len (pa_cons (pv 3) pa_nil))))
       (pss_cons (ps_set (i := 7) scWA.nd rfl (.inl rfl) (pe_ifExp (pt_cmpR op_eq (pe_op op_add (pv 4) pe_int) (pe_callB (call_len_K (K := K) rfl) (by rfl) m_len PySem.boot_len (pa_cons (pv 0) pa_nil)) (nomark _))
       (pv 2)
       (pe_op op_add (pv 6) (pe_callB (call_len_K (K := K) rfl) (by rfl) m_len PySem.boot_len (pa_cons (pe_call GF (hr.mono (by first | decide | omega)) rfl TF.1 TF.2.1 TF.2.2 .nil pass0 (pa_cons (pe_tup (pa_cons (pv 5) pa_nil)) pa_nil)) pa_nil)))))
       (pss_one (ps_expr (pe_bm PySem.F.plainAttrs_list PySem.F.slot_list_extend PySem.F.type_list_extend mt_extend (pv 3) (pa_cons (pe_call GO (hr.mono (by first | decide | omega)) rfl TO.1 TO.2.1 TO.2.2 .nil pass0 (pa_cons (pv 5) (pa_cons (pv 6) (pa_cons (pv 7) pa_nil)))) pa_nil)))))))
       (pss_one (ps_ret (pv 3))))), ?_⟩
    have len := dpl ha
    have tot := wa_len ds s b
    have small : ∀ as bs : List (List Nat), as ++ bs = wa ds s b → as.length ≤ 900 := fun as bs e => by
      have z := congrArg List.length e
      rw [List.length_append] at z
      omega
    refine ⟨Nat.zero_le _, fun l nl => ?_⟩
    have s1 : Same H (upd H l (.lst [])) := same_upd nl
    refine ⟨_, rfl, p, _, rfl, s1.tupS hp, for_enumT (K := K) (a := p) (xs := xs)
      (fun i σ H' => ∃ (ys : List V) (done : List (List Nat)) (v4 v5 v6 v7 : Option V), σ = [some (.ref p), some (.int (s : Nat)), some (.int (b : Nat)), some (.ref l), v4, v5, v6, v7] ∧ Same H H' ∧ H' l = some (.lst ys) ∧ All2 (WayT K H') ys done ∧
        done ++ wa (ds.drop i) (s + done.length) b = wa ds s b)
      ⟨[], [], none, none, none, none, rfl, s1, upd_same, .nil, rfl⟩ ?_ ?_ ?_⟩
    · rintro i σ H' hi ⟨_, _, v4, v5, v6, v7, rfl, sm, _⟩
      exact sm.tupS hp
    · rintro i x σ H1 T1 hxi ⟨ys, done, v4, v5, v6, v7, rfl, sm, ho, hy, e⟩ nT
      obtain ⟨d, hd, hx⟩ := dp_get ha hxi
      have mem : d ∈ ds := List.mem_of_getElem? hd
      have hi : i < ds.length := (List.getElem?_eq_some_iff.mp hd).1
      rw [drop_cons hd, wa] at e
      have fl : flat ds = flat (ds.take i) ++ (d :: (flatk d ++ flat (ds.drop (i + 1)))) := by
        have z := flat_app (ds.take i) (ds.drop i)
        rw [List.take_append_drop, drop_cons hd, flat] at z
        exact z
      have brd : BrOk d := br d (by rw [fl]; simp)
      have lf : (flatk d).length < 900 := by
        have z := congrArg List.length fl
        simp only [List.length_append, List.length_cons] at z
        omega
      have yl := hy.length
      have u0 := same_upd (o := .tup [.int (i : Nat), x]) nT
      have sm0 := sm.trans u0
      refine ⟨T1, _, rfl, SqT.of upd_same, rfl, _, _, rfl, _, _, rfl, rfl, ?_⟩
      refine ⟨_, rfl, _, rfl, l, _, rfl, .inl (SqL.of (u0 _ _ ho)), _, _, rfl, rfl, ?_⟩
      have ep : ((s : Nat) : Int) + ((ys.length : Nat) : Int) = ((s + done.length : Nat) : Int) := by omega
      refine name_in ?_
      dsimp only
      rw [ep]
      have lw := wo_len d (s + done.length) (if (ds.drop (i + 1)).isEmpty then b else s + done.length + (flat [d]).length)
      refine seqS_in (asg_via (fun v H2 => v = .int (((if (ds.drop (i + 1)).isEmpty then b else s + done.length + (flat [d]).length) : Nat) : Int) ∧ Same (upd H1 T1 (.tup [.int (i : Nat), x])) H2) (fun Qx hQ => ?_) (fun v H2 ⟨ev, s3⟩ => ?_))
      · refine ⟨_, rfl, _, _, rfl, rfl, _, rfl, p, _, rfl, .inr (sm0.tupS hp), rfl, _, rfl, ?_⟩
        rw [len]
        by_cases hlast : i + 1 = ds.length
        · rw [decide_eq_true (by rw [← hlast]; rfl)]
          refine iteT ⟨_, rfl, hQ _ _ ⟨?_, Same.refl _⟩⟩
          rw [if_pos (by rw [List.isEmpty_iff, hlast, List.drop_length])]
        · rw [decide_eq_false (fun e => hlast (by have := V.int.inj e; omega))]
          refine iteF ?_
          refine ⟨_, rfl, _, rfl, by show 1 ≤ sizeLine; decide, fun y ny => ?_⟩
          have s4 := same_upd (o := HO.tup [x]) ny
          refine ⟨H, y, [x], [d], rfl, sm0.trans s4, SqT.of upd_same, .cons hx .nil, fit_one (ft.mem mem), fun e he => br e (by rw [fl]; exact List.mem_append_right _ (by rw [flat_one] at he; exact cons_mem_app he)), fun H5 l5 ys5 s5 n5 h5 hy5 => ?_⟩
          have ly5 := dpl hy5
          refine ⟨l5, _, rfl, .inl (SqL.of h5), _, _, rfl, rfl, hQ _ _ ⟨?_, s4.trans s5⟩⟩
          rw [if_neg (by rw [List.isEmpty_iff, List.drop_eq_nil_iff]; omega), ly5]
          congr 1
      · subst ev
        refine name_in ?_
        have s13 := sm0.trans s3
        refine ⟨_, rfl, .inl ⟨rfl, _, SqL.of (s3 _ _ (u0 _ _ ho))⟩, _, rfl, _, rfl, _, rfl, x, d, s + done.length, _, rfl, hx.same s13, ft.mem mem, brd, fun e he => br e (by rw [fl]; exact List.mem_append_right _ (List.mem_cons_of_mem _ (List.mem_append_left _ he))), lf, fun H5 l5 ws s5 n5 h5 hw => ?_⟩
        have s135 := u0.trans (s3.trans s5)
        have wl5 := hw.length
        have d9 := small (done ++ wo d (s + done.length) (if (ds.drop (i + 1)).isEmpty then b else s + done.length + (flat [d]).length)) _ (by rw [List.append_assoc]; exact e)
        rw [List.length_append] at d9
        refine ⟨l, l5, _, _, rfl, rfl, s135 _ _ ho, h5, by rw [sizeLine_eq]; omega, ?_⟩
        refine ⟨ys ++ ws, done ++ wo d (s + done.length) (if (ds.drop (i + 1)).isEmpty then b else s + done.length + (flat [d]).length), _, _, _, _, rfl, same_updN nl (sm.trans s135), upd_same, ?_, ?_⟩
        · exact ((hy.mono fun _ _ z => (z.same s135).updL (s135 _ _ ho)).append (hw.mono fun _ _ z => z.updL (s135 _ _ ho)))
        · rw [List.append_assoc, List.length_append, lw, ← Nat.add_assoc]
          exact e
    · rintro σ H1 ⟨ys, done, v4, v5, v6, v7, rfl, sm, ho, hy, e⟩
      rw [len, List.drop_length, wa, List.append_nil] at e
      rw [e] at hy
      exact ⟨_, rfl, q H1 l ys sm nl ho hy⟩
abbrev sWO : Stmt := top 35
theorem scWO : FnScope ["item", "place", "follows", "inner", "first", "second", "middle", "own"] ["item", "place", "follows"] (defScope sWO) := ⟨rfl, rfl, rfl, by decide +kernel, rfl, by decide +kernel, by decide +kernel⟩
theorem ok_wo {f fF fB fA : Addr} {fd fdF fdB fdA : FuncData} (F : Fun K "ways_of" "ways_of" sWO f fd) (TF : Called K mg "flat" ["items"] fF fdF) (TB : Called K mg "branches" ["item"] fB fdB) (TA : Called K mg "ways_along" ["items", "start", "behind"] fA fdA) (n : Nat)
    (GF : FnOk P w K mg base CX0 (n + 2) fF fdF ["items"] (spFlat K n)) (GB : FnOk P w K mg base CX0 1 fB fdB ["item"] (spBr K)) (GA : FnOk P w K mg base CX0 (2 * n + 4) fA fdA ["items", "start", "behind"] (spWA K n)) (m_len : mg "len" = none) : FnOk P w K mg base CX0 (2 * n + 5) f fd ["item", "place", "follows"] (spWO K (n + 1)) := by
  refine F.ok scWO (fun vs H Q E h => ?_) (fun cdv A outer s H vs Q E hr h => ?_)
  · obtain ⟨v, d, s, b, rfl, _⟩ := h
    rfl
  · obtain ⟨v, d, s, b, rfl, hd, ft, brd, brk, hz, q⟩ := h
    refine ⟨_, (pss_cons (ps_set (i := 3) scWO.nd rfl (.inl rfl) (pe_call GB (hr.mono (by first | decide | omega)) rfl TB.1 TB.2.1 TB.2.2 .nil pass0 (pa_cons (pv 0) pa_nil)))
       (pss_cons (ps_if (pt_cmpR op_eq (pe_callB (call_len_K (K := K) rfl) (by rfl) m_len PySem.boot_len (pa_cons (pv 3) pa_nil)) pe_int (nomark _))
       (pss_one (ps_ret (pe_lst (pa_cons (pe_tup (pa_cons (pv 2) pa_nil)) pa_nil))))
       pss_nil)
       (pss_cons (ps_asg (pv 3) (pg_tup rfl (pgs_cons (pg_name (i := 4) scWO.nd rfl (.inl rfl)) (pgs_cons (pg_name (i := 5) scWO.nd rfl (.inl rfl)) pgs_nil))))
       (pss_cons (ps_set (i := 6) scWO.nd rfl (.inl rfl) (pe_op op_add (pe_op op_add (pv 1) pe_int) (pe_callB (call_len_K (K := K) rfl) (by rfl) m_len PySem.boot_len (pa_cons (pe_call GF (hr.mono (by first | decide | omega)) rfl TF.1 TF.2.1 TF.2.2 .nil pass0 (pa_cons (pv 4) pa_nil)) pa_nil))))
       (pss_cons (ps_set (i := 7) scWO.nd rfl (.inl rfl) (pe_tup (pa_cons (pe_ifExp (pt_cmpR op_gt (pe_callB (call_len_K (K := K) rfl) (by rfl) m_len PySem.boot_len (pa_cons (pv 4) pa_nil)) pe_int (nomark _))
       (pe_op op_add (pv 1) pe_int)
       (pv 2)) (pa_cons (pe_ifExp (pt_cmpR op_gt (pe_callB (call_len_K (K := K) rfl) (by rfl) m_len PySem.boot_len (pa_cons (pv 5) pa_nil)) pe_int (nomark _))
       (pv 6)
       (pv 2)) pa_nil))))
       (pss_one (ps_ret (pe_op op_cat (pe_op op_cat (pe_lst (pa_cons (pv 7) pa_nil)) (pe_call GA (hr.mono (by first | decide | omega)) rfl TA.1 TA.2.1 TA.2.2 .nil pass0 (pa_cons (pv 4) (pa_cons (pe_op op_add (pv 1) pe_int) (pa_cons (pv 2) pa_nil))))) (pe_call GA (hr.mono (by first | decide | omega)) rfl TA.1 TA.2.1 TA.2.2 .nil pass0 (pa_cons (pv 5) (pa_cons (pv 6) (pa_cons (pv 2) pa_nil)))))))))))), ?_⟩
    refine ⟨_, rfl, H, v, d, rfl, Same.refl H, hd, brd, fun H1 t ks s1 ht hk => ?_⟩
    have lk := dpl hk
    rw [List.length_map] at lk
    refine ⟨_, rfl, t, _, rfl, .inr ht, rfl, _, rfl, ?_⟩
    rw [lk, int_dec 0 0 rfl]
    cases hf : forkOf d with
    | none =>
      have ek : kids d = [] := by unfold kids; rw [hf]
      rw [ek]
      rw [(fork2_none hf).2.2] at q
      refine iteT ?_
      refine ⟨_, rfl, by show 1 ≤ sizeLine; decide, fun y ny => ⟨by show 1 ≤ sizeLine; decide, fun l nl => ?_⟩⟩
      have s2 := same_upd (o := HO.tup [V.int (b : Nat)]) ny
      have s3 := same_upd (o := HO.lst [V.ref y]) nl
      have s12 := s1.trans s2
      exact q _ l _ (s12.trans s3) (s12.free nl) upd_same (.cons ⟨y, rfl, SqT.of (s3 _ _ upd_same)⟩ .nil)
    | some xy =>
      obtain ⟨x, y⟩ := xy
      have ek : kids d = [x, y] := by unfold kids; rw [hf]
      rw [ek] at hk ⊢
      rw [(fork2_some hf).2.2] at q
      have mx : x ∈ kids d := by rw [ek]; exact List.mem_cons_self
      have my : y ∈ kids d := by rw [ek]; exact List.mem_cons_of_mem _ List.mem_cons_self
      have bk : ∀ z ∈ kids d, ∀ e ∈ flat z, BrOk e := fun z hz e he => brk e ((kid_flat hz).2 e he)
      have lx := (kid_flat mx).1
      have ly := (kid_flat my).1
      cases hk with
      | @cons k1 ks _ _ h1 hk =>
      cases hk with
      | @cons k2 ks _ _ h2 hk =>
      cases hk
      cases h1 with
      | @tup p1 xs1 _ hp1 ha1 =>
      cases h2 with
      | @tup p2 xs2 _ hp2 ha2 =>
      have l1 := dpl ha1
      have l2 := dpl ha2
      refine iteF ?_
      refine ⟨_, rfl, t, _, rfl, ht, rfl, _, _, rfl, _, _, rfl, rfl, ?_⟩
      refine ⟨_, rfl, _, _, rfl, rfl, ?_⟩
      refine ⟨_, rfl, H, p1, xs1, x, rfl, s1, s1.tupS hp1, ha1, kid_fit ft mx, bk x mx, fun H2 l2' ys2 s2 n2 h2' hy2 => ?_⟩
      have ly2 := dpl hy2
      refine ⟨l2', _, rfl, .inl (SqL.of h2'), _, _, rfl, rfl, ?_⟩
      refine name_in ?_
      dsimp only
      have em : ((s : Nat) : Int) + 1 + ((ys2.length : Nat) : Int) = ((s + 1 + (flat x).length : Nat) : Int) := by omega
      have s12 := s1.trans s2
      rw [em]
      have gt : ∀ k : Nat, decide ((0 : Int) < (k : Nat)) = decide (0 < k) := fun k => by
        by_cases h : 0 < k
        · rw [decide_eq_true h, decide_eq_true (by omega)]
        · rw [decide_eq_false h, decide_eq_false (by omega)]
      have emp : ∀ z : List D, z.isEmpty = !decide (0 < z.length) := fun z => by cases z <;> simp
      rw [emp x, emp y] at q
      refine seqS_in (asg_via (fun v H3 => Same H2 H3 ∧ WayT K H3 v [if (!decide (0 < x.length)) = true then b else s + 1, if (!decide (0 < y.length)) = true then b else s + 1 + (flat x).length]) (fun Qx hQ => ?_) (fun v H3 ⟨s3, hw⟩ => ?_))
      · refine ⟨_, rfl, p1, _, rfl, .inr (s12.tupS hp1), _, _, rfl, rfl, _, rfl, ?_⟩
        rw [l1, gt]
        have s2' := s1.trans s2
        have fin : ∀ (a1 a2 : Nat), a1 = (if (!decide (0 < x.length)) = true then b else s + 1) → a2 = (if (!decide (0 < y.length)) = true then b else s + 1 + (flat x).length) → ∀ o, H2 o = none → Qx (.ref o) (upd H2 o (.tup [.int (a1 : Nat), .int (a2 : Nat)])) := fun a1 a2 e1 e2 o no => hQ _ _ ⟨same_upd no, o, rfl, by rw [← e1, ← e2]; exact SqT.of upd_same⟩
        cases hx0 : decide (0 < x.length) with
        | false =>
          rw [hx0] at fin
          refine iteF ⟨_, rfl, ?_⟩
          refine ⟨_, rfl, p2, _, rfl, .inr (s12.tupS hp2), _, _, rfl, rfl, _, rfl, ?_⟩
          rw [l2, gt]
          cases hy0 : decide (0 < y.length) with
          | false =>
            rw [hy0] at fin
            exact iteF ⟨_, rfl, by show 2 ≤ sizeLine; decide, fin b b rfl rfl⟩
          | true =>
            rw [hy0] at fin
            exact iteT ⟨_, rfl, by show 2 ≤ sizeLine; decide, fin b (s + 1 + (flat x).length) rfl rfl⟩
        | true =>
          rw [hx0] at fin
          refine iteT ⟨_, rfl, _, _, rfl, rfl, ?_⟩
          refine ⟨_, rfl, p2, _, rfl, .inr (s12.tupS hp2), _, _, rfl, rfl, _, rfl, ?_⟩
          rw [l2, gt]
          cases hy0 : decide (0 < y.length) with
          | false =>
            rw [hy0] at fin
            exact iteF ⟨_, rfl, by show 2 ≤ sizeLine; decide, fin (s + 1) b rfl rfl⟩
          | true =>
            rw [hy0] at fin
            exact iteT ⟨_, rfl, by show 2 ≤ sizeLine; decide, fin (s + 1) (s + 1 + (flat x).length) rfl rfl⟩
      · refine name_in ?_
        have s123 := s12.trans s3
        refine ⟨_, rfl, by show 1 ≤ sizeLine; decide, fun l4 n4 => ?_⟩
        have s4 := same_upd (o := HO.lst [v]) n4
        have e4 : (upd H3 l4 (.lst [v])) l4 = some (.lst [v]) := upd_same
        have hw4 := hw.same s4
        generalize upd H3 l4 (.lst [v]) = H4 at s4 e4 hw4
        have s14 := s123.trans s4
        refine ⟨_, rfl, _, rfl, _, _, rfl, rfl, _, rfl, p1, xs1, x, s + 1, b, rfl, s14.tupS hp1, ha1.same s14, kid_fit ft mx, bk x mx, by omega, fun H5 l5 ys5 s5 n5 h5 hy5 => ?_⟩
        have w5 := hy5.length
        rw [wa_len] at w5
        refine ⟨l4, l5, _, _, rfl, rfl, s5 _ _ e4, h5, by rw [sizeLine_eq, w5]; show 1 + _ ≤ _; omega, fun l6 n6 => ?_⟩
        have s6 := same_upd (o := HO.lst ([v] ++ ys5)) n6
        have e6 : (upd H5 l6 (.lst ([v] ++ ys5))) l6 = some (.lst ([v] ++ ys5)) := upd_same
        generalize upd H5 l6 (.lst ([v] ++ ys5)) = H6 at s6 e6
        have s16 := s14.trans (s5.trans s6)
        refine ⟨_, rfl, _, rfl, _, rfl, p2, xs2, y, s + 1 + (flat x).length, b, rfl, s16.tupS hp2, ha2.same s16, kid_fit ft my, bk y my, by omega, fun H7 l7 ys7 s7 n7 h7 hy7 => ?_⟩
        have w7 := hy7.length
        rw [wa_len] at w7
        refine ⟨l6, l7, _, _, rfl, rfl, s7 _ _ e6, h7, ?_, fun l8 n8 => ?_⟩
        · rw [sizeLine_eq, List.length_append, w5, w7]
          show 1 + _ + _ ≤ _
          omega
        have s8 := same_upd (o := HO.lst ([v] ++ ys5 ++ ys7)) n8
        have s17 := s16.trans s7
        refine q _ l8 _ (s17.trans s8) (s17.free n8) upd_same ?_
        exact ((All2.cons (hw4.same ((s5.trans s6).trans (s7.trans s8))) .nil).append (hy5.mono fun _ _ z => z.same (s6.trans (s7.trans s8)))).append (hy7.mono fun _ _ z => z.same s8)
end
end Tr

/-! P8 -/
/-! ### the heap without the pool; things written out -/
namespace Tr
open PySem PySem.Spec PyProof.Rows L2 Rw
/-- the heap without o -/
def wh (o : Addr) (H : Hp) : Hp := fun a => if a = o then none else H a
theorem wh_sub {o : Addr} {H : Hp} : Same (wh o H) H := fun a x h => by
  unfold wh at h
  split at h
  · cases h
  · exact h
theorem wh_same {o : Addr} {H H' : Hp} (s : Same H H') : Same (wh o H) (wh o H') := fun a x h => by
  unfold wh at h ⊢
  split at h
  · cases h
  · next e => rw [if_neg e]; exact s a x h
theorem wh_but {o : Addr} {H H' : Hp} (b : SameBut o H H') : Same (wh o H) (wh o H') := fun a x h => by
  unfold wh at h ⊢
  split at h
  · cases h
  · next e => rw [if_neg e]; exact b a x e h
theorem wh_at {o l : Addr} {H : Hp} {x : HO} (n : l ≠ o) (h : H l = some x) : wh o H l = some x := by
  unfold wh
  rw [if_neg n]
  exact h
theorem wh_ne {o l : Addr} {H : Hp} {x : HO} (h : wh o H l = some x) : l ≠ o := fun e => by
  unfold wh at h
  rw [if_pos e] at h
  cases h
theorem pool_ne {o q l : Addr} {H : Hp} (p : PoolAt H o q) (nl : H l = none) : l ≠ o := by
  obtain ⟨a, ns, h1, _⟩ := p
  intro e
  rw [e, h1] at nl
  cases nl
theorem wh_new {o q l : Addr} {H : Hp} {x : HO} (p : PoolAt H o q) (nl : H l = none) : wh o (upd H l x) l = some x := wh_at (pool_ne p nl) upd_same
theorem wh_upd {o l : Addr} {H : Hp} {x : HO} (nl : H l = none) : Same (wh o H) (wh o (upd H l x)) := wh_same (same_upd nl)
theorem pool_upd {o q l : Addr} {H : Hp} {x : HO} (p : PoolAt H o q) (nl : H l = none) : PoolAt (upd H l x) o q := p.same (same_upd nl)
/-! a thing written out -/
section
variable {X : Cx} {e : Expr} {es : List Expr} {pos : Pos} {J : L2.St → Hp → Prop} {K : PySem.W.Frag} {d : D} {ds : List D}
def tLit (J : L2.St → Hp → Prop) (K : PySem.W.Frag) (d : D) : TE := fun σ H Q => J σ H ∧ ∀ H' v, Same H H' → Dp K H' v d → Q v H'
def tLits (J : L2.St → Hp → Prop) (K : PySem.W.Frag) (ds : List D) : TA := fun σ H Q => J σ H ∧ ∀ H' vs, Same H H' → DpAll K H' vs ds → Q vs H'
def tLitL (J : L2.St → Hp → Prop) (K : PySem.W.Frag) (ds : List D) : TE := fun σ H Q => J σ H ∧ ∀ H' l vs, Same H H' → H l = none → H' l = some (.lst vs) → DpAll K H' vs ds → Q (.ref l) H'
structure Stay (J : L2.St → Hp → Prop) : Prop where
  up : ∀ σ H H', J σ H → Same H H' → J σ H'
theorem pe_way {t t' : TE} (h : PE X e t) (m : ∀ σ H Q, t' σ H Q → t σ H Q) : PE X e t' := ⟨fun pins s σ H Q I q => h.run pins s σ H Q I (m σ H Q q)⟩
theorem pa_way {t t' : TA} (h : PA X es t) (m : ∀ σ H Q, t' σ H Q → t σ H Q) : PA X es t' := ⟨fun pos pins s σ H Q I q => h.run pos pins s σ H Q I (m σ H Q q)⟩
theorem pl_int {i : Int} {j pos} : PE X (.Constant (.int i) j pos) (tLit J K (.int i)) := pe_way pe_int fun σ H Q h => h.2 H _ (Same.refl H) (.int i)
theorem pl_bl {b : Bool} {j pos} : PE X (.Constant (.bool b) j pos) (tLit J K (.bool b)) := pe_way pe_bl fun σ H Q h => h.2 H _ (Same.refl H) (.bl b)
theorem pl_non {j pos} : PE X (.Constant .none j pos) (tLit J K .none) := pe_way pe_non fun σ H Q h => h.2 H _ (Same.refl H) .non
theorem pl_str {x : Str} {j pos} : PE X (.Constant (.str x) j pos) (tLit J K (.str x)) := pe_way pe_str fun σ H Q h => h.2 H _ (Same.refl H) (.str x)
theorem pl_nil : PA X [] (tLits J K []) := pa_way pa_nil fun σ H Q h => h.2 H [] (Same.refl H) .nil
theorem pl_cons (S : Stay J) (ha : PE X e (tLit J K d)) (hr : PA X es (tLits J K ds)) (hs : starEach (e :: es) X.env = (false, eval e X.env) :: starEach es X.env := by rfl) : PA X (e :: es) (tLits J K (d :: ds)) :=
  pa_way (pa_cons ha hr hs) fun σ H Q h => ⟨h.1, fun H1 v s1 h1 => ⟨S.up _ _ _ h.1 s1, fun H2 vs s2 h2 => h.2 H2 (v :: vs) (s1.trans s2) (.cons (h1.same s2) h2)⟩⟩
theorem pl_tup {x1} (h : PA X es (tLits J K ds)) (z : ds.length ≤ 1000 := by decide) : PE X (.Tuple es x1 pos) (tLit J K (.tuple ds)) :=
  pe_way (pe_tup h) fun σ H Q q => ⟨q.1, fun H1 vs s1 h1 => ⟨by rw [dpl h1, sizeLine_eq]; omega, fun p np => q.2 _ _ (s1.trans (same_upd np)) (.tup (SqT.of upd_same) (h1.same (same_upd np)))⟩⟩
theorem pl_lst (h : PA X es (tLits J K ds)) (z : ds.length ≤ 1000 := by decide) : PE X (.List es pos) (tLit J K (.list ds)) :=
  pe_way (pe_lst h) fun σ H Q q => ⟨q.1, fun H1 vs s1 h1 => ⟨by rw [dpl h1, sizeLine_eq]; omega, fun p np => q.2 _ _ (s1.trans (same_upd np)) (.lst (SqL.of upd_same) (h1.same (same_upd np)))⟩⟩
theorem pl_list (h : PA X es (tLits J K ds)) (z : ds.length ≤ 1000 := by decide) : PE X (.List es pos) (tLitL J K ds) :=
  pe_way (pe_lst h) fun σ H Q q => ⟨q.1, fun H1 vs s1 h1 => ⟨by rw [dpl h1, sizeLine_eq]; omega, fun p np => q.2 _ p vs (s1.trans (same_upd np)) (s1.free np) upd_same (h1.same (same_upd np))⟩⟩
end
end Tr

/-! P9 -/
/-! ### the law's tuples, size -/
namespace Tr
open PySem PySem.Spec PyProof.Rows L2 Rw
def spTu (K : PySem.W.Frag) : Sp := fun vs H Q _ => ∃ (H0 : Hp) (v : V) (d : D), vs = [v] ∧ Same H0 H ∧ Dp K H0 v d ∧ BrOk d ∧ ∀ H' l ys, Same H H' → H l = none → H' l = some (.lst ys) → DpAll K H0 ys ((kids d).map PyData.tuple) → Q (.ref l) H'
def spSz (K : PySem.W.Frag) (n : Nat) : Sp := fun vs H Q _ => ∃ (H0 : Hp) (p : Addr) (xs : List V) (ds : List D), vs = [.ref p] ∧ Same H0 H ∧ SqT K H p xs ∧ DpAll K H0 xs ds ∧ Fits n ds ∧ (∀ d ∈ flat ds, BrOk d) ∧ ∀ H', Same H H' → Q (.int ((flat ds).length : Nat)) H'
def spSzL (K : PySem.W.Frag) (n : Nat) : Sp := fun vs H Q _ => ∃ (H0 : Hp) (p : Addr) (xs : List V) (ds : List D), vs = [.ref p] ∧ Same H0 H ∧ SqL K H p xs ∧ DpAll K H0 xs ds ∧ Fits n ds ∧ (∀ d ∈ flat ds, BrOk d) ∧ ∀ H', Same H H' → Q (.int ((flat ds).length : Nat)) H'
section
variable {P : Program} {w : World} {K : PySem.W.Frag} {mg : Str → Option Value} {base : Heap}
abbrev sTu : Stmt := top 42
theorem scTu : FnScope ["_law_item"] ["_law_item"] (defScope sTu) := ⟨rfl, rfl, rfl, by decide +kernel, rfl, by decide +kernel, by decide +kernel⟩
theorem ok_tu {f : Addr} {fd : FuncData} (F : Fun K "_law_tuples" "_law_tuples" sTu f fd) : FnOk P w K mg base CX0 1 f fd ["_law_item"] (spTu K) := by
  refine F.ok scTu (fun vs H Q E h => ?_) (fun cdv A outer s H vs Q E hr h => ?_)
  · obtain ⟨H0, v, d, rfl, _⟩ := h
    rfl
  · obtain ⟨H0, v, d, rfl, s0, hd, ⟨wd, r, rfl, b1, b2, b3⟩, q⟩ := h
    refine ⟨_, (pss_cons (ps_if (pt_cmpR op_eq (pe_ix (ix_tupK (K := K) rfl) (pv 0) pe_int (fun _ _ => rfl)) pe_str (nomark _))
       (pss_one (ps_ret (pe_lst (pa_cons (pe_ix (ix_tupK (K := K) rfl) (pv 0) pe_int (fun _ _ => rfl)) (pa_cons (pe_ix (ix_tupK (K := K) rfl) (pv 0) pe_int (fun _ _ => rfl)) pa_nil)))))
       pss_nil)
       (pss_one (ps_ret (pe_ifExp (pt_cmpR op_eq (pe_ix (ix_tupK (K := K) rfl) (pv 0) pe_int (fun _ _ => rfl)) pe_str (nomark _))
       (pe_lst (pa_cons (pe_ix (ix_tupK (K := K) rfl) (pv 0) pe_int (fun _ _ => rfl)) (pa_cons (pe_ix (ix_tupK (K := K) rfl) (pv 0) pe_int (fun _ _ => rfl)) pa_nil)))
       (pe_lst pa_nil))))), ?_⟩
    cases hd with
    | @tup p xs _ hp ha =>
      cases ha with
      | @cons x0 xs _ _ h0 ha =>
        cases h0
        have hp1 := s0.tupS hp
        refine ⟨_, rfl, p, _, _, _, rfl, rfl, hp1, at0, rfl, _, rfl, ?_⟩
        rw [Rw.dec_str]
        by_cases e1 : wd = "test"
        · rw [decide_eq_true e1]
          subst e1
          obtain ⟨n, x, y, rfl⟩ := b1 rfl
          cases ha with
          | cons hn ha =>
          cases ha with
          | cons hx ha =>
          cases ha with
          | cons hy ha =>
          cases ha
          refine iteT ?_
          refine ⟨_, rfl, p, _, _, _, rfl, rfl, hp1, at2, _, rfl, p, _, _, _, rfl, rfl, hp1, at3, by show 2 ≤ sizeLine; decide, fun l nl => ?_⟩
          exact q _ l _ (same_upd nl) nl upd_same (by rw [kids_test]; exact .cons hx (.cons hy .nil))
        · rw [decide_eq_false e1]
          refine iteF ?_
          refine ⟨_, rfl, p, _, _, _, rfl, rfl, hp1, at0, rfl, _, rfl, ?_⟩
          rw [Rw.dec_str]
          by_cases e2 : wd = "choose"
          · rw [decide_eq_true e2]
            subst e2
            obtain ⟨x, y, rfl⟩ := b2 rfl
            cases ha with
            | cons hx ha =>
            cases ha with
            | cons hy ha =>
            cases ha
            refine iteT ?_
            refine ⟨_, rfl, p, _, _, _, rfl, rfl, hp1, at1, _, rfl, p, _, _, _, rfl, rfl, hp1, at2, by show 2 ≤ sizeLine; decide, fun l nl => ?_⟩
            exact q _ l _ (same_upd nl) nl upd_same (by rw [kids_choose]; exact .cons hx (.cons hy .nil))
          · rw [decide_eq_false e2]
            refine iteF ?_
            refine ⟨Nat.zero_le _, fun l nl => q _ l [] (same_upd nl) nl upd_same ?_⟩
            rw [kids_none e1 e2]
            exact .nil
abbrev sSz : Stmt := top 43
theorem scSz : FnScope ["_law_items", "_law_total", "_law_item", "_law_some_here"] ["_law_items"] (defScope sSz) := ⟨rfl, rfl, rfl, by decide +kernel, rfl, by decide +kernel, by decide +kernel⟩
theorem sum_len : ∀ (dss : List (List D)), (dss.map fun x => (((flat x).length : Nat) : Int)).sum = (((dss.flatMap flat).length : Nat) : Int)
  | [] => rfl
  | d :: dss => by
    rw [List.map_cons, List.sum_cons, sum_len dss, List.flatMap_cons, List.length_append]
    omega
/-- what stands in the loop's turn, for both ways to walk -/
theorem ok_sz {f fT : Addr} {fd fdT : FuncData} (F : Fun K "_law_size" "_law_size" sSz f fd) (TZ : Called K mg "_law_size" ["_law_items"] f fd) (GT : FnOk P w K mg base CX0 1 fT fdT ["_law_item"] (spTu K)) (TT : Called K mg "_law_tuples" ["_law_item"] fT fdT) (m_sum : mg "sum" = none) : ∀ n, FnOk P w K mg base CX0 (n + 2) f fd ["_law_items"] (spSz K n) ∧ FnOk P w K mg base CX0 (n + 2) f fd ["_law_items"] (spSzL K n) := by
  intro n
  induction n with
  | zero =>
    constructor
    · refine F.ok scSz (fun vs H Q E h => ?_) (fun cdv A outer s H vs Q E hr h => ?_)
      · obtain ⟨H0, p, xs, ds, rfl, _⟩ := h
        rfl
      · obtain ⟨H0, p, xs, ds, rfl, _, _, _, ft, _⟩ := h
        exact absurd ft.dep (Nat.not_lt_zero _)
    · refine F.ok scSz (fun vs H Q E h => ?_) (fun cdv A outer s H vs Q E hr h => ?_)
      · obtain ⟨H0, p, xs, ds, rfl, _⟩ := h
        rfl
      · obtain ⟨H0, p, xs, ds, rfl, _, _, _, ft, _⟩ := h
        exact absurd ft.dep (Nat.not_lt_zero _)
  | succ n ih =>
    have GZ := ih.1
    constructor
    · refine F.ok scSz (fun vs H Q E h => ?_) (fun cdv A outer s H vs Q E hr h => ?_)
      · obtain ⟨H0, p, xs, ds, rfl, _⟩ := h
        rfl
      · obtain ⟨H0, p, xs, ds, rfl, s0, hp, ha, ft, br, q⟩ := h
        refine ⟨_, (pss_cons (ps_set (i := 1) scSz.nd rfl (.inl rfl) pe_int)
       (pss_cons (ps_for PassesOwn.never rfl (pi_tup (pv 0)) (pg_name (i := 2) scSz.nd rfl (.inl rfl))
       (pss_one (ps_set (i := 1) scSz.nd rfl (.inl rfl) (pe_op op_add (pe_op op_add (pv 1) pe_int) (pe_callB (cr_sum rfl) (by rfl) m_sum (by decide +kernel) (pa_cons (pe_lc (own := [("_law_some_here", 3)]) (g := gName 3) (tt := tYes) (by rfl) scSz.nd (pi_list (pe_call GT (hr.mono (by first | decide | omega)) rfl TT.1 TT.2.1 TT.2.2 .nil pass0 (pa_cons (pv 2) pa_nil))) (blkOk_by (own := [("_law_some_here", 3)]) (N := ["_law_items", "_law_total", "_law_item", "_law_some_here"]) (sc := defScope sSz) (by decide +kernel)) (fun _ _ _ _ _ => (pg_name (i := 3) scSz.nd rfl (Or.inl rfl))) (fun _ _ _ _ _ => pts_nil) (fun _ _ _ _ _ => (pe_call GZ (hr.mono (by first | decide | omega)) rfl TZ.1 TZ.2.1 TZ.2.2 .nil pass0 (pa_cons (pv 3) pa_nil)))) pa_nil))))))
       (pss_one (ps_ret (pv 1))))), ?_⟩
        have len := dpl ha
        refine ⟨_, rfl, p, rfl, ⟨_, hp⟩, for_tup (xs := xs)
          (fun i σ H' => ∃ (v2 v3 : Option V), σ = [some (.ref p), some (.int ((flat (ds.take i)).length : Nat)), v2, v3] ∧ Same H H')
          ⟨none, none, by rw [List.take_zero, flat]; rfl, Same.refl H⟩ ?_ ?_ ?_⟩
        · rintro i σ H' hi ⟨v2, v3, rfl, sm⟩
          exact sm.tupS hp
        · rintro i x σ H1 hxi ⟨v2, v3, rfl, s1⟩
          obtain ⟨d, hd, hx⟩ := dp_get ha hxi
          have mem : d ∈ ds := List.mem_of_getElem? hd
          have tk := take_snoc hd
          have fl1 : flat (ds.take (i + 1)) = flat (ds.take i) ++ (d :: flatk d) := by rw [tk, flat_app, flat_one]
          have sub : ∀ e ∈ flat (ds.take (i + 1)), e ∈ flat ds := fun e he => by
            rw [← List.take_append_drop (i + 1) ds, flat_app]
            exact List.mem_append_left _ he
          have brd : BrOk d := br d (sub d (by rw [fl1]; exact List.mem_append_right _ List.mem_cons_self))
          refine ⟨_, rfl, _, _, rfl, rfl, ?_⟩
          refine ⟨_, rfl, H0, x, d, rfl, s0.trans s1, hx, brd, fun H2 l ks s2 nl hl hk => ?_⟩
          have lk := dpl hk
          rw [List.length_map] at lk
          refine ⟨l, rfl, ⟨_, SqL.of hl⟩, fun L nL => lc_list (K := K) (a := l) (xs := ks) (fun j H' => Same H2 H' ∧ H' L = some (.lst (((kids d).take j).map fun x => V.int (((flat x).length : Nat) : Int)))) ⟨same_upd nL, upd_same⟩ (fun j H' _ h => h.1.seq (SqL.of hl)) ?_ ?_⟩
          · rintro j k H3 hkj ⟨s3, e3⟩
            obtain ⟨pk, xk, dk, rfl, hdk, hpk, hak⟩ := dp_map_tup hk hkj
            have memk : dk ∈ kids d := List.mem_of_getElem? hdk
            refine ⟨rfl, ?_⟩
            dsimp only [tYes]
            rw [if_pos rfl]
            refine ⟨_, rfl, H0, pk, xk, dk, rfl, (s0.trans s1).trans (s2.trans s3), ((s0.trans s1).trans (s2.trans s3)).tupS hpk, hak, kid_fit (ft.mem mem) memk, fun e he => br e (sub e (by rw [fl1]; exact List.mem_append_right _ (List.mem_cons_of_mem _ (by rw [flatk_kids]; exact List.mem_flatMap.mpr ⟨dk, memk, he⟩)))), fun H4 s4 => ?_⟩
            refine ⟨_, s4 _ _ e3, ?_, same_updN nL (s3.trans s4), ?_⟩
            · have := kids_len d
              rw [List.length_map, List.length_take, sizeLine_eq]
              omega
            · rw [upd_same, take_snoc hdk, List.map_append]
              rfl
          · rintro H3 ⟨s3, e3⟩
            rw [lk, List.take_length] at e3
            refine ⟨L, (kids d).map fun x => (((flat x).length : Nat) : Int), rfl, SqL.of (by rw [e3, List.map_map]; rfl), _, _, rfl, rfl, ?_⟩
            refine ⟨some x, v3, ?_, s1.trans (s2.trans s3)⟩
            rw [sum_len, ← flatk_kids, fl1, List.length_append, List.length_cons]
            have e9 : (((flat (ds.take i)).length : Nat) : Int) + 1 + (((flatk d).length : Nat) : Int) = (((flat (ds.take i)).length + ((flatk d).length + 1) : Nat) : Int) := by omega
            dsimp only
            rw [e9]
            rfl
        · rintro σ H1 ⟨v2, v3, rfl, s1⟩
          rw [len, List.take_length]
          exact ⟨_, rfl, q H1 s1⟩
    · refine F.ok scSz (fun vs H Q E h => ?_) (fun cdv A outer s H vs Q E hr h => ?_)
      · obtain ⟨H0, p, xs, ds, rfl, _⟩ := h
        rfl
      · obtain ⟨H0, p, xs, ds, rfl, s0, hp, ha, ft, br, q⟩ := h
        refine ⟨_, (pss_cons (ps_set (i := 1) scSz.nd rfl (.inl rfl) pe_int)
       (pss_cons (ps_for PassesOwn.never rfl (pi_list (pv 0)) (pg_name (i := 2) scSz.nd rfl (.inl rfl))
       (pss_one (ps_set (i := 1) scSz.nd rfl (.inl rfl) (pe_op op_add (pe_op op_add (pv 1) pe_int) (pe_callB (cr_sum rfl) (by rfl) m_sum (by decide +kernel) (pa_cons (pe_lc (own := [("_law_some_here", 3)]) (g := gName 3) (tt := tYes) (by rfl) scSz.nd (pi_list (pe_call GT (hr.mono (by first | decide | omega)) rfl TT.1 TT.2.1 TT.2.2 .nil pass0 (pa_cons (pv 2) pa_nil))) (blkOk_by (own := [("_law_some_here", 3)]) (N := ["_law_items", "_law_total", "_law_item", "_law_some_here"]) (sc := defScope sSz) (by decide +kernel)) (fun _ _ _ _ _ => (pg_name (i := 3) scSz.nd rfl (Or.inl rfl))) (fun _ _ _ _ _ => pts_nil) (fun _ _ _ _ _ => (pe_call GZ (hr.mono (by first | decide | omega)) rfl TZ.1 TZ.2.1 TZ.2.2 .nil pass0 (pa_cons (pv 3) pa_nil)))) pa_nil))))))
       (pss_one (ps_ret (pv 1))))), ?_⟩
        have len := dpl ha
        refine ⟨_, rfl, p, rfl, ⟨_, hp⟩, for_list (K := K) (a := p) (xs := xs)
          (fun i σ H' => ∃ (v2 v3 : Option V), σ = [some (.ref p), some (.int ((flat (ds.take i)).length : Nat)), v2, v3] ∧ Same H H')
          ⟨none, none, by rw [List.take_zero, flat]; rfl, Same.refl H⟩ ?_ ?_ ?_⟩
        · rintro i σ H' hi ⟨v2, v3, rfl, sm⟩
          exact sm.seq hp
        · rintro i x σ H1 hxi ⟨v2, v3, rfl, s1⟩
          obtain ⟨d, hd, hx⟩ := dp_get ha hxi
          have mem : d ∈ ds := List.mem_of_getElem? hd
          have tk := take_snoc hd
          have fl1 : flat (ds.take (i + 1)) = flat (ds.take i) ++ (d :: flatk d) := by rw [tk, flat_app, flat_one]
          have sub : ∀ e ∈ flat (ds.take (i + 1)), e ∈ flat ds := fun e he => by
            rw [← List.take_append_drop (i + 1) ds, flat_app]
            exact List.mem_append_left _ he
          have brd : BrOk d := br d (sub d (by rw [fl1]; exact List.mem_append_right _ List.mem_cons_self))
          refine ⟨_, rfl, _, _, rfl, rfl, ?_⟩
          refine ⟨_, rfl, H0, x, d, rfl, s0.trans s1, hx, brd, fun H2 l ks s2 nl hl hk => ?_⟩
          have lk := dpl hk
          rw [List.length_map] at lk
          refine ⟨l, rfl, ⟨_, SqL.of hl⟩, fun L nL => lc_list (K := K) (a := l) (xs := ks) (fun j H' => Same H2 H' ∧ H' L = some (.lst (((kids d).take j).map fun x => V.int (((flat x).length : Nat) : Int)))) ⟨same_upd nL, upd_same⟩ (fun j H' _ h => h.1.seq (SqL.of hl)) ?_ ?_⟩
          · rintro j k H3 hkj ⟨s3, e3⟩
            obtain ⟨pk, xk, dk, rfl, hdk, hpk, hak⟩ := dp_map_tup hk hkj
            have memk : dk ∈ kids d := List.mem_of_getElem? hdk
            refine ⟨rfl, ?_⟩
            dsimp only [tYes]
            rw [if_pos rfl]
            refine ⟨_, rfl, H0, pk, xk, dk, rfl, (s0.trans s1).trans (s2.trans s3), ((s0.trans s1).trans (s2.trans s3)).tupS hpk, hak, kid_fit (ft.mem mem) memk, fun e he => br e (sub e (by rw [fl1]; exact List.mem_append_right _ (List.mem_cons_of_mem _ (by rw [flatk_kids]; exact List.mem_flatMap.mpr ⟨dk, memk, he⟩)))), fun H4 s4 => ?_⟩
            refine ⟨_, s4 _ _ e3, ?_, same_updN nL (s3.trans s4), ?_⟩
            · have := kids_len d
              rw [List.length_map, List.length_take, sizeLine_eq]
              omega
            · rw [upd_same, take_snoc hdk, List.map_append]
              rfl
          · rintro H3 ⟨s3, e3⟩
            rw [lk, List.take_length] at e3
            refine ⟨L, (kids d).map fun x => (((flat x).length : Nat) : Int), rfl, SqL.of (by rw [e3, List.map_map]; rfl), _, _, rfl, rfl, ?_⟩
            refine ⟨some x, v3, ?_, s1.trans (s2.trans s3)⟩
            rw [sum_len, ← flatk_kids, fl1, List.length_append, List.length_cons]
            have e9 : (((flat (ds.take i)).length : Nat) : Int) + 1 + (((flatk d).length : Nat) : Int) = (((flat (ds.take i)).length + ((flatk d).length + 1) : Nat) : Int) := by omega
            dsimp only
            rw [e9]
            rfl
        · rintro σ H1 ⟨v2, v3, rfl, s1⟩
          rw [len, List.take_length]
          exact ⟨_, rfl, q H1 s1⟩
end
end Tr

/-! P10 -/
/-! ### the law's flat -/
namespace Tr
open PySem PySem.Spec PyProof.Rows L2 Rw
theorem ite_any {b : Bool} {A B : Prop} (h1 : A) (h2 : B) : if b = true then A else B := by
  cases b
  · exact iteF h2
  · exact iteT h1
theorem ifS_join {c : TT} {t u : TS} {D : Ends} {σ : L2.St} {H : Hp} (G : L2.St → Hp → Prop) (hG : ∀ σ' H', G σ' H' → D.nx σ' H') (h : (∀ σ' H', G σ' H' → D.nx σ' H') → c σ H fun b H1 => if b = true then t D σ H1 else u D σ H1) : tIfS c t u D σ H := h hG
theorem ifE_via {tc : TT} {ta tb : TE} {σ : L2.St} {H : Hp} {Q : VK} (F : V → Hp → Prop) (hQ : ∀ v H', F v H' → Q v H') (h : (∀ v H', F v H' → Q v H') → tc σ H fun b H1 => if b = true then ta σ H1 Q else tb σ H1 Q) : tIf tc ta tb σ H Q := h hQ
theorem but_last_txt {K : PySem.W.Frag} {H : Hp} {u : V} {ns : List Str} {Q : VK} (h : TxtT K H u ns) (q : ∀ H' u', Same H H' → TxtT K H' u' ns.dropLast → Q u' H') : rSlA K u none (some (-1)) H Q := by
  obtain ⟨t, rfl, ht⟩ := h
  refine ⟨t, _, rfl, ht, fun c => ?_, fun c u nu => ?_⟩
  · have e1 : HT.sIx (ns.map V.str).length (ns.map V.str).length (some (-1)) = ns.length - 1 := by rw [List.length_map]; exact sIx_m1 _ _
    have c2 := c.2
    rw [e1, List.length_map] at c2
    have e2 : ns = [] := List.eq_nil_of_length_eq_zero (by omega)
    rw [e2] at q ht
    exact q H _ (Same.refl H) ⟨t, rfl, ht⟩
  · refine q _ _ (same_upd nu) ⟨u, rfl, SqT.of ?_⟩
    rw [upd_same, cut_m1, List.map_dropLast]
theorem eqv_nilL (ds : List D) : PyData.eqv (.list ds) (.list []) = ds.isEmpty := by
  cases ds <;> simp [PyData.eqv, PyData.eqvAll]
theorem eqv_nilT (ds : List D) : PyData.eqv (.tuple ds) (.tuple []) = ds.isEmpty := by
  cases ds <;> simp [PyData.eqv, PyData.eqvAll]
/-- a row of the law's list: a tuple that begins with the item -/
def RowT (K : PySem.W.Frag) (H0 H : Hp) (v : V) (d : D) : Prop := ∃ p x rest, v = .ref p ∧ SqT K H p (x :: rest) ∧ Dp K H0 x d
theorem RowT.same {K : PySem.W.Frag} {H0 H H' : Hp} (s : Same H H') {v : V} {d : D} (h : RowT K H0 H v d) : RowT K H0 H' v d := let ⟨p, x, r, e, q, z⟩ := h; ⟨p, x, r, e, s.tupS q, z⟩
theorem RowT.updL {K : PySem.W.Frag} {H0 H : Hp} {l : Addr} {xs : List V} {u : HO} (hl : H l = some (.lst xs)) {v : V} {d : D} (h : RowT K H0 H v d) : RowT K H0 (upd H l u) v d := let ⟨p, x, r, e, q, z⟩ := h; ⟨p, x, r, e, sqT_updL hl q, z⟩
def spLF (K : PySem.W.Frag) (n : Nat) : Sp := fun vs H Q _ => ∃ (H0 : Hp) (p : Addr) (s b : Int) (hv : V) (xs : List V) (ds : List D) (held : List Str), vs = [.ref p, .int s, .int b, hv] ∧ Same H0 H ∧ SqT K H p xs ∧ DpAll K H0 xs ds ∧ Fits n ds ∧ (∀ d ∈ flat ds, BrOk d) ∧ TxtT K H hv held ∧ held.length + (flat ds).length ≤ 900 ∧
  ∀ H' l ys, Same H H' → H l = none → H' l = some (.lst ys) → All2 (RowT K H0 H') ys (flat ds) → Q (.ref l) H'
theorem kids_cnt {d : D} : (kids d).length = 0 ∨ ∃ x y, kids d = [x, y] := by
  unfold kids
  cases forkOf d with
  | none => exact .inl rfl
  | some p => exact .inr ⟨p.1, p.2, rfl⟩
theorem kids_shaped {n : Nat} {d : D} (ft : FitD (n + 1) d) (hn : n ≤ 40) : SeqAt.shaped (.list ((kids d).map PyData.tuple)) = true := by
  refine shaped_of ?_ ?_
  · rw [PyData.canLay0]
    refine lays_of _ ?_
    rcases kids_cnt (d := d) with h | ⟨x, y, h⟩
    · rw [List.eq_nil_of_length_eq_zero h]; rfl
    · rw [h]
      have gx := (kid_fit ft (x := x) (by rw [h]; exact List.mem_cons_self)).good
      have gy := (kid_fit ft (x := y) (by rw [h]; exact List.mem_cons_of_mem _ List.mem_cons_self)).good
      simp only [List.map_cons, List.map_nil, goodAll, goodD, gx, gy]
      rfl
  · rw [PyData.depth]
    rcases kids_cnt (d := d) with h | ⟨x, y, h⟩
    · rw [List.eq_nil_of_length_eq_zero h]; decide
    · rw [h]
      have gx := (kid_fit ft (x := x) (by rw [h]; exact List.mem_cons_self)).dep
      have gy := (kid_fit ft (x := y) (by rw [h]; exact List.mem_cons_of_mem _ List.mem_cons_self)).dep
      simp only [List.map_cons, List.map_nil, PyData.depthAll, PyData.depth]
      omega
theorem flat_ge : ∀ ds : List D, ds.length ≤ (flat ds).length
  | [] => Nat.zero_le _
  | d :: ds => by
    have h := flat_ge ds
    rw [flat, List.length_cons, List.length_cons, List.length_append]
    omega
theorem fits_sh {n : Nat} {ds : List D} (h : Fits n ds) (hn : n ≤ 40) : SeqAt.shaped (.tuple ds) = true := fits_shaped h hn
theorem nilL_shaped : SeqAt.shaped (.list []) = true := rfl
theorem nilT_shaped : SeqAt.shaped (.tuple []) = true := rfl
section
variable {P : Program} {w : World} {K : PySem.W.Frag} {mg : Str → Option Value} {base : Heap}
abbrev sLF : Stmt := top 44
theorem scLF : FnScope ["_law_items", "_law_start", "_law_follow", "_law_held", "_law_rows", "_law_at", "_law_kept", "_law_number", "_law_item", "_law_size_here", "_law_some_here", "_law_behind", "_law_other", "_law_nexts"] ["_law_items", "_law_start", "_law_follow", "_law_held"] (defScope sLF) := ⟨rfl, rfl, rfl, by decide +kernel, rfl, by decide +kernel, by decide +kernel⟩
theorem ok_lf {f fT fZ : Addr} {fd fdT fdZ : FuncData} (F : Fun K "_law_flat" "_law_flat" sLF f fd) (TX : Called K mg "_law_flat" ["_law_items", "_law_start", "_law_follow", "_law_held"] f fd) (GT : FnOk P w K mg base CX0 1 fT fdT ["_law_item"] (spTu K)) (TT : Called K mg "_law_tuples" ["_law_item"] fT fdT) (TZ : Called K mg "_law_size" ["_law_items"] fZ fdZ)
    (GZa : ∀ n, FnOk P w K mg base CX0 (n + 2) fZ fdZ ["_law_items"] (spSz K n)) (m_enumerate : mg "enumerate" = none) (m_len : mg "len" = none) : ∀ n, n ≤ 40 → FnOk P w K mg base CX0 (n + 3) f fd ["_law_items", "_law_start", "_law_follow", "_law_held"] (spLF K n) := by
  intro n
  induction n with
  | zero =>
    intro _
    refine F.ok scLF (fun vs H Q E h => ?_) (fun cdv A outer s H vs Q E hr h => ?_)
    · obtain ⟨H0, p, s, b, hv, xs, ds, held, rfl, _⟩ := h
      rfl
    · obtain ⟨H0, p, s, b, hv, xs, ds, held, rfl, _, _, _, ft, _⟩ := h
      exact absurd ft.dep (Nat.not_lt_zero _)
  | succ n ih =>
    intro hn
    have GX := ih (by omega)
    have GZ := GZa (n + 1)
    refine F.ok scLF (fun vs H Q E h => ?_) (fun cdv A outer s H vs Q E hr h => ?_)
    · obtain ⟨H0, p, s, b, hv, xs, ds, held, rfl, _⟩ := h
      rfl
    · obtain ⟨H0, p, s, b, hv, xs, ds, held, rfl, s0, hp, ha, ft, br, hh, hz, q⟩ := h
      refine ⟨_, (pss_cons (ps_par3 (i := 4) (j := 5) (l := 6) rfl scLF.nd rfl rfl rfl (by decide) (by decide) (by decide) rfl rfl rfl (pa_cons (pe_lst pa_nil) (pa_cons (pv 1) (pa_cons (pv 3) pa_nil))) (by rfl))
       (pss_cons (ps_for PassesOwn.never rfl (pi_enumT rfl m_enumerate (pa_cons (pv 0) pa_nil)) (pg_tup rfl (pgs_cons (pg_name (i := 7) scLF.nd rfl (.inl rfl)) (pgs_cons (pg_name (i := 8) scLF.nd rfl (.inl rfl)) pgs_nil)))
       (pss_cons (ps_par (i := 9) (j := 10) rfl scLF.nd rfl rfl (by decide) rfl rfl (pa_cons (pe_call GZ (hr.mono (by first | decide | omega)) rfl TZ.1 TZ.2.1 TZ.2.2 .nil pass0 (pa_cons (pe_tup (pa_cons (pv 8) pa_nil)) pa_nil)) (pa_cons (pe_call GT (hr.mono (by first | decide | omega)) rfl TT.1 TT.2.1 TT.2.2 .nil pass0 (pa_cons (pv 8) pa_nil)) pa_nil)) (by rfl))
       (pss_cons (ps_set (i := 11) scLF.nd rfl (.inl rfl) (pe_ifExp (pt_cmpR op_lt (pe_op op_add (pv 7) pe_int) (pe_callB (call_len_K (K := K) rfl) (by rfl) m_len PySem.boot_len (pa_cons (pv 0) pa_nil)) (nomark _))
       (pe_op op_add (pv 5) (pv 9))
       (pv 2)))
       (pss_cons (ps_if (pt_cmpR (Nm.op_eqDK (K := K) rfl hr.units) (pv 10) (pe_lst pa_nil) (nomark _))
       (pss_one (ps_expr (pe_bm PySem.F.plainAttrs_list PySem.F.slot_list_append PySem.F.type_list_append mt_append (pv 4) (pa_cons (pe_tup (pa_cons (pv 8) (pa_cons (pe_tup (pa_cons (pv 11) pa_nil)) (pa_cons (pv 6) pa_nil)))) pa_nil))))
       (pss_cons (ps_set (i := 12) scLF.nd rfl (.inl rfl) (pe_op op_add (pe_op op_add (pv 5) pe_int) (pe_call GZ (hr.mono (by first | decide | omega)) rfl TZ.1 TZ.2.1 TZ.2.2 .nil pass0 (pa_cons (pe_ix (ix_listK (K := K) rfl) (pv 10) pe_int (fun _ _ => rfl)) pa_nil))))
       (pss_cons (ps_set (i := 13) scLF.nd rfl (.inl rfl) (pe_tup (pa_cons (pe_ifExp (pt_cmpR (Nm.op_neDK (K := K) rfl hr.units) (pe_ix (ix_listK (K := K) rfl) (pv 10) pe_int (fun _ _ => rfl)) (pe_tup pa_nil) (nomark _))
       (pe_op op_add (pv 5) pe_int)
       (pv 11)) (pa_cons (pe_ifExp (pt_cmpR (Nm.op_neDK (K := K) rfl hr.units) (pe_ix (ix_listK (K := K) rfl) (pv 10) pe_int (fun _ _ => rfl)) (pe_tup pa_nil) (nomark _))
       (pv 12)
       (pv 11)) pa_nil))))
       (pss_cons (ps_set (i := 4) scLF.nd rfl (.inl rfl) (pe_op op_cat (pe_op op_cat (pv 4) (pe_lst (pa_cons (pe_tup (pa_cons (pv 8) (pa_cons (pv 13) (pa_cons (pv 6) pa_nil)))) pa_nil))) (pe_call GX (hr.mono (by first | decide | omega)) rfl TX.1 TX.2.1 TX.2.2 .nil pass0 (pa_cons (pe_ix (ix_listK (K := K) rfl) (pv 10) pe_int (fun _ _ => rfl)) (pa_cons (pe_op op_add (pv 5) pe_int) (pa_cons (pv 11) (pa_cons (pv 6) pa_nil)))))))
       (pss_one (ps_set (i := 4) scLF.nd rfl (.inl rfl) (pe_op op_cat (pv 4) (pe_call GX (hr.mono (by first | decide | omega)) rfl TX.1 TX.2.1 TX.2.2 .nil pass0 (pa_cons (pe_ix (ix_listK (K := K) rfl) (pv 10) pe_int (fun _ _ => rfl)) (pa_cons (pv 12) (pa_cons (pv 11) (pa_cons (pv 6) pa_nil))))))))))))
       (pss_cons (ps_if (pt_cmpR op_eq (pe_ix (ix_tupK (K := K) rfl) (pv 8) pe_int (fun _ _ => rfl)) pe_str (nomark _))
       (pss_one (ps_set (i := 6) scLF.nd rfl (.inl rfl) (pe_op op_catA (pv 6) (pe_tup (pa_cons (pe_ix (ix_tupK (K := K) rfl) (pv 8) pe_int (fun _ _ => rfl)) pa_nil)))))
       pss_nil)
       (pss_cons (ps_if (pt_cmpR op_eq (pe_ix (ix_tupK (K := K) rfl) (pv 8) pe_int (fun _ _ => rfl)) pe_str (nomark _))
       (pss_one (ps_set (i := 6) scLF.nd rfl (.inl rfl) (pe_slice sl_tupA (pv 6) po_none (po_some (pe_un un_neg pe_int)))))
       pss_nil)
       (pss_one (ps_set (i := 5) scLF.nd rfl (.inl rfl) (pe_op op_add (pv 5) (pv 9))))))))))
       (pss_one (ps_ret (pv 4))))), ?_⟩
      have len := dpl ha
      have dlen : ds.length ≤ (flat ds).length := flat_ge ds
      refine ⟨Nat.zero_le _, fun l nl => ?_⟩
      have s1 : Same H (upd H l (.lst [])) := same_upd nl
      refine ⟨_, rfl, _, rfl, _, _, _, rfl, ?_⟩
      refine ⟨_, rfl, p, _, rfl, s1.tupS hp, for_enumT (K := K) (a := p) (xs := xs)
        (fun i σ H' => ∃ (l : Addr) (ys : List V) (a : Int) (u : V) (t : List Str) (v7 v8 v9 v10 v11 v12 v13 : Option V), σ = [some (.ref p), some (.int s), some (.int b), some hv, some (.ref l), some (.int a), some u, v7, v8, v9, v10, v11, v12, v13] ∧ Same H H' ∧ H l = none ∧ H' l = some (.lst ys) ∧ All2 (RowT K H0 H') ys (flat (ds.take i)) ∧
          TxtT K H' u t ∧ t.length ≤ held.length + i)
        ⟨l, [], s, hv, held, none, none, none, none, none, none, none, rfl, s1, nl, upd_same, by rw [List.take_zero, flat]; exact .nil, hh.same s1, Nat.le_refl _⟩ ?_ ?_ ?_⟩
      · rintro i σ H' hi ⟨_, _, _, _, _, v7, v8, v9, v10, v11, v12, v13, rfl, sm, _⟩
        exact sm.tupS hp
      · rintro i x σ H1 T1 hxi ⟨l, ys, a, u, t, v7, v8, v9, v10, v11, v12, v13, rfl, sm, nl, hl, hy, hu, tl⟩ nT
        obtain ⟨d, hd, hx⟩ := dp_get ha hxi
        have mem : d ∈ ds := List.mem_of_getElem? hd
        have hi : i < ds.length := (List.getElem?_eq_some_iff.mp hd).1
        have tk := take_snoc hd
        have fl1 : flat (ds.take (i + 1)) = flat (ds.take i) ++ (d :: flatk d) := by rw [tk, flat_app, flat_one]
        have sub : ∀ e ∈ flat (ds.take (i + 1)), e ∈ flat ds := fun e he => by
          rw [← List.take_append_drop (i + 1) ds, flat_app]
          exact List.mem_append_left _ he
        have le1 : (flat (ds.take (i + 1))).length ≤ (flat ds).length := by
          have z : (flat ds).length = (flat (ds.take (i + 1))).length + (flat (ds.drop (i + 1))).length := by
            rw [← List.length_append, ← flat_app, List.take_append_drop]
          omega
        have brd : BrOk d := br d (sub d (by rw [fl1]; exact List.mem_append_right _ List.mem_cons_self))
        have brk : ∀ e ∈ flatk d, BrOk e := fun e he => br e (sub e (by rw [fl1]; exact List.mem_append_right _ (List.mem_cons_of_mem _ he)))
        have ftd := ft.mem mem
        have u0 := same_upd (o := .tup [.int (i : Nat), x]) nT
        have sm0 := sm.trans u0
        refine ⟨T1, _, rfl, SqT.of upd_same, rfl, _, _, rfl, _, _, rfl, rfl, ?_⟩
        refine ⟨_, rfl, by show 1 ≤ sizeLine; decide, fun y ny => ?_⟩
        have s4 := same_upd (o := HO.tup [x]) ny
        have t4 := s0.trans (sm0.trans s4)
        refine ⟨H0, y, [x], [d], rfl, t4, SqT.of upd_same, .cons hx .nil, fit_one ftd, fun e he => ?_, fun H5 s5 => ?_⟩
        · rw [flat_one] at he
          rcases List.mem_cons.mp he with rfl | he
          · exact brd
          · exact brk e he
        refine ⟨_, rfl, H0, x, d, rfl, t4.trans s5, hx, brd, fun H6 kl ks s6 nkl hkl hks => ⟨_, _, rfl, ?_⟩⟩
        have sA := (u0.trans s4).trans (s5.trans s6)
        have smA := sm.trans sA
        have hlA := sA _ _ hl
        have hyA : All2 (RowT K H0 H6) ys (flat (ds.take i)) := hy.mono fun _ _ z => z.same sA
        have huA := hu.same sA
        dsimp only
        refine seqS_in (asg_via (fun v H' => Same H6 H' ∧ ∃ z : Int, v = .int z) (fun Qx hQ => ?_) (fun v H7 ⟨s7, z, ev⟩ => ?_))
        · refine ⟨_, rfl, _, _, rfl, rfl, _, rfl, p, _, rfl, .inr (smA.tupS hp), _, _, rfl, rfl, _, rfl, ?_⟩
          refine ite_any ?_ ?_
          · exact ⟨_, rfl, _, rfl, _, _, rfl, rfl, hQ _ _ ⟨Same.refl _, _, rfl⟩⟩
          · exact ⟨_, rfl, hQ _ _ ⟨Same.refl _, _, rfl⟩⟩
        subst ev
        refine name_in ?_
        try dsimp only
        have sm7 := smA.trans s7
        have hl7 := s7 _ _ hlA
        have hy7 : All2 (RowT K H0 H7) ys (flat (ds.take i)) := hyA.mono fun _ _ z => z.same s7
        have hu7 := huA.same s7
        have hkl7 := s7 _ _ hkl
        have sz : (RowT K H0 H7) = (RowT K H0 H7) := rfl
        refine seqS_in (ifS_join (fun σ' H' => ∃ (l' : Addr) (ys' : List V) (w12 w13 : Option V), σ' = [some (.ref p), some (.int s), some (.int b), some hv, some (.ref l'), some (.int a), some u, some (.int (i : Nat)), some x, some (.int ((flat [d]).length : Nat)), some (.ref kl), some (.int z), w12, w13] ∧ Same H H' ∧ H l' = none ∧ H' l' = some (.lst ys') ∧ All2 (RowT K H0 H') ys' (flat (ds.take (i + 1))) ∧ TxtT K H' u t) ?_ fun hG => ?_)
        · rintro σ' H8 ⟨l', ys', w12, w13, rfl, sm8, nl8, hl8, hy8, hu8⟩
          obtain ⟨wd, r, rfl, b1, b2, b3⟩ := brd
          cases hx with
          | @tup px xr _ hpx hax =>
          cases hax with
          | @cons x0 xr _ _ h0 hax =>
          cases h0
          have hp8 := (s0.trans sm8).tupS hpx
          try dsimp only
          refine seqS_in (ifS_join (fun σ' H' => ∃ (u' : V) (t' : List Str), σ' = [some (.ref p), some (.int s), some (.int b), some hv, some (.ref l'), some (.int a), some u', some (.int (i : Nat)), some (.ref px), some (.int ((flat [PyData.tuple (.str wd :: r)]).length : Nat)), some (.ref kl), some (.int z), w12, w13] ∧ Same H8 H' ∧ TxtT K H' u' t' ∧ t'.length ≤ t.length + 1) ?_ fun hG => ?_)
          · rintro σ2 H9 ⟨u', t', rfl, s9, hu9, tl9⟩
            try dsimp only
            refine seqS_in (ifS_join (fun σ' H' => ∃ (u' : V) (t' : List Str), σ' = [some (.ref p), some (.int s), some (.int b), some hv, some (.ref l'), some (.int a), some u', some (.int (i : Nat)), some (.ref px), some (.int ((flat [PyData.tuple (.str wd :: r)]).length : Nat)), some (.ref kl), some (.int z), w12, w13] ∧ Same H8 H' ∧ TxtT K H' u' t' ∧ t'.length ≤ t.length + 1) ?_ fun hG => ?_)
            · rintro σ2 H10 ⟨u2, t2, rfl, s10, hu10, tl10⟩
              refine ⟨_, rfl, _, rfl, _, _, rfl, rfl, ?_⟩
              exact ⟨l', ys', _, u2, t2, _, _, _, _, _, _, _, rfl, sm8.trans s10, nl8, s10 _ _ hl8, hy8.mono fun _ _ z => z.same s10, hu10, by omega⟩
            · refine ⟨_, rfl, px, _, _, _, rfl, rfl, s9.tupS hp8, at0, rfl, _, rfl, ?_⟩
              rw [Rw.dec_str]
              by_cases h1 : wd = "give"
              · rw [decide_eq_true h1]
                refine iteT ?_
                refine ⟨_, rfl, _, rfl, _, rfl, ?_⟩
                dsimp only [tNoPart]
                refine but_last_txt hu9 fun H10 u10 s10 hu10 => ?_
                exact name_in (hG _ _ ⟨u10, _, rfl, s9.trans s10, hu10, by rw [List.length_dropLast]; omega⟩)
              · rw [decide_eq_false h1]
                exact iteF (hG _ _ ⟨_, _, rfl, s9, hu9, tl9⟩)
          · refine ⟨_, rfl, px, _, _, _, rfl, rfl, hp8, at0, rfl, _, rfl, ?_⟩
            rw [Rw.dec_str]
            by_cases h1 : wd = "take"
            · rw [decide_eq_true h1]
              obtain ⟨n1, r', rfl⟩ := b3 (.inl h1)
              cases hax with
              | @cons x1 xr2 _ _ h0 hax =>
              cases h0
              refine iteT ?_
              refine ⟨_, rfl, _, rfl, px, _, _, _, rfl, rfl, hp8, at1, by show 1 ≤ sizeLine; decide, fun y ny => ?_⟩
              have s9 := same_upd (o := HO.tup [V.str n1]) ny
              refine cat_txt (hu8.same s9) ⟨y, rfl, SqT.of upd_same⟩ (bs := [n1]) (by show t.length + 1 ≤ 1000; omega) fun H9 u9 s10 hu9 => ?_
              exact name_in (hG _ _ ⟨u9, _, rfl, s9.trans s10, hu9, by rw [List.length_append]; exact Nat.le_refl _⟩)
            · rw [decide_eq_false h1]
              exact iteF (hG _ _ ⟨_, _, rfl, Same.refl _, hu8, Nat.le_succ _⟩)
        · refine ⟨_, rfl, Nat.zero_le _, fun ln nln => ?_⟩
          have s8 := same_upd (o := HO.lst []) nln
          have s08 := s0.trans (sm7.trans s8)
          refine ⟨_, _, .lst (SqL.of (s8 _ _ hkl7)) (hks.same s08), .lst (SqL.of upd_same) .nil, kids_shaped ftd (by omega), nilL_shaped, _, rfl, ?_⟩
          rw [eqv_nilL]
          have sm8 := sm7.trans s8
          have hl8 := s8 _ _ hl7
          have hy8 : All2 (RowT K H0 (upd H7 ln (.lst []))) ys (flat (ds.take i)) := hy7.mono fun _ _ z => z.same s8
          have hu8 := hu7.same s8
          have hkl8 := s8 _ _ hkl7
          generalize upd H7 ln (.lst []) = H8 at s8 s08 sm8 hl8 hy8 hu8 hkl8
          have yl := hy8.length
          rw [fl1, List.length_append, List.length_cons] at le1
          rcases kids_cnt (d := d) with hk0 | ⟨kx, ky, hk2⟩
          · rw [show (List.map PyData.tuple (kids d)).isEmpty = true by rw [List.eq_nil_of_length_eq_zero hk0]; rfl]
            have fk : flatk d = [] := by rw [flatk_kids, List.eq_nil_of_length_eq_zero hk0]; rfl
            refine iteT ?_
            refine ⟨_, rfl, .inl ⟨rfl, _, SqL.of hl8⟩, _, rfl, _, rfl, by show 1 ≤ sizeLine; decide, fun y1 n1 => ⟨_, rfl, by show 3 ≤ sizeLine; decide, fun y2 n2 => ?_⟩⟩
            have q1 := same_upd (o := HO.tup [V.int z]) n1
            have q2 := same_upd (o := HO.tup [x, V.ref y1, u]) n2
            have q12 := q1.trans q2
            refine ⟨l, _, _, rfl, rfl, q12 _ _ hl8, by rw [sizeLine_eq]; omega, ?_⟩
            refine hG _ _ ⟨l, ys ++ [V.ref y2], v12, v13, rfl, same_updN nl (sm8.trans q12), nl, upd_same, ?_, (hu8.same q12).updL (q12 _ _ hl8)⟩
            rw [fl1, fk]
            exact (hy8.mono fun _ _ z => (z.same q12).updL (q12 _ _ hl8)).append (.cons ⟨y2, x, _, rfl, sqT_updL (q12 _ _ hl8) (SqT.of upd_same), hx⟩ .nil)
          · rw [show (List.map PyData.tuple (kids d)).isEmpty = false by rw [hk2]; rfl]
            rw [hk2] at hks
            have mx : kx ∈ kids d := by rw [hk2]; exact List.mem_cons_self
            have my : ky ∈ kids d := by rw [hk2]; exact List.mem_cons_of_mem _ List.mem_cons_self
            have bk : ∀ z ∈ kids d, ∀ e ∈ flat z, BrOk e := fun z hz e he => brk e ((kid_flat hz).2 e he)
            have fk : flatk d = flat kx ++ flat ky := by rw [flatk_kids, hk2]; simp
            rw [fk, List.length_append] at le1
            cases hks with
            | @cons k1 ks _ _ h1 hk =>
            cases hk with
            | @cons k2 ks _ _ h2 hk =>
            cases hk
            cases h1 with
            | @tup p1 xs1 _ hp1 ha1 =>
            cases h2 with
            | @tup p2 xs2 _ hp2 ha2 =>
            refine iteF ?_
            refine ⟨_, rfl, _, _, rfl, rfl, ?_⟩
            refine ⟨_, rfl, kl, _, _, _, rfl, rfl, SqL.of hkl8, at0, H0, p1, xs1, kx, rfl, s08, s08.tupS hp1, ha1, (kid_fit ftd mx).mono (Nat.le_succ _), bk kx mx, fun H9 s9 => ?_⟩
            refine ⟨_, _, rfl, rfl, ?_⟩
            refine name_in ?_
            try dsimp only
            have s09 := s08.trans s9
            have hkl9 := s9 _ _ hkl8
            refine seqS_in (asg_via (fun v H' => Same H9 H') (fun Qx hQ => ?_) (fun v H10 s10 => ?_))
            · refine ⟨_, rfl, kl, _, _, _, rfl, rfl, SqL.of hkl9, at0, Nat.zero_le _, fun e ne => ?_⟩
              have se := same_upd (o := HO.tup []) ne
              have t9 := s09.trans se
              refine ⟨_, _, .tup (t9.tupS hp1) (ha1.same t9), .tup (SqT.of upd_same) .nil, fits_sh (kid_fit ftd mx) (by omega), nilT_shaped, _, rfl, ?_⟩
              refine ite_any ?_ ?_
              · refine ⟨_, rfl, _, _, rfl, rfl, ?_⟩
                refine ⟨_, rfl, kl, _, _, _, rfl, rfl, SqL.of (se _ _ hkl9), at1, Nat.zero_le _, fun e2 ne2 => ?_⟩
                have se2 := same_upd (o := HO.tup []) ne2
                have t10 := t9.trans se2
                refine ⟨_, _, .tup (t10.tupS hp2) (ha2.same t10), .tup (SqT.of upd_same) .nil, fits_sh (kid_fit ftd my) (by omega), nilT_shaped, _, rfl, ?_⟩
                refine ite_any ?_ ?_
                · exact ⟨_, rfl, by show 2 ≤ sizeLine; decide, fun o no => hQ _ _ (se.trans (se2.trans (same_upd no)))⟩
                · exact ⟨_, rfl, by show 2 ≤ sizeLine; decide, fun o no => hQ _ _ (se.trans (se2.trans (same_upd no)))⟩
              · refine ⟨_, rfl, ?_⟩
                refine ⟨_, rfl, kl, _, _, _, rfl, rfl, SqL.of (se _ _ hkl9), at1, Nat.zero_le _, fun e2 ne2 => ?_⟩
                have se2 := same_upd (o := HO.tup []) ne2
                have t10 := t9.trans se2
                refine ⟨_, _, .tup (t10.tupS hp2) (ha2.same t10), .tup (SqT.of upd_same) .nil, fits_sh (kid_fit ftd my) (by omega), nilT_shaped, _, rfl, ?_⟩
                refine ite_any ?_ ?_
                · exact ⟨_, rfl, by show 2 ≤ sizeLine; decide, fun o no => hQ _ _ (se.trans (se2.trans (same_upd no)))⟩
                · exact ⟨_, rfl, by show 2 ≤ sizeLine; decide, fun o no => hQ _ _ (se.trans (se2.trans (same_upd no)))⟩
            refine name_in ?_
            try dsimp only
            have il : i ≤ (flat (ds.take i)).length := by
              have z := flat_ge (ds.take i)
              rw [List.length_take] at z
              omega
            have c10 := s9.trans s10
            have t10 := s08.trans c10
            have sm10 := sm8.trans c10
            refine ⟨_, rfl, _, rfl, _, rfl, _, rfl, by show 3 ≤ sizeLine; decide, fun y2 n2 => ⟨by show 1 ≤ sizeLine; decide, fun l4 n4 => ?_⟩⟩
            have q1 := same_upd (o := HO.tup [x, v, u]) n2
            have q2 := same_upd (o := HO.lst [V.ref y2]) n4
            have e2 := q2 _ _ (upd_same (H := H10) (a := y2) (o := HO.tup [x, v, u]))
            have e4 : (upd (upd H10 y2 (HO.tup [x, v, u])) l4 (HO.lst [V.ref y2])) l4 = some (.lst [V.ref y2]) := upd_same
            have q12 := c10.trans (q1.trans q2)
            have sm11 := sm8.trans q12
            generalize upd (upd H10 y2 (HO.tup [x, v, u])) l4 (HO.lst [V.ref y2]) = H11 at e2 e4 q12 sm11
            have t11 := s08.trans q12
            refine ⟨l, l4, _, _, rfl, rfl, q12 _ _ hl8, e4, by rw [sizeLine_eq]; show _ + 1 ≤ _; omega, fun l5 n5 => ?_⟩
            have q5 := same_upd (o := HO.lst (ys ++ [V.ref y2])) n5
            have e5 : (upd H11 l5 (.lst (ys ++ [V.ref y2]))) l5 = some (.lst (ys ++ [V.ref y2])) := upd_same
            have q15 := q12.trans q5
            have e25 := q5 _ _ e2
            generalize upd H11 l5 (.lst (ys ++ [V.ref y2])) = H12 at q5 e5 q15 e25
            have t12 := s08.trans q15
            refine ⟨_, rfl, kl, _, _, _, rfl, rfl, SqL.of (q15 _ _ hkl8), at0, _, rfl, _, _, rfl, rfl, _, rfl, _, rfl, H0, p1, _, _, u, xs1, kx, t, rfl, t12, t12.tupS hp1, ha1, kid_fit ftd mx, bk kx mx, hu8.same q15, by omega, fun H13 l6 ys6 s6 n6 h6 hy6 => ?_⟩
            have w6 := hy6.length
            refine ⟨l5, l6, _, _, rfl, rfl, s6 _ _ e5, h6, by rw [sizeLine_eq, List.length_append]; show _ + 1 + _ ≤ _; omega, fun l7 n7 => ?_⟩
            have q7 := same_upd (o := HO.lst (ys ++ [V.ref y2] ++ ys6)) n7
            have e7 : (upd H13 l7 (.lst (ys ++ [V.ref y2] ++ ys6))) l7 = some (.lst (ys ++ [V.ref y2] ++ ys6)) := upd_same
            have hy7' : All2 (RowT K H0 (upd H13 l7 (.lst (ys ++ [V.ref y2] ++ ys6)))) ys6 (flat kx) := hy6.mono fun _ _ z => z.same q7
            have q57 := s6.trans q7
            generalize upd H13 l7 (.lst (ys ++ [V.ref y2] ++ ys6)) = H14 at q7 e7 q57 hy7'
            have q17 := q15.trans q57
            have t14 := s08.trans q17
            refine name_in ?_
            try dsimp only
            refine ⟨_, rfl, _, rfl, kl, _, _, _, rfl, rfl, SqL.of (q17 _ _ hkl8), at1, _, rfl, _, rfl, _, rfl, H0, p2, _, _, u, xs2, ky, t, rfl, t14, t14.tupS hp2, ha2, kid_fit ftd my, bk ky my, hu8.same q17, by omega, fun H15 l8 ys8 s8' n8 h8 hy8' => ?_⟩
            have w8 := hy8'.length
            refine ⟨l7, l8, _, _, rfl, rfl, s8' _ _ e7, h8, by rw [sizeLine_eq, List.length_append, List.length_append]; show _ + 1 + _ + _ ≤ _; omega, fun l9 n9 => ?_⟩
            have q9 := same_upd (o := HO.lst (ys ++ [V.ref y2] ++ ys6 ++ ys8)) n9
            have q89 := s8'.trans q9
            have smF := sm8.trans q17
            refine name_in (hG _ _ ⟨l9, _, _, _, rfl, smF.trans q89, (smF.trans s8').free n9, upd_same, ?_, hu8.same (q17.trans q89)⟩)
            rw [fl1, fk]
            have r1 : All2 (RowT K H0 (upd H15 l9 (.lst (ys ++ [V.ref y2] ++ ys6 ++ ys8)))) [V.ref y2] [d] := .cons ⟨y2, x, _, rfl, SqT.of (q89 _ _ (q57 _ _ e25)), hx⟩ .nil
            have z := (((hy8.mono fun _ _ z => z.same (q17.trans q89)).append r1).append (hy7'.mono fun _ _ z => z.same q89)).append (hy8'.mono fun _ _ z => z.same q9)
            simpa using z
      · rintro σ H1 ⟨l, ys, a, u, t, v7, v8, v9, v10, v11, v12, v13, rfl, sm, nl, hl, hy, hu, tl⟩
        rw [len, List.take_length] at hy
        exact ⟨_, rfl, q H1 l ys sm nl hl hy⟩
end
end Tr

/-! P11 -/
/-! ### the law's own look at a step -/
namespace Rw
open PySem PySem.Spec PyProof.Rows L2
theorem az_list : (("abcdefghijklmnopqrstuvwxyz" : Str).cps.toList : List Nat) = List.range' 97 26 := by decide +kernel
theorem lt1 (a b : Nat) : ([a] < [b]) ↔ a < b := by
  constructor
  · intro h
    rcases List.cons_lt_cons_iff.mp h with h | ⟨_, h⟩
    · exact h
    · exact absurd h (List.lt_irrefl _)
  · intro h
    exact List.cons_lt_cons_iff.mpr (.inl h)
theorem letB_az (c : Nat) : letB c = decide (c ∈ (("abcdefghijklmnopqrstuvwxyz" : Str).cps.toList : List Nat)) := by
  rw [az_list]
  unfold letB
  by_cases h1 : c < 97
  · rw [decide_eq_true ((lt1 c 97).mpr h1), if_neg (by decide), decide_eq_false]
    rw [List.mem_range'_1]
    omega
  · rw [decide_eq_false (fun e => h1 ((lt1 c 97).mp e)), if_pos (by rfl)]
    by_cases h2 : 122 < c
    · rw [decide_eq_true ((lt1 122 c).mpr h2), decide_eq_false]
      · rfl
      · rw [List.mem_range'_1]
        omega
    · rw [decide_eq_false (fun e => h2 ((lt1 122 c).mp e)), decide_eq_true]
      · rfl
      · rw [List.mem_range'_1]
        omega
/-- the signs that are no letters -/
def oddS (cs : List Nat) : List Str := (cs.filter fun c => !letB c).map fun c => ⟨#[c]⟩
theorem oddS_nil (cs : List Nat) : decide (oddS cs = []) = (cs.map letB).all id := by
  unfold oddS
  induction cs with
  | nil => rfl
  | cons c cs ih =>
    rw [List.map_cons, List.all_cons, ← ih, List.filter_cons]
    cases h : letB c with
    | true => rfl
    | false =>
      show decide ((c :: cs.filter _).map _ = []) = (false && _)
      rw [Bool.false_and, decide_eq_false]
      rw [List.map_cons]
      exact List.cons_ne_nil _ _
theorem oddS_snoc (cs : List Nat) (c : Nat) : oddS (cs ++ [c]) = if letB c = true then oddS cs else oddS cs ++ [⟨#[c]⟩] := by
  unfold oddS
  rw [List.filter_append, List.map_append]
  cases h : letB c with
  | true =>
    rw [if_pos rfl]
    have e : [c].filter (fun c => !letB c) = [] := by
      rw [List.filter_cons, h]
      rfl
    rw [e, List.map_nil, List.append_nil]
  | false =>
    rw [if_neg Bool.false_ne_true]
    have e : [c].filter (fun c => !letB c) = [c] := by
      rw [List.filter_cons, h]
      rfl
    rw [e]
    rfl
theorem oddS_len (cs : List Nat) : (oddS cs).length ≤ cs.length := by
  unfold oddS
  rw [List.length_map]
  exact List.length_filter_le _ _
theorem sOk_at {z : Str} (h : sOk z) : ∀ c ∈ z.cps.toList, c < 0x110000 := by
  intro c hc
  have h1 : z.cps.all (fun x => decide (x < 0x110000)) = true := h
  rw [← Array.all_toList] at h1
  exact of_decide_eq_true (List.all_eq_true.mp h1 c hc)
theorem sOk_one {c : Nat} (h : c < 0x110000) : sOk ⟨#[c]⟩ := by
  show (#[c] : Array Nat).all (fun x => decide (x < 0x110000)) = true
  rw [← Array.all_toList]
  exact List.all_eq_true.mpr fun x hx => by
    rcases List.mem_cons.mp hx with rfl | hx
    · exact decide_eq_true h
    · cases hx
theorem oddS_ok {z : Str} (h : sOk z) : ∀ n ∈ oddS z.cps.toList, sOk n := by
  intro n hn
  obtain ⟨c, hc, rfl⟩ := List.mem_map.mp hn
  exact sOk_one (sOk_at h c (List.mem_filter.mp hc).1)
theorem listD_shaped {ns : List Str} (h : ∀ n ∈ ns, sOk n) : SeqAt.shaped (.list (ns.map PyData.str)) = true := by
  obtain ⟨a, b⟩ := txt_lay ns h
  refine shaped_of (by simp only [PyData.canLay0]; exact a) ?_
  simp only [PyData.depth]
  omega
section
variable {P : Program} {w : World} {K : PySem.W.Frag} {mg : Str → Option Value} {base : Heap}
end
end Rw

/-! ### the law's look at a name -/
namespace Tr
open PySem PySem.Spec PyProof.Rows L2 Rw
def spLNm (K : PySem.W.Frag) : Sp := fun vs H Q _ => ∃ (v : V) (d : D), vs = [v] ∧ Dp K H v d ∧ goodD d = true ∧ ∀ H', Same H H' → Q (.bl (nameD d)) H'
section
variable {P : Program} {w : World} {K : PySem.W.Frag} {mg : Str → Option Value} {base : Heap}
abbrev sLNm : Stmt := top 50
theorem scLNm : FnScope ["_law_thing", "_law_letters", "_law_sign"] ["_law_thing"] (defScope sLNm) := ⟨rfl, rfl, rfl, by decide +kernel, rfl, by decide +kernel, by decide +kernel⟩
theorem ok_lnm {f : Addr} {fd : FuncData} (F : Fun K "_law_is_name" "_law_is_name" sLNm f fd) (m_isinstance : mg "isinstance" = none) (m_str : mg "str" = none) (m_len : mg "len" = none) : FnOk P w K mg base CX0 1 f fd ["_law_thing"] (spLNm K) := by
  refine F.ok scLNm (fun vs H Q E h => ?_) (fun cdv A outer s H vs Q E hr h => ?_)
  · obtain ⟨v, d, rfl, _⟩ := h
    rfl
  · obtain ⟨v, d, rfl, hd, gd, q⟩ := h
    refine ⟨_, (pss_cons (ps_set (i := 1) scLNm.nd rfl (.inr rfl) pe_str)
       (pss_cons (ps_if (PW.pt (pw_or (pt_not (pt_val (pe_callB (call_isiKK (K := K) rfl) (by rfl) m_isinstance (by decide +kernel) (pa_cons (pv 0) (pa_cons (pe_bltn (v := .ty "str") (by rfl) m_str (by decide +kernel) rfl) pa_nil))))) (pw_or1 (pt_not (pt_chain op_le op_le pe_int (pe_callB call_len_str (by rfl) m_len PySem.boot_len (pa_cons (pv 0) pa_nil)) pe_int)))))
       (pss_one (ps_ret pe_bl))
       pss_nil)
       (pss_one (ps_ret (pe_cmpR (Nm.op_eqDK (K := K) rfl hr.units) (pe_lc (own := [("_law_sign", 2)]) (g := gName 2)  (by rfl) scLNm.nd (pi_str (pv 0)) (blkOk_by (own := [("_law_sign", 2)]) (N := ["_law_thing", "_law_letters", "_law_sign"]) (sc := defScope sLNm) (by decide +kernel)) (fun _ _ _ _ _ => (pg_name (i := 2) scLNm.nd rfl (Or.inl rfl))) (fun _ _ _ _ _ => (pts_one (pt_cmpR op_notIn_sign (pv 2) (pv 1) (by rfl)))) (fun _ _ _ _ _ => (pv 2))) (pe_lst pa_nil) (nomark _)))))), ?_⟩
    refine ⟨_, rfl, _, _, _, _, _, rfl, .ty _, dp_ty hd, kit_str d, _, rfl, ?_⟩
    cases hst : isStr d with
    | false =>
      have e : nameD d = false := by
        cases d with
        | str _ => cases hst
        | _ => rfl
      rw [e] at q
      exact iteT (iteT (q H (Same.refl H)))
    | true =>
      obtain ⟨nm, rfl⟩ : ∃ z, d = .str z := by
        cases d with
        | str z => exact ⟨z, rfl⟩
        | _ => cases hst
      cases hd
      rw [goodD, Bool.and_eq_true] at gd
      have hl := of_decide_eq_true gd.2
      have so : sOk nm := gd.1
      rw [show nameD (.str nm) = nameB nm from rfl] at q
      unfold nameB at q
      refine iteF ?_
      refine ⟨_, rfl, nm, rfl, by rw [sizeLine_eq]; omega, _, _, rfl, rfl, _, rfl, ?_⟩
      refine ite2 (fun h1 => ?_) (fun h1 => ?_)
      · have h1' : (1 : Int) ≤ (nm.length : Int) := of_decide_eq_true h1
        rw [decide_eq_true (show 1 ≤ nm.length by omega)] at q
        refine ⟨_, _, rfl, rfl, _, rfl, ?_⟩
        by_cases h2 : (nm.length : Int) ≤ 8
        · refine iteNS h2 ?_
          rw [decide_eq_true (show nm.length ≤ 8 by omega)] at q
          refine ⟨_, rfl, nm, rfl, fun D nD => lc_text (fun i H' => Same H H' ∧ H' D = some (.lst ((oddS (nm.cps.toList.take i)).map V.str))) ⟨same_upd nD, upd_same⟩ ?_ ?_⟩
          · rintro i c H2 hc ⟨s1, e1⟩
            have hi : i < nm.cps.size := (Array.getElem?_eq_some_iff.mp hc).1
            have e3 : nm.cps.toList[i]? = some c := by rw [Array.getElem?_toList]; exact hc
            have zl : nm.length = nm.cps.size := rfl
            refine ⟨rfl, _, rfl, _, rfl, c, _, rfl, rfl, _, rfl, ?_⟩
            rw [← letB_az]
            have on := oddS_snoc (nm.cps.toList.take i) c
            rw [← take_snoc e3] at on
            cases hb : letB c with
            | true =>
              rw [hb, if_pos rfl] at on
              refine iteF ?_
              rw [on]
              exact ⟨s1, e1⟩
            | false =>
              rw [hb, if_neg Bool.false_ne_true] at on
              refine iteT ⟨_, rfl, _, e1, ?_, same_updN nD s1, ?_⟩
              · have z1 := oddS_len (nm.cps.toList.take i)
                rw [List.length_take] at z1
                rw [List.length_map, sizeLine_eq]
                omega
              · rw [upd_same, on, List.map_append]
                rfl
          · rintro H2 ⟨s1, e1⟩
            rw [← Array.length_toList, List.take_length] at e1
            have zl : nm.length = nm.cps.size := rfl
            refine ⟨Nat.zero_le _, fun t nt => ?_⟩
            have s2 := same_upd (o := HO.lst []) nt
            refine ⟨.list ((oddS nm.cps.toList).map PyData.str), .list (([] : List Str).map PyData.str), .lst (SqL.of (s2 _ _ e1)) (dp_txts _), .lst (SqL.of upd_same) .nil, listD_shaped (oddS_ok so), listD_shaped (fun n hn => nomatch hn), ?_⟩
            have ev : PyData.eqv (.list ((oddS nm.cps.toList).map PyData.str)) (.list (([] : List Str).map PyData.str)) = (nm.cps.toList.map letB).all id := by
              rw [show PyData.eqv (.list ((oddS nm.cps.toList).map PyData.str)) (.list (([] : List Str).map PyData.str)) = PyData.eqvAll ((oddS nm.cps.toList).map PyData.str) (([] : List Str).map PyData.str) by simp only [PyData.eqv], eqvAll_txt, oddS_nil]
            rw [ev]
            exact q _ (s1.trans s2)
        · rw [decide_eq_false h2]
          rw [decide_eq_false (show ¬ nm.length ≤ 8 by omega)] at q
          exact iteT (q H (Same.refl H))
      · have h1' : ¬ (1 : Int) ≤ (nm.length : Int) := fun e => h1 (decide_eq_true e)
        rw [decide_eq_false (show ¬ 1 ≤ nm.length by omega)] at q
        exact ⟨_, rfl, iteT (q H (Same.refl H))⟩
end
end Tr

/-! P12 -/
/-! ### the law's look at an item's form -/
namespace Tr
open PySem PySem.Spec PyProof.Rows L2 Rw
def uc2 : List Str := ["use", "choose"]
def tc2 : List Str := ["test", "choose"]
def seven : List Str := ["use", "start", "cancel", "set", "clear", "take", "give"]
def sizeW (w : Str) : Nat := if w ∈ uc2 then (if w = "use" then 1 else 3) else if w = "test" then 4 else if w = "piece" then 3 else 2
def restW (w : Str) (r : List D) : List D := if w ∈ uc2 then r else r.drop 1
def headD0 : List D → D
  | [] => .none
  | d :: _ => d
def pieceP : List D → Bool
  | _ :: .tuple v :: _ => lall v 0 && !v.isEmpty && decide ((lnum v 0).length ≤ 4)
  | _ => false
def lastP (w : Str) (r : List D) (a : Nat) : Bool := if w = "piece" then pieceP r else if w ∈ tc2 then decide (a < 3) else decide (w ∈ seven)
theorem use_uc : ("use" : Str) ∈ uc2 := by decide +kernel
theorem choose_uc : ("choose" : Str) ∈ uc2 := by decide +kernel
theorem test_uc : ¬ ("test" : Str) ∈ uc2 := by decide +kernel
theorem piece_uc : ¬ ("piece" : Str) ∈ uc2 := by decide +kernel
theorem test_tc : ("test" : Str) ∈ tc2 := by decide +kernel
theorem choose_tc : ("choose" : Str) ∈ tc2 := by decide +kernel
theorem use_tc : ¬ ("use" : Str) ∈ tc2 := by decide +kernel
theorem use_seven : ("use" : Str) ∈ seven := by decide +kernel
theorem uc_iff {w : Str} : w ∈ uc2 ↔ w = "use" ∨ w = "choose" := by simp [uc2]
theorem tc_iff {w : Str} : w ∈ tc2 ↔ w = "test" ∨ w = "choose" := by simp [tc2]
theorem seven_iff {w : Str} : w ∈ seven ↔ w = "use" ∨ w ∈ plain6 := by
  show w ∈ ("use" : Str) :: plain6 ↔ _
  exact List.mem_cons
theorem lform_eq (w : Str) (r : List D) (a : Nat) : lform (.tuple (.str w :: r)) a = (decide (r.length + 1 = sizeW w) && (restW w r).all isTup && (decide (w ∈ uc2) || nameD (headD0 r)) && lastP w r a) := by
  by_cases h1 : w = "use"
  · subst h1
    rw [show sizeW "use" = 1 by unfold sizeW; rw [if_pos use_uc, if_pos rfl], show restW "use" r = r from if_pos use_uc, decide_eq_true use_uc, show lastP "use" r a = true by unfold lastP; rw [if_neg piece_use.symm, if_neg use_tc, decide_eq_true use_seven]]
    match r with
    | [] => simp [lform]
    | [n] => simp [lform, use_not_plain]
    | [n, v] => cases v <;> simp [lform, choose_use.symm, piece_use.symm]
    | [n, x, y] => simp [lform, test_use.symm]
    | _ :: _ :: _ :: _ :: _ => simp [lform]
  · by_cases h2 : w = "choose"
    · subst h2
      rw [show sizeW "choose" = 3 by unfold sizeW; rw [if_pos choose_uc, if_neg choose_use], show restW "choose" r = r from if_pos choose_uc, decide_eq_true choose_uc, show lastP "choose" r a = decide (a < 3) by unfold lastP; rw [if_neg choose_piece, if_pos choose_tc]]
      match r with
      | [] => simp [lform, choose_use]
      | [n] => simp [lform, choose_not_plain]
      | [n, v] => cases v <;> simp [lform, isTup]
      | [n, x, y] => simp [lform, test_choose.symm]
      | _ :: _ :: _ :: _ :: _ => simp [lform]
    · have nu : ¬ w ∈ uc2 := fun h => (uc_iff.mp h).elim h1 h2
      rw [show restW w r = r.drop 1 from if_neg nu, decide_eq_false nu]
      by_cases h3 : w = "test"
      · subst h3
        rw [show sizeW "test" = 4 by unfold sizeW; rw [if_neg nu, if_pos rfl], show lastP "test" r a = decide (a < 3) by unfold lastP; rw [if_neg test_piece, if_pos test_tc]]
        match r with
        | [] => simp [lform, test_use]
        | [n] => simp [lform, test_not_plain]
        | [n, v] => cases v <;> simp [lform, test_choose, test_piece]
        | [n, x, y] =>
          simp only [lform, headD0, List.length_cons, List.length_nil, List.drop_succ_cons, List.drop_zero, List.all_cons, List.all_nil]
          cases nameD n <;> cases isTup x <;> cases isTup y <;> cases decide (a < 3) <;> rfl
        | _ :: _ :: _ :: _ :: _ => simp [lform]
      · by_cases h4 : w = "piece"
        · subst h4
          rw [show sizeW "piece" = 3 by unfold sizeW; rw [if_neg nu, if_neg test_piece.symm, if_pos rfl], show lastP "piece" r a = pieceP r by unfold lastP; rw [if_pos rfl]]
          match r with
          | [] => simp [lform, piece_use]
          | [n] => simp [lform, piece_not_plain]
          | [n, v] =>
            cases v with
            | tuple v =>
              simp only [lform, headD0, pieceP, List.length_cons, List.length_nil, List.drop_succ_cons, List.drop_zero, List.all_cons, List.all_nil, isTup]
              rw [if_neg choose_piece.symm]
              cases nameD n <;> cases lall v 0 <;> cases v.isEmpty <;> cases decide ((lnum v 0).length ≤ 4) <;> rfl
            | _ => simp [lform, isTup]
          | [n, x, y] => simp [lform, test_piece.symm]
          | _ :: _ :: _ :: _ :: _ => simp [lform]
        · have nt : ¬ w ∈ tc2 := fun h => (tc_iff.mp h).elim h3 h2
          have e7 : decide (w ∈ seven) = decide (w ∈ plain6) := decide_eq_decide.mpr (seven_iff.trans (or_iff_right h1))
          rw [show sizeW w = 2 by unfold sizeW; rw [if_neg nu, if_neg h3, if_neg h4], show lastP w r a = decide (w ∈ plain6) by unfold lastP; rw [if_neg h4, if_neg nt, e7]]
          match r with
          | [] => simp [lform, h1]
          | [n] =>
            simp only [lform, headD0, List.length_cons, List.length_nil, List.drop_succ_cons, List.drop_zero, List.all_nil]
            cases nameD n <;> cases decide (w ∈ plain6) <;> rfl
          | [n, v] => cases v <;> simp [lform, h2, h4]
          | [n, x, y] => simp [lform, h3]
          | _ :: _ :: _ :: _ :: _ => simp [lform]
theorem lkids_kids (d : D) (a : Nat) : lkids d a = (kids d).all fun x => lall x (a + 1) := by
  unfold kids
  cases h : forkOf d with
  | none => rw [(fork_none h).2.2.1]; rfl
  | some p =>
    obtain ⟨x, y⟩ := p
    rw [(fork_some h).2.2.1]
    simp
theorem lnumk_kids (d : D) (a : Nat) : lnumk d a = (kids d).flatMap fun x => lnum x (a + 1) := by
  unfold kids
  cases h : forkOf d with
  | none => rw [(fork_none h).2.2.2]; rfl
  | some p =>
    obtain ⟨x, y⟩ := p
    rw [(fork_some h).2.2.2.1]
    simp
theorem lnum_len (ds : List D) (a : Nat) : (lnum ds a).length ≤ cntAll ds := by
  have h := misl_cnt ds a
  rw [misl_lnum, List.length_map] at h
  exact h
theorem lall_all (a : Nat) : ∀ ds : List D, lall ds a = ds.all fun d => linner d a
  | [] => by rw [lall]; rfl
  | d :: ds => by rw [lall, lall_all a ds]; rfl
theorem lnum_app (a : Nat) : ∀ as bs : List D, lnum (as ++ bs) a = lnum as a ++ lnum bs a
  | [], bs => by rw [List.nil_append, lnum]; rfl
  | d :: as, bs => by
    rw [List.cons_append, lnum, lnum, lnum_app a as bs]
    simp
theorem good_mem : ∀ {ds : List D} {d : D}, goodAll ds = true → d ∈ ds → goodD d = true
  | _ :: _, _, h, .head _ => by rw [goodAll, Bool.and_eq_true] at h; exact h.1
  | _ :: _, _, h, .tail _ t => by rw [goodAll, Bool.and_eq_true] at h; exact good_mem h.2 t
theorem good_of : ∀ {ds : List D}, (∀ d ∈ ds, goodD d = true) → goodAll ds = true
  | [], _ => rfl
  | d :: ds, h => by rw [goodAll, h d List.mem_cons_self, good_of fun e he => h e (List.mem_cons_of_mem _ he)]; rfl
theorem dep_mem : ∀ {ds : List D} {d : D}, d ∈ ds → d.depth ≤ PyData.depthAll ds
  | _ :: _, _, .head _ => by rw [PyData.depthAll]; omega
  | _ :: _, _, .tail _ t => by have := dep_mem t; rw [PyData.depthAll]; omega
theorem dep_of {n : Nat} : ∀ {ds : List D}, (∀ d ∈ ds, d.depth ≤ n) → PyData.depthAll ds ≤ n
  | [], _ => Nat.zero_le _
  | d :: ds, h => by
    have h1 := h d List.mem_cons_self
    have h2 := dep_of fun e he => h e (List.mem_cons_of_mem d he)
    rw [PyData.depthAll]
    omega
theorem filt_shaped {n : Nat} {ds : List D} (h : Fits n ds) (hn : n ≤ 40) (p : D → Bool) : SeqAt.shaped (.list (ds.filter p)) = true := by
  refine shaped_of ?_ ?_
  · rw [PyData.canLay0]
    exact lays_of _ (good_of fun d hd => good_mem h.good (List.mem_filter.mp hd).1)
  · rw [PyData.depth]
    have h1 : PyData.depthAll (ds.filter p) ≤ PyData.depthAll ds := dep_of fun d hd => dep_mem (List.mem_filter.mp hd).1
    have h2 := h.dep
    omega
theorem filt_none (p : D → Bool) : ∀ ds : List D, (ds.filter fun d => !p d).isEmpty = ds.all p
  | [] => rfl
  | d :: ds => by
    rw [List.filter_cons, List.all_cons]
    cases h : p d with
    | true => simpa using filt_none p ds
    | false => rfl
theorem filt_snoc (p : D → Bool) (ds : List D) (d : D) : (ds ++ [d]).filter p = ds.filter p ++ (if p d then [d] else []) := by
  rw [List.filter_append]
  cases h : p d with
  | true => rw [List.filter_cons_of_pos h]; rfl
  | false => rw [List.filter_cons_of_neg (by rw [h]; exact Bool.false_ne_true)]; rfl
theorem filt_len (p : D → Bool) (ds : List D) (i : Nat) : ((ds.take i).filter p).length ≤ ds.length := by
  have h := List.length_filter_le p (ds.take i)
  rw [List.length_take] at h
  omega
def kvs43 : List (Key × V) := [(.inr "test", .int 4), (.inr "piece", .int 3)]
theorem val43 {w : Str} (h : ¬ w ∈ uc2) : (valV (mergeK [] kvs43) (.inr w)).getD (.int 2) = .int (sizeW w : Nat) := by
  have e : mergeK [] kvs43 = kvs43 := by decide +kernel
  rw [e]
  unfold sizeW
  rw [if_neg h]
  by_cases h1 : w = "test"
  · subst h1
    rw [if_pos rfl]
    rfl
  · rw [if_neg h1]
    by_cases h2 : w = "piece"
    · subst h2
      rw [if_pos rfl]
      rfl
    · rw [if_neg h2]
      unfold kvs43
      rw [valV_neg (fun e => h1 (Sum.inr.inj e).symm), valV_neg (fun e => h2 (Sum.inr.inj e).symm)]
      rfl
/-- a row of the law's numbered: an item and how deep it lies -/
def NumT (K : PySem.W.Frag) (H0 H : Hp) (v : V) (p : D × Nat) : Prop := ∃ (t : Addr) (x : V), v = .ref t ∧ SqT K H t [x, .int (p.2 : Nat)] ∧ Dp K H0 x p.1
theorem NumT.same {K : PySem.W.Frag} {H0 H H' : Hp} (s : Same H H') {v : V} {d : D × Nat} (h : NumT K H0 H v d) : NumT K H0 H' v d := let ⟨p, x, e, q, z⟩ := h; ⟨p, x, e, s.tupS q, z⟩
theorem NumT.updL {K : PySem.W.Frag} {H0 H : Hp} {l : Addr} {xs : List V} {u : HO} (hl : H l = some (.lst xs)) {v : V} {d : D × Nat} (h : NumT K H0 H v d) : NumT K H0 (upd H l u) v d := let ⟨p, x, e, q, z⟩ := h; ⟨p, x, e, sqT_updL hl q, z⟩
def spFm (K : PySem.W.Frag) (n : Nat) : Sp := fun vs H Q _ => ∃ (v : V) (d : D) (a : Nat), vs = [v, .int (a : Nat)] ∧ Dp K H v d ∧ FitD n d ∧ ∀ H', Same H H' → Q (.bl (lform d a)) H'
def spIl (K : PySem.W.Frag) (n : Nat) : Sp := fun vs H Q _ => ∃ (v : V) (d : D) (a : Nat), vs = [v, .int (a : Nat)] ∧ Dp K H v d ∧ FitD n d ∧ ∀ H', Same H H' → Q (.bl (linner d a)) H'
def spNb (K : PySem.W.Frag) (n : Nat) : Sp := fun vs H Q _ => ∃ (H0 : Hp) (p : Addr) (xs : List V) (ds : List D) (a : Nat), vs = [.ref p, .int (a : Nat)] ∧ Same H0 H ∧ SqT K H p xs ∧ DpAll K H0 xs ds ∧ Fits n ds ∧ ∀ H' l ys, Same H H' → H l = none → H' l = some (.lst ys) → All2 (NumT K H0 H') ys (lnum ds a) → Q (.ref l) H'
theorem _root_.Tr.FitD.insideN {n : Nat} {ds : List D} (h : FitD n (.tuple ds)) : Fits n ds := by
  obtain ⟨a, b, c⟩ := h
  rw [goodD] at a
  rw [PyData.depth] at b
  rw [cntD] at c
  exact ⟨a, by omega, by omega⟩
theorem lt3_dec (a : Nat) : decide ((a : Int) < 3) = decide (a < 3) := by
  by_cases h : a < 3
  · rw [decide_eq_true h, decide_eq_true (by omega)]
  · rw [decide_eq_false h, decide_eq_false (by omega)]
section
variable {P : Program} {w : World} {K : PySem.W.Frag} {mg : Str → Option Value} {base : Heap}
abbrev sFm : Stmt := top 52
theorem scFm : FnScope ["_law_thing", "_law_deep", "_law_rest", "_law_size_here", "_law_fine", "_law_part", "_law_one"] ["_law_thing", "_law_deep"] (defScope sFm) := ⟨rfl, rfl, rfl, by decide +kernel, rfl, by decide +kernel, by decide +kernel⟩
theorem ok_fm {f fS fI fM : Addr} {fd fdS fdI fdM : FuncData} (F : Fun K "_law_is_form" "_law_is_form" sFm f fd) (TS : Called K mg "_law_is_name" ["_law_thing"] fS fdS) (TI : Called K mg "_law_is_inner" ["_law_thing", "_law_deep"] fI fdI) (TM : Called K mg "_law_numbered" ["_law_items", "_law_deep"] fM fdM) (n : Nat) (hn : n + 1 ≤ 40)
    (GS : FnOk P w K mg base CX0 1 fS fdS ["_law_thing"] (spLNm K)) (GI : FnOk P w K mg base CX0 (2 * n + 4) fI fdI ["_law_thing", "_law_deep"] (spIl K n)) (GM : FnOk P w K mg base CX0 (2 * n + 4) fM fdM ["_law_items", "_law_deep"] (spNb K n))
    (m_isinstance : mg "isinstance" = none) (m_tuple : mg "tuple" = none) (m_str : mg "str" = none) (m_len : mg "len" = none) : FnOk P w K mg base CX0 (2 * n + 5) f fd ["_law_thing", "_law_deep"] (spFm K (n + 1)) := by
  refine F.ok scFm (fun vs H Q E h => ?_) (fun cdv A outer s H vs Q E hr h => ?_)
  · obtain ⟨v, d, a, rfl, _⟩ := h
    rfl
  · obtain ⟨v, d, a, rfl, hd, ft, q⟩ := h
    refine ⟨_, (pss_cons (ps_if (PW.pt (pw_or (pt_not (pt_val (pe_callB (call_isiKK (K := K) rfl) (by rfl) m_isinstance (by decide +kernel) (pa_cons (pv 0) (pa_cons (pe_bltn (v := .ty "tuple") (by rfl) m_tuple (by decide +kernel) rfl) pa_nil))))) (pw_or (pt_cmpR (Nm.op_eqDK (K := K) rfl hr.units) (pv 0) (pe_tup pa_nil) (nomark _)) (pw_or1 (pt_not (pt_val (pe_callB (call_isiKK (K := K) rfl) (by rfl) m_isinstance (by decide +kernel) (pa_cons (pe_ix (ix_tupK (K := K) rfl) (pv 0) pe_int (fun _ _ => rfl)) (pa_cons (pe_bltn (v := .ty "str") (by rfl) m_str (by decide +kernel) rfl) pa_nil)))))))))
       (pss_one (ps_ret pe_bl))
       pss_nil)
       (pss_cons (ps_if (pt_cmpR (op_in_seqKK (K := K) rfl) (pe_ix (ix_tupK (K := K) rfl) (pv 0) pe_int (fun _ _ => rfl)) (pe_lst (pa_cons pe_str (pa_cons pe_str pa_nil))) (by rfl))
       (pss_one (ps_par (i := 2) (j := 3) rfl scFm.nd rfl rfl (by decide) rfl rfl (pa_cons (pe_slice sl_tupA (pv 0) (po_some pe_int) po_none) (pa_cons (pe_ifExp (pt_cmpR op_eq (pe_ix (ix_tupK (K := K) rfl) (pv 0) pe_int (fun _ _ => rfl)) pe_str (nomark _))
       pe_int
       pe_int) pa_nil)) (by rfl)))
       (pss_one (ps_par (i := 2) (j := 3) rfl scFm.nd rfl rfl (by decide) rfl rfl (pa_cons (pe_slice sl_tupA (pv 0) (po_some pe_int) po_none) (pa_cons (pe_dget2 (Nat.lt_of_le_of_lt (Nat.add_le_add_left (by decide : 1 ≤ 65) _) hr.units65) (pe_disp (pps_cons pe_str pe_int (pps_cons pe_str pe_int pps_nil)) (by rfl) (by rfl) (fun z => by cases z) (by decide)) (pe_ix (ix_tupK (K := K) rfl) (pv 0) pe_int (fun _ _ => rfl)) pe_int ⟨rfl, rfl, rfl, rfl⟩) pa_nil)) (by rfl))))
       (pss_cons (ps_if (PW.pt (pw_or (pt_cmpR op_ne (pe_callB (call_len_K (K := K) rfl) (by rfl) m_len PySem.boot_len (pa_cons (pv 0) pa_nil)) (pv 3) (nomark _)) (pw_or1 (pt_cmpR (Nm.op_neDK (K := K) rfl hr.units) (pe_lc (own := [("_law_part", 5)]) (g := gName 5)  (by rfl) scFm.nd (pi_tup (pv 2)) (blkOk_by (own := [("_law_part", 5)]) (N := ["_law_thing", "_law_deep", "_law_rest", "_law_size_here", "_law_fine", "_law_part", "_law_one"]) (sc := defScope sFm) (by decide +kernel)) (fun _ _ _ _ _ => (pg_name (i := 5) scFm.nd rfl (Or.inl rfl))) (fun _ _ _ _ _ => (pts_one (pt_not (pt_val (pe_callB (call_isiKK (K := K) rfl) (by rfl) m_isinstance (by decide +kernel) (pa_cons (pv 5) (pa_cons (pe_bltn (v := .ty "tuple") (by rfl) m_tuple (by decide +kernel) rfl) pa_nil))))))) (fun _ _ _ _ _ => (pv 5))) (pe_lst pa_nil) (nomark _)))))
       (pss_one (ps_ret pe_bl))
       pss_nil)
       (pss_cons (ps_if (PW.pt (pw_and (pt_cmpR (op_notIn_seqKK (K := K) rfl) (pe_ix (ix_tupK (K := K) rfl) (pv 0) pe_int (fun _ _ => rfl)) (pe_lst (pa_cons pe_str (pa_cons pe_str pa_nil))) (by rfl)) (pw_and1 (pt_not (pt_val (pe_call GS (hr.mono (by first | decide | omega)) rfl TS.1 TS.2.1 TS.2.2 .nil pass0 (pa_cons (pe_ix (ix_tupK (K := K) rfl) (pv 0) pe_int (fun _ _ => rfl)) pa_nil)))))))
       (pss_one (ps_ret pe_bl))
       pss_nil)
       (pss_cons (ps_if (pt_cmpR op_eq (pe_ix (ix_tupK (K := K) rfl) (pv 0) pe_int (fun _ _ => rfl)) pe_str (nomark _))
       (pss_cons (ps_set (i := 4) scFm.nd rfl (.inl rfl) (pe_cmpR (Nm.op_eqDK (K := K) rfl hr.units) (pe_lc (own := [("_law_one", 6)]) (g := gName 6)  (by rfl) scFm.nd (pi_tup (pe_ix (ix_tupK (K := K) rfl) (pv 0) pe_int (fun _ _ => rfl))) (blkOk_by (own := [("_law_one", 6)]) (N := ["_law_thing", "_law_deep", "_law_rest", "_law_size_here", "_law_fine", "_law_part", "_law_one"]) (sc := defScope sFm) (by decide +kernel)) (fun _ _ _ _ _ => (pg_name (i := 6) scFm.nd rfl (Or.inl rfl))) (fun _ _ _ _ _ => (pts_one (pt_not (pt_val (pe_call GI (hr.mono (by first | decide | omega)) rfl TI.1 TI.2.1 TI.2.2 .nil pass0 (pa_cons (pv 6) (pa_cons pe_int pa_nil))))))) (fun _ _ _ _ _ => (pv 6))) (pe_lst pa_nil) (nomark _)))
       (pss_one (ps_ret (pe_and (pv 4) (pe_and (pe_cmpR (Nm.op_neDK (K := K) rfl hr.units) (pe_ix (ix_tupK (K := K) rfl) (pv 0) pe_int (fun _ _ => rfl)) (pe_tup pa_nil) (nomark _)) (pe_one (pe_cmpR op_le (pe_callB (call_len_K (K := K) rfl) (by rfl) m_len PySem.boot_len (pa_cons (pe_call GM (hr.mono (by first | decide | omega)) rfl TM.1 TM.2.1 TM.2.2 .nil pass0 (pa_cons (pe_ix (ix_tupK (K := K) rfl) (pv 0) pe_int (fun _ _ => rfl)) (pa_cons pe_int pa_nil))) pa_nil)) pe_int (nomark _))))))))
       pss_nil)
       (pss_cons (ps_if (pt_cmpR (op_in_seqKK (K := K) rfl) (pe_ix (ix_tupK (K := K) rfl) (pv 0) pe_int (fun _ _ => rfl)) (pe_lst (pa_cons pe_str (pa_cons pe_str pa_nil))) (by rfl))
       (pss_one (ps_ret (pe_cmpR op_lt (pv 1) pe_int (nomark _))))
       pss_nil)
       (pss_one (ps_ret (pe_cmpR (op_in_seqKK (K := K) rfl) (pe_ix (ix_tupK (K := K) rfl) (pv 0) pe_int (fun _ _ => rfl)) (pe_lst (pa_cons pe_str (pa_cons pe_str (pa_cons pe_str (pa_cons pe_str (pa_cons pe_str (pa_cons pe_str (pa_cons pe_str pa_nil)))))))) (by rfl)))))))))), ?_⟩
    refine ⟨_, rfl, _, _, _, _, _, rfl, .ty _, dp_ty hd, kit_tup d, _, rfl, ?_⟩
    cases htp : isTup d with
    | false =>
      have e : lform d a = false := by
        cases d with
        | tuple _ => cases htp
        | _ => simp [lform]
      rw [e] at q
      exact iteT (iteT (q H (Same.refl H)))
    | true =>
      refine iteF ?_
      obtain ⟨ds, rfl⟩ := tup_of htp
      refine ⟨_, rfl, Nat.zero_le _, fun e ne => ?_⟩
      have s1 := same_upd (o := HO.tup []) ne
      have hd1 := hd.same s1
      refine ⟨_, _, hd1, .tup (SqT.of upd_same) .nil, ft.shaped hn, nilT_shaped, _, rfl, ?_⟩
      rw [eqv_nilT]
      generalize upd H e (.tup []) = H1 at s1 hd1
      cases hd with
      | @tup p xs _ hp0 ha =>
      have hp := s1.tupS hp0
      cases ha with
      | nil =>
        have e : lform (.tuple []) a = false := by simp [lform]
        rw [e] at q
        exact iteT (iteT (q H1 s1))
      | @cons x0 xs d0 r h0 ha =>
        refine iteF ?_
        refine ⟨_, rfl, p, _, _, _, rfl, rfl, hp, at0, _, _, _, _, _, rfl, .ty _, dp_ty (h0.same s1), kit_str d0, _, rfl, ?_⟩
        cases hst : isStr d0 with
        | false =>
          have e : lform (.tuple (d0 :: r)) a = false := by
            cases d0 with
            | str _ => cases hst
            | _ => simp [lform]
          rw [e] at q
          exact iteT (q H1 s1)
        | true =>
          obtain ⟨wd, rfl⟩ : ∃ z, d0 = .str z := by
            cases d0 with
            | str z => exact ⟨z, rfl⟩
            | _ => cases hst
          cases h0
          refine iteF ?_
          rw [lform_eq] at q
          have lenE : (V.str wd :: xs).length = r.length + 1 := by rw [List.length_cons, dpl ha]
          have fit : Fits n r := ft.inside.tail
          dsimp only [tNext]
          refine seqS_in (ifS_join (fun σ' H' => ∃ (u : Addr) (zs : List V), σ' = [some (.ref p), some (.int (a : Nat)), some (.ref u), some (.int ((sizeW wd : Nat) : Int)), none, none, none] ∧ Same H1 H' ∧ SqT K H' u zs ∧ DpAll K H zs (restW wd r)) ?_ fun hG => ?_)
          · rintro σ' H2 ⟨u, zs, rfl, s2, hu, hz⟩
            have s12 := s1.trans s2
            have hp2 := s2.tupS hp
            have fitr : Fits n (restW wd r) := by
              unfold restW
              split
              · exact fit
              · cases r with
                | nil => exact fit
                | cons d r => exact fit.tail
            refine ⟨_, rfl, p, _, rfl, .inr hp2, _, rfl, rfl, _, rfl, ?_⟩
            rw [lenE, int_dec _ (sizeW wd) rfl]
            by_cases hsz : r.length + 1 = sizeW wd
            · rw [decide_eq_true hsz, Bool.true_and] at q
              rw [decide_eq_true hsz]
              refine iteF ?_
              have lz := dpl hz
              have fl := fitr.len
              refine ⟨_, rfl, u, rfl, ⟨_, hu⟩, fun L nL => lc_tup (xs := zs) (fun i H' => ∃ ys : List V, Same H2 H' ∧ H' L = some (.lst ys) ∧ DpAll K H ys (((restW wd r).take i).filter fun d => !isTup d)) ⟨[], same_upd nL, upd_same, .nil⟩ (fun i H' _ ⟨_, h, _⟩ => h.tupS hu) ?_ ?_⟩
              · rintro i x H3 hxi ⟨ys, s3, e3, hy⟩
                obtain ⟨d, hd1, hdx⟩ := dp_get hz hxi
                refine ⟨rfl, ?_⟩
                refine ⟨_, rfl, _, _, _, _, _, rfl, .ty _, dp_ty (hdx.same (s12.trans s3)), kit_tup d, _, rfl, ?_⟩
                have fs := filt_snoc (fun d => !isTup d) ((restW wd r).take i) d
                rw [← take_snoc hd1] at fs
                rw [fs]
                cases ht : isTup d with
                | true => exact iteF ⟨ys, s3, e3, by simpa using hy⟩
                | false =>
                  refine iteT ⟨_, rfl, ys, e3, ?_, ys ++ [x], same_updN nL s3, upd_same, by simpa using dp_app hy (.cons hdx .nil)⟩
                  refine Nat.lt_of_le_of_lt (Nat.le_trans (Nat.le_of_eq (dpl hy)) (filt_len (fun d => !isTup d) (restW wd r) i)) ?_
                  rw [sizeLine_eq]
                  omega
              · rintro H3 ⟨ys, s3, e3, hy⟩
                rw [lz, List.take_length] at hy
                refine ⟨Nat.zero_le _, fun t nt => ?_⟩
                have s4 := same_upd (o := HO.lst []) nt
                have s34 := s3.trans s4
                refine ⟨_, _, .lst (SqL.of (s4 _ _ e3)) (hy.same (s12.trans s34)), .lst (SqL.of upd_same) .nil, filt_shaped fitr (by omega) _, nilL_shaped, _, rfl, ?_⟩
                rw [eqv_nilL, filt_none]
                generalize upd H3 t (.lst []) = H4 at s4 s34
                have hp4 := s34.tupS hp2
                have s14 := s12.trans s34
                cases hrt : (restW wd r).all isTup with
                | false =>
                  rw [hrt] at q
                  exact iteT (q H4 s14)
                | true =>
                  rw [hrt, Bool.true_and] at q
                  refine iteF ?_
                  dsimp only [tNext]
                  refine seqS_in (ifS_join (fun σ' H' => σ' = [some (.ref p), some (.int (a : Nat)), some (.ref u), some (.int ((sizeW wd : Nat) : Int)), none, none, none] ∧ Same H1 H' ∧ (decide (wd ∈ uc2) || nameD (headD0 r)) = true) ?_ fun hG => ?_)
                  · rintro σ' H5 ⟨rfl, s15, key⟩
                    rw [key, Bool.true_and] at q
                    have s5 := s1.trans s15
                    have hp5 := s15.tupS hp
                    unfold lastP at q
                    dsimp only [tNext]
                    refine ⟨_, rfl, p, _, _, _, rfl, rfl, hp5, at0, rfl, _, rfl, ?_⟩
                    rw [Rw.dec_str]
                    by_cases h4 : wd = "piece"
                    · rw [decide_eq_true h4]
                      rw [if_pos h4] at q
                      subst h4
                      refine iteT ?_
                      have l2 : r.length = 2 := by
                        have e : sizeW "piece" = 3 := by unfold sizeW; rw [if_neg piece_uc, if_neg test_piece.symm, if_pos rfl]
                        omega
                      obtain ⟨nd, vd, rfl⟩ := two_of l2
                      have tv : isTup vd = true := by
                        rw [show restW "piece" [nd, vd] = [vd] from if_neg piece_uc] at hrt
                        simpa using hrt
                      obtain ⟨v, rfl⟩ := tup_of tv
                      cases ha with
                      | @cons x1 xs _ _ h1 ha =>
                      cases ha with
                      | @cons x2 xs _ _ h2 ha =>
                      cases ha
                      cases h2 with
                      | @tup pv xv _ hpv hav =>
                      have fv : Fits n v := (fit.tail.mem List.mem_cons_self).insideN
                      have lv := dpl hav
                      have flv := fv.len
                      rw [pieceP] at q
                      refine ⟨_, rfl, p, _, _, _, rfl, rfl, hp5, at2, pv, rfl, ⟨_, s5.tupS hpv⟩, fun L nL => lc_tup (xs := xv) (fun i H' => ∃ ys : List V, Same H5 H' ∧ H' L = some (.lst ys) ∧ DpAll K H ys ((v.take i).filter fun d => !linner d 0)) ⟨[], same_upd nL, upd_same, .nil⟩ (fun i H' _ ⟨_, h, _⟩ => h.tupS (s5.tupS hpv)) ?_ ?_⟩
                      · rintro i x H6 hxi ⟨ys, s6, e6, hy⟩
                        obtain ⟨d, hd1, hdx⟩ := dp_get hav hxi
                        refine ⟨rfl, ?_⟩
                        refine ⟨_, rfl, x, d, 0, rfl, hdx.same (s5.trans s6), fv.mem (List.mem_of_getElem? hd1), fun H7 s7 => ⟨_, rfl, ?_⟩⟩
                        have s67 := s6.trans s7
                        have e7 := s7 _ _ e6
                        have fs := filt_snoc (fun d => !linner d 0) (v.take i) d
                        rw [← take_snoc hd1] at fs
                        rw [fs]
                        cases ht : linner d 0 with
                        | true => exact iteF ⟨ys, s67, e7, by simpa using hy⟩
                        | false =>
                          refine iteT ⟨_, rfl, ys, e7, ?_, ys ++ [x], same_updN nL s67, upd_same, by simpa using dp_app hy (.cons hdx .nil)⟩
                          refine Nat.lt_of_le_of_lt (Nat.le_trans (Nat.le_of_eq (dpl hy)) (filt_len (fun d => !linner d 0) v i)) ?_
                          rw [sizeLine_eq]
                          omega
                      · rintro H6 ⟨ys, s6, e6, hy⟩
                        rw [lv, List.take_length] at hy
                        refine ⟨Nat.zero_le _, fun t nt => ?_⟩
                        have s7 := same_upd (o := HO.lst []) nt
                        have s67 := s6.trans s7
                        refine ⟨_, _, .lst (SqL.of (s7 _ _ e6)) (hy.same (s5.trans s67)), .lst (SqL.of upd_same) .nil, filt_shaped fv (by omega) _, nilL_shaped, ?_⟩
                        rw [eqv_nilL, filt_none, ← lall_all]
                        generalize upd H6 t (.lst []) = H7 at s7 s67
                        have s57 := s5.trans s67
                        refine name_in ?_
                        try dsimp only
                        refine ⟨_, rfl, _, rfl, ?_⟩
                        cases h5 : lall v 0 with
                        | false =>
                          rw [h5] at q
                          exact iteF (q H7 s57)
                        | true =>
                          rw [h5, Bool.true_and] at q
                          refine iteT ?_
                          refine ⟨_, rfl, p, _, _, _, rfl, rfl, s67.tupS hp5, at2, Nat.zero_le _, fun e2 ne2 => ?_⟩
                          have s8 := same_upd (o := HO.tup []) ne2
                          have s58 := s57.trans s8
                          refine ⟨_, _, .tup (s58.tupS hpv) (hav.same s58), .tup (SqT.of upd_same) .nil, fits_sh fv (by omega), nilT_shaped, _, rfl, ?_⟩
                          rw [eqv_nilT]
                          generalize upd H7 e2 (.tup []) = H8 at s8 s58
                          cases h6 : v.isEmpty with
                          | true =>
                            rw [h6] at q
                            exact iteF (q H8 s58)
                          | false =>
                            rw [h6] at q
                            refine iteT ?_
                            refine ⟨_, rfl, p, _, _, _, rfl, rfl, (s67.trans s8).tupS hp5, at2, H, pv, xv, v, 0, rfl, s58, s58.tupS hpv, hav, fv, fun H9 l9 ys9 s9 n9 h9 hy9 => ?_⟩
                            refine ⟨l9, _, rfl, .inl (SqL.of h9), _, _, rfl, rfl, ?_⟩
                            rw [← hy9.length] at q
                            have e9 : decide ((ys9.length : Int) ≤ 4) = decide (ys9.length ≤ 4) := decide_eq_decide.mpr (by omega)
                            dsimp only
                            rw [e9]
                            exact q H9 (s58.trans s9)
                    · rw [decide_eq_false h4]
                      rw [if_neg h4] at q
                      refine iteF ?_
                      dsimp only [tNext]
                      refine ⟨_, rfl, p, _, _, _, rfl, rfl, hp5, at0, ?_⟩
                      refine ⟨by show 2 ≤ sizeLine; decide, fun l nl => ?_⟩
                      have s6 := same_upd (o := HO.lst [V.str "test", V.str "choose"]) nl
                      refine ⟨l, tc2.map V.str, rfl, .inl (SqL.of upd_same), rfl, flat_txt _, _, rfl, ?_⟩
                      rw [if_neg Bool.false_ne_true, inV_txt]
                      have s56 := s5.trans s6
                      have hp6 := s6.tupS hp5
                      generalize upd H5 l (HO.lst [V.str "test", V.str "choose"]) = H6 at s6 s56 hp6
                      by_cases h5 : wd ∈ tc2
                      · rw [decide_eq_true h5]
                        rw [if_pos h5] at q
                        refine iteT ?_
                        refine ⟨_, rfl, _, _, rfl, rfl, ?_⟩
                        dsimp only
                        rw [lt3_dec]
                        exact q H6 s56
                      · rw [decide_eq_false h5]
                        rw [if_neg h5] at q
                        refine iteF ?_
                        dsimp only [tNext]
                        refine ⟨_, rfl, p, _, _, _, rfl, rfl, hp6, at0, ?_⟩
                        refine ⟨by show 7 ≤ sizeLine; decide, fun l2 nl2 => ?_⟩
                        have s7 := same_upd (o := HO.lst (seven.map V.str)) nl2
                        refine ⟨l2, seven.map V.str, rfl, .inl (SqL.of upd_same), rfl, flat_txt _, ?_⟩
                        rw [if_neg Bool.false_ne_true, inV_txt]
                        exact q _ (s56.trans s7)
                  · refine ⟨_, rfl, p, _, _, _, rfl, rfl, hp4, at0, ?_⟩
                    refine ⟨by show 2 ≤ sizeLine; decide, fun l nl => ?_⟩
                    have s5 := same_upd (o := HO.lst [V.str "use", V.str "choose"]) nl
                    refine ⟨l, uc2.map V.str, rfl, .inl (SqL.of upd_same), rfl, flat_txt _, _, rfl, ?_⟩
                    have s25 := (s2.trans s34).trans s5
                    have hp5 := s5.tupS hp4
                    generalize upd H4 l (HO.lst [V.str "use", V.str "choose"]) = H5 at s5 s25 hp5
                    show if (!inV _ _) = true then _ else _
                    rw [inV_txt]
                    by_cases hu2 : wd ∈ uc2
                    · rw [decide_eq_true hu2]
                      refine iteF (iteF ?_)
                      exact hG _ _ ⟨rfl, s25, by rw [decide_eq_true hu2]; rfl⟩
                    · rw [decide_eq_false hu2]
                      rw [decide_eq_false hu2, Bool.false_or] at q
                      refine iteT ?_
                      have lr : r.length ≠ 0 := by
                        intro e
                        unfold sizeW at hsz
                        rw [if_neg hu2] at hsz
                        split at hsz
                        · omega
                        · split at hsz
                          · omega
                          · omega
                      cases r with
                      | nil => exact absurd rfl lr
                      | cons nd r =>
                      cases ha with
                      | @cons x1 xs _ _ hn1 ha =>
                      have s15 := s1.trans s25
                      refine ⟨_, rfl, p, _, _, _, rfl, rfl, hp5, at1, x1, nd, rfl, hn1.same s15, (fit.mem List.mem_cons_self).good, fun H6 s6 => ⟨_, rfl, ?_⟩⟩
                      rw [show headD0 (nd :: r) = nd from rfl] at q hG
                      cases h7 : nameD nd with
                      | false =>
                        rw [h7] at q
                        exact iteT (q H6 (s15.trans s6))
                      | true =>
                        refine iteF ?_
                        exact hG _ _ ⟨rfl, s25.trans s6, by rw [h7, Bool.or_true]⟩
            · rw [decide_eq_false hsz] at q
              rw [decide_eq_false hsz]
              exact iteT (iteT (q H2 s12))
          · refine ⟨_, rfl, p, _, _, _, rfl, rfl, hp, at0, ?_⟩
            refine ⟨by show 2 ≤ sizeLine; decide, fun l nl => ?_⟩
            have s2 := same_upd (o := HO.lst [V.str "use", V.str "choose"]) nl
            refine ⟨l, uc2.map V.str, rfl, .inl (SqL.of upd_same), rfl, flat_txt _, _, rfl, ?_⟩
            rw [if_neg Bool.false_ne_true, inV_txt]
            have hp2 := s2.tupS hp
            generalize upd H1 l (HO.lst [V.str "use", V.str "choose"]) = H2 at s2 hp2
            by_cases hu : wd ∈ uc2
            · rw [decide_eq_true hu]
              refine iteT ?_
              have ez : restW wd r = r := if_pos hu
              refine ⟨_, rfl, _, rfl, ?_⟩
              dsimp only [tNoPart]
              refine tail_from (i := 1) hp2 rfl fun H3 u s3 hu3 => ?_
              refine ⟨_, rfl, p, _, _, _, rfl, rfl, s3.tupS hp2, at0, rfl, _, rfl, ?_⟩
              rw [Rw.dec_str]
              by_cases h1 : wd = "use"
              · rw [decide_eq_true h1]
                have e1 : sizeW wd = 1 := by unfold sizeW; rw [if_pos hu, if_pos h1]
                rw [e1] at hG
                exact iteT ⟨_, _, rfl, hG _ _ ⟨u, xs, rfl, s2.trans s3, hu3, by rw [ez]; exact ha⟩⟩
              · rw [decide_eq_false h1]
                have e1 : sizeW wd = 3 := by unfold sizeW; rw [if_pos hu, if_neg h1]
                rw [e1] at hG
                exact iteF ⟨_, _, rfl, hG _ _ ⟨u, xs, rfl, s2.trans s3, hu3, by rw [ez]; exact ha⟩⟩
            · rw [decide_eq_false hu]
              refine iteF ?_
              have ez : restW wd r = r.drop 1 := if_neg hu
              refine ⟨_, rfl, _, rfl, ?_⟩
              dsimp only [tNoPart]
              refine tail_from (i := 2) hp2 rfl fun H3 u s3 hu3 => ?_
              refine fun pd npd => ⟨upd_same, kvs43, rfl, by decide, _, rfl, .inl ⟨_, .inl upd_same⟩, ?_⟩
              have s4 : Same H3 (upd (upd H3 pd (.dK [])) pd (.dK (mergeK [] kvs43))) := same_updN npd (same_upd npd)
              refine ⟨_, rfl, p, _, _, _, rfl, rfl, s4.tupS (s3.tupS hp2), at0, ?_⟩
              refine ⟨_, DGet.k (k := Sum.inr wd) upd_same, ?_⟩
              rw [val43 hu]
              exact ⟨_, _, rfl, hG _ _ ⟨u, xs.drop 1, rfl, s2.trans (s3.trans s4), s4.tupS hu3, by rw [ez]; exact dp_drop 1 ha⟩⟩
abbrev sIl : Stmt := top 51
theorem scIl : FnScope ["_law_thing", "_law_deep", "_law_some_here", "_law_one"] ["_law_thing", "_law_deep"] (defScope sIl) := ⟨rfl, rfl, rfl, by decide +kernel, rfl, by decide +kernel, by decide +kernel⟩
theorem ok_il {f fF fT : Addr} {fd fdF fdT : FuncData} (F : Fun K "_law_is_inner" "_law_is_inner" sIl f fd) (TI : Called K mg "_law_is_inner" ["_law_thing", "_law_deep"] f fd) (TF : Called K mg "_law_is_form" ["_law_thing", "_law_deep"] fF fdF) (TT : Called K mg "_law_tuples" ["_law_item"] fT fdT) (n : Nat) (hn : n + 1 ≤ 40)
    (GT : FnOk P w K mg base CX0 1 fT fdT ["_law_item"] (spTu K)) (GF : FnOk P w K mg base CX0 (2 * n + 5) fF fdF ["_law_thing", "_law_deep"] (spFm K (n + 1))) (GI : FnOk P w K mg base CX0 (2 * n + 4) f fd ["_law_thing", "_law_deep"] (spIl K n)) : FnOk P w K mg base CX0 (2 * n + 6) f fd ["_law_thing", "_law_deep"] (spIl K (n + 1)) := by
  refine F.ok scIl (fun vs H Q E h => ?_) (fun cdv A outer s H vs Q E hr h => ?_)
  · obtain ⟨v, d, a, rfl, _⟩ := h
    rfl
  · obtain ⟨v, d, a, rfl, hd, ft, q⟩ := h
    refine ⟨_, (pss_cons (ps_if (PW.pt (pw_or (pt_not (pt_val (pe_call GF (hr.mono (by first | decide | omega)) rfl TF.1 TF.2.1 TF.2.2 .nil pass0 (pa_cons (pv 0) (pa_cons (pv 1) pa_nil))))) (pw_or1 (pt_cmpR (op_notIn_seqKK (K := K) rfl) (pe_ix (ix_tupK (K := K) rfl) (pv 0) pe_int (fun _ _ => rfl)) (pe_lst (pa_cons pe_str (pa_cons pe_str (pa_cons pe_str pa_nil)))) (by rfl)))))
       (pss_one (ps_ret pe_bl))
       pss_nil)
       (pss_cons (ps_for PassesOwn.never rfl (pi_list (pe_call GT (hr.mono (by first | decide | omega)) rfl TT.1 TT.2.1 TT.2.2 .nil pass0 (pa_cons (pv 0) pa_nil))) (pg_name (i := 2) scIl.nd rfl (.inl rfl))
       (pss_one (ps_if (pt_cmpR (Nm.op_neDK (K := K) rfl hr.units) (pe_lc (own := [("_law_one", 3)]) (g := gName 3)  (by rfl) scIl.nd (pi_tup (pv 2)) (blkOk_by (own := [("_law_one", 3)]) (N := ["_law_thing", "_law_deep", "_law_some_here", "_law_one"]) (sc := defScope sIl) (by decide +kernel)) (fun _ _ _ _ _ => (pg_name (i := 3) scIl.nd rfl (Or.inl rfl))) (fun _ _ _ _ _ => (pts_one (pt_not (pt_val (pe_call GI (hr.mono (by first | decide | omega)) rfl TI.1 TI.2.1 TI.2.2 .nil pass0 (pa_cons (pv 3) (pa_cons (pe_op op_add (pv 1) pe_int) pa_nil))))))) (fun _ _ _ _ _ => (pv 3))) (pe_lst pa_nil) (nomark _))
       (pss_one (ps_ret pe_bl))
       pss_nil)))
       (pss_one (ps_ret pe_bl)))), ?_⟩
    rw [linner] at q
    refine ⟨_, rfl, _, rfl, v, d, a, rfl, hd, ft, fun H1 s1 => ⟨_, rfl, ?_⟩⟩
    cases hf : lform d a with
    | false =>
      rw [hf] at q
      exact iteT (iteT (q H1 s1))
    | true =>
      rw [hf, Bool.true_and] at q
      refine iteF ?_
      have br : BrOk d := br_of d a (by rw [shaped_lform]; exact hf)
      obtain ⟨wd, r, rfl, _⟩ := id br
      cases id hd with
      | @tup p xs _ hp ha =>
      cases ha with
      | @cons x0 xs _ _ h0 ha =>
      cases h0
      have hp1 := s1.tupS hp
      refine ⟨_, rfl, p, _, _, _, rfl, rfl, hp1, at0, ?_⟩
      refine ⟨by show 3 ≤ sizeLine; decide, fun l nl => ?_⟩
      have s2 := same_upd (o := HO.lst [V.str "use", V.str "start", V.str "test"]) nl
      refine ⟨l, inner3.map V.str, rfl, .inl (SqL.of upd_same), rfl, flat_txt _, _, rfl, ?_⟩
      have s12 := s1.trans s2
      show if (!inV _ _) = true then _ else _
      rw [inV_txt]
      have hp2 := s2.tupS hp1
      generalize upd H1 l (HO.lst [V.str "use", V.str "start", V.str "test"]) = H2 at s2 s12 hp2
      have ew : wordIn (.tuple (.str wd :: r)) = decide (wd ∈ inner3) := rfl
      rw [ew] at q
      by_cases hw : wd ∈ inner3
      · rw [decide_eq_true hw, Bool.true_and, lkids_kids] at q
        rw [decide_eq_true hw]
        refine iteF ?_
        dsimp only [tNext]
        refine ⟨_, rfl, H, .ref p, _, rfl, s12, hd, br, fun H3 lk ks s3 nlk hlk hks => ?_⟩
        have lks := dpl hks
        rw [List.length_map] at lks
        have s13 := s12.trans s3
        refine ⟨lk, rfl, ⟨_, SqL.of hlk⟩, for_list (K := K) (a := lk) (xs := ks)
          (fun i σ H' => ∃ v2 : Option V, σ = [some (.ref p), some (.int (a : Nat)), v2, none] ∧ Same H3 H' ∧ ((kids (.tuple (.str wd :: r))).take i).all (fun x => lall x (a + 1)) = true)
          ⟨none, rfl, Same.refl _, rfl⟩ ?_ ?_ ?_⟩
        · rintro i σ H' hi ⟨v2, rfl, sm, _⟩
          exact sm.seq (SqL.of hlk)
        · rintro i x σ H4 hxi ⟨v2, rfl, s4, al⟩
          obtain ⟨pk, xk, dk, rfl, hdk, hpk, hak⟩ := dp_map_tup hks hxi
          have memk : dk ∈ kids (.tuple (.str wd :: r)) := List.mem_of_getElem? hdk
          have fk : Fits n dk := kid_fit ft memk
          have lkk := dpl hak
          have flk := fk.len
          have s14 := s13.trans s4
          have hpk4 := s14.tupS hpk
          refine ⟨_, rfl, pk, rfl, ⟨_, hpk4⟩, fun L nL => lc_tup (xs := xk) (fun i H' => ∃ ys : List V, Same H4 H' ∧ H' L = some (.lst ys) ∧ DpAll K H ys ((dk.take i).filter fun d => !linner d (a + 1))) ⟨[], same_upd nL, upd_same, .nil⟩ (fun i H' _ ⟨_, h, _⟩ => h.tupS hpk4) ?_ ?_⟩
          · rintro i x H6 hxi ⟨ys, s6, e6, hy⟩
            obtain ⟨d, hd1, hdx⟩ := dp_get hak hxi
            refine ⟨rfl, ?_⟩
            refine ⟨_, rfl, _, rfl, _, _, rfl, rfl, x, d, a + 1, rfl, hdx.same (s14.trans s6), fk.mem (List.mem_of_getElem? hd1), fun H7 s7 => ⟨_, rfl, ?_⟩⟩
            have s67 := s6.trans s7
            have e7 := s7 _ _ e6
            have fs := filt_snoc (fun d => !linner d (a + 1)) (dk.take i) d
            rw [← take_snoc hd1] at fs
            rw [fs]
            cases ht : linner d (a + 1) with
            | true => exact iteF ⟨ys, s67, e7, by simpa using hy⟩
            | false =>
              refine iteT ⟨_, rfl, ys, e7, ?_, ys ++ [x], same_updN nL s67, upd_same, by simpa using dp_app hy (.cons hdx .nil)⟩
              refine Nat.lt_of_le_of_lt (Nat.le_trans (Nat.le_of_eq (dpl hy)) (filt_len (fun d => !linner d (a + 1)) dk i)) ?_
              rw [sizeLine_eq]
              omega
          · rintro H6 ⟨ys, s6, e6, hy⟩
            rw [lkk, List.take_length] at hy
            refine ⟨Nat.zero_le _, fun t nt => ?_⟩
            have s7 := same_upd (o := HO.lst []) nt
            have s67 := s6.trans s7
            refine ⟨_, _, .lst (SqL.of (s7 _ _ e6)) (hy.same (s14.trans s67)), .lst (SqL.of upd_same) .nil, filt_shaped fk (by omega) _, nilL_shaped, _, rfl, ?_⟩
            rw [eqv_nilL, filt_none, ← lall_all]
            generalize upd H6 t (.lst []) = H7 at s7 s67
            cases h5 : lall dk (a + 1) with
            | false =>
              have e5 : ((kids (.tuple (.str wd :: r))).all fun x => lall x (a + 1)) = false := by
                rw [List.all_eq_false]
                exact ⟨dk, memk, by rw [h5]; exact Bool.false_ne_true⟩
              rw [e5] at q
              exact iteT (q H7 (s14.trans s67))
            | true =>
              refine iteF ⟨_, rfl, s4.trans s67, ?_⟩
              rw [take_snoc hdk, List.all_append, al, List.all_cons, h5]
              rfl
        · rintro σ H4 ⟨v2, rfl, s4, al⟩
          rw [lks, List.take_length] at al
          rw [al] at q
          exact q H4 (s13.trans s4)
      · rw [decide_eq_false hw]
        rw [decide_eq_false hw] at q
        exact iteT (q H2 s12)
abbrev sNb : Stmt := top 53
theorem scNb : FnScope ["_law_items", "_law_deep", "_law_found", "_law_item", "_law_some_here"] ["_law_items", "_law_deep"] (defScope sNb) := ⟨rfl, rfl, rfl, by decide +kernel, rfl, by decide +kernel, by decide +kernel⟩
theorem ok_nb {f fF fT : Addr} {fd fdF fdT : FuncData} (F : Fun K "_law_numbered" "_law_numbered" sNb f fd) (TM : Called K mg "_law_numbered" ["_law_items", "_law_deep"] f fd) (TF : Called K mg "_law_is_form" ["_law_thing", "_law_deep"] fF fdF) (TT : Called K mg "_law_tuples" ["_law_item"] fT fdT) (n : Nat)
    (GT : FnOk P w K mg base CX0 1 fT fdT ["_law_item"] (spTu K)) (GF : FnOk P w K mg base CX0 (2 * n + 5) fF fdF ["_law_thing", "_law_deep"] (spFm K (n + 1))) (GM : FnOk P w K mg base CX0 (2 * n + 4) f fd ["_law_items", "_law_deep"] (spNb K n)) : FnOk P w K mg base CX0 (2 * n + 6) f fd ["_law_items", "_law_deep"] (spNb K (n + 1)) := by
  refine F.ok scNb (fun vs H Q E h => ?_) (fun cdv A outer s H vs Q E hr h => ?_)
  · obtain ⟨H0, p, xs, ds, a, rfl, _⟩ := h
    rfl
  · obtain ⟨H0, p, xs, ds, a, rfl, s0, hp, ha, ft, q⟩ := h
    refine ⟨_, (pss_cons (ps_set (i := 2) scNb.nd rfl (.inl rfl) (pe_lst pa_nil))
       (pss_cons (ps_for PassesOwn.never rfl (pi_tup (pv 0)) (pg_name (i := 3) scNb.nd rfl (.inl rfl))
       (pss_cons (ps_expr (pe_bm PySem.F.plainAttrs_list PySem.F.slot_list_append PySem.F.type_list_append mt_append (pv 2) (pa_cons (pe_tup (pa_cons (pv 3) (pa_cons (pv 1) pa_nil))) pa_nil)))
       (pss_one (ps_if (pt_val (pe_call GF (hr.mono (by first | decide | omega)) rfl TF.1 TF.2.1 TF.2.2 .nil pass0 (pa_cons (pv 3) (pa_cons (pv 1) pa_nil))))
       (pss_one (ps_for PassesOwn.never rfl (pi_list (pe_call GT (hr.mono (by first | decide | omega)) rfl TT.1 TT.2.1 TT.2.2 .nil pass0 (pa_cons (pv 3) pa_nil))) (pg_name (i := 4) scNb.nd rfl (.inl rfl))
       (pss_one (ps_set (i := 2) scNb.nd rfl (.inl rfl) (pe_op op_cat (pv 2) (pe_call GM (hr.mono (by first | decide | omega)) rfl TM.1 TM.2.1 TM.2.2 .nil pass0 (pa_cons (pv 4) (pa_cons (pe_op op_add (pv 1) pe_int) pa_nil))))))))
       pss_nil))))
       (pss_one (ps_ret (pv 2))))), ?_⟩
    have len := dpl ha
    refine ⟨Nat.zero_le _, fun l0 nl0 => ?_⟩
    have cl := lnum_len ds a
    have cc := ft.cnt
    have small : ∀ as bs : List (D × Nat), as ++ bs = lnum ds a → as.length + bs.length ≤ 60000 := fun as bs e => by
      have z := congrArg List.length e
      rw [List.length_append] at z
      omega
    have e0 := same_upd (o := HO.lst []) nl0
    refine ⟨_, rfl, p, rfl, ⟨_, e0.tupS hp⟩, for_tup (xs := xs)
      (fun i σ H' => ∃ (l : Addr) (ys : List V) (done : List (D × Nat)) (v3 v4 : Option V), σ = [some (.ref p), some (.int (a : Nat)), some (.ref l), v3, v4] ∧ Same H H' ∧ H l = none ∧ H' l = some (.lst ys) ∧ All2 (NumT K H0 H') ys done ∧ done ++ lnum (ds.drop i) a = lnum ds a)
      ⟨l0, [], [], none, none, rfl, e0, nl0, upd_same, .nil, rfl⟩ ?_ ?_ ?_⟩
    · rintro i σ H' hi ⟨l, ys, done, v3, v4, rfl, sm, _⟩
      exact sm.tupS hp
    · rintro i x σ H1 hxi ⟨l, ys, done, v3, v4, rfl, s1, nl, hl, hy, e⟩
      obtain ⟨d, hd, hx⟩ := dp_get ha hxi
      have mem : d ∈ ds := List.mem_of_getElem? hd
      have ly := hy.length
      rw [drop_cons hd, lnum] at e
      have z0 := small _ _ e
      refine ⟨_, rfl, .inl ⟨rfl, _, SqL.of hl⟩, _, rfl, _, rfl, by show 2 ≤ sizeLine; decide, fun t nt => ?_⟩
      have s2 := same_upd (o := HO.tup [x, V.int (a : Nat)]) nt
      refine ⟨l, _, _, rfl, rfl, s2 _ _ hl, by rw [sizeLine_eq]; omega, ?_⟩
      have s3 : Same H (upd (upd H1 t (.tup [x, V.int (a : Nat)])) l (.lst (ys ++ [.ref t]))) := same_updN nl (s1.trans s2)
      have hy3 : All2 (NumT K H0 (upd (upd H1 t (.tup [x, V.int (a : Nat)])) l (.lst (ys ++ [.ref t])))) (ys ++ [.ref t]) (done ++ [(d, a)]) :=
        (hy.mono fun _ _ z => (z.same s2).updL (s2 _ _ hl)).append (.cons ⟨t, x, rfl, sqT_updL (s2 _ _ hl) (SqT.of upd_same), hx⟩ .nil)
      have hl3 : (upd (upd H1 t (.tup [x, V.int (a : Nat)])) l (.lst (ys ++ [.ref t]))) l = some (.lst (ys ++ [.ref t])) := upd_same
      generalize upd (upd H1 t (.tup [x, V.int (a : Nat)])) l (.lst (ys ++ [.ref t])) = H3 at s3 hy3 hl3
      refine ⟨_, rfl, _, rfl, x, d, a, rfl, hx.same (s0.trans s3), ft.mem mem, fun H4 s4 => ⟨_, rfl, ?_⟩⟩
      have s34 := s3.trans s4
      have hy4 := hy3.mono fun _ _ z => NumT.same s4 z
      have hl4 := s4 _ _ hl3
      cases hs : lform d a with
      | false =>
        rw [hs] at e
        refine iteF ⟨l, _, _, _, _, rfl, s34, nl, hl4, hy4, ?_⟩
        rw [← e]
        simp
      | true =>
        rw [hs, if_pos rfl, lnumk_kids] at e
        refine iteT ?_
        have br : BrOk d := br_of d a (by rw [shaped_lform]; exact hs)
        refine ⟨_, rfl, H0, x, d, rfl, s0.trans s34, hx, br, fun H5 lk ks s5 nlk hlk hks => ?_⟩
        have lks := dpl hks
        rw [List.length_map] at lks
        refine ⟨lk, rfl, ⟨_, SqL.of hlk⟩, for_list (K := K) (a := lk) (xs := ks)
          (fun j σ H' => ∃ (l : Addr) (ys : List V) (dn : List (D × Nat)) (v4 : Option V), σ = [some (.ref p), some (.int (a : Nat)), some (.ref l), some x, v4] ∧ Same H H' ∧ H' lk = some (.lst ks) ∧ H l = none ∧ H' l = some (.lst ys) ∧ All2 (NumT K H0 H') ys dn ∧ dn ++ (((kids d).drop j).flatMap (fun x => lnum x (a + 1)) ++ lnum (ds.drop (i + 1)) a) = lnum ds a)
          ⟨l, _, _, v4, rfl, s34.trans s5, hlk, nl, s5 _ _ hl4, hy4.mono fun _ _ z => NumT.same s5 z, by rw [← e]; simp⟩ ?_ ?_ ?_⟩
        · rintro j σ H' hj ⟨l, ys, dn, v4, rfl, _, h, _⟩
          exact SqL.of h
        · rintro j k σ H6 hkj ⟨l, ys, dn, v4, rfl, s6, hlk6, nl, hl6, hy6, e6⟩
          obtain ⟨pk, xk, dk, rfl, hdk, hpk, hak⟩ := dp_map_tup hks hkj
          have memk : dk ∈ kids d := List.mem_of_getElem? hdk
          rw [drop_cons hdk, List.flatMap_cons, List.append_assoc] at e6
          have z6 := small _ _ e6
          rw [List.length_append] at z6
          have ly6 := hy6.length
          have hpk6 := (s0.trans s6).tupS hpk
          refine ⟨_, rfl, _, rfl, _, rfl, _, _, rfl, rfl, H0, pk, xk, dk, a + 1, rfl, s0.trans s6, hpk6, hak, kid_fit (ft.mem mem) memk, fun H7 l7 ys7 s7 n7 h7 hy7 => ?_⟩
          have ly7 := hy7.length
          refine ⟨l, l7, _, _, rfl, rfl, s7 _ _ hl6, h7, by rw [sizeLine_eq]; omega, fun l8 n8 => ?_⟩
          have s8 := same_upd (o := HO.lst (ys ++ ys7)) n8
          have s78 := s7.trans s8
          exact ⟨l8, ys ++ ys7, dn ++ lnum dk (a + 1), some (.ref pk), rfl, s6.trans s78, s78 _ _ hlk6, (s6.trans s7).free n8, upd_same, (hy6.mono fun _ _ z => z.same s78).append (hy7.mono fun _ _ z => z.same s8), by rw [← e6]; simp⟩
        · rintro σ H6 ⟨l, ys, dn, v4, rfl, s6, hlk6, nl, hl6, hy6, e6⟩
          refine ⟨l, ys, dn, _, _, rfl, s6, nl, hl6, hy6, ?_⟩
          rw [lks, List.drop_length] at e6
          exact e6
    · rintro σ H1 ⟨l, ys, done, v3, v4, rfl, s1, nl, hl, hy, e⟩
      rw [len, List.drop_length, lnum, List.append_nil] at e
      rw [e] at hy
      exact ⟨_, rfl, q H1 l ys s1 nl hl hy⟩
end
end Tr

/-! P13 -/
/-! ### the law's turns -/
namespace Tr
open PySem PySem.Spec PyProof.Rows L2 Rw
section
variable {P : Program} {w : World} {K : PySem.W.Frag} {mg : Str → Option Value} {base : Heap}
theorem ok_forms {fF fI fM fS fT : Addr} {fdF fdI fdM fdS fdT : FuncData} (FF : Fun K "_law_is_form" "_law_is_form" sFm fF fdF) (FI : Fun K "_law_is_inner" "_law_is_inner" sIl fI fdI) (FM : Fun K "_law_numbered" "_law_numbered" sNb fM fdM)
    (TF : Called K mg "_law_is_form" ["_law_thing", "_law_deep"] fF fdF) (TI : Called K mg "_law_is_inner" ["_law_thing", "_law_deep"] fI fdI) (TM : Called K mg "_law_numbered" ["_law_items", "_law_deep"] fM fdM) (TS : Called K mg "_law_is_name" ["_law_thing"] fS fdS) (TT : Called K mg "_law_tuples" ["_law_item"] fT fdT)
    (GS : FnOk P w K mg base CX0 1 fS fdS ["_law_thing"] (spLNm K)) (GT : FnOk P w K mg base CX0 1 fT fdT ["_law_item"] (spTu K))
    (m_isinstance : mg "isinstance" = none) (m_tuple : mg "tuple" = none) (m_str : mg "str" = none) (m_len : mg "len" = none) : ∀ n, n ≤ 40 → FnOk P w K mg base CX0 (2 * n + 3) fF fdF ["_law_thing", "_law_deep"] (spFm K n) ∧ FnOk P w K mg base CX0 (2 * n + 4) fI fdI ["_law_thing", "_law_deep"] (spIl K n) ∧ FnOk P w K mg base CX0 (2 * n + 4) fM fdM ["_law_items", "_law_deep"] (spNb K n) := by
  intro n
  induction n with
  | zero =>
    intro _
    refine ⟨?_, ?_, ?_⟩
    · refine FF.ok scFm (fun vs H Q E h => ?_) (fun cdv A outer s H vs Q E hr h => ?_)
      · obtain ⟨v, d, a, rfl, _⟩ := h
        rfl
      · obtain ⟨v, d, a, rfl, _, ft, _⟩ := h
        exact absurd ft.dep (Nat.not_lt_zero _)
    · refine FI.ok scIl (fun vs H Q E h => ?_) (fun cdv A outer s H vs Q E hr h => ?_)
      · obtain ⟨v, d, a, rfl, _⟩ := h
        rfl
      · obtain ⟨v, d, a, rfl, _, ft, _⟩ := h
        exact absurd ft.dep (Nat.not_lt_zero _)
    · refine FM.ok scNb (fun vs H Q E h => ?_) (fun cdv A outer s H vs Q E hr h => ?_)
      · obtain ⟨H0, p, xs, ds, a, rfl, _⟩ := h
        rfl
      · obtain ⟨H0, p, xs, ds, a, rfl, _, _, _, ft, _⟩ := h
        exact absurd ft.dep (Nat.not_lt_zero _)
  | succ n ih =>
    intro hn
    obtain ⟨_, GI, GM⟩ := ih (by omega)
    have GF := ok_fm FF TS TI TM n hn GS GI GM m_isinstance m_tuple m_str m_len
    exact ⟨GF, ok_il FI TI TF TT n hn GT GF GI, ok_nb FM TM TF TT n GT GF GM⟩
end
theorem ne_new {H : Hp} {a b : Addr} {x : HO} (h : H a = some x) (n : H b = none) : a ≠ b := fun e => by
  rw [e, n] at h
  cases h
theorem via {t : TE} {σ : L2.St} {H : Hp} {Q : VK} (F : V → Hp → Prop) (hQ : ∀ v H', F v H' → Q v H') (h : (∀ v H', F v H' → Q v H') → t σ H Q) : t σ H Q := h hQ
def lk3 : List Str := ["take", "give", "piece"]
theorem lk3_iff {w : Str} : w ∈ lk3 ↔ w = "take" ∨ w = "give" ∨ w = "piece" := by simp [lk3]
/-- an item of which the tuples, the names can be read, the names told -/
def LkOk (d : D) : Prop := BrOk d ∧ (wD d ∈ lk3 → nmD d ≠ "")
def nm0 (d : D) : Str := if wD d ∈ lk3 then nmD d else ""
def wr0 (d : D) (all : List Str) : Bool := !decide (wD d = "give") && decide (nm0 d ∈ all)
theorem give_ne_take : ("give" : Str) ≠ "take" := by decide +kernel
theorem take_lk : ("take" : Str) ∈ lk3 := by decide +kernel
theorem give_lk : ("give" : Str) ∈ lk3 := by decide +kernel
theorem piece_lk : ("piece" : Str) ∈ lk3 := by decide +kernel
theorem piece_take : ("piece" : Str) ≠ "take" := by decide +kernel
theorem piece_give : ("piece" : Str) ≠ "give" := by decide +kernel
theorem wr_take {d : D} {later : List D} {ar t : List Str} (h : wD d = "take") : isWr d later ar t = (wr0 d (ar ++ t) || !(later.any fun z => PyData.eqv z (giveD (nm0 d)))) := by
  unfold isWr wr0 nm0
  rw [h, if_neg give_ne_take.symm, if_pos rfl, if_pos take_lk, decide_eq_false give_ne_take.symm]
  by_cases hm : nmD d ∈ ar ++ t
  · rw [if_pos hm, decide_eq_true hm]
    rfl
  · rw [if_neg hm, decide_eq_false hm]
    rfl
theorem wr_other {d : D} {later : List D} {ar t : List Str} (h1 : wD d ≠ "take") (h2 : wD d ≠ "give") (ne : ∀ n ∈ ar ++ t, n ≠ "") : isWr d later ar t = wr0 d (ar ++ t) := by
  unfold isWr wr0 nm0
  rw [if_neg h2, if_neg h1, decide_eq_false h2]
  by_cases h3 : wD d = "piece"
  · rw [h3, if_pos piece_lk, decide_eq_true rfl]
    rfl
  · have nl : ¬ wD d ∈ lk3 := fun h => (lk3_iff.mp h).elim h1 fun h => h.elim h2 h3
    rw [if_neg nl, decide_eq_false h3, decide_eq_false fun h => ne _ h rfl]
    rfl
theorem last_m1 {t : List Str} (h : t ≠ []) : atI (t.map V.str) (-1) = some (.str (t.getLast h)) := by
  have hl : 0 < t.length := List.length_pos_iff.mpr h
  unfold atI ixN
  rw [if_neg (by decide), List.length_map, if_pos (by omega)]
  show (t.map V.str)[((-1 : Int) + (t.length : Int)).toNat]? = _
  rw [show ((-1 : Int) + (t.length : Int)).toNat = t.length - 1 by omega, List.getElem?_map, List.getLast_eq_getElem, List.getElem?_eq_getElem (by omega)]
  rfl
theorem drop_last {t : List Str} (h : t ≠ []) : t.drop (t.length - 1) = [t.getLast h] := by
  have hl : 0 < t.length := List.length_pos_iff.mpr h
  rw [List.drop_eq_getElem_cons (by omega), List.getLast_eq_getElem, show t.length - 1 + 1 = t.length by omega, List.drop_length]
def spTn (K : PySem.W.Frag) (n : Nat) : Sp := fun vs H Q _ => ∃ (H0 : Hp) (p ph : Addr) (xs : List V) (ds : List D) (held : List Str), vs = [.ref p, .ref ph] ∧ Same H0 H ∧ SqT K H p xs ∧ DpAll K H0 xs ds ∧ Fits n ds ∧ (∀ d ∈ flat ds, LkOk d) ∧ H ph = some (.lst (held.map V.str)) ∧ (∀ n ∈ held, n ≠ "") ∧ held.length + (flat ds).length ≤ 900 ∧
  ∀ H' l, Same H H' → H l = none → H' l = some (.lst ((wl ds [] held).map V.bl)) → Q (.ref l) H'
section
variable {P : Program} {w : World} {K : PySem.W.Frag} {mg : Str → Option Value} {base : Heap}
abbrev sTn : Stmt := top 54
theorem scTn : FnScope ["_law_items", "_law_held", "_law_found", "_law_own", "_law_at", "_law_item", "_law_name", "_law_wrong", "_law_some_here"] ["_law_items", "_law_held"] (defScope sTn) := ⟨rfl, rfl, rfl, by decide +kernel, rfl, by decide +kernel, by decide +kernel⟩
theorem ok_tn {f fT : Addr} {fd fdT : FuncData} (F : Fun K "_law_turns" "_law_turns" sTn f fd) (TX : Called K mg "_law_turns" ["_law_items", "_law_held"] f fd) (GT : FnOk P w K mg base CX0 1 fT fdT ["_law_item"] (spTu K)) (TT : Called K mg "_law_tuples" ["_law_item"] fT fdT) (m_enumerate : mg "enumerate" = none) : ∀ n, n ≤ 40 → FnOk P w K mg base CX0 (n + 2) f fd ["_law_items", "_law_held"] (spTn K n) := by
  intro n
  induction n with
  | zero =>
    intro _
    refine F.ok scTn (fun vs H Q E h => ?_) (fun cdv A outer s H vs Q E hr h => ?_)
    · obtain ⟨H0, p, ph, xs, ds, held, rfl, _⟩ := h
      rfl
    · obtain ⟨H0, p, ph, xs, ds, held, rfl, _, _, _, ft, _⟩ := h
      exact absurd ft.dep (Nat.not_lt_zero _)
  | succ n ih =>
    intro hn
    have GX := ih (by omega)
    refine F.ok scTn (fun vs H Q E h => ?_) (fun cdv A outer s H vs Q E hr h => ?_)
    · obtain ⟨H0, p, ph, xs, ds, held, rfl, _⟩ := h
      rfl
    · obtain ⟨H0, p, ph, xs, ds, held, rfl, s0, hp, ha, ft, br, hph, hne, hz, q⟩ := h
      refine ⟨_, (pss_cons (ps_par (i := 2) (j := 3) rfl scTn.nd rfl rfl (by decide) rfl rfl (pa_cons (pe_lst pa_nil) (pa_cons (pe_lst pa_nil) pa_nil)) (by rfl))
       (pss_cons (ps_for PassesOwn.never rfl (pi_enumT rfl m_enumerate (pa_cons (pv 0) pa_nil)) (pg_tup rfl (pgs_cons (pg_name (i := 4) scTn.nd rfl (.inl rfl)) (pgs_cons (pg_name (i := 5) scTn.nd rfl (.inl rfl)) pgs_nil)))
       (pss_cons (ps_set (i := 6) scTn.nd rfl (.inl rfl) (pe_ifExp (pt_cmpR (op_in_seqKK (K := K) rfl) (pe_ix (ix_tupK (K := K) rfl) (pv 5) pe_int (fun _ _ => rfl)) (pe_lst (pa_cons pe_str (pa_cons pe_str (pa_cons pe_str pa_nil)))) (by rfl))
       (pe_ix (ix_tupK (K := K) rfl) (pv 5) pe_int (fun _ _ => rfl))
       pe_str))
       (pss_cons (ps_set (i := 7) scTn.nd rfl (.inl rfl) (pe_and (pe_cmpR op_ne (pe_ix (ix_tupK (K := K) rfl) (pv 5) pe_int (fun _ _ => rfl)) pe_str (nomark _)) (pe_one (pe_cmpR (op_in_seqKK (K := K) rfl) (pv 6) (pe_op op_cat (pv 1) (pv 3)) (by rfl)))))
       (pss_cons (ps_if (pt_cmpR op_eq (pe_ix (ix_tupK (K := K) rfl) (pv 5) pe_int (fun _ _ => rfl)) pe_str (nomark _))
       (pss_cons (ps_expr (pe_bm PySem.F.plainAttrs_list PySem.F.slot_list_append PySem.F.type_list_append mt_append (pv 2) (pa_cons (pe_or (pv 7) (pe_one (pe_cmpR (op_notInTD hr.units65) (pe_tup (pa_cons pe_str (pa_cons (pv 6) pa_nil))) (pe_slice sl_tupA (pv 0) (po_some (pe_op op_add (pv 4) pe_int)) po_none) (by rfl)))) pa_nil)))
       (pss_one (ps_set (i := 3) scTn.nd rfl (.inl rfl) (pe_op op_cat (pv 3) (pe_lst (pa_cons (pv 6) pa_nil))))))
       (pss_one (ps_if (pt_cmpR op_eq (pe_ix (ix_tupK (K := K) rfl) (pv 5) pe_int (fun _ _ => rfl)) pe_str (nomark _))
       (pss_cons (ps_expr (pe_bm PySem.F.plainAttrs_list PySem.F.slot_list_append PySem.F.type_list_append mt_append (pv 2) (pa_cons (pe_or (pe_cmpR (Nm.op_eqDK (K := K) rfl hr.units) (pv 3) (pe_lst pa_nil) (nomark _)) (pe_one (pe_cmpR op_ne (pe_ix (ix_listK (K := K) rfl) (pv 3) (pe_un un_neg pe_int) (fun _ _ => rfl)) (pv 6) (nomark _)))) pa_nil)))
       (pss_one (ps_set (i := 3) scTn.nd rfl (.inl rfl) (pe_slice sl_list (pv 3) po_none (po_some (pe_un un_neg pe_int))))))
       (pss_one (ps_expr (pe_bm PySem.F.plainAttrs_list PySem.F.slot_list_append PySem.F.type_list_append mt_append (pv 2) (pa_cons (pv 7) pa_nil)))))))
       (pss_one (ps_for PassesOwn.never rfl (pi_list (pe_call GT (hr.mono (by first | decide | omega)) rfl TT.1 TT.2.1 TT.2.2 .nil pass0 (pa_cons (pv 5) pa_nil))) (pg_name (i := 8) scTn.nd rfl (.inl rfl))
       (pss_one (ps_set (i := 2) scTn.nd rfl (.inl rfl) (pe_op op_cat (pv 2) (pe_call GX (hr.mono (by first | decide | omega)) rfl TX.1 TX.2.1 TX.2.2 .nil pass0 (pa_cons (pv 8) (pa_cons (pe_op op_cat (pv 1) (pv 3)) pa_nil))))))))))))
       (pss_one (ps_ret (pv 2))))), ?_⟩
      have len := dpl ha
      have tot := wl_len ds [] held
      have small : ∀ as bs : List Bool, as ++ bs = wl ds [] held → as.length + bs.length ≤ 900 := fun as bs e => by
        have z := congrArg List.length e
        rw [List.length_append] at z
        omega
      refine ⟨Nat.zero_le _, fun l0 nl0 => ⟨Nat.zero_le _, fun lo0 nlo0 => ⟨_, _, rfl, ?_⟩⟩⟩
      have e1 := same_upd (o := HO.lst []) nl0
      have e2 := same_upd (o := HO.lst []) nlo0
      have e12 := e1.trans e2
      have hl0 : (upd (upd H l0 (HO.lst [])) lo0 (HO.lst [])) l0 = some (.lst []) := e2 _ _ upd_same
      have ho0 : (upd (upd H l0 (HO.lst [])) lo0 (HO.lst [])) lo0 = some (.lst []) := upd_same
      have nel : l0 ≠ lo0 := ne_new (upd_same (H := H) (a := l0) (o := HO.lst [])) nlo0
      generalize upd (upd H l0 (HO.lst [])) lo0 (HO.lst []) = H1 at e12 hl0 ho0
      refine ⟨_, rfl, p, _, rfl, e12.tupS hp, for_enumT (K := K) (a := p) (xs := xs)
        (fun i σ H' => ∃ (l lo : Addr) (done : List Bool) (t : List Str) (v4 v5 v6 v7 v8 : Option V), σ = [some (.ref p), some (.ref ph), some (.ref l), some (.ref lo), v4, v5, v6, v7, v8] ∧ Same H H' ∧ H l = none ∧ l ≠ lo ∧ H' l = some (.lst (done.map V.bl)) ∧ H' lo = some (.lst (t.map V.str)) ∧ (∀ n ∈ t, sOk n ∧ n ≠ "") ∧
          done ++ wl (ds.drop i) t held = wl ds [] held ∧ t.length + (flat (ds.drop i)).length ≤ (flat ds).length)
        ⟨l0, lo0, [], [], none, none, none, none, none, rfl, e12, nl0, nel, hl0, ho0, fun n hn => (nomatch hn), rfl, Nat.zero_add _ ▸ Nat.le_refl _⟩ ?_ ?_ ?_⟩
      · rintro i σ H' hi ⟨l, lo, _, _, v4, v5, v6, v7, v8, rfl, sm, _⟩
        exact sm.tupS hp
      · rintro i x σ H1 T1 hxi ⟨l, lo, done, t, v4, v5, v6, v7, v8, rfl, sm, nl, nlo, hl, ho, tok, e, hlz⟩ nT
        obtain ⟨d, hd, hx⟩ := dp_get ha hxi
        have mem : d ∈ ds := List.mem_of_getElem? hd
        have dr := drop_cons hd
        rw [dr, wl] at e
        rw [dr, flat, List.length_cons, List.length_append] at hlz
        have fl : flat ds = flat (ds.take i) ++ (d :: (flatk d ++ flat (ds.drop (i + 1)))) := by
          have z := flat_app (ds.take i) (ds.drop i)
          rw [List.take_append_drop, dr, flat] at z
          exact z
        have lkd : LkOk d := br d (by rw [fl]; simp)
        obtain ⟨brd, lkn⟩ := lkd
        have gd := (ft.mem mem).good
        have gn := good_nm gd brd
        have hi : i < ds.length := (List.getElem?_eq_some_iff.mp hd).1
        have u0 := same_upd (o := .tup [.int (i : Nat), x]) nT
        have sm0 := sm.trans u0
        have hl1 := u0 _ _ hl
        have ho1 := u0 _ _ ho
        refine ⟨T1, _, rfl, SqT.of upd_same, rfl, _, _, rfl, _, _, rfl, rfl, ?_⟩
        generalize upd H1 T1 (.tup [.int (i : Nat), x]) = H2 at u0 sm0 hl1 ho1
        have dz := small _ _ e
        obtain ⟨wd, r, rfl, b1, b2, b3⟩ := id brd
        cases id hx with
        | @tup px xx _ hpx hax =>
        cases hax with
        | @cons x0 xx _ _ h0 hax =>
        cases h0
        have hpx2 := (s0.trans sm0).tupS hpx
        have nlen : nm0 (.tuple (.str wd :: r)) = if wd ∈ lk3 then nmD (.tuple (.str wd :: r)) else "" := rfl
        dsimp only
        -- the name
        refine seqS_in (asg_via (fun v H' => Same H2 H' ∧ v = .str (nm0 (.tuple (.str wd :: r)))) (fun Qx hQ => ?_) (fun v H3 ⟨s3, ev⟩ => ?_))
        · refine ⟨_, rfl, px, _, _, _, rfl, rfl, hpx2, at0, ?_⟩
          refine ⟨by show 3 ≤ sizeLine; decide, fun l2 nl2 => ?_⟩
          have s3 := same_upd (o := HO.lst [V.str "take", V.str "give", V.str "piece"]) nl2
          refine ⟨l2, lk3.map V.str, rfl, .inl (SqL.of upd_same), rfl, flat_txt _, _, rfl, ?_⟩
          rw [if_neg Bool.false_ne_true, inV_txt]
          by_cases h : wd ∈ lk3
          · rw [decide_eq_true h]
            rw [if_pos h] at nlen
            obtain ⟨n, r', rfl⟩ := b3 (lk3_iff.mp h)
            cases hax with
            | @cons x1 xx2 _ _ h0 hax =>
            cases h0
            exact iteT ⟨_, rfl, px, _, _, _, rfl, rfl, s3.tupS hpx2, at1, hQ _ _ ⟨s3, by rw [nlen]; rfl⟩⟩
          · rw [decide_eq_false h]
            rw [if_neg h] at nlen
            exact iteF (hQ _ _ ⟨s3, by rw [nlen]⟩)
        subst ev
        refine name_in ?_
        try dsimp only
        have sm3 := sm0.trans s3
        have hl3 := s3 _ _ hl1
        have ho3 := s3 _ _ ho1
        have hpx3 := s3.tupS hpx2
        refine seqS_in (asg_via (fun v H' => Same H3 H' ∧ v = .bl (wr0 (.tuple (.str wd :: r)) (held ++ t))) (fun Qx hQ => ?_) (fun v H4 ⟨s4, ev⟩ => ?_))
        · refine ⟨_, rfl, px, _, _, _, rfl, rfl, hpx3, at0, rfl, _, rfl, ?_⟩
          rw [Rw.dec_str]
          unfold wr0 at hQ
          rw [show wD (.tuple (.str wd :: r)) = wd from rfl] at hQ
          by_cases hg : wd = "give"
          · rw [decide_eq_true hg]
            rw [decide_eq_true hg] at hQ
            exact iteF (hQ _ _ ⟨Same.refl _, rfl⟩)
          · rw [decide_eq_false hg]
            rw [decide_eq_false hg] at hQ
            refine iteT ?_
            have em : held.map V.str ++ t.map V.str = (held ++ t).map V.str := List.map_append.symm
            refine ⟨_, rfl, _, rfl, _, rfl, ph, lo, _, _, rfl, rfl, sm3 _ _ hph, ho3, by rw [List.length_map, List.length_map, sizeLine_eq]; omega, fun l2 nl2 => ?_⟩
            refine ⟨l2, (held ++ t).map V.str, rfl, .inl (SqL.of (by rw [upd_same, em])), rfl, flat_txt _, ?_⟩
            rw [if_neg Bool.false_ne_true, inV_txt]
            exact hQ _ _ ⟨same_upd nl2, rfl⟩
        subst ev
        refine name_in ?_
        try dsimp only
        have sm4 := sm3.trans s4
        have hl4 := s4 _ _ hl3
        have ho4 := s4 _ _ ho3
        have hpx4 := s4.tupS hpx3
        have bl := behindD_len (.tuple (.str wd :: r)) t
        refine seqS_in (ifS_join (fun σ' H' => ∃ lo', σ' = [some (.ref p), some (.ref ph), some (.ref l), some (.ref lo'), some (.int (i : Nat)), some (.ref px), some (.str (nm0 (.tuple (.str wd :: r)))), some (.bl (wr0 (.tuple (.str wd :: r)) (held ++ t))), v8] ∧ Same H H' ∧ l ≠ lo' ∧ H' l = some (.lst ((done ++ [isWr (.tuple (.str wd :: r)) (ds.drop (i + 1)) held t]).map V.bl)) ∧ H' lo' = some (.lst ((behindD (.tuple (.str wd :: r)) t).map V.str))) ?_ fun hG => ?_)
        · rintro σ' H5 ⟨lo', rfl, s5, nlo5, hl5, ho5⟩
          have hne2 : ∀ n ∈ behindD (.tuple (.str wd :: r)) t, sOk n ∧ n ≠ "" := by
            intro n hn
            refine ⟨behindD_ok (fun n hn => (tok n hn).1) gd brd n hn, ?_⟩
            unfold behindD at hn
            split at hn
            · next e =>
              rcases List.mem_append.mp hn with hn | hn
              · exact (tok n hn).2
              · rcases List.mem_cons.mp hn with rfl | hn
                · exact lkn (by rw [e]; exact take_lk)
                · cases hn
            · split at hn
              · exact (tok n (List.dropLast_subset _ hn)).2
              · exact (tok n hn).2
          try dsimp only
          refine ⟨_, rfl, H0, .ref px, _, rfl, s0.trans s5, hx, brd, fun H6 lk ks s6 nlk hlk hks => ?_⟩
          have lks := dpl hks
          rw [List.length_map] at lks
          refine ⟨lk, rfl, ⟨_, SqL.of hlk⟩, for_list (K := K) (a := lk) (xs := ks)
            (fun j σ H' => ∃ (l : Addr) (dn : List Bool) (v8 : Option V), σ = [some (.ref p), some (.ref ph), some (.ref l), some (.ref lo'), some (.int (i : Nat)), some (.ref px), some (.str (nm0 (.tuple (.str wd :: r)))), some (.bl (wr0 (.tuple (.str wd :: r)) (held ++ t))), v8] ∧ Same H6 H' ∧ H l = none ∧ l ≠ lo' ∧ H' l = some (.lst (dn.map V.bl)) ∧
              dn ++ (((kids (.tuple (.str wd :: r))).drop j).flatMap (fun x => wl x [] (held ++ behindD (.tuple (.str wd :: r)) t)) ++ wl (ds.drop (i + 1)) (behindD (.tuple (.str wd :: r)) t) held) = wl ds [] held)
            ⟨l, _, v8, rfl, Same.refl _, nl, nlo5, s6 _ _ hl5, by rw [← e, wlk_kids]; simp⟩ ?_ ?_ ?_⟩
          · rintro j σ H' hj ⟨l, dn, v8, rfl, s7, _⟩
            exact s7.seq (SqL.of hlk)
          · rintro j k σ H7 hkj ⟨l, dn, v8, rfl, s7, nl, nlo7, hl7, e7⟩
            obtain ⟨pk, xk, dk, rfl, hdk, hpk, hak⟩ := dp_map_tup hks hkj
            have memk : dk ∈ kids (.tuple (.str wd :: r)) := List.mem_of_getElem? hdk
            rw [drop_cons hdk, List.flatMap_cons, List.append_assoc] at e7
            have z7 := small _ _ e7
            rw [List.length_append] at z7
            have kf := kid_flat memk
            have s57 := s6.trans s7
            have s07 := s5.trans s57
            have em : held.map V.str ++ (behindD (.tuple (.str wd :: r)) t).map V.str = (held ++ behindD (.tuple (.str wd :: r)) t).map V.str := List.map_append.symm
            refine ⟨_, rfl, _, rfl, _, rfl, _, rfl, ph, lo', _, _, rfl, rfl, s07 _ _ hph, s57 _ _ ho5, by rw [List.length_map, List.length_map, sizeLine_eq]; omega, fun l2 nl2 => ?_⟩
            have s8 := same_upd (o := HO.lst (held.map V.str ++ (behindD (.tuple (.str wd :: r)) t).map V.str)) nl2
            have s08 := s0.trans (s07.trans s8)
            refine ⟨H0, pk, l2, xk, dk, held ++ behindD (.tuple (.str wd :: r)) t, rfl, s08, s08.tupS hpk, hak, kid_fit (ft.mem mem) memk, fun e he => br e (by rw [fl]; exact List.mem_append_right _ (List.mem_cons_of_mem _ (List.mem_append_left _ (kf.2 e he)))), by rw [upd_same, em], ?_, by rw [List.length_append]; omega, fun H9 l9 s9 n9 h9 => ?_⟩
            · intro n hn
              rcases List.mem_append.mp hn with hn | hn
              · exact hne n hn
              · exact (hne2 n hn).2
            have s89 := s8.trans s9
            refine ⟨l, l9, _, _, rfl, rfl, s89 _ _ hl7, h9, by rw [List.length_map, List.length_map, sizeLine_eq]; omega, fun l3 n3 => ?_⟩
            have s10 := same_upd (o := HO.lst (dn.map V.bl ++ (wl dk [] (held ++ behindD (.tuple (.str wd :: r)) t)).map V.bl)) n3
            refine ⟨l3, dn ++ wl dk [] (held ++ behindD (.tuple (.str wd :: r)) t), some (.ref pk), rfl, s7.trans (s89.trans s10), (s07.trans s89).free n3, (ne_new (s89 _ _ (s57 _ _ ho5)) n3).symm, by rw [upd_same, List.map_append], ?_⟩
            rw [← e7]
            simp
          · rintro σ H7 ⟨l, dn, v8, rfl, s7, nl, nlo7, hl7, e7⟩
            rw [lks, List.drop_length] at e7
            have s57 := s6.trans s7
            exact ⟨l, lo', dn, behindD (.tuple (.str wd :: r)) t, _, _, _, _, _, rfl, s5.trans s57, nl, nlo7, hl7, s57 _ _ ho5, hne2, e7, by omega⟩
        · refine ⟨_, rfl, px, _, _, _, rfl, rfl, hpx4, at0, rfl, _, rfl, ?_⟩
          rw [Rw.dec_str]
          by_cases h1 : wd = "take"
          · rw [decide_eq_true h1]
            refine iteT ?_
            have ew := wr_take (d := .tuple (.str wd :: r)) (later := ds.drop (i + 1)) (ar := held) (t := t) h1
            have en : nmD (.tuple (.str wd :: r)) = nm0 (.tuple (.str wd :: r)) := by rw [nlen, if_pos (by rw [h1]; exact take_lk)]
            refine ⟨_, rfl, .inl ⟨rfl, _, SqL.of hl4⟩, ?_⟩
            show tOrV _ _ _ _ _
            refine via (fun v H' => Same H4 H' ∧ v = .bl (isWr (.tuple (.str wd :: r)) (ds.drop (i + 1)) held t)) ?_ fun hQ => ?_
            · rintro v H5 ⟨s5, rfl⟩
              have hl5 := s5 _ _ hl4
              refine ⟨l, _, _, rfl, rfl, hl5, by rw [List.length_map, sizeLine_eq]; omega, ?_⟩
              have sm6 : Same H (upd H5 l (.lst (done.map V.bl ++ [V.bl (isWr (.tuple (.str wd :: r)) (ds.drop (i + 1)) held t)]))) := same_updN nl (sm4.trans s5)
              have ho6 : (upd H5 l (.lst (done.map V.bl ++ [V.bl (isWr (.tuple (.str wd :: r)) (ds.drop (i + 1)) held t)]))) lo = some (.lst (t.map V.str)) := by
                rw [upd_ne (Ne.symm nlo)]
                exact s5 _ _ ho4
              have hl6 : (upd H5 l (.lst (done.map V.bl ++ [V.bl (isWr (.tuple (.str wd :: r)) (ds.drop (i + 1)) held t)]))) l = some (.lst ((done ++ [isWr (.tuple (.str wd :: r)) (ds.drop (i + 1)) held t]).map V.bl)) := by
                rw [upd_same, List.map_append]
                rfl
              generalize upd H5 l (.lst (done.map V.bl ++ [V.bl (isWr (.tuple (.str wd :: r)) (ds.drop (i + 1)) held t)])) = H6 at sm6 ho6 hl6
              refine ⟨_, rfl, _, rfl, by show 1 ≤ sizeLine; decide, fun l2 nl2 => ?_⟩
              have s7 := same_upd (o := HO.lst [V.str (nm0 (.tuple (.str wd :: r)))]) nl2
              refine ⟨lo, l2, _, _, rfl, rfl, s7 _ _ ho6, upd_same, by rw [List.length_map, sizeLine_eq]; show _ + 1 ≤ _; omega, fun l3 nl3 => ?_⟩
              have s8 := same_upd (o := HO.lst (t.map V.str ++ [V.str (nm0 (.tuple (.str wd :: r)))])) nl3
              have s78 := s7.trans s8
              refine name_in (hG _ _ ⟨l3, rfl, sm6.trans s78, ne_new (s7 _ _ hl6) nl3, s78 _ _ hl6, ?_⟩)
              rw [upd_same, show behindD (.tuple (.str wd :: r)) t = t ++ [nmD (.tuple (.str wd :: r))] from if_pos h1, en, List.map_append]
              rfl
            · refine ⟨_, rfl, _, rfl, ?_⟩
              by_cases hw : wr0 (.tuple (.str wd :: r)) (held ++ t) = true
              · rw [hw] at ew
                exact Eq.mpr (if_pos hw) (hQ _ _ ⟨Same.refl _, by rw [ew]; rfl⟩)
              · rw [Bool.eq_false_iff.mpr hw, Bool.false_or] at ew
                refine Eq.mpr (if_neg hw) ?_
                refine ⟨_, rfl, by show 2 ≤ sizeLine; decide, fun y ny => ?_⟩
                have s5 := same_upd (o := HO.tup [V.str "give", V.str (nm0 (.tuple (.str wd :: r)))]) ny
                have hy : TxtT K (upd H4 y (.tup [V.str "give", V.str (nm0 (.tuple (.str wd :: r)))])) (.ref y) ["give", nm0 (.tuple (.str wd :: r))] := ⟨y, rfl, SqT.of upd_same⟩
                refine ⟨_, rfl, _, rfl, _, _, rfl, rfl, _, rfl, ?_⟩
                dsimp only [tNoPart]
                refine tail_tup ((sm4.trans s5).tupS hp) (by omega) fun H6 u2 s6 hu2 => ?_
                have gok : ∀ m ∈ [("give" : Str), nm0 (.tuple (.str wd :: r))], sOk m := fun m hm => by
                  rcases List.mem_cons.mp hm with rfl | hm
                  · exact (by decide +kernel : sOk "give")
                  · rcases List.mem_cons.mp hm with rfl | hm
                    · rw [← en]
                      exact gn (.inl h1)
                    · cases hm
                refine ⟨giveD (nm0 (.tuple (.str wd :: r))), ds.drop (i + 1), (hy.same s6).dp, .tup hu2 ((dp_drop (i + 1) ha).same (s0.trans (sm4.trans (s5.trans s6)))), txtD_shaped gok, fits_shaped (fits_drop (i + 1) ft) hn, ?_⟩
                exact hQ _ _ ⟨s5.trans s6, by rw [ew]⟩
          · rw [decide_eq_false h1]
            refine iteF ?_
            refine ⟨_, rfl, px, _, _, _, rfl, rfl, hpx4, at0, rfl, _, rfl, ?_⟩
            rw [Rw.dec_str]
            by_cases h2 : wd = "give"
            · rw [decide_eq_true h2]
              refine iteT ?_
              have en : nmD (.tuple (.str wd :: r)) = nm0 (.tuple (.str wd :: r)) := by rw [nlen, if_pos (by rw [h2]; exact give_lk)]
              have ew : isWr (.tuple (.str wd :: r)) (ds.drop (i + 1)) held t = !decide (t.drop (t.length - 1) = [nmD (.tuple (.str wd :: r))]) := by
                exact if_pos h2
              refine ⟨_, rfl, .inl ⟨rfl, _, SqL.of hl4⟩, ?_⟩
              show tOrV _ _ _ _ _
              refine via (fun v H' => Same H4 H' ∧ v = .bl (isWr (.tuple (.str wd :: r)) (ds.drop (i + 1)) held t)) ?_ fun hQ => ?_
              · rintro v H5 ⟨s5, rfl⟩
                have hl5 := s5 _ _ hl4
                refine ⟨l, _, _, rfl, rfl, hl5, by rw [List.length_map, sizeLine_eq]; omega, ?_⟩
                have sm6 : Same H (upd H5 l (.lst (done.map V.bl ++ [V.bl (isWr (.tuple (.str wd :: r)) (ds.drop (i + 1)) held t)]))) := same_updN nl (sm4.trans s5)
                have ho6 : (upd H5 l (.lst (done.map V.bl ++ [V.bl (isWr (.tuple (.str wd :: r)) (ds.drop (i + 1)) held t)]))) lo = some (.lst (t.map V.str)) := by
                  rw [upd_ne (Ne.symm nlo)]
                  exact s5 _ _ ho4
                have hl6 : (upd H5 l (.lst (done.map V.bl ++ [V.bl (isWr (.tuple (.str wd :: r)) (ds.drop (i + 1)) held t)]))) l = some (.lst ((done ++ [isWr (.tuple (.str wd :: r)) (ds.drop (i + 1)) held t]).map V.bl)) := by
                  rw [upd_same, List.map_append]
                  rfl
                generalize upd H5 l (.lst (done.map V.bl ++ [V.bl (isWr (.tuple (.str wd :: r)) (ds.drop (i + 1)) held t)])) = H6 at sm6 ho6 hl6
                refine ⟨_, rfl, _, rfl, _, rfl, lo, _, rfl, SqL.of ho6, fun l3 nl3 => ?_⟩
                have s8 := same_upd (o := HO.lst (cutV (t.map V.str) none (some (-1)))) nl3
                refine name_in (hG _ _ ⟨l3, rfl, sm6.trans s8, ne_new hl6 nl3, s8 _ _ hl6, ?_⟩)
                rw [upd_same, show behindD (.tuple (.str wd :: r)) t = t.dropLast from (if_neg h1).trans (if_pos h2), cut_m1, List.map_dropLast]
              · refine ⟨_, rfl, Nat.zero_le _, fun l2 nl2 => ?_⟩
                have s5 := same_upd (o := HO.lst []) nl2
                refine ⟨.list (t.map PyData.str), .list [], .lst (SqL.of (s5 _ _ ho4)) (dp_txts _), .lst (SqL.of upd_same) .nil, listD_shaped fun n hn => (tok n hn).1, nilL_shaped, _, rfl, ?_⟩
                rw [eqv_nilL]
                cases t with
                | nil => exact iteT (hQ _ _ ⟨s5, by rw [ew]; rfl⟩)
                | cons t0 tr =>
                  refine iteF ?_
                  have tne : (t0 :: tr) ≠ [] := List.cons_ne_nil _ _
                  refine ⟨_, rfl, _, rfl, lo, _, _, _, rfl, rfl, SqL.of (s5 _ _ ho4), last_m1 tne, _, rfl, rfl, ?_⟩
                  refine hQ _ _ ⟨s5, ?_⟩
                  rw [ew, drop_last tne, en]
                  rw [Rw.dec_str]
                  congr 2
                  exact decide_eq_decide.mpr ⟨fun h => by rw [h], fun h => (List.cons.inj h).1⟩
            · rw [decide_eq_false h2]
              refine iteF ?_
              have ew := wr_other (d := .tuple (.str wd :: r)) (later := ds.drop (i + 1)) (ar := held) (t := t) h1 h2 (fun n hn => (List.mem_append.mp hn).elim (hne n) fun h => (tok n h).2)
              refine ⟨_, rfl, .inl ⟨rfl, _, SqL.of hl4⟩, _, rfl, l, _, _, rfl, rfl, hl4, by rw [List.length_map, sizeLine_eq]; omega, ?_⟩
              refine hG _ _ ⟨lo, rfl, same_updN nl sm4, nlo, ?_, ?_⟩
              · rw [upd_same, List.map_append, ew]
                rfl
              · rw [upd_ne (Ne.symm nlo), ho4]
                rw [show behindD (.tuple (.str wd :: r)) t = t from (if_neg h1).trans (if_neg h2)]
      · rintro σ H1 ⟨l, lo, done, t, v4, v5, v6, v7, v8, rfl, sm, nl, nlo, hl, ho, tok, e, hlz⟩
        rw [len, List.drop_length, wl, List.append_nil] at e
        rw [e] at hl
        exact ⟨_, rfl, q H1 l sm nl hl⟩
end
end Tr

/-! P14 -/
/-! ### what the law expects of a list -/
namespace Rw
open PySem PySem.Spec PyProof.Rows L2
def natsV (ns : List Nat) : List V := ns.map fun n => V.int (n : Nat)
def natsD (ns : List Nat) : List PyData := ns.map fun n => PyData.int (n : Nat)
theorem dp_nats {K : PySem.W.Frag} {H : Hp} : ∀ ns : List Nat, DpAll K H (natsV ns) (natsD ns)
  | [] => .nil
  | n :: ns => .cons (.int _) (dp_nats ns)
theorem nats_lay : ∀ ns : List Nat, PyData.canLayAll0 (natsD ns) = true ∧ PyData.depthAll (natsD ns) = 0
  | [] => ⟨rfl, rfl⟩
  | n :: ns => by
    obtain ⟨a, b⟩ := nats_lay ns
    refine ⟨?_, ?_⟩
    · show (PyData.canLay0 (.int n) && PyData.canLayAll0 (natsD ns)) = true
      rw [a]
      rfl
    · show max (PyData.depth (.int n)) (PyData.depthAll (natsD ns)) = 0
      rw [b, show PyData.depth (.int n) = 0 by simp only [PyData.depth]]
      rfl
theorem nats_shaped (ns : List Nat) : SeqAt.shaped (.list (natsD ns)) = true := by
  obtain ⟨a, b⟩ := nats_lay ns
  refine shaped_of (by simp only [PyData.canLay0]; exact a) ?_
  simp only [PyData.depth]
  omega
theorem eqv_nats_nil (ns : List Nat) : PyData.eqv (.list (natsD ns)) (.list (natsD [])) = decide (ns = []) := by
  rw [show PyData.eqv (.list (natsD ns)) (.list (natsD [])) = PyData.eqvAll (natsD ns) (natsD []) by simp only [PyData.eqv]]
  cases ns with
  | nil => rfl
  | cons n ns => rw [decide_eq_false (List.cons_ne_nil _ _)]; rfl
section
variable {P : Program} {w : World} {K : PySem.W.Frag} {mg : Str → Option Value} {base : Heap}
end
end Rw

/-! ### what the law expects of a body -/
namespace Tr
open PySem PySem.Spec PyProof.Rows L2 Rw
def TopD (K : PySem.W.Frag) (H : Hp) (v : V) (o : Option D) (n : Nat) : Prop := match o with
  | some d => Dp K H v d ∧ FitD n d
  | none => TyX K H v (.type "dict")
theorem TopD.same {K : PySem.W.Frag} {H H' : Hp} (s : Same H H') {v : V} {o : Option D} {n : Nat} (h : TopD K H v o n) : TopD K H' v o n := by
  cases o with
  | none => exact TyX_same s h
  | some d => exact ⟨h.1.same s, h.2⟩
def faultO : Option D → Option V
  | some d => faultB d
  | none => some .non
def shownR : V → Str
  | .int i => (PyData.int i).shown
  | _ => "None"
/-- what the law's two looks tell -/
def dueD : Option V → D
  | none => .str "body"
  | some r => .list [.str "none", .str (shownR r)]
theorem sOk_text (s : String) : sOk (Str.ofString s) := by
  show PyData.strOk (Str.ofString s) = true
  rw [Str.ofString_eq_toList]
  unfold PyData.strOk
  rw [Array.all_eq_true]
  intro i hi
  simp only [List.getElem_toArray, List.getElem_map, decide_eq_true_eq]
  generalize s.toList[i]'_ = c
  have h := c.valid
  have e : c.toNat = c.val.toNat := rfl
  rw [e]
  rcases h with h | h
  · omega
  · exact h.2
theorem shownR_ok (r : V) : sOk (shownR r) := by
  cases r with
  | int i =>
    rw [show shownR (.int i) = (PyData.int i).shown from rfl, PyData.shown_int]
    exact sOk_text _
  | _ => exact sOk_text _
/-- the places that were found, up to i -/
def FirstI (bl : List Bool) (i : Nat) (bs : List Nat) : Prop := bs.length ≤ i ∧ ((bs = [] ∧ ∀ j, j < i → bl[j]? = some false) ∨ ∃ b r, bs = b :: r ∧ bl.findIdx? id = some b)
theorem FirstI.start (bl : List Bool) : FirstI bl 0 [] := ⟨Nat.le_refl _, .inl ⟨rfl, fun j hj => absurd hj (Nat.not_lt_zero j)⟩⟩
theorem FirstI.no {bl : List Bool} {i : Nat} {bs : List Nat} (h : FirstI bl i bs) (e : bl[i]? = some false) : FirstI bl (i + 1) bs := by
  obtain ⟨l, h | h⟩ := h
  · refine ⟨by omega, .inl ⟨h.1, fun j hj => ?_⟩⟩
    by_cases z : j = i
    · rw [z]; exact e
    · exact h.2 j (by omega)
  · exact ⟨by omega, .inr h⟩
theorem FirstI.yes {bl : List Bool} {i : Nat} {bs : List Nat} (h : FirstI bl i bs) (e : bl[i]? = some true) : FirstI bl (i + 1) (bs ++ [i]) := by
  obtain ⟨l, h | ⟨b, r, h1, h2⟩⟩ := h
  · obtain ⟨h1, h2⟩ := h
    subst h1
    refine ⟨by show 0 + 1 ≤ i + 1; omega, .inr ⟨i, [], rfl, ?_⟩⟩
    rw [List.findIdx?_eq_some_iff_getElem]
    obtain ⟨hi, he⟩ := List.getElem?_eq_some_iff.mp e
    refine ⟨hi, by rw [he]; rfl, fun j hj => ?_⟩
    obtain ⟨hj2, he2⟩ := List.getElem?_eq_some_iff.mp (h2 j hj)
    rw [he2]
    exact Bool.false_ne_true
  · refine ⟨by rw [List.length_append]; show _ + 1 ≤ _; omega, .inr ⟨b, r ++ [i], by rw [h1]; rfl, h2⟩⟩
theorem FirstI.done {bl : List Bool} {bs : List Nat} (h : FirstI bl bl.length bs) : (bs = [] ∧ bl.findIdx? id = none) ∨ ∃ b r, bs = b :: r ∧ bl.findIdx? id = some b := by
  obtain ⟨_, h | h⟩ := h
  · refine .inl ⟨h.1, ?_⟩
    rw [List.findIdx?_eq_none_iff]
    intro x hx
    obtain ⟨j, hj⟩ := List.getElem?_of_mem hx
    have hj2 := (List.getElem?_eq_some_iff.mp hj).1
    have z := h.2 j hj2
    rw [hj] at z
    exact Option.some.inj z
  · exact .inr h
theorem lk_of {d : D} {a : Nat} (h : shaped d a = true) : LkOk d := by
  refine ⟨br_of d a h, fun hw => ?_⟩
  obtain ⟨wd, r, rfl, b1, b2, b3⟩ := br_of d a h
  rw [shaped_lform, lform_eq] at h
  simp only [Bool.and_eq_true, Bool.or_eq_true] at h
  have hw' : wd ∈ lk3 := hw
  obtain ⟨n, r', rfl⟩ := b3 (lk3_iff.mp hw')
  have nu : ¬ wd ∈ uc2 := fun hu => by
    rcases uc_iff.mp hu with rfl | rfl
    · exact absurd hw' (by decide +kernel)
    · exact absurd hw' (by decide +kernel)
  have h2 := h.1.2
  rw [decide_eq_false nu] at h2
  rcases h2 with h2 | h2
  · cases h2
  · intro e
    have e2 : n = "" := e
    rw [show headD0 (.str n :: r') = .str n from rfl, e2] at h2
    exact absurd h2 (by decide +kernel)
theorem lnum_fit_aux (N : Nat) : ∀ (ds : List D) (a n : Nat), sizeOf ds < N → Fits n ds → ∀ p ∈ lnum ds a, FitD n p.1 := by
  induction N with
  | zero => exact fun _ _ _ h => absurd h (by omega)
  | succ N ih =>
    intro ds a n h ft p hp
    cases ds with
    | nil => rw [lnum] at hp; cases hp
    | cons d ds =>
      simp at h
      rw [lnum] at hp
      rcases List.mem_cons.mp hp with rfl | hp
      · exact ft.head
      · rcases List.mem_append.mp hp with hp | hp
        · split at hp
          · rw [lnumk_kids] at hp
            obtain ⟨x, hx, hp⟩ := List.mem_flatMap.mp hp
            obtain ⟨m, rfl⟩ : ∃ m, n = m + 1 := ⟨n - 1, by have := ft.head.pos; omega⟩
            have fx := kid_fit ft.head hx
            have sx : sizeOf x < sizeOf d := by
              unfold kids at hx
              cases hf : forkOf d with
              | none => rw [hf] at hx; cases hx
              | some pr =>
                obtain ⟨y, z⟩ := pr
                rw [hf] at hx
                obtain ⟨_, _, _, _, s1, s2⟩ := fork_some hf
                simp only [List.mem_cons, List.not_mem_nil, or_false] at hx
                rcases hx with rfl | rfl
                · exact s1
                · exact s2
            exact (ih x (a + 1) m (by omega) fx p hp).mono (Nat.le_succ _)
          · cases hp
        · exact ih ds a n (by omega) ft.tail p hp
theorem lnum_fit {ds : List D} {a n : Nat} (ft : Fits n ds) {p : D × Nat} (hp : p ∈ lnum ds a) : FitD n p.1 := lnum_fit_aux _ ds a n (Nat.lt_succ_self _) ft p hp
theorem shown_nat (b : Nat) (h : b ≤ 60000) : (PyData.int (b : Nat)).showable = true ∧ (PyData.int (b : Nat)).shown.length ≤ sizeLine := by
  have e : ((b : Nat) : Int).natAbs < 10 ^ 12 := by
    have : (10 : Nat) ^ 12 = 1000000000000 := by decide
    omega
  refine ⟨?_, Nat.le_trans (PyData.shown_int_le e) (by rw [sizeLine_eq]; omega)⟩
  rw [PyData.showable]
  refine decide_eq_true ?_
  have h2 : ((b : Nat) : Int).natAbs = b := Int.natAbs_natCast b
  rw [h2]
  by_cases h0 : b = 0
  · subst h0
    decide
  · rw [Nat.log2_lt h0]
    exact Nat.lt_of_le_of_lt h (Nat.lt_of_lt_of_le (by decide : 60000 < 2 ^ 16) (Nat.pow_le_pow_right (by decide) (by decide)))
theorem rr_nat {K : PySem.W.Frag} {H : Hp} {b : Nat} {Q : VK} (h : b ≤ 60000) (q : Q (.str (PyData.int (b : Nat)).shown) H) : rReprD K [.int (b : Nat)] H Q :=
  ⟨_, .int (b : Nat), rfl, .int _, .inl (by simp only [PyData.hasDict]), (shown_nat b h).1, by simp only [PyData.depth]; omega, (shown_nat b h).2, q⟩
def spDue (K : PySem.W.Frag) (n : Nat) : Sp := fun vs H Q _ => ∃ (v : V) (o : Option D), vs = [v] ∧ TopD K H v o n ∧ (∀ d, o = some d → cntD d ≤ 800) ∧ ∀ H' r, Same H H' → Dp K H' r (dueD (faultO o)) → Q r H'
theorem dict_tup {K : PySem.W.Frag} : PySem.W.kitOne K (.type "dict") (.type "tuple") = some false := kit_ty (by decide +kernel)
section
variable {P : Program} {w : World} {K : PySem.W.Frag} {mg : Str → Option Value} {base : Heap}
abbrev sDu : Stmt := top 55
theorem scDu : FnScope ["_law_items", "_law_some_here", "_law_bad", "_law_wrong", "_law_number", "_law_item", "_law_deep", "_law_fault"] ["_law_items"] (defScope sDu) := ⟨rfl, rfl, rfl, by decide +kernel, rfl, by decide +kernel, by decide +kernel⟩
theorem ok_du {f fM fF fN : Addr} {fd fdM fdF fdN : FuncData} (F : Fun K "_law_due" "_law_due" sDu f fd) (TM : Called K mg "_law_numbered" ["_law_items", "_law_deep"] fM fdM) (TF : Called K mg "_law_is_form" ["_law_thing", "_law_deep"] fF fdF) (TN : Called K mg "_law_turns" ["_law_items", "_law_held"] fN fdN) (n : Nat) (hn : n + 1 ≤ 40)
    (GM : FnOk P w K mg base CX0 (2 * n + 4) fM fdM ["_law_items", "_law_deep"] (spNb K n)) (GF : FnOk P w K mg base CX0 (2 * n + 3) fF fdF ["_law_thing", "_law_deep"] (spFm K n)) (GN : FnOk P w K mg base CX0 (n + 2) fN fdN ["_law_items", "_law_held"] (spTn K n))
    (m_isinstance : mg "isinstance" = none) (m_tuple : mg "tuple" = none) (m_len : mg "len" = none) (m_enumerate : mg "enumerate" = none) (m_repr : mg "repr" = none) : FnOkG P w K mg base CX0 (2 * n + 5) f fd ["_law_items"] (spDue K (n + 1)) := by
  refine F.okG scDu (fun vs H Q E h => ?_) (fun cdv A outer s H vs Q E hgd hr h => ?_)
  · obtain ⟨v, o, rfl, _⟩ := h
    rfl
  · obtain ⟨v, o, rfl, hv, hc, q⟩ := h
    refine ⟨_, (pss_cons (ps_if (PW.pt (pw_or (pt_not (pt_val (pe_callB (call_isiKK (K := K) rfl) (by rfl) m_isinstance (by decide +kernel) (pa_cons (pv 0) (pa_cons (pe_bltn (v := .ty "tuple") (by rfl) m_tuple (by decide +kernel) rfl) pa_nil))))) (pw_or1 (pt_cmpR (Nm.op_eqDK (K := K) rfl hr.units) (pv 0) (pe_tup pa_nil) (nomark _)))))
       (pss_one (ps_ret (pe_lst (pa_cons pe_str (pa_cons pe_str pa_nil)))))
       pss_nil)
       (pss_cons (ps_set (i := 1) scDu.nd rfl (.inl rfl) (pe_call GM (hr.mono (by first | decide | omega)) rfl TM.1 TM.2.1 TM.2.2 .nil pass0 (pa_cons (pv 0) (pa_cons pe_int pa_nil))))
       (pss_cons (ps_setLc (i := 2) (own := [("_law_number", 4), ("_law_item", 5), ("_law_deep", 6)]) (g := gTup K 2 (gCons (gName 4) (gCons (gTup K 2 (gCons (gName 5) (gCons (gName 6) gNil))) gNil)))  (by rfl) scDu.nd rfl rfl (sw_true rfl rfl rfl (by decide +kernel)) (pi_enum (by rfl) m_enumerate (pa_cons (pv 1) pa_nil)) (blkOk_by (own := [("_law_number", 4), ("_law_item", 5), ("_law_deep", 6)]) (N := ["_law_items", "_law_some_here", "_law_bad", "_law_wrong", "_law_number", "_law_item", "_law_deep", "_law_fault"]) (sc := defScope sDu) (by decide +kernel)) (fun _ _ _ _ _ => (pg_tup rfl (pgs_cons (pg_name (i := 4) scDu.nd rfl (Or.inl rfl)) (pgs_cons (pg_tup rfl (pgs_cons (pg_name (i := 5) scDu.nd rfl (Or.inl rfl)) (pgs_cons (pg_name (i := 6) scDu.nd rfl (Or.inl rfl)) pgs_nil))) pgs_nil)))) (fun _ _ _ _ _ => (pts_one (pt_not (pt_val (pe_call GF (hr.mono (by first | decide | omega)) rfl TF.1 TF.2.1 TF.2.2 .nil pass0 (pa_cons (pv 5) (pa_cons (pv 6) pa_nil))))))) (fun _ _ _ _ _ => (pv 4)))
       (pss_cons (ps_if (PW.pt (pw_or (pt_cmpR (Nm.op_neDK (K := K) rfl hr.units) (pv 2) (pe_lst pa_nil) (nomark _)) (pw_or1 (pt_cmpR op_gt (pe_callB (call_len_K (K := K) rfl) (by rfl) m_len PySem.boot_len (pa_cons (pv 1) pa_nil)) pe_int (nomark _)))))
       (pss_one (ps_ret (pe_lst (pa_cons pe_str (pa_cons (pe_ifExp (pt_cmpR (Nm.op_neDK (K := K) rfl hr.units) (pv 2) (pe_lst pa_nil) (nomark _))
       (pe_callB (call_reprDK (K := K) rfl hgd hr.units) (by rfl) m_repr (by decide +kernel) (pa_cons (pe_ix (ix_listK (K := K) rfl) (pv 2) pe_int (fun _ _ => rfl)) pa_nil))
       pe_str) pa_nil)))))
       pss_nil)
       (pss_cons (ps_setLc (i := 3) (own := [("_law_number", 4), ("_law_fault", 7)]) (g := gTup K 2 (gCons (gName 4) (gCons (gName 7) gNil)))  (by rfl) scDu.nd rfl rfl (sw_true rfl rfl rfl (by decide +kernel)) (pi_enum (by rfl) m_enumerate (pa_cons (pe_call GN (hr.mono (by first | decide | omega)) rfl TN.1 TN.2.1 TN.2.2 .nil pass0 (pa_cons (pv 0) (pa_cons (pe_lst pa_nil) pa_nil))) pa_nil)) (blkOk_by (own := [("_law_number", 4), ("_law_fault", 7)]) (N := ["_law_items", "_law_some_here", "_law_bad", "_law_wrong", "_law_number", "_law_item", "_law_deep", "_law_fault"]) (sc := defScope sDu) (by decide +kernel)) (fun _ _ _ _ _ => (pg_tup rfl (pgs_cons (pg_name (i := 4) scDu.nd rfl (Or.inl rfl)) (pgs_cons (pg_name (i := 7) scDu.nd rfl (Or.inl rfl)) pgs_nil)))) (fun _ _ _ _ _ => (pts_one (pt_val (pv 7)))) (fun _ _ _ _ _ => (pv 4)))
       (pss_one (ps_ret (pe_ifExp (pt_cmpR (Nm.op_eqDK (K := K) rfl hr.units) (pv 3) (pe_lst pa_nil) (nomark _))
       pe_str
       (pe_lst (pa_cons pe_str (pa_cons (pe_callB (call_reprDK (K := K) rfl hgd hr.units) (by rfl) m_repr (by decide +kernel) (pa_cons (pe_ix (ix_listK (K := K) rfl) (pv 3) pe_int (fun _ _ => rfl)) pa_nil)) pa_nil))))))))))), ?_⟩
    have nope : faultO o = some .non → ∀ H1, Same H H1 → tLst (tCons (tC (.str "none")) (tCons (tC (.str "None")) tNil)) (L2.start ["_law_items", "_law_some_here", "_law_bad", "_law_wrong", "_law_number", "_law_item", "_law_deep", "_law_fault"] [v]) H1 Q := fun e H1 s1 => by
      refine ⟨by show 2 ≤ sizeLine; decide, fun l nl => ?_⟩
      refine q _ _ (s1.trans (same_upd nl)) ?_
      rw [e]
      exact .lst (SqL.of upd_same) (.cons (.str _) (.cons (.str _) .nil))
    cases o with
    | none =>
      refine ⟨_, rfl, _, _, _, _, _, rfl, .ty _, hv, dict_tup, _, rfl, ?_⟩
      exact iteT (iteT (nope rfl H (Same.refl H)))
    | some d =>
    obtain ⟨hd, ft⟩ := hv
    have hc := hc d rfl
    refine ⟨_, rfl, _, _, _, _, _, rfl, .ty _, dp_ty hd, kit_tup d, _, rfl, ?_⟩
    cases htp : isTup d with
    | false =>
      have e : faultO (some d) = some .non := by
        cases d with
        | tuple _ => cases htp
        | _ => rfl
      exact iteT (iteT (nope e H (Same.refl H)))
    | true =>
      refine iteF ?_
      obtain ⟨ds, rfl⟩ := tup_of htp
      refine ⟨_, rfl, Nat.zero_le _, fun e ne => ?_⟩
      have s1 := same_upd (o := HO.tup []) ne
      have hd1 := hd.same s1
      refine ⟨_, _, hd1, .tup (SqT.of upd_same) .nil, ft.shaped hn, nilT_shaped, _, rfl, ?_⟩
      rw [eqv_nilT]
      generalize upd H e (.tup []) = H1 at s1 hd1
      rw [show faultO (some (.tuple ds)) = faultL ds from rfl] at q nope
      cases hd with
      | @tup p xs _ hp0 ha =>
      cases he : ds.isEmpty with
      | true =>
        exact iteT (nope (by unfold faultL; rw [he]; rfl) H1 s1)
      | false =>
        refine iteF ?_
        have hp := s1.tupS hp0
        have len := dpl ha
        have fin := ft.inside
        rw [cntD] at hc
        unfold faultL at q
        rw [he, if_neg Bool.false_ne_true] at q
        dsimp only [tNext]
        refine ⟨_, rfl, H, p, xs, ds, 0, rfl, s1, hp, ha, fin, fun H2 l ys s2 nl hl hy => ?_⟩
        have s12 := s1.trans s2
        have ly := hy.length
        have lz := lnum_len ds 0
        have ml := misl_lnum ds 0
        refine name_in ?_
        dsimp only
        have yl : ys.length = (misl ds 0).length := by rw [ml, List.length_map, ly]
        have ml2 := misl_cnt ds 0
        refine seqS_in ?_
        refine ⟨_, rfl, l, ys, rfl, SqL.of hl, fun D nD => lc_enum (K := K) (a := l) (xs := ys) (fun i H' => Same H2 H' ∧ ∃ bs : List Nat, H' D = some (.lst (natsV bs)) ∧ FirstI (misl ds 0) i bs) ⟨same_upd nD, [], upd_same, FirstI.start _⟩ (fun i H' _ h => h.1.seq (SqL.of hl)) ?_ ?_⟩
        · rintro i x H3 T1 hxi ⟨s3, bs, hD, fb⟩ nT
          obtain ⟨⟨d, a⟩, hr1, pt, x1, rfl, hpt, hx1⟩ := hy.get hxi
          have u0 := same_upd (o := .tup [.int (i : Nat), .ref pt]) nT
          have s30 := s3.trans u0
          have hi : i < ys.length := (List.getElem?_eq_some_iff.mp hxi).1
          have bi : (misl ds 0)[i]? = some (!lform d a) := by rw [ml, List.getElem?_map, hr1]; rfl
          refine ⟨T1, _, rfl, SqT.of upd_same, rfl, _, _, rfl, _, _, rfl, pt, _, rfl, s30.tupS hpt, rfl, _, _, rfl, _, _, rfl, rfl, rfl, rfl, ?_⟩
          refine ⟨_, rfl, _, rfl, x1, d, a, rfl, hx1.same (s12.trans s30), lnum_fit fin (List.mem_of_getElem? hr1), fun H4 s4 => ⟨_, rfl, ?_⟩⟩
          have sm := s30.trans s4
          have hD4 := s4 _ _ (u0 _ _ hD)
          cases hf : lform d a with
          | true =>
            rw [hf] at bi
            exact iteF ⟨sm, bs, hD4, fb.no bi⟩
          | false =>
            rw [hf] at bi
            refine iteT ⟨_, rfl, _, hD4, ?_, same_updN nD sm, bs ++ [i], ?_, fb.yes bi⟩
            · have := fb.1
              unfold natsV
              rw [List.length_map, sizeLine_eq]
              omega
            · rw [upd_same]
              unfold natsV
              rw [List.map_append]
              rfl
        · rintro H3 ⟨s3, bs, hD, fb⟩
          rw [yl] at fb
          have dn := fb.done
          have s13 := s12.trans s3
          try dsimp only
          have hb6 : bs.length ≤ 60000 := by
            have := fb.1
            omega
          refine seqS_in ?_
          refine ⟨_, rfl, Nat.zero_le _, fun e ne => ?_⟩
          have s4 := same_upd (o := HO.lst []) ne
          refine ⟨.list (natsD bs), .list [], .lst (SqL.of (s4 _ _ hD)) (dp_nats bs), .lst (SqL.of upd_same) .nil, nats_shaped bs, nilL_shaped, _, rfl, ?_⟩
          rw [eqv_nilL]
          have s34 := s3.trans s4
          have s14 := s13.trans s4
          have hD4 := s4 _ _ hD
          generalize upd H3 e (.lst []) = H4 at s4 s34 s14 hD4
          rcases dn with ⟨rfl, hfi⟩ | ⟨b, r, rfl, hfi⟩
          · rw [hfi] at q
            refine iteF ?_
            have hcf := find_none hfi
            have lf := lnum_flat hcf
            have lfl : ys.length = (flat ds).length := by
              rw [← lf, List.length_map, ly]
            refine ⟨_, rfl, l, _, rfl, .inl (SqL.of (s34 _ _ hl)), _, _, rfl, rfl, _, rfl, ?_⟩
            rw [lfl]
            by_cases h8 : 8 < (flat ds).length
            · rw [decide_eq_true (show ((flat ds).length : Int) > 8 by omega)]
              dsimp only at q
              rw [if_pos h8] at q
              refine iteT ?_
              refine ⟨_, rfl, Nat.zero_le _, fun e ne => ?_⟩
              have s5 := same_upd (o := HO.lst []) ne
              refine ⟨.list (natsD []), .list [], .lst (SqL.of (s5 _ _ hD4)) (dp_nats []), .lst (SqL.of upd_same) .nil, nats_shaped [], nilL_shaped, _, rfl, ?_⟩
              rw [eqv_nilL]
              refine iteF ?_
              refine ⟨by show 2 ≤ sizeLine; decide, fun lr nr => ?_⟩
              exact q _ _ ((s14.trans s5).trans (same_upd nr)) (.lst (SqL.of upd_same) (.cons (.str _) (.cons (.str _) .nil)))
            · rw [decide_eq_false (show ¬ ((flat ds).length : Int) > 8 by omega)]
              dsimp only at q
              rw [if_neg h8] at q
              refine iteF ?_
              dsimp only [tNext]
              refine seqS_in ?_
              have brk : ∀ d ∈ flat ds, LkOk d := fun d hd => by
                obtain ⟨a', ha'⟩ := (br_flat hcf d hd).2
                exact lk_of ha'
              refine ⟨_, rfl, Nat.zero_le _, fun lh nlh => ?_⟩
              have s5 := same_upd (o := HO.lst []) nlh
              have s15 := s14.trans s5
              refine ⟨H, p, lh, xs, ds, [], rfl, s15, s15.tupS hp0, ha, fin, brk, upd_same, (fun n hn => nomatch hn), by rw [List.length_nil]; omega, fun H6 lt s6 nt6 ht6 => ?_⟩
              have s16 := s15.trans s6
              have wlen := wl_len ds [] []
              refine ⟨lt, _, rfl, SqL.of ht6, fun D nD => lc_enum (K := K) (a := lt) (xs := (wl ds [] []).map V.bl) (fun i H' => Same H6 H' ∧ ∃ bs : List Nat, H' D = some (.lst (natsV bs)) ∧ FirstI (wl ds [] []) i bs) ⟨same_upd nD, [], upd_same, FirstI.start _⟩ (fun i H' _ h => h.1.seq (SqL.of ht6)) ?_ ?_⟩
              · rintro i x H7 T1 hxi ⟨s7, bs, hD, fb⟩ nT
                obtain ⟨b, hb, rfl⟩ : ∃ b, (wl ds [] [])[i]? = some b ∧ x = V.bl b := by
                  rw [List.getElem?_map] at hxi
                  cases e : (wl ds [] [])[i]? with
                  | none => rw [e] at hxi; cases hxi
                  | some z => rw [e] at hxi; exact ⟨z, rfl, (Option.some.inj hxi).symm⟩
                have u0 := same_upd (o := .tup [.int (i : Nat), .bl b]) nT
                have sm := s7.trans u0
                have hD4 := u0 _ _ hD
                have hi : i < (wl ds [] []).length := (List.getElem?_eq_some_iff.mp hb).1
                refine ⟨T1, _, rfl, SqT.of upd_same, rfl, _, _, rfl, _, _, rfl, rfl, rfl, _, rfl, _, rfl, ?_⟩
                cases b with
                | false => exact iteF ⟨sm, bs, hD4, fb.no hb⟩
                | true =>
                  refine iteT ⟨_, rfl, _, hD4, ?_, same_updN nD sm, bs ++ [i], ?_, fb.yes hb⟩
                  · have := fb.1
                    unfold natsV
                    rw [List.length_map, sizeLine_eq]
                    omega
                  · rw [upd_same]
                    unfold natsV
                    rw [List.map_append]
                    rfl
              · rintro H7 ⟨s7, bs, hD, fb⟩
                rw [List.length_map] at fb
                have dn := fb.done
                have s17 := s16.trans s7
                try dsimp only
                refine ⟨_, rfl, Nat.zero_le _, fun e ne => ?_⟩
                have s8 := same_upd (o := HO.lst []) ne
                refine ⟨.list (natsD bs), .list [], .lst (SqL.of (s8 _ _ hD)) (dp_nats bs), .lst (SqL.of upd_same) .nil, nats_shaped bs, nilL_shaped, _, rfl, ?_⟩
                rw [eqv_nilL]
                have s18 := s17.trans s8
                have hD8 := s8 _ _ hD
                rcases dn with ⟨rfl, hfi⟩ | ⟨b, r, rfl, hfi⟩
                · rw [hfi] at q
                  exact iteT (q _ _ s18 (.str _))
                · rw [hfi] at q
                  refine iteF ?_
                  have hb : b ≤ 60000 := by
                    obtain ⟨z, _⟩ := List.findIdx?_eq_some_iff_getElem.mp hfi
                    omega
                  refine ⟨_, rfl, _, _, _, _, rfl, rfl, SqL.of hD8, at0, ?_⟩
                  dsimp only [tNil]
                  refine rr_nat hb ?_
                  refine ⟨by show 2 ≤ sizeLine; decide, fun lr nr => ?_⟩
                  exact q _ _ (s18.trans (same_upd nr)) (.lst (SqL.of upd_same) (.cons (.str _) (.cons (.str _) .nil)))
          · rw [hfi] at q
            refine iteT (iteT ?_)
            have hb : b ≤ 60000 := by
              obtain ⟨z, _⟩ := List.findIdx?_eq_some_iff_getElem.mp hfi
              omega
            refine ⟨_, rfl, Nat.zero_le _, fun e ne => ?_⟩
            have s5 := same_upd (o := HO.lst []) ne
            refine ⟨.list (natsD (b :: r)), .list [], .lst (SqL.of (s5 _ _ hD4)) (dp_nats _), .lst (SqL.of upd_same) .nil, nats_shaped _, nilL_shaped, _, rfl, ?_⟩
            rw [eqv_nilL]
            refine iteT ?_
            refine ⟨_, rfl, _, _, _, _, rfl, rfl, SqL.of (s5 _ _ hD4), at0, ?_⟩
            dsimp only [tNil]
            refine rr_nat hb ?_
            refine ⟨by show 2 ≤ sizeLine; decide, fun lr nr => ?_⟩
            exact q _ _ ((s14.trans s5).trans (same_upd nr)) (.lst (SqL.of upd_same) (.cons (.str _) (.cons (.str _) .nil)))
end
end Tr

/-! P15 -/
/-! ### Body made; what the law hears -/
namespace L2
open PySem PySem.Spec PyProof.Rows
theorem fnok_or {P : Program} {w : World} {K : PySem.W.Frag} {mg : Str → Option Value} {base : Heap} {CX : CXT} {k : Nat} {f : Addr} {fd : FuncData} {ps : List Str} {sp sq : Sp} (a : FnOk P w K mg base CX k f fd ps sp) (b : FnOk P w K mg base CX k f fd ps sq) : FnOk P w K mg base CX k f fd ps (fun vs H Q E => sp vs H Q E ∨ sq vs H Q E) :=
  ⟨fun vs H Q E h => h.elim (a.len vs H Q E) (b.len vs H Q E), fun A outer s H args us vs Q E hr e0 hb r h => h.elim (a.run A outer s H args us vs Q E hr e0 hb r) (b.run A outer s H args us vs Q E hr e0 hb r)⟩
theorem fnok_of {P : Program} {w : World} {K : PySem.W.Frag} {mg : Str → Option Value} {base : Heap} {CX : CXT} {k : Nat} {f : Addr} {fd : FuncData} {ps : List Str} {sp sq : Sp} (a : FnOk P w K mg base CX k f fd ps sp) (m : ∀ vs H Q E, sq vs H Q E → sp vs H Q E) : FnOk P w K mg base CX k f fd ps sq :=
  ⟨fun vs H Q E h => a.len vs H Q E (m vs H Q E h), fun A outer s H args us vs Q E hr e0 hb r h => a.run A outer s H args us vs Q E hr e0 hb r (m vs H Q E h)⟩
/-- an instance made within a try -/
def tMakeT (C : Addr) (sp : Sp) (E : L2.St → XK) (t : TA) : TE := fun σ H Q => t σ H fun vs H1 => ∀ x dx, H1 x = none → H1 dx = none → dx ≠ x → sp (.ref x :: (vs ++ [])) (upd (upd H1 dx (.own x)) x (.ins C dx [])) (fun v H2 => v = .non ∧ Q (.ref x) H2) (E σ)
section
variable {X : Cx} {CX : CXT} {k : Nat} {f C : Addr} {fd : FuncData} {ps : List Str} {sp : Sp} {E : L2.St → XK} {x : Str} {e : Expr} {es : List Expr} {t : TA} {p pos : Pos}
theorem make_at {e : XK} {pins : List (Addr × Obj)} {σ : L2.St} {H : Hp} {s : Shared} {Q : VK} {us : List Value} {vs : List V} (M : Mk X.K C f) (F : FnOk X.prog X.w X.K X.mg X.base CX k f fd ps sp) (hr : Room (k + 1) X.A) (hb : Binds X.K fd ps []) (hx : PassesAt CX X σ e) (I : Inv X pins σ H s) (r : Vals vs us)
    (h : ∀ x dx, H x = none → H dx = none → dx ≠ x → sp (.ref x :: (vs ++ [])) (upd (upd H dx (.own x)) x (.ins C dx [])) (fun v H2 => v = .non ∧ Q (.ref x) H2) e) : wpAny (model X.prog X.w) X.A (call (.ref C) us) (EP X pins σ Q) X.xe s := by
  have q0 := h (s.heap.objs.size + 1) s.heap.objs.size (I.hok.fresh (Nat.le_succ _)) (I.hok.fresh (Nat.le_refl _)) (Nat.succ_ne_self _).symm
  have J := Inv.made (C := C) I
  have rr : Vals (V.ref (s.heap.objs.size + 1) :: (vs ++ [])) (Value.ref (s.heap.objs.size + 1) :: (us ++ [])) := .cons rfl (r.append .nil)
  have l0 : (Value.ref (s.heap.objs.size + 1) :: us ++ []).length = ps.length := by
    rw [← F.len _ _ _ _ q0]
    exact rr.length.symm
  have bd := hb _ (Value.ref (s.heap.objs.size + 1) :: us) J.kIn l0
  have go := F.run _ X.stack _ _ ⟨Value.ref (s.heap.objs.size + 1) :: us, []⟩ _ _ _ e (hr.make C us []) (J.env0.make C us []) bd rr q0
  refine wpAny_call (make_map (f := f) I.kIn M.makes M.init (beq_iff_eq.mp M.fn) (codeAny_mono go ?_))
  intro res s' hres
  match res, hres with
  | .error er, hres => exact hx pins _ _ er s' J hres
  | .ok (.ret u), hres =>
    obtain ⟨v, H2, I2, rv, rfl, q2⟩ := J.after hres
    exact ⟨rv, ⟨V.ref (s.heap.objs.size + 1), H2, I2, rfl, q2⟩⟩
  | .ok .next, hres => exact hres.elim
  | .ok .brk, hres => exact hres.elim
  | .ok .cont, hres => exact hres.elim
theorem pe_makeT (M : Mk X.K C f) (F : FnOk X.prog X.w X.K X.mg X.base CX k f fd ps sp) (hr : Room (k + 1) X.A) (hg : Gl X x) (hm : X.mg x = some (.ref C)) (hb : Binds X.K fd ps []) (hx : ∀ σ, PassesAt CX X σ (E σ)) (ha : PA X (e :: es) t) (hdb : (x == ("__debug__" : Str)) = false := by decide)
    (he : starEach (e :: es) X.env = (false, eval e X.env) :: starEach es X.env := by rfl) (hpl : (backTo pos (starEach es X.env)).any (·.1) = false := by rfl) : PE X (.Call (.Name x p) (e :: es) [] pos) (tMakeT C sp E t) :=
  ⟨fun pins s σ H Q I h => wpAny_Call_Name_kw (ld_glob I hg hm (PySem.W.callWith_K (h₀ := X.base) I.ok.mod.kin M.kp (thn (ha.run pos pins s σ H _ I h) fun us s1 ⟨vs, H1, I1, r, q⟩ => ⟨I1.kIn, make_at M F hr hb (hx σ) I1 r q⟩) he hpl) hdb)⟩
end
end L2
namespace Tr
open PySem PySem.Spec PyProof.Rows L2 Rw
def spCBd (CI : Addr) (K : PySem.W.Frag) : Sp := fun vs H Q E => ∃ v, vs = [v] ∧ TyX K H v (.type "dict") ∧ ∀ t H', Left H "place" .non t H' → E (.ref CI) (some t) H'
def spCBO (K : PySem.W.Frag) (CI : Addr) (n : Nat) : Sp := fun vs H Q E => ∃ (v : V) (o : Option D), vs = [v] ∧ TopD K H v o n ∧ (faultO o = none → ∀ H', Same H H' → Q .non H') ∧ (∀ r, faultO o = some r → ∀ t H', Left H "place" r t H' → E (.ref CI) (some t) H')
def spIBO (K : PySem.W.Frag) (n : Nat) : Sp := fun vs H Q _ => ∃ (v : V) (o : Option D), vs = [v] ∧ TopD K H v o n ∧ ∀ H', Same H H' → Q (.bl (faultO o).isNone) H'
section
variable {P : Program} {w : World} {K : PySem.W.Frag} {mg : Str → Option Value} {base : Heap}
theorem ok_cbd {f fM fF fW fE CI fI : Addr} {fd fdM fdF fdW fdE fdI : FuncData} (F : Fun K "check_body" "check_body" sCB f fd) (n : Nat) (T : Er P w K mg base "InvalidItem" "place" CI fI fdI)
    (GM : FnOk P w K mg base CX0 (2 * n + 4) fM fdM ["items", "around"] (spMis K n)) (TM : Called K mg "misshapen" ["items", "around"] fM fdM) (GF : FnOk P w K mg base CX0 (n + 2) fF fdF ["items"] (spFlat K n)) (TF : Called K mg "flat" ["items"] fF fdF)
    (GW : FnOk P w K mg base CX0 (n + 2) fW fdW ["items", "around"] (spWLk K n)) (TW : Called K mg "wrong_locks" ["items", "around"] fW fdW) (GE : FnOk P w K mg base (L2.CX P w) 3 fE fdE ["faults"] (spEach K CI)) (TE : Called K mg "check_each" ["faults"] fE fdE)
    (m_isinstance : mg "isinstance" = none) (m_tuple : mg "tuple" = none) (m_len : mg "len" = none) {tM : Tok} (mM : mg "MOST_ITEMS" = some (.int 8 tM)) : FnOk P w K mg base (L2.CX P w) (2 * n + 5) f fd ["value"] (spCBd CI K) := by
  refine F.okX scCB (fun vs H Q E h => ?_) (fun cdv A outer s H vs Q E hr h => ?_)
  · obtain ⟨v, rfl, _⟩ := h
    rfl
  · obtain ⟨v, rfl, ty, qE⟩ := h
    refine ⟨_, (pss_cons (ps_if (PW.pt (pw_or (pt_not (pt_val (pe_callB (call_isiKK (K := K) rfl) (by rfl) m_isinstance (by decide +kernel) (pa_cons (pv 0) (pa_cons (pe_bltn (v := .ty "tuple") (by rfl) m_tuple (by decide +kernel) rfl) pa_nil))))) (pw_or1 (pt_cmpR op_eq (pe_callB (call_len_K (K := K) rfl) (by rfl) m_len PySem.boot_len (pa_cons (pv 0) pa_nil)) pe_int (nomark _)))))
       (pss_one (ps_raise rfl (takes_of rfl rfl rfl rfl) (pmk_G T.o T.F (hr.mono (by first | decide | omega)) T.b pass0 rfl T.g (pa_cons pe_non pa_nil))))
       pss_nil)
       (pss_cons (ps_expr (pe_call GE (hr.mono (by first | decide | omega)) rfl TE.1 TE.2.1 TE.2.2 .nil passX (pa_cons (pe_call GM (hr.mono (by first | decide | omega)) rfl TM.1 TM.2.1 TM.2.2 .nil pass0 (pa_cons (pv 0) (pa_cons pe_int pa_nil))) pa_nil)))
       (pss_cons (ps_if (pt_cmpR op_gt (pe_callB (call_len_K (K := K) rfl) (by rfl) m_len PySem.boot_len (pa_cons (pe_call GF (hr.mono (by first | decide | omega)) rfl TF.1 TF.2.1 TF.2.2 .nil pass0 (pa_cons (pv 0) pa_nil)) pa_nil)) (pe_glob (v := .int 8) rfl mM ⟨_, rfl⟩) (nomark _))
       (pss_one (ps_raise rfl (takes_of rfl rfl rfl rfl) (pmk_G T.o T.F (hr.mono (by first | decide | omega)) T.b pass0 rfl T.g (pa_cons pe_non pa_nil))))
       pss_nil)
       (pss_one (ps_expr (pe_call GE (hr.mono (by first | decide | omega)) rfl TE.1 TE.2.1 TE.2.2 .nil passX (pa_cons (pe_call GW (hr.mono (by first | decide | omega)) rfl TW.1 TW.2.1 TW.2.2 .nil pass0 (pa_cons (pv 0) (pa_cons (pe_tup pa_nil) pa_nil))) pa_nil))))))), ?_⟩
    refine ⟨_, rfl, _, _, _, _, _, rfl, .ty _, ty, dict_tup, _, rfl, ?_⟩
    exact iteT (iteT ⟨Nat.le_of_ble_eq_true rfl, fun x ne => raise1 T.o T.no ne fun t H' l => qE t H' l⟩)
theorem cbo_of {f CI : Addr} {fd : FuncData} {k n : Nat} (a : FnOk P w K mg base (L2.CX P w) k f fd ["value"] (spCB K CI n)) (b : FnOk P w K mg base (L2.CX P w) k f fd ["value"] (spCBd CI K)) : FnOk P w K mg base (L2.CX P w) k f fd ["value"] (spCBO K CI n) :=
  fnok_of (fnok_or a b) fun vs H Q E ⟨v, o, e, hv, q, qE⟩ => by
    cases o with
    | some d => exact .inl ⟨v, d, e, hv.1, hv.2, q, qE⟩
    | none => exact .inr ⟨v, e, hv, qE _ rfl⟩
theorem ok_ibo {f fC CI fI : Addr} {fd fdC fdI : FuncData} (F : Fun K "is_body" "is_body" sIB f fd) (n : Nat) (T : Er P w K mg base "InvalidItem" "place" CI fI fdI) (te : PySem.W.exmOne K (.ref CI) (.ref CI) = some true)
    (GC : FnOk P w K mg base (L2.CX P w) (2 * n + 5) fC fdC ["value"] (spCBO K CI (n + 1))) (TC : Called K mg "check_body" ["value"] fC fdC) : FnOk P w K mg base CX0 (2 * n + 6) f fd ["value"] (spIBO K (n + 1)) := by
  refine F.ok scIB (fun vs H Q E h => ?_) (fun cdv A outer s H vs Q E hr h => ?_)
  · obtain ⟨v, o, rfl, _⟩ := h
    rfl
  · obtain ⟨v, o, rfl, hv, q⟩ := h
    refine ⟨_, pss_cons (ps_try_only rfl rfl ⟨rfl, by decide, .inl T.g⟩ takes0
      (fun W pn xe tk _ => pss_one (ps_expr (pe_callS GC (hr.mono (by first | decide | omega)) rfl TC.1 TC.2.1 TC.2.2 (fun σ => passAt tk σ) (pa_cons (pv 0) pa_nil))))
      (fun a oe cls dd pn hz hf => pss_one (ps_ret pe_bl))) (pss_one (ps_ret pe_bl)), ?_⟩
    refine ⟨_, rfl, v, o, rfl, hv, fun hf H1 s1 => ?_, fun r hr t H1 lf => ⟨true, te, fun _ _ _ => ?_, fun z => nomatch z⟩⟩
    · have z := q H1 s1
      rw [hf] at z
      exact z
    · have z := q H1 lf.1
      rw [hr] at z
      exact z
end
/-- what a class's own instance is not a part of -/
theorem sqL_but {K : PySem.W.Frag} {H H' : Hp} {x C dx a : Addr} {fs : List (Str × V)} {xs : List V} (b : SameBut x H H') (hx : H x = some (.ins C dx fs)) (h : SqL K H a xs) : SqL K H' a xs := by
  rcases h with (h | ⟨ob, h⟩) | h
  · exact .inl (.inl (b _ _ (fun e => by rw [e, hx] at h; cases h) h))
  · exact .inl (.inr ⟨ob, b _ _ (fun e => by rw [e, hx] at h; cases h) h⟩)
  · exact .inr h
mutual
theorem dp_but {K : PySem.W.Frag} {H H' : Hp} {x C dx : Addr} {fs : List (Str × V)} (b : SameBut x H H') (hx : H x = some (.ins C dx fs)) : ∀ (d : D) (v : V), Dp K H v d → Dp K H' v d
  | .none, _, h => by cases h; exact .non
  | .bool _, _, h => by cases h; exact .bl _
  | .int _, _, h => by cases h; exact .int _
  | .str _, _, h => by cases h; exact .str _
  | .list ds, _, h => by
    cases h with
    | lst h1 h2 => exact .lst (sqL_but b hx h1) (dps_but b hx ds _ h2)
  | .tuple ds, _, h => by
    cases h with
    | tup h1 h2 => exact .tup (sqT_but b hx h1) (dps_but b hx ds _ h2)
  | .dict _, _, h => by cases h
theorem dps_but {K : PySem.W.Frag} {H H' : Hp} {x C dx : Addr} {fs : List (Str × V)} (b : SameBut x H H') (hx : H x = some (.ins C dx fs)) : ∀ (ds : List D) (vs : List V), DpAll K H vs ds → DpAll K H' vs ds
  | [], _, h => by cases h; exact .nil
  | d :: ds, _, h => by
    cases h with
    | cons h1 h2 => exact .cons (dp_but b hx d _ h1) (dps_but b hx ds _ h2)
end
theorem txt_but {K : PySem.W.Frag} {H H' : Hp} {x C dx : Addr} {fs : List (Str × V)} (b : SameBut x H H') (hx : H x = some (.ins C dx fs)) {v : V} {ns : List Str} : TxtT K H v ns → TxtT K H' v ns
  | ⟨p, e, q⟩ => ⟨p, e, sqT_but b hx q⟩
theorem WayT.but {K : PySem.W.Frag} {H H' : Hp} {x C dx : Addr} {fs : List (Str × V)} (b : SameBut x H H') (hx : H x = some (.ins C dx fs)) {v : V} {ns : List Nat} (h : WayT K H v ns) : WayT K H' v ns := let ⟨p, e, q⟩ := h; ⟨p, e, sqT_but b hx q⟩
/-- what the top has written of the class Body -/
structure BodyC (K : PySem.W.Frag) (mg : Str → Option Value) (C fI p fc : Addr) : Prop where
  g : mg "Body" = some (.ref C)
  cl : Cls K C
  nC : NoAttr K C "_code"
  nL : NoAttr K C "_listed"
  nW : NoAttr K C "_ways"
  nH : NoAttr K C "_held"
  mkB : Mk K C fI
  pc : PropOf K C "code" p fc
/-- the body of ds stands at a, its code v -/
def IsBody (K : PySem.W.Frag) (C : Addr) (H : Hp) (a : Addr) (v : V) (ds : List D) : Prop := ∃ (dx l1 l2 l3 : Addr) (ys zs us : List V), H a = some (.ins C dx [("_code", v), ("_listed", .ref l1), ("_ways", .ref l2), ("_held", .ref l3)]) ∧ Dp K H v (.tuple ds) ∧
  H l1 = some (.lst ys) ∧ DpAll K H ys (flat ds) ∧ H l2 = some (.lst zs) ∧ All2 (WayT K H) zs (wa ds 0 (flat ds).length) ∧ H l3 = some (.lst us) ∧ All2 (TxtT K H) us (hl ds [] ++ [[]])
theorem IsBody.same {K : PySem.W.Frag} {C : Addr} {H H' : Hp} (s : Same H H') {a : Addr} {v : V} {ds : List D} (h : IsBody K C H a v ds) : IsBody K C H' a v ds := by
  obtain ⟨dx, l1, l2, l3, ys, zs, us, h0, h1, h2, h3, h4, h5, h6, h7⟩ := h
  exact ⟨dx, l1, l2, l3, ys, zs, us, s _ _ h0, h1.same s, s _ _ h2, h3.same s, s _ _ h4, h5.mono fun _ _ z => z.same s, s _ _ h6, h7.mono fun _ _ z => z.same s⟩
theorem fault_tup {o : Option D} (h : faultO o = none) : ∃ ds, o = some (.tuple ds) ∧ (misl ds 0).contains true = false ∧ (flat ds).length ≤ 8 ∧ ds ≠ [] := by
  cases o with
  | none => cases h
  | some d =>
    cases d with
    | tuple ds =>
      have h : faultL ds = none := h
      unfold faultL at h
      split at h
      · cases h
      · next he =>
        split at h
        · cases h
        · next hf =>
          split at h
          · cases h
          · next h8 => exact ⟨ds, rfl, find_none hf, by omega, fun e => he (by rw [e]; rfl)⟩
    | _ => cases h
theorem fault_r {o : Option D} {n : Nat} (ft : ∀ d, o = some d → FitD n d) {r : V} (h : faultO o = some r) : r = .non ∨ ∃ i : Nat, r = .int (i : Nat) ∧ i ≤ 60000 := by
  cases o with
  | none => cases h; exact .inl rfl
  | some d =>
    have ft := ft d rfl
    cases d with
    | tuple ds =>
      have h : faultL ds = some r := h
      have cc := ft.cnt
      rw [cntD] at cc
      unfold faultL at h
      split at h
      · cases h; exact .inl rfl
      · split at h
        · next i hf =>
          cases h
          obtain ⟨z, _⟩ := List.findIdx?_eq_some_iff_getElem.mp hf
          have := misl_cnt ds 0
          exact .inr ⟨i, rfl, by omega⟩
        · split at h
          · cases h; exact .inl rfl
          · split at h
            · next i hf =>
              cases h
              obtain ⟨z, _⟩ := List.findIdx?_eq_some_iff_getElem.mp hf
              rw [wl_len] at z
              have := flat_cnt ds
              exact .inr ⟨i, rfl, by omega⟩
            · cases h
    | _ => cases h; exact .inl rfl
theorem rr_of {K : PySem.W.Frag} {H : Hp} {r : V} {Q : VK} (h : r = .non ∨ ∃ i : Nat, r = .int (i : Nat) ∧ i ≤ 60000) (q : Q (.str (shownR r)) H) : rReprD K [r] H Q := by
  rcases h with rfl | ⟨i, rfl, hi⟩
  · refine ⟨_, .none, rfl, .non, .inl (by simp only [PyData.hasDict]), by simp only [PyData.showable], by simp only [PyData.depth]; omega, ?_, ?_⟩
    · rw [PyData.shown_none, sizeLine_eq]
      decide
    · rw [PyData.shown_none]
      exact q
  · exact rr_nat hi q
def spBI (K : PySem.W.Frag) (C CI : Addr) (n : Nat) : Sp := fun vs H Q E => ∃ (x dx : Addr) (v : V) (o : Option D), vs = [.ref x, v] ∧ H x = some (.ins C dx []) ∧ TopD K H v o n ∧
  (faultO o = none → ∀ ds, o = some (.tuple ds) → ∀ H', SameBut x H H' → IsBody K C H' x v ds → Q .non H') ∧ (∀ r, faultO o = some r → ∀ t H', Left H "place" r t H' → E (.ref CI) (some t) H')
section
variable {P : Program} {w : World} {K : PySem.W.Frag} {mg : Str → Option Value} {base : Heap}
abbrev sBI : Stmt := inClass (top 36) 0
theorem scBI : FnScope ["self", "items"] ["self", "items"] (defScope sBI) := ⟨rfl, rfl, rfl, by decide +kernel, rfl, by decide +kernel, by decide +kernel⟩
theorem ok_BI {f fC fF fA fH C CI fI p fc : Addr} {fd fdC fdF fdA fdH : FuncData} (F : Fun K "__init__" "Body.__init__" sBI f fd) (T : BodyC K mg C fI p fc) (n : Nat)
    (GC : FnOk P w K mg base (L2.CX P w) (2 * n + 5) fC fdC ["value"] (spCBO K CI (n + 1))) (TC : Called K mg "check_body" ["value"] fC fdC) (GF : FnOk P w K mg base CX0 (n + 2) fF fdF ["items"] (spFlat K n)) (TF : Called K mg "flat" ["items"] fF fdF)
    (GA : FnOk P w K mg base CX0 (2 * n + 4) fA fdA ["items", "start", "behind"] (spWA K n)) (TA : Called K mg "ways_along" ["items", "start", "behind"] fA fdA) (GH : FnOk P w K mg base CX0 (n + 2) fH fdH ["items", "around"] (spHl K n)) (TH : Called K mg "held_along" ["items", "around"] fH fdH)
    (m_len : mg "len" = none) : FnOk P w K mg base (L2.CX P w) (2 * n + 6) f fd ["self", "items"] (spBI K C CI (n + 1)) := by
  refine F.okX scBI (fun vs H Q E h => ?_) (fun cdv A outer s H vs Q E hr h => ?_)
  · obtain ⟨x, dx, v, o, rfl, _⟩ := h
    rfl
  · obtain ⟨x, dx, v, o, rfl, hx, hv, q, qE⟩ := h
    refine ⟨_, (pss_cons (ps_expr (pe_call GC (hr.mono (by first | decide | omega)) rfl TC.1 TC.2.1 TC.2.2 .nil passX (pa_cons (pv 1) pa_nil)))
       (pss_cons (ps_fld (pv 0) (pv 1) rfl)
       (pss_cons (ps_fld (pv 0) (pe_call GF (hr.mono (by first | decide | omega)) rfl TF.1 TF.2.1 TF.2.2 .nil pass0 (pa_cons (pv 1) pa_nil)) rfl)
       (pss_cons (ps_fld (pv 0) (pe_call GA (hr.mono (by first | decide | omega)) rfl TA.1 TA.2.1 TA.2.2 .nil pass0 (pa_cons (pv 1) (pa_cons pe_int (pa_cons (pe_callB (call_len_K (K := K) rfl) (by rfl) m_len PySem.boot_len (pa_cons (pe_fld (pv 0) rfl) pa_nil)) pa_nil)))) rfl)
       (pss_one (ps_fld (pv 0) (pe_op op_cat (pe_call GH (hr.mono (by first | decide | omega)) rfl TH.1 TH.2.1 TH.2.2 .nil pass0 (pa_cons (pv 1) (pa_cons (pe_tup pa_nil) pa_nil))) (pe_lst (pa_cons (pe_tup pa_nil) pa_nil))) rfl)))))), ?_⟩
    refine ⟨_, rfl, v, o, rfl, hv, fun hf H1 s1 => ?_, fun r hr t H1 lf => qE r hr t H1 lf⟩
    obtain ⟨ds, rfl, hc, h8, _⟩ := fault_tup hf
    have q := q hf ds rfl
    obtain ⟨hd, ft⟩ := hv
    have fin := ft.inside
    have brk : ∀ e ∈ flat ds, BrOk e := fun e he => (br_flat hc e he).1
    cases id hd with
    | @tup pt xs _ hp ha =>
    have hx1 := s1 _ _ hx
    have hp1 := s1.tupS hp
    have ha1 := ha.same s1
    have hd1 := hd.same s1
    -- self._code
    refine ⟨_, rfl, _, rfl, x, C, dx, [], rfl, hx1, T.cl, T.nC, by decide, ?_⟩
    have b1 : SameBut x H1 (upd H1 x (.ins C dx (putF "_code" (.ref pt) []))) := but_upd
    have hx2 : (upd H1 x (.ins C dx (putF "_code" (.ref pt) []))) x = some (.ins C dx [("_code", .ref pt)]) := upd_same
    generalize upd H1 x (.ins C dx (putF "_code" (.ref pt) [])) = H2 at b1 hx2
    -- self._listed
    have hp2 := sqT_but b1 hx1 hp1
    have ha2 := dps_but b1 hx1 _ _ ha1
    have hd2 := dp_but b1 hx1 _ _ hd1
    refine ⟨_, rfl, H2, pt, xs, ds, rfl, Same.refl _, hp2, ha2, fin, brk, fun H3 l1 ys s3 n1 hl1 hy => ?_⟩
    have ly := dpl hy
    have hx3 := s3 _ _ hx2
    refine ⟨_, rfl, x, C, dx, _, rfl, hx3, T.cl, T.nL, by show 1 < 1000; decide, ?_⟩
    have b3 : SameBut x H3 (upd H3 x (.ins C dx (putF "_listed" (.ref l1) [("_code", .ref pt)]))) := but_upd
    have hx4 : (upd H3 x (.ins C dx (putF "_listed" (.ref l1) [("_code", .ref pt)]))) x = some (.ins C dx [("_code", .ref pt), ("_listed", .ref l1)]) := upd_same
    generalize upd H3 x (.ins C dx (putF "_listed" (.ref l1) [("_code", .ref pt)])) = H4 at b3 hx4
    have hl4 := b3 _ _ (ne_of_ins hx3 hl1) hl1
    have hy4 := dps_but b3 hx3 _ _ (hy.same s3)
    have hp4 := sqT_but b3 hx3 (s3.tupS hp2)
    have ha4 := dps_but b3 hx3 _ _ (ha2.same s3)
    have hd4 := dp_but b3 hx3 _ _ (hd2.same s3)
    -- self._ways
    refine ⟨_, rfl, _, rfl, x, C, dx, _, _, rfl, hx4, T.cl, T.nL, rfl, l1, _, rfl, .inl (SqL.of hl4), pt, xs, ds, 0, ys.length, rfl, hp4, ha4, fin, brk, by omega, fun H5 l2 zs s5 n2 hl2 hz => ?_⟩
    rw [ly] at hz
    have hx5 := s5 _ _ hx4
    refine ⟨_, rfl, x, C, dx, _, rfl, hx5, T.cl, T.nW, by show 2 < 1000; decide, ?_⟩
    have b5 : SameBut x H5 (upd H5 x (.ins C dx (putF "_ways" (.ref l2) [("_code", .ref pt), ("_listed", .ref l1)]))) := but_upd
    have hx6 : (upd H5 x (.ins C dx (putF "_ways" (.ref l2) [("_code", .ref pt), ("_listed", .ref l1)]))) x = some (.ins C dx [("_code", .ref pt), ("_listed", .ref l1), ("_ways", .ref l2)]) := upd_same
    generalize upd H5 x (.ins C dx (putF "_ways" (.ref l2) [("_code", .ref pt), ("_listed", .ref l1)])) = H6 at b5 hx6
    have hl46 := b5 _ _ (ne_of_ins hx5 (s5 _ _ hl4)) (s5 _ _ hl4)
    have hy6 := dps_but b5 hx5 _ _ (hy4.same s5)
    have hp6 := sqT_but b5 hx5 (s5.tupS hp4)
    have ha6 := dps_but b5 hx5 _ _ (ha4.same s5)
    have hd6 := dp_but b5 hx5 _ _ (hd4.same s5)
    have hl26 := b5 _ _ (ne_of_ins hx5 hl2) hl2
    have hz6 := hz.mono fun _ _ z => WayT.but b5 hx5 z
    -- self._held
    refine ⟨_, rfl, Nat.zero_le _, fun z nz => ?_⟩
    have s6 := same_upd (o := HO.tup []) nz
    refine ⟨pt, .ref z, xs, ds, [], rfl, s6.tupS hp6, ha6.same s6, fin, brk, ⟨z, rfl, SqT.of upd_same⟩, by rw [List.length_nil]; omega, fun H7 l3 us s7 n3 hl3 hu => ?_⟩
    have lu := hu.length
    rw [hl_len] at lu
    refine ⟨Nat.zero_le _, fun z1 nz1 => ⟨by show 1 ≤ sizeLine; decide, fun l4 nl4 => ?_⟩⟩
    have s8 := same_upd (o := HO.tup []) nz1
    have s9 := same_upd (o := HO.lst [V.ref z1]) nl4
    have s89 := s8.trans s9
    have t1 : TxtT K (upd (upd H7 z1 (HO.tup [])) l4 (HO.lst [V.ref z1])) (.ref z1) [] := ⟨z1, rfl, SqT.of (s9 _ _ upd_same)⟩
    have e9 : (upd (upd H7 z1 (HO.tup [])) l4 (HO.lst [V.ref z1])) l4 = some (.lst [V.ref z1]) := upd_same
    generalize upd (upd H7 z1 (HO.tup [])) l4 (HO.lst [V.ref z1]) = H9 at s9 s89 t1 e9
    refine ⟨l3, l4, us, _, rfl, rfl, s89 _ _ hl3, e9, by rw [sizeLine_eq]; show us.length + 1 ≤ _; omega, fun l5 n5 => ?_⟩
    have s10 := same_upd (o := HO.lst (us ++ [V.ref z1])) n5
    have e10 : (upd H9 l5 (.lst (us ++ [V.ref z1]))) l5 = some (.lst (us ++ [V.ref z1])) := upd_same
    generalize upd H9 l5 (.lst (us ++ [V.ref z1])) = H10 at s10 e10
    have s710 := s89.trans s10
    have s610 := (s6.trans s7).trans s710
    have hx10 := s610 _ _ hx6
    refine ⟨_, rfl, x, C, dx, _, rfl, hx10, T.cl, T.nH, by show 3 < 1000; decide, ?_⟩
    have b10 : SameBut x H10 (upd H10 x (.ins C dx (putF "_held" (.ref l5) [("_code", .ref pt), ("_listed", .ref l1), ("_ways", .ref l2)]))) := but_upd
    have b : SameBut x H (upd H10 x (.ins C dx (putF "_held" (.ref l5) [("_code", .ref pt), ("_listed", .ref l1), ("_ways", .ref l2)]))) := (but_of s1).trans (b1.trans ((but_of s3).trans (b3.trans ((but_of s5).trans (b5.trans ((but_of s610).trans b10))))))
    refine q _ b ⟨dx, l1, l2, l5, ys, zs, us ++ [V.ref z1], upd_same, dp_but b10 hx10 _ _ (hd6.same s610), b10 _ _ (ne_of_ins hx10 (s610 _ _ hl46)) (s610 _ _ hl46), dps_but b10 hx10 _ _ (hy6.same s610), b10 _ _ (ne_of_ins hx10 (s610 _ _ hl26)) (s610 _ _ hl26), hz6.mono fun _ _ z => WayT.but b10 hx10 (z.same s610), b10 _ _ (ne_of_ins hx10 e10) e10, ?_⟩
    exact ((hu.mono fun _ _ t => t.same s710).append (.cons (t1.same s10) .nil)).mono fun _ _ t => txt_but b10 hx10 t
abbrev sCo : Stmt := inClass (top 36) 1
theorem scCo : FnScope ["self"] ["self"] (defScope sCo) := ⟨rfl, rfl, rfl, by decide +kernel, rfl, by decide +kernel, by decide +kernel⟩
theorem ok_Co {f C : Addr} {fd : FuncData} (F : Fun K "code" "Body.code" sCo f fd) (cl : Cls K C) (n : NoAttr K C "_code") : FnOk P w K mg base CX0 1 f fd ["self"] (getSp C "_code") := by
  obtain ⟨oc, od, kV, doc, pm, an, cdv, ct, osl, rfl, lk, hcd⟩ := F.ex
  exact fn_getter lk hcd scCo rfl rfl cl n
def spHd (K : PySem.W.Frag) (n : Nat) : Sp := fun vs H Q _ => ∃ (v : V) (o : Option D), vs = [v] ∧ TopD K H v o n ∧ ∀ H' r, Same H H' → Dp K H' r (dueD (faultO o)) → Q r H'
abbrev sHd : Stmt := top 56
theorem scHd : FnScope ["_law_items", "e"] ["_law_items"] (defScope sHd) := ⟨rfl, rfl, rfl, by decide +kernel, rfl, by decide +kernel, by decide +kernel⟩
theorem ok_hd {f fI fc C CI fIE p : Addr} {fd fdI fdc fdE : FuncData} (F : Fun K "_law_heard" "_law_heard" sHd f fd) (B : BodyC K mg C fI p fc) (T : Er P w K mg base "InvalidItem" "place" CI fIE fdE) (te : PySem.W.exmOne K (.ref CI) (.ref CI) = some true) (n : Nat) (hn : n + 1 ≤ 40)
    (GI : FnOk P w K mg base (L2.CX P w) (2 * n + 6) fI fdI ["self", "items"] (spBI K C CI (n + 1))) (bI : Binds K fdI ["self", "items"] []) (GC : FnOk P w K mg base CX0 1 fc fdc ["self"] (getSp C "_code")) (bC : Binds K fdc ["self"] []) (m_repr : mg "repr" = none) : FnOkG P w K mg base CX0 (2 * n + 8) f fd ["_law_items"] (spHd K (n + 1)) := by
  refine F.okG scHd (fun vs H Q E h => ?_) (fun cdv A outer s H vs Q E hgd hr h => ?_)
  · obtain ⟨v, o, rfl, _⟩ := h
    rfl
  · obtain ⟨v, o, rfl, hv, q⟩ := h
    refine ⟨_, pss_one (ps_try_as (i := 1) rfl rfl scHd.nd rfl rfl ⟨rfl, by decide, .inl T.g⟩ takes0
      (fun W pn xe tk _ => pss_one (ps_ret (pe_ifExp (pt_cmpR (Nm.op_eqDK (K := K) rfl hr.units) (pe_prop (pe_makeT B.mkB GI (hr.mono (by first | decide | omega)) rfl B.g bI (fun σ => passAt tk σ) (pa_cons (pv 0) pa_nil)) B.cl B.pc GC (hr.mono (by first | decide | omega)) bC .nil pass0 rfl) (pv 0) (nomark _)) pe_str pe_str)))
      (fun a oe cls dd pn hz hf => pss_one (ps_ret (pe_lst (pa_cons pe_str (pa_cons (pe_callB (call_reprDK (K := K) rfl hgd hr.units) (by rfl) m_repr (by decide +kernel) (pa_cons (pe_xf (xf_of T.o) T.no hz hf (pv 1)) pa_nil)) pa_nil)))))), ?_⟩
    refine ⟨_, rfl, fun x dx nx ndx ne => ?_⟩
    have s0 : Same H (upd (upd H dx (.own x)) x (.ins C dx [])) := fun b o e => by
      rw [upd_ne (ne_of_none e nx), upd_ne (ne_of_none e ndx)]
      exact e
    have e0 : (upd (upd H dx (.own x)) x (.ins C dx [])) x = some (.ins C dx []) := upd_same
    generalize upd (upd H dx (.own x)) x (.ins C dx []) = H1 at s0 e0
    refine ⟨x, dx, v, o, rfl, e0, hv.same s0, fun hf ds eo H2 b ib => ⟨rfl, ?_⟩, fun r hr t H2 lf => ⟨true, te, fun _ e2 ne2 => ?_, fun z => nomatch z⟩⟩
    · subst eo
      have s2 : Same H H2 := fun a o e => b a o (ne_of_none e nx) (s0 a o e)
      obtain ⟨dx2, l1, l2, l3, ys, zs, us, h0, hd, _⟩ := ib
      refine ⟨x, dx2, _, rfl, h0, x, dx2, _, v, rfl, h0, rfl, ?_⟩
      refine ⟨_, rfl, _, _, hd, hd, hv.2.shaped hn, hv.2.shaped hn, _, rfl, ?_⟩
      rw [SeqAt.eqv_refl _ (lay_of _ hv.2.good)]
      rw [hf] at q
      exact iteT (q H2 _ s2 (.str _))
    · obtain ⟨s1, nt, ht⟩ := lf
      refine ⟨_, rfl, rfl, rfl, t, _, r, rfl, ht, rfl, ?_⟩
      dsimp only [tNil]
      have fr := fault_r (o := o) (n := n + 1) (fun d hd => by rw [hd] at hv; exact hv.2) hr
      refine rr_of fr ?_
      refine ⟨by show 2 ≤ sizeLine; decide, fun p np => ?_⟩
      rw [hr] at q
      exact q _ _ ((s0.trans s1).trans (same_upd np)) (.lst (SqL.of upd_same) (.cons (.str _) (.cons (.str _) .nil)))
end
end Tr

/-! P16 -/
namespace Tr
open PySem PySem.Spec PyProof.Rows L2 Rw
abbrev sNum : Stmt := top 38
theorem scN : FnScope ["_law_cell", "_law_salt", "_law_sizes", "_law_whole", "_law_left", "_law_result", "_law_k", "_law_one"] ["_law_cell", "_law_salt", "_law_sizes"] (defScope sNum) := ⟨rfl, rfl, rfl, by decide +kernel, rfl, by decide +kernel, by decide +kernel⟩
/-- what the numbers are: as many as the sizes, each below its size -/
def Drawn (sz ns : List Int) : Prop := ns.length = sz.length ∧ ∀ (i : Nat) (n : Int), sz[i]? = some n → ∃ x : Int, ns[i]? = some x ∧ 0 ≤ x ∧ x < n
def spNum (K : PySem.W.Frag) : Sp := fun vs H Q _ => ∃ (cell salt : Int) (a : Addr) (sz : List Int), vs = [.int cell, .int salt, .ref a] ∧ SqL K H a (sz.map V.int) ∧ sz.length ≤ 450 ∧ (∀ n ∈ sz, 1 ≤ n ∧ n < 2 ^ 200) ∧ 0 ≤ salt ∧ salt ≤ 1000000 ∧
  ∀ H' p ns, Same H H' → H p = none → H' p = some (.lst (ns.map V.int)) → Drawn sz ns → Q (.ref p) H'
theorem map_more (ns : List Int) (x : Int) : some (HO.lst (ns.map V.int ++ [V.int x])) = some (HO.lst ((ns ++ [x]).map V.int)) := by
  rw [List.map_append]
  rfl
theorem drawn_more {sz ns : List Int} {i : Nat} {n x : Int} (h : Drawn (sz.take i) ns) (hn : sz[i]? = some n) (x0 : 0 ≤ x) (x1 : x < n) : Drawn (sz.take (i + 1)) (ns ++ [x]) := by
  obtain ⟨h1, h2⟩ := h
  have hi : i < sz.length := by
    obtain ⟨z, _⟩ := List.getElem?_eq_some_iff.mp hn
    exact z
  have e : sz.take (i + 1) = sz.take i ++ [n] := by
    rw [List.take_add_one, hn]
    rfl
  have l1 : (sz.take i).length = i := by
    rw [List.length_take]
    omega
  rw [e]
  refine ⟨by rw [List.length_append, List.length_append, h1]; rfl, fun j m hm => ?_⟩
  by_cases hj : j < i
  · rw [List.getElem?_append_left (by omega)] at hm
    obtain ⟨y, y1, y2⟩ := h2 j m hm
    exact ⟨y, by rw [List.getElem?_append_left (by omega)]; exact y1, y2⟩
  · rw [List.getElem?_append_right (by omega), l1] at hm
    have ej : j = i := by
      obtain ⟨z, _⟩ := List.getElem?_eq_some_iff.mp hm
      simp at z
      omega
    subst ej
    rw [Nat.sub_self] at hm
    have em : n = m := Option.some.inj hm
    subst em
    exact ⟨x, by rw [List.getElem?_append_right (by omega), h1, l1, Nat.sub_self]; rfl, x0, x1⟩
section
variable {P : Program} {w : World} {K : PySem.W.Frag} {mg : Str → Option Value} {base : Heap}
theorem ok_num {f : Addr} {fd : FuncData} {k : Nat} (F : Fun K "_law_numbers" "_law_numbers" sNum f fd) (m_max : mg "max" = none) (m_range : mg "range" = none) (m_len : mg "len" = none) :
    FnOk P w K mg base CX0 (k + 1) f fd ["_law_cell", "_law_salt", "_law_sizes"] (spNum K) := by
  refine F.ok scN (fun vs H Q E h => ?_) (fun cdv A outer s H vs Q E hr h => ?_)
  · obtain ⟨c, s, a, sz, rfl, _⟩ := h
    rfl
  · obtain ⟨cell, salt, a, sz, rfl, hS, hlen, hsz, hs0, hs1, q⟩ := h
    refine ⟨_, (pss_cons (ps_set (i := 3) scN.nd rfl (.inl rfl) (pe_callB (call_max2 rfl) (by rfl) m_max (by decide +kernel) (pa_cons (pv 0) (pa_cons (pe_op op_sub (pe_un un_neg pe_int) (pv 0)) pa_nil))))
       (pss_cons (ps_set (i := 4) scN.nd rfl (.inl rfl) (pv 3))
       (pss_cons (ps_set (i := 5) scN.nd rfl (.inl rfl) (pe_lst pa_nil))
       (pss_cons (ps_for PassesOwn.never rfl (pi_range1 rfl m_range (pa_cons (pe_callB call_len_seq (by rfl) m_len PySem.boot_len (pa_cons (pv 2) pa_nil)) pa_nil)) (pg_name (i := 6) scN.nd rfl (.inl rfl))
       (pss_one (ps_if (PW.pt (pw_and (pt_cmpR op_ge (pv 3) (pe_op op_pow pe_int pe_int) (nomark _)) (pw_and1 (pt_cmpR op_gt (pv 4) pe_int (nomark _)))))
       (pss_cons (ps_expr (pe_bm PySem.F.plainAttrs_list PySem.F.slot_list_append PySem.F.type_list_append mt_append (pv 5) (pa_cons (pe_op op_modN (pv 4) (pe_ix ix_list (pv 2) (pv 6) (fun _ _ => rfl))) pa_nil)))
       (pss_one (ps_set (i := 4) scN.nd rfl (.inl rfl) (pe_op op_fdivW (pv 4) (pe_ix ix_list (pv 2) (pv 6) (fun _ _ => rfl))))))
       (pss_cons (ps_set (i := 7) scN.nd rfl (.inl rfl) (pe_op op_mod (pe_op op_pow (pe_op op_add (pe_op op_add (pe_op op_mod (pv 3) pe_int) (pe_op op_mul pe_int (pv 1))) pe_int) pe_int) pe_int))
       (pss_cons (ps_set (i := 7) scN.nd rfl (.inl rfl) (pe_op op_mod (pe_op op_mul (pe_op op_add (pv 7) (pe_op op_mul pe_int (pe_op op_add (pv 6) pe_int))) (pe_op op_add (pv 6) pe_int)) pe_int))
       (pss_cons (ps_set (i := 7) scN.nd rfl (.inl rfl) (pe_op op_mod (pe_op op_mul (pe_op op_mod (pe_op op_pow (pv 7) pe_int) pe_int) pe_int) pe_int))
       (pss_one (ps_expr (pe_bm PySem.F.plainAttrs_list PySem.F.slot_list_append PySem.F.type_list_append mt_append (pv 5) (pa_cons (pe_op op_modN (pe_op op_fdiv (pv 7) pe_int) (pe_ix ix_list (pv 2) (pv 6) (fun _ _ => rfl))) pa_nil))))))))))
       (pss_one (ps_ret (pv 5))))))), ?_⟩
    -- whole
    refine ⟨_, rfl, _, rfl, _, rfl, _, _, rfl, rfl, _, _, rfl, ?_⟩
    generalize hwh : (if -1 - cell > cell then -1 - cell else cell) = whole
    -- left
    refine ⟨_, rfl, ?_⟩
    -- result
    refine ⟨Nat.zero_le _, fun o no => ?_⟩
    have s1 : Same H (upd H o (.lst [])) := same_upd no
    -- range(len(sizes))
    refine ⟨_, rfl, a, _, rfl, .inl (s1.seq hS), _, rfl, ?_, ?_, ?_⟩
    · omega
    · rw [List.length_map]; omega
    have hw : 0 ≤ whole := by
      rw [← hwh]
      split <;> omega
    refine for_range (lo := 0) (n := (((sz.map V.int).length : Nat) : Int).toNat)
      (fun i σ H' => ∃ (left : Int) (ns : List Int) (v6 v7 : Option V), σ = [some (.int cell), some (.int salt), some (.ref a), some (.int whole), some (.int left), some (.ref o), v6, v7] ∧ 0 ≤ left ∧ Same H H' ∧
        H' o = some (.lst (ns.map V.int)) ∧ Drawn (sz.take i) ns)
      ⟨whole, [], none, none, rfl, hw, s1, upd_same, rfl, fun i n e => by simp at e⟩ ?_ ?_
    · rintro i σ H' hi ⟨left, ns, v6, v7, rfl, hl, sm, ho, hd⟩
      have hi' : i < sz.length := by
        rw [List.length_map] at hi
        omega
      have hSi : SqL K H' a (sz.map V.int) := sm.seq hS
      obtain ⟨n, hn⟩ : ∃ n, sz[i]? = some n := ⟨_, List.getElem?_eq_getElem hi'⟩
      obtain ⟨n1, n2⟩ := hsz n (List.mem_of_getElem? hn)
      have hat : atI (sz.map V.int) ((0 : Int) + i) = some (V.int n) := by
        rw [Int.zero_add]
        refine atI_nat ?_
        rw [List.getElem?_map, hn]
        rfl
      have more : ∀ x, 0 ≤ x → x < n → Drawn (sz.take (i + 1)) (ns ++ [x]) := fun x x0 x1 => drawn_more hd hn x0 x1
      have nsl : ns.length = i := by
        have z := hd.1
        rw [List.length_take] at z
        omega
      have room : (ns.map V.int).length < sizeLine := by
        rw [List.length_map]
        exact small1000 (by omega)
      have stay : ∀ u, Same H (upd H' o u) := fun u b z e => by
        rw [upd_ne (ne_of_none e no)]
        exact sm b z e
      -- whole >= 10 ** 18 and left > 0
      refine ⟨_, rfl, _, _, rfl, rfl, ⟨by decide, by decide, by decide⟩, _, _, rfl, rfl, _, rfl, ?_⟩
      refine ite2 (fun c1 => ?_) (fun c1 => ?_)
      · refine ⟨_, rfl, _, _, rfl, rfl, _, rfl, ite2 (fun c2 => ?_) (fun c2 => ?_)⟩
        · refine ⟨_, rfl, .inl ⟨rfl, _, .inl (.inl ho)⟩, _, rfl, _, rfl, _, rfl, a, _, _, _, rfl, rfl, hSi, hat, _, _, rfl, rfl, (by omega), o, _, _, rfl, rfl, ho, room, ?_⟩
          refine ⟨_, rfl, _, rfl, _, rfl, a, _, _, _, rfl, rfl, (stay _).seq hS, hat, _, _, rfl, rfl, wide_div (by omega) (b := 200) (by omega) (by decide) (by decide), ?_⟩
          exact ⟨left / n, _, _, _, rfl, Int.ediv_nonneg hl (by omega), stay _, by rw [upd_same, map_more], more _ (Int.fmod_nonneg_of_pos _ (by omega)) (Int.fmod_lt_of_pos _ (by omega))⟩
        · refine ⟨_, rfl, _, _, rfl, rfl, (by show (0 : Int) < 2147483629; decide), _, rfl, _, _, rfl, rfl, .inl ⟨by decide, by decide⟩, _, _, rfl, rfl, _, _, rfl, rfl, _, _, rfl, rfl, ⟨by decide, by decide, by omega⟩, _, _, rfl, rfl, (by show (0 : Int) < 2147483647; decide), ?_⟩
          refine ⟨_, rfl, _, rfl, _, _, rfl, rfl, _, _, rfl, rfl, .inl ⟨by decide, by decide⟩, _, _, rfl, rfl, _, rfl, _, _, rfl, rfl, _, _, rfl, rfl, .inr ⟨by omega, by omega⟩, _, _, rfl, rfl, (by show (0 : Int) < 2147483629; decide), ?_⟩
          refine ⟨_, rfl, _, _, rfl, rfl, ⟨by decide, by decide, by omega⟩, _, _, rfl, rfl, (by show (0 : Int) < 2147483647; decide), _, _, rfl, rfl, .inr ⟨by decide, by decide⟩, _, _, rfl, rfl, (by show (0 : Int) < 2147483629; decide), ?_⟩
          refine ⟨_, rfl, .inl ⟨rfl, _, .inl (.inl ho)⟩, _, rfl, _, _, rfl, rfl, ⟨by decide, by decide⟩, _, rfl, _, rfl, a, _, _, _, rfl, rfl, hSi, hat, _, _, rfl, rfl, (by omega), o, _, _, rfl, rfl, ho, room, ?_⟩
          exact ⟨left, _, _, _, rfl, hl, stay _, by rw [upd_same, map_more], more _ (Int.fmod_nonneg_of_pos _ (by omega)) (Int.fmod_lt_of_pos _ (by omega))⟩
      · refine ⟨_, rfl, _, _, rfl, rfl, (by show (0 : Int) < 2147483629; decide), _, rfl, _, _, rfl, rfl, .inl ⟨by decide, by decide⟩, _, _, rfl, rfl, _, _, rfl, rfl, _, _, rfl, rfl, ⟨by decide, by decide, by omega⟩, _, _, rfl, rfl, (by show (0 : Int) < 2147483647; decide), ?_⟩
        refine ⟨_, rfl, _, rfl, _, _, rfl, rfl, _, _, rfl, rfl, .inl ⟨by decide, by decide⟩, _, _, rfl, rfl, _, rfl, _, _, rfl, rfl, _, _, rfl, rfl, .inr ⟨by omega, by omega⟩, _, _, rfl, rfl, (by show (0 : Int) < 2147483629; decide), ?_⟩
        refine ⟨_, rfl, _, _, rfl, rfl, ⟨by decide, by decide, by omega⟩, _, _, rfl, rfl, (by show (0 : Int) < 2147483647; decide), _, _, rfl, rfl, .inr ⟨by decide, by decide⟩, _, _, rfl, rfl, (by show (0 : Int) < 2147483629; decide), ?_⟩
        refine ⟨_, rfl, .inl ⟨rfl, _, .inl (.inl ho)⟩, _, rfl, _, _, rfl, rfl, ⟨by decide, by decide⟩, _, rfl, _, rfl, a, _, _, _, rfl, rfl, hSi, hat, _, _, rfl, rfl, (by omega), o, _, _, rfl, rfl, ho, room, ?_⟩
        exact ⟨left, _, _, _, rfl, hl, stay _, by rw [upd_same, map_more], more _ (Int.fmod_nonneg_of_pos _ (by omega)) (Int.fmod_lt_of_pos _ (by omega))⟩
    · rintro σ H' ⟨left, ns, v6, v7, rfl, hl, sm, ho, hd⟩
      have e : (((sz.map V.int).length : Nat) : Int).toNat = sz.length := by
        rw [List.length_map]
        omega
      rw [e, List.take_length] at hd
      exact ⟨_, rfl, q H' o ns sm no ho hd⟩
end

def spPool4 (K : PySem.W.Frag) : Sp := fun vs H Q _ => ∃ (cell salt many : Int), vs = [.int cell, .int salt, .int many] ∧ 0 ≤ salt ∧ salt ≤ 1000000 ∧ 0 ≤ many ∧ many ≤ 420 ∧ ∀ H' o q, Same H H' → H o = none → PoolAt H' o q → Q (.ref o) H'
section
variable {P : Program} {w : World} {K : PySem.W.Frag} {mg : Str → Option Value} {base : Heap}
abbrev sPool : Stmt := top 39
theorem scPool : FnScope ["_law_cell", "_law_salt", "_law_many_here"] ["_law_cell", "_law_salt", "_law_many_here"] (defScope sPool) := ⟨rfl, rfl, rfl, by decide +kernel, rfl, by decide +kernel, by decide +kernel⟩
theorem ok_pool {f fN : Addr} {fd fdN : FuncData} (F : Fun K "_law_pool" "_law_pool" sPool f fd) (GN : FnOk P w K mg base CX0 1 fN fdN ["_law_cell", "_law_salt", "_law_sizes"] (spNum K)) (TN : Called K mg "_law_numbers" ["_law_cell", "_law_salt", "_law_sizes"] fN fdN) :
    FnOk P w K mg base CX0 2 f fd ["_law_cell", "_law_salt", "_law_many_here"] (spPool4 K) := by
  refine F.ok scPool (fun vs H Q E h => ?_) (fun cdv A outer s H vs Q E hr h => ?_)
  · obtain ⟨cell, salt, many, rfl, _⟩ := h
    rfl
  · obtain ⟨cell, salt, many, rfl, h1, h2, h3, h4, q⟩ := h
    refine ⟨_, (pss_one (ps_ret (pe_lst (pa_cons (pe_call GN (hr.mono (by first | decide | omega)) rfl TN.1 TN.2.1 TN.2.2 .nil pass0 (pa_cons (pv 0) (pa_cons (pv 1) (pa_cons (pe_op op_rep (pe_lst (pa_cons pe_int pa_nil)) (pv 2)) pa_nil)))) (pa_cons pe_int pa_nil))))), ?_⟩
    refine ⟨_, rfl, _, rfl, by show 1 ≤ sizeLine; decide, fun z nz => ?_⟩
    have s1 := same_upd (o := HO.lst [V.int 420]) nz
    refine ⟨_, rfl, z, many, _, rfl, rfl, upd_same, by omega, by omega, ?_, fun y ny => ?_⟩
    · rw [sizeLine_eq]
      show 1 * many.toNat ≤ _
      omega
    have e0 : (List.replicate many.toNat [V.int 420]).flatten = (List.replicate many.toNat (420 : Int)).map V.int := by
      rw [List.map_replicate]
      induction many.toNat with
      | zero => rfl
      | succ n ih => rw [List.replicate_succ, List.replicate_succ, List.flatten_cons, ih]; rfl
    rw [e0]
    have s2 := same_upd (o := HO.lst ((List.replicate many.toNat (420 : Int)).map V.int)) ny
    refine ⟨cell, salt, y, _, rfl, SqL.of upd_same, by rw [List.length_replicate]; omega, fun n hn => ?_, h1, h2, fun H' p ns s3 _ hp dr => ?_⟩
    · rw [List.eq_of_mem_replicate hn]
      exact ⟨by decide, by decide⟩
    refine ⟨by show 2 ≤ sizeLine; decide, fun o no => ?_⟩
    have s4 := same_upd (o := HO.lst [V.ref p, V.int 0]) no
    have st := ((s1.trans s2).trans s3)
    have np : p ≠ o := ne_of_none hp no
    refine q _ o p (st.trans s4) (st.free no) ⟨0, ns, upd_same, np, s4 _ _ hp, ?_, fun n hn => ?_⟩
    · rw [dr.1, List.length_replicate]
      omega
    · obtain ⟨i, hi⟩ := List.getElem?_of_mem hn
      have hi2 : i < ns.length := (List.getElem?_eq_some_iff.mp hi).1
      have hi3 : i < (List.replicate many.toNat (420 : Int)).length := by rw [← dr.1]; exact hi2
      obtain ⟨x, x1, x2, x3⟩ := dr.2 i 420 (by rw [List.getElem?_eq_getElem hi3, List.getElem_replicate])
      rw [hi] at x1
      cases x1
      exact ⟨x2, by omega⟩
abbrev sDraw : Stmt := top 40
theorem scDraw : FnScope ["_law_pool_here", "_law_many_here", "_law_at"] ["_law_pool_here", "_law_many_here"] (defScope sDraw) := ⟨rfl, rfl, rfl, by decide +kernel, rfl, by decide +kernel, by decide +kernel⟩
theorem ok_draw {f : Addr} {fd : FuncData} (F : Fun K "_law_draw" "_law_draw" sDraw f fd) (m_len : mg "len" = none) (m_int : mg "int" = none) : FnOk P w K mg base CX0 1 f fd ["_law_pool_here", "_law_many_here"] (spDraw K) := by
  refine F.ok scDraw (fun vs H Q E h => ?_) (fun cdv A outer s H vs Q E hr h => ?_)
  · obtain ⟨o, q, many, rfl, _⟩ := h
    rfl
  · obtain ⟨o, p, many, rfl, ⟨at_, ns, ho, np, hp, hl, hn⟩, m1, m2, q⟩ := h
    refine ⟨_, (pss_cons (ps_set (i := 2) scDraw.nd rfl (.inl rfl) (pe_ix (ix_listK (K := K) rfl) (pv 0) pe_int (fun _ _ => rfl)))
       (pss_cons (ps_asg (pe_op op_add (pv 2) pe_int) (pg_sub (pv 0) pe_int set_list))
       (pss_one (ps_ret (pe_ifExp (pt_cmpR op_lt (pv 2) (pe_callB (call_len_K (K := K) rfl) (by rfl) m_len PySem.boot_len (pa_cons (pe_ix (ix_listK (K := K) rfl) (pv 0) pe_int (fun _ _ => rfl)) pa_nil)) (nomark _))
       (pe_op op_modN (pe_callTy call_int1 (by rfl) m_int (by decide +kernel) (pa_cons (pe_ix (ix_listK (K := K) rfl) (pe_ix (ix_listK (K := K) rfl) (pv 0) pe_int (fun _ _ => rfl)) (pv 2) (fun _ _ => rfl)) pa_nil)) (pv 1))
       pe_int))))), ?_⟩
    refine ⟨_, rfl, o, _, _, _, rfl, rfl, SqL.of ho, rfl, ?_⟩
    refine ⟨_, rfl, _, _, rfl, rfl, _, rfl, o, _, 1, 1, rfl, rfl, ho, rfl, ?_⟩
    have e1 : (upd H o (.lst ([V.ref p, V.int (at_ : Nat)].set 1 (.int ((at_ : Int) + 1))))) o = some (.lst [.ref p, .int ((at_ + 1 : Nat) : Int)]) := upd_same
    have b1 : SameBut o H (upd H o (.lst ([V.ref p, V.int (at_ : Nat)].set 1 (.int ((at_ : Int) + 1))))) := but_upd
    generalize upd H o (.lst ([V.ref p, V.int (at_ : Nat)].set 1 (.int ((at_ : Int) + 1)))) = H1 at e1 b1
    have hp1 := b1 _ _ np hp
    have P1 : PoolAt H1 o p := ⟨at_ + 1, ns, e1, np, hp1, hl, hn⟩
    refine ⟨_, rfl, _, rfl, o, _, _, _, rfl, rfl, SqL.of e1, rfl, p, _, rfl, .inl (SqL.of hp1), _, _, rfl, rfl, _, rfl, ?_⟩
    by_cases h : ((at_ : Nat) : Int) < ((ns.map V.int).length : Nat)
    · rw [decide_eq_true h]
      refine iteT ?_
      rw [List.length_map] at h
      have hi : at_ < ns.length := by omega
      have hx : (ns.map V.int)[at_]? = some (V.int ns[at_]) := by rw [List.getElem?_map, List.getElem?_eq_getElem hi]; rfl
      refine ⟨_, rfl, o, _, _, _, rfl, rfl, SqL.of e1, rfl, _, rfl, p, _, _, _, rfl, rfl, SqL.of hp1, atI_nat hx, ?_⟩
      refine .inl ⟨_, rfl, _, rfl, _, _, rfl, rfl, by omega, ?_⟩
      exact q H1 _ b1 P1 (Int.fmod_nonneg_of_pos _ (by omega)) (Int.fmod_lt_of_pos _ (by omega))
    · rw [decide_eq_false h]
      exact iteF (q H1 0 b1 P1 (Int.le_refl _) (by omega))
abbrev sPick : Stmt := top 41
theorem scPick : FnScope ["_law_pool_here", "_law_some_here"] ["_law_pool_here", "_law_some_here"] (defScope sPick) := ⟨rfl, rfl, rfl, by decide +kernel, rfl, by decide +kernel, by decide +kernel⟩
theorem ok_pick {f fD : Addr} {fd fdD : FuncData} (F : Fun K "_law_pick" "_law_pick" sPick f fd) (GD : FnOk P w K mg base CX0 1 fD fdD ["_law_pool_here", "_law_many_here"] (spDraw K)) (TD : Called K mg "_law_draw" ["_law_pool_here", "_law_many_here"] fD fdD) (m_len : mg "len" = none) : FnOk P w K mg base CX0 2 f fd ["_law_pool_here", "_law_some_here"] (spPick K) := by
  refine F.ok scPick (fun vs H Q E h => ?_) (fun cdv A outer s H vs Q E hr h => ?_)
  · obtain ⟨o, q, l, xs, rfl, _⟩ := h
    rfl
  · obtain ⟨o, pq, l, xs, rfl, hp, n, hx, ne, hz, q⟩ := h
    refine ⟨_, (pss_one (ps_ret (pe_ix (ix_listK (K := K) rfl) (pv 1) (pe_call GD (hr.mono (by first | decide | omega)) rfl TD.1 TD.2.1 TD.2.2 .nil pass0 (pa_cons (pv 0) (pa_cons (pe_callB (call_len_K (K := K) rfl) (by rfl) m_len PySem.boot_len (pa_cons (pv 1) pa_nil)) pa_nil))) (fun _ _ => rfl)))), ?_⟩
    have hpos : 0 < xs.length := List.length_pos_iff.mpr ne
    refine ⟨_, rfl, _, rfl, _, rfl, l, xs, rfl, .inl hx, o, pq, _, rfl, hp, by omega, by omega, fun H' i b hp' i0 i1 => ?_⟩
    have hi : i.toNat < xs.length := by omega
    refine ⟨l, xs, i, xs[i.toNat], rfl, rfl, Rw.sqL_but b n hx, ?_, q H' _ b hp' (List.getElem_mem hi)⟩
    have e : i = ((i.toNat : Nat) : Int) := by omega
    have z := atI_nat (xs := xs) (List.getElem?_eq_getElem hi)
    rw [← e] at z
    exact z
abbrev sTruth : Stmt := top 45
theorem scTruth : FnScope ["_law_found", "_law_due_here"] ["_law_found", "_law_due_here"] (defScope sTruth) := ⟨rfl, rfl, rfl, by decide +kernel, rfl, by decide +kernel, by decide +kernel⟩
theorem ok_truth {f : Addr} {fd : FuncData} (F : Fun K "_law_truth" "_law_truth" sTruth f fd) (m_isinstance : mg "isinstance" = none) (m_bool : mg "bool" = none) : FnOk P w K mg base CX0 1 f fd ["_law_found", "_law_due_here"] (spTruth K) := by
  refine F.ok scTruth (fun vs H Q E h => ?_) (fun cdv A outer s H vs Q E hr h => ?_)
  · obtain ⟨a, b, rfl, _⟩ := h
    rfl
  · obtain ⟨a, b, rfl, q⟩ := h
    refine ⟨_, (pss_one (ps_ret (pe_and (pe_callB (call_isiKK (K := K) rfl) (by rfl) m_isinstance (by decide +kernel) (pa_cons (pv 0) (pa_cons (pe_bltn (v := .ty "bool") (by rfl) m_bool (by decide +kernel) rfl) pa_nil))) (pe_one (pe_cmpR op_eq (pv 0) (pv 1) (nomark _)))))), ?_⟩
    have kt : PySem.W.kitOne K (.type "bool") (.type "bool") = some true := kit_ty (by decide +kernel)
    refine ⟨_, rfl, _, _, _, _, _, rfl, .ty _, .base (.bl a), kt, _, rfl, iteT ?_⟩
    refine ⟨_, rfl, _, rfl, rfl, ?_⟩
    have e : decide (V.bl a = V.bl b) = decide (a = b) := by
      by_cases h : a = b
      · rw [h, decide_eq_true rfl, decide_eq_true rfl]
      · rw [decide_eq_false h, decide_eq_false (fun e => h (V.bl.inj e))]
    rw [e]
    exact q H (Same.refl H)
end
end Tr

/-! P17 -/
/-! ### what is drawn: plain items, those in pieces -/
namespace Tr
open PySem PySem.Spec PyProof.Rows L2 Rw
structure It (b c : Nat) (d : D) : Prop where
  good : goodD d = true
  dep : d.depth ≤ b
  cnt : cntD d ≤ c
structure Its (b c : Nat) (ds : List D) : Prop where
  good : goodAll ds = true
  dep : PyData.depthAll ds ≤ b
  cnt : cntAll ds ≤ c
theorem Its.nil : Its 0 0 [] := ⟨by rw [goodAll], by rw [PyData.depthAll]; exact Nat.zero_le _, by rw [cntAll]; exact Nat.zero_le _⟩
theorem It.mono {b c b' c' : Nat} {d : D} (h : It b c d) (e1 : b ≤ b' := by decide) (e2 : c ≤ c' := by decide) : It b' c' d := ⟨h.good, Nat.le_trans h.dep e1, Nat.le_trans h.cnt e2⟩
theorem Its.mono {b c b' c' : Nat} {d : List D} (h : Its b c d) (e1 : b ≤ b' := by decide) (e2 : c ≤ c' := by decide) : Its b' c' d := ⟨h.good, Nat.le_trans h.dep e1, Nat.le_trans h.cnt e2⟩
theorem Its.cons {b1 b2 c1 c2 : Nat} {d : D} {ds : List D} (h : It b1 c1 d) (t : Its b2 c2 ds) : Its (max b1 b2) (c1 + c2) (d :: ds) := by
  obtain ⟨a1, a2, a3⟩ := h
  obtain ⟨d1, d2, d3⟩ := t
  refine ⟨?_, ?_, ?_⟩
  · rw [goodAll, a1, d1]; rfl
  · rw [PyData.depthAll]; omega
  · rw [cntAll]; omega
theorem Its.app {b b1 b2 c1 c2 c : Nat} : ∀ {as bs : List D}, Its b1 c1 as → Its b2 c2 bs → b1 ≤ b → b2 ≤ b → c1 + c2 ≤ c → Its b c (as ++ bs) := by
  intro as bs h t e1 e2 e
  have go : ∀ as : List D, goodAll as = true → goodAll (as ++ bs) = true ∧ PyData.depthAll (as ++ bs) ≤ max (PyData.depthAll as) (PyData.depthAll bs) ∧ cntAll (as ++ bs) = cntAll as + cntAll bs := by
    intro as
    induction as with
    | nil => intro _; exact ⟨t.good, by rw [List.nil_append]; exact Nat.le_max_right _ _, by rw [List.nil_append, cntAll]; omega⟩
    | cons a r ih =>
      intro g
      rw [goodAll, Bool.and_eq_true] at g
      obtain ⟨i1, i2, i3⟩ := ih g.2
      rw [List.cons_append, goodAll, g.1, i1, PyData.depthAll, PyData.depthAll, cntAll, cntAll, i3]
      exact ⟨rfl, by omega, by omega⟩
  obtain ⟨g1, g2, g3⟩ := go as h.good
  have h1 := h.dep
  have h2 := t.dep
  have h3 := h.cnt
  have h4 := t.cnt
  exact ⟨g1, by omega, by omega⟩
theorem It.tup {b c : Nat} {ds : List D} (h : Its b c ds) : It (b + 1) (c + 1) (.tuple ds) := by
  obtain ⟨a1, a2, a3⟩ := h
  exact ⟨by rw [goodD]; exact a1, by rw [PyData.depth]; omega, by rw [cntD]; omega⟩
theorem It.str {n : Str} (h : goodD (.str n) = true) : It 0 1 (.str n) := ⟨h, by simp [PyData.depth], by simp [cntD]⟩
theorem Its.at {b c : Nat} {ds : List D} {d : D} (h : Its b c ds) (m : d ∈ ds) : It b c d := by
  induction ds with
  | nil => cases m
  | cons a r ih =>
    obtain ⟨a1, a2, a3⟩ := h
    rw [goodAll, Bool.and_eq_true] at a1
    rw [PyData.depthAll] at a2
    rw [cntAll] at a3
    cases m with
    | head => exact ⟨a1.1, by omega, by omega⟩
    | tail _ m => exact ih ⟨a1.2, by omega, by omega⟩ m
theorem Its.fits {b c : Nat} {ds : List D} (h : Its b c ds) (e : c ≤ 60000) {n : Nat} (e2 : b < n) : Fits n ds := ⟨h.good, Nat.lt_of_le_of_lt h.dep e2, Nat.le_trans h.cnt e⟩
theorem It.fits {b c : Nat} {d : D} (h : It b c d) (e : c ≤ 60000) {n : Nat} (e2 : b < n) : FitD n d := ⟨h.good, Nat.lt_of_le_of_lt h.dep e2, Nat.le_trans h.cnt e⟩
structure Brs (s : Nat) (ds : List D) : Prop where
  len : (flat ds).length ≤ s
  br : ∀ e ∈ flat ds, BrOk e
theorem Brs.nil {s : Nat} : Brs s [] := ⟨by rw [flat]; exact Nat.zero_le _, fun e h => by rw [flat] at h; cases h⟩
theorem Brs.app {a b s : Nat} {x y : List D} (h : Brs a x) (t : Brs b y) (e : a + b ≤ s) : Brs s (x ++ y) := by
  refine ⟨?_, fun z hz => ?_⟩
  · have h1 := h.len
    have h2 := t.len
    rw [flat_app, List.length_append]
    omega
  · rw [flat_app] at hz
    exact (List.mem_append.mp hz).elim (h.br z) (t.br z)
theorem Brs.mono {a b : Nat} {x : List D} (h : Brs a x) (e : a ≤ b) : Brs b x := ⟨Nat.le_trans h.len e, h.br⟩
theorem Brs.leaf {d : D} (h : BrOk d) (k : kids d = []) : Brs 1 [d] := by
  have e : flat [d] = [d] := by rw [flat_one, flatk_kids, k]; rfl
  exact ⟨by rw [e]; exact Nat.le_refl _, fun z hz => by rw [e] at hz; rw [List.mem_singleton.mp hz]; exact h⟩
theorem Brs.fork {a b s : Nat} {d : D} {x y : List D} (h : BrOk d) (k : kids d = [x, y]) (hx : Brs a x) (hy : Brs b y) (e : a + b + 1 ≤ s) : Brs s [d] := by
  have f : flat [d] = d :: (flat x ++ flat y) := by rw [flat_one, flatk_kids, k]; simp
  have h1 := hx.len
  have h2 := hy.len
  refine ⟨by rw [f, List.length_cons, List.length_append]; omega, fun z hz => ?_⟩
  rw [f] at hz
  cases hz with
  | head => exact h
  | tail _ hz => exact (List.mem_append.mp hz).elim (hx.br z) (hy.br z)
theorem br_leaf {w : Str} {r : List D} (h1 : w ≠ "test") (h2 : w ≠ "choose") (h3 : w = "take" ∨ w = "give" ∨ w = "piece" → ∃ n r', r = .str n :: r') : Brs 1 [.tuple (.str w :: r)] :=
  Brs.leaf ⟨w, r, rfl, fun e => absurd e h1, fun e => absurd e h2, h3⟩ (kids_none h1 h2)
theorem br_test {n : D} {x y : List D} {a b s : Nat} (hx : Brs a x) (hy : Brs b y) (e : a + b + 1 ≤ s) : Brs s [.tuple [.str "test", n, .tuple x, .tuple y]] :=
  Brs.fork ⟨_, _, rfl, fun _ => ⟨n, x, y, rfl⟩, fun e => absurd e test_choose, fun e => absurd e (by decide +kernel)⟩ kids_test hx hy e
theorem br_choose {x y : List D} {a b s : Nat} (hx : Brs a x) (hy : Brs b y) (e : a + b + 1 ≤ s) : Brs s [.tuple [.str "choose", .tuple x, .tuple y]] :=
  Brs.fork ⟨_, _, rfl, fun e => absurd e.symm test_choose, fun _ => ⟨x, y, rfl⟩, fun e => absurd e (by decide +kernel)⟩ kids_choose hx hy e
/-- names in a list -/
def NamesAt (H0 : Hp) (nl : Addr) (ns : List Str) : Prop := H0 nl = some (.lst (ns.map V.str)) ∧ ns ≠ [] ∧ ns.length ≤ 100 ∧ ∀ n ∈ ns, goodD (.str n) = true
theorem NamesAt.same {H H' : Hp} {nl : Addr} {ns : List Str} (s : Same H H') (h : NamesAt H nl ns) : NamesAt H' nl ns := ⟨s _ _ h.1, h.2⟩
theorem newT {K : PySem.W.Frag} {H : Hp} {o qq t : Addr} {vs : List V} {ds : List D} (p : PoolAt H o qq) (nt : H t = none) (h : DpAll K (wh o H) vs ds) : Dp K (wh o (upd H t (.tup vs))) (.ref t) (.tuple ds) := .tup (SqT.of (wh_new p nt)) (h.same (wh_upd nt))
theorem pickN {K : PySem.W.Frag} {H : Hp} {o qq nl : Addr} {ns : List Str} {Q : VK} (p : PoolAt H o qq) (hn : NamesAt (wh o H) nl ns) (q : ∀ H' n, SameBut o H H' → PoolAt H' o qq → NamesAt (wh o H') nl ns → n ∈ ns → goodD (.str n) = true → Q (.str n) H') (E : XK := fun _ _ _ => True) : spPick K [.ref o, .ref nl] H Q E := by
  refine ⟨o, qq, nl, _, rfl, p, wh_ne hn.1, SqL.of (wh_sub _ _ hn.1), ?_, ?_, fun H' x b p' hx => ?_⟩
  · intro e
    exact hn.2.1 (List.map_eq_nil_iff.mp e)
  · rw [List.length_map]
    have := hn.2.2.1
    omega
  · obtain ⟨n, mem, rfl⟩ := List.mem_map.mp hx
    exact q H' n b p' (hn.same (wh_but b)) mem (hn.2.2.2 n mem)
theorem drawN {K : PySem.W.Frag} {H : Hp} {o qq : Addr} {m : Int} {Q : VK} (p : PoolAt H o qq) (m1 : 1 ≤ m) (m2 : m ≤ 1000) (q : ∀ H' n, SameBut o H H' → PoolAt H' o qq → 0 ≤ n → n < m → Q (.int n) H') (E : XK := fun _ _ _ => True) : spDraw K [.ref o, .int m] H Q E := ⟨o, qq, m, rfl, p, m1, m2, q⟩
def wl6 : List Str := ["use", "start", "cancel", "set", "clear", "start"]
theorem wl6_good : ∀ w ∈ wl6, goodD (.str w) = true := by decide +kernel
theorem wl6_free : ∀ w ∈ wl6, w ≠ "test" ∧ w ≠ "choose" ∧ w ≠ "take" ∧ w ≠ "give" ∧ w ≠ "piece" := by decide +kernel
def spPl (K : PySem.W.Frag) : Sp := fun vs H Q _ => ∃ (o qq nl : Addr) (ns : List Str), vs = [.ref o, .ref nl] ∧ PoolAt H o qq ∧ NamesAt (wh o H) nl ns ∧ ∀ H' v d, SameBut o H H' → PoolAt H' o qq → Dp K (wh o H') v d → It 1 3 d → Brs 1 [d] → Q v H'
def spIr (K : PySem.W.Frag) : Sp := fun vs H Q _ => ∃ (o qq nl : Addr) (ns : List Str), vs = [.ref o, .ref nl] ∧ PoolAt H o qq ∧ NamesAt (wh o H) nl ns ∧ ∀ H' v d, SameBut o H H' → PoolAt H' o qq → Dp K (wh o H') v d → It 8 20 d → Q v H'
theorem useG : goodD (.str "use") = true := by decide +kernel
theorem startG : goodD (.str "start") = true := by decide +kernel
theorem testG : goodD (.str "test") = true := by decide +kernel
section
variable {P : Program} {w : World} {K : PySem.W.Frag} {mg : Str → Option Value} {base : Heap}
abbrev sPl : Stmt := top 46
theorem scPl : FnScope ["_law_pool_here", "_law_names", "_law_word"] ["_law_pool_here", "_law_names"] (defScope sPl) := ⟨rfl, rfl, rfl, by decide +kernel, rfl, by decide +kernel, by decide +kernel⟩
theorem ok_pl {f fP : Addr} {fd fdP : FuncData} (F : Fun K "_law_plain" "_law_plain" sPl f fd) (GP : FnOk P w K mg base CX0 2 fP fdP ["_law_pool_here", "_law_some_here"] (spPick K)) (TP : Called K mg "_law_pick" ["_law_pool_here", "_law_some_here"] fP fdP) : FnOk P w K mg base CX0 3 f fd ["_law_pool_here", "_law_names"] (spPl K) := by
  refine F.ok scPl (fun vs H Q E h => ?_) (fun cdv A outer s H vs Q E hr h => ?_)
  · obtain ⟨o, qq, nl, ns, rfl, _⟩ := h
    rfl
  · obtain ⟨o, qq, nl, ns, rfl, hp, hn, q⟩ := h
    refine ⟨_, (pss_cons (ps_set (i := 2) scPl.nd rfl (.inl rfl) (pe_call GP (hr.mono (by first | decide | omega)) rfl TP.1 TP.2.1 TP.2.2 .nil pass0 (pa_cons (pv 0) (pa_cons (pe_lst (pa_cons pe_str (pa_cons pe_str (pa_cons pe_str (pa_cons pe_str (pa_cons pe_str (pa_cons pe_str pa_nil))))))) pa_nil))))
       (pss_one (ps_ret (pe_ifExp (pt_cmpR op_eq (pv 2) pe_str (nomark _))
       (pe_tup (pa_cons pe_str pa_nil))
       (pe_tup (pa_cons (pv 2) (pa_cons (pe_call GP (hr.mono (by first | decide | omega)) rfl TP.1 TP.2.1 TP.2.2 .nil pass0 (pa_cons (pv 0) (pa_cons (pv 1) pa_nil))) pa_nil))))))), ?_⟩
    refine ⟨_, rfl, by show 6 ≤ sizeLine; decide, fun l nw => ?_⟩
    have s0 := same_upd (o := HO.lst (wl6.map V.str)) nw
    refine ⟨o, qq, l, wl6.map V.str, rfl, pool_upd hp nw, pool_ne hp nw, SqL.of upd_same, by decide, by decide, fun H1 x b1 p1 hx => ?_⟩
    obtain ⟨wd, hw, rfl⟩ := List.mem_map.mp hx
    have b01 := (but_of s0).trans b1
    have hn1 := hn.same (wh_but b01)
    refine ⟨_, rfl, rfl, _, rfl, ?_⟩
    rw [Rw.dec_str]
    by_cases hu : wd = "use"
    · rw [decide_eq_true hu]
      refine iteT ⟨by show 1 ≤ sizeLine; decide, fun t nt => ?_⟩
      refine q _ _ _ (b01.trans (but_of (same_upd nt))) (pool_upd p1 nt) (newT p1 nt (.cons (.str _) .nil)) (It.mono (It.tup (Its.cons (It.str useG) Its.nil))) (br_leaf (by decide +kernel) (by decide +kernel) (fun e => absurd e (by decide +kernel)))
    · rw [decide_eq_false hu]
      refine iteF ⟨_, rfl, _, rfl, _, rfl, pickN p1 hn1 fun H2 n b2 p2 hn2 _ gn => ⟨by show 2 ≤ sizeLine; decide, fun t nt => ?_⟩⟩
      have fr := wl6_free wd hw
      refine q _ _ _ ((b01.trans b2).trans (but_of (same_upd nt))) (pool_upd p2 nt) (newT p2 nt (.cons (.str _) (.cons (.str _) .nil))) (It.mono (It.tup (Its.cons (It.str (wl6_good wd hw)) (Its.cons (It.str gn) Its.nil)))) (br_leaf fr.1 fr.2.1 (fun e => ?_))
      exact e.elim (fun e => absurd e fr.2.2.1) fun e => e.elim (fun e => absurd e fr.2.2.2.1) fun e => absurd e fr.2.2.2.2
end
end Tr

/-! P18 -/
/-! ### what is drawn for a piece -/
namespace Tr
open PySem PySem.Spec PyProof.Rows L2 Rw
/-- what was got: new, the pool has moved on -/
structure Got (K : PySem.W.Frag) (o qq : Addr) (b c : Nat) (H : Hp) (v : V) (H' : Hp) : Prop where
  but : SameBut o H H'
  pool : PoolAt H' o qq
  ex : ∃ d, Dp K (wh o H') v d ∧ It b c d
section
variable {P : Program} {w : World} {K : PySem.W.Frag} {mg : Str → Option Value} {base : Heap}
abbrev sIr : Stmt := top 47
theorem scIr : FnScope ["_law_pool_here", "_law_names", "_law_one", "_law_way", "_law_deep"] ["_law_pool_here", "_law_names"] (defScope sIr) := ⟨rfl, rfl, rfl, by decide +kernel, rfl, by decide +kernel, by decide +kernel⟩
theorem ok_ir {f fP fD : Addr} {fd fdP fdD : FuncData} (F : Fun K "_law_inner" "_law_inner" sIr f fd) (GP : FnOk P w K mg base CX0 2 fP fdP ["_law_pool_here", "_law_some_here"] (spPick K)) (TP : Called K mg "_law_pick" ["_law_pool_here", "_law_some_here"] fP fdP)
    (GD : FnOk P w K mg base CX0 1 fD fdD ["_law_pool_here", "_law_many_here"] (spDraw K)) (TD : Called K mg "_law_draw" ["_law_pool_here", "_law_many_here"] fD fdD) : FnOk P w K mg base CX0 3 f fd ["_law_pool_here", "_law_names"] (spIr K) := by
  refine F.ok scIr (fun vs H Q E h => ?_) (fun cdv A outer s H vs Q E hr h => ?_)
  · obtain ⟨o, qq, nl, ns, rfl, _⟩ := h
    rfl
  · obtain ⟨o, qq, nl, ns, rfl, hp, hn, q⟩ := h
    refine ⟨_, (pss_cons (ps_set (i := 2) scIr.nd rfl (.inl rfl) (pe_ifExp (pt_cmpR op_gt (pe_call GD (hr.mono (by first | decide | omega)) rfl TD.1 TD.2.1 TD.2.2 .nil pass0 (pa_cons (pv 0) (pa_cons pe_int pa_nil))) pe_int (nomark _))
       (pe_tup (pa_cons pe_str (pa_cons (pe_call GP (hr.mono (by first | decide | omega)) rfl TP.1 TP.2.1 TP.2.2 .nil pass0 (pa_cons (pv 0) (pa_cons (pv 1) pa_nil))) pa_nil)))
       (pe_tup (pa_cons pe_str pa_nil))))
       (pss_cons (ps_set (i := 3) scIr.nd rfl (.inl rfl) (pe_call GD (hr.mono (by first | decide | omega)) rfl TD.1 TD.2.1 TD.2.2 .nil pass0 (pa_cons (pv 0) (pa_cons pe_int pa_nil))))
       (pss_cons (ps_if (pt_cmpR op_eq (pv 3) pe_int (nomark _))
       (pss_one (ps_ret (pe_tup (pa_cons (pv 2) pa_nil))))
       pss_nil)
       (pss_cons (ps_if (pt_cmpR op_eq (pv 3) pe_int (nomark _))
       (pss_one (ps_ret (pe_tup (pa_cons (pv 2) (pa_cons (pe_tup (pa_cons pe_str pa_nil)) (pa_cons (pe_tup (pa_cons pe_str (pa_cons (pe_call GP (hr.mono (by first | decide | omega)) rfl TP.1 TP.2.1 TP.2.2 .nil pass0 (pa_cons (pv 0) (pa_cons (pv 1) pa_nil))) pa_nil))) (pa_cons (pv 2) pa_nil)))))))
       pss_nil)
       (pss_cons (ps_set (i := 4) scIr.nd rfl (.inl rfl) (pe_ifExp (pt_cmpR op_lt (pv 3) pe_int (nomark _))
       (pe_tup (pa_cons pe_str (pa_cons (pe_call GP (hr.mono (by first | decide | omega)) rfl TP.1 TP.2.1 TP.2.2 .nil pass0 (pa_cons (pv 0) (pa_cons (pv 1) pa_nil))) (pa_cons (pe_tup (pa_cons (pv 2) pa_nil)) (pa_cons (pe_tup pa_nil) pa_nil)))))
       (pe_tup (pa_cons pe_str (pa_cons (pe_call GP (hr.mono (by first | decide | omega)) rfl TP.1 TP.2.1 TP.2.2 .nil pass0 (pa_cons (pv 0) (pa_cons (pv 1) pa_nil))) (pa_cons (pe_tup pa_nil) (pa_cons (pe_tup (pa_cons (pv 2) pa_nil)) pa_nil)))))))
       (pss_cons (ps_if (pt_cmpR op_eq (pv 3) pe_int (nomark _))
       (pss_one (ps_ret (pe_tup (pa_cons (pv 4) (pa_cons (pe_tup (pa_cons pe_str (pa_cons (pe_call GP (hr.mono (by first | decide | omega)) rfl TP.1 TP.2.1 TP.2.2 .nil pass0 (pa_cons (pv 0) (pa_cons (pv 1) pa_nil))) pa_nil))) pa_nil)))))
       pss_nil)
       (pss_cons (ps_set (i := 4) scIr.nd rfl (.inl rfl) (pe_tup (pa_cons pe_str (pa_cons (pe_call GP (hr.mono (by first | decide | omega)) rfl TP.1 TP.2.1 TP.2.2 .nil pass0 (pa_cons (pv 0) (pa_cons (pv 1) pa_nil))) (pa_cons (pe_tup pa_nil) (pa_cons (pe_tup (pa_cons (pv 4) pa_nil)) pa_nil))))))
       (pss_one (ps_ret (pe_tup (pa_cons (pe_tup (pa_cons pe_str (pa_cons (pe_call GP (hr.mono (by first | decide | omega)) rfl TP.1 TP.2.1 TP.2.2 .nil pass0 (pa_cons (pv 0) (pa_cons (pv 1) pa_nil))) (pa_cons (pe_tup (pa_cons (pv 4) pa_nil)) (pa_cons (pe_tup pa_nil) pa_nil))))) pa_nil))))))))))), ?_⟩
    refine seqS_in (asg_via (Got K o qq 1 3 H) (fun Qx hQ => ?_) (fun v1 H1 ⟨b1, p1, d1, hv1, i1⟩ => name_in ?_))
    · refine ⟨_, rfl, o, qq, _, rfl, hp, by decide, by decide, fun H1 n b1 p1 n0 n1 => ⟨_, _, rfl, rfl, _, rfl, ite_any ?_ ?_⟩⟩
      · refine ⟨_, rfl, _, rfl, pickN p1 (hn.same (wh_but b1)) fun H2 n b2 p2 hn2 _ gn => ⟨by show 2 ≤ sizeLine; decide, fun t nt => hQ _ _ ?_⟩⟩
        exact ⟨(b1.trans b2).trans (but_of (same_upd nt)), pool_upd p2 nt, _, newT p2 nt (.cons (.str _) (.cons (.str _) .nil)), It.mono (It.tup (Its.cons (It.str startG) (Its.cons (It.str gn) Its.nil)))⟩
      · refine ⟨by show 1 ≤ sizeLine; decide, fun t nt => hQ _ _ ?_⟩
        exact ⟨b1.trans (but_of (same_upd nt)), pool_upd p1 nt, _, newT p1 nt (.cons (.str _) .nil), It.mono (It.tup (Its.cons (It.str useG) Its.nil))⟩
    have hn1 := hn.same (wh_but b1)
    refine seqS_in ⟨_, rfl, o, qq, _, rfl, p1, by decide, by decide, fun H2 w b2 p2 w0 w5 => name_in ?_⟩
    have b12 := b1.trans b2
    have hn2 := hn1.same (wh_but b2)
    have hv2 := hv1.same (wh_but b2)
    refine seqS_in ⟨_, rfl, rfl, _, rfl, ite_any ?_ ?_⟩
    · refine ⟨_, rfl, by show 1 ≤ sizeLine; decide, fun t nt => q _ _ _ (b12.trans (but_of (same_upd nt))) (pool_upd p2 nt) (newT p2 nt (.cons hv2 .nil)) (It.mono (It.tup (Its.cons i1 Its.nil)))⟩
    refine seqS_in ⟨_, rfl, rfl, _, rfl, ite_any ?_ ?_⟩
    · refine ⟨_, rfl, by show 1 ≤ sizeLine; decide, fun t nt => ?_⟩
      have s3 := same_upd (o := HO.tup [V.str "use"]) nt
      have p3 := pool_upd (x := HO.tup [V.str "use"]) p2 nt
      have u3 := newT (K := K) p2 nt (.cons (.str _) .nil : DpAll K (wh o H2) [V.str "use"] [.str "use"])
      refine ⟨_, rfl, _, rfl, pickN p3 (hn2.same (wh_but (but_of s3))) fun H4 n b4 p4 hn4 _ gn => ⟨by show 2 ≤ sizeLine; decide, fun t2 nt2 => ?_⟩⟩
      have b34 := (but_of s3).trans b4
      have s5 := same_upd (o := HO.tup [V.str "start", V.str n]) nt2
      have p5 := pool_upd (x := HO.tup [V.str "start", V.str n]) p4 nt2
      have w5 := wh_same (o := o) s5
      refine ⟨_, rfl, by show 4 ≤ sizeLine; decide, fun t4 nt4 => ?_⟩
      have hv5 := (hv2.same (wh_but b34)).same w5
      refine q _ _ _ (((b12.trans b34).trans (but_of s5)).trans (but_of (same_upd nt4))) (pool_upd p5 nt4) (newT p5 nt4 (.cons hv5 (.cons ((u3.same (wh_but b4)).same w5) (.cons (newT p4 nt2 (.cons (.str _) (.cons (.str _) .nil))) (.cons hv5 .nil)))))
        (It.mono (It.tup (Its.cons i1 (Its.cons (It.tup (Its.cons (It.str useG) Its.nil)) (Its.cons (It.tup (Its.cons (It.str startG) (Its.cons (It.str gn) Its.nil))) (Its.cons i1 Its.nil))))))
    dsimp only [tNext]
    refine seqS_in (asg_via (Got K o qq 3 8 H2) (fun Qx hQ => ?_) (fun v3 H3 ⟨b3, p3, d3, hv3, i3⟩ => name_in ?_))
    · refine ⟨_, rfl, _, _, rfl, rfl, _, rfl, ite_any ?_ ?_⟩
      · refine ⟨_, rfl, _, rfl, pickN p2 hn2 fun H4 n b4 p4 hn4 _ gn => ⟨_, rfl, by show 1 ≤ sizeLine; decide, fun t nt => ⟨Nat.zero_le _, fun e ne => ⟨by show 4 ≤ sizeLine; decide, fun t4 nt4 => hQ _ _ ?_⟩⟩⟩⟩
        have s5 := same_upd (o := HO.tup [v1]) nt
        have p5 := pool_upd (x := HO.tup [v1]) p4 nt
        have h5 := newT p4 nt (.cons (hv2.same (wh_but b4)) .nil)
        have s6 := same_upd (o := HO.tup []) ne
        have p6 := pool_upd (x := HO.tup []) p5 ne
        have h6 := newT (K := K) p5 ne .nil
        exact ⟨b4.trans ((but_of s5).trans ((but_of s6).trans (but_of (same_upd nt4)))), pool_upd p6 nt4, _, newT p6 nt4 (.cons (.str _) (.cons (.str _) (.cons (h5.same (wh_same s6)) (.cons h6 .nil)))), It.mono (It.tup (Its.cons (It.str testG) (Its.cons (It.str gn) (Its.cons (It.tup (Its.cons i1 Its.nil)) (Its.cons (It.tup Its.nil) Its.nil)))))⟩
      · refine ⟨_, rfl, _, rfl, pickN p2 hn2 fun H4 n b4 p4 hn4 _ gn => ⟨Nat.zero_le _, fun e ne => ⟨_, rfl, by show 1 ≤ sizeLine; decide, fun t nt => ⟨by show 4 ≤ sizeLine; decide, fun t4 nt4 => hQ _ _ ?_⟩⟩⟩⟩
        have s5 := same_upd (o := HO.tup []) ne
        have p5 := pool_upd (x := HO.tup []) p4 ne
        have h5 := newT (K := K) p4 ne .nil
        have s6 := same_upd (o := HO.tup [v1]) nt
        have p6 := pool_upd (x := HO.tup [v1]) p5 nt
        have h6 := newT p5 nt (.cons ((hv2.same (wh_but b4)).same (wh_same s5)) .nil)
        exact ⟨b4.trans ((but_of s5).trans ((but_of s6).trans (but_of (same_upd nt4)))), pool_upd p6 nt4, _, newT p6 nt4 (.cons (.str _) (.cons (.str _) (.cons (h5.same (wh_same s6)) (.cons h6 .nil)))), It.mono (It.tup (Its.cons (It.str testG) (Its.cons (It.str gn) (Its.cons (It.tup Its.nil) (Its.cons (It.tup (Its.cons i1 Its.nil)) Its.nil)))))⟩
    have b13 := b12.trans b3
    have hn3 := hn2.same (wh_but b3)
    refine seqS_in ⟨_, rfl, rfl, _, rfl, ite_any ?_ ?_⟩
    · refine ⟨_, rfl, _, rfl, _, rfl, pickN p3 hn3 fun H4 n b4 p4 hn4 _ gn => ⟨by show 2 ≤ sizeLine; decide, fun t nt => ⟨by show 2 ≤ sizeLine; decide, fun t2 nt2 => ?_⟩⟩⟩
      have s5 := same_upd (o := HO.tup [V.str "start", V.str n]) nt
      have p5 := pool_upd (x := HO.tup [V.str "start", V.str n]) p4 nt
      refine q _ _ _ (b13.trans (b4.trans ((but_of s5).trans (but_of (same_upd nt2))))) (pool_upd p5 nt2) (newT p5 nt2 (.cons ((hv3.same (wh_but b4)).same (wh_same s5)) (.cons (newT p4 nt (.cons (.str _) (.cons (.str _) .nil))) .nil))) (It.mono (It.tup (Its.cons i3 (Its.cons (It.tup (Its.cons (It.str startG) (Its.cons (It.str gn) Its.nil))) Its.nil))))
    dsimp only [tNext]
    refine seqS_in ⟨_, rfl, _, rfl, pickN p3 hn3 fun H4 n b4 p4 hn4 _ gn => ⟨Nat.zero_le _, fun e ne => ⟨_, rfl, by show 1 ≤ sizeLine; decide, fun t nt => ⟨by show 4 ≤ sizeLine; decide, fun t4 nt4 => name_in ?_⟩⟩⟩⟩
    have s5 := same_upd (o := HO.tup []) ne
    have p5 := pool_upd (x := HO.tup []) p4 ne
    have h5 := newT (K := K) p4 ne .nil
    have s6 := same_upd (o := HO.tup [v3]) nt
    have p6 := pool_upd (x := HO.tup [v3]) p5 nt
    have h6 := newT p5 nt (.cons ((hv3.same (wh_but b4)).same (wh_same s5)) .nil)
    have s7 := same_upd (o := HO.tup [V.str "test", V.str n, V.ref e, V.ref t]) nt4
    have p7 := pool_upd (x := HO.tup [V.str "test", V.str n, V.ref e, V.ref t]) p6 nt4
    have h7 := newT p6 nt4 (.cons (.str "test") (.cons (.str n) (.cons (h5.same (wh_same s6)) (.cons h6 .nil))))
    have i7 := It.tup (Its.cons (It.str testG) (Its.cons (It.str gn) (Its.cons (It.tup Its.nil) (Its.cons (It.tup (Its.cons i3 Its.nil)) Its.nil))))
    have b7 := b13.trans (b4.trans (but_of (s5.trans (s6.trans s7))))
    have hn7 := hn4.same (wh_same (s5.trans (s6.trans s7)))
    generalize upd (upd (upd H4 e (HO.tup [])) t (HO.tup [v3])) t4 (HO.tup [V.str "test", V.str n, V.ref e, V.ref t]) = H7 at p7 h7 b7 hn7
    refine ⟨_, rfl, _, rfl, pickN p7 hn7 fun H8 n8 b8 p8 hn8 _ gn8 => ⟨_, rfl, by show 1 ≤ sizeLine; decide, fun t nt => ⟨Nat.zero_le _, fun e ne => ⟨by show 4 ≤ sizeLine; decide, fun t4 nt4 => ⟨by show 1 ≤ sizeLine; decide, fun t5 nt5 => ?_⟩⟩⟩⟩⟩
    refine q _ _ _ (b7.trans (b8.trans ((but_of (same_upd nt)).trans ((but_of (same_upd ne)).trans ((but_of (same_upd nt4)).trans (but_of (same_upd nt5))))))) (pool_upd (pool_upd (pool_upd (pool_upd p8 nt) ne) nt4) nt5)
      (newT (pool_upd (pool_upd (pool_upd p8 nt) ne) nt4) nt5 (.cons (newT (pool_upd (pool_upd p8 nt) ne) nt4 (.cons (.str _) (.cons (.str _) (.cons ((newT p8 nt (.cons (h7.same (wh_but b8)) .nil)).same (wh_upd ne)) (.cons (newT (pool_upd p8 nt) ne .nil) .nil))))) .nil))
      (It.mono (It.tup (Its.cons (It.tup (Its.cons (It.str testG) (Its.cons (It.str gn8) (Its.cons (It.tup (Its.cons i7 Its.nil)) (Its.cons (It.tup Its.nil) Its.nil))))) Its.nil)))
end
end Tr

/-! P20 -/
/-! ### the law's own look at the locks -/
namespace Rw
open PySem PySem.Spec PyProof.Rows L2
theorem eqv_list_txt (as bs : List Str) : PyData.eqv (.list (as.map PyData.str)) (.list (bs.map PyData.str)) = decide (as = bs) := by
  rw [show PyData.eqv (.list (as.map PyData.str)) (.list (bs.map PyData.str)) = PyData.eqvAll (as.map PyData.str) (bs.map PyData.str) by simp only [PyData.eqv]]
  exact eqvAll_txt as bs
section
variable {P : Program} {w : World} {K : PySem.W.Frag} {mg : Str → Option Value} {base : Heap}
end
end Rw

/-! ### what is drawn: tuples of items -/
namespace Tr
open PySem PySem.Spec PyProof.Rows L2 Rw
structure Dr (a s : Nat) (ds : List D) : Prop where
  its : Its (15 - 2 * a) (25 * (flat ds).length) ds
  brs : Brs s ds
theorem Dr.nil {a s : Nat} : Dr a s [] := ⟨Its.mono Its.nil (Nat.zero_le _) (Nat.zero_le _), Brs.nil⟩
theorem Dr.app {a s1 s2 s : Nat} {x y : List D} (h : Dr a s1 x) (t : Dr a s2 y) (e : s1 + s2 ≤ s) : Dr a s (x ++ y) :=
  ⟨Its.app h.its t.its (Nat.le_refl _) (Nat.le_refl _) (by rw [flat_app, List.length_append]; omega), Brs.app h.brs t.brs e⟩
theorem Dr.mono {a s1 s2 : Nat} {x : List D} (h : Dr a s1 x) (e : s1 ≤ s2) : Dr a s2 x := ⟨h.its, h.brs.mono e⟩
theorem Dr.tight {a s : Nat} {x : List D} (h : Dr a s x) : Dr a (flat x).length x := ⟨h.its, ⟨Nat.le_refl _, h.brs.br⟩⟩
theorem Dr.one {a b c : Nat} {d : D} (h : It b c d) (e1 : b ≤ 9) (e2 : c ≤ 25) (e3 : a ≤ 3) (br : Brs 1 [d]) : Dr a 1 [d] :=
  ⟨Its.mono (Its.cons h Its.nil) (by omega) (by rw [flat_one, List.length_cons]; omega), br⟩
theorem pieceG : goodD (.str "piece") = true := by decide +kernel
theorem takeG : goodD (.str "take") = true := by decide +kernel
theorem giveG : goodD (.str "give") = true := by decide +kernel
theorem chooseG : goodD (.str "choose") = true := by decide +kernel
theorem Dr.piece {a : Nat} {n : Str} {v : D} (h : It 8 20 v) (gn : goodD (.str n) = true) (e3 : a ≤ 3) : Dr a 1 [.tuple [.str "piece", .str n, v]] :=
  Dr.one (It.tup (Its.cons (It.str pieceG) (Its.cons (It.str gn) (Its.cons h Its.nil)))) (by decide) (by decide) e3 (br_leaf test_piece.symm choose_piece.symm fun _ => ⟨_, _, rfl⟩)
theorem Dr.take {a : Nat} {n : Str} (gn : goodD (.str n) = true) (e3 : a ≤ 3) : Dr a 1 [.tuple [.str "take", .str n]] :=
  Dr.one (It.tup (Its.cons (It.str takeG) (Its.cons (It.str gn) Its.nil))) (by decide) (by decide) e3 (br_leaf (by decide +kernel) (by decide +kernel) fun _ => ⟨_, _, rfl⟩)
theorem Dr.give {a : Nat} {n : Str} (gn : goodD (.str n) = true) (e3 : a ≤ 3) : Dr a 1 [.tuple [.str "give", .str n]] :=
  Dr.one (It.tup (Its.cons (It.str giveG) (Its.cons (It.str gn) Its.nil))) (by decide) (by decide) e3 (br_leaf (by decide +kernel) (by decide +kernel) fun _ => ⟨_, _, rfl⟩)
theorem Dr.choose {a s1 s2 s : Nat} {x y : List D} (hx : Dr (a + 1) s1 x) (hy : Dr (a + 1) s2 y) (e3 : a < 3) (e : s1 + s2 + 1 ≤ s) : Dr a s [.tuple [.str "choose", .tuple x, .tuple y]] := by
  refine ⟨Its.mono (Its.cons (It.tup (Its.cons (It.str chooseG) (Its.cons (It.tup hx.its) (Its.cons (It.tup hy.its) Its.nil)))) Its.nil) (by omega) ?_, br_choose hx.brs hy.brs e⟩
  rw [flat_one, flatk_kids, kids_choose]
  simp only [List.flatMap_cons, List.flatMap_nil, List.append_nil, List.length_cons, List.length_append]
  omega
theorem Dr.test {a s1 s2 s : Nat} {n : Str} {x y : List D} (gn : goodD (.str n) = true) (hx : Dr (a + 1) s1 x) (hy : Dr (a + 1) s2 y) (e3 : a < 3) (e : s1 + s2 + 1 ≤ s) : Dr a s [.tuple [.str "test", .str n, .tuple x, .tuple y]] := by
  refine ⟨Its.mono (Its.cons (It.tup (Its.cons (It.str testG) (Its.cons (It.str gn) (Its.cons (It.tup hx.its) (Its.cons (It.tup hy.its) Its.nil))))) Its.nil) (by omega) ?_, br_test hx.brs hy.brs e⟩
  rw [flat_one, flatk_kids, kids_test]
  simp only [List.flatMap_cons, List.flatMap_nil, List.append_nil, List.length_cons, List.length_append]
  omega
def HeldAt (H0 : Hp) (ph : Addr) (hs : List Str) : Prop := H0 ph = some (.lst (hs.map V.str))
theorem HeldAt.same {H H' : Hp} {nl : Addr} {ns : List Str} (s : Same H H') (h : HeldAt H nl ns) : HeldAt H' nl ns := s _ _ h
def spSo (K : PySem.W.Frag) (R : Nat) : Sp := fun vs H Q _ => ∃ (o qq nl ph : Addr) (ns hs : List Str) (x y : Int) (a r : Nat), vs = [.ref o, .ref nl, .int x, .int y, .ref ph] ∧ x = (a : Nat) ∧ y = (r : Nat) ∧ PoolAt H o qq ∧ NamesAt (wh o H) nl ns ∧ HeldAt (wh o H) ph hs ∧ hs.length + r ≤ 100 ∧ a ≤ 3 ∧ 1 ≤ r ∧ r ≤ R ∧
  ∀ H' l ys ds, SameBut o H H' → PoolAt H' o qq → wh o H' l = some (.lst ys) → DpAll K (wh o H') ys ds → Dr a r ds → Q (.ref l) H'
def spMn (K : PySem.W.Frag) (R : Nat) : Sp := fun vs H Q _ => ∃ (o qq nl ph : Addr) (ns hs : List Str) (x y : Int) (a r : Nat), vs = [.ref o, .ref nl, .int x, .int y, .ref ph] ∧ x = (a : Nat) ∧ y = (r : Nat) ∧ PoolAt H o qq ∧ NamesAt (wh o H) nl ns ∧ HeldAt (wh o H) ph hs ∧ hs.length + r ≤ 100 ∧ a ≤ 3 ∧ r ≤ R ∧
  ∀ H' l ys ds, SameBut o H H' → PoolAt H' o qq → SqT K (wh o H') l ys → DpAll K (wh o H') ys ds → Dr a r ds → Q (.ref l) H'
theorem newL {H : Hp} {o qq t : Addr} {vs : List V} (p : PoolAt H o qq) (nt : H t = none) : wh o (upd H t (.lst vs)) t = some (.lst vs) := wh_new p nt
section
variable {P : Program} {w : World} {K : PySem.W.Frag} {mg : Str → Option Value} {base : Heap}
abbrev sSo : Stmt := top 48
theorem scSo : FnScope ["_law_pool_here", "_law_names", "_law_deep", "_law_room", "_law_held", "_law_way", "_law_free", "_law_one", "_law_other", "_law_lock", "_law_name"] ["_law_pool_here", "_law_names", "_law_deep", "_law_room", "_law_held"] (defScope sSo) := ⟨rfl, rfl, rfl, by decide +kernel, rfl, by decide +kernel, by decide +kernel⟩
abbrev sMn : Stmt := top 49
theorem scMn : FnScope ["_law_pool_here", "_law_names", "_law_deep", "_law_room", "_law_held", "_law_found", "_law_turn"] ["_law_pool_here", "_law_names", "_law_deep", "_law_room", "_law_held"] (defScope sMn) := ⟨rfl, rfl, rfl, by decide +kernel, rfl, by decide +kernel, by decide +kernel⟩
theorem ok_so0 {f : Addr} {fd : FuncData} (F : Fun K "_law_some" "_law_some" sSo f fd) : FnOk P w K mg base CX0 19 f fd ["_law_pool_here", "_law_names", "_law_deep", "_law_room", "_law_held"] (spSo K 0) := by
  refine F.ok scSo (fun vs H Q E h => ?_) (fun cdv A outer s H vs Q E hr h => ?_)
  · obtain ⟨o, qq, nl, ph, ns, hs, x, y, a, r, rfl, _⟩ := h
    rfl
  · obtain ⟨o, qq, nl, ph, ns, hs, x, y, a, r, rfl, _, _, _, _, _, _, _, h1, h2, _⟩ := h
    omega
theorem ok_mn (R : Nat) {f fS fD fZ : Addr} {fd fdS fdD fdZ : FuncData} (F : Fun K "_law_many" "_law_many" sMn f fd)
    (GS : FnOk P w K mg base CX0 (2 * R + 19) fS fdS ["_law_pool_here", "_law_names", "_law_deep", "_law_room", "_law_held"] (spSo K R)) (TS : Called K mg "_law_some" ["_law_pool_here", "_law_names", "_law_deep", "_law_room", "_law_held"] fS fdS)
    (GD : FnOk P w K mg base CX0 1 fD fdD ["_law_pool_here", "_law_many_here"] (spDraw K)) (TD : Called K mg "_law_draw" ["_law_pool_here", "_law_many_here"] fD fdD)
    (GZ : FnOk P w K mg base CX0 18 fZ fdZ ["_law_items"] (spSzL K 16)) (TZ : Called K mg "_law_size" ["_law_items"] fZ fdZ) (m_range : mg "range" = none) (m_tuple : mg "tuple" = none) (hR : R ≤ 9) :
    FnOk P w K mg base CX0 (2 * R + 20) f fd ["_law_pool_here", "_law_names", "_law_deep", "_law_room", "_law_held"] (spMn K R) := by
  refine F.ok scMn (fun vs H Q E h => ?_) (fun cdv A outer s H vs Q E hr h => ?_)
  · obtain ⟨o, qq, nl, ph, ns, hs, x, y, a, r, rfl, _⟩ := h
    rfl
  · obtain ⟨o, qq, nl, ph, ns, hs, x, y, a, r, rfl, ex, ey, hp, hn, hh, hl, ha, hrR, q⟩ := h
    refine ⟨_, (pss_cons (ps_set (i := 5) scMn.nd rfl (.inl rfl) (pe_lst pa_nil))
       (pss_cons (ps_for PassesOwn.never rfl (pi_range1 rfl m_range (pa_cons (pv 3) pa_nil)) (pg_name (i := 6) scMn.nd rfl (.inl rfl))
       (pss_one (ps_if (PW.pt (pw_and (pt_cmpR op_lt (pe_call GZ (hr.mono (by first | decide | omega)) rfl TZ.1 TZ.2.1 TZ.2.2 .nil pass0 (pa_cons (pv 5) pa_nil)) (pv 3) (nomark _)) (pw_and1 (pt_cmpR op_gt (pe_call GD (hr.mono (by first | decide | omega)) rfl TD.1 TD.2.1 TD.2.2 .nil pass0 (pa_cons (pv 0) (pa_cons pe_int pa_nil))) pe_int (nomark _)))))
       (pss_one (ps_set (i := 5) scMn.nd rfl (.inl rfl) (pe_op op_cat (pv 5) (pe_call GS (hr.mono (by first | decide | omega)) rfl TS.1 TS.2.1 TS.2.2 .nil pass0 (pa_cons (pv 0) (pa_cons (pv 1) (pa_cons (pv 2) (pa_cons (pe_op op_sub (pv 3) (pe_call GZ (hr.mono (by first | decide | omega)) rfl TZ.1 TZ.2.1 TZ.2.2 .nil pass0 (pa_cons (pv 5) pa_nil))) (pa_cons (pv 4) pa_nil)))))))))
       pss_nil)))
       (pss_one (ps_ret (pe_callTy (call_tuple_K (K := K) rfl) (by rfl) m_tuple (by decide +kernel) (pa_cons (pv 5) pa_nil)))))), ?_⟩
    refine ⟨Nat.zero_le _, fun l0 nl0 => ?_⟩
    have s0 := same_upd (o := HO.lst []) nl0
    have p0 := pool_upd (x := HO.lst []) hp nl0
    refine ⟨_, rfl, y, rfl, by omega, by omega, for_range (lo := 0) (n := y.toNat)
      (fun i σ H' => ∃ (l : Addr) (ys : List V) (ds : List D) (v6 : Option V), σ = [some (.ref o), some (.ref nl), some (.int x), some (.int y), some (.ref ph), some (.ref l), v6] ∧ SameBut o H H' ∧ PoolAt H' o qq ∧ wh o H' l = some (.lst ys) ∧ DpAll K (wh o H') ys ds ∧ Dr a r ds)
      ⟨l0, [], [], none, rfl, but_of s0, p0, newL hp nl0, .nil, Dr.nil⟩ ?_ ?_⟩
    · rintro i σ H1 hi ⟨l, ys, ds, v6, rfl, b1, p1, hl1, hd1, dr⟩
      refine name_in ?_
      dsimp only
      have hn1 := hn.same (wh_but b1)
      have hh1 := hh.same (wh_but b1)
      have fz := dr.its.fits (n := 16) (by have := dr.brs.len; omega) (by omega)
      have dl := dpl hd1
      have fl := flat_ge ds
      have rl := dr.brs.len
      refine ifS_via (fun b H' => SameBut o H1 H' ∧ PoolAt H' o qq ∧ (b = true → (flat ds).length < r)) ?_ ?_
      · intro QQ hQ
        refine ⟨_, rfl, wh o H1, l, ys, ds, rfl, wh_sub, SqL.of (wh_sub _ _ hl1), hd1, fz, dr.brs.br, fun H2 s2 => ⟨_, rfl, _, _, rfl, rfl, _, rfl, ite2 (fun h1 => ?_) (fun h1 => ?_)⟩⟩
        · refine ⟨_, rfl, o, qq, _, rfl, p1.same s2, by decide, by decide, fun H3 n b3 p3 n0 n1 => ⟨_, _, rfl, rfl, _, rfl, hQ _ _ ⟨(but_of s2).trans b3, p3, fun _ => ?_⟩⟩⟩
          have h1' := of_decide_eq_true h1
          omega
        · exact hQ _ _ ⟨but_of s2, p1.same s2, fun z => nomatch z⟩
      · rintro b H2 ⟨b2, p2, hb⟩
        have hl2 := wh_but b2 _ _ hl1
        have hd2 := hd1.same (wh_but b2)
        cases b with
        | false => exact iteF ⟨l, ys, ds, _, rfl, b1.trans b2, p2, hl2, hd2, dr⟩
        | true =>
          have hb := hb rfl
          refine iteT ⟨_, rfl, _, rfl, _, rfl, _, rfl, _, rfl, ?_⟩
          refine ⟨_, rfl, wh o H2, l, ys, ds, rfl, wh_sub, SqL.of (wh_sub _ _ hl2), hd2, fz, dr.brs.br, fun H3 s3 => ⟨_, _, rfl, rfl, _, rfl, ?_⟩⟩
          have b3 := b2.trans (but_of s3)
          refine ⟨o, qq, nl, ph, ns, hs, _, _, a, r - (flat ds).length, rfl, ex, by omega, p2.same s3, hn1.same (wh_but b3), hh1.same (wh_but b3), by omega, ha, by omega, by omega, fun H4 l4 ys4 ds4 b4 p4 hl4 hd4 dr4 => ?_⟩
          have b34 := (but_of s3).trans b4
          have hl24 := wh_but b34 _ _ hl2
          have hd24 := hd2.same (wh_but b34)
          have dl4 := dpl hd4
          have fl4 := flat_ge ds4
          have rl4 := dr4.brs.len
          refine ⟨l, l4, ys, ys4, rfl, rfl, wh_sub _ _ hl24, wh_sub _ _ hl4, by rw [sizeLine_eq]; omega, fun l5 nl5 => name_in ?_⟩
          have s5 := same_upd (o := HO.lst (ys ++ ys4)) nl5
          refine ⟨l5, _, ds ++ ds4, _, rfl, b1.trans (b2.trans (b34.trans (but_of s5))), p4.same s5, newL p4 nl5, (dp_app hd24 hd4).same (wh_same s5), Dr.app dr.tight dr4 (by omega)⟩
    · rintro σ H1 ⟨l, ys, ds, v6, rfl, b1, p1, hl1, hd1, dr⟩
      refine ⟨_, rfl, l, ys, rfl, .inl ⟨SqL.of (wh_sub _ _ hl1), fun t nt => ?_⟩⟩
      exact q _ t ys ds (b1.trans (but_of (same_upd nt))) (pool_upd p1 nt) (SqT.of (wh_new p1 nt)) (hd1.same (wh_upd nt)) dr
theorem ok_so (R : Nat) {f fM fP fD fZ fI fL : Addr} {fd fdM fdP fdD fdZ fdI fdL : FuncData} (F : Fun K "_law_some" "_law_some" sSo f fd)
    (GM : FnOk P w K mg base CX0 (2 * R + 20) fM fdM ["_law_pool_here", "_law_names", "_law_deep", "_law_room", "_law_held"] (spMn K R)) (TM : Called K mg "_law_many" ["_law_pool_here", "_law_names", "_law_deep", "_law_room", "_law_held"] fM fdM)
    (GP : FnOk P w K mg base CX0 2 fP fdP ["_law_pool_here", "_law_some_here"] (spPick K)) (TP : Called K mg "_law_pick" ["_law_pool_here", "_law_some_here"] fP fdP)
    (GD : FnOk P w K mg base CX0 1 fD fdD ["_law_pool_here", "_law_many_here"] (spDraw K)) (TD : Called K mg "_law_draw" ["_law_pool_here", "_law_many_here"] fD fdD)
    (GZ : FnOk P w K mg base CX0 18 fZ fdZ ["_law_items"] (spSz K 16)) (TZ : Called K mg "_law_size" ["_law_items"] fZ fdZ)
    (GI : FnOk P w K mg base CX0 3 fI fdI ["_law_pool_here", "_law_names"] (spIr K)) (TI : Called K mg "_law_inner" ["_law_pool_here", "_law_names"] fI fdI)
    (GL : FnOk P w K mg base CX0 3 fL fdL ["_law_pool_here", "_law_names"] (spPl K)) (TL : Called K mg "_law_plain" ["_law_pool_here", "_law_names"] fL fdL)
    (m_list : mg "list" = none) (hR : R ≤ 8) :
    FnOk P w K mg base CX0 (2 * R + 21) f fd ["_law_pool_here", "_law_names", "_law_deep", "_law_room", "_law_held"] (spSo K (R + 1)) := by
  refine F.ok scSo (fun vs H Q E h => ?_) (fun cdv A outer s H vs Q E hr h => ?_)
  · obtain ⟨o, qq, nl, ph, ns, hs, x, y, a, r, rfl, _⟩ := h
    rfl
  · obtain ⟨o, qq, nl, ph, ns, hs, x, y, a, r, rfl, ex, ey, hp, hn, hh, hl, ha, hr1, hrR, q⟩ := h
    refine ⟨_, (pss_cons (ps_par (i := 5) (j := 6) rfl scSo.nd rfl rfl (by decide) rfl rfl (pa_cons (pe_call GD (hr.mono (by first | decide | omega)) rfl TD.1 TD.2.1 TD.2.2 .nil pass0 (pa_cons (pv 0) (pa_cons pe_int pa_nil))) (pa_cons (pe_lc (own := [("_law_name", 10)]) (g := gName 10)  (by rfl) scSo.nd (pi_list (pv 1)) (blkOk_by (own := [("_law_name", 10)]) (N := ["_law_pool_here", "_law_names", "_law_deep", "_law_room", "_law_held", "_law_way", "_law_free", "_law_one", "_law_other", "_law_lock", "_law_name"]) (sc := defScope sSo) (by decide +kernel)) (fun _ _ _ _ _ => (pg_name (i := 10) scSo.nd rfl (Or.inl rfl))) (fun _ _ _ _ _ => (pts_one (pt_cmpR (op_notIn_seqKK (K := K) rfl) (pv 10) (pv 4) (by rfl)))) (fun _ _ _ _ _ => (pv 10))) pa_nil)) (by rfl))
       (pss_cons (ps_if (PW.pt (pw_and (pt_cmpR op_lt (pv 5) pe_int (nomark _)) (pw_and (pt_cmpR op_gt (pv 3) pe_int (nomark _)) (pw_and1 (pt_cmpR op_lt (pv 2) pe_int (nomark _))))))
       (pss_cons (ps_set (i := 7) scSo.nd rfl (.inl rfl) (pe_call GM (hr.mono (by first | decide | omega)) rfl TM.1 TM.2.1 TM.2.2 .nil pass0 (pa_cons (pv 0) (pa_cons (pv 1) (pa_cons (pe_op op_add (pv 2) pe_int) (pa_cons (pe_call GD (hr.mono (by first | decide | omega)) rfl TD.1 TD.2.1 TD.2.2 .nil pass0 (pa_cons (pv 0) (pa_cons (pv 3) pa_nil))) (pa_cons (pv 4) pa_nil)))))))
       (pss_cons (ps_set (i := 8) scSo.nd rfl (.inl rfl) (pe_call GM (hr.mono (by first | decide | omega)) rfl TM.1 TM.2.1 TM.2.2 .nil pass0 (pa_cons (pv 0) (pa_cons (pv 1) (pa_cons (pe_op op_add (pv 2) pe_int) (pa_cons (pe_op op_sub (pe_op op_sub (pv 3) pe_int) (pe_call GZ (hr.mono (by first | decide | omega)) rfl TZ.1 TZ.2.1 TZ.2.2 .nil pass0 (pa_cons (pv 7) pa_nil))) (pa_cons (pv 4) pa_nil)))))))
       (pss_one (ps_ret (pe_ifExp (pt_cmpR op_eq (pv 5) pe_int (nomark _))
       (pe_lst (pa_cons (pe_tup (pa_cons pe_str (pa_cons (pv 7) (pa_cons (pv 8) pa_nil)))) pa_nil))
       (pe_lst (pa_cons (pe_tup (pa_cons pe_str (pa_cons (pe_call GP (hr.mono (by first | decide | omega)) rfl TP.1 TP.2.1 TP.2.2 .nil pass0 (pa_cons (pv 0) (pa_cons (pv 1) pa_nil))) (pa_cons (pv 7) (pa_cons (pv 8) pa_nil))))) pa_nil)))))))
       pss_nil)
       (pss_cons (ps_if (PW.pt (pw_and (pt_cmpR op_lt (pv 5) pe_int (nomark _)) (pw_and (pt_cmpR op_gt (pv 3) pe_int (nomark _)) (pw_and1 (pt_cmpR (Nm.op_neDK (K := K) rfl hr.units) (pv 6) (pe_lst pa_nil) (nomark _))))))
       (pss_cons (ps_set (i := 9) scSo.nd rfl (.inl rfl) (pe_call GP (hr.mono (by first | decide | omega)) rfl TP.1 TP.2.1 TP.2.2 .nil pass0 (pa_cons (pv 0) (pa_cons (pv 6) pa_nil))))
       (pss_one (ps_ret (pe_op op_cat (pe_op op_cat (pe_lst (pa_cons (pe_tup (pa_cons pe_str (pa_cons (pv 9) pa_nil))) pa_nil)) (pe_callTy (call_list_K (K := K) rfl) (by rfl) m_list (by decide +kernel) (pa_cons (pe_call GM (hr.mono (by first | decide | omega)) rfl TM.1 TM.2.1 TM.2.2 .nil pass0 (pa_cons (pv 0) (pa_cons (pv 1) (pa_cons (pv 2) (pa_cons (pe_op op_sub (pv 3) pe_int) (pa_cons (pe_op op_cat (pv 4) (pe_lst (pa_cons (pv 9) pa_nil))) pa_nil)))))) pa_nil))) (pe_lst (pa_cons (pe_tup (pa_cons pe_str (pa_cons (pv 9) pa_nil))) pa_nil))))))
       pss_nil)
       (pss_cons (ps_if (PW.pt (pw_and (pt_cmpR op_eq (pv 5) pe_int (nomark _)) (pw_and1 (pt_cmpR (Nm.op_neDK (K := K) rfl hr.units) (pv 6) (pe_lst pa_nil) (nomark _)))))
       (pss_one (ps_ret (pe_lst (pa_cons (pe_tup (pa_cons pe_str (pa_cons (pe_call GP (hr.mono (by first | decide | omega)) rfl TP.1 TP.2.1 TP.2.2 .nil pass0 (pa_cons (pv 0) (pa_cons (pv 6) pa_nil))) (pa_cons (pe_call GI (hr.mono (by first | decide | omega)) rfl TI.1 TI.2.1 TI.2.2 .nil pass0 (pa_cons (pv 0) (pa_cons (pv 1) pa_nil))) pa_nil)))) pa_nil))))
       pss_nil)
       (pss_one (ps_ret (pe_lst (pa_cons (pe_call GL (hr.mono (by first | decide | omega)) rfl TL.1 TL.2.1 TL.2.2 .nil pass0 (pa_cons (pv 0) (pa_cons (pv 1) pa_nil))) pa_nil)))))))), ?_⟩
    refine ⟨_, rfl, o, qq, _, rfl, hp, by decide, by decide, fun H1 w0 b1 p1 w1 w2 => ?_⟩
    have hn1 := hn.same (wh_but b1)
    have hh1 := hh.same (wh_but b1)
    have snl : SqL K H1 nl (ns.map V.str) := SqL.of (wh_sub _ _ hn1.1)
    refine ⟨_, rfl, nl, rfl, ⟨_, snl⟩, fun D nD => lc_list (K := K) (a := nl) (xs := ns.map V.str) (fun j H' => Same H1 H' ∧ ∃ ys : List Str, H' D = some (.lst (ys.map V.str)) ∧ ys.length ≤ j ∧ ∀ n ∈ ys, n ∈ ns)
        ⟨same_upd nD, [], upd_same, Nat.zero_le _, fun n hn => nomatch hn⟩ (fun j H' _ h => h.1.seq snl) ?_ ?_⟩
    · rintro j x' H6 hx ⟨s6, ys, hD6, yl, al⟩
      rw [List.getElem?_map] at hx
      obtain ⟨n, hn', rfl⟩ := Option.map_eq_some_iff.mp hx
      have hj : j < ns.length := (List.getElem?_eq_some_iff.mp hn').1
      have hz := hn1.2.2.1
      refine ⟨rfl, ?_⟩
      refine ⟨_, rfl, _, rfl, ph, _, rfl, .inl (SqL.of (s6 _ _ (wh_sub _ _ hh1))), rfl, flat_txt _, _, rfl, ?_⟩
      refine ite_any ?_ ?_
      · refine ⟨_, rfl, ys.map V.str, hD6, by rw [List.length_map, sizeLine_eq]; omega, same_updN nD s6, ys ++ [n], by rw [upd_same, List.map_append]; rfl, by rw [List.length_append]; show ys.length + 1 ≤ _; omega, fun m hm => ?_⟩
        rcases List.mem_append.mp hm with hm | hm
        · exact al m hm
        · rw [List.mem_singleton.mp hm]
          exact List.mem_of_getElem? hn'
      · exact ⟨s6, ys, hD6, by omega, al⟩
    rintro H2 ⟨s2, ys, hD2, yl, al⟩
    rw [List.length_map] at yl
    have nlen := hn1.2.2.1
    have ylen : ys.length ≤ 100 := by omega
    have p2 := p1.same s2
    have b2 := b1.trans (but_of s2)
    have Do : D ≠ o := pool_ne p1 nD
    have hn2 := hn1.same (wh_same s2)
    have hh2 := hh1.same (wh_same s2)
    have hf2 : wh o H2 D = some (.lst (ys.map V.str)) := wh_at Do hD2
    have good : ∀ n ∈ ys, goodD (.str n) = true := fun n hn' => hn1.2.2.2 n (al n hn')
    have sok : ∀ n ∈ ys, sOk n := fun n hn' => by
      have z := good n hn'
      rw [goodD, Bool.and_eq_true] at z
      exact z.1
    clear snl yl
    refine ⟨_, _, rfl, ?_⟩
    dsimp only
    have free : ∀ H3, Same H2 H3 → ys ≠ [] → NamesAt (wh o H3) D ys := fun H3 s3 ne => ⟨wh_same s3 _ _ hf2, ne, ylen, good⟩
    -- a test or a choose
    refine seqS_in (ifS_via (fun b H' => H2 = H' ∧ (b = true → 1 < r ∧ a < 3)) (fun QQ hQ => ?_) ?_)
    · refine ⟨_, rfl, _, _, rfl, rfl, _, rfl, ite2 (fun h1 => ?_) (fun h1 => hQ _ _ ⟨rfl, fun z => nomatch z⟩)⟩
      refine ⟨_, rfl, _, _, rfl, rfl, _, rfl, ite2 (fun h2 => ?_) (fun h1 => hQ _ _ ⟨rfl, fun z => nomatch z⟩)⟩
      refine ⟨_, rfl, _, _, rfl, rfl, _, rfl, hQ _ _ ⟨rfl, fun h3 => ?_⟩⟩
      have h2' := of_decide_eq_true h2
      have h3' := of_decide_eq_true h3
      omega
    rintro b H3 ⟨rfl, hb⟩
    cases b with
    | true =>
      obtain ⟨h1, h3⟩ := hb rfl
      refine iteT ⟨_, rfl, _, rfl, _, rfl, _, _, rfl, rfl, _, rfl, _, rfl, o, qq, _, rfl, p2, by omega, by omega, fun H4 m b4 p4 m0 m1 => ?_⟩
      have hn4 := hn2.same (wh_but b4)
      have hh4 := hh2.same (wh_but b4)
      refine ⟨_, rfl, o, qq, nl, ph, ns, hs, _, _, a + 1, m.toNat, rfl, by omega, by omega, p4, hn4, hh4, by omega, by omega, by omega, fun H5 t5 ys5 ds5 b5 p5 ht5 hd5 dr5 => ?_⟩
      have hn5 := hn4.same (wh_but b5)
      have hh5 := hh4.same (wh_but b5)
      have l5 := dr5.brs.len
      refine ⟨_, rfl, _, rfl, _, rfl, _, _, rfl, rfl, _, rfl, _, _, rfl, rfl, _, rfl, wh o H5, t5, ys5, ds5, rfl, wh_sub, wh_sub.tupS ht5, hd5, dr5.its.fits (by omega) (by omega), dr5.brs.br, fun H6 s6 => ⟨_, _, rfl, rfl, _, rfl, ?_⟩⟩
      have p6 := p5.same s6
      refine ⟨o, qq, nl, ph, ns, hs, _, _, a + 1, r - 1 - (flat ds5).length, rfl, by omega, by omega, p6, hn5.same (wh_same s6), hh5.same (wh_same s6), by omega, by omega, by omega, fun H7 t7 ys7 ds7 b7 p7 ht7 hd7 dr7 => ?_⟩
      have b57 := (but_of s6).trans b7
      have hn7 := hn5.same (wh_but b57)
      have ht57 := (wh_but b57).tupS ht5
      have hd57 := hd5.same (wh_but b57)
      have bA := b2.trans (b4.trans (b5.trans b57))
      refine ⟨_, rfl, rfl, _, rfl, ite_any ?_ ?_⟩
      · refine ⟨_, rfl, _, rfl, by show 3 ≤ sizeLine; decide, fun t8 nt8 => ⟨by show 1 ≤ sizeLine; decide, fun l9 nl9 => ?_⟩⟩
        have s8 := same_upd (o := HO.tup [V.str "choose", V.ref t5, V.ref t7]) nt8
        have p8 := pool_upd (x := HO.tup [V.str "choose", V.ref t5, V.ref t7]) p7 nt8
        refine q _ _ _ _ (bA.trans ((but_of s8).trans (but_of (same_upd nl9)))) (pool_upd p8 nl9) (newL p8 nl9) ((DpAll.cons (newT p7 nt8 (.cons (.str _) (.cons (.tup ht57 hd57) (.cons (.tup ht7 hd7) .nil)))) .nil).same (wh_upd nl9)) (Dr.choose dr5.tight dr7 h3 (by omega))
      · refine ⟨_, rfl, _, rfl, pickN p7 hn7 fun H8 n b8 p8 hn8 _ gn => ⟨_, rfl, _, rfl, by show 4 ≤ sizeLine; decide, fun t8 nt8 => ⟨by show 1 ≤ sizeLine; decide, fun l9 nl9 => ?_⟩⟩⟩
        have s8 := same_upd (o := HO.tup [V.str "test", V.str n, V.ref t5, V.ref t7]) nt8
        have p9 := pool_upd (x := HO.tup [V.str "test", V.str n, V.ref t5, V.ref t7]) p8 nt8
        have w8 := wh_but b8
        refine q _ _ _ _ (bA.trans (b8.trans ((but_of s8).trans (but_of (same_upd nl9))))) (pool_upd p9 nl9) (newL p9 nl9) ((DpAll.cons (newT p8 nt8 (.cons (.str _) (.cons (.str _) (.cons (.tup (w8.tupS ht57) (hd57.same w8)) (.cons (.tup (w8.tupS ht7) (hd7.same w8)) .nil))))) .nil).same (wh_upd nl9)) (Dr.test gn dr5.tight dr7 h3 (by omega))
    | false =>
    refine iteF ?_
    dsimp only [tNext]
    clear hb
    -- something under a lock
    refine seqS_in (ifS_via (fun b H' => Same H2 H' ∧ (b = true → 1 < r ∧ ys ≠ [])) (fun QQ hQ => ?_) ?_)
    · refine ⟨_, rfl, _, _, rfl, rfl, _, rfl, ite2 (fun h1 => ?_) (fun h1 => hQ _ _ ⟨Same.refl _, fun z => nomatch z⟩)⟩
      refine ⟨_, rfl, _, _, rfl, rfl, _, rfl, ite2 (fun h2 => ?_) (fun h1 => hQ _ _ ⟨Same.refl _, fun z => nomatch z⟩)⟩
      refine ⟨_, rfl, Nat.zero_le _, fun z nz => ?_⟩
      have s3 := same_upd (o := HO.lst []) nz
      refine ⟨.list (ys.map PyData.str), .list (([] : List Str).map PyData.str), .lst (SqL.of (s3 _ _ hD2)) (dp_txts _), .lst (SqL.of upd_same) .nil, listD_shaped sok, listD_shaped (fun n hn => nomatch hn), _, rfl, ?_⟩
      rw [eqv_list_txt]
      refine hQ _ _ ⟨s3, fun h3 => ⟨?_, fun e => ?_⟩⟩
      · have h2' := of_decide_eq_true h2
        omega
      · rw [decide_eq_true e] at h3
        cases h3
    rintro b H3 ⟨s3, hb⟩
    have p3 := p2.same s3
    have b3 := b2.trans (but_of s3)
    have hn3 := hn2.same (wh_same s3)
    have hh3 := hh2.same (wh_same s3)
    cases b with
    | true =>
      obtain ⟨h1, hne⟩ := hb rfl
      refine iteT ⟨_, rfl, _, rfl, pickN p3 (free H3 s3 hne) fun H4 n b4 p4 _ _ gn => name_in ?_⟩
      have hn4 := hn3.same (wh_but b4)
      have hh4 := hh3.same (wh_but b4)
      refine ⟨_, rfl, by show 2 ≤ sizeLine; decide, fun t5 nt5 => ⟨by show 1 ≤ sizeLine; decide, fun l5 nl5 => ?_⟩⟩
      have s5 := same_upd (o := HO.tup [V.str "take", V.str n]) nt5
      have p5 := pool_upd (x := HO.tup [V.str "take", V.str n]) p4 nt5
      have h5 := newT (K := K) p4 nt5 (.cons (.str "take") (.cons (.str n) .nil))
      have s6 := same_upd (o := HO.lst [V.ref t5]) nl5
      have p6 := pool_upd (x := HO.lst [V.ref t5]) p5 nl5
      have hl6 := newL (vs := [V.ref t5]) p5 nl5
      have h6 := h5.same (wh_same (o := o) s6)
      have s46 := s5.trans s6
      have hn6 := hn4.same (wh_same s46)
      have hh6 := hh4.same (wh_same s46)
      generalize upd (upd H4 t5 (HO.tup [V.str "take", V.str n])) l5 (HO.lst [V.ref t5]) = H6 at s46 p6 hl6 h6 hn6 hh6
      refine ⟨_, rfl, _, rfl, _, rfl, _, rfl, _, _, rfl, rfl, _, rfl, _, rfl, by show 1 ≤ sizeLine; decide, fun l7 nl7 => ?_⟩
      have s7 := same_upd (o := HO.lst [V.str n]) nl7
      have p7 := pool_upd (x := HO.lst [V.str n]) p6 nl7
      refine ⟨ph, l7, _, _, rfl, rfl, s7 _ _ (wh_sub _ _ hh6), upd_same, by rw [List.length_map, sizeLine_eq]; show _ + 1 ≤ _; omega, fun l8 nl8 => ?_⟩
      have s8 := same_upd (o := HO.lst (hs.map V.str ++ [V.str n])) nl8
      have p8 := pool_upd (x := HO.lst (hs.map V.str ++ [V.str n])) p7 nl8
      have s68 := s7.trans s8
      have hh8 : HeldAt (wh o (upd (upd H6 l7 (HO.lst [V.str n])) l8 (HO.lst (hs.map V.str ++ [V.str n])))) l8 (hs ++ [n]) := by
        have z := newL (vs := hs.map V.str ++ [V.str n]) p7 nl8
        unfold HeldAt
        rw [z, List.map_append]
        rfl
      refine ⟨o, qq, nl, l8, ns, hs ++ [n], _, _, a, r - 2, rfl, ex, by omega, p8, hn6.same (wh_same s68), hh8, by rw [List.length_append, List.length_singleton]; omega, ha, by omega, fun H9 t9 ys9 ds9 b9 p9 ht9 hd9 dr9 => ?_⟩
      have l9 := dr9.brs.len
      have fl9 := flat_ge ds9
      have dl9 := dpl hd9
      refine ⟨t9, ys9, rfl, .inr (wh_sub.tupS ht9), fun l10 nl10 => ?_⟩
      have s10 := same_upd (o := HO.lst ys9) nl10
      have p10 := pool_upd (x := HO.lst ys9) p9 nl10
      have b610 := (but_of s68).trans (b9.trans (but_of s10))
      refine ⟨l5, l10, _, _, rfl, rfl, wh_sub _ _ (wh_but b610 _ _ hl6), upd_same, by rw [sizeLine_eq]; show 1 + _ ≤ _; omega, fun l11 nl11 => ?_⟩
      have s11 := same_upd (o := HO.lst ([V.ref t5] ++ ys9)) nl11
      have p11 := pool_upd (x := HO.lst ([V.ref t5] ++ ys9)) p10 nl11
      have hl11 := newL (vs := [V.ref t5] ++ ys9) p10 nl11
      refine ⟨_, rfl, by show 2 ≤ sizeLine; decide, fun t12 nt12 => ⟨by show 1 ≤ sizeLine; decide, fun l13 nl13 => ?_⟩⟩
      have s12 := same_upd (o := HO.tup [V.str "give", V.str n]) nt12
      have p12 := pool_upd (x := HO.tup [V.str "give", V.str n]) p11 nt12
      have h12 := newT (K := K) p11 nt12 (.cons (.str "give") (.cons (.str n) .nil))
      have s13 := same_upd (o := HO.lst [V.ref t12]) nl13
      have p13 := pool_upd (x := HO.lst [V.ref t12]) p12 nl13
      refine ⟨l11, l13, _, _, rfl, rfl, s13 _ _ (s12 _ _ (wh_sub _ _ hl11)), upd_same, by rw [sizeLine_eq, List.length_append]; show 1 + _ + 1 ≤ _; omega, fun l14 nl14 => ?_⟩
      have s14 := same_upd (o := HO.lst ([V.ref t5] ++ ys9 ++ [V.ref t12])) nl14
      have b614 := b610.trans (but_of (s11.trans (s12.trans (s13.trans s14))))
      have w14 := wh_same (o := o) (s10.trans (s11.trans (s12.trans (s13.trans s14))))
      refine q _ _ _ ([.tuple [.str "take", .str n]] ++ ds9 ++ [.tuple [.str "give", .str n]]) (b3.trans (b4.trans ((but_of s46).trans b614))) (pool_upd p13 nl14) (newL p13 nl14) (dp_app (dp_app (.cons (h6.same (wh_but b614)) .nil) (hd9.same w14)) (.cons (h12.same (wh_same (s13.trans s14))) .nil)) ?_
      exact Dr.app (Dr.app (Dr.take gn ha) dr9 (Nat.le_refl _)) (Dr.give gn ha) (by omega)
    | false =>
    refine iteF ?_
    dsimp only [tNext]
    clear hb
    -- a piece
    refine seqS_in (ifS_via (fun b H' => Same H2 H' ∧ (b = true → ys ≠ [])) (fun QQ hQ => ?_) ?_)
    · refine ⟨_, rfl, rfl, _, rfl, ite2 (fun h1 => ?_) (fun h1 => hQ _ _ ⟨s3, fun z => nomatch z⟩)⟩
      refine ⟨_, rfl, Nat.zero_le _, fun z nz => ?_⟩
      have s4 := same_upd (o := HO.lst []) nz
      refine ⟨.list (ys.map PyData.str), .list (([] : List Str).map PyData.str), .lst (SqL.of (s4 _ _ (s3 _ _ hD2))) (dp_txts _), .lst (SqL.of upd_same) .nil, listD_shaped sok, listD_shaped (fun n hn => nomatch hn), _, rfl, ?_⟩
      rw [eqv_list_txt]
      refine hQ _ _ ⟨s3.trans s4, fun h3 e => ?_⟩
      rw [decide_eq_true e] at h3
      cases h3
    clear p3 b3 hn3 hh3 s3
    rintro b H3 ⟨s3, hb⟩
    have p3 := p2.same s3
    have b3 := b2.trans (but_of s3)
    have hn3 := hn2.same (wh_same s3)
    cases b with
    | true =>
      have hne := hb rfl
      refine iteT ⟨_, rfl, _, rfl, pickN p3 (free H3 s3 hne) fun H4 n b4 p4 _ _ gn => ⟨_, rfl, _, rfl, o, qq, nl, ns, rfl, p4, hn3.same (wh_but b4), fun H5 v5 d5 b5 p5 h5 i5 => ⟨by show 3 ≤ sizeLine; decide, fun t6 nt6 => ⟨by show 1 ≤ sizeLine; decide, fun l7 nl7 => ?_⟩⟩⟩⟩
      have s6 := same_upd (o := HO.tup [V.str "piece", V.str n, v5]) nt6
      have p6 := pool_upd (x := HO.tup [V.str "piece", V.str n, v5]) p5 nt6
      refine q _ _ _ _ (b3.trans (b4.trans (b5.trans ((but_of s6).trans (but_of (same_upd nl7)))))) (pool_upd p6 nl7) (newL p6 nl7) ((DpAll.cons (newT p5 nt6 (.cons (.str _) (.cons (.str _) (.cons h5 .nil)))) .nil).same (wh_upd nl7)) ((Dr.piece i5 gn ha).mono hr1)
    | false =>
    refine iteF ?_
    dsimp only [tNext]
    refine ⟨_, rfl, _, rfl, o, qq, nl, ns, rfl, p3, hn3, fun H5 v5 d5 b5 p5 h5 i5 br5 => ⟨by show 1 ≤ sizeLine; decide, fun l7 nl7 => ?_⟩⟩
    exact q _ _ _ _ (b3.trans (b5.trans (but_of (same_upd nl7)))) (pool_upd p5 nl7) (newL p5 nl7) ((DpAll.cons h5 .nil).same (wh_upd nl7)) ((Dr.one i5 (by decide) (by decide) ha br5).mono hr1)
end
end Tr

/-! P21 -/
/-! ### an item exchanged -/
namespace Tr
open PySem PySem.Spec PyProof.Rows L2 Rw
/-- the tuples of the second heap, all else of the first one -/
def tu (H0 H : Hp) : Hp := fun a => match H a with
  | some (.tup xs) => some (.tup xs)
  | _ => H0 a
theorem tu_old {H0 H : Hp} (s : Same H0 H) : Same H0 (tu H0 H) := fun a x h => by
  unfold tu
  have z := s a x h
  rw [z]
  cases x <;> first | exact h | rfl
theorem tu_sub {H0 H : Hp} (s : Same H0 H) : Same (tu H0 H) H := fun a x h => by
  unfold tu at h
  split at h
  · next e => rw [e]; exact h
  · exact s a x h
theorem tu_same {H0 H H' : Hp} (s0 : Same H0 H) (s : Same H H') : Same (tu H0 H) (tu H0 H') := fun a x h => by
  unfold tu at h
  split at h
  · next e =>
    unfold tu
    rw [s _ _ e]
    exact h
  · exact tu_old (s0.trans s) a x h
theorem tu_updL {H0 H : Hp} {l : Addr} {xs ys : List V} (hl : H l = some (.lst xs)) : Same (tu H0 H) (tu H0 (upd H l (.lst ys))) := fun a x h => by
  unfold tu at h ⊢
  by_cases e : a = l
  · subst e
    rw [hl] at h
    rw [upd_same]
    exact h
  · rw [upd_ne e]
    exact h
theorem tu_new {H0 H : Hp} {t : Addr} {vs : List V} : tu H0 (upd H t (.tup vs)) t = some (.tup vs) := by
  unfold tu
  rw [upd_same]
theorem good_app (as bs : List D) : goodAll (as ++ bs) = (goodAll as && goodAll bs) := by
  induction as with
  | nil => rw [List.nil_append, goodAll, Bool.true_and]
  | cons a r ih => rw [List.cons_append, goodAll, goodAll, ih, Bool.and_assoc]
theorem dep_app (as bs : List D) : PyData.depthAll (as ++ bs) = max (PyData.depthAll as) (PyData.depthAll bs) := by
  induction as with
  | nil => rw [List.nil_append, PyData.depthAll, Nat.zero_max]
  | cons a r ih => rw [List.cons_append, PyData.depthAll, PyData.depthAll, ih, Nat.max_assoc]
theorem cnt_app (as bs : List D) : cntAll (as ++ bs) = cntAll as + cntAll bs := by
  induction as with
  | nil => rw [List.nil_append, cntAll, Nat.zero_add]
  | cons a r ih => rw [List.cons_append, cntAll, cntAll, ih, Nat.add_assoc]
/-- what comes of as by putting es in the place of an item -/
structure Rep (as es ds : List D) : Prop where
  good : goodAll ds = true
  dep : PyData.depthAll ds ≤ PyData.depthAll as + PyData.depthAll es
  cnt : cntAll ds ≤ cntAll as + cntAll es
theorem Rep.nil {es : List D} : Rep [] es [] := ⟨by rw [goodAll], by rw [PyData.depthAll]; exact Nat.zero_le _, by rw [cntAll]; exact Nat.zero_le _⟩
theorem Rep.wide {as es ds : List D} (h : Rep as [] ds) : Rep as es ds := by
  obtain ⟨a, b, c⟩ := h
  rw [PyData.depthAll] at b
  rw [show cntAll [] = 0 by rw [cntAll]] at c
  exact ⟨a, by omega, by omega⟩
theorem Rep.snoc {as es ds : List D} {d : D} (h : Rep as es ds) (g : goodD d = true) : Rep (as ++ [d]) es (ds ++ [d]) := by
  obtain ⟨a, b, c⟩ := h
  refine ⟨?_, ?_, ?_⟩
  · rw [good_app, a, goodAll, g]; rfl
  · rw [dep_app, dep_app]; omega
  · rw [cnt_app, cnt_app]; omega
theorem Rep.put {as es ds : List D} {d : D} (h : Rep as [] ds) (g : goodAll es = true) : Rep (as ++ [d]) es (ds ++ es) := by
  obtain ⟨a, b, c⟩ := h
  rw [PyData.depthAll] at b
  rw [show cntAll [] = 0 by rw [cntAll]] at c
  refine ⟨?_, ?_, ?_⟩
  · rw [good_app, a, g]; rfl
  · rw [dep_app, dep_app]; omega
  · rw [cnt_app, cnt_app]; omega
theorem Rep.swap {as es ds : List D} {d d' : D} (h : Rep as [] ds) (g : goodD d' = true) (e1 : d'.depth ≤ d.depth + PyData.depthAll es) (e2 : cntD d' ≤ cntD d + cntAll es) : Rep (as ++ [d]) es (ds ++ [d']) := by
  obtain ⟨a, b, c⟩ := h
  rw [PyData.depthAll] at b
  rw [show cntAll [] = 0 by rw [cntAll]] at c
  refine ⟨?_, ?_, ?_⟩
  · rw [good_app, a, goodAll, g, goodAll]; rfl
  · rw [dep_app, dep_app]; simp only [PyData.depthAll]; omega
  · rw [cnt_app, cnt_app]; simp only [cntAll]; omega
theorem fork_pre {d : D} {a b : List D} (h : kids d = [a, b]) : ∃ pre : List D, d = .tuple (pre ++ [.tuple a, .tuple b]) ∧ pre ≠ [] ∧ pre.length ≤ 2 := by
  unfold kids at h
  split at h
  · next x y e =>
    cases h
    unfold forkOf at e
    split at e
    · split at e
      · cases e; exact ⟨[_, _], rfl, (fun z => nomatch z), Nat.le_refl _⟩
      · cases e
    · split at e
      · cases e; exact ⟨[_], rfl, (fun z => nomatch z), Nat.le_succ _⟩
      · cases e
    · cases e
  · cases h
theorem put_fork {n : Nat} {pre a b a' b' es : List D} (ft : FitD n (.tuple (pre ++ [.tuple a, .tuple b]))) (h : (Rep a es a' ∧ b' = b) ∨ (a' = a ∧ Rep b es b')) : goodD (.tuple (pre ++ [.tuple a', .tuple b'])) = true ∧ (PyData.tuple (pre ++ [.tuple a', .tuple b'])).depth ≤ (PyData.tuple (pre ++ [.tuple a, .tuple b])).depth + PyData.depthAll es ∧ cntD (.tuple (pre ++ [.tuple a', .tuple b'])) ≤ cntD (.tuple (pre ++ [.tuple a, .tuple b])) + cntAll es := by
  have g := ft.good
  rw [goodD, good_app] at g
  simp only [goodAll, goodD, Bool.and_true, Bool.and_eq_true] at g
  have g' : goodAll a' = true ∧ goodAll b' = true := by
    rcases h with ⟨r, rfl⟩ | ⟨rfl, r⟩
    · exact ⟨r.good, g.2.2⟩
    · exact ⟨g.2.1, r.good⟩
  refine ⟨?_, ?_, ?_⟩
  · rw [goodD, good_app]
    simp only [goodAll, goodD, Bool.and_true, Bool.and_eq_true]
    exact ⟨g.1, g'⟩
  · rw [PyData.depth, PyData.depth, dep_app, dep_app]
    simp only [PyData.depthAll, PyData.depth]
    rcases h with ⟨r, rfl⟩ | ⟨rfl, r⟩
    · have := r.dep; omega
    · have := r.dep; omega
  · rw [cntD, cntD, cnt_app, cnt_app]
    simp only [cntAll, cntD]
    rcases h with ⟨r, rfl⟩ | ⟨rfl, r⟩
    · have := r.cnt; omega
    · have := r.cnt; omega
def spSw (K : PySem.W.Frag) (n : Nat) : Sp := fun vs H Q _ => ∃ (H0 : Hp) (p lm : Addr) (x : Int) (xs ms : List V) (ds es : List D), vs = [.ref p, .int x, .ref lm] ∧ Same H0 H ∧ SqT K H p xs ∧ DpAll K H0 xs ds ∧ Fits n ds ∧ (∀ d ∈ flat ds, BrOk d) ∧ H lm = some (.lst ms) ∧ DpAll K H0 ms es ∧ goodAll es = true ∧ cntAll ds + cntAll es ≤ 20000 ∧
  ∀ H' t ys ds', Same H H' → H' t = some (.tup ys) → DpAll K (tu H0 H') ys ds' → Rep ds es ds' → Q (.ref t) H'
theorem cnt_take (ds : List D) (i : Nat) : cntAll (ds.take i) ≤ cntAll ds := by
  have e := cnt_app (ds.take i) (ds.drop i)
  rw [List.take_append_drop] at e
  omega
section
variable {P : Program} {w : World} {K : PySem.W.Frag} {mg : Str → Option Value} {base : Heap}
abbrev sSw : Stmt := top 57
theorem scSw : FnScope ["_law_items", "_law_at", "_law_more", "_law_found", "_law_item", "_law_size_here", "_law_one", "_law_other"] ["_law_items", "_law_at", "_law_more"] (defScope sSw) := ⟨rfl, rfl, rfl, by decide +kernel, rfl, by decide +kernel, by decide +kernel⟩
theorem ok_sw {f fT fZ : Addr} {fd fdT fdZ : FuncData} (F : Fun K "_law_swapped" "_law_swapped" sSw f fd) (TW : Called K mg "_law_swapped" ["_law_items", "_law_at", "_law_more"] f fd) (GT : FnOk P w K mg base CX0 1 fT fdT ["_law_item"] (spTu K)) (TT : Called K mg "_law_tuples" ["_law_item"] fT fdT) (TZ : Called K mg "_law_size" ["_law_items"] fZ fdZ)
    (GZa : ∀ n, FnOk P w K mg base CX0 (n + 2) fZ fdZ ["_law_items"] (spSz K n)) (m_tuple : mg "tuple" = none) (m_len : mg "len" = none) : ∀ n, n ≤ 40 → FnOk P w K mg base CX0 (n + 3) f fd ["_law_items", "_law_at", "_law_more"] (spSw K n) := by
  intro n
  induction n with
  | zero =>
    intro _
    refine F.ok scSw (fun vs H Q E h => ?_) (fun cdv A outer s H vs Q E hr h => ?_)
    · obtain ⟨H0, p, lm, x, xs, ms, ds, es, rfl, _⟩ := h
      rfl
    · obtain ⟨H0, p, lm, x, xs, ms, ds, es, rfl, _, _, _, ft, _⟩ := h
      exact absurd ft.dep (Nat.not_lt_zero _)
  | succ n ih =>
    intro hn
    have GW := ih (by omega)
    have GZ := GZa (n + 1)
    refine F.ok scSw (fun vs H Q E h => ?_) (fun cdv A outer s H vs Q E hr h => ?_)
    · obtain ⟨H0, p, lm, x, xs, ms, ds, es, rfl, _⟩ := h
      rfl
    · obtain ⟨H0, p, lm, at0', xs, ms, ds, es, rfl, s0, hp, ha, ft, br, hm, hms, ges, hz, q⟩ := h
      refine ⟨_, (pss_cons (ps_set (i := 3) scSw.nd rfl (.inl rfl) (pe_lst pa_nil))
       (pss_cons (ps_for PassesOwn.never rfl (pi_tup (pv 0)) (pg_name (i := 4) scSw.nd rfl (.inl rfl))
       (pss_cons (ps_set (i := 5) scSw.nd rfl (.inl rfl) (pe_call GZ (hr.mono (by first | decide | omega)) rfl TZ.1 TZ.2.1 TZ.2.2 .nil pass0 (pa_cons (pe_tup (pa_cons (pv 4) pa_nil)) pa_nil)))
       (pss_cons (ps_if (pt_cmpR op_eq (pv 1) pe_int (nomark _))
       (pss_one (ps_set (i := 3) scSw.nd rfl (.inl rfl) (pe_op op_cat (pv 3) (pv 2))))
       (pss_one (ps_if (pt_chain op_lt op_lt pe_int (pv 1) (pv 5))
       (pss_cons (ps_asg (pe_call GT (hr.mono (by first | decide | omega)) rfl TT.1 TT.2.1 TT.2.2 .nil pass0 (pa_cons (pv 4) pa_nil)) (pg_lst rfl (pgs_cons (pg_name (i := 6) scSw.nd rfl (.inl rfl)) (pgs_cons (pg_name (i := 7) scSw.nd rfl (.inl rfl)) pgs_nil))))
       (pss_cons (ps_if (pt_cmpR op_le (pv 1) (pe_call GZ (hr.mono (by first | decide | omega)) rfl TZ.1 TZ.2.1 TZ.2.2 .nil pass0 (pa_cons (pv 6) pa_nil)) (nomark _))
       (pss_one (ps_set (i := 6) scSw.nd rfl (.inl rfl) (pe_call GW (hr.mono (by first | decide | omega)) rfl TW.1 TW.2.1 TW.2.2 .nil pass0 (pa_cons (pv 6) (pa_cons (pe_op op_sub (pv 1) pe_int) (pa_cons (pv 2) pa_nil))))))
       (pss_one (ps_set (i := 7) scSw.nd rfl (.inl rfl) (pe_call GW (hr.mono (by first | decide | omega)) rfl TW.1 TW.2.1 TW.2.2 .nil pass0 (pa_cons (pv 7) (pa_cons (pe_op op_sub (pe_op op_sub (pv 1) pe_int) (pe_call GZ (hr.mono (by first | decide | omega)) rfl TZ.1 TZ.2.1 TZ.2.2 .nil pass0 (pa_cons (pv 6) pa_nil))) (pa_cons (pv 2) pa_nil)))))))
       (pss_one (ps_expr (pe_bm PySem.F.plainAttrs_list PySem.F.slot_list_append PySem.F.type_list_append mt_append (pv 3) (pa_cons (pe_op op_catA (pe_slice sl_tupA (pv 4) po_none (po_some (pe_op op_sub (pe_callB (call_len_K (K := K) rfl) (by rfl) m_len PySem.boot_len (pa_cons (pv 4) pa_nil)) pe_int))) (pe_tup (pa_cons (pv 6) (pa_cons (pv 7) pa_nil)))) pa_nil))))))
       (pss_one (ps_expr (pe_bm PySem.F.plainAttrs_list PySem.F.slot_list_append PySem.F.type_list_append mt_append (pv 3) (pa_cons (pv 4) pa_nil)))))))
       (pss_one (ps_set (i := 1) scSw.nd rfl (.inl rfl) (pe_op op_sub (pv 1) (pv 5)))))))
       (pss_one (ps_ret (pe_callTy (call_tuple_K (K := K) rfl) (by rfl) m_tuple (by decide +kernel) (pa_cons (pv 3) pa_nil)))))), ?_⟩
      have len := dpl ha
      refine ⟨Nat.zero_le _, fun l nl => ?_⟩
      have s1 : Same H (upd H l (.lst [])) := same_upd nl
      refine ⟨_, rfl, p, rfl, ⟨_, s1.tupS hp⟩, for_tup (K := K) (a := p) (xs := xs)
        (fun i σ H' => ∃ (l : Addr) (a : Int) (ys : List V) (ds' : List D) (v4 v5 v6 v7 : Option V), σ = [some (.ref p), some (.int a), some (.ref lm), some (.ref l), v4, v5, v6, v7] ∧ Same H H' ∧ H l = none ∧ H' l = some (.lst ys) ∧ DpAll K (tu H0 H') ys ds' ∧ (Rep (ds.take i) [] ds' ∨ (a < 0 ∧ Rep (ds.take i) es ds')))
        ⟨l, at0', [], [], none, none, none, none, rfl, s1, nl, upd_same, .nil, .inl (by rw [List.take_zero]; exact Rep.nil)⟩ ?_ ?_ ?_⟩
      · rintro i σ H' hi ⟨_, _, _, _, v4, v5, v6, v7, rfl, sm, _⟩
        exact sm.tupS hp
      · rintro i x σ H1 hxi ⟨l, a, ys, ds', v4, v5, v6, v7, rfl, sm, nl, hl, hy, hrep⟩
        obtain ⟨d, hd, hx⟩ := dp_get ha hxi
        have mem : d ∈ ds := List.mem_of_getElem? hd
        have tk := take_snoc hd
        have fl1 : flat (ds.take (i + 1)) = flat (ds.take i) ++ (d :: flatk d) := by rw [tk, flat_app, flat_one]
        have sub : ∀ e ∈ flat (ds.take (i + 1)), e ∈ flat ds := fun e he => by
          rw [← List.take_append_drop (i + 1) ds, flat_app]
          exact List.mem_append_left _ he
        have brd : BrOk d := br d (sub d (by rw [fl1]; exact List.mem_append_right _ List.mem_cons_self))
        have brk : ∀ e ∈ flatk d, BrOk e := fun e he => br e (sub e (by rw [fl1]; exact List.mem_append_right _ (List.mem_cons_of_mem _ he)))
        have ftd := ft.mem mem
        have gd := ftd.good
        have ct := cnt_take ds i
        have yl : ys.length ≤ 20000 := by
          have y1 := dpl hy
          have y2 := len_cnt ds'
          rcases hrep with h | ⟨_, h⟩
          · have := (Rep.wide (es := es) h).cnt; omega
          · have := h.cnt; omega
        have el : es.length ≤ 20000 := by
          have := len_cnt es
          omega
        refine name_in ?_
        dsimp only
        refine ⟨_, rfl, by show 1 ≤ sizeLine; decide, fun y ny => ?_⟩
        have s4 := same_upd (o := HO.tup [x]) ny
        have t4 := s0.trans (sm.trans s4)
        refine ⟨H0, y, [x], [d], rfl, t4, SqT.of upd_same, .cons hx .nil, fit_one ftd, fun e he => ?_, fun H5 s5 => name_in ?_⟩
        · rw [flat_one] at he
          rcases List.mem_cons.mp he with rfl | he
          · exact brd
          · exact brk e he
        dsimp only
        have s45 := s4.trans s5
        have sm5 := sm.trans s45
        have hl5 := s45 _ _ hl
        have hy5 := hy.same (tu_same (s0.trans sm) s45)
        have s05 := s0.trans sm5
        have hm5 := sm5 _ _ hm
        refine seqS_in (ifS_join (fun σ' H' => ∃ (l' : Addr) (ys' : List V) (ds'' : List D) (v6 v7 : Option V), σ' = [some (.ref p), some (.int a), some (.ref lm), some (.ref l'), some x, some (.int ((flat [d]).length : Nat)), v6, v7] ∧ Same H H' ∧ H l' = none ∧ H' l' = some (.lst ys') ∧ DpAll K (tu H0 H') ys' ds'' ∧ (Rep (ds.take (i + 1)) [] ds'' ∨ (a - ((flat [d]).length : Nat) < 0 ∧ Rep (ds.take (i + 1)) es ds''))) ?_ fun hG => ?_)
        · rintro σ' H6 ⟨l', ys', ds'', v6, v7, rfl, sm6, nl6, hl6, hy6, hr6⟩
          refine ⟨_, rfl, _, rfl, _, _, rfl, rfl, name_in ?_⟩
          exact ⟨l', _, ys', ds'', _, _, _, _, rfl, sm6, nl6, hl6, hy6, hr6⟩
        refine ⟨_, rfl, rfl, _, rfl, ite2 (fun h1 => ?_) (fun h1 => ?_)⟩
        · have h1 : a = 0 := V.int.inj (of_decide_eq_true h1)
          have hrep : Rep (ds.take i) [] ds' := hrep.elim id fun h => absurd h.1 (by omega)
          refine ⟨_, rfl, _, rfl, l, lm, _, _, rfl, rfl, hl5, hm5, by have := dpl hms; rw [sizeLine_eq]; omega, fun l3 nl3 => name_in (hG _ _ ?_)⟩
          have s6 := same_upd (o := HO.lst (ys ++ ms)) nl3
          refine ⟨l3, _, ds' ++ es, _, _, rfl, sm5.trans s6, sm5.free nl3, upd_same, dp_app (hy5.same (tu_same s05 s6)) (hms.same (tu_old (s05.trans s6))), .inr ⟨?_, ?_⟩⟩
          · rw [flat_one, List.length_cons]; omega
          · rw [tk]; exact hrep.put ges
        have h1 : a ≠ 0 := fun e => h1 (by rw [e]; exact decide_eq_true rfl)
        refine ifS_via (fun b H' => H5 = H' ∧ (b = true → 0 < a ∧ a < ((flat [d]).length : Nat))) (fun QQ hQ => ?_) ?_
        · refine ⟨_, rfl, _, _, rfl, rfl, _, rfl, ite2 (fun h2 => ?_) (fun h2 => ⟨_, rfl, hQ _ _ ⟨rfl, fun z => nomatch z⟩⟩)⟩
          refine ⟨_, rfl, _, _, rfl, rfl, _, rfl, hQ _ _ ⟨rfl, fun h3 => ⟨of_decide_eq_true h2, of_decide_eq_true h3⟩⟩⟩
        rintro b H6 ⟨rfl, hb⟩
        cases b with
        | false =>
          refine iteF ?_
          refine ⟨_, rfl, .inl ⟨rfl, _, SqL.of hl5⟩, _, rfl, l, _, _, rfl, rfl, hl5, by rw [sizeLine_eq]; omega, hG _ _ ?_⟩
          refine ⟨l, _, ds' ++ [d], _, _, rfl, same_updN nl sm5, nl, upd_same, (dp_app hy5 (.cons (hx.same (tu_old s05)) .nil)).same (tu_updL hl5), ?_⟩
          rw [tk]
          rcases hrep with h | ⟨h, h'⟩
          · exact .inl (h.snoc gd)
          · exact .inr ⟨by omega, h'.snoc gd⟩
        | true =>
          obtain ⟨h2, h3⟩ := hb rfl
          have hrep : Rep (ds.take i) [] ds' := hrep.elim id fun h => absurd h.1 (by omega)
          refine iteT ?_
          refine ⟨_, rfl, H0, x, d, rfl, s05, hx, brd, fun H6 kl ks s6 nkl hkl hks => ?_⟩
          have kl2 := dpl hks
          rw [List.length_map] at kl2
          obtain ⟨ka, kb, hk⟩ : ∃ ka kb, kids d = [ka, kb] := by
            rcases kids_cnt (d := d) with h | h
            · rw [flat_one, flatk_kids, List.eq_nil_of_length_eq_zero h] at h3
              simp at h3
              omega
            · exact h
          have fa := kid_fit ftd (x := ka) (by rw [hk]; exact List.mem_cons_self)
          have fb := kid_fit ftd (x := kb) (by rw [hk]; exact List.mem_cons_of_mem _ List.mem_cons_self)
          have bra : ∀ e ∈ flat ka, BrOk e := fun e he => brk e (by rw [flatk_kids, hk]; simp [he])
          have brb : ∀ e ∈ flat kb, BrOk e := fun e he => brk e (by rw [flatk_kids, hk]; simp [he])
          rw [hk] at hks
          obtain ⟨pre, hpre, hne, hpl⟩ := fork_pre hk
          have cab : cntAll ka + cntAll kb + 3 ≤ cntD d := by
            rw [hpre, cntD, cnt_app]
            simp only [cntAll, cntD]
            omega
          have cd : cntD d ≤ cntAll ds := by
            have z := cnt_take ds (i + 1)
            rw [tk, cnt_app] at z
            simp only [cntAll] at z
            omega
          cases hks with
          | @cons k1 ks _ _ e1 hks =>
          cases hks with
          | @cons k2 ks _ _ e2 hks =>
          cases hks
          cases id e1 with
          | @tup p1 xs1 _ hp1 ha1 =>
          cases id e2 with
          | @tup p2 xs2 _ hp2 ha2 =>
          refine ⟨kl, _, rfl, SqL.of hkl, rfl, _, _, rfl, _, _, rfl, rfl, ?_⟩
          dsimp only [gName]
          have s56 := s05.trans s6
          refine seqS_in (ifS_join (fun σ' H' => ∃ (u1 u2 : V) (a' b' : List D), σ' = [some (.ref p), some (.int a), some (.ref lm), some (.ref l), some x, some (.int ((flat [d]).length : Nat)), some u1, some u2] ∧ Same H6 H' ∧ Dp K (tu H0 H') u1 (.tuple a') ∧ Dp K (tu H0 H') u2 (.tuple b') ∧ ((Rep ka es a' ∧ b' = kb) ∨ (a' = ka ∧ Rep kb es b'))) ?_ fun hG2 => ?_)
          · rintro σ' H7 ⟨u1, u2, a', b', rfl, s7, hu1, hu2, hr⟩
            have s57 := s56.trans s7
            have hl7 := (s6.trans s7) _ _ hl5
            have hy7 := hy5.same (tu_same s05 (s6.trans s7))
            subst hpre
            cases hx with
            | @tup px xr dd hpx hax =>
            have lx := dpl hax
            rw [List.length_append] at lx
            refine ⟨_, rfl, .inl ⟨rfl, _, SqL.of hl7⟩, ?_⟩
            refine ⟨_, rfl, _, rfl, px, xr, rfl, .inr (s57.tupS hpx), _, _, rfl, rfl, _, rfl, ?_⟩
            have el2 : ((xr.length : Nat) : Int) - 2 = (pre.length : Nat) := by
              rw [lx]
              show ((pre.length + 2 : Nat) : Int) - 2 = _
              omega
            rw [el2]
            refine head_tup (s57.tupS hpx) fun H8 u s8 hu => ?_
            have tk2 := dp_take pre.length hax
            rw [List.take_append_of_le_length (Nat.le_refl _), List.take_length] at tk2
            have l8 := dpl tk2
            have s58 := s57.trans s8
            have pos : 0 < pre.length := List.length_pos_iff.mpr hne
            refine ⟨_, rfl, _, rfl, by show 2 ≤ sizeLine; decide, fun t9 nt9 => ?_⟩
            have s9 := same_upd (o := HO.tup [u1, u2]) nt9
            refine ⟨u, t9, _, _, rfl, rfl, s9.tupS hu, SqT.of upd_same, by rw [l8, sizeLine_eq]; show pre.length + 2 ≤ _; omega, fun e => absurd e (fun e => by rw [e] at l8; simp at l8; omega), (fun _ e => nomatch e), fun _ _ t10 nt10 => ?_⟩
            have s10 := same_upd (o := HO.tup (xr.take pre.length ++ [u1, u2])) nt10
            have s710 := s8.trans (s9.trans s10)
            have s510 := s57.trans s710
            have hl10 := s710 _ _ hl7
            have w10 := tu_same s57 s710
            have hnew : Dp K (tu H0 (upd (upd H8 t9 (HO.tup [u1, u2])) t10 (HO.tup (xr.take pre.length ++ [u1, u2])))) (.ref t10) (.tuple (pre ++ [.tuple a', .tuple b'])) :=
              .tup (SqT.of tu_new) (dp_app (tk2.same (tu_old s510)) (.cons (hu1.same w10) (.cons (hu2.same w10) .nil)))
            refine ⟨l, _, _, rfl, rfl, hl10, by rw [sizeLine_eq]; omega, hG _ _ ?_⟩
            have pf := put_fork ftd hr
            refine ⟨l, _, ds' ++ [.tuple (pre ++ [.tuple a', .tuple b'])], _, _, rfl, same_updN nl (sm5.trans (s6.trans (s7.trans s710))), nl, upd_same, (dp_app (hy7.same w10) (.cons hnew .nil)).same (tu_updL hl10), .inr ⟨by omega, ?_⟩⟩
            rw [tk]
            exact hrep.swap pf.1 pf.2.1 pf.2.2
          · refine ⟨_, rfl, _, rfl, H0, p1, xs1, ka, rfl, s56, s56.tupS hp1, ha1, fa.mono (Nat.le_succ _), bra, fun H7 s7 => ⟨_, _, rfl, rfl, _, rfl, ite_any ?_ ?_⟩⟩
            · have s57 := s56.trans s7
              refine ⟨_, rfl, _, rfl, _, _, rfl, rfl, _, rfl, H0, p1, lm, _, xs1, ms, ka, es, rfl, s57, s57.tupS hp1, ha1, fa, bra, (s6.trans s7) _ _ hm5, hms, ges, by omega, fun H8 t ys8 a' s8 ht hy8 hr => name_in (hG2 _ _ ?_)⟩
              have s58 := s57.trans s8
              exact ⟨_, _, a', kb, rfl, s7.trans s8, .tup (SqT.of (by unfold tu; rw [ht])) hy8, e2.same (tu_old s58), .inl ⟨hr, rfl⟩⟩
            · have s57 := s56.trans s7
              refine ⟨_, rfl, _, rfl, _, _, rfl, rfl, _, rfl, H0, p1, xs1, ka, rfl, s57, s57.tupS hp1, ha1, fa.mono (Nat.le_succ _), bra, fun H8 s8 => ⟨_, _, rfl, rfl, _, rfl, ?_⟩⟩
              have s58 := s57.trans s8
              refine ⟨H0, p2, lm, _, _, ms, kb, es, rfl, s58, s58.tupS hp2, ha2, fb, brb, (s6.trans (s7.trans s8)) _ _ hm5, hms, ges, by omega, fun H9 t ys9 b' s9 ht hy9 hr => name_in (hG2 _ _ ?_)⟩
              have s59 := s58.trans s9
              exact ⟨_, _, ka, b', rfl, s7.trans (s8.trans s9), e1.same (tu_old s59), .tup (SqT.of (by unfold tu; rw [ht])) hy9, .inr ⟨rfl, hr⟩⟩
      · rintro σ H1 ⟨l, a, ys, ds', v4, v5, v6, v7, rfl, sm, nl, hl, hy, hrep⟩
        rw [len, List.take_length] at hrep
        refine ⟨_, rfl, l, ys, rfl, .inl ⟨SqL.of hl, fun t nt => ?_⟩⟩
        refine q _ t ys ds' (sm.trans (same_upd nt)) upd_same (hy.same (tu_same (s0.trans sm) (same_upd nt))) ?_
        exact hrep.elim (fun h => h.wide) fun h => h.2
end
end Tr

/-! P22 -/
/-! ### things that are no items -/
namespace Tr
open PySem PySem.Spec PyProof.Rows L2 Rw
section
variable {X : Cx} {e : Expr} {es : List Expr} {pos : Pos} {J : L2.St → Hp → Prop} {K : PySem.W.Frag} {o : Addr} {d : D} {ds : List D}
def tO (J : L2.St → Hp → Prop) (K : PySem.W.Frag) (o : Addr) (d : D) : TE := fun σ H Q => J σ H ∧ ∀ H' v, Same H H' → Dp K (wh o H') v d → Q v H'
def tOs (J : L2.St → Hp → Prop) (K : PySem.W.Frag) (o : Addr) (ds : List D) : TA := fun σ H Q => J σ H ∧ ∀ H' vs, Same H H' → DpAll K (wh o H') vs ds → Q vs H'
def tOL (J : L2.St → Hp → Prop) (K : PySem.W.Frag) (o : Addr) (ds : List D) : TE := fun σ H Q => J σ H ∧ ∀ H' l vs, Same H H' → wh o H' l = some (.lst vs) → DpAll K (wh o H') vs ds → Q (.ref l) H'
structure StayO (J : L2.St → Hp → Prop) (o : Addr) : Prop where
  up : ∀ σ H H', J σ H → Same H H' → J σ H'
  ne : ∀ σ H, J σ H → H o ≠ none
theorem StayO.off (S : StayO J o) {σ : L2.St} {H H1 : Hp} {p : Addr} (j : J σ H) (s : Same H H1) (np : H1 p = none) : p ≠ o := fun z => S.ne σ H1 (S.up σ H H1 j s) (z ▸ np)
theorem pz_int {i : Int} {j pos} : PE X (.Constant (.int i) j pos) (tO J K o (.int i)) := pe_way pe_int fun σ H Q h => h.2 H _ (Same.refl H) (.int i)
theorem pz_bl {b : Bool} {j pos} : PE X (.Constant (.bool b) j pos) (tO J K o (.bool b)) := pe_way pe_bl fun σ H Q h => h.2 H _ (Same.refl H) (.bl b)
theorem pz_non {j pos} : PE X (.Constant .none j pos) (tO J K o .none) := pe_way pe_non fun σ H Q h => h.2 H _ (Same.refl H) .non
theorem pz_str {x : Str} {j pos} : PE X (.Constant (.str x) j pos) (tO J K o (.str x)) := pe_way pe_str fun σ H Q h => h.2 H _ (Same.refl H) (.str x)
theorem pz_nil : PA X [] (tOs J K o []) := pa_way pa_nil fun σ H Q h => h.2 H [] (Same.refl H) .nil
theorem pz_cons (S : StayO J o) (ha : PE X e (tO J K o d)) (hr : PA X es (tOs J K o ds)) (hs : starEach (e :: es) X.env = (false, eval e X.env) :: starEach es X.env := by rfl) : PA X (e :: es) (tOs J K o (d :: ds)) :=
  pa_way (pa_cons ha hr hs) fun σ H Q h => ⟨h.1, fun H1 v s1 h1 => ⟨S.up _ _ _ h.1 s1, fun H2 vs s2 h2 => h.2 H2 (v :: vs) (s1.trans s2) (.cons (h1.same (wh_same s2)) h2)⟩⟩
theorem pz_tup (S : StayO J o) {x1} (h : PA X es (tOs J K o ds)) (z : ds.length ≤ 1000 := by first | decide | exact Nat.le_of_ble_eq_true rfl) : PE X (.Tuple es x1 pos) (tO J K o (.tuple ds)) :=
  pe_way (pe_tup h) fun σ H Q q => ⟨q.1, fun H1 vs s1 h1 => ⟨by rw [dpl h1, sizeLine_eq]; omega, fun p np => q.2 _ _ (s1.trans (same_upd np)) (.tup (SqT.of (wh_at (S.off q.1 s1 np) upd_same)) (h1.same (wh_same (same_upd np))))⟩⟩
theorem pz_lst (S : StayO J o) (h : PA X es (tOs J K o ds)) (z : ds.length ≤ 1000 := by first | decide | exact Nat.le_of_ble_eq_true rfl) : PE X (.List es pos) (tO J K o (.list ds)) :=
  pe_way (pe_lst h) fun σ H Q q => ⟨q.1, fun H1 vs s1 h1 => ⟨by rw [dpl h1, sizeLine_eq]; omega, fun p np => q.2 _ _ (s1.trans (same_upd np)) (.lst (SqL.of (wh_at (S.off q.1 s1 np) upd_same)) (h1.same (wh_same (same_upd np))))⟩⟩
theorem pz_list (S : StayO J o) (h : PA X es (tOs J K o ds)) (z : ds.length ≤ 1000 := by first | decide | exact Nat.le_of_ble_eq_true rfl) : PE X (.List es pos) (tOL J K o ds) :=
  pe_way (pe_lst h) fun σ H Q q => ⟨q.1, fun H1 vs s1 h1 => ⟨by rw [dpl h1, sizeLine_eq]; omega, fun p np => q.2 _ p vs (s1.trans (same_upd np)) (wh_at (S.off q.1 s1 np) upd_same) (h1.same (wh_same (same_upd np)))⟩⟩
theorem dp_rep {H : Hp} {xs : List V} (h : DpAll K H xs ds) : ∀ n : Nat, DpAll K H (List.replicate n xs).flatten (List.replicate n ds).flatten
  | 0 => .nil
  | n + 1 => by
    rw [List.replicate_succ, List.replicate_succ, List.flatten_cons, List.flatten_cons]
    exact dp_app h (dp_rep h n)
theorem mul_way (S : StayO J o) {n : Nat} (hn : 2 ≤ n) (hn2 : n ≤ 1000) (hd : ds ≠ []) (hl : ds.length ≤ 1000) : ∀ σ H Q, tO J K o (.tuple (List.replicate n ds).flatten) σ H Q → tOp (rRepT K) (tO J K o (.tuple ds)) (tC (.int (n : Nat))) σ H Q := fun σ H Q q => ⟨q.1, fun H1 v s1 h1 => by
  cases h1 with
  | @tup p xs _ hp ha =>
    have l := dpl ha
    refine ⟨p, _, xs, rfl, rfl, wh_sub.tupS hp, fun e => ?_, by omega, by omega, by omega, fun p2 np => ?_⟩
    · rw [e] at l
      exact hd (List.eq_nil_of_length_eq_zero l.symm)
    · refine q.2 _ _ (s1.trans (same_upd np)) (.tup (SqT.of (wh_at (S.off q.1 s1 np) upd_same)) ?_)
      rw [show ((n : Nat) : Int).toNat = n from Int.toNat_natCast n]
      exact (dp_rep ha n).same (wh_same (same_upd np))⟩
end
def JJ (o qq nl : Addr) (ns : List Str) : L2.St → Hp → Prop := fun σ H => PoolAt H o qq ∧ NamesAt (wh o H) nl ns ∧ σ[1]? = some (some (.ref nl))
def JD (K : PySem.W.Frag) (o qq nl : Addr) (ns : List Str) (dd : D) : L2.St → Hp → Prop := fun σ H => JJ o qq nl ns σ H ∧ ∃ vd, σ[3]? = some (some vd) ∧ Dp K (wh o H) vd dd
theorem stayJ {o qq nl : Addr} {ns : List Str} : StayO (JJ o qq nl ns) o := ⟨fun σ H H' h s => ⟨h.1.same s, h.2.1.same (wh_same s), h.2.2⟩, fun σ H h => by obtain ⟨⟨a, b, c, _⟩, _⟩ := h; rw [c]; exact fun z => nomatch z⟩
theorem stayD {K : PySem.W.Frag} {o qq nl : Addr} {ns : List Str} {dd : D} : StayO (JD K o qq nl ns dd) o := ⟨fun σ H H' h s => ⟨stayJ.up _ _ _ h.1 s, let ⟨vd, a, b⟩ := h.2; ⟨vd, a, b.same (wh_same s)⟩⟩, fun σ H h => stayJ.ne _ _ h.1⟩
def jkdeep : D := .tuple [.str "test", .str "f", .tuple [.tuple [.str "test", .str "f", .tuple [.tuple [.str "test", .str "f", .tuple [], .tuple [.tuple [.str "test", .str "f", .tuple [], .tuple []]]]], .tuple []]], .tuple []]
def jk1 : List D := [.none, .tuple [], .str "use", .list [.str "use"], .tuple [.str "use", .str "a"], .tuple [.str "start"], .tuple [.str "start", .str "A"], .tuple [.str "set", .str ""], .tuple [.str "clear", .str "abcdefghi"], .int 7]
def jk2 : List D := [.tuple [.str "take", .int 1], .tuple [.str "test", .str "f", .tuple []], .tuple [.str "test", .str "f", .tuple [], .list []], .tuple [.str "choose", .tuple [], .none], .tuple [.str "piece", .str "l", .tuple []]]
def jk3 : List D := [.tuple [.str "choose", .tuple []], .tuple [.str "start", .str "a", .str "b"], .tuple [.str "bar", .str "w"], .tuple [.str "halt", .str "w"], .tuple [.int 0, .int 1], .tuple [.tuple [.str "use"]], .tuple [.str "Use"]]
def jk4 : List D := [.tuple [.str "piece", .str "l", .tuple [.tuple [.str "set", .str "f"]]], .tuple [.str "piece", .str "l", .tuple (List.replicate 5 [.tuple [.str "use"]]).flatten], .tuple [.str "piece", .str "l", .list [.str "use"]]]
def jk5 : List D := [.tuple [.none, .str "a"]]
def jk6 : List D := [.tuple [.str "piece", .str "l", .tuple [.tuple [.str "test", .str "f", .tuple [.tuple [.str "choose", .tuple [], .tuple []]], .tuple []]]], .tuple [.str "test", .str "f g", .tuple [], .tuple []], .bool true]
def jk7 (n0 : Str) : List D := [jkdeep, .tuple [.str "piece", .str n0, .tuple [jkdeep]], .tuple [.str "test", .str n0, .tuple [.none], .tuple [.int 0]]]
def okD (d : D) : Bool := goodD d && decide (d.depth ≤ 10) && decide (cntD d ≤ 60)
theorem okD_it {d : D} (h : okD d = true) : It 10 60 d := by
  unfold okD at h
  simp only [Bool.and_eq_true, decide_eq_true_eq] at h
  exact ⟨h.1.1, h.1.2, h.2⟩
theorem jk_ok : (jk1 ++ jk2 ++ jk3 ++ jk4 ++ jk5 ++ jk6).all okD = true := by decide +kernel
theorem jkdeep_ok : okD jkdeep = true := by decide +kernel
theorem noneG : It 0 1 .none := ⟨by simp [goodD], by simp [PyData.depth], by simp [cntD]⟩
theorem zeroG : It 0 1 (.int 0) := ⟨by simp [goodD], by simp [PyData.depth], by simp [cntD]⟩
theorem deepG : It 8 30 jkdeep := by
  have h : (goodD jkdeep && decide (jkdeep.depth ≤ 8) && decide (cntD jkdeep ≤ 30)) = true := by decide +kernel
  simp only [Bool.and_eq_true, decide_eq_true_eq] at h
  exact ⟨h.1.1, h.1.2, h.2⟩
theorem jk7_ok {n0 : Str} (g : goodD (.str n0) = true) : ∀ d ∈ jk7 n0, It 10 60 d := by
  intro d hd
  unfold jk7 at hd
  rcases List.mem_cons.mp hd with rfl | hd
  · exact deepG.mono
  rcases List.mem_cons.mp hd with rfl | hd
  · exact It.mono (It.tup (Its.cons (It.str pieceG) (Its.cons (It.str g) (Its.cons (It.tup (Its.cons deepG Its.nil)) Its.nil))))
  rcases List.mem_cons.mp hd with rfl | hd
  · exact It.mono (It.tup (Its.cons (It.str testG) (Its.cons (It.str g) (Its.cons (It.tup (Its.cons noneG Its.nil)) (Its.cons (It.tup (Its.cons zeroG Its.nil)) Its.nil)))))
  · cases hd
theorem dp_mem {K : PySem.W.Frag} {H : Hp} {vs : List V} {ds : List D} {x : V} (h : DpAll K H vs ds) (m : x ∈ vs) : ∃ d ∈ ds, Dp K H x d := by
  obtain ⟨i, hi⟩ := List.getElem?_of_mem m
  obtain ⟨d, e, h'⟩ := dp_get h hi
  exact ⟨d, List.mem_of_getElem? e, h'⟩
def spJk (K : PySem.W.Frag) : Sp := fun vs H Q _ => ∃ (o qq nl : Addr) (ns : List Str), vs = [.ref o, .ref nl] ∧ PoolAt H o qq ∧ NamesAt (wh o H) nl ns ∧ ∀ H' v d, SameBut o H H' → PoolAt H' o qq → Dp K (wh o H') v d → It 10 60 d → Q v H'
section
variable {P : Program} {w : World} {K : PySem.W.Frag} {mg : Str → Option Value} {base : Heap}
abbrev sJk : Stmt := top 58
theorem scJk : FnScope ["_law_pool_here", "_law_names", "_law_some_here", "_law_deep"] ["_law_pool_here", "_law_names"] (defScope sJk) := ⟨rfl, rfl, rfl, by decide +kernel, rfl, by decide +kernel, by decide +kernel⟩
theorem ok_jk {f fP : Addr} {fd fdP : FuncData} (F : Fun K "_law_junk" "_law_junk" sJk f fd) (GP : FnOk P w K mg base CX0 2 fP fdP ["_law_pool_here", "_law_some_here"] (spPick K)) (TP : Called K mg "_law_pick" ["_law_pool_here", "_law_some_here"] fP fdP) : FnOk P w K mg base CX0 3 f fd ["_law_pool_here", "_law_names"] (spJk K) := by
  refine F.ok scJk (fun vs H Q E h => ?_) (fun cdv A outer s H vs Q E hr h => ?_)
  · obtain ⟨o, qq, nl, ns, rfl, _⟩ := h
    rfl
  · obtain ⟨o, qq, nl, ns, rfl, hp, hn, q⟩ := h
    obtain ⟨n0, nr, rfl⟩ : ∃ n0 nr, ns = n0 :: nr := by
      cases ns with
      | nil => exact absurd rfl hn.2.1
      | cons a r => exact ⟨a, r, rfl⟩
    have g0 := hn.2.2.2 n0 List.mem_cons_self
    refine ⟨_, (pss_cons (ps_set (i := 2) scJk.nd rfl (.inl rfl) (pz_list (J := JJ o qq nl (n0 :: nr)) (K := K) (o := o) (ds := jk1) stayJ (pz_cons stayJ pz_non (pz_cons stayJ (pz_tup stayJ pz_nil) (pz_cons stayJ pz_str (pz_cons stayJ (pz_lst stayJ (pz_cons stayJ pz_str pz_nil)) (pz_cons stayJ (pz_tup stayJ (pz_cons stayJ pz_str (pz_cons stayJ pz_str pz_nil))) (pz_cons stayJ (pz_tup stayJ (pz_cons stayJ pz_str pz_nil)) (pz_cons stayJ (pz_tup stayJ (pz_cons stayJ pz_str (pz_cons stayJ pz_str pz_nil))) (pz_cons stayJ (pz_tup stayJ (pz_cons stayJ pz_str (pz_cons stayJ pz_str pz_nil))) (pz_cons stayJ (pz_tup stayJ (pz_cons stayJ pz_str (pz_cons stayJ pz_str pz_nil))) (pz_cons stayJ pz_int pz_nil))))))))))))
       (pss_cons (ps_set (i := 2) scJk.nd rfl (.inl rfl) (pe_op op_cat (pv 2) (pz_list (J := JJ o qq nl (n0 :: nr)) (K := K) (o := o) (ds := jk2) stayJ (pz_cons stayJ (pz_tup stayJ (pz_cons stayJ pz_str (pz_cons stayJ pz_int pz_nil))) (pz_cons stayJ (pz_tup stayJ (pz_cons stayJ pz_str (pz_cons stayJ pz_str (pz_cons stayJ (pz_tup stayJ pz_nil) pz_nil)))) (pz_cons stayJ (pz_tup stayJ (pz_cons stayJ pz_str (pz_cons stayJ pz_str (pz_cons stayJ (pz_tup stayJ pz_nil) (pz_cons stayJ (pz_lst stayJ pz_nil) pz_nil))))) (pz_cons stayJ (pz_tup stayJ (pz_cons stayJ pz_str (pz_cons stayJ (pz_tup stayJ pz_nil) (pz_cons stayJ pz_non pz_nil)))) (pz_cons stayJ (pz_tup stayJ (pz_cons stayJ pz_str (pz_cons stayJ pz_str (pz_cons stayJ (pz_tup stayJ pz_nil) pz_nil)))) pz_nil))))))))
       (pss_cons (ps_set (i := 2) scJk.nd rfl (.inl rfl) (pe_op op_cat (pv 2) (pz_list (J := JJ o qq nl (n0 :: nr)) (K := K) (o := o) (ds := jk3) stayJ (pz_cons stayJ (pz_tup stayJ (pz_cons stayJ pz_str (pz_cons stayJ (pz_tup stayJ pz_nil) pz_nil))) (pz_cons stayJ (pz_tup stayJ (pz_cons stayJ pz_str (pz_cons stayJ pz_str (pz_cons stayJ pz_str pz_nil)))) (pz_cons stayJ (pz_tup stayJ (pz_cons stayJ pz_str (pz_cons stayJ pz_str pz_nil))) (pz_cons stayJ (pz_tup stayJ (pz_cons stayJ pz_str (pz_cons stayJ pz_str pz_nil))) (pz_cons stayJ (pz_tup stayJ (pz_cons stayJ pz_int (pz_cons stayJ pz_int pz_nil))) (pz_cons stayJ (pz_tup stayJ (pz_cons stayJ (pz_tup stayJ (pz_cons stayJ pz_str pz_nil)) pz_nil)) (pz_cons stayJ (pz_tup stayJ (pz_cons stayJ pz_str pz_nil)) pz_nil))))))))))
       (pss_cons (ps_set (i := 2) scJk.nd rfl (.inl rfl) (pe_op op_cat (pv 2) (pz_list (J := JJ o qq nl (n0 :: nr)) (K := K) (o := o) (ds := jk4) stayJ (pz_cons stayJ (pz_tup stayJ (pz_cons stayJ pz_str (pz_cons stayJ pz_str (pz_cons stayJ (pz_tup stayJ (pz_cons stayJ (pz_tup stayJ (pz_cons stayJ pz_str (pz_cons stayJ pz_str pz_nil))) pz_nil)) pz_nil)))) (pz_cons stayJ (pz_tup stayJ (pz_cons stayJ pz_str (pz_cons stayJ pz_str (pz_cons stayJ (pe_way (pe_op op_repT (pz_tup stayJ (pz_cons stayJ (pz_tup stayJ (pz_cons stayJ pz_str pz_nil)) pz_nil)) pe_int) (mul_way stayJ (n := 5) (by decide) (by decide) (fun z => nomatch z) (by decide))) pz_nil)))) (pz_cons stayJ (pz_tup stayJ (pz_cons stayJ pz_str (pz_cons stayJ pz_str (pz_cons stayJ (pz_lst stayJ (pz_cons stayJ pz_str pz_nil)) pz_nil)))) pz_nil))))))
       (pss_cons (ps_set (i := 2) scJk.nd rfl (.inl rfl) (pe_op op_cat (pv 2) (pz_list (J := JJ o qq nl (n0 :: nr)) (K := K) (o := o) (ds := jk5) stayJ (pz_cons stayJ (pz_tup stayJ (pz_cons stayJ pz_non (pz_cons stayJ pz_str pz_nil))) pz_nil))))
       (pss_cons (ps_set (i := 2) scJk.nd rfl (.inl rfl) (pe_op op_cat (pv 2) (pz_list (J := JJ o qq nl (n0 :: nr)) (K := K) (o := o) (ds := jk6) stayJ (pz_cons stayJ (pz_tup stayJ (pz_cons stayJ pz_str (pz_cons stayJ pz_str (pz_cons stayJ (pz_tup stayJ (pz_cons stayJ (pz_tup stayJ (pz_cons stayJ pz_str (pz_cons stayJ pz_str (pz_cons stayJ (pz_tup stayJ (pz_cons stayJ (pz_tup stayJ (pz_cons stayJ pz_str (pz_cons stayJ (pz_tup stayJ pz_nil) (pz_cons stayJ (pz_tup stayJ pz_nil) pz_nil)))) pz_nil)) (pz_cons stayJ (pz_tup stayJ pz_nil) pz_nil))))) pz_nil)) pz_nil)))) (pz_cons stayJ (pz_tup stayJ (pz_cons stayJ pz_str (pz_cons stayJ pz_str (pz_cons stayJ (pz_tup stayJ pz_nil) (pz_cons stayJ (pz_tup stayJ pz_nil) pz_nil))))) (pz_cons stayJ pz_bl pz_nil))))))
       (pss_cons (ps_set (i := 3) scJk.nd rfl (.inl rfl) (pz_tup (J := JJ o qq nl (n0 :: nr)) (K := K) (o := o) stayJ (pz_cons stayJ pz_str (pz_cons stayJ pz_str (pz_cons stayJ (pz_tup stayJ (pz_cons stayJ (pz_tup stayJ (pz_cons stayJ pz_str (pz_cons stayJ pz_str (pz_cons stayJ (pz_tup stayJ (pz_cons stayJ (pz_tup stayJ (pz_cons stayJ pz_str (pz_cons stayJ pz_str (pz_cons stayJ (pz_tup stayJ pz_nil) (pz_cons stayJ (pz_tup stayJ (pz_cons stayJ (pz_tup stayJ (pz_cons stayJ pz_str (pz_cons stayJ pz_str (pz_cons stayJ (pz_tup stayJ pz_nil) (pz_cons stayJ (pz_tup stayJ pz_nil) pz_nil))))) pz_nil)) pz_nil))))) pz_nil)) (pz_cons stayJ (pz_tup stayJ pz_nil) pz_nil))))) pz_nil)) (pz_cons stayJ (pz_tup stayJ pz_nil) pz_nil))))))
       (pss_one (ps_ret (pe_call GP (hr.mono (by first | decide | omega)) rfl TP.1 TP.2.1 TP.2.2 .nil pass0 (pa_cons (pv 0) (pa_cons (pe_op op_cat (pv 2) (pz_list (J := JD K o qq nl (n0 :: nr) jkdeep) (K := K) (o := o) (ds := (jk7 n0)) stayD (pz_cons stayD (pe_way (t' := tO (JD K o qq nl (n0 :: nr) jkdeep) K o jkdeep) (pv 3) (fun σ H Q h => let ⟨vd, a, b⟩ := h.1.2; ⟨vd, a, h.2 H vd (Same.refl H) b⟩)) (pz_cons stayD (pz_tup stayD (pz_cons stayD pz_str (pz_cons stayD (pe_way (t' := tO (JD K o qq nl (n0 :: nr) jkdeep) K o (.str n0)) (pe_ix (ix_listK (K := K) rfl) (pv 1) pe_int (fun _ _ => rfl)) (fun σ H Q h => ⟨_, h.1.1.2.2, nl, _, _, _, rfl, rfl, SqL.of (wh_sub _ _ h.1.1.2.1.1), at0, h.2 H _ (Same.refl H) (.str n0)⟩)) (pz_cons stayD (pz_tup stayD (pz_cons stayD (pe_way (t' := tO (JD K o qq nl (n0 :: nr) jkdeep) K o jkdeep) (pv 3) (fun σ H Q h => let ⟨vd, a, b⟩ := h.1.2; ⟨vd, a, h.2 H vd (Same.refl H) b⟩)) pz_nil)) pz_nil)))) (pz_cons stayD (pz_tup stayD (pz_cons stayD pz_str (pz_cons stayD (pe_way (t' := tO (JD K o qq nl (n0 :: nr) jkdeep) K o (.str n0)) (pe_ix (ix_listK (K := K) rfl) (pv 1) pe_int (fun _ _ => rfl)) (fun σ H Q h => ⟨_, h.1.1.2.2, nl, _, _, _, rfl, rfl, SqL.of (wh_sub _ _ h.1.1.2.1.1), at0, h.2 H _ (Same.refl H) (.str n0)⟩)) (pz_cons stayD (pz_tup stayD (pz_cons stayD pz_non pz_nil)) (pz_cons stayD (pz_tup stayD (pz_cons stayD pz_int pz_nil)) pz_nil))))) pz_nil))))) pa_nil)))))))))))), ?_⟩
    refine ⟨⟨hp, hn, rfl⟩, fun H1 l1 v1 s1 hl1 h1 => ?_⟩
    have pp0 := hp.same s1
    have pn0 := hn.same (wh_same s1)
    have hc0 := h1
    have hl0' := hl1
    have ss0 := s1
    refine ⟨_, rfl, ⟨pp0, pn0, rfl⟩, fun Hx1 lx1 vx1 sx1 hlx1 hx1 => ⟨_, lx1, _, _, rfl, rfl, wh_sub _ _ (wh_same sx1 _ _ hl0'), wh_sub _ _ hlx1, by rw [dpl (hc0.same (wh_same sx1)), dpl hx1, sizeLine_eq]; decide, fun ly1 nly1 => name_in ?_⟩⟩
    have sy1 := sx1.trans (same_upd (o := HO.lst (v1 ++ vx1)) nly1)
    have pp1 := pp0.same sy1
    have pn1 := pn0.same (wh_same sy1)
    have ss1 := ss0.trans sy1
    have hc1 := (dp_app (hc0.same (wh_same sx1)) hx1).same (wh_same (o := o) (same_upd (o := HO.lst (v1 ++ vx1)) nly1))
    have hl1' := newL (vs := v1 ++ vx1) (pp0.same sx1) nly1
    generalize upd Hx1 ly1 (HO.lst (v1 ++ vx1)) = Hy1 at sy1 pp1 pn1 ss1 hc1 hl1'
    generalize v1 ++ vx1 = vc1 at hc1 hl1'
    try dsimp only
    refine ⟨_, rfl, ⟨pp1, pn1, rfl⟩, fun Hx2 lx2 vx2 sx2 hlx2 hx2 => ⟨_, lx2, _, _, rfl, rfl, wh_sub _ _ (wh_same sx2 _ _ hl1'), wh_sub _ _ hlx2, by rw [dpl (hc1.same (wh_same sx2)), dpl hx2, sizeLine_eq]; decide, fun ly2 nly2 => name_in ?_⟩⟩
    have sy2 := sx2.trans (same_upd (o := HO.lst (vc1 ++ vx2)) nly2)
    have pp2 := pp1.same sy2
    have pn2 := pn1.same (wh_same sy2)
    have ss2 := ss1.trans sy2
    have hc2 := (dp_app (hc1.same (wh_same sx2)) hx2).same (wh_same (o := o) (same_upd (o := HO.lst (vc1 ++ vx2)) nly2))
    have hl2' := newL (vs := vc1 ++ vx2) (pp1.same sx2) nly2
    generalize upd Hx2 ly2 (HO.lst (vc1 ++ vx2)) = Hy2 at sy2 pp2 pn2 ss2 hc2 hl2'
    generalize vc1 ++ vx2 = vc2 at hc2 hl2'
    try dsimp only
    refine ⟨_, rfl, ⟨pp2, pn2, rfl⟩, fun Hx3 lx3 vx3 sx3 hlx3 hx3 => ⟨_, lx3, _, _, rfl, rfl, wh_sub _ _ (wh_same sx3 _ _ hl2'), wh_sub _ _ hlx3, by rw [dpl (hc2.same (wh_same sx3)), dpl hx3, sizeLine_eq]; decide, fun ly3 nly3 => name_in ?_⟩⟩
    have sy3 := sx3.trans (same_upd (o := HO.lst (vc2 ++ vx3)) nly3)
    have pp3 := pp2.same sy3
    have pn3 := pn2.same (wh_same sy3)
    have ss3 := ss2.trans sy3
    have hc3 := (dp_app (hc2.same (wh_same sx3)) hx3).same (wh_same (o := o) (same_upd (o := HO.lst (vc2 ++ vx3)) nly3))
    have hl3' := newL (vs := vc2 ++ vx3) (pp2.same sx3) nly3
    generalize upd Hx3 ly3 (HO.lst (vc2 ++ vx3)) = Hy3 at sy3 pp3 pn3 ss3 hc3 hl3'
    generalize vc2 ++ vx3 = vc3 at hc3 hl3'
    try dsimp only
    refine ⟨_, rfl, ⟨pp3, pn3, rfl⟩, fun Hx4 lx4 vx4 sx4 hlx4 hx4 => ⟨_, lx4, _, _, rfl, rfl, wh_sub _ _ (wh_same sx4 _ _ hl3'), wh_sub _ _ hlx4, by rw [dpl (hc3.same (wh_same sx4)), dpl hx4, sizeLine_eq]; decide, fun ly4 nly4 => name_in ?_⟩⟩
    have sy4 := sx4.trans (same_upd (o := HO.lst (vc3 ++ vx4)) nly4)
    have pp4 := pp3.same sy4
    have pn4 := pn3.same (wh_same sy4)
    have ss4 := ss3.trans sy4
    have hc4 := (dp_app (hc3.same (wh_same sx4)) hx4).same (wh_same (o := o) (same_upd (o := HO.lst (vc3 ++ vx4)) nly4))
    have hl4' := newL (vs := vc3 ++ vx4) (pp3.same sx4) nly4
    generalize upd Hx4 ly4 (HO.lst (vc3 ++ vx4)) = Hy4 at sy4 pp4 pn4 ss4 hc4 hl4'
    generalize vc3 ++ vx4 = vc4 at hc4 hl4'
    try dsimp only
    refine ⟨_, rfl, ⟨pp4, pn4, rfl⟩, fun Hx5 lx5 vx5 sx5 hlx5 hx5 => ⟨_, lx5, _, _, rfl, rfl, wh_sub _ _ (wh_same sx5 _ _ hl4'), wh_sub _ _ hlx5, by rw [dpl (hc4.same (wh_same sx5)), dpl hx5, sizeLine_eq]; decide, fun ly5 nly5 => name_in ?_⟩⟩
    have sy5 := sx5.trans (same_upd (o := HO.lst (vc4 ++ vx5)) nly5)
    have pp5 := pp4.same sy5
    have pn5 := pn4.same (wh_same sy5)
    have ss5 := ss4.trans sy5
    have hc5 := (dp_app (hc4.same (wh_same sx5)) hx5).same (wh_same (o := o) (same_upd (o := HO.lst (vc4 ++ vx5)) nly5))
    have hl5' := newL (vs := vc4 ++ vx5) (pp4.same sx5) nly5
    generalize upd Hx5 ly5 (HO.lst (vc4 ++ vx5)) = Hy5 at sy5 pp5 pn5 ss5 hc5 hl5'
    generalize vc4 ++ vx5 = vc5 at hc5 hl5'
    try dsimp only
    refine ⟨⟨pp5, pn5, rfl⟩, fun H7 vd s7 hd7 => name_in ?_⟩
    have pp7 := pp5.same s7
    have pn7 := pn5.same (wh_same s7)
    have hc7 := hc5.same (wh_same s7)
    have hl7 := wh_same s7 _ _ hl5'
    refine ⟨_, rfl, _, rfl, ⟨⟨pp7, pn7, rfl⟩, vd, rfl, hd7⟩, fun H8 l8 v8 s8 hl8 h8 => ?_⟩
    have pp8 := pp7.same s8
    have lA := dpl (hc7.same (wh_same s8))
    have lB := dpl h8
    refine ⟨_, l8, _, _, rfl, rfl, wh_sub _ _ (wh_same s8 _ _ hl7), wh_sub _ _ hl8, by rw [lA, lB, sizeLine_eq]; exact Nat.le_of_ble_eq_true rfl, fun l9 nl9 => ?_⟩
    have s9 := same_upd (o := HO.lst (vc5 ++ v8)) nl9
    have pp9 := pp8.same s9
    have all := (dp_app (hc7.same (wh_same s8)) h8).same (wh_same (o := o) s9)
    have hl9 := newL (vs := vc5 ++ v8) pp8 nl9
    refine ⟨o, qq, l9, _, rfl, pp9, pool_ne pp8 nl9, SqL.of upd_same, fun e => ?_, by rw [List.length_append, lA, lB]; exact Nat.le_of_ble_eq_true rfl, fun H10 x b10 p10 hx => ?_⟩
    · have z := congrArg List.length e
      rw [List.length_append, lA, lB, List.length_nil] at z
      have pos : 0 < (jk7 n0).length := Nat.le_of_ble_eq_true rfl
      omega
    · obtain ⟨d, hd, hdx⟩ := dp_mem all hx
      refine q _ _ d ((but_of (ss5.trans (s7.trans (s8.trans s9)))).trans b10) p10 (hdx.same (wh_but b10)) ?_
      rcases List.mem_append.mp hd with hd | hd
      · exact okD_it (List.all_eq_true.mp jk_ok d hd)
      · exact jk7_ok g0 d hd
end
end Tr

/-! P23 -/
/-! ### a tuple of items bent -/
namespace Tr
open PySem PySem.Spec PyProof.Rows L2 Rw
theorem flat_it_aux (N : Nat) {b c : Nat} : ∀ ds : List D, sizeOf ds < N → Its b c ds → ∀ d ∈ flat ds, It b c d := by
  induction N with
  | zero => exact fun _ h => absurd h (by omega)
  | succ N ih =>
    intro ds h it d hd
    cases ds with
    | nil => rw [flat] at hd; cases hd
    | cons e r =>
      have sm : sizeOf e ≤ N ∧ sizeOf r < N := by
        simp at h
        omega
      have ite := it.at (d := e) List.mem_cons_self
      have itr : Its b c r := by
        obtain ⟨a1, a2, a3⟩ := it
        rw [goodAll, Bool.and_eq_true] at a1
        rw [PyData.depthAll] at a2
        rw [cntAll] at a3
        exact ⟨a1.2, by omega, by omega⟩
      rw [flat] at hd
      rcases List.mem_cons.mp hd with rfl | hd
      · exact ite
      rcases List.mem_append.mp hd with hd | hd
      · cases hf : forkOf e with
        | none => rw [(fork_none hf).1] at hd; cases hd
        | some p =>
          obtain ⟨x, y⟩ := p
          obtain ⟨f1, _, _, _, s1, s2⟩ := fork_some hf
          obtain ⟨d1, d2, d3, d4⟩ := fork_depth hf
          obtain ⟨a1, a2, a3⟩ := ite
          have g := d4 a1
          rw [f1] at hd
          rcases List.mem_append.mp hd with hd | hd
          · exact ih x (by omega) ⟨g.1, by omega, by omega⟩ d hd
          · exact ih y (by omega) ⟨g.2, by omega, by omega⟩ d hd
      · exact ih r sm.2 itr d hd
theorem flat_it {b c : Nat} {ds : List D} (h : Its b c ds) {d : D} (hd : d ∈ flat ds) : It b c d := flat_it_aux _ ds (Nat.lt_succ_self _) h d hd
theorem tu_wh {H H' : Hp} {o qq : Addr} (p : PoolAt H' o qq) (s : Same H H') : Same (tu (wh o H) H') (wh o H') := fun a x h => by
  unfold tu at h
  split at h
  · next e =>
    refine wh_at (fun z => ?_) (by rw [e]; exact h)
    obtain ⟨at_, ns, h1, _⟩ := p
    rw [z, h1] at e
    cases e
  · exact wh_at (wh_ne h) (s _ _ (wh_sub _ _ h))
def MoreAt (K : PySem.W.Frag) (H0 : Hp) (v : V) : Prop := ∃ lm ms es, v = .ref lm ∧ H0 lm = some (.lst ms) ∧ DpAll K H0 ms es ∧ Its 17 460 es
theorem MoreAt.same {K : PySem.W.Frag} {H H' : Hp} {v : V} (s : Same H H') (h : MoreAt K H v) : MoreAt K H' v := let ⟨l, m, e, a, b, c, d⟩ := h; ⟨l, m, e, a, s _ _ b, c.same s, d⟩
theorem mkMore {K : PySem.W.Frag} {H : Hp} {o qq l : Addr} {vs : List V} {ds : List D} (p : PoolAt H o qq) (n : H l = none) (h : DpAll K (wh o H) vs ds) (i : Its 17 460 ds) : MoreAt K (wh o (upd H l (.lst vs))) (.ref l) := ⟨l, vs, ds, rfl, newL p n, h.same (wh_upd n), i⟩
theorem it_choose {b c : Nat} {d : D} (h : It b c d) : It (b + 2) (c + 5) (.tuple [.str "choose", .tuple [d], .tuple []]) := It.mono (It.tup (Its.cons (It.str chooseG) (Its.cons (It.tup (Its.cons h Its.nil)) (Its.cons (It.tup Its.nil) Its.nil)))) (by omega) (by omega)
theorem it_test {b c : Nat} {n : Str} {d : D} (g : goodD (.str n) = true) (h : It b c d) : It (b + 2) (c + 6) (.tuple [.str "test", .str n, .tuple [], .tuple [d]]) := It.mono (It.tup (Its.cons (It.str testG) (Its.cons (It.str g) (Its.cons (It.tup Its.nil) (Its.cons (It.tup (Its.cons h Its.nil)) Its.nil))))) (by omega) (by omega)
def spBt (K : PySem.W.Frag) : Sp := fun vs H Q _ => ∃ (o qq nl p : Addr) (ns : List Str) (xs : List V) (ds : List D), vs = [.ref o, .ref nl, .ref p] ∧ PoolAt H o qq ∧ NamesAt (wh o H) nl ns ∧ SqT K (wh o H) p xs ∧ DpAll K (wh o H) xs ds ∧ Its 15 225 ds ∧ Brs 9 ds ∧ ds ≠ [] ∧
  ∀ H' p' xs' ds', SameBut o H H' → PoolAt H' o qq → SqT K (wh o H') p' xs' → DpAll K (wh o H') xs' ds' → Its 35 780 ds' → Q (.ref p') H'
section
variable {P : Program} {w : World} {K : PySem.W.Frag} {mg : Str → Option Value} {base : Heap}
abbrev sBt : Stmt := top 59
theorem scBt : FnScope ["_law_pool_here", "_law_names", "_law_items", "_law_at", "_law_item", "_law_way", "_law_more", "_law_found"] ["_law_pool_here", "_law_names", "_law_items"] (defScope sBt) := ⟨rfl, rfl, rfl, by decide +kernel, rfl, by decide +kernel, by decide +kernel⟩
theorem ok_bt {f fJ fD fZ fF fW : Addr} {fd fdJ fdD fdZ fdF fdW : FuncData} (F : Fun K "_law_bent" "_law_bent" sBt f fd) (GJ : FnOk P w K mg base CX0 3 fJ fdJ ["_law_pool_here", "_law_names"] (spJk K)) (TJ : Called K mg "_law_junk" ["_law_pool_here", "_law_names"] fJ fdJ)
    (GD : FnOk P w K mg base CX0 1 fD fdD ["_law_pool_here", "_law_many_here"] (spDraw K)) (TD : Called K mg "_law_draw" ["_law_pool_here", "_law_many_here"] fD fdD)
    (GZ : FnOk P w K mg base CX0 18 fZ fdZ ["_law_items"] (spSz K 16)) (TZ : Called K mg "_law_size" ["_law_items"] fZ fdZ)
    (GF : FnOk P w K mg base CX0 19 fF fdF ["_law_items", "_law_start", "_law_follow", "_law_held"] (spLF K 16)) (TF : Called K mg "_law_flat" ["_law_items", "_law_start", "_law_follow", "_law_held"] fF fdF)
    (GW : FnOk P w K mg base CX0 19 fW fdW ["_law_items", "_law_at", "_law_more"] (spSw K 16)) (TW : Called K mg "_law_swapped" ["_law_items", "_law_at", "_law_more"] fW fdW) :
    FnOk P w K mg base CX0 20 f fd ["_law_pool_here", "_law_names", "_law_items"] (spBt K) := by
  refine F.ok scBt (fun vs H Q E h => ?_) (fun cdv A outer s H vs Q E hr h => ?_)
  · obtain ⟨o, qq, nl, p, ns, xs, ds, rfl, _⟩ := h
    rfl
  · obtain ⟨o, qq, nl, p, ns, xs, ds, rfl, hp, hn, hx, ha, it, bs, hne, q⟩ := h
    obtain ⟨n0, nr, rfl⟩ : ∃ n0 nr, ns = n0 :: nr := by
      cases ns with
      | nil => exact absurd rfl hn.2.1
      | cons a r => exact ⟨a, r, rfl⟩
    have g0 := hn.2.2.2 n0 List.mem_cons_self
    have ft := it.fits (n := 16) (by decide) (by decide)
    have fl := bs.len
    have fpos : 0 < (flat ds).length := Nat.lt_of_lt_of_le (List.length_pos_iff.mpr hne) (flat_ge ds)
    refine ⟨_, (pss_cons (ps_set (i := 3) scBt.nd rfl (.inl rfl) (pe_call GD (hr.mono (by first | decide | omega)) rfl TD.1 TD.2.1 TD.2.2 .nil pass0 (pa_cons (pv 0) (pa_cons (pe_call GZ (hr.mono (by first | decide | omega)) rfl TZ.1 TZ.2.1 TZ.2.2 .nil pass0 (pa_cons (pv 2) pa_nil)) pa_nil))))
       (pss_cons (ps_par (i := 4) (j := 5) rfl scBt.nd rfl rfl (by decide) rfl rfl (pa_cons (pe_ix (ix_tupK (K := K) rfl) (pe_ix (ix_listK (K := K) rfl) (pe_call GF (hr.mono (by first | decide | omega)) rfl TF.1 TF.2.1 TF.2.2 .nil pass0 (pa_cons (pv 2) (pa_cons pe_int (pa_cons pe_int (pa_cons (pe_tup pa_nil) pa_nil))))) (pv 3) (fun _ _ => rfl)) pe_int (fun _ _ => rfl)) (pa_cons (pe_call GD (hr.mono (by first | decide | omega)) rfl TD.1 TD.2.1 TD.2.2 .nil pass0 (pa_cons (pv 0) (pa_cons pe_int pa_nil))) pa_nil)) (by rfl))
       (pss_cons (ps_set (i := 6) scBt.nd rfl (.inl rfl) (pe_lst (pa_cons (pe_lst (pa_cons (pv 4) (pa_cons (pv 4) pa_nil))) (pa_cons (pe_lst (pa_cons (pe_call GJ (hr.mono (by first | decide | omega)) rfl TJ.1 TJ.2.1 TJ.2.2 .nil pass0 (pa_cons (pv 0) (pa_cons (pv 1) pa_nil))) pa_nil)) (pa_cons (pe_lst (pa_cons (pv 4) (pa_cons (pe_call GJ (hr.mono (by first | decide | omega)) rfl TJ.1 TJ.2.1 TJ.2.2 .nil pass0 (pa_cons (pv 0) (pa_cons (pv 1) pa_nil))) pa_nil))) (pa_cons (pe_lst pa_nil) (pa_cons (pe_lst (pa_cons (pe_tup (pa_cons pe_str (pa_cons (pe_ix (ix_listK (K := K) rfl) (pv 1) pe_int (fun _ _ => rfl)) pa_nil))) (pa_cons (pv 4) pa_nil))) pa_nil)))))))
       (pss_cons (ps_set (i := 6) scBt.nd rfl (.inl rfl) (pe_op op_cat (pv 6) (pe_lst (pa_cons (pe_lst (pa_cons (pv 4) (pa_cons (pe_tup (pa_cons pe_str (pa_cons (pe_ix (ix_listK (K := K) rfl) (pv 1) pe_int (fun _ _ => rfl)) pa_nil))) pa_nil))) (pa_cons (pe_lst (pa_cons (pe_tup (pa_cons pe_str (pa_cons (pe_tup (pa_cons (pv 4) pa_nil)) (pa_cons (pe_tup pa_nil) pa_nil)))) pa_nil)) (pa_cons (pe_lst (pa_cons (pe_tup (pa_cons pe_str (pa_cons (pe_ix (ix_listK (K := K) rfl) (pv 1) pe_int (fun _ _ => rfl)) (pa_cons (pe_tup pa_nil) (pa_cons (pe_tup (pa_cons (pv 4) pa_nil)) pa_nil))))) pa_nil)) pa_nil))))))
       (pss_cons (ps_set (i := 7) scBt.nd rfl (.inl rfl) (pe_ifExp (pt_cmpR op_lt (pv 5) pe_int (nomark _))
       (pe_call GW (hr.mono (by first | decide | omega)) rfl TW.1 TW.2.1 TW.2.2 .nil pass0 (pa_cons (pv 2) (pa_cons (pv 3) (pa_cons (pe_ix (ix_listK (K := K) rfl) (pv 6) (pv 5) (fun _ _ => rfl)) pa_nil))))
       (pv 2)))
       (pss_cons (ps_if (PW.pt (pw_and (pt_cmpR op_lt (pv 5) pe_int (nomark _)) (pw_and1 (pt_cmpR op_eq (pe_call GD (hr.mono (by first | decide | omega)) rfl TD.1 TD.2.1 TD.2.2 .nil pass0 (pa_cons (pv 0) (pa_cons pe_int pa_nil))) pe_int (nomark _)))))
       (pss_one (ps_set (i := 7) scBt.nd rfl (.inl rfl) (pe_op op_catA (pv 7) (pe_tup (pa_cons (pe_call GJ (hr.mono (by first | decide | omega)) rfl TJ.1 TJ.2.1 TJ.2.2 .nil pass0 (pa_cons (pv 0) (pa_cons (pv 1) pa_nil))) pa_nil)))))
       pss_nil)
       (pss_one (ps_ret (pv 7))))))))), ?_⟩
    refine ⟨_, rfl, _, rfl, wh o H, p, xs, ds, rfl, wh_sub, wh_sub.tupS hx, ha, ft, bs.br, fun H1 s1 => ⟨o, qq, _, rfl, hp.same s1, by omega, by omega, fun H2 a b2 p2 a0 a1 => name_in ?_⟩⟩
    have b02 := (but_of s1).trans b2
    have w2 := wh_but b02
    have hx2 := w2.tupS hx
    have ha2 := ha.same w2
    have hn2 := hn.same w2
    -- the item, the way
    refine ⟨_, rfl, Nat.zero_le _, fun e ne => ?_⟩
    have s3 := same_upd (o := HO.tup []) ne
    have p3 := pool_upd (x := HO.tup []) p2 ne
    refine ⟨wh o H2, p, 0, 0, .ref e, xs, ds, [], rfl, wh_sub.trans s3, (wh_sub.trans s3).tupS hx2, ha2, ft, bs.br, ⟨e, rfl, SqT.of upd_same⟩, by rw [List.length_nil]; omega, fun H4 l ys s4 nl4 hl4 hy4 => ?_⟩
    have ylen := hy4.length
    obtain ⟨k, rfl⟩ : ∃ k : Nat, a = (k : Nat) := ⟨a.toNat, by omega⟩
    have hk : k < ys.length := by omega
    obtain ⟨d, hd, px, x, rest, hyk, hpx, hdx⟩ := hy4.get (List.getElem?_eq_getElem hk)
    have itd := flat_it it (List.mem_of_getElem? hd)
    have hyk' : ys[k]? = some (.ref px) := by rw [List.getElem?_eq_getElem hk, hyk]
    refine ⟨_, rfl, l, _, _, _, rfl, rfl, SqL.of hl4, atI_nat hyk', px, _, _, _, rfl, rfl, hpx, at0, ?_⟩
    have s24 := s3.trans s4
    have p4 := p2.same s24
    refine ⟨_, rfl, o, qq, _, rfl, p4, by decide, by decide, fun H5 way b5 p5 w0 w1 => ⟨_, _, rfl, ?_⟩⟩
    have b25 := (but_of s24).trans b5
    have w5 := wh_but b25
    have hx5 := w5.tupS hx2
    have ha5 := ha2.same w5
    have hn5 := hn2.same w5
    have hd5 := hdx.same w5
    have b05 := b02.trans b25
    clear hdx hpx hd hyk hy4 hl4 nl4 s4
    -- the ways to bend
    refine ⟨_, rfl, _, rfl, by show 2 ≤ sizeLine; decide, fun l1 n1 => ?_⟩
    have e6 := same_upd (o := HO.lst [x, x]) n1
    have p6 := pool_upd (x := HO.lst [x, x]) p5 n1
    have m1 := mkMore p5 n1 (.cons hd5 (.cons hd5 .nil)) (Its.mono (Its.cons itd (Its.cons itd Its.nil)))
    have hn6 := hn5.same (wh_same e6)
    have hd6 := hd5.same (wh_same e6)
    generalize upd H5 l1 (HO.lst [x, x]) = H6 at e6 p6 m1 hn6 hd6
    refine ⟨_, rfl, _, rfl, o, qq, nl, _, rfl, p6, hn6, fun H7 v7 d7 b7 p7 h7 i7 => ⟨by show 1 ≤ sizeLine; decide, fun l2 n2 => ?_⟩⟩
    have e8 := same_upd (o := HO.lst [v7]) n2
    have p8 := pool_upd (x := HO.lst [v7]) p7 n2
    have w8 := wh_same (o := o) e8
    have m2 := mkMore p7 n2 (.cons h7 .nil) (Its.mono (Its.cons i7 Its.nil))
    have m1 := (m1.same (wh_but b7)).same w8
    have hn8 := (hn6.same (wh_but b7)).same w8
    have hd8 := (hd6.same (wh_but b7)).same w8
    have b58 := (but_of e6).trans (b7.trans (but_of e8))
    generalize upd H7 l2 (HO.lst [v7]) = H8 at p8 m1 m2 hn8 hd8 b58
    clear e6 p6 hn6 hd6 e8 w8 h7
    refine ⟨_, rfl, _, rfl, _, rfl, o, qq, nl, _, rfl, p8, hn8, fun H9 v9 d9 b9 p9 h9 i9 => ⟨by show 2 ≤ sizeLine; decide, fun l3 n3 => ?_⟩⟩
    have e10 := same_upd (o := HO.lst [x, v9]) n3
    have p10 := pool_upd (x := HO.lst [x, v9]) p9 n3
    have w10 := wh_same (o := o) e10
    have m3 := mkMore p9 n3 (.cons (hd8.same (wh_but b9)) (.cons h9 .nil)) (Its.mono (Its.cons itd (Its.cons i9 Its.nil)))
    have m1 := (m1.same (wh_but b9)).same w10
    have m2 := (m2.same (wh_but b9)).same w10
    have hn10 := (hn8.same (wh_but b9)).same w10
    have hd10 := (hd8.same (wh_but b9)).same w10
    have b510 := b58.trans (b9.trans (but_of e10))
    generalize upd H9 l3 (HO.lst [x, v9]) = H10 at p10 m1 m2 m3 hn10 hd10 b510
    clear hn8 hd8 e10 w10 h9
    refine ⟨Nat.zero_le _, fun l4 n4 => ?_⟩
    have e11 := same_upd (o := HO.lst []) n4
    have p11 := pool_upd (x := HO.lst []) p10 n4
    have w11 := wh_same (o := o) e11
    have m4 := mkMore (K := K) p10 n4 .nil (Its.mono Its.nil)
    have m1 := m1.same w11
    have m2 := m2.same w11
    have m3 := m3.same w11
    have hn11 := hn10.same w11
    have hd11 := hd10.same w11
    have b511 := b510.trans (but_of e11)
    generalize upd H10 l4 (HO.lst []) = H11 at p11 m1 m2 m3 m4 hn11 hd11 b511
    clear hn10 hd10 e11 w11
    refine ⟨_, rfl, nl, _, _, _, rfl, rfl, SqL.of (wh_sub _ _ hn11.1), at0, by show 2 ≤ sizeLine; decide, fun t12 n12 => ⟨_, rfl, by show 2 ≤ sizeLine; decide, fun l5 n5 => ?_⟩⟩
    have e12 := same_upd (o := HO.tup [V.str "take", V.str n0]) n12
    have p12 := pool_upd (x := HO.tup [V.str "take", V.str n0]) p11 n12
    have h12 := newT (K := K) p11 n12 (.cons (.str "take") (.cons (.str n0) .nil))
    have e13 := same_upd (o := HO.lst [V.ref t12, x]) n5
    have p13 := pool_upd (x := HO.lst [V.ref t12, x]) p12 n5
    have w13 := wh_same (o := o) (e12.trans e13)
    have m5 := mkMore p12 n5 (.cons h12 (.cons (hd11.same (wh_same e12)) .nil)) (Its.mono (Its.cons (It.tup (Its.cons (It.str takeG) (Its.cons (It.str g0) Its.nil))) (Its.cons itd Its.nil)))
    have m1 := m1.same w13
    have m2 := m2.same w13
    have m3 := m3.same w13
    have m4 := m4.same w13
    have hn13 := hn11.same w13
    have hd13 := hd11.same w13
    have b513 := b511.trans (but_of (e12.trans e13))
    generalize upd (upd H11 t12 (HO.tup [V.str "take", V.str n0])) l5 (HO.lst [V.ref t12, x]) = H13 at p13 m1 m2 m3 m4 m5 hn13 hd13 b513
    clear hn11 hd11 e12 e13 w13 p12 h12
    refine ⟨by show 5 ≤ sizeLine; decide, fun lm nm => name_in ?_⟩
    have e14 := same_upd (o := HO.lst [V.ref l1, V.ref l2, V.ref l3, V.ref l4, V.ref l5]) nm
    have p14 := pool_upd (x := HO.lst [V.ref l1, V.ref l2, V.ref l3, V.ref l4, V.ref l5]) p13 nm
    have w14 := wh_same (o := o) e14
    have hm14 := newL (vs := [V.ref l1, V.ref l2, V.ref l3, V.ref l4, V.ref l5]) p13 nm
    have m1 := m1.same w14
    have m2 := m2.same w14
    have m3 := m3.same w14
    have m4 := m4.same w14
    have m5 := m5.same w14
    have hn14 := hn13.same w14
    have hd14 := hd13.same w14
    have b514 := b513.trans (but_of e14)
    generalize upd H13 lm (HO.lst [V.ref l1, V.ref l2, V.ref l3, V.ref l4, V.ref l5]) = H14 at p14 m1 m2 m3 m4 m5 hn14 hd14 b514 hm14
    clear hn13 hd13 e14 w14
    try dsimp only
    refine ⟨_, rfl, _, rfl, _, rfl, nl, _, _, _, rfl, rfl, SqL.of (wh_sub _ _ hn14.1), at0, by show 2 ≤ sizeLine; decide, fun t15 n15 => ⟨by show 2 ≤ sizeLine; decide, fun l6 n6 => ?_⟩⟩
    have e15 := same_upd (o := HO.tup [V.str "give", V.str n0]) n15
    have p15 := pool_upd (x := HO.tup [V.str "give", V.str n0]) p14 n15
    have h15 := newT (K := K) p14 n15 (.cons (.str "give") (.cons (.str n0) .nil))
    have e16 := same_upd (o := HO.lst [x, V.ref t15]) n6
    have p16 := pool_upd (x := HO.lst [x, V.ref t15]) p15 n6
    have w16 := wh_same (o := o) (e15.trans e16)
    have m6 := mkMore p15 n6 (.cons (hd14.same (wh_same e15)) (.cons h15 .nil)) (Its.mono (Its.cons itd (Its.cons (It.tup (Its.cons (It.str giveG) (Its.cons (It.str g0) Its.nil))) Its.nil)))
    have m1 := m1.same w16
    have m2 := m2.same w16
    have m3 := m3.same w16
    have m4 := m4.same w16
    have m5 := m5.same w16
    have hm16 := w16 _ _ hm14
    have hn16 := hn14.same w16
    have hd16 := hd14.same w16
    have b516 := b514.trans (but_of (e15.trans e16))
    generalize upd (upd H14 t15 (HO.tup [V.str "give", V.str n0])) l6 (HO.lst [x, V.ref t15]) = H16 at p16 m1 m2 m3 m4 m5 m6 hn16 hd16 b516 hm16
    clear hn14 hd14 e15 e16 w16 p15 h15 hm14
    refine ⟨_, rfl, by show 1 ≤ sizeLine; decide, fun t17 n17 => ⟨Nat.zero_le _, fun t18 n18 => ⟨by show 3 ≤ sizeLine; decide, fun t19 n19 => ⟨by show 1 ≤ sizeLine; decide, fun l7 n7 => ?_⟩⟩⟩⟩
    have e17 := same_upd (o := HO.tup [x]) n17
    have p17 := pool_upd (x := HO.tup [x]) p16 n17
    have h17 := newT p16 n17 (.cons hd16 .nil)
    have e18 := same_upd (o := HO.tup []) n18
    have p18 := pool_upd (x := HO.tup []) p17 n18
    have h18 := newT (K := K) p17 n18 .nil
    have e19 := same_upd (o := HO.tup [V.str "choose", V.ref t17, V.ref t18]) n19
    have p19 := pool_upd (x := HO.tup [V.str "choose", V.ref t17, V.ref t18]) p18 n19
    have h19 := newT p18 n19 (.cons (.str "choose") (.cons (h17.same (wh_same e18)) (.cons h18 .nil)))
    have e20 := same_upd (o := HO.lst [V.ref t19]) n7
    have p20 := pool_upd (x := HO.lst [V.ref t19]) p19 n7
    have m7 := mkMore p19 n7 (.cons h19 .nil) (Its.mono (Its.cons (it_choose itd) Its.nil))
    have e1720 := e17.trans (e18.trans (e19.trans e20))
    have w20 := wh_same (o := o) e1720
    have m1 := m1.same w20
    have m2 := m2.same w20
    have m3 := m3.same w20
    have m4 := m4.same w20
    have m5 := m5.same w20
    have m6 := m6.same w20
    have hm20 := w20 _ _ hm16
    have hn20 := hn16.same w20
    have hd20 := hd16.same w20
    have b520 := b516.trans (but_of e1720)
    generalize upd (upd (upd (upd H16 t17 (HO.tup [x])) t18 (HO.tup [])) t19 (HO.tup [V.str "choose", V.ref t17, V.ref t18])) l7 (HO.lst [V.ref t19]) = H20 at p20 m1 m2 m3 m4 m5 m6 m7 hn20 hd20 b520 hm20
    clear hn16 hd16 e17 e18 e19 e20 e1720 w20 p17 p18 p19 h17 h18 h19 hm16
    refine ⟨_, rfl, nl, _, _, _, rfl, rfl, SqL.of (wh_sub _ _ hn20.1), at0, Nat.zero_le _, fun t21 n21 => ⟨_, rfl, by show 1 ≤ sizeLine; decide, fun t22 n22 => ⟨by show 4 ≤ sizeLine; decide, fun t23 n23 => ⟨by show 1 ≤ sizeLine; decide, fun l8 n8 => ?_⟩⟩⟩⟩
    have e21 := same_upd (o := HO.tup []) n21
    have p21 := pool_upd (x := HO.tup []) p20 n21
    have h21 := newT (K := K) p20 n21 .nil
    have e22 := same_upd (o := HO.tup [x]) n22
    have p22 := pool_upd (x := HO.tup [x]) p21 n22
    have h22 := newT p21 n22 (.cons (hd20.same (wh_same e21)) .nil)
    have e23 := same_upd (o := HO.tup [V.str "test", V.str n0, V.ref t21, V.ref t22]) n23
    have p23 := pool_upd (x := HO.tup [V.str "test", V.str n0, V.ref t21, V.ref t22]) p22 n23
    have h23 := newT p22 n23 (.cons (.str "test") (.cons (.str n0) (.cons (h21.same (wh_same e22)) (.cons h22 .nil))))
    have e24 := same_upd (o := HO.lst [V.ref t23]) n8
    have p24 := pool_upd (x := HO.lst [V.ref t23]) p23 n8
    have m8 := mkMore p23 n8 (.cons h23 .nil) (Its.mono (Its.cons (it_test g0 itd) Its.nil))
    have e2124 := e21.trans (e22.trans (e23.trans e24))
    have w24 := wh_same (o := o) e2124
    have m1 := m1.same w24
    have m2 := m2.same w24
    have m3 := m3.same w24
    have m4 := m4.same w24
    have m5 := m5.same w24
    have m6 := m6.same w24
    have m7 := m7.same w24
    have hm24 := w24 _ _ hm20
    have hn24 := hn20.same w24
    have b524 := b520.trans (but_of e2124)
    generalize upd (upd (upd (upd H20 t21 (HO.tup [])) t22 (HO.tup [x])) t23 (HO.tup [V.str "test", V.str n0, V.ref t21, V.ref t22])) l8 (HO.lst [V.ref t23]) = H24 at p24 m1 m2 m3 m4 m5 m6 m7 m8 hn24 b524 hm24
    clear hn20 hd20 e21 e22 e23 e24 e2124 w24 p21 p22 p23 h21 h22 h23 hm20
    refine ⟨by show 3 ≤ sizeLine; decide, fun lq nq => ?_⟩
    have e25 := same_upd (o := HO.lst [V.ref l6, V.ref l7, V.ref l8]) nq
    have p25 := pool_upd (x := HO.lst [V.ref l6, V.ref l7, V.ref l8]) p24 nq
    refine ⟨lm, lq, _, _, rfl, rfl, e25 _ _ (wh_sub _ _ hm24), upd_same, by show 8 ≤ sizeLine; decide, fun lz nz => name_in ?_⟩
    have e26 := same_upd (o := HO.lst ([V.ref l1, V.ref l2, V.ref l3, V.ref l4, V.ref l5] ++ [V.ref l6, V.ref l7, V.ref l8])) nz
    have p26 := pool_upd (x := HO.lst ([V.ref l1, V.ref l2, V.ref l3, V.ref l4, V.ref l5] ++ [V.ref l6, V.ref l7, V.ref l8])) p25 nz
    have hz26 := newL (vs := ([V.ref l1, V.ref l2, V.ref l3, V.ref l4, V.ref l5] ++ [V.ref l6, V.ref l7, V.ref l8])) p25 nz
    have w26 := wh_same (o := o) (e25.trans e26)
    have all : ∀ v ∈ [V.ref l1, V.ref l2, V.ref l3, V.ref l4, V.ref l5, V.ref l6, V.ref l7, V.ref l8], MoreAt K (wh o H24) v := by
      simp only [List.mem_cons, List.not_mem_nil, or_false, forall_eq_or_imp, forall_eq]
      exact ⟨m1, m2, m3, m4, m5, m6, m7, m8⟩
    have hn26 := hn24.same w26
    have b526 := b524.trans (but_of (e25.trans e26))
    try dsimp only
    generalize upd (upd H24 lq (HO.lst [V.ref l6, V.ref l7, V.ref l8])) lz (HO.lst ([V.ref l1, V.ref l2, V.ref l3, V.ref l4, V.ref l5] ++ [V.ref l6, V.ref l7, V.ref l8])) = H26 at p26 hz26 w26 hn26 b526
    have hz26 : wh o H26 lz = some (.lst [V.ref l1, V.ref l2, V.ref l3, V.ref l4, V.ref l5, V.ref l6, V.ref l7, V.ref l8]) := hz26
    have all : ∀ v ∈ [V.ref l1, V.ref l2, V.ref l3, V.ref l4, V.ref l5, V.ref l6, V.ref l7, V.ref l8], MoreAt K (wh o H26) v := fun v hv => (all v hv).same w26
    clear m1 m2 m3 m4 m5 m6 m7 m8 e25 e26 p25 w26 hm24 hn24
    have wA := wh_but b526
    have hx26 := wA.tupS hx5
    have ha26 := ha5.same wA
    try dsimp only
    refine seqS_in (asg_via (fun v H' => Same H26 H' ∧ ∃ p' xs' ds', v = .ref p' ∧ SqT K (wh o H') p' xs' ∧ DpAll K (wh o H') xs' ds' ∧ Its 32 690 ds') (fun Qx hQ => ?_) (fun v1 H27 ⟨s27, p', xs', ds', ev, hx27, ha27, i27⟩ => ?_))
    · refine ⟨_, rfl, _, _, rfl, rfl, _, rfl, ite2 (fun h1 => ?_) (fun _ => ⟨_, rfl, hQ _ _ ⟨Same.refl _, p, xs, ds, rfl, hx26, ha26, it.mono⟩⟩)⟩
      have h1 := of_decide_eq_true h1
      obtain ⟨z, rfl⟩ : ∃ z : Nat, way = (z : Nat) := ⟨way.toNat, by omega⟩
      have hz : z < 8 := by omega
      have hzz : z < [V.ref l1, V.ref l2, V.ref l3, V.ref l4, V.ref l5, V.ref l6, V.ref l7, V.ref l8].length := hz
      obtain ⟨lw, ms, es, ew, hlw, hms, ies⟩ := all _ (List.getElem_mem hzz)
      have hat : [V.ref l1, V.ref l2, V.ref l3, V.ref l4, V.ref l5, V.ref l6, V.ref l7, V.ref l8][z]? = some (.ref lw) := by rw [List.getElem?_eq_getElem hzz, ew]
      refine ⟨_, rfl, _, rfl, _, rfl, _, rfl, lz, _, _, _, rfl, rfl, SqL.of (wh_sub _ _ hz26), atI_nat hat, ?_⟩
      refine ⟨wh o H26, p, lw, _, xs, ms, ds, es, rfl, wh_sub, wh_sub.tupS hx26, ha26, ft, bs.br, wh_sub _ _ hlw, hms, ies.good, by have := it.cnt; have := ies.cnt; omega, fun H27 t ys27 ds27 s27 ht hy rp => hQ _ _ ?_⟩
      have w27 := tu_wh (p26.same s27) s27
      refine ⟨s27, t, ys27, ds27, rfl, SqT.of (w27 _ _ (by unfold tu; rw [ht])), hy.same w27, rp.good, ?_, ?_⟩
      · have := rp.dep; have := it.dep; have := ies.dep; omega
      · have := rp.cnt; have := it.cnt; have := ies.cnt; omega
    subst ev
    refine name_in ?_
    have p27 := p26.same s27
    have hn27 := hn26.same (wh_same s27)
    have b027 := b05.trans (b526.trans (but_of s27))
    clear hx26 ha26 hz26 all
    try dsimp only
    refine seqS_in (ifS_via (fun b H' => SameBut o H27 H' ∧ PoolAt H' o qq) (fun QQ hQ => ?_) ?_)
    · refine ⟨_, rfl, _, _, rfl, rfl, _, rfl, ite2 (fun h1 => ?_) (fun h1 => hQ _ _ ⟨but_of (Same.refl _), p27⟩)⟩
      refine ⟨_, rfl, o, qq, _, rfl, p27, by decide, by decide, fun H28 n b28 p28 n0' n1' => ⟨rfl, _, rfl, hQ _ _ ⟨b28, p28⟩⟩⟩
    rintro b H28 ⟨b28, p28⟩
    have w28 := wh_but b28
    have hx28 := w28.tupS hx27
    have ha28 := ha27.same w28
    have hn28 := hn27.same w28
    have b028 := b027.trans b28
    cases b with
    | false => exact iteF ⟨_, rfl, q _ p' xs' ds' b028 p28 hx28 ha28 (i27.mono (by decide) (by decide))⟩
    | true =>
      refine iteT ⟨_, rfl, _, rfl, _, rfl, o, qq, nl, _, rfl, p28, hn28, fun H29 v29 d29 b29 p29 h29 i29 => ⟨by show 1 ≤ sizeLine; decide, fun t30 n30 => ?_⟩⟩
      have e30 := same_upd (o := HO.tup [v29]) n30
      have p30 := pool_upd (x := HO.tup [v29]) p29 n30
      have b2830 := b29.trans (but_of e30)
      have w30 := wh_but b2830
      have hx30 := w30.tupS hx28
      have ha30 := ha28.same w30
      have hj : DpAll K (wh o (upd H29 t30 (HO.tup [v29]))) [v29] [d29] := .cons (h29.same (wh_same e30)) .nil
      have i30 : Its 35 780 (ds' ++ [d29]) := Its.app i27 (Its.cons i29 Its.nil) (by decide) (by decide) (by decide)
      have lx := dpl ha30
      have ld := len_cnt ds'
      have lc := i27.cnt
      refine ⟨p', t30, xs', [v29], rfl, rfl, wh_sub.tupS hx30, SqT.of upd_same, by rw [sizeLine_eq]; show _ + 1 ≤ _; omega, fun e => ?_, (fun _ e => nomatch e), fun _ _ t31 n31 => ?_⟩
      · subst e
        have ed : ds' = [] := List.eq_nil_of_length_eq_zero lx.symm
        subst ed
        exact name_in ⟨_, rfl, q _ t30 [v29] [d29] (b028.trans b2830) p30 (SqT.of (wh_new p29 n30)) hj i30⟩
      · refine name_in ⟨_, rfl, q _ t31 _ _ (b028.trans (b2830.trans (but_of (same_upd n31)))) (pool_upd p30 n31) (SqT.of (wh_new p30 n31)) ((dp_app ha30 hj).same (wh_upd n31)) i30⟩
end
end Tr

/-! P24 -/
/-! ### the law -/
namespace Tr
open PySem PySem.Spec PyProof.Rows L2 Rw
def spLaw (K : PySem.W.Frag) : Sp := fun vs H Q _ => ∃ (a : Addr) (ns : List Int), vs = [.ref a] ∧ SqL K H a (ns.map V.int) ∧ ns.length ≤ 63 ∧ ∀ H', Q (.bl true) H'
theorem due_lay (f : Option V) : PyData.canLay0 (dueD f) = true := by
  cases f with
  | none => show PyData.canLay0 (.str "body") = true; rw [PyData.canLay0]; decide +kernel
  | some r =>
    show PyData.canLay0 (.list [.str "none", .str (shownR r)]) = true
    rw [PyData.canLay0]
    show PyData.canLayAll0 [.str "none", .str (shownR r)] = true
    simp only [PyData.canLayAll0, PyData.canLay0, Bool.and_true, Bool.and_eq_true]
    exact ⟨by decide +kernel, shownR_ok r⟩
theorem due_shaped (f : Option V) : SeqAt.shaped (dueD f) = true := by
  refine shaped_of (due_lay f) ?_
  cases f with
  | none => show PyData.depth (.str "body") ≤ 64; simp [PyData.depth]
  | some r => show PyData.depth (.list [.str "none", .str (shownR r)]) ≤ 64; simp [PyData.depth, PyData.depthAll]
theorem due_body (f : Option V) : PyData.eqv (dueD f) (.str "body") = f.isNone := by
  cases f with
  | none => show PyData.eqv (.str "body") (.str "body") = true; simp [PyData.eqv]
  | some r => show PyData.eqv (.list [.str "none", .str (shownR r)]) (.str "body") = false; simp [PyData.eqv]
theorem body_shaped : SeqAt.shaped (.str "body") = true := by decide +kernel
def nA : List Str := ["f", "use", "abcdefgh"]
def nB : List Str := ["b", "a", "ab", "take"]
def nC : List Str := ["x", "xx", "xxx", "y"]
theorem nA_ok : ∀ n ∈ nA, goodD (.str n) = true := by decide +kernel
theorem nB_ok : ∀ n ∈ nB, goodD (.str n) = true := by decide +kernel
theorem nC_ok : ∀ n ∈ nC, goodD (.str n) = true := by decide +kernel
theorem It.lst {b c : Nat} {ds : List D} (h : Its b c ds) : It (b + 1) (c + 1) (.list ds) := by
  obtain ⟨a1, a2, a3⟩ := h
  exact ⟨by rw [goodD]; exact a1, by rw [PyData.depth]; omega, by rw [cntD]; omega⟩
theorem boolG : It 0 1 (.bool true) := ⟨by simp [goodD], by simp [PyData.depth], by simp [cntD]⟩
theorem use_fault : (faultO (some (.tuple [.str "use"]))).isNone = false := by
  have e : misl [.str "use"] 0 = [true] := by simp [misl, shaped]
  show (faultL [.str "use"]).isNone = false
  unfold faultL
  rw [e]
  rfl
theorem fins_shaped {n : Nat} {ds : List D} (h : ∀ d ∈ ds, FitD n d) (hn : n ≤ 40) : SeqAt.shaped (.list ds) = true := by
  refine shaped_of ?_ ?_
  · rw [PyData.canLay0]
    exact lays_of _ (good_of fun d hd => (h d hd).good)
  · have := dep_of (n := n) (ds := ds) fun d hd => Nat.le_of_lt (h d hd).dep
    rw [PyData.depth]
    omega
def bads (d : D) : List D := ((lnum [d] 0).filter fun p => !lform p.1 p.2).map (·.1)
theorem fine_eq (d : D) : (!(misl [d] 0).contains true) = (bads d).isEmpty := by
  unfold bads
  rw [misl_lnum, List.isEmpty_map]
  induction lnum [d] 0 with
  | nil => rfl
  | cons p r ih =>
    rw [List.map_cons, List.filter_cons]
    cases lform p.1 p.2 with
    | true => simpa using ih
    | false => simp
section
variable {P : Program} {w : World} {K : PySem.W.Frag} {mg : Str → Option Value} {base : Heap}
abbrev sLaw : Stmt := top 60
theorem scLaw : FnScope ["_law_script", "_law_k", "_law_cell", "_law_pool_here", "_law_names", "_law_turn", "_law_items", "_law_due_here", "_law_one", "_law_fine", "_law_odd", "_law_item", "_law_deep"] ["_law_script"] (defScope sLaw) := ⟨rfl, rfl, rfl, by decide +kernel, rfl, by decide +kernel, by decide +kernel⟩
theorem ok_law {f fPo fD fMn fPl fBt fDu fHd fTr fIB fIt fNb fFm : Addr} {fd fdPo fdD fdMn fdPl fdBt fdDu fdHd fdTr fdIB fdIt fdNb fdFm : FuncData} (F : Fun K "law" "law" sLaw f fd)
    (GPo : FnOk P w K mg base CX0 2 fPo fdPo ["_law_cell", "_law_salt", "_law_many_here"] (spPool4 K)) (TPo : Called K mg "_law_pool" ["_law_cell", "_law_salt", "_law_many_here"] fPo fdPo)
    (GD : FnOk P w K mg base CX0 1 fD fdD ["_law_pool_here", "_law_many_here"] (spDraw K)) (TD : Called K mg "_law_draw" ["_law_pool_here", "_law_many_here"] fD fdD)
    (GMn : FnOk P w K mg base CX0 38 fMn fdMn ["_law_pool_here", "_law_names", "_law_deep", "_law_room", "_law_held"] (spMn K 9)) (TMn : Called K mg "_law_many" ["_law_pool_here", "_law_names", "_law_deep", "_law_room", "_law_held"] fMn fdMn)
    (GPl : FnOk P w K mg base CX0 3 fPl fdPl ["_law_pool_here", "_law_names"] (spPl K)) (TPl : Called K mg "_law_plain" ["_law_pool_here", "_law_names"] fPl fdPl)
    (GBt : FnOk P w K mg base CX0 20 fBt fdBt ["_law_pool_here", "_law_names", "_law_items"] (spBt K)) (TBt : Called K mg "_law_bent" ["_law_pool_here", "_law_names", "_law_items"] fBt fdBt)
    (GDu : FnOkG P w K mg base CX0 81 fDu fdDu ["_law_items"] (spDue K 39)) (TDu : Called K mg "_law_due" ["_law_items"] fDu fdDu)
    (GHd : FnOkG P w K mg base CX0 84 fHd fdHd ["_law_items"] (spHd K 39)) (THd : Called K mg "_law_heard" ["_law_items"] fHd fdHd)
    (GTr : FnOk P w K mg base CX0 1 fTr fdTr ["_law_found", "_law_due_here"] (spTruth K)) (TTr : Called K mg "_law_truth" ["_law_found", "_law_due_here"] fTr fdTr)
    (GIB : FnOk P w K mg base CX0 82 fIB fdIB ["value"] (spIBO K 39)) (TIB : Called K mg "is_body" ["value"] fIB fdIB)
    (GIt : FnOk P w K mg base CX0 81 fIt fdIt ["value"] (spII K 38)) (TIt : Called K mg "is_item" ["value"] fIt fdIt)
    (GNb : FnOk P w K mg base CX0 80 fNb fdNb ["_law_items", "_law_deep"] (spNb K 38)) (TNb : Called K mg "_law_numbered" ["_law_items", "_law_deep"] fNb fdNb)
    (GFm : FnOk P w K mg base CX0 79 fFm fdFm ["_law_thing", "_law_deep"] (spFm K 38)) (TFm : Called K mg "_law_is_form" ["_law_thing", "_law_deep"] fFm fdFm)
    (m_enumerate : mg "enumerate" = none) (m_int : mg "int" = none) (m_range : mg "range" = none) : FnOkG P w K mg base CX0 85 f fd ["_law_script"] (spLaw K) := by
  refine F.okG scLaw (fun vs H Q E h => ?_) (fun cdv A outer s H vs Q E hgd hr h => ?_)
  · obtain ⟨a, ns, rfl, _⟩ := h
    rfl
  · obtain ⟨a, ns, rfl, hS, hlen, q⟩ := h
    refine ⟨_, (pss_cons (ps_for PassesOwn.never rfl (pi_enum (by rfl) m_enumerate (pa_cons (pe_op op_cat (pe_slice sl_list (pv 0) po_none (po_some pe_int)) (pe_op op_rep (pe_lst (pa_cons pe_int pa_nil)) (pe_callTy call_int1 (by rfl) m_int (by decide +kernel) (pa_cons (pe_cmpR (Nm.op_eqDK (K := K) rfl hr.units) (pv 0) (pe_lst pa_nil) (nomark _)) pa_nil)))) pa_nil)) (pg_tup rfl (pgs_cons (pg_name (i := 1) scLaw.nd rfl (.inl rfl)) (pgs_cons (pg_name (i := 2) scLaw.nd rfl (.inl rfl)) pgs_nil)))
       (pss_cons (ps_set (i := 3) scLaw.nd rfl (.inl rfl) (pe_call GPo (hr.mono (by first | decide | omega)) rfl TPo.1 TPo.2.1 TPo.2.2 .nil pass0 (pa_cons (pv 2) (pa_cons (pe_op op_add pe_int (pv 1)) (pa_cons pe_int pa_nil)))))
       (pss_cons (ps_set (i := 4) scLaw.nd rfl (.inl rfl) (pe_ix (ix_listK (K := K) rfl) (pe_lst (pa_cons (pe_lst (pa_cons pe_str (pa_cons pe_str (pa_cons pe_str pa_nil)))) (pa_cons (pe_lst (pa_cons pe_str (pa_cons pe_str (pa_cons pe_str (pa_cons pe_str pa_nil))))) (pa_cons (pe_lst (pa_cons pe_str (pa_cons pe_str (pa_cons pe_str (pa_cons pe_str pa_nil))))) pa_nil)))) (pe_call GD (hr.mono (by first | decide | omega)) rfl TD.1 TD.2.1 TD.2.2 .nil pass0 (pa_cons (pv 3) (pa_cons pe_int pa_nil))) (fun _ _ => rfl)))
       (pss_cons (ps_for PassesOwn.never rfl (pi_range1 rfl m_range (pa_cons pe_int pa_nil)) (pg_name (i := 5) scLaw.nd rfl (.inl rfl))
       (pss_cons (ps_set (i := 6) scLaw.nd rfl (.inl rfl) (pe_call GMn (hr.mono (by first | decide | omega)) rfl TMn.1 TMn.2.1 TMn.2.2 .nil pass0 (pa_cons (pv 3) (pa_cons (pv 4) (pa_cons pe_int (pa_cons (pe_op op_add pe_int (pe_call GD (hr.mono (by first | decide | omega)) rfl TD.1 TD.2.1 TD.2.2 .nil pass0 (pa_cons (pv 3) (pa_cons pe_int pa_nil)))) (pa_cons (pe_lst pa_nil) pa_nil)))))))
       (pss_cons (ps_set (i := 6) scLaw.nd rfl (.inl rfl) (pe_call GBt (hr.mono (by first | decide | omega)) rfl TBt.1 TBt.2.1 TBt.2.2 .nil pass0 (pa_cons (pv 3) (pa_cons (pv 4) (pa_cons (pe_ifExp (pt_cmpR (Nm.op_neDK (K := K) rfl hr.units) (pv 6) (pe_tup pa_nil) (nomark _))
       (pv 6)
       (pe_tup (pa_cons (pe_call GPl (hr.mono (by first | decide | omega)) rfl TPl.1 TPl.2.1 TPl.2.2 .nil pass0 (pa_cons (pv 3) (pa_cons (pv 4) pa_nil))) pa_nil))) pa_nil)))))
       (pss_cons (ps_set (i := 7) scLaw.nd rfl (.inl rfl) (pe_callG GDu hgd (hr.mono (by first | decide | omega)) rfl TDu.1 TDu.2.1 TDu.2.2 pass0 (pa_cons (pv 6) pa_nil)))
       (pss_cons (ps_if (PW.pt (pw_or (pt_cmpR (Nm.op_neDK (K := K) rfl hr.units) (pe_callG GHd hgd (hr.mono (by first | decide | omega)) rfl THd.1 THd.2.1 THd.2.2 pass0 (pa_cons (pv 6) pa_nil)) (pv 7) (nomark _)) (pw_or1 (pt_not (pt_val (pe_call GTr (hr.mono (by first | decide | omega)) rfl TTr.1 TTr.2.1 TTr.2.2 .nil pass0 (pa_cons (pe_call GIB (hr.mono (by first | decide | omega)) rfl TIB.1 TIB.2.1 TIB.2.2 .nil pass0 (pa_cons (pv 6) pa_nil)) (pa_cons (pe_cmpR (Nm.op_eqDK (K := K) rfl hr.units) (pv 7) pe_str (nomark _)) pa_nil))))))))
       (pss_one (ps_ret pe_bl))
       pss_nil)
       (pss_one (ps_for PassesOwn.never rfl (pi_tup (pv 6)) (pg_name (i := 8) scLaw.nd rfl (.inl rfl))
       (pss_cons (ps_set (i := 9) scLaw.nd rfl (.inl rfl) (pe_cmpR (Nm.op_eqDK (K := K) rfl hr.units) (pe_lc (own := [("_law_item", 11), ("_law_deep", 12)]) (g := gTup K 2 (gCons (gName 11) (gCons (gName 12) gNil)))  (by rfl) scLaw.nd (pi_list (pe_call GNb (hr.mono (by first | decide | omega)) rfl TNb.1 TNb.2.1 TNb.2.2 .nil pass0 (pa_cons (pe_tup (pa_cons (pv 8) pa_nil)) (pa_cons pe_int pa_nil)))) (blkOk_by (own := [("_law_item", 11), ("_law_deep", 12)]) (N := ["_law_script", "_law_k", "_law_cell", "_law_pool_here", "_law_names", "_law_turn", "_law_items", "_law_due_here", "_law_one", "_law_fine", "_law_odd", "_law_item", "_law_deep"]) (sc := defScope sLaw) (by decide +kernel)) (fun _ _ _ _ _ => (pg_tup rfl (pgs_cons (pg_name (i := 11) scLaw.nd rfl (Or.inl rfl)) (pgs_cons (pg_name (i := 12) scLaw.nd rfl (Or.inl rfl)) pgs_nil)))) (fun _ _ _ _ _ => (pts_one (pt_not (pt_val (pe_call GFm (hr.mono (by first | decide | omega)) rfl TFm.1 TFm.2.1 TFm.2.2 .nil pass0 (pa_cons (pv 11) (pa_cons (pv 12) pa_nil))))))) (fun _ _ _ _ _ => (pv 11))) (pe_lst pa_nil) (nomark _)))
       (pss_one (ps_if (pt_not (pt_val (pe_call GTr (hr.mono (by first | decide | omega)) rfl TTr.1 TTr.2.1 TTr.2.2 .nil pass0 (pa_cons (pe_call GIt (hr.mono (by first | decide | omega)) rfl TIt.1 TIt.2.1 TIt.2.2 .nil pass0 (pa_cons (pv 8) pa_nil)) (pa_cons (pv 9) pa_nil)))))
       (pss_one (ps_ret pe_bl))
       pss_nil))))))))))
       (pss_one (ps_for PassesOwn.never rfl (pi_list (pe_lst (pa_cons pe_non (pa_cons (pe_tup pa_nil) (pa_cons (pe_lst (pa_cons (pe_tup (pa_cons pe_str pa_nil)) pa_nil)) (pa_cons pe_str (pa_cons (pe_tup (pa_cons pe_str pa_nil)) (pa_cons pe_int (pa_cons pe_bl (pa_cons pe_dnewK pa_nil)))))))))) (pg_name (i := 10) scLaw.nd rfl (.inl rfl))
       (pss_one (ps_if (PW.pt (pw_or (pt_cmpR (Nm.op_neDK (K := K) rfl hr.units) (pe_callG GHd hgd (hr.mono (by first | decide | omega)) rfl THd.1 THd.2.1 THd.2.2 pass0 (pa_cons (pv 10) pa_nil)) (pe_callG GDu hgd (hr.mono (by first | decide | omega)) rfl TDu.1 TDu.2.1 TDu.2.2 pass0 (pa_cons (pv 10) pa_nil)) (nomark _)) (pw_or1 (pt_cmpR op_notBl (pe_call GIB (hr.mono (by first | decide | omega)) rfl TIB.1 TIB.2.1 TIB.2.2 .nil pass0 (pa_cons (pv 10) pa_nil)) pe_bl (nomark _)))))
       (pss_one (ps_ret pe_bl))
       pss_nil))))))))
       (pss_one (ps_ret pe_bl))), ?_⟩
    refine ⟨.ref a, rfl, 4, rfl, a, ns.map V.int, rfl, hS, fun c nc => ?_⟩
    have t0 := same_upd (o := HO.lst (cutV (ns.map V.int) none (some 4))) nc
    refine ⟨(by show 1 ≤ sizeLine; decide), fun l nl => ?_⟩
    have t1 := same_upd (o := HO.lst [V.int 7]) nl
    refine ⟨.ref a, rfl, (by show 0 ≤ sizeLine; decide), fun e ne => ?_⟩
    have t2 := same_upd (o := HO.lst []) ne
    refine ⟨.list (ns.map .int), .list [], .lst (((t0.trans t1).trans t2).seq hS) (dp_ints ns), .lst (SqL.of upd_same) .nil, shaped_ints ns, (by decide), ?_⟩
    generalize PyData.eqv (.list (ns.map .int)) (.list []) = b
    refine .inr ⟨b, rfl, ?_⟩
    have hb : ∃ k : Nat, k ≤ 1 ∧ (if b = true then (1 : Int) else 0) = k := by
      cases b
      · exact ⟨0, by decide, rfl⟩
      · exact ⟨1, by decide, rfl⟩
    obtain ⟨kb, hk1, hkb⟩ := hb
    rw [hkb]
    obtain ⟨ms, hms, hml⟩ := ints_of_cut ns 4 kb
    refine ⟨l, kb, _, rfl, rfl, t2 _ _ upd_same, by omega, by omega, ?_, fun r nr => ?_⟩
    · show 1 * ((kb : Int)).toNat ≤ sizeLine
      rw [sizeLine_eq]
      omega
    have t3 := same_upd (o := HO.lst (List.replicate ((kb : Int)).toNat [V.int 7]).flatten) nr
    refine ⟨c, r, _, _, rfl, rfl, ((t1.trans t2).trans t3) _ _ upd_same, upd_same, ?_, fun L nL => ?_⟩
    · have z : (cutV (ns.map V.int) none (some 4)).length ≤ (ns.map V.int).length := cutV_length _ _ _
      have z2 : (List.replicate ((kb : Int)).toNat [V.int 7]).flatten.length ≤ 1 := by
        match kb, hk1 with
        | 0, _ => decide
        | 1, _ => decide
      rw [List.length_map] at z
      rw [sizeLine_eq]
      omega
    have t4 := same_upd (o := HO.lst (cutV (ns.map V.int) none (some 4) ++ (List.replicate ((kb : Int)).toNat [V.int 7]).flatten)) nL
    have hms' : cutV (ns.map V.int) none (some 4) ++ (List.replicate ((kb : Int)).toNat [V.int 7]).flatten = ms.map V.int := hms
    rw [hms']
    rw [hms'] at t4
    have hml2 : ms.length ≤ 64 := by omega
    refine ⟨L, ms.map V.int, rfl, SqL.of upd_same, for_enum (K := K) (a := L) (xs := ms.map V.int)
      (fun i σ H' => ∃ v1 v2 v3 v4 v5 v6 v7 v8 v9 v10 : Option V, σ = [some (.ref a), v1, v2, v3, v4, v5, v6, v7, v8, v9, v10, none, none] ∧ H' L = some (.lst (ms.map V.int)))
      ⟨none, none, none, none, none, none, none, none, none, none, rfl, upd_same⟩ (fun i σ H' _ ⟨_, _, _, _, _, _, _, _, _, _, _, hL⟩ => SqL.of hL) ?_ ?_⟩
    · rintro i x σ H1 T1 hxi ⟨v1, v2, v3, v4, v5, v6, v7, v8, v9, v10, rfl, hL⟩ nT
      have hi : i < ms.length := by
        have z := (List.getElem?_eq_some_iff.mp hxi).1
        rw [List.length_map] at z
        exact z
      obtain ⟨cell, rfl⟩ : ∃ cell : Int, x = .int cell := by
        rw [List.getElem?_map] at hxi
        obtain ⟨y, _, hy⟩ := Option.map_eq_some_iff.mp hxi
        exact ⟨y, hy.symm⟩
      have u0 := same_upd (o := .tup [.int (i : Nat), .int cell]) nT
      refine ⟨T1, _, rfl, SqT.of upd_same, rfl, _, _, rfl, _, _, rfl, rfl, ?_⟩
      refine ⟨_, rfl, _, rfl, _, _, rfl, rfl, cell, 300 + (i : Nat), 420, rfl, by omega, by omega, by decide, by decide, fun H2 o qq s2 no p2 => name_in ?_⟩
      have s02 := u0.trans s2
      have hL2 := s02 _ _ hL
      have nLo : L ≠ o := ne_of_none (u0 _ _ hL) no
      -- names
      refine ⟨by show 3 ≤ sizeLine; decide, fun l1 n1 => ⟨by show 4 ≤ sizeLine; decide, fun l2 n2 => ⟨by show 4 ≤ sizeLine; decide, fun l3 n3 => ⟨by show 3 ≤ sizeLine; decide, fun l4 n4 => ?_⟩⟩⟩⟩
      have e1 := same_upd (o := HO.lst (nA.map V.str)) n1
      have p3 := pool_upd (x := HO.lst (nA.map V.str)) p2 n1
      have g1 := newL (vs := nA.map V.str) p2 n1
      have e2 := same_upd (o := HO.lst (nB.map V.str)) n2
      have p4 := pool_upd (x := HO.lst (nB.map V.str)) p3 n2
      have g2 := newL (vs := nB.map V.str) p3 n2
      have e3 := same_upd (o := HO.lst (nC.map V.str)) n3
      have p5 := pool_upd (x := HO.lst (nC.map V.str)) p4 n3
      have g3 := newL (vs := nC.map V.str) p4 n3
      have e4 := same_upd (o := HO.lst [V.ref l1, V.ref l2, V.ref l3]) n4
      have p6 := pool_upd (x := HO.lst [V.ref l1, V.ref l2, V.ref l3]) p5 n4
      have g4 := newL (vs := [V.ref l1, V.ref l2, V.ref l3]) p5 n4
      have e34 := e3.trans e4
      have e24 := e2.trans e34
      have hL6 := (e1.trans e24) _ _ hL2
      have nm1 : NamesAt (wh o _) l1 nA := ⟨wh_same e24 _ _ g1, by decide, by decide, nA_ok⟩
      have nm2 : NamesAt (wh o _) l2 nB := ⟨wh_same e34 _ _ g2, by decide, by decide, nB_ok⟩
      have nm3 : NamesAt (wh o _) l3 nC := ⟨wh_same e4 _ _ g3, by decide, by decide, nC_ok⟩
      refine ⟨_, rfl, o, qq, _, rfl, p6, by decide, by decide, fun H7 m b7 p7 m0 m1 => ?_⟩
      have w7 := wh_but b7
      have hL7 := b7 _ _ nLo hL6
      obtain ⟨nl, ns', hnl, nm⟩ : ∃ nl ns', atI [V.ref l1, V.ref l2, V.ref l3] m = some (.ref nl) ∧ NamesAt (wh o H7) nl ns' := by
        have hw : m = 0 ∨ m = 1 ∨ m = 2 := by omega
        rcases hw with rfl | rfl | rfl
        · exact ⟨l1, nA, rfl, nm1.same w7⟩
        · exact ⟨l2, nB, rfl, nm2.same w7⟩
        · exact ⟨l3, nC, rfl, nm3.same w7⟩
      refine ⟨l4, _, _, _, rfl, rfl, SqL.of (wh_sub _ _ (w7 _ _ g4)), hnl, name_in ?_⟩
      clear nm1 nm2 nm3 g1 g2 g3 g4 e1 e2 e3 e4 e34 e24 p2 p3 p4 p5 p6
      -- six turns
      refine ⟨6, rfl, by decide, by decide, for_range (lo := 0) (n := 6)
        (fun j σ H' => ∃ v5 v6 v7 v8 v9 v10 : Option V, σ = [some (.ref a), some (.int (i : Nat)), some (.int cell), some (.ref o), some (.ref nl), v5, v6, v7, v8, v9, v10, none, none] ∧ H' L = some (.lst (ms.map V.int)) ∧ PoolAt H' o qq ∧ NamesAt (wh o H') nl ns')
        ⟨v5, v6, v7, v8, v9, v10, rfl, hL7, p7, nm⟩ ?_ ?_⟩
      · rintro j σ H8 hj ⟨v5, v6, v7, v8, v9, v10, rfl, hL8, p8, nm8⟩
        refine name_in ?_
        try dsimp only
        -- drawn
        refine ⟨_, rfl, _, rfl, _, rfl, o, qq, _, rfl, p8, by decide, by decide, fun H9 m b9 p9 m0 m1 => ⟨_, _, rfl, rfl, Nat.zero_le _, fun e ne => ?_⟩⟩
        have nm9 := nm8.same (wh_but b9)
        have s10 := same_upd (o := HO.lst []) ne
        have p10 := pool_upd (x := HO.lst []) p9 ne
        have h10 : HeldAt (wh o (upd H9 e (HO.lst []))) e [] := newL p9 ne
        refine ⟨o, qq, nl, e, ns', [], _, _, 0, (1 + m).toNat, rfl, rfl, by omega, p10, nm9.same (wh_same s10), h10, by show 0 + _ ≤ 100; omega, by decide, by omega, fun H11 t xs ds b11 p11 ht hd dr => name_in ?_⟩
        have b811 := b9.trans ((but_of s10).trans b11)
        have nm11 := nm8.same (wh_but b811)
        have hL11 := b811 _ _ nLo hL8
        have rl := dr.brs.len
        have len := dpl hd
        have fg := flat_ge ds
        -- bent
        refine ⟨_, rfl, _, rfl, ?_⟩
        show tIf _ _ _ _ _ _
        refine ifE_via (fun v H' => ∃ p xs ds, v = .ref p ∧ SameBut o H11 H' ∧ PoolAt H' o qq ∧ SqT K (wh o H') p xs ∧ DpAll K (wh o H') xs ds ∧ Its 15 225 ds ∧ Brs 9 ds ∧ ds ≠ []) ?_ fun hQ => ?_
        rotate_left
        · refine ⟨_, rfl, Nat.zero_le _, fun z nz => ?_⟩
          have s12 := same_upd (o := HO.tup []) nz
          have p12 := pool_upd (x := HO.tup []) p11 nz
          have ft : Fits 16 ds := dr.its.fits (by omega) (by decide)
          refine ⟨_, _, .tup ((wh_sub.trans s12).tupS ht) (hd.same (wh_sub.trans s12)), .tup (SqT.of upd_same) .nil, fits_sh ft (by decide), nilT_shaped, _, rfl, ?_⟩
          rw [eqv_nilT]
          cases hds : ds.isEmpty with
          | false =>
            refine iteT ⟨_, rfl, hQ _ _ ⟨t, xs, ds, rfl, but_of s12, p12, (wh_same s12).tupS ht, hd.same (wh_same s12), dr.its.mono (by decide) (by omega), dr.brs.mono (by omega), fun z => by rw [z] at hds; cases hds⟩⟩
          | true =>
            refine iteF ⟨_, rfl, _, rfl, o, qq, nl, ns', rfl, p12, nm11.same (wh_same s12), fun H13 v13 d13 b13 p13 h13 i13 br13 => ⟨by show 1 ≤ sizeLine; decide, fun t14 n14 => hQ _ _ ?_⟩⟩
            exact ⟨t14, [v13], [d13], rfl, (but_of s12).trans (b13.trans (but_of (same_upd n14))), pool_upd p13 n14, SqT.of (wh_new p13 n14), (DpAll.cons h13 .nil).same (wh_upd n14), Its.mono (Its.cons i13 Its.nil) (by decide) (by decide), br13.mono (by decide), fun z => nomatch z⟩
        rintro v H12 ⟨p, xs, ds, rfl, b12, p12, hp12, hd12, it12, br12, ne12⟩
        have nm12 := nm11.same (wh_but b12)
        have hL12 := b12 _ _ nLo hL11
        clear ht hd dr rl len fg
        refine ⟨o, qq, nl, p, ns', xs, ds, rfl, p12, nm12, hp12, hd12, it12, br12, ne12, fun H13 t xs ds b13 p13 ht hd it => name_in ?_⟩
        have nm13 := nm12.same (wh_but b13)
        have hL13 := b13 _ _ nLo hL12
        have hdt : Dp K H13 (.ref t) (.tuple ds) := .tup (wh_sub.tupS ht) (hd.same wh_sub)
        have itt := It.tup it
        have ft : FitD 39 (.tuple ds) := itt.fits (by decide) (by decide)
        have ht' : SqT K H13 t xs := wh_sub.tupS ht
        have hd' : DpAll K H13 xs ds := hd.same wh_sub
        clear hd12 hp12 it12 br12 ne12 ht hd
        -- due
        refine ⟨_, rfl, .ref t, some (.tuple ds), rfl, ⟨hdt, ft⟩, fun d hd => by cases hd; exact Nat.le_trans itt.cnt (by decide), fun H14 r s14 hr14 => name_in ?_⟩
        have hdt14 := hdt.same s14
        try dsimp only
        refine seqS_in (ifS_via (fun b H' => b = false ∧ Same H14 H') (fun QQ hQ => ?_) ?_)
        · refine ⟨_, rfl, .ref t, some (.tuple ds), rfl, ⟨hdt14, ft⟩, fun H15 r15 s15 hr15 => ⟨_, rfl, _, _, hr15, hr14.same s15, due_shaped _, due_shaped _, _, rfl, ?_⟩⟩
          rw [SeqAt.eqv_refl _ (due_lay _)]
          refine iteF ⟨_, rfl, .ref t, some (.tuple ds), rfl, ⟨hdt14.same s15, ft⟩, fun H16 s16 => ?_⟩
          have s1416 := s15.trans s16
          refine ⟨_, rfl, _, _, hr14.same s1416, .str _, due_shaped _, body_shaped, ?_⟩
          rw [due_body]
          refine ⟨_, _, rfl, fun H17 s17 => ⟨_, rfl, ?_⟩⟩
          rw [decide_eq_true rfl]
          exact hQ _ _ ⟨rfl, s1416.trans s17⟩
        rintro b H15 ⟨rfl, s15⟩
        refine iteF ?_
        dsimp only [tNext]
        have s1315 := s14.trans s15
        have hdt15 := hdt.same s1315
        have len := dpl hd'
        -- each of them
        refine ⟨_, rfl, t, rfl, ⟨_, s1315.tupS ht'⟩, for_tup (K := K) (a := t) (xs := xs)
          (fun k σ H' => ∃ v8 v9 : Option V, σ = [some (.ref a), some (.int (i : Nat)), some (.int cell), some (.ref o), some (.ref nl), some (.int (0 + (j : Nat))), some (.ref t), some r, v8, v9, v10, none, none] ∧ Same H15 H')
          ⟨v8, v9, rfl, Same.refl _⟩ ?_ ?_ ?_⟩
        · rintro k σ H' hk ⟨v8, v9, rfl, s⟩
          exact (s1315.trans s).tupS ht'
        · rintro k x σ H16 hxk ⟨v8, v9, rfl, s16⟩
          obtain ⟨d, hdk, hx⟩ := dp_get hd' hxk
          have itd := it.at (List.mem_of_getElem? hdk)
          have fd38 : FitD 38 d := itd.fits (by decide) (by decide)
          have s1316 := s1315.trans s16
          refine name_in ?_
          try dsimp only
          refine ⟨_, rfl, by show 1 ≤ sizeLine; decide, fun y ny => ?_⟩
          have s17 := same_upd (o := HO.tup [x]) ny
          have s1317 := s1316.trans s17
          refine ⟨H13, y, [x], [d], 0, rfl, s1317, SqT.of upd_same, .cons hx .nil, fit_one fd38, fun H18 l ys s18 nl18 hl18 hy18 => ?_⟩
          have s1318 := s1317.trans s18
          have ly := hy18.length
          have lz := lnum_len [d] 0
          have cz : cntAll [d] ≤ 780 := by simp only [cntAll]; have := itd.cnt; omega
          have lfit : ∀ p ∈ lnum [d] 0, FitD 38 p.1 := fun p hp => lnum_fit (fit_one fd38) hp
          refine ⟨l, rfl, ⟨_, SqL.of hl18⟩, fun D nD => lc_list (K := K) (a := l) (xs := ys) (fun q H' => Same H18 H' ∧ ∃ us : List V, H' D = some (.lst us) ∧ us.length ≤ q ∧ DpAll K H13 us ((((lnum [d] 0).take q).filter fun p => !lform p.1 p.2).map (·.1)))
            ⟨same_upd nD, [], upd_same, Nat.zero_le _, .nil⟩ (fun q H' _ h => h.1.seq (SqL.of hl18)) ?_ ?_⟩
          · rintro q z H19 hzq ⟨s19, us, hD, ul, hus⟩
            obtain ⟨⟨d1, a1⟩, hr1, pt, x1, rfl, hpt, hx1⟩ := hy18.get hzq
            have hq : q < ys.length := (List.getElem?_eq_some_iff.mp hzq).1
            have mem1 := List.mem_of_getElem? hr1
            refine ⟨pt, _, rfl, s19.tupS hpt, rfl, _, _, rfl, _, _, rfl, rfl, rfl, ?_⟩
            refine ⟨_, rfl, _, rfl, x1, d1, a1, rfl, hx1.same (s1318.trans s19), lfit _ mem1, fun H20 s20 => ⟨_, rfl, ?_⟩⟩
            have hD20 := s20 _ _ hD
            have sm := s19.trans s20
            have tk := take_snoc hr1
            cases hf : lform d1 a1 with
            | true =>
              refine iteF ⟨sm, us, hD20, by omega, ?_⟩
              rw [tk, List.filter_append, List.filter_cons, hf]
              simpa using hus
            | false =>
              refine iteT ⟨_, rfl, us, hD20, by rw [sizeLine_eq]; omega, same_updN nD sm, us ++ [x1], upd_same, by rw [List.length_append]; show us.length + 1 ≤ _; omega, ?_⟩
              rw [tk, List.filter_append, List.filter_cons, hf, List.map_append]
              exact dp_app hus (.cons hx1 .nil)
          rintro H19 ⟨s19, us, hD, ul, hus⟩
          rw [ly, List.take_length] at hus
          refine ⟨Nat.zero_le _, fun z nz => ?_⟩
          have s20 := same_upd (o := HO.lst []) nz
          have s1319 := s1318.trans s19
          refine ⟨.list (bads d), .list [], .lst (SqL.of (s20 _ _ hD)) (hus.same (s1319.trans s20)), .lst (SqL.of upd_same) .nil, fins_shaped (n := 38) (fun e he => ?_) (by decide), nilL_shaped, name_in ?_⟩
          · unfold bads at he
            obtain ⟨p, hp, rfl⟩ := List.mem_map.mp he
            exact lfit p ((List.mem_filter.mp hp).1)
          rw [eqv_nilL]
          try dsimp only
          have s1320 := s1319.trans s20
          have s1620 := s17.trans (s18.trans (s19.trans s20))
          refine ⟨_, rfl, x, d, rfl, hx.same s1320, fd38, Nat.lt_of_le_of_lt itd.cnt (by decide), fun H21 s21 => ⟨_, rfl, _, _, rfl, fun H22 s22 => ⟨_, rfl, ?_⟩⟩⟩
          rw [decide_eq_true (fine_eq d)]
          exact iteF ⟨_, _, rfl, s16.trans (s1620.trans (s21.trans s22))⟩
        · rintro σ H16 ⟨v8, v9, rfl, s16⟩
          have s1316 := s1315.trans s16
          exact ⟨_, _, _, _, _, _, rfl, s1316 _ _ hL13, (p13.same s1316), nm13.same (wh_same s1316)⟩
      · rintro σ H8 ⟨v5, v6, v7, v8, v9, v10, rfl, hL8, p8, nm8⟩
        -- things that are no bodies
        refine ⟨Nat.zero_le _, fun t1 n1 => ⟨by show 1 ≤ sizeLine; decide, fun t2 n2 => ⟨by show 1 ≤ sizeLine; decide, fun l3 n3 => ⟨by show 1 ≤ sizeLine; decide, fun t4 n4 => fun d5 n5 => ⟨by show 8 ≤ sizeLine; decide, fun lo nlo => ?_⟩⟩⟩⟩⟩
        have e1 := same_upd (o := HO.tup []) n1
        have h1 : (upd H8 t1 (.tup [])) t1 = some (.tup []) := upd_same
        generalize upd H8 t1 (HO.tup []) = G1 at e1 h1 n2 n3 n4 n5 nlo ⊢
        have e2 := same_upd (o := HO.tup [V.str "use"]) n2
        have h2 : (upd G1 t2 (.tup [V.str "use"])) t2 = some (.tup [V.str "use"]) := upd_same
        generalize upd G1 t2 (HO.tup [V.str "use"]) = G2 at e2 h2 n3 n4 n5 nlo ⊢
        have e3 := same_upd (o := HO.lst [V.ref t2]) n3
        have h3 : (upd G2 l3 (.lst [V.ref t2])) l3 = some (.lst [V.ref t2]) := upd_same
        generalize upd G2 l3 (HO.lst [V.ref t2]) = G3 at e3 h3 n4 n5 nlo ⊢
        have e4 := same_upd (o := HO.tup [V.str "use"]) n4
        have h4 : (upd G3 t4 (.tup [V.str "use"])) t4 = some (.tup [V.str "use"]) := upd_same
        generalize upd G3 t4 (HO.tup [V.str "use"]) = G4 at e4 h4 n5 nlo ⊢
        have e5 := same_upd (o := HO.dK []) n5
        have h5 : (upd G4 d5 (.dK [])) d5 = some (.dK []) := upd_same
        generalize upd G4 d5 (HO.dK []) = G5 at e5 h5 nlo ⊢
        have e6 := same_upd (o := HO.lst [V.non, V.ref t1, V.ref l3, V.str "use", V.ref t4, V.int 0, V.bl true, V.ref d5]) nlo
        have h6 : (upd G5 lo (.lst [V.non, V.ref t1, V.ref l3, V.str "use", V.ref t4, V.int 0, V.bl true, V.ref d5])) lo = some (.lst [V.non, V.ref t1, V.ref l3, V.str "use", V.ref t4, V.int 0, V.bl true, V.ref d5]) := upd_same
        generalize upd G5 lo (HO.lst [V.non, V.ref t1, V.ref l3, V.str "use", V.ref t4, V.int 0, V.bl true, V.ref d5]) = G6 at e6 h6 ⊢
        have sAll := e1.trans (e2.trans (e3.trans (e4.trans (e5.trans e6))))
        have hL6 := sAll _ _ hL8
        have f1 := (e2.trans (e3.trans (e4.trans (e5.trans e6)))) _ _ h1
        have f2 := (e3.trans (e4.trans (e5.trans e6))) _ _ h2
        have f3 := (e4.trans (e5.trans e6)) _ _ h3
        have f4 := (e5.trans e6) _ _ h4
        have f5 := e6 _ _ h5
        have odd : ∀ x ∈ [V.non, V.ref t1, V.ref l3, V.str "use", V.ref t4, V.int 0, V.bl true, V.ref d5], ∃ oo : Option D, TopD K G6 x oo 39 ∧ (∀ d, oo = some d → cntD d ≤ 800) ∧ (faultO oo).isNone = false := by
          have one : ∀ {x : V} {d : D} {b c : Nat}, Dp K G6 x d → It b c d → b < 39 → c ≤ 800 → (faultO (some d)).isNone = false → ∃ oo : Option D, TopD K G6 x oo 39 ∧ (∀ d, oo = some d → cntD d ≤ 800) ∧ (faultO oo).isNone = false := fun {x d b c} hx hi hb hc hf => ⟨some d, ⟨hx, hi.fits (by omega) hb⟩, fun e he => by cases he; exact Nat.le_trans hi.cnt hc, hf⟩
          simp only [List.mem_cons, List.not_mem_nil, or_false, forall_eq_or_imp, forall_eq]
          refine ⟨one .non noneG (by decide) (by decide) rfl, one (.tup (SqT.of f1) .nil) (It.tup Its.nil) (by decide) (by decide) rfl, one (.lst (SqL.of f3) (.cons (.tup (SqT.of f2) (.cons (.str _) .nil)) .nil)) (It.lst (Its.cons (It.tup (Its.cons (It.str useG) Its.nil)) Its.nil)) (by decide) (by decide) rfl, one (.str _) (It.str useG) (by decide) (by decide) rfl,
            one (.tup (SqT.of f4) (.cons (.str _) .nil)) (It.tup (Its.cons (It.str useG) Its.nil)) (by decide) (by decide) use_fault, one (.int _) zeroG (by decide) (by decide) rfl, one (.bl _) boolG (by decide) (by decide) rfl, none, .base (.dK f5), (fun d h => nomatch h), rfl⟩
        refine ⟨lo, rfl, ⟨_, SqL.of h6⟩, for_list (K := K) (a := lo) (xs := [V.non, V.ref t1, V.ref l3, V.str "use", V.ref t4, V.int 0, V.bl true, V.ref d5])
          (fun k σ H' => ∃ v10 : Option V, σ = [some (.ref a), some (.int (i : Nat)), some (.int cell), some (.ref o), some (.ref nl), v5, v6, v7, v8, v9, v10, none, none] ∧ Same G6 H')
          ⟨v10, rfl, Same.refl _⟩ ?_ ?_ ?_⟩
        · rintro k σ H' hk ⟨v10, rfl, s⟩
          exact s.seq (SqL.of h6)
        · rintro k x σ H9 hxk ⟨v10, rfl, s9⟩
          obtain ⟨oo, top, cn, hf⟩ := odd x (List.mem_of_getElem? hxk)
          refine name_in ?_
          try dsimp only
          have top9 := top.same s9
          refine ifS_via (fun b H' => b = false ∧ Same H9 H') (fun QQ hQ => ?_) ?_
          · refine ⟨_, rfl, x, oo, rfl, top9, fun H10 r10 s10 hr10 => ⟨_, rfl, x, oo, rfl, top9.same s10, cn, fun H11 r11 s11 hr11 => ⟨_, _, hr10.same s11, hr11, due_shaped _, due_shaped _, _, rfl, ?_⟩⟩⟩
            rw [SeqAt.eqv_refl _ (due_lay _)]
            refine iteF ⟨_, rfl, x, oo, rfl, top9.same (s10.trans s11), fun H12 s12 => ⟨_, _, rfl, rfl, _, rfl, hQ _ _ ⟨by rw [hf]; rfl, s10.trans (s11.trans s12)⟩⟩⟩
          · rintro b H10 ⟨rfl, s10⟩
            exact iteF ⟨_, rfl, s9.trans s10⟩
        · rintro σ H9 ⟨v10, rfl, s9⟩
          exact ⟨_, _, _, _, _, _, _, _, _, _, rfl, s9 _ _ hL6⟩
    · rintro σ H1 ⟨v1, v2, v3, v4, v5, v6, v7, v8, v9, v10, rfl, hL⟩
      exact q H1
end
end Tr

/-! P25 -/
/-! ### what the top has written -/
namespace Tr
open PySem PySem.Spec PyProof.Rows L2 Rw
open PySem.W (findIn typeIn keepIn codeIn subIn nsIn hasDictIn mroIn specialIn takesIn kitOne isFn selfFirst makesIn plainGet plainOver exmOne)
section
variable {P : Program} {w : World} {K : PySem.W.Frag} {mg : Str → Option Value} {base : Heap}
theorem ok_shapes {fI fS fM fF fN fK fB iw pw : Addr} {fdI fdS fdM fdF fdN fdK fdB : FuncData} (FI : Fun K "is_inner" "is_inner" sIn fI fdI) (FS : Fun K "is_shaped" "is_shaped" sSh fS fdS) (FM : Fun K "misshapen" "misshapen" sMis fM fdM)
    (TI : Called K mg "is_inner" ["value"] fI fdI) (TS : Called K mg "is_shaped" ["value", "around"] fS fdS) (TM : Called K mg "misshapen" ["items", "around"] fM fdM) (TF : Called K mg "flat" ["items"] fF fdF) (TN : Called K mg "is_name" ["value"] fN fdN) (TK : Called K mg "is_fork" ["value"] fK fdK) (TB : Called K mg "branches" ["item"] fB fdB)
    (GF : ∀ n, FnOk P w K mg base CX0 (n + 2) fF fdF ["items"] (spFlat K n)) (GN : FnOk P w K mg base CX0 1 fN fdN ["value"] (spName K)) (GK : FnOk P w K mg base CX0 2 fK fdK ["value"] (spFork K)) (GB : FnOk P w K mg base CX0 1 fB fdB ["item"] (spBr K))
    (m_isinstance : mg "isinstance" = none) (m_tuple : mg "tuple" = none) (m_all : mg "all" = none) (m_len : mg "len" = none) (m_str : mg "str" = none)
    (gI : mg "INNER_WORDS" = some (.ref iw)) (hI : ∀ H, SqT K H iw (inner3.map V.str)) {tI : Tok} (mI : mg "MOST_INNER" = some (.int 4 tI)) (gP : mg "PLAIN_WORDS" = some (.ref pw)) (hP : ∀ H, SqT K H pw (plain6.map V.str)) {tW : Tok} (mW : mg "MOST_WITHIN" = some (.int 3 tW)) :
    ∀ n, FnOk P w K mg base CX0 (2 * n + 3) fI fdI ["value"] (spInn K n) ∧ FnOk P w K mg base CX0 (2 * n + 3) fS fdS ["value", "around"] (spSh K n) ∧ FnOk P w K mg base CX0 (2 * n + 4) fM fdM ["items", "around"] (spMis K n) := by
  intro n
  induction n with
  | zero =>
    refine ⟨?_, ?_, ?_⟩
    · refine FI.ok scIn (fun vs H Q E h => ?_) (fun cdv A outer s H vs Q E hr h => ?_)
      · obtain ⟨v, d, rfl, _⟩ := h
        rfl
      · obtain ⟨v, d, rfl, _, ft, _⟩ := h
        exact absurd ft.dep (Nat.not_lt_zero _)
    · refine FS.ok scSh (fun vs H Q E h => ?_) (fun cdv A outer s H vs Q E hr h => ?_)
      · obtain ⟨v, d, a, rfl, _⟩ := h
        rfl
      · obtain ⟨v, d, a, rfl, _, ft, _⟩ := h
        exact absurd ft.dep (Nat.not_lt_zero _)
    · refine FM.ok scMis (fun vs H Q E h => ?_) (fun cdv A outer s H vs Q E hr h => ?_)
      · obtain ⟨p, xs, ds, a, rfl, _⟩ := h
        rfl
      · obtain ⟨p, xs, ds, a, rfl, _, _, ft, _⟩ := h
        exact absurd ft.dep (Nat.not_lt_zero _)
  | succ n ih =>
    obtain ⟨gI0, _, gM0⟩ := ih
    have a := ok_inn FI TM TF n gM0 (GF n) m_isinstance m_tuple m_all m_len gI hI mI
    have b := ok_sh FS TN TI TK n GN gI0 GK m_isinstance m_tuple m_str m_len gP hP mW
    exact ⟨a, b, ok_mis FM TM TS TB n b gM0 GB⟩
theorem ok_ways {fA fO fF fB : Addr} {fdA fdO fdF fdB : FuncData} (FA : Fun K "ways_along" "ways_along" sWA fA fdA) (FO : Fun K "ways_of" "ways_of" sWO fO fdO) (TA : Called K mg "ways_along" ["items", "start", "behind"] fA fdA) (TO : Called K mg "ways_of" ["item", "place", "follows"] fO fdO) (TF : Called K mg "flat" ["items"] fF fdF) (TB : Called K mg "branches" ["item"] fB fdB)
    (GF : ∀ n, FnOk P w K mg base CX0 (n + 2) fF fdF ["items"] (spFlat K n)) (GB : FnOk P w K mg base CX0 1 fB fdB ["item"] (spBr K)) (m_enumerate : mg "enumerate" = none) (m_len : mg "len" = none) :
    ∀ n, FnOk P w K mg base CX0 (2 * n + 3) fO fdO ["item", "place", "follows"] (spWO K n) ∧ FnOk P w K mg base CX0 (2 * n + 4) fA fdA ["items", "start", "behind"] (spWA K n) := by
  intro n
  induction n with
  | zero =>
    have a : FnOk P w K mg base CX0 (2 * 0 + 3) fO fdO ["item", "place", "follows"] (spWO K 0) := by
      refine FO.ok scWO (fun vs H Q E h => ?_) (fun cdv A outer s H vs Q E hr h => ?_)
      · obtain ⟨v, d, s, b, rfl, _⟩ := h
        rfl
      · obtain ⟨v, d, s, b, rfl, _, ft, _⟩ := h
        exact absurd ft.dep (Nat.not_lt_zero _)
    exact ⟨a, ok_wa FA TF TO 0 (GF 0) a m_enumerate m_len⟩
  | succ n ih =>
    have a := ok_wo FO TF TB TA n (GF n) GB ih.2 m_len
    exact ⟨a, ok_wa FA TF TO (n + 1) (GF (n + 1)) a m_enumerate m_len⟩
theorem ok_drawn {fM fS fP fD fZ fI fL : Addr} {fdM fdS fdP fdD fdZ fdI fdL : FuncData} (FM : Fun K "_law_many" "_law_many" sMn fM fdM) (FS : Fun K "_law_some" "_law_some" sSo fS fdS)
    (TM : Called K mg "_law_many" ["_law_pool_here", "_law_names", "_law_deep", "_law_room", "_law_held"] fM fdM) (TS : Called K mg "_law_some" ["_law_pool_here", "_law_names", "_law_deep", "_law_room", "_law_held"] fS fdS)
    (GP : FnOk P w K mg base CX0 2 fP fdP ["_law_pool_here", "_law_some_here"] (spPick K)) (TP : Called K mg "_law_pick" ["_law_pool_here", "_law_some_here"] fP fdP)
    (GD : FnOk P w K mg base CX0 1 fD fdD ["_law_pool_here", "_law_many_here"] (spDraw K)) (TD : Called K mg "_law_draw" ["_law_pool_here", "_law_many_here"] fD fdD)
    (GZ : FnOk P w K mg base CX0 18 fZ fdZ ["_law_items"] (spSz K 16)) (GZL : FnOk P w K mg base CX0 18 fZ fdZ ["_law_items"] (spSzL K 16)) (TZ : Called K mg "_law_size" ["_law_items"] fZ fdZ)
    (GI : FnOk P w K mg base CX0 3 fI fdI ["_law_pool_here", "_law_names"] (spIr K)) (TI : Called K mg "_law_inner" ["_law_pool_here", "_law_names"] fI fdI)
    (GL : FnOk P w K mg base CX0 3 fL fdL ["_law_pool_here", "_law_names"] (spPl K)) (TL : Called K mg "_law_plain" ["_law_pool_here", "_law_names"] fL fdL)
    (m_list : mg "list" = none) (m_range : mg "range" = none) (m_tuple : mg "tuple" = none) : ∀ R, R ≤ 9 → FnOk P w K mg base CX0 (2 * R + 20) fM fdM ["_law_pool_here", "_law_names", "_law_deep", "_law_room", "_law_held"] (spMn K R) := by
  intro R
  induction R with
  | zero => exact fun h => ok_mn 0 FM (ok_so0 FS) TS GD TD GZL TZ m_range m_tuple h
  | succ R ih => exact fun h => ok_mn (R + 1) FM (ok_so R FS (ih (by omega)) TM GP TP GD TD GZ TZ GI TI GL TL m_list (by omega)) TS GD TD GZL TZ m_range m_tuple h
end
theorem kit_of_B {K : PySem.W.Frag} {cI : Addr} (h : (exmOne K (.ref cI) (.ref cI) == some true) = true) : exmOne K (.ref cI) (.ref cI) = some true := beq_iff_eq.mp h
theorem all_mk {P : Program} {w : World} {K : PySem.W.Frag} {h : Heap} {mg : Str → Option Value} {fa : Addr} (X : K.In h) (G : h.Ns mainGlobals mg) (hfa : mg "law" = some (.ref fa))
    {cD : Addr} {nmI qI : Str} {NI : Addr} {bsI : List Value} {snI : List Str} {subI : List Value} {abI : Bool} {colI : Option Bool} {ddI : Option Addr} {m0I m1I m2I m3I m5I : Option Value} {cI fI : Addr}
    {cB pC : Addr}
    {fCo : Addr} {restC : List Value}
    {aPW : Addr} {odPW : Option Addr} {kPW0 kPW1 kPW2 kPW3 kPW4 kPW5 : Tok} {nPW : Nat} {slPW : Array (Option Value)}
    {aIW : Addr} {odIW : Option Addr} {kIW0 kIW1 kIW2 : Tok} {nIW : Nat} {slIW : Array (Option Value)}
    {tL tM tN tW : Tok}
    {fName : Addr} {ocName dcName pmName cdName ctName kVName : Value} {odName anName : Option Addr} {slName : Array (Option Value)}
    {fTups : Addr} {ocTups dcTups pmTups cdTups ctTups kVTups : Value} {odTups anTups : Option Addr} {slTups : Array (Option Value)}
    {fFork : Addr} {ocFork dcFork pmFork cdFork ctFork kVFork : Value} {odFork anFork : Option Addr} {slFork : Array (Option Value)}
    {fBr : Addr} {ocBr dcBr pmBr cdBr ctBr kVBr : Value} {odBr anBr : Option Addr} {slBr : Array (Option Value)}
    {fBeh : Addr} {ocBeh dcBeh pmBeh cdBeh ctBeh kVBeh : Value} {odBeh anBeh : Option Addr} {slBeh : Array (Option Value)}
    {fFlat : Addr} {ocFlat dcFlat pmFlat cdFlat ctFlat kVFlat : Value} {odFlat anFlat : Option Addr} {slFlat : Array (Option Value)}
    {fInn : Addr} {ocInn dcInn pmInn cdInn ctInn kVInn : Value} {odInn anInn : Option Addr} {slInn : Array (Option Value)}
    {fShp : Addr} {ocShp dcShp pmShp cdShp ctShp kVShp : Value} {odShp anShp : Option Addr} {slShp : Array (Option Value)}
    {fMis : Addr} {ocMis dcMis pmMis cdMis ctMis kVMis : Value} {odMis anMis : Option Addr} {slMis : Array (Option Value)}
    {fWr : Addr} {ocWr dcWr pmWr cdWr ctWr kVWr : Value} {odWr anWr : Option Addr} {slWr : Array (Option Value)}
    {fWL : Addr} {ocWL dcWL pmWL cdWL ctWL kVWL : Value} {odWL anWL : Option Addr} {slWL : Array (Option Value)}
    {fHl : Addr} {ocHl dcHl pmHl cdHl ctHl kVHl : Value} {odHl anHl : Option Addr} {slHl : Array (Option Value)}
    {fEach : Addr} {ocEach dcEach pmEach cdEach ctEach kVEach : Value} {odEach anEach : Option Addr} {slEach : Array (Option Value)}
    {fCB : Addr} {ocCB dcCB pmCB cdCB ctCB kVCB : Value} {odCB anCB : Option Addr} {slCB : Array (Option Value)}
    {fIBd : Addr} {ocIBd dcIBd pmIBd cdIBd ctIBd kVIBd : Value} {odIBd anIBd : Option Addr} {slIBd : Array (Option Value)}
    {fItm : Addr} {ocItm dcItm pmItm cdItm ctItm kVItm : Value} {odItm anItm : Option Addr} {slItm : Array (Option Value)}
    {fWA : Addr} {ocWA dcWA pmWA cdWA ctWA kVWA : Value} {odWA anWA : Option Addr} {slWA : Array (Option Value)}
    {fWO : Addr} {ocWO dcWO pmWO cdWO ctWO kVWO : Value} {odWO anWO : Option Addr} {slWO : Array (Option Value)}
    {fNum : Addr} {ocNum dcNum pmNum cdNum ctNum kVNum : Value} {odNum anNum : Option Addr} {slNum : Array (Option Value)}
    {fPool : Addr} {ocPool dcPool pmPool cdPool ctPool kVPool : Value} {odPool anPool : Option Addr} {slPool : Array (Option Value)}
    {fDr : Addr} {ocDr dcDr pmDr cdDr ctDr kVDr : Value} {odDr anDr : Option Addr} {slDr : Array (Option Value)}
    {fPk : Addr} {ocPk dcPk pmPk cdPk ctPk kVPk : Value} {odPk anPk : Option Addr} {slPk : Array (Option Value)}
    {fTu : Addr} {ocTu dcTu pmTu cdTu ctTu kVTu : Value} {odTu anTu : Option Addr} {slTu : Array (Option Value)}
    {fSz : Addr} {ocSz dcSz pmSz cdSz ctSz kVSz : Value} {odSz anSz : Option Addr} {slSz : Array (Option Value)}
    {fLF : Addr} {ocLF dcLF pmLF cdLF ctLF kVLF : Value} {odLF anLF : Option Addr} {slLF : Array (Option Value)}
    {fTr : Addr} {ocTr dcTr pmTr cdTr ctTr kVTr : Value} {odTr anTr : Option Addr} {slTr : Array (Option Value)}
    {fPl : Addr} {ocPl dcPl pmPl cdPl ctPl kVPl : Value} {odPl anPl : Option Addr} {slPl : Array (Option Value)}
    {fIr : Addr} {ocIr dcIr pmIr cdIr ctIr kVIr : Value} {odIr anIr : Option Addr} {slIr : Array (Option Value)}
    {fSo : Addr} {ocSo dcSo pmSo cdSo ctSo kVSo : Value} {odSo anSo : Option Addr} {slSo : Array (Option Value)}
    {fMn : Addr} {ocMn dcMn pmMn cdMn ctMn kVMn : Value} {odMn anMn : Option Addr} {slMn : Array (Option Value)}
    {fLNm : Addr} {ocLNm dcLNm pmLNm cdLNm ctLNm kVLNm : Value} {odLNm anLNm : Option Addr} {slLNm : Array (Option Value)}
    {fIl : Addr} {ocIl dcIl pmIl cdIl ctIl kVIl : Value} {odIl anIl : Option Addr} {slIl : Array (Option Value)}
    {fFm : Addr} {ocFm dcFm pmFm cdFm ctFm kVFm : Value} {odFm anFm : Option Addr} {slFm : Array (Option Value)}
    {fNb : Addr} {ocNb dcNb pmNb cdNb ctNb kVNb : Value} {odNb anNb : Option Addr} {slNb : Array (Option Value)}
    {fTn : Addr} {ocTn dcTn pmTn cdTn ctTn kVTn : Value} {odTn anTn : Option Addr} {slTn : Array (Option Value)}
    {fDu : Addr} {ocDu dcDu pmDu cdDu ctDu kVDu : Value} {odDu anDu : Option Addr} {slDu : Array (Option Value)}
    {fHd : Addr} {ocHd dcHd pmHd cdHd ctHd kVHd : Value} {odHd anHd : Option Addr} {slHd : Array (Option Value)}
    {fSw : Addr} {ocSw dcSw pmSw cdSw ctSw kVSw : Value} {odSw anSw : Option Addr} {slSw : Array (Option Value)}
    {fJk : Addr} {ocJk dcJk pmJk cdJk ctJk kVJk : Value} {odJk anJk : Option Addr} {slJk : Array (Option Value)}
    {fBt : Addr} {ocBt dcBt pmBt cdBt ctBt kVBt : Value} {odBt anBt : Option Addr} {slBt : Array (Option Value)}
    {fL : Addr} {ocL dcL pmL cdL ctL kVL : Value} {odL anL : Option Addr} {slL : Array (Option Value)}
    {ocII dcII pmII cdII ctII kVII : Value} {odII anII : Option Addr} {slII : Array (Option Value)}
    {fBI : Addr}
    {ocBI dcBI pmBI cdBI ctBI kVBI : Value} {odBI anBI : Option Addr} {slBI : Array (Option Value)}
    {ocCo dcCo pmCo cdCo ctCo kVCo : Value} {odCo anCo : Option Addr} {slCo : Array (Option Value)}
    (aI : nsIn K mainGlobals "InvalidItem" = some (some (.ref cI)))
    (xI : K.lookup cI = some (excClassObj nmI qI cI NI bsI [.ref cD, .type "Exception", .type "BaseException", .type "object"] true snI subI abI colI ddI m0I m1I m2I m3I m5I "Exception.__new__"))
    (saI : findIn K (.ref cI) "__setattr__" = some (some (.builtin "object.__setattr__")))
    (gaI : findIn K (.ref cI) "__getattribute__" = some (some (.builtin "BaseException.__getattribute__")))
    (ggI : findIn K (.ref cI) "__getattr__" = some none)
    (nI : findIn K (.ref cI) "place" = some none)
    (iI : findIn K (.ref cI) "__init__" = some (some (.ref fI)))
    (tI : typeIn K (.ref fI) = some (.type "function"))
    (kCI : keepIn K (.ref cI) = true)
    (eCI : subIn K (.ref cI) (.type "BaseException") = some true)
    (tCI : typeIn K (.ref cI) = some (.type "type"))
    (hCI : hasDictIn K cI = true)
    (haI : findIn K (.ref cI) "__class__" = some (some (.builtin "object.__class__")))
    (hmI : mroIn K cI (.type "object") = some true)
    (hn : specialIn K (.builtin "object.__class__") "__get__" = some (some (.builtin "getset_descriptor.__get__")))
    (ht : takesIn K (.builtin "object.__class__") = some true)
    (kb : (exmOne K (.ref cI) (.ref cI) == some true) = true)
    (aB : nsIn K mainGlobals "Body" = some (some (.ref cB)))
    (pgB : plainGet K cB Str.empty = true)
    (hdB : hasDictIn K cB = true)
    (poB : plainOver K cB = true)
    (saB : findIn K (.ref cB) "__setattr__" = some (some (.builtin "object.__setattr__")))
    (n_code : findIn K (.ref cB) "_code" = some none)
    (n_listed : findIn K (.ref cB) "_listed" = some none)
    (n_ways : findIn K (.ref cB) "_ways" = some none)
    (n_held : findIn K (.ref cB) "_held" = some none)
    (mkB : makesIn K cB = true)
    (kCB : keepIn K (.ref cB) = true)
    (pAt : findIn K (.ref cB) "code" = some (some (.ref pC)))
    (pGet : specialIn K (.ref pC) "__get__" = some (some (.builtin "property.__get__")))
    (pTak : takesIn K (.ref pC) = some true)
    (pRec : PySem.W.recIn K pC "property" = some (.ref fCo :: restC))
    (gPW : nsIn K mainGlobals "PLAIN_WORDS" = some (some (.ref aPW)))
    (lPW : K.lookup aPW = some ⟨.type "tuple", odPW, .seq #[.str "start" kPW0, .str "cancel" kPW1, .str "set" kPW2, .str "clear" kPW3, .str "take" kPW4, .str "give" kPW5] nPW, slPW⟩)
    (gIW : nsIn K mainGlobals "INNER_WORDS" = some (some (.ref aIW)))
    (lIW : K.lookup aIW = some ⟨.type "tuple", odIW, .seq #[.str "use" kIW0, .str "start" kIW1, .str "test" kIW2] nIW, slIW⟩)
    (gML : nsIn K mainGlobals "MOST_LETTERS" = some (some (.int 8 tL)))
    (gMI : nsIn K mainGlobals "MOST_ITEMS" = some (some (.int 8 tM)))
    (gMN : nsIn K mainGlobals "MOST_INNER" = some (some (.int 4 tN)))
    (gMW : nsIn K mainGlobals "MOST_WITHIN" = some (some (.int 3 tW)))
    (aName : nsIn K mainGlobals "is_name" = some (some (.ref fName)))
    (aTups : nsIn K mainGlobals "are_tuples" = some (some (.ref fTups)))
    (aFork : nsIn K mainGlobals "is_fork" = some (some (.ref fFork)))
    (aBr : nsIn K mainGlobals "branches" = some (some (.ref fBr)))
    (aBeh : nsIn K mainGlobals "locks_behind" = some (some (.ref fBeh)))
    (aFlat : nsIn K mainGlobals "flat" = some (some (.ref fFlat)))
    (aInn : nsIn K mainGlobals "is_inner" = some (some (.ref fInn)))
    (aShp : nsIn K mainGlobals "is_shaped" = some (some (.ref fShp)))
    (aMis : nsIn K mainGlobals "misshapen" = some (some (.ref fMis)))
    (aWr : nsIn K mainGlobals "is_wrong" = some (some (.ref fWr)))
    (aWL : nsIn K mainGlobals "wrong_locks" = some (some (.ref fWL)))
    (aHl : nsIn K mainGlobals "held_along" = some (some (.ref fHl)))
    (aEach : nsIn K mainGlobals "check_each" = some (some (.ref fEach)))
    (aCB : nsIn K mainGlobals "check_body" = some (some (.ref fCB)))
    (aIBd : nsIn K mainGlobals "is_body" = some (some (.ref fIBd)))
    (aItm : nsIn K mainGlobals "is_item" = some (some (.ref fItm)))
    (aWA : nsIn K mainGlobals "ways_along" = some (some (.ref fWA)))
    (aWO : nsIn K mainGlobals "ways_of" = some (some (.ref fWO)))
    (aNum : nsIn K mainGlobals "_law_numbers" = some (some (.ref fNum)))
    (aPool : nsIn K mainGlobals "_law_pool" = some (some (.ref fPool)))
    (aDr : nsIn K mainGlobals "_law_draw" = some (some (.ref fDr)))
    (aPk : nsIn K mainGlobals "_law_pick" = some (some (.ref fPk)))
    (aTu : nsIn K mainGlobals "_law_tuples" = some (some (.ref fTu)))
    (aSz : nsIn K mainGlobals "_law_size" = some (some (.ref fSz)))
    (aLF : nsIn K mainGlobals "_law_flat" = some (some (.ref fLF)))
    (aTr : nsIn K mainGlobals "_law_truth" = some (some (.ref fTr)))
    (aPl : nsIn K mainGlobals "_law_plain" = some (some (.ref fPl)))
    (aIr : nsIn K mainGlobals "_law_inner" = some (some (.ref fIr)))
    (aSo : nsIn K mainGlobals "_law_some" = some (some (.ref fSo)))
    (aMn : nsIn K mainGlobals "_law_many" = some (some (.ref fMn)))
    (aLNm : nsIn K mainGlobals "_law_is_name" = some (some (.ref fLNm)))
    (aIl : nsIn K mainGlobals "_law_is_inner" = some (some (.ref fIl)))
    (aFm : nsIn K mainGlobals "_law_is_form" = some (some (.ref fFm)))
    (aNb : nsIn K mainGlobals "_law_numbered" = some (some (.ref fNb)))
    (aTn : nsIn K mainGlobals "_law_turns" = some (some (.ref fTn)))
    (aDu : nsIn K mainGlobals "_law_due" = some (some (.ref fDu)))
    (aHd : nsIn K mainGlobals "_law_heard" = some (some (.ref fHd)))
    (aSw : nsIn K mainGlobals "_law_swapped" = some (some (.ref fSw)))
    (aJk : nsIn K mainGlobals "_law_junk" = some (some (.ref fJk)))
    (aBt : nsIn K mainGlobals "_law_bent" = some (some (.ref fBt)))
    (aL : nsIn K mainGlobals "law" = some (some (.ref fL)))
    (aBI : findIn K (.ref cB) "__init__" = some (some (.ref fBI)))
    (iBI : isFn K (.ref fBI) = true)
    (lName : K.lookup fName = some ⟨ocName, odName, .func (PySem.W.fnOf "is_name" "is_name" (defArgs sName) (defBody sName) (defScope sName) .none kVName dcName pmName anName cdName ctName), slName⟩)
    (ccName : codeIn K cdName "is_name" = true)
    (kfName : keepIn K (.ref fName) = true)
    (lTups : K.lookup fTups = some ⟨ocTups, odTups, .func (PySem.W.fnOf "are_tuples" "are_tuples" (defArgs sTups) (defBody sTups) (defScope sTups) .none kVTups dcTups pmTups anTups cdTups ctTups), slTups⟩)
    (ccTups : codeIn K cdTups "are_tuples" = true)
    (kfTups : keepIn K (.ref fTups) = true)
    (lFork : K.lookup fFork = some ⟨ocFork, odFork, .func (PySem.W.fnOf "is_fork" "is_fork" (defArgs sFork) (defBody sFork) (defScope sFork) .none kVFork dcFork pmFork anFork cdFork ctFork), slFork⟩)
    (ccFork : codeIn K cdFork "is_fork" = true)
    (kfFork : keepIn K (.ref fFork) = true)
    (lBr : K.lookup fBr = some ⟨ocBr, odBr, .func (PySem.W.fnOf "branches" "branches" (defArgs sBr) (defBody sBr) (defScope sBr) .none kVBr dcBr pmBr anBr cdBr ctBr), slBr⟩)
    (ccBr : codeIn K cdBr "branches" = true)
    (kfBr : keepIn K (.ref fBr) = true)
    (lBeh : K.lookup fBeh = some ⟨ocBeh, odBeh, .func (PySem.W.fnOf "locks_behind" "locks_behind" (defArgs sBeh) (defBody sBeh) (defScope sBeh) .none kVBeh dcBeh pmBeh anBeh cdBeh ctBeh), slBeh⟩)
    (ccBeh : codeIn K cdBeh "locks_behind" = true)
    (kfBeh : keepIn K (.ref fBeh) = true)
    (lFlat : K.lookup fFlat = some ⟨ocFlat, odFlat, .func (PySem.W.fnOf "flat" "flat" (defArgs sFlat) (defBody sFlat) (defScope sFlat) .none kVFlat dcFlat pmFlat anFlat cdFlat ctFlat), slFlat⟩)
    (ccFlat : codeIn K cdFlat "flat" = true)
    (kfFlat : keepIn K (.ref fFlat) = true)
    (lInn : K.lookup fInn = some ⟨ocInn, odInn, .func (PySem.W.fnOf "is_inner" "is_inner" (defArgs sIn) (defBody sIn) (defScope sIn) .none kVInn dcInn pmInn anInn cdInn ctInn), slInn⟩)
    (ccInn : codeIn K cdInn "is_inner" = true)
    (kfInn : keepIn K (.ref fInn) = true)
    (lShp : K.lookup fShp = some ⟨ocShp, odShp, .func (PySem.W.fnOf "is_shaped" "is_shaped" (defArgs sSh) (defBody sSh) (defScope sSh) .none kVShp dcShp pmShp anShp cdShp ctShp), slShp⟩)
    (ccShp : codeIn K cdShp "is_shaped" = true)
    (kfShp : keepIn K (.ref fShp) = true)
    (lMis : K.lookup fMis = some ⟨ocMis, odMis, .func (PySem.W.fnOf "misshapen" "misshapen" (defArgs sMis) (defBody sMis) (defScope sMis) .none kVMis dcMis pmMis anMis cdMis ctMis), slMis⟩)
    (ccMis : codeIn K cdMis "misshapen" = true)
    (kfMis : keepIn K (.ref fMis) = true)
    (lWr : K.lookup fWr = some ⟨ocWr, odWr, .func (PySem.W.fnOf "is_wrong" "is_wrong" (defArgs sWr) (defBody sWr) (defScope sWr) .none kVWr dcWr pmWr anWr cdWr ctWr), slWr⟩)
    (ccWr : codeIn K cdWr "is_wrong" = true)
    (kfWr : keepIn K (.ref fWr) = true)
    (lWL : K.lookup fWL = some ⟨ocWL, odWL, .func (PySem.W.fnOf "wrong_locks" "wrong_locks" (defArgs sWL) (defBody sWL) (defScope sWL) .none kVWL dcWL pmWL anWL cdWL ctWL), slWL⟩)
    (ccWL : codeIn K cdWL "wrong_locks" = true)
    (kfWL : keepIn K (.ref fWL) = true)
    (lHl : K.lookup fHl = some ⟨ocHl, odHl, .func (PySem.W.fnOf "held_along" "held_along" (defArgs sHl) (defBody sHl) (defScope sHl) .none kVHl dcHl pmHl anHl cdHl ctHl), slHl⟩)
    (ccHl : codeIn K cdHl "held_along" = true)
    (kfHl : keepIn K (.ref fHl) = true)
    (lEach : K.lookup fEach = some ⟨ocEach, odEach, .func (PySem.W.fnOf "check_each" "check_each" (defArgs sEach) (defBody sEach) (defScope sEach) .none kVEach dcEach pmEach anEach cdEach ctEach), slEach⟩)
    (ccEach : codeIn K cdEach "check_each" = true)
    (kfEach : keepIn K (.ref fEach) = true)
    (lCB : K.lookup fCB = some ⟨ocCB, odCB, .func (PySem.W.fnOf "check_body" "check_body" (defArgs sCB) (defBody sCB) (defScope sCB) .none kVCB dcCB pmCB anCB cdCB ctCB), slCB⟩)
    (ccCB : codeIn K cdCB "check_body" = true)
    (kfCB : keepIn K (.ref fCB) = true)
    (lIBd : K.lookup fIBd = some ⟨ocIBd, odIBd, .func (PySem.W.fnOf "is_body" "is_body" (defArgs sIB) (defBody sIB) (defScope sIB) .none kVIBd dcIBd pmIBd anIBd cdIBd ctIBd), slIBd⟩)
    (ccIBd : codeIn K cdIBd "is_body" = true)
    (kfIBd : keepIn K (.ref fIBd) = true)
    (lItm : K.lookup fItm = some ⟨ocItm, odItm, .func (PySem.W.fnOf "is_item" "is_item" (defArgs sIt) (defBody sIt) (defScope sIt) .none kVItm dcItm pmItm anItm cdItm ctItm), slItm⟩)
    (ccItm : codeIn K cdItm "is_item" = true)
    (kfItm : keepIn K (.ref fItm) = true)
    (lWA : K.lookup fWA = some ⟨ocWA, odWA, .func (PySem.W.fnOf "ways_along" "ways_along" (defArgs sWA) (defBody sWA) (defScope sWA) .none kVWA dcWA pmWA anWA cdWA ctWA), slWA⟩)
    (ccWA : codeIn K cdWA "ways_along" = true)
    (kfWA : keepIn K (.ref fWA) = true)
    (lWO : K.lookup fWO = some ⟨ocWO, odWO, .func (PySem.W.fnOf "ways_of" "ways_of" (defArgs sWO) (defBody sWO) (defScope sWO) .none kVWO dcWO pmWO anWO cdWO ctWO), slWO⟩)
    (ccWO : codeIn K cdWO "ways_of" = true)
    (kfWO : keepIn K (.ref fWO) = true)
    (lNum : K.lookup fNum = some ⟨ocNum, odNum, .func (PySem.W.fnOf "_law_numbers" "_law_numbers" (defArgs sNum) (defBody sNum) (defScope sNum) .none kVNum dcNum pmNum anNum cdNum ctNum), slNum⟩)
    (ccNum : codeIn K cdNum "_law_numbers" = true)
    (kfNum : keepIn K (.ref fNum) = true)
    (lPool : K.lookup fPool = some ⟨ocPool, odPool, .func (PySem.W.fnOf "_law_pool" "_law_pool" (defArgs sPool) (defBody sPool) (defScope sPool) .none kVPool dcPool pmPool anPool cdPool ctPool), slPool⟩)
    (ccPool : codeIn K cdPool "_law_pool" = true)
    (kfPool : keepIn K (.ref fPool) = true)
    (lDr : K.lookup fDr = some ⟨ocDr, odDr, .func (PySem.W.fnOf "_law_draw" "_law_draw" (defArgs sDraw) (defBody sDraw) (defScope sDraw) .none kVDr dcDr pmDr anDr cdDr ctDr), slDr⟩)
    (ccDr : codeIn K cdDr "_law_draw" = true)
    (kfDr : keepIn K (.ref fDr) = true)
    (lPk : K.lookup fPk = some ⟨ocPk, odPk, .func (PySem.W.fnOf "_law_pick" "_law_pick" (defArgs sPick) (defBody sPick) (defScope sPick) .none kVPk dcPk pmPk anPk cdPk ctPk), slPk⟩)
    (ccPk : codeIn K cdPk "_law_pick" = true)
    (kfPk : keepIn K (.ref fPk) = true)
    (lTu : K.lookup fTu = some ⟨ocTu, odTu, .func (PySem.W.fnOf "_law_tuples" "_law_tuples" (defArgs sTu) (defBody sTu) (defScope sTu) .none kVTu dcTu pmTu anTu cdTu ctTu), slTu⟩)
    (ccTu : codeIn K cdTu "_law_tuples" = true)
    (kfTu : keepIn K (.ref fTu) = true)
    (lSz : K.lookup fSz = some ⟨ocSz, odSz, .func (PySem.W.fnOf "_law_size" "_law_size" (defArgs sSz) (defBody sSz) (defScope sSz) .none kVSz dcSz pmSz anSz cdSz ctSz), slSz⟩)
    (ccSz : codeIn K cdSz "_law_size" = true)
    (kfSz : keepIn K (.ref fSz) = true)
    (lLF : K.lookup fLF = some ⟨ocLF, odLF, .func (PySem.W.fnOf "_law_flat" "_law_flat" (defArgs sLF) (defBody sLF) (defScope sLF) .none kVLF dcLF pmLF anLF cdLF ctLF), slLF⟩)
    (ccLF : codeIn K cdLF "_law_flat" = true)
    (kfLF : keepIn K (.ref fLF) = true)
    (lTr : K.lookup fTr = some ⟨ocTr, odTr, .func (PySem.W.fnOf "_law_truth" "_law_truth" (defArgs sTruth) (defBody sTruth) (defScope sTruth) .none kVTr dcTr pmTr anTr cdTr ctTr), slTr⟩)
    (ccTr : codeIn K cdTr "_law_truth" = true)
    (kfTr : keepIn K (.ref fTr) = true)
    (lPl : K.lookup fPl = some ⟨ocPl, odPl, .func (PySem.W.fnOf "_law_plain" "_law_plain" (defArgs sPl) (defBody sPl) (defScope sPl) .none kVPl dcPl pmPl anPl cdPl ctPl), slPl⟩)
    (ccPl : codeIn K cdPl "_law_plain" = true)
    (kfPl : keepIn K (.ref fPl) = true)
    (lIr : K.lookup fIr = some ⟨ocIr, odIr, .func (PySem.W.fnOf "_law_inner" "_law_inner" (defArgs sIr) (defBody sIr) (defScope sIr) .none kVIr dcIr pmIr anIr cdIr ctIr), slIr⟩)
    (ccIr : codeIn K cdIr "_law_inner" = true)
    (kfIr : keepIn K (.ref fIr) = true)
    (lSo : K.lookup fSo = some ⟨ocSo, odSo, .func (PySem.W.fnOf "_law_some" "_law_some" (defArgs sSo) (defBody sSo) (defScope sSo) .none kVSo dcSo pmSo anSo cdSo ctSo), slSo⟩)
    (ccSo : codeIn K cdSo "_law_some" = true)
    (kfSo : keepIn K (.ref fSo) = true)
    (lMn : K.lookup fMn = some ⟨ocMn, odMn, .func (PySem.W.fnOf "_law_many" "_law_many" (defArgs sMn) (defBody sMn) (defScope sMn) .none kVMn dcMn pmMn anMn cdMn ctMn), slMn⟩)
    (ccMn : codeIn K cdMn "_law_many" = true)
    (kfMn : keepIn K (.ref fMn) = true)
    (lLNm : K.lookup fLNm = some ⟨ocLNm, odLNm, .func (PySem.W.fnOf "_law_is_name" "_law_is_name" (defArgs sLNm) (defBody sLNm) (defScope sLNm) .none kVLNm dcLNm pmLNm anLNm cdLNm ctLNm), slLNm⟩)
    (ccLNm : codeIn K cdLNm "_law_is_name" = true)
    (kfLNm : keepIn K (.ref fLNm) = true)
    (lIl : K.lookup fIl = some ⟨ocIl, odIl, .func (PySem.W.fnOf "_law_is_inner" "_law_is_inner" (defArgs sIl) (defBody sIl) (defScope sIl) .none kVIl dcIl pmIl anIl cdIl ctIl), slIl⟩)
    (ccIl : codeIn K cdIl "_law_is_inner" = true)
    (kfIl : keepIn K (.ref fIl) = true)
    (lFm : K.lookup fFm = some ⟨ocFm, odFm, .func (PySem.W.fnOf "_law_is_form" "_law_is_form" (defArgs sFm) (defBody sFm) (defScope sFm) .none kVFm dcFm pmFm anFm cdFm ctFm), slFm⟩)
    (ccFm : codeIn K cdFm "_law_is_form" = true)
    (kfFm : keepIn K (.ref fFm) = true)
    (lNb : K.lookup fNb = some ⟨ocNb, odNb, .func (PySem.W.fnOf "_law_numbered" "_law_numbered" (defArgs sNb) (defBody sNb) (defScope sNb) .none kVNb dcNb pmNb anNb cdNb ctNb), slNb⟩)
    (ccNb : codeIn K cdNb "_law_numbered" = true)
    (kfNb : keepIn K (.ref fNb) = true)
    (lTn : K.lookup fTn = some ⟨ocTn, odTn, .func (PySem.W.fnOf "_law_turns" "_law_turns" (defArgs sTn) (defBody sTn) (defScope sTn) .none kVTn dcTn pmTn anTn cdTn ctTn), slTn⟩)
    (ccTn : codeIn K cdTn "_law_turns" = true)
    (kfTn : keepIn K (.ref fTn) = true)
    (lDu : K.lookup fDu = some ⟨ocDu, odDu, .func (PySem.W.fnOf "_law_due" "_law_due" (defArgs sDu) (defBody sDu) (defScope sDu) .none kVDu dcDu pmDu anDu cdDu ctDu), slDu⟩)
    (ccDu : codeIn K cdDu "_law_due" = true)
    (kfDu : keepIn K (.ref fDu) = true)
    (lHd : K.lookup fHd = some ⟨ocHd, odHd, .func (PySem.W.fnOf "_law_heard" "_law_heard" (defArgs sHd) (defBody sHd) (defScope sHd) .none kVHd dcHd pmHd anHd cdHd ctHd), slHd⟩)
    (ccHd : codeIn K cdHd "_law_heard" = true)
    (kfHd : keepIn K (.ref fHd) = true)
    (lSw : K.lookup fSw = some ⟨ocSw, odSw, .func (PySem.W.fnOf "_law_swapped" "_law_swapped" (defArgs sSw) (defBody sSw) (defScope sSw) .none kVSw dcSw pmSw anSw cdSw ctSw), slSw⟩)
    (ccSw : codeIn K cdSw "_law_swapped" = true)
    (kfSw : keepIn K (.ref fSw) = true)
    (lJk : K.lookup fJk = some ⟨ocJk, odJk, .func (PySem.W.fnOf "_law_junk" "_law_junk" (defArgs sJk) (defBody sJk) (defScope sJk) .none kVJk dcJk pmJk anJk cdJk ctJk), slJk⟩)
    (ccJk : codeIn K cdJk "_law_junk" = true)
    (kfJk : keepIn K (.ref fJk) = true)
    (lBt : K.lookup fBt = some ⟨ocBt, odBt, .func (PySem.W.fnOf "_law_bent" "_law_bent" (defArgs sBt) (defBody sBt) (defScope sBt) .none kVBt dcBt pmBt anBt cdBt ctBt), slBt⟩)
    (ccBt : codeIn K cdBt "_law_bent" = true)
    (kfBt : keepIn K (.ref fBt) = true)
    (lL : K.lookup fL = some ⟨ocL, odL, .func (PySem.W.fnOf "law" "law" (defArgs sLaw) (defBody sLaw) (defScope sLaw) .none kVL dcL pmL anL cdL ctL), slL⟩)
    (ccL : codeIn K cdL "law" = true)
    (kfL : keepIn K (.ref fL) = true)
    (lII : K.lookup fI = some ⟨ocII, odII, .func (PySem.W.fnOf "__init__" "InvalidItem.__init__" (defArgs sII) (defBody sII) (defScope sII) .none kVII dcII pmII anII cdII ctII), slII⟩)
    (ccII : codeIn K cdII "InvalidItem.__init__" = true)
    (kfII : keepIn K (.ref fI) = true)
    (lBI : K.lookup fBI = some ⟨ocBI, odBI, .func (PySem.W.fnOf "__init__" "Body.__init__" (defArgs sBI) (defBody sBI) (defScope sBI) .none kVBI dcBI pmBI anBI cdBI ctBI), slBI⟩)
    (ccBI : codeIn K cdBI "Body.__init__" = true)
    (kfBI : keepIn K (.ref fBI) = true)
    (lCo : K.lookup fCo = some ⟨ocCo, odCo, .func (PySem.W.fnOf "code" "Body.code" (defArgs sCo) (defBody sCo) (defScope sCo) .none kVCo dcCo pmCo anCo cdCo ctCo), slCo⟩)
    (ccCo : codeIn K cdCo "Body.code" = true)
    (kfCo : keepIn K (.ref fCo) = true)
    (z_isinstance : nsIn K mainGlobals "isinstance" = some none)
    (z_str : nsIn K mainGlobals "str" = some none)
    (z_len : nsIn K mainGlobals "len" = some none)
    (z_all : nsIn K mainGlobals "all" = some none)
    (z_tuple : nsIn K mainGlobals "tuple" = some none)
    (z_enumerate : nsIn K mainGlobals "enumerate" = some none)
    (z_list : nsIn K mainGlobals "list" = some none)
    (z_max : nsIn K mainGlobals "max" = some none)
    (z_range : nsIn K mainGlobals "range" = some none)
    (z_int : nsIn K mainGlobals "int" = some none)
    (z_repr : nsIn K mainGlobals "repr" = some none)
    (z_sum : nsIn K mainGlobals "sum" = some none)
    (z_bool : nsIn K mainGlobals "bool" = some none)
    : ∃ fd : FuncData, (∀ (s : Shared) (v : Value), BindsTo s fd ⟨[v], []⟩ [("_law_script", v)]) ∧ ∀ base : Heap, K.In base → base.Ns mainGlobals mg → FnOkG P w K mg base CX0 85 fa fd ["_law_script"] (spLaw K) := by
  have e := hfa.symm.trans (PySem.W.mg_of X G aL)
  cases e
  have FName := fun_mk (st := sName) lName ccName kfName
  have FTups := fun_mk (st := sTups) lTups ccTups kfTups
  have FFork := fun_mk (st := sFork) lFork ccFork kfFork
  have FBr := fun_mk (st := sBr) lBr ccBr kfBr
  have FBeh := fun_mk (st := sBeh) lBeh ccBeh kfBeh
  have FFlat := fun_mk (st := sFlat) lFlat ccFlat kfFlat
  have FInn := fun_mk (st := sIn) lInn ccInn kfInn
  have FShp := fun_mk (st := sSh) lShp ccShp kfShp
  have FMis := fun_mk (st := sMis) lMis ccMis kfMis
  have FWr := fun_mk (st := sWr) lWr ccWr kfWr
  have FWL := fun_mk (st := sWL) lWL ccWL kfWL
  have FHl := fun_mk (st := sHl) lHl ccHl kfHl
  have FEach := fun_mk (st := sEach) lEach ccEach kfEach
  have FCB := fun_mk (st := sCB) lCB ccCB kfCB
  have FIBd := fun_mk (st := sIB) lIBd ccIBd kfIBd
  have FItm := fun_mk (st := sIt) lItm ccItm kfItm
  have FWA := fun_mk (st := sWA) lWA ccWA kfWA
  have FWO := fun_mk (st := sWO) lWO ccWO kfWO
  have FNum := fun_mk (st := sNum) lNum ccNum kfNum
  have FPool := fun_mk (st := sPool) lPool ccPool kfPool
  have FDr := fun_mk (st := sDraw) lDr ccDr kfDr
  have FPk := fun_mk (st := sPick) lPk ccPk kfPk
  have FTu := fun_mk (st := sTu) lTu ccTu kfTu
  have FSz := fun_mk (st := sSz) lSz ccSz kfSz
  have FLF := fun_mk (st := sLF) lLF ccLF kfLF
  have FTr := fun_mk (st := sTruth) lTr ccTr kfTr
  have FPl := fun_mk (st := sPl) lPl ccPl kfPl
  have FIr := fun_mk (st := sIr) lIr ccIr kfIr
  have FSo := fun_mk (st := sSo) lSo ccSo kfSo
  have FMn := fun_mk (st := sMn) lMn ccMn kfMn
  have FLNm := fun_mk (st := sLNm) lLNm ccLNm kfLNm
  have FIl := fun_mk (st := sIl) lIl ccIl kfIl
  have FFm := fun_mk (st := sFm) lFm ccFm kfFm
  have FNb := fun_mk (st := sNb) lNb ccNb kfNb
  have FTn := fun_mk (st := sTn) lTn ccTn kfTn
  have FDu := fun_mk (st := sDu) lDu ccDu kfDu
  have FHd := fun_mk (st := sHd) lHd ccHd kfHd
  have FSw := fun_mk (st := sSw) lSw ccSw kfSw
  have FJk := fun_mk (st := sJk) lJk ccJk kfJk
  have FBt := fun_mk (st := sBt) lBt ccBt kfBt
  have FL := fun_mk (st := sLaw) lL ccL kfL
  have FII := fun_mk (st := sII) lII ccII kfII
  have FBI := fun_mk (st := sBI) lBI ccBI kfBI
  have FCo := fun_mk (st := sCo) lCo ccCo kfCo
  have z : ∀ {x : Str}, nsIn K mainGlobals x = some none → mg x = none := fun e => PySem.W.mg_none_of X G e
  have CName : Called K mg "is_name" ["value"] fName _ := ⟨PySem.W.mg_of X G aName, kfName, FName.binds (ps := ["value"]) fun _ _ _ _ _ _ us hl => match us, hl with | [_], _ => rfl⟩
  have CTups : Called K mg "are_tuples" ["values"] fTups _ := ⟨PySem.W.mg_of X G aTups, kfTups, FTups.binds (ps := ["values"]) fun _ _ _ _ _ _ us hl => match us, hl with | [_], _ => rfl⟩
  have CFork : Called K mg "is_fork" ["value"] fFork _ := ⟨PySem.W.mg_of X G aFork, kfFork, FFork.binds (ps := ["value"]) fun _ _ _ _ _ _ us hl => match us, hl with | [_], _ => rfl⟩
  have CBr : Called K mg "branches" ["item"] fBr _ := ⟨PySem.W.mg_of X G aBr, kfBr, FBr.binds (ps := ["item"]) fun _ _ _ _ _ _ us hl => match us, hl with | [_], _ => rfl⟩
  have CBeh : Called K mg "locks_behind" ["item", "held"] fBeh _ := ⟨PySem.W.mg_of X G aBeh, kfBeh, FBeh.binds (ps := ["item", "held"]) fun _ _ _ _ _ _ us hl => match us, hl with | [_, _], _ => rfl⟩
  have CFlat : Called K mg "flat" ["items"] fFlat _ := ⟨PySem.W.mg_of X G aFlat, kfFlat, FFlat.binds (ps := ["items"]) fun _ _ _ _ _ _ us hl => match us, hl with | [_], _ => rfl⟩
  have CInn : Called K mg "is_inner" ["value"] fInn _ := ⟨PySem.W.mg_of X G aInn, kfInn, FInn.binds (ps := ["value"]) fun _ _ _ _ _ _ us hl => match us, hl with | [_], _ => rfl⟩
  have CShp : Called K mg "is_shaped" ["value", "around"] fShp _ := ⟨PySem.W.mg_of X G aShp, kfShp, FShp.binds (ps := ["value", "around"]) fun _ _ _ _ _ _ us hl => match us, hl with | [_, _], _ => rfl⟩
  have CMis : Called K mg "misshapen" ["items", "around"] fMis _ := ⟨PySem.W.mg_of X G aMis, kfMis, FMis.binds (ps := ["items", "around"]) fun _ _ _ _ _ _ us hl => match us, hl with | [_, _], _ => rfl⟩
  have CWr : Called K mg "is_wrong" ["item", "later", "around", "taken"] fWr _ := ⟨PySem.W.mg_of X G aWr, kfWr, FWr.binds (ps := ["item", "later", "around", "taken"]) fun _ _ _ _ _ _ us hl => match us, hl with | [_, _, _, _], _ => rfl⟩
  have CWL : Called K mg "wrong_locks" ["items", "around"] fWL _ := ⟨PySem.W.mg_of X G aWL, kfWL, FWL.binds (ps := ["items", "around"]) fun _ _ _ _ _ _ us hl => match us, hl with | [_, _], _ => rfl⟩
  have CHl : Called K mg "held_along" ["items", "around"] fHl _ := ⟨PySem.W.mg_of X G aHl, kfHl, FHl.binds (ps := ["items", "around"]) fun _ _ _ _ _ _ us hl => match us, hl with | [_, _], _ => rfl⟩
  have CEach : Called K mg "check_each" ["faults"] fEach _ := ⟨PySem.W.mg_of X G aEach, kfEach, FEach.binds (ps := ["faults"]) fun _ _ _ _ _ _ us hl => match us, hl with | [_], _ => rfl⟩
  have CCB : Called K mg "check_body" ["value"] fCB _ := ⟨PySem.W.mg_of X G aCB, kfCB, FCB.binds (ps := ["value"]) fun _ _ _ _ _ _ us hl => match us, hl with | [_], _ => rfl⟩
  have CIBd : Called K mg "is_body" ["value"] fIBd _ := ⟨PySem.W.mg_of X G aIBd, kfIBd, FIBd.binds (ps := ["value"]) fun _ _ _ _ _ _ us hl => match us, hl with | [_], _ => rfl⟩
  have CItm : Called K mg "is_item" ["value"] fItm _ := ⟨PySem.W.mg_of X G aItm, kfItm, FItm.binds (ps := ["value"]) fun _ _ _ _ _ _ us hl => match us, hl with | [_], _ => rfl⟩
  have CWA : Called K mg "ways_along" ["items", "start", "behind"] fWA _ := ⟨PySem.W.mg_of X G aWA, kfWA, FWA.binds (ps := ["items", "start", "behind"]) fun _ _ _ _ _ _ us hl => match us, hl with | [_, _, _], _ => rfl⟩
  have CWO : Called K mg "ways_of" ["item", "place", "follows"] fWO _ := ⟨PySem.W.mg_of X G aWO, kfWO, FWO.binds (ps := ["item", "place", "follows"]) fun _ _ _ _ _ _ us hl => match us, hl with | [_, _, _], _ => rfl⟩
  have CNum : Called K mg "_law_numbers" ["_law_cell", "_law_salt", "_law_sizes"] fNum _ := ⟨PySem.W.mg_of X G aNum, kfNum, FNum.binds (ps := ["_law_cell", "_law_salt", "_law_sizes"]) fun _ _ _ _ _ _ us hl => match us, hl with | [_, _, _], _ => rfl⟩
  have CPool : Called K mg "_law_pool" ["_law_cell", "_law_salt", "_law_many_here"] fPool _ := ⟨PySem.W.mg_of X G aPool, kfPool, FPool.binds (ps := ["_law_cell", "_law_salt", "_law_many_here"]) fun _ _ _ _ _ _ us hl => match us, hl with | [_, _, _], _ => rfl⟩
  have CDr : Called K mg "_law_draw" ["_law_pool_here", "_law_many_here"] fDr _ := ⟨PySem.W.mg_of X G aDr, kfDr, FDr.binds (ps := ["_law_pool_here", "_law_many_here"]) fun _ _ _ _ _ _ us hl => match us, hl with | [_, _], _ => rfl⟩
  have CPk : Called K mg "_law_pick" ["_law_pool_here", "_law_some_here"] fPk _ := ⟨PySem.W.mg_of X G aPk, kfPk, FPk.binds (ps := ["_law_pool_here", "_law_some_here"]) fun _ _ _ _ _ _ us hl => match us, hl with | [_, _], _ => rfl⟩
  have CTu : Called K mg "_law_tuples" ["_law_item"] fTu _ := ⟨PySem.W.mg_of X G aTu, kfTu, FTu.binds (ps := ["_law_item"]) fun _ _ _ _ _ _ us hl => match us, hl with | [_], _ => rfl⟩
  have CSz : Called K mg "_law_size" ["_law_items"] fSz _ := ⟨PySem.W.mg_of X G aSz, kfSz, FSz.binds (ps := ["_law_items"]) fun _ _ _ _ _ _ us hl => match us, hl with | [_], _ => rfl⟩
  have CLF : Called K mg "_law_flat" ["_law_items", "_law_start", "_law_follow", "_law_held"] fLF _ := ⟨PySem.W.mg_of X G aLF, kfLF, FLF.binds (ps := ["_law_items", "_law_start", "_law_follow", "_law_held"]) fun _ _ _ _ _ _ us hl => match us, hl with | [_, _, _, _], _ => rfl⟩
  have CTr : Called K mg "_law_truth" ["_law_found", "_law_due_here"] fTr _ := ⟨PySem.W.mg_of X G aTr, kfTr, FTr.binds (ps := ["_law_found", "_law_due_here"]) fun _ _ _ _ _ _ us hl => match us, hl with | [_, _], _ => rfl⟩
  have CPl : Called K mg "_law_plain" ["_law_pool_here", "_law_names"] fPl _ := ⟨PySem.W.mg_of X G aPl, kfPl, FPl.binds (ps := ["_law_pool_here", "_law_names"]) fun _ _ _ _ _ _ us hl => match us, hl with | [_, _], _ => rfl⟩
  have CIr : Called K mg "_law_inner" ["_law_pool_here", "_law_names"] fIr _ := ⟨PySem.W.mg_of X G aIr, kfIr, FIr.binds (ps := ["_law_pool_here", "_law_names"]) fun _ _ _ _ _ _ us hl => match us, hl with | [_, _], _ => rfl⟩
  have CSo : Called K mg "_law_some" ["_law_pool_here", "_law_names", "_law_deep", "_law_room", "_law_held"] fSo _ := ⟨PySem.W.mg_of X G aSo, kfSo, FSo.binds (ps := ["_law_pool_here", "_law_names", "_law_deep", "_law_room", "_law_held"]) fun _ _ _ _ _ _ us hl => match us, hl with | [_, _, _, _, _], _ => rfl⟩
  have CMn : Called K mg "_law_many" ["_law_pool_here", "_law_names", "_law_deep", "_law_room", "_law_held"] fMn _ := ⟨PySem.W.mg_of X G aMn, kfMn, FMn.binds (ps := ["_law_pool_here", "_law_names", "_law_deep", "_law_room", "_law_held"]) fun _ _ _ _ _ _ us hl => match us, hl with | [_, _, _, _, _], _ => rfl⟩
  have CLNm : Called K mg "_law_is_name" ["_law_thing"] fLNm _ := ⟨PySem.W.mg_of X G aLNm, kfLNm, FLNm.binds (ps := ["_law_thing"]) fun _ _ _ _ _ _ us hl => match us, hl with | [_], _ => rfl⟩
  have CIl : Called K mg "_law_is_inner" ["_law_thing", "_law_deep"] fIl _ := ⟨PySem.W.mg_of X G aIl, kfIl, FIl.binds (ps := ["_law_thing", "_law_deep"]) fun _ _ _ _ _ _ us hl => match us, hl with | [_, _], _ => rfl⟩
  have CFm : Called K mg "_law_is_form" ["_law_thing", "_law_deep"] fFm _ := ⟨PySem.W.mg_of X G aFm, kfFm, FFm.binds (ps := ["_law_thing", "_law_deep"]) fun _ _ _ _ _ _ us hl => match us, hl with | [_, _], _ => rfl⟩
  have CNb : Called K mg "_law_numbered" ["_law_items", "_law_deep"] fNb _ := ⟨PySem.W.mg_of X G aNb, kfNb, FNb.binds (ps := ["_law_items", "_law_deep"]) fun _ _ _ _ _ _ us hl => match us, hl with | [_, _], _ => rfl⟩
  have CTn : Called K mg "_law_turns" ["_law_items", "_law_held"] fTn _ := ⟨PySem.W.mg_of X G aTn, kfTn, FTn.binds (ps := ["_law_items", "_law_held"]) fun _ _ _ _ _ _ us hl => match us, hl with | [_, _], _ => rfl⟩
  have CDu : Called K mg "_law_due" ["_law_items"] fDu _ := ⟨PySem.W.mg_of X G aDu, kfDu, FDu.binds (ps := ["_law_items"]) fun _ _ _ _ _ _ us hl => match us, hl with | [_], _ => rfl⟩
  have CHd : Called K mg "_law_heard" ["_law_items"] fHd _ := ⟨PySem.W.mg_of X G aHd, kfHd, FHd.binds (ps := ["_law_items"]) fun _ _ _ _ _ _ us hl => match us, hl with | [_], _ => rfl⟩
  have CSw : Called K mg "_law_swapped" ["_law_items", "_law_at", "_law_more"] fSw _ := ⟨PySem.W.mg_of X G aSw, kfSw, FSw.binds (ps := ["_law_items", "_law_at", "_law_more"]) fun _ _ _ _ _ _ us hl => match us, hl with | [_, _, _], _ => rfl⟩
  have CJk : Called K mg "_law_junk" ["_law_pool_here", "_law_names"] fJk _ := ⟨PySem.W.mg_of X G aJk, kfJk, FJk.binds (ps := ["_law_pool_here", "_law_names"]) fun _ _ _ _ _ _ us hl => match us, hl with | [_, _], _ => rfl⟩
  have CBt : Called K mg "_law_bent" ["_law_pool_here", "_law_names", "_law_items"] fBt _ := ⟨PySem.W.mg_of X G aBt, kfBt, FBt.binds (ps := ["_law_pool_here", "_law_names", "_law_items"]) fun _ _ _ _ _ _ us hl => match us, hl with | [_, _, _], _ => rfl⟩
  have bII := FII.binds (ps := ["self", "place"]) fun _ _ _ _ _ _ us hl => match us, hl with | [_, _], _ => rfl
  have bBI := FBI.binds (ps := ["self", "items"]) fun _ _ _ _ _ _ us hl => match us, hl with | [_, _], _ => rfl
  have bCo := FCo.binds (ps := ["self"]) fun _ _ _ _ _ _ us hl => match us, hl with | [_], _ => rfl
  have oI : OexG K cI fI := ⟨⟨_, _, _, _, PySem.F.excBase_Exception, PySem.F.store_Exception, _, _, _, _, _, _, _, _, _, _, _, _, _, _, _, xI, by rfl⟩, saI, gaI, ggI, eCI, tCI, kCI, hCI, iI, tI, haI, hn, ht, hmI⟩
  have te := kit_of_B kb
  have B : BodyC K mg cB fBI pC fCo := ⟨PySem.W.mg_of X G aB, ⟨pgB, hdB, poB, saB⟩, n_code, n_listed, n_ways, n_held, ⟨mkB, aBI, iBI, kCB⟩, ⟨pAt, pGet, pTak, ⟨_, pRec⟩⟩⟩
  have hP : ∀ H : Hp, SqT K H aPW (plain6.map V.str) := fun H => .inr ⟨_, _, _, lPW, rfl, rfl, by show 6 ≤ sizeLine; decide, .cons ⟨_, rfl⟩ (.cons ⟨_, rfl⟩ (.cons ⟨_, rfl⟩ (.cons ⟨_, rfl⟩ (.cons ⟨_, rfl⟩ (.cons ⟨_, rfl⟩ .nil)))))⟩
  have hI : ∀ H : Hp, SqT K H aIW (inner3.map V.str) := fun H => .inr ⟨_, _, _, lIW, rfl, rfl, by show 3 ≤ sizeLine; decide, .cons ⟨_, rfl⟩ (.cons ⟨_, rfl⟩ (.cons ⟨_, rfl⟩ .nil))⟩
  refine ⟨PySem.W.fnOf "law" "law" (defArgs sLaw) (defBody sLaw) (defScope sLaw) .none kVL dcL pmL anL cdL ctL, fun s v => .of_eq rfl, fun base _ _ => ?_⟩
  have T : Er P w K mg base "InvalidItem" "place" cI fI _ := ⟨PySem.W.mg_of X G aI, oI, nI, ok_II FII, bII⟩
  have gName := ok_name (P := P) (w := w) (base := base) FName (z z_isinstance) (z z_str) (z z_len) (z z_all) (PySem.W.mg_of X G gML)
  have gTups := ok_tups (P := P) (w := w) (base := base) FTups (z z_isinstance) (z z_tuple) (z z_all)
  have gFork := ok_fork FFork gName CName gTups CTups (z z_len)
  have gBr := ok_br (P := P) (w := w) (mg := mg) (base := base) FBr
  have gBeh := ok_beh (P := P) (w := w) (mg := mg) (base := base) FBeh
  have gFlat := ok_flat FFlat CFlat gBr CBr
  have gShapes := ok_shapes FInn FShp FMis CInn CShp CMis CFlat CName CFork CBr gFlat gName gFork gBr (z z_isinstance) (z z_tuple) (z z_all) (z z_len) (z z_str) (PySem.W.mg_of X G gIW) hI (PySem.W.mg_of X G gMN) (PySem.W.mg_of X G gPW) hP (PySem.W.mg_of X G gMW) 38
  have gWr := ok_wr (P := P) (w := w) (mg := mg) (base := base) FWr
  have gWL := ok_wlk FWL CWL gBr CBr gBeh CBeh gWr CWr (z z_enumerate) 38 (by decide)
  have gHl := ok_hl FHl CHl gBr CBr gBeh CBeh 38
  have gEach := ok_each FEach T (z z_enumerate)
  have gCB := ok_cb FCB 38 (by decide) T gShapes.2.2 CMis (gFlat 38) CFlat gWL CWL gEach CEach (z z_isinstance) (z z_tuple) (z z_len) (PySem.W.mg_of X G gMI)
  have gCBd := ok_cbd FCB 38 T gShapes.2.2 CMis (gFlat 38) CFlat gWL CWL gEach CEach (z z_isinstance) (z z_tuple) (z z_len) (PySem.W.mg_of X G gMI)
  have gCBO := cbo_of gCB gCBd
  have gIB := ok_ibo FIBd 38 T te gCBO CCB
  have gIt := ok_it FItm 38 gShapes.2.2 CMis
  have gWays := ok_ways FWA FWO CWA CWO CFlat CBr gFlat gBr (z z_enumerate) (z z_len) 38
  have gBI := ok_BI FBI B 38 gCBO CCB (gFlat 38) CFlat gWays.2 CWA gHl CHl (z z_len)
  have gCo := ok_Co (P := P) (w := w) (mg := mg) (base := base) FCo B.cl B.nC
  have gHd := ok_hd FHd B T te 38 (by decide) gBI bBI gCo bCo (z z_repr)
  have gTu := ok_tu (P := P) (w := w) (mg := mg) (base := base) FTu
  have gSz := ok_sz FSz CSz gTu CTu (z z_sum)
  have gLF := ok_lf FLF CLF gTu CTu CSz (fun n => (gSz n).1) (z z_enumerate) (z z_len)
  have gLNm := ok_lnm (P := P) (w := w) (base := base) FLNm (z z_isinstance) (z z_str) (z z_len)
  have gForms := ok_forms FFm FIl FNb CFm CIl CNb CLNm CTu gLNm gTu (z z_isinstance) (z z_tuple) (z z_str) (z z_len) 38 (by decide)
  have gTn := ok_tn FTn CTn gTu CTu (z z_enumerate) 38 (by decide)
  have gDu := ok_du FDu CNb CFm CTn 38 (by decide) gForms.2.2 gForms.1 gTn (z z_isinstance) (z z_tuple) (z z_len) (z z_enumerate) (z z_repr)
  have gNum := ok_num (P := P) (w := w) (base := base) (k := 0) FNum (z z_max) (z z_range) (z z_len)
  have gPool := ok_pool FPool gNum CNum
  have gDr := ok_draw (P := P) (w := w) (base := base) FDr (z z_len) (z z_int)
  have gPk := ok_pick FPk gDr CDr (z z_len)
  have gTr := ok_truth (P := P) (w := w) (base := base) FTr (z z_isinstance) (z z_bool)
  have gPl := ok_pl FPl gPk CPk
  have gIr := ok_ir FIr gPk CPk gDr CDr
  have gMn := ok_drawn FMn FSo CMn CSo gPk CPk gDr CDr (gSz 16).1 (gSz 16).2 CSz gIr CIr gPl CPl (z z_list) (z z_range) (z z_tuple) 9 (by decide)
  have gSw := ok_sw FSw CSw gTu CTu CSz (fun n => (gSz n).1) (z z_tuple) (z z_len)
  have gJk := ok_jk FJk gPk CPk
  have gBt := ok_bt FBt gJk CJk gDr CDr (gSz 16).1 CSz (gLF 16 (by decide)) CLF (gSw 16 (by decide)) CSw
  exact ok_law FL gPool CPool gDr CDr gMn CMn gPl CPl gBt CBt gDu CDu gHd CHd gTr CTr gIB CIBd gIt CItm gForms.2.2 CNb gForms.1 CFm (z z_enumerate) (z z_int) (z z_range)
theorem walk {l : PySem.W.OpenLaw} {q : Program} {loose : List Str} {XP : (Str → Option Value) → Heap → Prop} {YP : World → Heap → Prop} {d : DefRec} {K : Params → PySem.W.Frag} (hn : l.most = some 63) (hdf : d.params.defaults = [])
    (hY : ∀ (w : World) (h : Heap), YP w h → (K w.params).In h)
    (F : ∀ (w : World) (mg : Str → Option Value) (fa : Addr) (h : Heap), (K w.params).In h → h.Ns mainGlobals mg → mg d.name = some (.ref fa) →
      ∃ fd : FuncData, (∀ (s : Shared) (u : Value), BindsTo s fd ⟨[u], []⟩ [("_law_script", u)]) ∧ ∀ base : Heap, (K w.params).In base → base.Ns mainGlobals mg → FnOkG l.prog w (K w.params) mg base CX0 85 fa fd ["_law_script"] (spLaw (K w.params))) :
    PySem.W.WalkO q loose XP YP l.row.toRowW d [] (fun f vs => PySem.call f vs) :=
  L2.walk_ofG (n := 63) (k := 85) (x := "_law_script") (CX := fun _ => CX0) (sp := fun w => spLaw (K w.params)) hn (by decide) hdf ⟨rfl, by decide, by decide⟩ hY F (fun _ _ a ns hl _ hS => ⟨a, ns, rfl, hS, hl, fun _ => rfl⟩) fun _ _ _ _ _ z => z
end Tr

/-! P26 -/
open PySem PySem.W PyProof.Rows
set_option maxRecDepth 100000 in
set_option maxHeartbeats 0 in
theorem PySem.Challenge.cw_takendown_k03_whole_bodies_judged_holds : PySem.Challenge.rw_takendown_k03_whole_bodies_judged.Holds := by
  w_on; o_law; k_head; (case hw => w_witness2)
  k_fill
  refine Tr.walk (l := PySem.Challenge.rw_takendown_k03_whole_bodies_judged) rfl rfl (fun w h Y => PySem.W.kIn_of Y) ?F
  case F =>
    intro w mg fa h KX G hmg
    refine' Tr.all_mk KX G hmg ?aI ?xI ?saI ?gaI ?ggI ?nI ?iI ?tI ?kCI ?eCI ?tCI ?hCI ?haI ?hmI ?hn ?ht ?kb ?aB ?pgB ?hdB ?poB ?saB ?n_code ?n_listed ?n_ways ?n_held ?mkB ?kCB ?pAt ?pGet ?pTak ?pRec ?gPW ?lPW ?gIW ?lIW ?gML ?gMI ?gMN ?gMW ?aName ?aTups ?aFork ?aBr ?aBeh ?aFlat ?aInn ?aShp ?aMis ?aWr ?aWL ?aHl ?aEach ?aCB ?aIBd ?aItm ?aWA ?aWO ?aNum ?aPool ?aDr ?aPk ?aTu ?aSz ?aLF ?aTr ?aPl ?aIr ?aSo ?aMn ?aLNm ?aIl ?aFm ?aNb ?aTn ?aDu ?aHd ?aSw ?aJk ?aBt ?aL ?aBI ?iBI ?lName ?ccName ?kfName ?lTups ?ccTups ?kfTups ?lFork ?ccFork ?kfFork ?lBr ?ccBr ?kfBr ?lBeh ?ccBeh ?kfBeh ?lFlat ?ccFlat ?kfFlat ?lInn ?ccInn ?kfInn ?lShp ?ccShp ?kfShp ?lMis ?ccMis ?kfMis ?lWr ?ccWr ?kfWr ?lWL ?ccWL ?kfWL ?lHl ?ccHl ?kfHl ?lEach ?ccEach ?kfEach ?lCB ?ccCB ?kfCB ?lIBd ?ccIBd ?kfIBd ?lItm ?ccItm ?kfItm ?lWA ?ccWA ?kfWA ?lWO ?ccWO ?kfWO ?lNum ?ccNum ?kfNum ?lPool ?ccPool ?kfPool ?lDr ?ccDr ?kfDr ?lPk ?ccPk ?kfPk ?lTu ?ccTu ?kfTu ?lSz ?ccSz ?kfSz ?lLF ?ccLF ?kfLF ?lTr ?ccTr ?kfTr ?lPl ?ccPl ?kfPl ?lIr ?ccIr ?kfIr ?lSo ?ccSo ?kfSo ?lMn ?ccMn ?kfMn ?lLNm ?ccLNm ?kfLNm ?lIl ?ccIl ?kfIl ?lFm ?ccFm ?kfFm ?lNb ?ccNb ?kfNb ?lTn ?ccTn ?kfTn ?lDu ?ccDu ?kfDu ?lHd ?ccHd ?kfHd ?lSw ?ccSw ?kfSw ?lJk ?ccJk ?kfJk ?lBt ?ccBt ?kfBt ?lL ?ccL ?kfL ?lII ?ccII ?kfII ?lBI ?ccBI ?kfBI ?lCo ?ccCo ?kfCo ?z_isinstance ?z_str ?z_len ?z_all ?z_tuple ?z_enumerate ?z_list ?z_max ?z_range ?z_int ?z_repr ?z_sum ?z_bool
    (case aI => k_is)
    (case xI => k_is)
    (case saI => k_is)
    (case gaI => k_is)
    (case ggI => k_is)
    (case nI => k_is)
    (case iI => k_is)
    (case tI => k_is)
    (case kCI => k_is)
    (case eCI => k_is)
    (case tCI => k_is)
    (case hCI => k_is)
    (case haI => k_is)
    (case hmI => k_is)
    (case hn => k_is)
    (case ht => k_is)
    (case kb => kernel_rfl)
    (case aB => k_is)
    (case pgB => k_is)
    (case hdB => k_is)
    (case poB => k_is)
    (case saB => k_is)
    (case n_code => k_is)
    (case n_listed => k_is)
    (case n_ways => k_is)
    (case n_held => k_is)
    (case mkB => k_is)
    (case kCB => k_is)
    (case pAt => k_is)
    (case pGet => k_is)
    (case pTak => k_is)
    (case pRec => k_is)
    (case gPW => k_is)
    (case lPW => k_is)
    (case gIW => k_is)
    (case lIW => k_is)
    (case gML => k_is)
    (case gMI => k_is)
    (case gMN => k_is)
    (case gMW => k_is)
    (case aName => k_is)
    (case aTups => k_is)
    (case aFork => k_is)
    (case aBr => k_is)
    (case aBeh => k_is)
    (case aFlat => k_is)
    (case aInn => k_is)
    (case aShp => k_is)
    (case aMis => k_is)
    (case aWr => k_is)
    (case aWL => k_is)
    (case aHl => k_is)
    (case aEach => k_is)
    (case aCB => k_is)
    (case aIBd => k_is)
    (case aItm => k_is)
    (case aWA => k_is)
    (case aWO => k_is)
    (case aNum => k_is)
    (case aPool => k_is)
    (case aDr => k_is)
    (case aPk => k_is)
    (case aTu => k_is)
    (case aSz => k_is)
    (case aLF => k_is)
    (case aTr => k_is)
    (case aPl => k_is)
    (case aIr => k_is)
    (case aSo => k_is)
    (case aMn => k_is)
    (case aLNm => k_is)
    (case aIl => k_is)
    (case aFm => k_is)
    (case aNb => k_is)
    (case aTn => k_is)
    (case aDu => k_is)
    (case aHd => k_is)
    (case aSw => k_is)
    (case aJk => k_is)
    (case aBt => k_is)
    (case aL => k_is)
    (case aBI => k_is)
    (case iBI => k_is)
    (case lName => k_is)
    (case ccName => k_is)
    (case kfName => k_is)
    (case lTups => k_is)
    (case ccTups => k_is)
    (case kfTups => k_is)
    (case lFork => k_is)
    (case ccFork => k_is)
    (case kfFork => k_is)
    (case lBr => k_is)
    (case ccBr => k_is)
    (case kfBr => k_is)
    (case lBeh => k_is)
    (case ccBeh => k_is)
    (case kfBeh => k_is)
    (case lFlat => k_is)
    (case ccFlat => k_is)
    (case kfFlat => k_is)
    (case lInn => k_is)
    (case ccInn => k_is)
    (case kfInn => k_is)
    (case lShp => k_is)
    (case ccShp => k_is)
    (case kfShp => k_is)
    (case lMis => k_is)
    (case ccMis => k_is)
    (case kfMis => k_is)
    (case lWr => k_is)
    (case ccWr => k_is)
    (case kfWr => k_is)
    (case lWL => k_is)
    (case ccWL => k_is)
    (case kfWL => k_is)
    (case lHl => k_is)
    (case ccHl => k_is)
    (case kfHl => k_is)
    (case lEach => k_is)
    (case ccEach => k_is)
    (case kfEach => k_is)
    (case lCB => k_is)
    (case ccCB => k_is)
    (case kfCB => k_is)
    (case lIBd => k_is)
    (case ccIBd => k_is)
    (case kfIBd => k_is)
    (case lItm => k_is)
    (case ccItm => k_is)
    (case kfItm => k_is)
    (case lWA => k_is)
    (case ccWA => k_is)
    (case kfWA => k_is)
    (case lWO => k_is)
    (case ccWO => k_is)
    (case kfWO => k_is)
    (case lNum => k_is)
    (case ccNum => k_is)
    (case kfNum => k_is)
    (case lPool => k_is)
    (case ccPool => k_is)
    (case kfPool => k_is)
    (case lDr => k_is)
    (case ccDr => k_is)
    (case kfDr => k_is)
    (case lPk => k_is)
    (case ccPk => k_is)
    (case kfPk => k_is)
    (case lTu => k_is)
    (case ccTu => k_is)
    (case kfTu => k_is)
    (case lSz => k_is)
    (case ccSz => k_is)
    (case kfSz => k_is)
    (case lLF => k_is)
    (case ccLF => k_is)
    (case kfLF => k_is)
    (case lTr => k_is)
    (case ccTr => k_is)
    (case kfTr => k_is)
    (case lPl => k_is)
    (case ccPl => k_is)
    (case kfPl => k_is)
    (case lIr => k_is)
    (case ccIr => k_is)
    (case kfIr => k_is)
    (case lSo => k_is)
    (case ccSo => k_is)
    (case kfSo => k_is)
    (case lMn => k_is)
    (case ccMn => k_is)
    (case kfMn => k_is)
    (case lLNm => k_is)
    (case ccLNm => k_is)
    (case kfLNm => k_is)
    (case lIl => k_is)
    (case ccIl => k_is)
    (case kfIl => k_is)
    (case lFm => k_is)
    (case ccFm => k_is)
    (case kfFm => k_is)
    (case lNb => k_is)
    (case ccNb => k_is)
    (case kfNb => k_is)
    (case lTn => k_is)
    (case ccTn => k_is)
    (case kfTn => k_is)
    (case lDu => k_is)
    (case ccDu => k_is)
    (case kfDu => k_is)
    (case lHd => k_is)
    (case ccHd => k_is)
    (case kfHd => k_is)
    (case lSw => k_is)
    (case ccSw => k_is)
    (case kfSw => k_is)
    (case lJk => k_is)
    (case ccJk => k_is)
    (case kfJk => k_is)
    (case lBt => k_is)
    (case ccBt => k_is)
    (case kfBt => k_is)
    (case lL => k_is)
    (case ccL => k_is)
    (case kfL => k_is)
    (case lII => k_is)
    (case ccII => k_is)
    (case kfII => k_is)
    (case lBI => k_is)
    (case ccBI => k_is)
    (case kfBI => k_is)
    (case lCo => k_is)
    (case ccCo => k_is)
    (case kfCo => k_is)
    (case z_isinstance => k_is)
    (case z_str => k_is)
    (case z_len => k_is)
    (case z_all => k_is)
    (case z_tuple => k_is)
    (case z_enumerate => k_is)
    (case z_list => k_is)
    (case z_max => k_is)
    (case z_range => k_is)
    (case z_int => k_is)
    (case z_repr => k_is)
    (case z_sum => k_is)
    (case z_bool => k_is)
