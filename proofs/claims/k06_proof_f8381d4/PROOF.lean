import PyProof.Rows.All
import Wide.All
import OpenK.AllK
import Wide.FinOn
import PyProof.Rows.NestShow
import HandS.ForMost
import HandS.ForExc
import HandS.Ends
import HandS.ExcInit
import HandS.ExcIs
import HandS.IsInst
import HandS.ExcField
import HandS.MakeKw
import HandS.MakeKwOnly
import KE.KExcInit
import KE.KExcIs
import KE.KOpsOwn
import HandS.Wide
import HandS.Flow
import HandS.Star
import HandS.ClsMeth
import HandS.Deep
import HandS.OwnEq
import HandS.TupAny
import HandS.More
import HandS.WrittenGet
import KE.GoesMore
import KE.GoesEnum
import KE.KRevSl
import HandS.SetTxt0
import HandS.Set
import HandS.SetBool
import PyProof.StrOps2
import HandS.Style
import HandS.TupMul
import HandS.Property
import KE.KSuper
import HandS.Nested
import PyProof.SeqInW
import PyProof.InstNe
import PySem.Challenge.RW_takendown_k06_threads_made_or_refused
set_option Elab.async false
set_option linter.all false
set_option maxRecDepth 100000
set_option maxHeartbeats 400000
/-! E1 -/
/-! ### own error classes with an __init__ of their own, over any built-in base; made by position and by keywords -/
namespace PySem
namespace LwX
open PySem.HandSPX Builtin Builtin.ObjectAttr
section
variable {M : Model} {A : Around} {E : Value → Shared → Prop} {h : Heap} {g : Array GenState} {d : Drawn} {t : Nat} {os : OsState}
variable {nm q : Str} {C N : Addr} {bs bm bmB : List Value} {hdct : Bool} {sn : List Str} {sub : List Value} {ab : Bool} {col : Option Bool} {dd : Option Addr} {k0 k1 k2 k3 k5 : Option Value} {B newId initId : String}
theorem check_new_kw (F : ExcBaseFacts B newId initId bmB) (hT : ∀ X : String, bm.contains (.type X) = bmB.contains (.type X)) {rest : List Value} {kw : List (Str × Value)} {Q : Unit → Shared → Prop}
    (hC : h.get? C = some (excClassObj nm q C N bs bm hdct sn sub ab col dd k0 k1 k2 k3 k5 newId)) (hq : Q () ⟨h, g, d, t, os⟩) : wpAny M A (checkBuiltinCall newId ⟨.ref C :: rest, kw⟩) Q E ⟨h, g, d, t, os⟩ := by
  have hcont : (Value.ref C :: bm).contains (.type B) = true := by rw [List.contains_cons, hT, F.hasB, Bool.or_true]
  have hstar := F.noStar
  simp only [checkBuiltinCall, F.newKind, F.newSplit, F.newRow]
  repeat (first | refine wpAny_loadPart_at hC ?_ | (refine wpAny_isSubtype_exc hC ?_; rw [hcont]) | refine wpAny_staticBase_exc hC ?_ | refine wpAny_madeBy_exc hC ?_ | simp only [bne_self_eq_false, Bool.false_eq_true, if_false] | wp_step)
  exact hq
end
section
variable {prog : Program} {w : World} {A : Around} {E : Value → Shared → Prop} {R : Result → Shared → Prop} {h : Heap} {g : Array GenState} {d : Drawn} {t : Nat} {os : OsState}
variable {nm q : Str} {C N : Addr} {bs bm bmB : List Value} {hdct : Bool} {sn : List Str} {sub : List Value} {ab : Bool} {col : Option Bool} {dd : Option Addr} {k0 k1 k2 k3 k5 : Option Value} {B newId initId : String}
theorem new_kw (F : ExcBaseFacts B newId initId bmB) (hT : ∀ X : String, bm.contains (.type X) = bmB.contains (.type X)) {rest : List Value} {kw : List (Str × Value)}
    (hC : h.get? C = some (excClassObj nm q C N bs bm hdct sn sub ab col dd k0 k1 k2 k3 k5 newId))
    (hq : R (.ok (.ret (.ref (h.objs.size + 1)))) ⟨(h.push { cls := .type "tuple", data := .seq rest.toArray }).push
      { cls := .ref C, data := .fields #[.ref h.objs.size, .none, .none, .none, .bool false, .none] }, g, d, t, os⟩) (hrest : rest.length ≤ sizeLine) :
    codeAny (model prog w) A (.builtin newId ⟨.ref C :: rest, kw⟩) R ⟨h, g, d, t, os⟩ := by
  have hends := F.ends
  have hcB : (Value.ref C :: bm).contains (.type B) = true := by rw [List.contains_cons, hT, F.hasB, Bool.or_true]
  have hcA : (Value.ref C :: bm).contains (.type "AttributeError") = false := by rw [List.contains_cons, hT, F.noAttr]; rfl
  have hcN : (Value.ref C :: bm).contains (.type "NameError") = false := by rw [List.contains_cons, hT, F.noName]; rfl
  refine codeAny_builtinAt F.entry ?_
  unfold Builtin.«BaseException.__new__»
  refine wpAt_bind ?_
  show wpAt _ _ _ (stack >>= _) _ _ _
  refine wpAt_bind (wpAt_stack fun p below => wpAt_of_wpAny ?_)
  wp_walk
  refine wpAt_of_wpAny ?_
  rw [F.owner]
  repeat (first | with_reducible refine wpAny_madeHere_exc F.canon hC ?_ | with_reducible refine wpAny_loadPart_at hC ?_ | (with_reducible refine wpAny_isSubtype_exc hC ?_; first | rw [hcB] | rw [hcA] | rw [hcN]) | wp_step)
  show R _ _
  rw [Heap.size_push]
  exact hq
theorem type_call_kw (F : ExcBaseFacts B newId initId bmB) (hT : ∀ X : String, bm.contains (.type X) = bmB.contains (.type X)) {rest : List Value} {kw : List (Str × Value)} {fI : Addr} {Q : Fin → Shared → Prop}
    (hC : h.get? C = some (excClassObj nm q C N bs bm hdct sn sub ab col dd k0 k1 k2 k3 k5 newId))
    (hi : W.Looks (model prog w) h (typeLookup (.ref C) "__init__") (some (.ref fI))) (hb : ∀ self, W.Looks (model prog w) h (bindSpecial (.ref fI) self) (.ref fI, [self])) (hrest : rest.length ≤ sizeLine)
    (hq : codeAny (model prog w) A (.call (.ref fI) ⟨.ref (h.objs.size + 1) :: rest, kw⟩)
      (fun r s' => match r with | .ok (.ret v) => v = .none ∧ Q (.done (.ret (.ref (h.objs.size + 1)))) s' | .ok _ => False | .error e => E e s')
      ⟨(h.push (W.kdv_tup rest)).push (excO C h.objs.size), g, d, t, os⟩) :
    wpAny (model prog w) A (Builtin.«type.__call__» ⟨.ref C :: rest, kw⟩) Q E ⟨h, g, d, t, os⟩ := by
  repeat (first | with_reducible refine wpAny_loadPart_at hC ?_ | with_reducible refine wpAny_madeBy_exc hC ?_ | wp_step)
  refine codeAny_call_builtin_code (Code.quiet_builtin _ F.quiet) (check_new_kw F hT hC ?_)
  refine new_kw F hT hC ?_ hrest
  show wpAny _ _ _ _ _ _
  have k : ∀ b o, h.get? b = some o → ((h.push (W.kdv_tup rest)).push (excO C h.objs.size)).get? b = some o := fun b o e => Heap.get?_push_of_some _ (Heap.get?_push_of_some _ e)
  have hC₁ := k _ _ hC
  have hget : ((h.push (W.kdv_tup rest)).push (excO C h.objs.size)).get? (h.objs.size + 1) = some (excO C h.objs.size) := by heap_get
  have hcC : (Value.ref C :: bm).contains (.ref C) = true := by simp
  have i1 := hi.keeps k
  have b1 := (hb (.ref (h.objs.size + 1))).keeps k
  unfold isInstance
  repeat (first | with_reducible refine wpAny_loadPart_at hget ?_ | (with_reducible refine wpAny_isSubtype_exc hC₁ ?_; rw [hcC]) | wp_step)
  show wpAny _ _ (typeLookup (.ref C) _) _ _ _
  refine i1.at ?_
  refine wpAny_holding (wpAny_bind (b1.at ?_))
  refine wpAny_bind (wpAny_call (codeAny_mono hq fun r s' z => ?_))
  rcases r with e | (v | _ | _ | _) <;> first | exact z | exact z.elim | skip
  obtain ⟨rfl, z⟩ := z
  first
    | exact wpAny_pure (wpAny_pure z)
    | (wp_walk; exact z)
theorem check_type_call_kw {M : Model} {rest : List Value} {kw : List (Str × Value)} {Q : Unit → Shared → Prop} (hC : h.get? C = some (excClassObj nm q C N bs bm hdct sn sub ab col dd k0 k1 k2 k3 k5 newId)) (hq : Q () ⟨h, g, d, t, os⟩) :
    wpAny M A (checkBuiltinCall "type.__call__" ⟨.ref C :: rest, kw⟩) Q E ⟨h, g, d, t, os⟩ := by
  have f3 := tc_sub
  have hT : (⟨h, g, d, t, os⟩ : Shared).TypeIs (.ref C) "type" := ⟨_, hC, rfl⟩
  simp only [checkBuiltinCall, tc_kind, tc_split]
  repeat (any_goals (first | assumption | with_reducible refine wpAny_loadPart_at hC ?_ | with_reducible refine wpAny_onRaise ?_ | with_reducible refine wpAny_map ?_ | wp_step))
theorem call_kw (F : ExcBaseFacts B newId initId bmB) (hT : ∀ X : String, bm.contains (.type X) = bmB.contains (.type X)) {rest : List Value} {kw : List (Str × Value)} {fI : Addr}
    (hC : h.get? C = some (excClassObj nm q C N bs bm hdct sn sub ab col dd k0 k1 k2 k3 k5 newId))
    (hi : W.Looks (model prog w) h (typeLookup (.ref C) "__init__") (some (.ref fI))) (hb : ∀ self, W.Looks (model prog w) h (bindSpecial (.ref fI) self) (.ref fI, [self])) (hrest : rest.length ≤ sizeLine)
    (hq : codeAny (model prog w) (A.under (.builtin "type.__call__" ⟨.ref C :: rest, kw⟩)) (.call (.ref fI) ⟨.ref (h.objs.size + 1) :: rest, kw⟩) (W.InitBack (h.objs.size + 1) R)
      ⟨(h.push (W.kdv_tup rest)).push (excO C h.objs.size), g, d, t, os⟩) :
    codeAny (model prog w) A (.call (.ref C) ⟨rest, kw⟩) R ⟨h, g, d, t, os⟩ := by
  have f1 := tc_lookup
  have f2 := tc_bind (.ref C)
  have hTy : (⟨h, g, d, t, os⟩ : Shared).TypeIs (.ref C) "type" := ⟨_, hC, rfl⟩
  refine codeAny_of_tree ?_
  show wpAny _ _ (callAny (.ref C) _) _ _ _
  repeat (any_goals (first | assumption | with_reducible refine wpAny_loadPart_at hC ?_ | wp_step))
  refine ⟨rfl, ?_⟩
  refine codeAny_call_builtin_at (Code.quiet_builtin _ (by decide +kernel)) entry_typeCall (check_type_call_kw hC (type_call_kw F hT hC hi hb hrest ?_))
  refine codeAny_mono hq fun r s' z => ?_
  rcases r with e | (v | _ | _ | _) <;> exact z
end
section
variable {prog : Program} {w : World} {A : Around} {E : Value → Shared → Prop} {R : Result → Shared → Prop} {hp : Heap} {g : Array GenState} {d : Drawn} {t : Nat} {os : OsState} {B : String} {bmB : List Value}
/-- self.name = v, the first field -/
theorem osa_first {K : W.Frag} {name : Str} {tk : Tok} {v : Value} {x C : Addr} {fv : Array Value} {cd : ClassData} (SB : StoreFacts B bmB "object.__setattr__" "object")
    (X : K.In hp) (hx : hp.get? x = some { cls := .ref C, data := .fields fv }) (hcd : W.clsIn K C = some cd) (hm : W.excTail bmB cd.mro = true) (hh : cd.hasDict = true) (ha : W.findIn K (.ref C) name = some none)
    (hq : ∀ h' tk' dx, (∀ b o, b ≠ x → hp.get? b = some o → h'.get? b = some o) → hp.objs.size ≤ dx → dx ≠ x → h'.get? x = some { cls := .ref C, dict := some dx, data := .fields fv } →
      h'.Ns1 dx (fun y => if y = name then some v else none) → R (.ok (.ret .none)) ⟨h', g, d, tk', os⟩) :
    codeAny (model prog w) A (.call (.builtin "object.__setattr__") ⟨[.ref x, .str name tk, v], []⟩) R ⟨hp, g, d, t, os⟩ := by
  have I : W.InstAt hp x { cls := .ref C, data := .fields fv } C none := ⟨hx, rfl, rfl, trivial⟩
  have SF := F.store_object
  have hob : cd.mro.contains (.type "object") = true := (W.excTail_contains "object" _ hm).trans SB.hasOwner
  have ne : cd.mro.isEmpty = false := by
    cases e : cd.mro with
    | nil =>
      rw [e] at hob
      cases hob
    | cons _ _ => rfl
  have hxs : x ≠ hp.objs.size := Nat.ne_of_lt (Heap.lt_size hx)
  have sub : W.Looks (model prog w) hp (isInstance (.ref x) (.type "object")) true := I.type.andThen (W.looks_mroIn X (by unfold W.mroIn; rw [hcd, Option.bind_some, if_neg (by rw [ne]; decide), hob]))
  refine codeAny_call_builtin SF.slot.plain SF.entry (@W.check_slot (model prog w) _ _ ⟨hp, g, d, t, os⟩ "object.__setattr__" "object" "__setattr__" (.ref x) [.str name tk, v] [] _ SF.kind SF.split sub (SF.args (.ref x) (.str name tk) v) ?_)
  have hmr : W.Looks (model prog w) hp (mroOf (.ref C)) cd.mro := (W.looks_clsIn X hcd).andThen .now
  have L3 : W.Looks (model prog w) hp (storeTaker? none) none := .now
  have hcls : W.Looks (model prog w) hp (classData C) cd := W.looks_clsIn X hcd
  rw [W.osa_eq, refuse_eq]
  refine wpAny_bind (wpAny_bind (I.type.at (wpAny_bind (hmr.at ?_))))
  rw [W.excTail_pass _ (SB.passes _) _ hm]
  refine wpAny_pure (wpAny_bind (I.type.at (wpAny_bind ((W.looks_findIn X ha).at (wpAny_bind (L3.at ?_))))))
  show wpAny _ _ (storeInOwnDict (.ref x) (.ref C) (.str name tk) name v false) _ _ _
  obtain ⟨nm, bs, mro, ns, qn, hd, sn, sb, ab, col, del⟩ := cd
  dsimp only at hh
  subst hh
  unfold storeInOwnDict ownDictForStores
  repeat (first | with_reducible refine store_in_new ?_ ?_ | with_reducible refine wpAny_loadPart_at hx ?_ | with_reducible refine hcls.at ?_ | wp_step)
  · exact ⟨_, #[], _, (Heap.get?_update_ne _ _ _ _ hxs.symm).trans (Heap.get?_push_at rfl rfl), rfl, fun e he => absurd he (by simp), fun _ => rfl⟩
  · intro h' tk' hn' hs
    have hx₁ : (hp.push { cls := .type "dict", data := .dict #[] }).get? x = some { cls := .ref C, data := .fields fv } := Heap.get?_push_of_some _ hx
    refine hq h' tk' hp.objs.size (fun b o hb ho => ?_) (Nat.le_refl _) hxs.symm ?_ hn'
    · exact (hs.2 b (Nat.ne_of_lt (Heap.lt_size ho))).trans ((Heap.get?_update_ne _ _ _ _ hb).trans (Heap.get?_push_of_some _ ho))
    · exact (hs.2 x hxs).trans (Heap.get?_update_self _ hx₁ rfl)
/-- a further field -/
theorem osa_further {K : W.Frag} {name : Str} {tk : Tok} {v : Value} {x C dx : Addr} {fv : Array Value} {cd : ClassData} {m0 : Str → Option Value} {nl : List Str} (SB : StoreFacts B bmB "object.__setattr__" "object")
    (X : K.In hp) (hx : hp.get? x = some { cls := .ref C, dict := some dx, data := .fields fv }) (hns : hp.Ns1 dx m0) (hw : Within m0 nl) (hz : nl.length ≤ 1000) (hcd : W.clsIn K C = some cd) (hm : W.excTail bmB cd.mro = true) (hh : cd.hasDict = true)
    (ha : W.findIn K (.ref C) name = some none)
    (hq : ∀ h' tk', (∀ b o, b ≠ dx → hp.get? b = some o → h'.get? b = some o) → h'.Ns1 dx (fun y => if y = name then some v else m0 y) → R (.ok (.ret .none)) ⟨h', g, d, tk', os⟩) :
    codeAny (model prog w) A (.call (.builtin "object.__setattr__") ⟨[.ref x, .str name tk, v], []⟩) R ⟨hp, g, d, t, os⟩ := by
  obtain ⟨oD, esD, epD, hoD, hdD, _⟩ := hns.count hw
  have I : W.InstAt hp x { cls := .ref C, dict := some dx, data := .fields fv } C (some oD) := ⟨hx, rfl, rfl, hoD⟩
  have SF := F.store_object
  have hob : cd.mro.contains (.type "object") = true := (W.excTail_contains "object" _ hm).trans SB.hasOwner
  have ne : cd.mro.isEmpty = false := by
    cases e : cd.mro with
    | nil =>
      rw [e] at hob
      cases hob
    | cons _ _ => rfl
  have sub : W.Looks (model prog w) hp (isInstance (.ref x) (.type "object")) true := I.type.andThen (W.looks_mroIn X (by unfold W.mroIn; rw [hcd, Option.bind_some, if_neg (by rw [ne]; decide), hob]))
  refine codeAny_call_builtin SF.slot.plain SF.entry (@W.check_slot (model prog w) _ _ ⟨hp, g, d, t, os⟩ "object.__setattr__" "object" "__setattr__" (.ref x) [.str name tk, v] [] _ SF.kind SF.split sub (SF.args (.ref x) (.str name tk) v) ?_)
  have hmr : W.Looks (model prog w) hp (mroOf (.ref C)) cd.mro := (W.looks_clsIn X hcd).andThen .now
  have L3 : W.Looks (model prog w) hp (storeTaker? none) none := .now
  have hcls : W.Looks (model prog w) hp (classData C) cd := W.looks_clsIn X hcd
  rw [W.osa_eq, refuse_eq]
  refine wpAny_bind (wpAny_bind (I.type.at (wpAny_bind (hmr.at ?_))))
  rw [W.excTail_pass _ (SB.passes _) _ hm]
  refine wpAny_pure (wpAny_bind (I.type.at (wpAny_bind ((W.looks_findIn X ha).at (wpAny_bind (L3.at ?_))))))
  show wpAny _ _ (storeInOwnDict (.ref x) (.ref C) (.str name tk) name v false) _ _ _
  obtain ⟨nm, bs, mro, ns, qn, hd, sn, sb, ab, col, del⟩ := cd
  dsimp only at hh
  subst hh
  unfold storeInOwnDict ownDictForStores
  repeat (first | with_reducible refine PySem.OEX.store_in_old hns hw hz ?_ | with_reducible refine wpAny_loadPart_at hx ?_ | with_reducible refine hcls.at ?_ | wp_step)
  intro h' tk' hn' hs
  exact hq h' tk' (fun b o hb ho => (hs.2 b hb).trans ho) hn'
end
end LwX
end PySem

/-! E2 -/
/-! ### the same over the layer -/
namespace L2
open PySem PySem.Spec PyProof.Rows
/-- what the written part says of an own error class at C whose __init__ is the def at fI -/
structure OexG (K : PySem.W.Frag) (C fI : Addr) : Prop where
  base : ∃ (B newId initId : String) (bmB : List Value), ExcBaseFacts B newId initId bmB ∧ StoreFacts B bmB "object.__setattr__" "object" ∧
    ∃ nm q N bs bm sn sub ab col dd k0 k1 k2 k3 k5, K.lookup C = some (excClassObj nm q C N bs bm true sn sub ab col dd k0 k1 k2 k3 k5 newId) ∧ PySem.W.excTail bmB bm = true
  sa : PySem.W.findIn K (.ref C) "__setattr__" = some (some (.builtin "object.__setattr__"))
  ga : PySem.W.findIn K (.ref C) "__getattribute__" = some (some (.builtin "BaseException.__getattribute__"))
  gg : PySem.W.findIn K (.ref C) "__getattr__" = some none
  exC : PySem.W.subIn K (.ref C) (.type "BaseException") = some true
  tyC : PySem.W.typeIn K (.ref C) = some (.type "type")
  kC : PySem.W.keepIn K (.ref C) = true
  hdC : PySem.W.hasDictIn K C = true
  iC : PySem.W.findIn K (.ref C) "__init__" = some (some (.ref fI))
  tI : PySem.W.typeIn K (.ref fI) = some (.type "function")
  ha : PySem.W.findIn K (.ref C) "__class__" = some (some (.builtin "object.__class__"))
  hn : PySem.W.specialIn K (.builtin "object.__class__") "__get__" = some (some (.builtin "getset_descriptor.__get__"))
  ht : PySem.W.takesIn K (.builtin "object.__class__") = some true
  hm : PySem.W.mroIn K C (.type "object") = some true
section
variable {X : Cx} {pins : List (Addr × Obj)} {σ : St} {H : Hp} {s : Shared} {a C fI dx : Addr} {f : Str} {y : V} {u : Value} {fs : List (Str × V)} {Q : Unit → Shared → Prop} {E : Value → Shared → Prop} {A : Around}
theorem ost_first (T : OexG X.K C fI) (I : Inv X pins σ H s) (e : H a = some (exo a C none)) (hno : PySem.W.findIn X.K (.ref C) f = some none) (ry : RelV y u)
    (h : ∀ dx s', H dx = none → dx ≠ a → Inv X pins σ (upd (upd H dx (exd dx [(f, y)])) a (exo a C (some dx))) s' → Q () s') : wpAny (model X.prog X.w) A (setAttr (.ref a) f u) Q E s := by
  obtain ⟨B, newId, initId, bmB, FB, SB, nm, q, N, bs, bm, sn, sub, ab, col, dd, k0, k1, k2, k3, k5, hC, hbm⟩ := T.base
  have hcl : PySem.W.clsIn X.K C = some { name := nm, bases := bs, mro := .ref C :: bm, ns := N, qualname := q, hasDict := true, slotNames := sn, subclasses := sub, abstract := ab, collection := col, hasDel := false } := by unfold PySem.W.clsIn; rw [hC] <;> rfl
  obtain ⟨t1, ho⟩ := exo_at I.hok e
  obtain ⟨hp, g, d, t, os⟩ := s
  refine PySem.W.set_plain I.kIn (ox := { cls := .ref C, dict := none, data := .fields #[.ref t1, .none, .none, .none, .bool false, .none] }) (od := none) ⟨ho, rfl, rfl, trivial⟩ T.sa ?_
  refine PySem.LwX.osa_first SB I.kIn ho hcl (show PySem.W.excTail bmB (.ref C :: bm) = true from hbm) rfl hno (fun h' tk' dx k dn dne hx hn => ?_)
  have hnd : H dx = none := I.hok.fresh dn
  have nd : ∀ {b : Addr} {o : Obj}, hp.get? b = some o → b ≠ dx := fun {b o} q => Nat.ne_of_lt (Nat.lt_of_lt_of_le (Heap.lt_size q) dn)
  have na : ∀ {b : Addr}, H b = none → b ≠ a := fun {b} n z => by
    rw [z, e] at n
    cases n
  have Un1 : Un X.fs [] H (upd (upd H dx (exd dx [(f, y)])) a (exo a C (some dx))) hp h' := {
    keep := fun b o q n _ _ => k b o (na n) q
    slot := fun b o q n _ _ => ⟨o.slots, k b o (na n) q⟩
    free := fun b o q n _ => by rw [upd_ne (na n), upd_ne (nd q)]; exact n
    there := fun b o q _ => by
      by_cases hb : b = a
      · exact ⟨_, by rw [hb]; exact hx⟩
      · exact ⟨o, k b o hb q⟩
    tups := fun b xs q => by rw [upd_ne (at_ne e q exo_tup), upd_ne (ne_of_none q hnd)]; exact q
    frzs := fun b o v q => by rw [upd_ne (at_ne e q exo_frz), upd_ne (ne_of_none q hnd)]; exact q
    tbls := fun b ps q => ⟨#[], by rw [upd_ne (at_ne e q exo_tbl), upd_ne (ne_of_none q hnd), q]; simp⟩ }
  refine h dx _ hnd dne (I.un (t' := tk') Un1 fun b o q => ?_)
  by_cases hb : b = a
  · subst hb
    rw [upd_same] at q
    cases q
    exact exo_ok hx
  · rw [upd_ne hb] at q
    by_cases hd : b = dx
    · subst hd
      rw [upd_same] at q
      cases q
      exact exd_ok hn (relO_put (fs := []) ry fun g => True.intro)
    · rw [upd_ne hd] at q
      exact (I.hok b o q).stay (fun c v hc z => k c v (by
          rcases hc with hc | hc
          · rw [hc]
            exact hb
          · exact at_ne e hc exo_own) z)
        (fun c hc => by rw [upd_ne (at_ne e hc exo_own), upd_ne (ne_of_none hc hnd)]; exact hc) (fun c xs hc => by rw [upd_ne (at_ne e hc exo_tup), upd_ne (ne_of_none hc hnd)]; exact hc)
theorem ost_further (T : OexG X.K C fI) (I : Inv X pins σ H s) (e : H a = some (exo a C (some dx))) (ed : H dx = some (exd dx fs)) (hl : fs.length ≤ 900) (hno : PySem.W.findIn X.K (.ref C) f = some none) (ry : RelV y u)
    (h : ∀ s', Inv X pins σ (upd H dx (exd dx ((f, y) :: fs))) s' → Q () s') : wpAny (model X.prog X.w) A (setAttr (.ref a) f u) Q E s := by
  obtain ⟨B, newId, initId, bmB, FB, SB, nm, q, N, bs, bm, sn, sub, ab, col, dd, k0, k1, k2, k3, k5, hC, hbm⟩ := T.base
  have hcl : PySem.W.clsIn X.K C = some { name := nm, bases := bs, mro := .ref C :: bm, ns := N, qualname := q, hasDict := true, slotNames := sn, subclasses := sub, abstract := ab, collection := col, hasDel := false } := by unfold PySem.W.clsIn; rw [hC] <;> rfl
  obtain ⟨t1, ho⟩ := exo_at I.hok e
  obtain ⟨mA, hns, rel⟩ := exd_at I.hok ed
  have hw := within_of rel
  obtain ⟨hp, g, d, t, os⟩ := s
  obtain ⟨oD, _, _, hoD, _, _⟩ := hns.count hw
  refine PySem.W.set_plain I.kIn (ox := { cls := .ref C, dict := some dx, data := .fields #[.ref t1, .none, .none, .none, .bool false, .none] }) (od := some oD) ⟨ho, rfl, rfl, hoD⟩ T.sa ?_
  refine PySem.LwX.osa_further SB I.kIn ho hns hw (by rw [List.length_map]; omega) hcl (show PySem.W.excTail bmB (.ref C :: bm) = true from hbm) rfl hno (fun h' tk' k hn => ?_)
  have hd : ∃ o, h'.get? dx = some o := by
    obtain ⟨o, _, _, e', _⟩ := hn
    exact ⟨o, e'⟩
  exact h _ (I.write (t' := tk') (x := dx) (e := dx) (o := exd dx ((f, y) :: fs)) (by rw [ed]; exact True.intro) (.inl rfl) k hd (exd_ok hn (relO_put ry rel)))
end
/-- self.f = e -/
def tOstG (K : PySem.W.Frag) (f : Str) (to te : TE) : TS := fun D σ H => te σ H fun y H1 => to σ H1 fun x H2 => ∃ a C fI : Addr, x = .ref a ∧ OexG K C fI ∧ PySem.W.findIn K (.ref C) f = some none ∧
  ((H2 a = some (exo a C none) ∧ ∀ dx, H2 dx = none → dx ≠ a → D.nx σ (upd (upd H2 dx (exd dx [(f, y)])) a (exo a C (some dx)))) ∨
    ∃ (dx : Addr) (fs : List (Str × V)), H2 a = some (exo a C (some dx)) ∧ H2 dx = some (exd dx fs) ∧ fs.length ≤ 900 ∧ D.nx σ (upd H2 dx (exd dx ((f, y) :: fs))))
/-- C(e, ..), C(k = e, ..): a new error, its __init__ keeping sp -/
def tMkG (C fI : Addr) (K : PySem.W.Frag) (sp : Sp) (ta : TA) : TE := fun σ H Q => ta σ H fun vs H1 => vs.length ≤ 1000 ∧ ∀ a, H1 a = none → sp (.ref a :: vs) (upd H1 a (exo a C none)) (fun v H2 => v = .non ∧ Q (.ref a) H2) (fun _ _ _ => False)
def tMkGK (C fI : Addr) (n : Nat) (sp : Sp) (gV : List V → List V → List V) (tk : TA) : TE := fun σ H Q => tk σ H fun zs H1 => zs.length = n ∧ ∀ a, H1 a = none → sp (gV [.ref a] zs) (upd H1 a (exo a C none)) (fun v H2 => v = .non ∧ Q (.ref a) H2) (fun _ _ _ => False)
/-- e.f of such an error -/
def tXg (K : PySem.W.Frag) (f : Str) (te : TE) : TE := fun σ H Q => te σ H fun x H1 => ∃ (a C fI d : Addr) (fs : List (Str × V)) (v : V), x = .ref a ∧ OexG K C fI ∧ PySem.W.findIn K (.ref C) f = some none ∧ H1 a = some (exo a C (some d)) ∧ H1 d = some (exd d fs) ∧ fs.lookup f = some v ∧ Q v H1
/-- isinstance(e, c) of such an error -/
def rIsG (K : PySem.W.Frag) : List V → Hp → VK → Prop := fun xs H Q => ∃ (a C fI d : Addr) (fs : List (Str × V)) (c : V) (u : Value) (b : Bool), xs = [.ref a, c] ∧ ClsV c u ∧ OexG K C fI ∧ H a = some (exo a C (some d)) ∧ H d = some (exd d fs) ∧
  PySem.W.kitOne K (.ref C) u = some b ∧ Q (.bl b) H
section
variable {X : Cx} {o e : Expr} {es : List Expr} {to te : TE} {ta tk : TA} {f x : Str} {p p' p1 p2 pos : Pos} {CX : CXT} {C fI : Addr} {k : Nat} {fd : FuncData} {ps ks : List Str} {sp : Sp} {kws : List Keyword} {g : List Value → List Value → List Value} {gV : List V → List V → List V}
theorem ps_ostG (ho : PE X o to) (he : PE X e te) (hs : swapsWith e (some (.Attribute o f p')) pos.line X.env = pure false := by rfl) : PS X (.Assign [.Attribute o f p'] e pos) (tOstG X.K f to te) := by
  refine ⟨fun pins s σ H D I h => ?_⟩
  refine plainObj_wpAny_Assign_Attribute (thn (he.run pins s σ H _ I h) fun v s1 ⟨y, H1, I1, r1, q1⟩ => thn (ho.run pins s1 σ H1 _ I1 q1) fun u s2 ⟨x, H2, I2, r2, a, C, fI, ex, T, hno, q⟩ => ?_) hs
  subst ex
  obtain rfl : u = Value.ref a := r2
  rcases q with ⟨ea, q⟩ | ⟨dx, fs, ea, ed, hl, q⟩
  · exact ost_first T I2 ea hno r1 fun dx s' n ne J => ⟨σ, _, J, q dx n ne⟩
  · exact ost_further T I2 ea ed hl hno r1 fun s' J => ⟨σ, _, J, q⟩
theorem run_mkG {pins : List (Addr × Obj)} {σ : St} {H1 : Hp} {s1 : Shared} {Q : VK} {us : List Value} {bV : Addr → List V} {bv : Addr → List Value} {kw : List (Str × Value)} (T : OexG X.K C fI) (F1 : FnOk X.prog X.w X.K X.mg X.base CX k fI fd ps sp) (hr : Room (k + 1) X.A)
    (hx : Passes CX X (fun _ _ _ => False)) (I1 : Inv X pins σ H1 s1) (hz : us.length ≤ sizeLine)
    (hbt : ∀ (a : Addr) (s : Shared), X.K.In s.heap → BindsTo s fd ⟨.ref a :: us, kw⟩ (ps.zip (bv a))) (r3 : ∀ a, Vals (bV a) (bv a))
    (h : ∀ a, H1 a = none → sp (bV a) (upd H1 a (exo a C none)) (fun v H2 => v = .non ∧ Q (.ref a) H2) (fun _ _ _ => False)) :
    wpAny (model X.prog X.w) X.A (call (.ref C) us kw) (EP X pins σ Q) X.xe s1 := by
  obtain ⟨B, newId, initId, bmB, FB, SB, nm, q, N, bs, bm, sn, sub, ab, col, dd, k0, k1, k2, k3, k5, hC, hbm⟩ := T.base
  obtain ⟨hp, g, dr, tk, os⟩ := s1
  have hsz : hp.objs.size ≤ hp.objs.size + 1 := Nat.le_succ _
  have hn : H1 (hp.objs.size + 1) = none := I1.hok.fresh hsz
  have hq := h (hp.objs.size + 1) hn
  have kk : ∀ b o, hp.get? b = some o → ((hp.push (PySem.W.kdv_tup us)).push (PySem.HandSPX.excO C hp.objs.size)).get? b = some o := fun b o e => Heap.get?_push_of_some _ (Heap.get?_push_of_some _ e)
  have hget : ((hp.push (PySem.W.kdv_tup us)).push (PySem.HandSPX.excO C hp.objs.size)).get? (hp.objs.size + 1) = some (PySem.HandSPX.excO C hp.objs.size) := by heap_get
  have I2 : Inv X pins σ (upd H1 (hp.objs.size + 1) (exo (hp.objs.size + 1) C none)) ⟨(hp.push (PySem.W.kdv_tup us)).push (PySem.HandSPX.excO C hp.objs.size), g, dr, tk, os⟩ :=
    I1.laid (t' := tk) (a := hp.objs.size + 1) (o := exo (hp.objs.size + 1) C none) (h' := (hp.push (PySem.W.kdv_tup us)).push (PySem.HandSPX.excO C hp.objs.size)) kk hsz (exo_ok hget)
  refine wpAny_call (PySem.LwX.call_kw FB (fun Y => PySem.W.excTail_contains Y bm hbm) (I1.kIn _ _ hC) (PySem.W.looks_findIn I1.kIn T.iC) (fun self => PySem.W.bind_fn I1.kIn self T.tI) hz
    (codeAny_mono (F1.run _ X.stack _ _ ⟨Value.ref (hp.objs.size + 1) :: us, kw⟩ (bv (hp.objs.size + 1)) _ _ (fun _ _ _ => False) (hr.make C us kw) (I2.env0.make C us kw) (hbt _ _ I2.kIn) (r3 _) hq) fun r s' hq' => ?_))
  cases r with
  | error er => exact hx pins σ _ _ er s' I2 hq'
  | ok fl =>
    cases fl with
    | ret u =>
      obtain ⟨v, H', I3, rv, ev, q3⟩ := I2.after hq'
      subst ev
      exact ⟨rv, ⟨V.ref (hp.objs.size + 1), H', I3, rfl, q3⟩⟩
    | next => exact False.elim hq'
    | brk => exact False.elim hq'
    | cont => exact False.elim hq'
theorem pe_mkG (T : OexG X.K C fI) (F1 : FnOk X.prog X.w X.K X.mg X.base CX k fI fd ps sp) (hr : Room (k + 1) X.A) (hb : Binds X.K fd ps []) (hx : Passes CX X (fun _ _ _ => False)) (hg : Gl X x) (hm : X.mg x = some (.ref C)) (ha : PA X (e :: es) ta)
    (hdb : (x == ("__debug__" : Str)) = false := by decide) (he : starEach (e :: es) X.env = (false, eval e X.env) :: starEach es X.env := by rfl) (hpl : (backTo pos (starEach es X.env)).any (·.1) = false := by rfl) :
    PE X (.Call (.Name x p) (e :: es) [] pos) (tMkG C fI X.K sp ta) := by
  refine ⟨fun pins s σ H Q I h => ?_⟩
  refine wpAny_Call_Name_kw (ld_glob I hg hm ?_ hdb)
  refine PySem.W.callWith_K (h₀ := X.base) I.ok.mod.kin T.kC (thn (ha.run pos pins s σ H _ I h) fun us s1 ⟨vs, H1, I1, r1, hz, q1⟩ => ⟨I1.kIn, ?_⟩) he hpl
  show wpAny _ _ (call (.ref C) us) _ _ _
  refine run_mkG (bv := fun a => .ref a :: us) (bV := fun a => .ref a :: vs) (kw := []) T F1 hr hx I1 (by rw [← Paired.length r1, sizeLine_eq]; omega) (fun a s hk => ?_) (fun a => .cons rfl r1) q1
  have hl : (Value.ref a :: us).length = ps.length := by
    obtain ⟨b, hb0⟩ : ∃ b, H1 b = none := ⟨_, I1.hok.fresh (Nat.le_refl _)⟩
    have z := F1.len _ _ _ _ (q1 b hb0)
    rw [List.length_cons, ← Paired.length r1]
    exact z
  have z := hb s (Value.ref a :: us) hk (by rw [List.append_nil]; exact hl)
  rw [List.append_nil] at z
  exact z
theorem pe_mkGK (T : OexG X.K C fI) (F1 : FnOk X.prog X.w X.K X.mg X.base CX k fI fd ps sp) (hr : Room (k + 1) X.A) (hb : KBn X.K fd ps 1 ks g gV) (hx : Passes CX X (fun _ _ _ => False)) (hg : Gl X x) (hm : X.mg x = some (.ref C)) (hkw : PK X kws tk)
    (hall : (backToKw pos (keywordEach kws X.env)).all (·.1.isSome) = true := by rfl) (hks : (backToKw pos (keywordEach kws X.env)).filterMap (·.1) = ks := by rfl) (hdb : (x == ("__debug__" : Str)) = false := by decide)
    (hpl : ((backTo pos (starEach [] X.env)).any (·.1) || (backToKw pos (keywordEach kws X.env)).any (·.1.isNone)) = false := by rfl) :
    PE X (.Call (.Name x p) [] kws pos) (tMkGK C fI ks.length sp gV tk) := by
  refine ⟨fun pins s σ H Q I h => ?_⟩
  refine wpAny_Call_Name_kw (ld_glob I hg hm ?_ hdb)
  refine PySem.W.callWith_KW0 (h₀ := X.base) I.ok.mod.kin T.kC hall ?_ hpl
  refine thn (hkw.run pos pins s σ H _ I h) fun ws s2 ⟨zs, H2, I2, rz, l2, q2⟩ => ⟨I2.kIn, ?_⟩
  rw [hks]
  exact run_mkG (us := []) (bv := fun a => g [.ref a] ws) (bV := fun a => gV [.ref a] zs) T F1 hr hx I2 (Nat.zero_le _) (fun a s hk => hb.to s [.ref a] ws hk rfl (rz.length.symm.trans l2)) (fun a => hb.rel (.cons rfl .nil) rz) q2
theorem pe_xg (he : PE X e te) (hb : attributeBase e f X.env (eval e X.env) = eval e X.env := by rfl) : PE X (.Attribute e f pos) (tXg X.K f te) := by
  refine ⟨fun pins s σ H Q I h => ?_⟩
  refine attr_of hb (thn (he.run pins s σ H _ I h) fun u s1 hh => ?_)
  obtain ⟨x, H1, I1, rx, a, C, fI, d, fs, v, ex, T, hno, ea, ed, l, q⟩ := hh
  subst ex
  obtain rfl : u = Value.ref a := rx
  obtain ⟨t1, ho⟩ := exo_at I1.hok ea
  obtain ⟨mA, hns, hr⟩ := exd_at I1.hok ed
  obtain ⟨od, hod, hl⟩ := lookIn_ns hns
  obtain ⟨u, hu, ru⟩ := RelO.some_of (v := v) (o := mA f) (by rw [← l]; exact hr f)
  have J : PySem.W.InstAt s1.heap a { cls := .ref C, dict := some d, data := .fields #[.ref t1, .none, .none, .none, .bool false, .none] } C (some od) := ⟨ho, rfl, rfl, hod⟩
  exact HandSPX.exc_get I1.kIn J T.ga T.gg T.exC (PySem.W.findObj_own T.hdC hno rfl (by rw [hl, hu])) (handed_of ru) ⟨v, H1, I1.tok _, ru, q⟩
theorem call_isG : CallR X (.builtin "isinstance") (rIsG X.K) := by
  intro pins s σ H xs us Q I r h
  obtain ⟨a, C, fI, d, fs, c, u, b, rfl, k, T, ea, ed, e, q⟩ := h
  obtain ⟨u1, u2, rfl, r1, r2⟩ := vals2 r
  have e2 := k.eq r2
  subst e2
  cases (show u1 = Value.ref a from r1)
  obtain ⟨t1, ho⟩ := exo_at I.hok ea
  obtain ⟨mA, hns, hr⟩ := exd_at I.hok ed
  obtain ⟨od, hod, hl⟩ := lookIn_ns hns
  have J : PySem.W.InstAt s.heap a { cls := .ref C, dict := some d, data := .fields #[.ref t1, .none, .none, .none, .bool false, .none] } C (some od) := ⟨ho, rfl, rfl, hod⟩
  have hcl : (PySem.W.clsIn X.K C).isSome = true := by
    obtain ⟨cdD, hcD, _⟩ := PySem.W.any_some T.hdC
    rw [hcD]
    rfl
  exact PySem.W.kia_one (PySem.W.kitx_exc hcl T.ga T.gg T.exC T.ha T.hn T.ht T.hm) I.kIn J e (fun z => nomatch z) fun tk => ⟨.bl b, H, I.tok tk, rfl, q⟩
end
end L2

/-! E3 -/
/-! ### repr of nested data, an empty dict among it, where no repr is under way -/
namespace L2
open PySem PySem.Spec PyProof.Rows
mutual
inductive Dq (K : PySem.W.Frag) (H : Hp) : V → PyData → Prop
  | non : Dq K H .non .none
  | bl (b : Bool) : Dq K H (.bl b) (.bool b)
  | int (i : Int) : Dq K H (.int i) (.int i)
  | str (x : Str) : Dq K H (.str x) (.str x)
  | lst {a : Addr} {xs : List V} {ds : List PyData} : SqL K H a xs → DqAll K H xs ds → Dq K H (.ref a) (.list ds)
  | tup {a : Addr} {xs : List V} {ds : List PyData} : SqT K H a xs → DqAll K H xs ds → Dq K H (.ref a) (.tuple ds)
  | dic {a : Addr} : H a = some (.dK []) → Dq K H (.ref a) (.dict [])
inductive DqAll (K : PySem.W.Frag) (H : Hp) : List V → List PyData → Prop
  | nil : DqAll K H [] []
  | cons {v : V} {vs : List V} {d : PyData} {ds : List PyData} : Dq K H v d → DqAll K H vs ds → DqAll K H (v :: vs) (d :: ds)
end
section
variable {X : Cx} {pins : List (Addr × Obj)} {σ : St} {H : Hp} {s : Shared}
mutual
theorem Dq.reprs (I : Inv X pins σ H s) : ∀ (d : PyData) (v : V) (u : Value), Dq X.K H v d → RelV v u → d.showable = true → d.shown.length ≤ sizeLine →
    ∃ as bs, Reads s.heap u d as ∧ ReadAtMost s.heap d.depth bs ∧ ReprK X.prog X.w bs s.heap d.depth u d.shown
  | .none, _, _, h, r, _, _ => by
    cases h
    cases r
    exact ⟨_, [], Reads.none, (fun _ h => nomatch h), by simp only [PyData.shown]; exact .of_is ReprIs.none _ _ _⟩
  | .bool b, _, _, h, r, _, _ => by
    cases h
    cases r
    exact ⟨_, [], Reads.bool b, (fun _ h => nomatch h), by simp only [PyData.shown]; exact .of_is (ReprIs.bool b) _ _ _⟩
  | .int i, _, _, h, r, hs, _ => by
    cases h
    obtain ⟨t, rfl⟩ := r
    exact ⟨_, [], Reads.int i t, (fun _ h => nomatch h), by simp only [PyData.shown]; exact .of_is (ReprIs.int t (by simpa [PyData.showable] using hs)) _ _ _⟩
  | .str x, _, _, h, r, _, hz => by
    cases h
    obtain ⟨t, rfl⟩ := r
    exact ⟨_, [], Reads.str x t, (fun _ h => nomatch h), by simp only [PyData.shown]; exact .of_is (ReprIs.str x t (by simpa only [PyData.shown] using hz)) _ _ _⟩
  | .list ds, _, _, h, r, hs, hz => by
    cases h with
    | @lst a xs _ hq ha =>
      cases r
      obtain ⟨its, rv, ⟨o, n, ho, hc, _, hd⟩, _⟩ := I.list hq
      have hz' : (listText (PyData.shownAll ds)).length ≤ sizeLine := by simpa only [PyData.shown] using hz
      obtain ⟨as, bs, hr, hb, hk⟩ := Dq.reprsAll I ds _ its ha rv (by simpa [PyData.showable] using hs) (fun t ht => Nat.le_trans (listText_mem_le ht) hz')
      have rr : Reads s.heap (.ref a) (.list ds) _ := Reads.list ho hc hd hr
      have hna : a ∉ bs := not_mem_of_deeper rr (by simp only [PyData.depth]; omega) hb
      refine ⟨_, a :: bs, rr, ReadAtMost.cons rr (by simp only [PyData.depth]; omega) hb, ?_⟩
      simp only [PyData.depth, PyData.shown]
      cases its with
      | nil =>
        have h4' : ReadsAll s.heap [] ds _ := hr
        cases h4'
        simp only [PyData.shownAll, listText_nil]
        exact ReprK.listEmpty ho hc hd
      | cons x l => exact ReprK.list ho hc hd hna (by simpa using hk.length_eq) (fun i y e => hk.item i y (by simpa using e))
  | .tuple ds, _, _, h, r, hs, hz => by
    cases h with
    | @tup a xs _ hq ha =>
      cases r
      obtain ⟨its, rv, ⟨o, ho, hc, n, hd⟩, _⟩ := I.tuple hq
      have hz' : (tupleText (PyData.shownAll ds)).length ≤ sizeLine := by simpa only [PyData.shown] using hz
      obtain ⟨as, bs, hr, hb, hk⟩ := Dq.reprsAll I ds _ its ha rv (by simpa [PyData.showable] using hs) (fun t ht => Nat.le_trans (tupleText_mem_le ht) hz')
      have rr : Reads s.heap (.ref a) (.tuple ds) _ := Reads.tuple ho hc hd hr
      have hna : a ∉ bs := not_mem_of_deeper rr (by simp only [PyData.depth]; omega) hb
      refine ⟨_, a :: bs, rr, ReadAtMost.cons rr (by simp only [PyData.depth]; omega) hb, ?_⟩
      simp only [PyData.depth, PyData.shown]
      exact ReprK.tuple ho hc hd hna hk
  | .dict kvs, _, _, h, r, hs, hz => by
    cases h with
    | @dic a ea =>
      cases r
      obtain ⟨_, hsys, vs, kv, o, es, ep, h1, h2, h3⟩ := (show ObjOk X.prog X.w H s.heap a (.dK []) from I.hok a _ ea)
      cases kv
      have hes : es.toList = [] := List.eq_nil_of_length_eq_zero (by rw [PySem.Pairs.length h3.2.2.1]; rfl)
      have e1 : ReadsAll s.heap (es.toList.map (·.key)) (([] : List (PyData × PyData)).map (·.1)) [] := by rw [hes]; exact .nil
      have e2 : ReadsAll s.heap (es.toList.map (·.val)) (([] : List (PyData × PyData)).map (·.2)) [] := by rw [hes]; exact .nil
      have rr : Reads s.heap (.ref a) (.dict []) _ := Reads.dict h1 h2.1 h3.1 e1 e2
      refine ⟨_, [a], rr, ReadAtMost.cons rr (Nat.zero_le (PyData.dict []).depth) (fun _ h => nomatch h), ?_⟩
      simp only [PyData.depth, PyData.shown, PyData.shownKv]
      exact ReprK.dict h1 h2.1 h3.1 hsys (List.not_mem_nil) (by rw [hes]; exact .nil)
theorem Dq.reprsAll (I : Inv X pins σ H s) : ∀ (ds : List PyData) (vs : List V) (us : List Value), DqAll X.K H vs ds → Vals vs us → PyData.showableAll ds = true → (∀ t ∈ PyData.shownAll ds, t.length ≤ sizeLine) →
    ∃ as bs, ReadsAll s.heap us ds as ∧ ReadAtMost s.heap (PyData.depthAll ds) bs ∧ ReprAllK X.prog X.w bs s.heap (PyData.depthAll ds) us (PyData.shownAll ds)
  | [], _, _, h, r, _, _ => by
    cases h
    cases r
    exact ⟨_, [], ReadsAll.nil, (fun _ h => nomatch h), by simp only [PyData.shownAll]; exact .nil⟩
  | d :: ds, _, _, h, r, hs, hz => by
    cases h with
    | cons h1 h2 =>
      cases r with
      | cons r1 r2 =>
        have hs' : d.showable = true ∧ PyData.showableAll ds = true := by simpa [PyData.showableAll] using hs
        obtain ⟨as, b1, q1, hb1, k1⟩ := Dq.reprs I d _ _ h1 r1 hs'.1 (hz _ (by simp only [PyData.shownAll]; exact List.mem_cons_self ..))
        obtain ⟨bs, b2, q2, hb2, k2⟩ := Dq.reprsAll I ds _ _ h2 r2 hs'.2 (fun t ht => hz t (by simp only [PyData.shownAll]; exact List.mem_cons_of_mem _ ht))
        refine ⟨_, b1 ++ b2, ReadsAll.cons q1 q2, ?_, ?_⟩
        · intro b hm
          simp only [PyData.depthAll]
          rcases List.mem_append.mp hm with hm | hm
          · obtain ⟨d', as', r', hd'⟩ := hb1 b hm
            exact ⟨d', as', r', Nat.le_trans hd' (Nat.le_max_left _ _)⟩
          · obtain ⟨d', as', r', hd'⟩ := hb2 b hm
            exact ⟨d', as', r', Nat.le_trans hd' (Nat.le_max_right _ _)⟩
        · simp only [PyData.depthAll, PyData.shownAll]
          exact .cons ((k1.more fun b hb => List.mem_append_left _ hb).level_le (Nat.le_max_left _ _)) (k2.more_le (fun b hb => List.mem_append_right _ hb) (Nat.le_max_right _ _))
end
end
/-- repr of a list -/
def rRepr (K : PySem.W.Frag) : List V → Hp → VK → Prop := fun xs H Q => ∃ (a : Addr) (ds : List PyData), xs = [.ref a] ∧ Dq K H (.ref a) (.list ds) ∧ ds ≠ [] ∧ PyData.showableAll ds = true ∧ PyData.depthAll ds ≤ 40 ∧ (PyData.list ds).shown.length ≤ sizeLine ∧ Q (.str (PyData.list ds).shown) H
theorem call_reprL {X : Cx} (hg : X.A.guards = some []) (hu : X.A.units + 64 < cLine) : CallR X (.builtin "repr") (rRepr X.K) := by
  intro pins s σ H xs us Q I r h
  obtain ⟨a, ds, rfl, hd, hne, hs, hdep, hz, q⟩ := h
  obtain ⟨u, rfl, hu1⟩ := vals1 r
  cases (show u = Value.ref a from hu1)
  cases hd with
  | @lst _ xs _ hq ha =>
    obtain ⟨its, rv, ⟨o, n, ho, hc, _, hd⟩, _⟩ := I.list hq
    have hz' : (listText (PyData.shownAll ds)).length ≤ sizeLine := by simpa only [PyData.shown] using hz
    obtain ⟨as, bs, hr, hb, hk⟩ := Dq.reprsAll I ds _ its ha rv hs (fun t ht => Nat.le_trans (listText_mem_le ht) hz')
    have rr : Reads s.heap (.ref a) (.list ds) _ := Reads.list ho hc hd hr
    have hna : a ∉ bs := not_mem_of_deeper rr (by simp only [PyData.depth]; omega) hb
    cases its with
    | nil =>
      have h4' : ReadsAll s.heap [] ds _ := hr
      cases h4'
      exact absurd rfl hne
    | cons x l =>
      refine call_repr_slot (T := "list") (idr := "list.__repr__") (by omega) ⟨o, ho, hc⟩ F.slot_list_repr.toG ?_
      refine call_list_reprK ho hc hd hna (by simpa using hk.length_eq) (fun i y e => hk.item i y (by simpa using e)) (show X.A.in1.guards = some [] from hg) (fun b _ => Clear.nil b) (by show X.A.units + 1 + (PyData.depthAll ds + 1) < cLine; omega) (fun _ _ e => e) (fun h' u tk hk => ?_) hz'
      simp only [PyData.shown] at q
      exact ⟨_, _, rfl, ⟨.str (listText (PyData.shownAll ds)), H, I.kept hk, ⟨_, rfl⟩, q⟩⟩
end L2

/-! ### a def that is called where no repr is under way, and the law's own end -/
namespace L2
open PySem PySem.Spec PyProof.Rows
structure FnOkG (P : Program) (w : World) (K : PySem.W.Frag) (mg : Str → Option Value) (base : Heap) (CX : CXT) (k : Nat) (f : Addr) (fd : FuncData) (ps : List Str) (sp : Sp) : Prop where
  len : ∀ vs H Q E, sp vs H Q E → vs.length = ps.length
  run : ∀ (A : Around) (outer : List Env) (s : Shared) (H : Hp) (args : Args) (us : List Value) (vs : List V) (Q : VK) (E : XK), A.guards = some [] → Room k A → Env0 P w K mg base A outer s H → BindsTo s fd args (ps.zip us) → Vals vs us → sp vs H Q E →
    codeAny (model P w) A (.call (.ref f) args) (CR CX outer P w H s Q E) s
theorem fn_ofG {CX : CXT} {P : Program} {w : World} {K : PySem.W.Frag} {mg : Str → Option Value} {base : Heap} {k : Nat} {f : Addr} {name qual : Str} {params : Arguments} {body : List Stmt} {scope : Scope} {dV kV doc pm cdv ct oc : Value} {an od : Option Addr}
    {osl : Array (Option Value)} {N ps : List Str} {sp : Sp} (lk : K.lookup f = some ⟨oc, od, .func (PySem.W.fnOf name qual params body scope dV kV doc pm an cdv ct), osl⟩) (hcd : PySem.W.codeIn K cdv qual = true) (S : FnScope N ps scope)
    (len : ∀ vs H Q E, sp vs H Q E → vs.length = ps.length)
    (hbody : ∀ (A : Around) (outer : List Env) (s : Shared) (H : Hp) (vs : List V) (Q : VK) (E : XK), A.guards = some [] → Room k (A.deeper (envOfC qual scope s.heap.objs.size f cdv)) → sp vs H Q E →
      ∃ t, PSs (cxOf CX P w K mg base N qual scope f cdv A outer s H E) body t ∧ t { nx := fun _ H' => Q .non H', rt := Q } (start N vs) H) :
    FnOkG P w K mg base CX (k + 1) f (PySem.W.fnOf name qual params body scope dV kV doc pm an cdv ct) ps sp := by
  refine ⟨len, fun A outer s H args us vs Q E hgd hr e0 hb r hsp => ?_⟩
  have hl := len _ _ _ _ hsp
  have KX : K.In s.heap := e0.mod.kin.keeps fun b o e => (e0.bs b o e).1
  have lim : s.heap.NoLimit := e0.mod.nolimit.keeps fun b o e => (e0.bs b o e).1
  have hkind : ∀ y ∈ ps.zip us, scope.names.lookup y.1 = some .local ∨ (scope.names.lookup y.1 = some .cell ∧ ((cellsFrom (s.heap.objs.size + 1) scope.names []).lookup y.1).isSome = true) := fun ⟨n, v⟩ hy => by
    rcases S.par n (List.of_mem_zip hy).1 with q | q
    · exact .inl q
    · exact .inr ⟨q, PySem.W.cellsFrom_some _ _ _ (.inl q)⟩
  refine codeAny_call_function hr.depth (KX _ _ lk) rfl S.co S.gen rfl (PySem.W.codeRec_of KX hcd) (hb _ _ _ _ ?_)
  refine wpAny_newFunctionEnv_cells S.kind hkind fun env he s1 x => ?_
  subst he
  refine ⟨lim.keeps x.toInCall.keep, codeAny_func ?_⟩
  obtain ⟨t, ht, hq⟩ := hbody A outer s H vs Q E hgd (hr.deeper _) hsp
  have I : Inv (cxOf CX P w K mg base N qual scope f cdv A outer s H E) [] (start N vs) H s1 := inv_start S hr.hd e0 hl r x
  refine wpAny_mono (ht.run [] s1 (start N vs) H _ I hq) (fun fl s' hs => ?_) fun e s' hs => hs
  have fin : ∀ {σ' : St} {H' : Hp} {v : V} {u : Value}, Inv (cxOf CX P w K mg base N qual scope f cdv A outer s H E) [] σ' H' s' → RelV v u → Q v H' → CE outer P w H s Q u s' :=
    fun {σ' H' v u} J rv q => ⟨v, H', J.os, J.bare, J.base, J.hok, rv, q⟩
  cases fl with
  | ret u =>
    obtain ⟨v, σ', H', J, rv, q⟩ := hs
    exact fin J rv q
  | next =>
    obtain ⟨σ', H', J, q⟩ := hs
    exact fin (v := V.non) (u := Value.none) J rfl q
  | brk =>
    obtain ⟨_, _, _, q⟩ := hs
    exact False.elim q
  | cont =>
    obtain ⟨_, _, _, q⟩ := hs
    exact False.elim q
theorem Fun.okG {P : Program} {w : World} {K : PySem.W.Frag} {mg : Str → Option Value} {base : Heap} {x qual : Str} {st : Stmt} {f : Addr} {fd : FuncData} {N ps : List Str} {k : Nat} {sp : Sp} (F : Fun K x qual st f fd) (S : FnScope N ps (defScope st)) (len : ∀ vs H Q E, sp vs H Q E → vs.length = ps.length)
    (hbody : ∀ (cdv : Value) (A : Around) (outer : List Env) (s : Shared) (H : Hp) (vs : List V) (Q : VK) (E : XK), A.guards = some [] → Room k (A.deeper (envOfC qual (defScope st) s.heap.objs.size f cdv)) → sp vs H Q E →
      ∃ t, PSs (cxOf CX0 P w K mg base N qual (defScope st) f cdv A outer s H E).nox (defBody st) t ∧ t { nx := fun _ H' => Q .non H', rt := Q } (start N vs) H) : FnOkG P w K mg base CX0 (k + 1) f fd ps sp := by
  obtain ⟨oc, od, kV, doc, pm, an, cdv, ct, osl, rfl, lk, hcd⟩ := F.ex
  refine fn_ofG lk hcd S len fun A outer s H vs Q E hgd hr hsp => ?_
  obtain ⟨t, h, q⟩ := hbody cdv A outer s H vs Q E hgd hr hsp
  exact ⟨t, h.nox, q⟩
theorem law_callG {P : Program} {w : World} {K : PySem.W.Frag} {mg mb : Str → Option Value} {CX : CXT} {k : Nat} {fa a : Addr} {fd : FuncData} {x : Str} {sp : Sp} {s₁ : Shared} {vs : List Value} {ns : List Int}
    (KX : K.In s₁.heap) (hns : s₁.heap.Ns mainGlobals mg) (hb : s₁.heap.Ns builtinsNs mb) (hbb : ∀ x : Str, x ≠ "__name__" → mb x = bootBuiltins x) (hlim : s₁.heap.NoLimit) (hg : s₁.gens = #[])
    (ha : s₁.heap.get? a = some { cls := .type "list", data := .seq vs.toArray }) (hi : IntsAre vs ns) (hl : ns.length ≤ sizeLine) (hr : Room k callerA)
    (F : ∀ base : Heap, K.In base → base.Ns mainGlobals mg → FnOkG P w K mg base CX k fa fd [x] sp) (hbind : ∀ (s : Shared) (u : Value), BindsTo s fd ⟨[u], []⟩ [(x, u)])
    (hsp : ∀ H : Hp, Only H → SqL K H a (ns.map V.int) → sp [.ref a] H (fun v _ => v = .bl true) fun _ _ _ => False)
    (hCX : ∀ H e s', CX [] H s₁ (fun _ _ _ => False) e s' → False) :
    codeAny (model P w) callerA (.call (.ref fa) ⟨[.ref a], []⟩) (fun r s' => r = .ok (.ret (.bool true)) ∧ OldK s₁.heap s'.heap ∧ s'.os = s₁.os ∧ AllBare s'.gens) s₁ := by
  have rv := vals_ints hi
  have lenV := hi.length
  -- from an abstract heap in which nothing but the script may be tracked
  have core : ∀ H : Hp, Only H → SqL K H a (ns.map V.int) → HOk P w H s₁.heap → (∀ b, H b ≠ none → b = a) → (H a ≠ none → K.lookup a = none) →
      codeAny (model P w) callerA (.call (.ref fa) ⟨[.ref a], []⟩) (fun r s' => r = .ok (.ret (.bool true)) ∧ OldK s₁.heap s'.heap ∧ s'.os = s₁.os ∧ AllBare s'.gens) s₁ := by
    intro H hO hS hok hA hK
    have base_of : ∀ {b : Addr} {o : Obj}, s₁.heap.get? b = some o → H b = none → (hidT s₁.heap H).get? b = some o := fun e n => hidT_get e n
    have noA : ∀ {b : Addr} {o : Obj} {es : Array DictEntry} {ep : Nat}, s₁.heap.get? b = some o → o.data = .dict es ep → H b = none := fun {b o es ep} e d => by
      cases q : H b with
      | none => rfl
      | some u =>
        have e' : b = a := hA b (by rw [q]; simp)
        subst e'
        rw [ha] at e; cases e
        have d' : Data.seq vs.toArray _ = Data.dict es ep := d
        cases d'
    have nsK : ∀ {b : Addr} {m : Str → Option Value}, s₁.heap.Ns b m → (hidT s₁.heap H).Ns b m := fun {b m} ⟨o, es, ep, e, d, r⟩ => ⟨o, es, ep, base_of e (noA e d), d, r⟩
    have hKb : K.In (hidT s₁.heap H) := fun b o e => base_of (KX b o e) (by
      cases q : H b with
      | none => rfl
      | some u =>
        have e' : b = a := hA b (by rw [q]; simp)
        subst e'
        rw [hK (by rw [q]; simp)] at e; cases e)
    have hM : Mod K mg (hidT s₁.heap H) := ⟨hKb, nsK hns, ⟨mb, nsK hb, hbb⟩, let ⟨mc, h1, h2⟩ := hlim; ⟨mc, nsK h1, h2⟩⟩
    have e0 : Env0 P w K mg (hidT s₁.heap H) callerA [] s₁ H := ⟨rfl, hM, fun b o e => of_hidT e, Nat.le_of_eq (hidT_size _ _), trivial, fun b hb => absurd (show b ∈ ([] : List Addr) from hb) (by simp), hok, .of_eq hg⟩
    refine codeAny_mono ((F _ hKb (nsK hns)).run callerA [] s₁ H ⟨[.ref a], []⟩ [.ref a] [.ref a] _ _ rfl hr e0 (hbind s₁ (.ref a)) (.cons rfl .nil) (hsp H hO hS)) fun r s' h => ?_
    cases r with
    | error e => exact (hCX H e s' h).elim
    | ok fl =>
      cases fl with
      | next => exact False.elim h
      | brk => exact False.elim h
      | cont => exact False.elim h
      | ret u =>
        obtain ⟨v, H', os, bare, un, hok', r', q⟩ := h
        have q' : v = .bl true := q
        subst q'
        obtain rfl : u = Value.bool true := r'
        refine ⟨rfl, OldK.of_keep fun b o e => ?_, os, bare⟩
        cases q : H b with
        | none => exact un.keep b o e q (by intro z; exact absurd (show b ∈ ([] : List Addr) from z) (by simp)) (by simp)
        | some u =>
          rcases hO b with z | ⟨ob, xs, z⟩
          · rw [q] at z; cases z
          · have z2 := un.frzs b ob _ z
            obtain ⟨e1, _⟩ := hok b _ z
            obtain ⟨e2, _⟩ := hok' b _ z2
            rw [e] at e1; cases e1
            exact e2
  cases hk : K.lookup a with
  | some o =>
    -- the script is one of the module's own objects
    have e := KX a o hk
    rw [ha] at e
    cases e
    refine core (fun _ => none) (fun _ => .inl rfl) (.inr ⟨_, vs.toArray, _, hk, rfl, rfl, rfl, by rw [List.size_toArray, lenV]; exact hl, by simpa using rv⟩) (fun b u z => by have z' : (none : Option HO) = some u := z; cases z') (fun b z => absurd rfl z) fun z => absurd rfl z
  | none =>
    refine core (fun b => if b = a then some (.frz { cls := .type "list", data := .seq vs.toArray } (.lst (ns.map V.int))) else none) (fun b => ?_) (.inl (.inr ⟨{ cls := .type "list", data := .seq vs.toArray }, if_pos rfl⟩)) (fun b u z => ?_) (fun b z => ?_) fun _ => hk
    · by_cases hb : b = a
      · exact .inr ⟨_, _, if_pos hb⟩
      · exact .inl (if_neg hb)
    · by_cases hb : b = a
      · have z' := (if_pos hb).symm.trans z
        cases z'
        subst hb
        exact ⟨ha, by rw [List.length_map]; exact hl, vs, _, rv, ha⟩
      · have z' := (if_neg hb).symm.trans z
        cases z'
    · by_cases hb : b = a
      · exact hb
      · exact absurd (if_neg hb) z
theorem walk_ofG {l : PySem.W.OpenLaw} {n k : Nat} {q : Program} {loose : List Str} {XP : (Str → Option Value) → Heap → Prop} {YP : World → Heap → Prop} {d : DefRec} {K : Params → PySem.W.Frag} {CX : World → CXT} {sp : World → Sp} {x : Str}
    (hn : l.most = some n) (hn2 : n ≤ sizeLine) (hdf : d.params.defaults = []) (hr : Room k callerA)
    (hY : ∀ (w : World) (h : Heap), YP w h → (K w.params).In h)
    (F : ∀ (w : World) (mg : Str → Option Value) (fa : Addr) (h : Heap), (K w.params).In h → h.Ns mainGlobals mg → mg d.name = some (.ref fa) →
      ∃ fd : FuncData, (∀ (s : Shared) (u : Value), BindsTo s fd ⟨[u], []⟩ [(x, u)]) ∧
        ∀ base : Heap, (K w.params).In base → base.Ns mainGlobals mg → FnOkG l.prog w (K w.params) mg base (CX w) k fa fd [x] (sp w))
    (hsp : ∀ (w : World) (H : Hp) (a : Addr) (ns : List Int), ns.length ≤ n → Only H → SqL (K w.params) H a (ns.map V.int) → sp w [.ref a] H (fun v _ => v = .bl true) fun _ _ _ => False)
    (hCX : ∀ (w : World) (H : Hp) (s : Shared) (e : Value) (s' : Shared), CX w [] H s (fun _ _ _ => False) e s' → False) :
    PySem.W.WalkO q loose XP YP l.row.toRowW d [] (fun f vs => PySem.call f vs) := by
  refine Att.attach_call hn hdf fun w s₀ s₁ mg mb fa o pm cd doc a vs ns G Y ho hd hcd hmg hobj hints hlen hg => ?_
  have KX := hY w _ Y
  obtain ⟨fd, hb, hF⟩ := F w mg fa _ KX G.T.g hmg
  exact law_callG KX G.T.g G.T.b G.T.builtins G.T.nolimit hg hobj hints (Nat.le_trans hlen hn2) hr hF hb (fun H hO hS => hsp w H a ns hlen hO hS) fun H e s' => hCX w H s₁ e s'
end L2
/-! ### own __add__ and __radd__ -/
namespace PySem
namespace LwX
open PySem.W PySem.Calls
section
variable {prog : Program} {w : World} {A : Around} {E : Value → Shared → Prop} {s : Shared} {K : Frag} {x C f : Addr} {ox : Obj} {od : Option Obj} {T : String}
/-- x + b, b of a built-in type -/
theorem add_own {b : Value} {fo ro rc : Option Value} {Q : Value → Shared → Prop} (X : K.In s.heap) (I : InstAt s.heap x ox C od) (hb : ∀ M, Looks M s.heap (typeOf b) (.type T)) (hc : selfFirst K C = true)
    (hs : findIn K (.ref C) "__add__" = some (some (.ref f))) (hf : isFn K (.ref f) = true) (hr : findIn K (.ref C) "__radd__" = some rc) (hp : rc = none ∨ ∃ g : Addr, rc = some (.ref g))
    (h1 : findIn K (.type T) "__add__" = some fo) (h2 : findIn K (.type T) "__radd__" = some ro) (hsub : subIn K (.type T) (.ref C) = some false)
    (h : wpAny (model prog w) A (call (.ref f) [.ref x, b]) (CmpBack Q) E s) : wpAny (model prog w) A (binaryOp .Add (.ref x) b) Q E s := by
  obtain ⟨cd, rest, hcd, hm⟩ := ksp_first hc
  have one := ksp_try X I hs hf h
  obtain ⟨hh, g, d, tt, os⟩ := s
  have L1 : Looks (model prog w) hh (typeOf (.ref x)) (.ref C) := I.type
  have L2 : Looks (model prog w) hh (typeOf b) (.type T) := hb _
  have L3 : Looks (model prog w) hh (fillsNumberSlot (.ref C) "add") true := fills_K X hcd hm hs
  have L4 : Looks (model prog w) hh (fillsNumberSlot (.type T) "add") ((fo.isSome && !isSeqSlot fo) || (ro.isSome && !isSeqSlot ro)) := ksp_fillsT X h1 h2
  have L5 : Looks (model prog w) hh (isSubtype (.type T) (.ref C)) false := looks_subIn X hsub
  have L6 : Looks (model prog w) hh (numberSlotInPython (.ref C) "add") true := ksp_inPy X hs hr hp
  have L7 : Looks (model prog w) hh (numberSlotInPython (.type T) "add") false := Looks.of_pure rfl
  have L8 : Looks (model prog w) hh (typeLookup (.type T) (dunderR "add")) ro := looks_findIn X h2
  generalize ((fo.isSome && !isSeqSlot fo) || (ro.isSome && !isSeqSlot ro)) = right at L4
  have hne : (Value.ref C == Value.type T) = false := Bool.eq_false_iff.mpr fun q => by cases beq_iff_eq.mp q
  have hi : Operator.info .Add = ("+", "add") := rfl
  simp only [binaryOp, hi]
  refine wpAny_holding (wpAny_bind ?_)
  unfold binaryOp1
  refine wpAny_bind (L1.at (wpAny_bind (L2.at (wpAny_bind (L3.at ?_)))))
  simp only [hne, Bool.false_eq_true, if_false]
  cases right with
  | false =>
    ksp_lk
    refine wpAny_mono one (fun r s' hr' => ?_) fun _ _ e => e
    obtain ⟨v, rfl, hq⟩ := hr'
    ksp_lk
    exact hq
  | true =>
    ksp_lk
    refine wpAny_mono one (fun r s' hr' => ?_) fun _ _ e => e
    obtain ⟨v, rfl, hq⟩ := hr'
    ksp_lk
    exact hq
/-- x + y, both of the class at C -/
theorem add_same {y : Addr} {oy : Obj} {oyd : Option Obj} {Q : Value → Shared → Prop} (X : K.In s.heap) (I : InstAt s.heap x ox C od) (J : InstAt s.heap y oy C oyd) (hc : selfFirst K C = true)
    (hs : findIn K (.ref C) "__add__" = some (some (.ref f))) (hf : isFn K (.ref f) = true)
    (h : wpAny (model prog w) A (call (.ref f) [.ref x, .ref y]) (CmpBack Q) E s) : wpAny (model prog w) A (binaryOp .Add (.ref x) (.ref y)) Q E s := by
  obtain ⟨cd, rest, hcd, hm⟩ := ksp_first hc
  have one := ksp_try X I hs hf h
  obtain ⟨hh, g, d, tt, os⟩ := s
  have L1 : Looks (model prog w) hh (typeOf (.ref x)) (.ref C) := I.type
  have L2 : Looks (model prog w) hh (typeOf (.ref y)) (.ref C) := J.type
  have L3 : Looks (model prog w) hh (fillsNumberSlot (.ref C) "add") true := fills_K X hcd hm hs
  have hi : Operator.info .Add = ("+", "add") := rfl
  simp only [binaryOp, hi]
  refine wpAny_holding (wpAny_bind ?_)
  unfold binaryOp1
  refine wpAny_bind (L1.at (wpAny_bind (L2.at (wpAny_bind (L3.at ?_)))))
  simp only [beq_self_eq_true, if_true]
  ksp_lk
  refine wpAny_mono one (fun r s' hr' => ?_) fun _ _ e => e
  obtain ⟨v, rfl, hq⟩ := hr'
  ksp_lk
  exact hq
/-- a + x, a of a built-in type whose + is a sequence's -/
theorem radd_own {a : Value} {fa : Addr} {fo ro : Option Value} {Q : Value → Shared → Prop} (X : K.In s.heap) (I : InstAt s.heap x ox C od) (ha : ∀ M, Looks M s.heap (typeOf a) (.type T)) (hc : selfFirst K C = true)
    (hs0 : findIn K (.ref C) "__add__" = some (some (.ref fa))) (hs : findIn K (.ref C) "__radd__" = some (some (.ref f))) (hf : isFn K (.ref f) = true)
    (h1 : findIn K (.type T) "__add__" = some fo) (h2 : findIn K (.type T) "__radd__" = some ro) (hseq : ((fo.isSome && !isSeqSlot fo) || (ro.isSome && !isSeqSlot ro)) = false)
    (h : wpAny (model prog w) A (call (.ref f) [.ref x, a]) (CmpBack Q) E s) : wpAny (model prog w) A (binaryOp .Add a (.ref x)) Q E s := by
  obtain ⟨cd, rest, hcd, hm⟩ := ksp_first hc
  have one := ksp_try X I hs hf h
  obtain ⟨hh, g, d, tt, os⟩ := s
  have L1 : Looks (model prog w) hh (typeOf (.ref x)) (.ref C) := I.type
  have L2 : Looks (model prog w) hh (typeOf a) (.type T) := ha _
  have L3 : Looks (model prog w) hh (fillsNumberSlot (.ref C) "add") true := fills_K X hcd hm hs0
  have L4 : Looks (model prog w) hh (fillsNumberSlot (.type T) "add") false := by
    rw [← hseq]
    exact ksp_fillsT X h1 h2
  have hne : (Value.type T == Value.ref C) = false := Bool.eq_false_iff.mpr fun q => by cases beq_iff_eq.mp q
  have hi : Operator.info .Add = ("+", "add") := rfl
  simp only [binaryOp, hi]
  refine wpAny_holding (wpAny_bind ?_)
  unfold binaryOp1
  refine wpAny_bind (L2.at (wpAny_bind (L1.at (wpAny_bind (L4.at ?_)))))
  simp only [hne, Bool.false_eq_true, if_false]
  refine wpAny_bind (L3.at ?_)
  ksp_lk
  refine wpAny_mono one (fun r s' hr' => ?_) fun _ _ e => e
  obtain ⟨v, rfl, hq⟩ := hr'
  ksp_lk
  exact hq
end
end LwX
end PySem

/-! R2 -/
/-! ### enumerate over a tuple -/
namespace PySem
namespace LwX
open Sem (wp)
theorem meets_enumT (l : Addr) (items : Array Value) :
    Meets (Builtin.«enumerate.__new__» ⟨[.type "enumerate", .ref l], []⟩) (fun _ R s => s.heap.IsTuple l items ∧
      R (.ok (.ret (.ref (s.heap.push { cls := .type "tuple_iterator", data := .fields #[.ref l, .int 0 0] }).objs.size)))
        { s with heap := (s.heap.push { cls := .type "tuple_iterator", data := .fields #[.ref l, .int 0 0] }).push { cls := .type "enumerate", data := .fields #[.none, .bool false, .ref s.heap.objs.size, rawInt 0, .none, .none] } }) :=
  .of_wp fun prog w A R s h => by
    obtain ⟨hp, g, d, tk, os⟩ := s
    obtain ⟨hL, h⟩ := h
    have hsub := sub_enumerate
    have q1 : ∀ {A' : Around} {E : Value → Shared → Prop} {Q : Value → Shared → Prop}, Q (.ref hp.objs.size) ⟨hp.push { cls := .type "tuple_iterator", data := .fields #[.ref l, .int 0 0] }, g, d, tk, os⟩ → wpAny (model prog w) A' (pyIter (.ref l)) Q E ⟨hp, g, d, tk, os⟩ :=
      fun q => wpAny_pyIter_tuple (s := ⟨hp, g, d, tk, os⟩) hL q
    wp_walk using q1
    refine wpAny_stack_any fun st => wpAny_pure ?_
    split
    · rename_i c _ _ _ _ _
      cases (c == Value.type "enumerate") <;> (wp_walk using q1; exact ⟨_, rfl, h⟩)
    · wp_walk using q1
      exact ⟨_, rfl, h⟩
theorem call_enumT {prog : Program} {w : World} {A : Around} {E : Value → Shared → Prop} {s : Shared} {l : Addr} {items : Array Value} {Q : Value → Shared → Prop} (hL : s.heap.IsTuple l items)
    (h : ∀ h', IsEnum h' (s.heap.objs.size + 1) s.heap.objs.size 0 .none → h'.IsTupleIter s.heap.objs.size l 0 → h'.objs.size = s.heap.objs.size + 2 →
      (∀ b o, s.heap.get? b = some o → h'.get? b = some o) → Q (.ref (s.heap.objs.size + 1)) { s with heap := h' }) :
    wpAny (model prog w) A (call (.type "enumerate") [.ref l]) Q E s := by
  refine callType_new F.called_enumerate (by decide) (F.typeCall_enumerate_1 _) (F.newCall_enumerate_1 _) (fun obj => F.args_object_init_2 obj _) F.entry_enumerate_new (meets_enumT l items) ⟨hL, ?_⟩
  have hz : (s.heap.push { cls := .type "tuple_iterator", data := .fields #[.ref l, .int 0 0] }).objs.size = s.heap.objs.size + 1 := Heap.size_push ..
  show _ ∧ _
  rw [hz]
  have he : IsEnum ((s.heap.push { cls := .type "tuple_iterator", data := .fields #[.ref l, .int 0 0] }).push
      { cls := .type "enumerate", data := .fields #[.none, .bool false, .ref s.heap.objs.size, rawInt 0, .none, .none] }) (s.heap.objs.size + 1) s.heap.objs.size 0 .none := by
    have z := Heap.get?_push_size (s.heap.push { cls := .type "tuple_iterator", data := .fields #[.ref l, .int 0 0] })
      (o := { cls := .type "enumerate", data := .fields #[.none, .bool false, .ref s.heap.objs.size, rawInt 0, .none, .none] }) rfl
    rw [hz] at z
    exact z
  exact ⟨⟨_, he, rfl⟩, h _ he ⟨_, Heap.get?_push_of_some _ (Heap.get?_push_size _ rfl), rfl, rfl⟩ (by rw [Heap.size_push, hz]) fun b o x => Heap.get?_push_of_some _ (Heap.get?_push_of_some _ x)⟩
end LwX
end PySem
namespace L2
open PySem PySem.Spec PyProof.Rows
/-- the tuple at a, each item in a new pair -/
def IteT (K : PySem.W.Frag) (a : Addr) : It :=
  ⟨fun i H => ∃ (xs : List V) (x : V), SqT K H a xs ∧ xs[i]? = some x, fun i H v H' => ∃ T x, v = .ref T ∧ H T = none ∧ H' = upd H T (.tup [.int (i : Nat), x]) ∧ ∀ xs, SqT K H a xs → xs[i]? = some x, fun i H => ∃ xs : List V, SqT K H a xs ∧ xs.length = i⟩
theorem turn_enumT {P : Program} {w : World} {K : PySem.W.Frag} {elts : List Expr} {kk : Nat} {tpos : Pos} (a e it : Addr) :
    Turn P w K (.Tuple elts kk tpos) (IteT K a) [e, it] e (fun i h => (∃ old, IsEnum h e it ((i : Nat) : Int) old) ∧ h.IsTupleIter it a i ∧ e ≠ it) where
  mem := by simp
  obj := fun i h st b hb => by
    obtain ⟨⟨old, he⟩, ⟨o, ho, hc, hd⟩, _⟩ := st
    have e' : b = e ∨ b = it := by simpa using hb
    rcases e' with z | z
    · rw [z]; exact ⟨_, he, fun v q => nomatch q⟩
    · rw [z]; exact ⟨o, ho, fun v q => by rw [hd] at q; cases q⟩
  keep := fun i h h' st k => let ⟨⟨old, he⟩, hi, hne⟩ := st; ⟨⟨old, k e (by simp) _ he⟩, hi.at fun o q => k it (by simp) o q, hne⟩
  item := by
    intro X hP hw hK hc i pins s σ H E I hf st hg
    subst hP hw hK
    obtain ⟨⟨old, he⟩, hit, hne⟩ := st
    obtain ⟨xs, x, hq, hx⟩ := hg
    obtain ⟨its, rv, p, hz⟩ := I.tuple hq
    obtain ⟨u, hu, ru⟩ := rv.get hx
    have p' : s.heap.IsTuple a its.toArray := p
    have hel : e < s.heap.objs.size := Heap.lt_size he
    have hil : it < s.heap.objs.size := by obtain ⟨_, q, _⟩ := hit; exact Heap.lt_size q
    have hai : a ≠ it := by
      rintro rfl
      obtain ⟨o1, e1, c1, _⟩ := p'
      obtain ⟨o2, e2, c2, _⟩ := hit
      rw [e1] at e2
      cases e2
      rw [c1] at c2
      exact absurd (Value.type.inj c2) (by decide)
    have hae : e ∉ [it, a] := by
      intro z
      rcases List.mem_cons.mp z with z | z
      · exact hne z
      · rcases List.mem_cons.mp z with z | z
        · obtain ⟨o1, e1, c1, _⟩ := p'
          rw [← z, he] at e1
          cases e1
          exact absurd (Value.type.inj c1) (by decide)
        · cases z
    have hlt : i < its.toArray.size := by
      have z := (List.getElem?_eq_some_iff.mp hu).1
      simpa using z
    refine wpAny_pyNext_enum_itemD (Draws.tuple (A := X.A.in1) (show X.A.in1.handled = none from I.ok.hd hc) it a hai its.toArray) he ⟨hit, p'⟩ hlt hne hae fun x' h' tk hP ho hst hT hsz hk => ?_
    have ex : x' = u := by
      have z : its[i]? = some x' := by simpa using hP
      rw [hu] at z
      exact (Option.some.inj z).symm
    subst ex
    refine ⟨_, rfl, wpAny_letOwnedTupleGo_enum (s := { s with heap := h', toks := tk + 1 }) ho fun h'' he' sb => ?_⟩
    have hT2 : h''.get? s.heap.objs.size = some { cls := .type "tuple", data := .seq #[.int i tk, x'] } := (sb.2 _ (Nat.ne_of_gt hel)).trans hT
    have new : ObjOk X.prog X.w (upd H s.heap.objs.size (.tup [.int (i : Nat), x])) h'' s.heap.objs.size (.tup [.int (i : Nat), x]) :=
      ⟨by show 2 ≤ sizeLine; decide, [.int i tk, x'], .cons ⟨_, rfl⟩ (.cons ru .nil), ⟨_, hT2, rfl, _, rfl⟩⟩
    have I1 : Inv X pins σ (upd H s.heap.objs.size (.tup [.int (i : Nat), x])) { s with heap := h'', toks := tk + 1 } :=
      I.turnedNew (ch := [e, it]) (fun b ob hb q => (sb.2 b (fun z => hb (by simp [z]))).trans (hk b ob (fun z => hb (by simp [z])) (fun z => hb (by simp [z])) q)) hf (Nat.le_refl _) new
    refine ⟨.ref s.heap.objs.size, _, I1, rfl, ⟨_, x, rfl, I.hok.fresh (Nat.le_refl _), rfl, fun ys hy => by rw [I.tuple_inj hy hq]; exact hx⟩, ⟨⟨x', ?_⟩, hst.1.at fun o q => (sb.2 it (Ne.symm hne)).trans q, hne⟩, fun b hb => ?_⟩
    · have e1 : ((i + 1 : Nat) : Int) = (i : Int) + 1 := by omega
      rw [e1]; exact he'
    · have hb' : b < s.heap.objs.size := by
        have e' : b = e ∨ b = it := by simpa using hb
        rcases e' with z | z
        · rw [z]; exact hel
        · rw [z]; exact hil
      rw [upd_ne (Nat.ne_of_lt hb')]
      exact (hf b hb).1
  done := by
    intro X hP hw hK hc i pins s σ H E I hf st hg
    subst hP hw hK
    obtain ⟨⟨old, he⟩, hit, hne⟩ := st
    obtain ⟨xs, hq, hx⟩ := hg
    obtain ⟨its, rv, p, hz⟩ := I.tuple hq
    have p' : s.heap.IsTuple a its.toArray := p
    obtain ⟨f0, f1, f2, f3, f4, f5⟩ := hf it (by simp)
    have hl := rv.length
    have hai : a ≠ it := by
      rintro rfl
      obtain ⟨o1, e1, c1, _⟩ := p'
      obtain ⟨o2, e2, c2, _⟩ := hit
      rw [e1] at e2
      cases e2
      rw [c1] at c2
      exact absurd (Value.type.inj c2) (by decide)
    have en : i = its.toArray.size := by simp; omega
    rw [en] at hit
    exact wpAny_pyNext_enum_endD (Draws.tuple (A := X.A.in1) (show X.A.in1.handled = none from I.ok.hd hc) it a hai its.toArray) he ⟨hit, p'⟩ fun h' eb => ⟨rfl, I.turned (t' := s.toks) (fun b o hb q => eb b o hb q) f0 f1 f3 f4 f5⟩
  self := fun A i s Q E st h => let ⟨⟨_, he⟩, _⟩ := st; wpAny_pyIter_enum he h
def iEnumT (K : PySem.W.Frag) (ta : TA) : TI := fun σ H R => ta σ H fun vs H1 => ∃ a xs, vs = [.ref a] ∧ SqT K H1 a xs ∧ R (IteT K a) H1
theorem pi_enumT {X : Cx} {e : Expr} {ta : TA} {p pos tpos : Pos} {elts : List Expr} {kk : Nat} (hg : Gl X "enumerate") (hm : X.mg "enumerate" = none) (ha : PA X [e] ta) (hs : starEach [e] X.env = [(false, eval e X.env)] := by rfl) :
    PI X (.Tuple elts kk tpos) (.Call (.Name "enumerate" p) [e] [] pos) (iEnumT X.K ta) := by
  refine ⟨fun pins s σ H R I h => ?_⟩
  refine Call_ (ld_blt I hg hm boot_enumerate (PyProof.Rows.callWith_type1 (thn (ha.run pos pins s σ H _ I h) fun us s1 ⟨vs, H1, I1, r1, q1⟩ => ?_) hs rfl))
  obtain ⟨a, xs, ex, hq, q⟩ := q1
  subst ex
  cases r1 with
  | cons r rr =>
    cases rr
    cases r
    obtain ⟨its, rv, p', hz⟩ := I1.tuple hq
    refine PySem.LwX.call_enumT (items := its.toArray) p' fun h' he hit hsz hk => wpAny_pyIter_enum he ?_
    have I2 : Inv X pins σ H1 { s1 with heap := h' } := I1.kept (t' := s1.toks) hk
    refine ⟨s1.heap.objs.size + 1, [s1.heap.objs.size + 1, s1.heap.objs.size], _, _, H1, rfl, I2, turn_enumT a (s1.heap.objs.size + 1) s1.heap.objs.size, ⟨⟨.none, he⟩, hit, Nat.succ_ne_self _⟩, fun b hb => ?_, q⟩
    have e' : b = s1.heap.objs.size + 1 ∨ b = s1.heap.objs.size := by simpa using hb
    have hle : s1.heap.objs.size ≤ b := by
      rcases e' with z | z
      · rw [z]; exact Nat.le_add_right _ _
      · rw [z]; exact Nat.le_refl _
    exact I1.fpOk hle (I1.hok.fresh hle)
end L2

/-! R3 -/
/-! ### star calls of a class, own operators, static methods, raising, text * int -/
namespace L2
open PySem PySem.Spec PyProof.Rows StX
/-- the facts of a class with its own + from both sides -/
structure AddC (K : PySem.W.Frag) (C f g : Addr) : Prop where
  hc : PySem.W.selfFirst K C = true
  hs : PySem.W.findIn K (.ref C) "__add__" = some (some (.ref f))
  hf : PySem.W.isFn K (.ref f) = true
  hr : PySem.W.findIn K (.ref C) "__radd__" = some (some (.ref g))
  hg : PySem.W.isFn K (.ref g) = true
/-- what is asked of a built-in type beside it -/
structure AddT (K : PySem.W.Frag) (C : Addr) (T : String) : Prop where
  ex : ∃ fo ro, PySem.W.findIn K (.type T) "__add__" = some fo ∧ PySem.W.findIn K (.type T) "__radd__" = some ro
  sub : PySem.W.subIn K (.type T) (.ref C) = some false
structure RaddT (K : PySem.W.Frag) (T : String) : Prop where
  ex : ∃ fo ro, PySem.W.findIn K (.type T) "__add__" = some fo ∧ PySem.W.findIn K (.type T) "__radd__" = some ro ∧ ((fo.isSome && !isSeqSlot fo) || (ro.isSome && !isSeqSlot ro)) = false
def rAddT (K : PySem.W.Frag) (C : Addr) (sp : Sp) (E : XK) : R2 := fun x y H Q => ∃ (a dx : Addr) (fs : List (Str × V)) (T : String), x = .ref a ∧ H a = some (.ins C dx fs) ∧ TyX K H y (.type T) ∧ AddT K C T ∧ sp [.ref a, y] H (fun v H' => (∃ p, v = .ref p) ∧ Q v H') E
def rAddS (C : Addr) (sp : Sp) (E : XK) : R2 := fun x y H Q => ∃ (a b dx dy : Addr) (fs gs : List (Str × V)), x = .ref a ∧ y = .ref b ∧ H a = some (.ins C dx fs) ∧ H b = some (.ins C dy gs) ∧ sp [.ref a, .ref b] H (fun v H' => (∃ p, v = .ref p) ∧ Q v H') E
def rRaddT (K : PySem.W.Frag) (C : Addr) (sp : Sp) (E : XK) : R2 := fun x y H Q => ∃ (a dx : Addr) (fs : List (Str × V)) (T : String), y = .ref a ∧ H a = some (.ins C dx fs) ∧ TyX K H x (.type T) ∧ RaddT K T ∧ sp [.ref a, x] H (fun v H' => (∃ p, v = .ref p) ∧ Q v H') E
section
variable {X : Cx} {CX : CXT} {k : Nat} {f g C : Addr} {fd : FuncData} {ps : List Str} {sp : Sp} {E : XK} {x : Str} {e : Expr} {es : List Expr} {te : TE} {t : TA} {p sp_ pos : Pos}
theorem back_ref {pins : List (Addr × Obj)} {σ : St} {Q : VK} {u : Value} {s' : Shared} (h : EP X pins σ (fun v H' => (∃ p, v = .ref p) ∧ Q v H') u s') : PySem.W.CmpBack (fun u s' => EP X pins σ Q u s') u s' := by
  obtain ⟨v, H', I, r, ⟨p, rfl⟩, q⟩ := h
  cases (show u = Value.ref p from r)
  exact ⟨V.ref p, H', I, rfl, q⟩
theorem op_addT (A : AddC X.K C f g) (F : FnOk X.prog X.w X.K X.mg X.base CX k f fd ps sp) (hr : Room k X.A) (hb : Binds X.K fd ps []) (hx : Passes CX X E) : OpR X (binaryOp .Add) (rAddT X.K C sp E) := by
  intro pins s σ H x y v u Q I rx ry h
  obtain ⟨a, dx, fs, T, rfl, ha, ty, ⟨⟨fo, ro, h1, h2⟩, hsub⟩, q⟩ := h
  cases (show v = Value.ref a from rx)
  obtain ⟨P, Z, pz, hne⟩ := kit_of I ry ty
  obtain ⟨mA, O, _⟩ := ins_get I.hok ha
  obtain ⟨od, J, _⟩ := O.look
  refine PySem.LwX.add_own I.kIn J (fun M => Z.ty M _ I.kIn pz) A.hc A.hs A.hf A.hr (.inr ⟨_, rfl⟩) h1 h2 hsub ?_
  exact thn (run_fn (us := [.ref a, u]) (vs := [.ref a, y]) F hr hb .nil hx I (.cons rfl (.cons ry .nil)) q) fun _ _ z => back_ref z
theorem op_addS (A : AddC X.K C f g) (F : FnOk X.prog X.w X.K X.mg X.base CX k f fd ps sp) (hr : Room k X.A) (hb : Binds X.K fd ps []) (hx : Passes CX X E) : OpR X (binaryOp .Add) (rAddS C sp E) := by
  intro pins s σ H x y v u Q I rx ry h
  obtain ⟨a, b, dx, dy, fs, gs, rfl, rfl, ha, hb', q⟩ := h
  cases (show v = Value.ref a from rx)
  cases (show u = Value.ref b from ry)
  obtain ⟨mA, O, _⟩ := ins_get I.hok ha
  obtain ⟨od, J, _⟩ := O.look
  obtain ⟨mB, O2, _⟩ := ins_get I.hok hb'
  obtain ⟨od2, J2, _⟩ := O2.look
  refine PySem.LwX.add_same I.kIn J J2 A.hc A.hs A.hf ?_
  exact thn (run_fn (us := [.ref a, .ref b]) (vs := [.ref a, .ref b]) F hr hb .nil hx I (.cons rfl (.cons rfl .nil)) q) fun _ _ z => back_ref z
theorem op_raddT (A : AddC X.K C f g) (F : FnOk X.prog X.w X.K X.mg X.base CX k g fd ps sp) (hr : Room k X.A) (hb : Binds X.K fd ps []) (hx : Passes CX X E) : OpR X (binaryOp .Add) (rRaddT X.K C sp E) := by
  intro pins s σ H x y v u Q I rx ry h
  obtain ⟨a, dx, fs, T, rfl, ha, ty, ⟨fo, ro, h1, h2, h3⟩, q⟩ := h
  cases (show u = Value.ref a from ry)
  obtain ⟨P, Z, pz, hne⟩ := kit_of I rx ty
  obtain ⟨mA, O, _⟩ := ins_get I.hok ha
  obtain ⟨od, J, _⟩ := O.look
  refine PySem.LwX.radd_own I.kIn J (fun M => Z.ty M _ I.kIn pz) A.hc A.hs A.hr A.hg h1 h2 h3 ?_
  exact thn (run_fn (us := [.ref a, v]) (vs := [.ref a, x]) F hr hb .nil hx I (.cons rfl (.cons rx .nil)) q) fun _ _ z => back_ref z
/-- C(*y) -/
theorem pe_makeS1 (M : Mk X.K C f) (F : FnR X.prog X.w X.K X.mg X.base CX k f sp) (hr : Room (k + 1) X.A) (hg : Gl X x) (hm : X.mg x = some (.ref C)) (hx : Passes CX X E) (he : PE X e te) (hd : (x == ("__debug__" : Str)) = false := by decide)
    (hst : starEach [.Starred e sp_] X.env = [(true, eval e X.env)] := by rfl) :
    PE X (.Call (.Name x p) [.Starred e sp_] [] pos) (fun σ H Q => te σ H fun y H1 => ∃ a xs, y = V.ref a ∧ (SqT X.K H1 a xs ∨ SqL X.K H1 a xs) ∧ ∀ x dx, H1 x = Option.none → H1 dx = Option.none → dx ≠ x →
      sp (V.ref x :: xs) (upd (upd H1 dx (.own x)) x (.ins C dx [])) (fun v H2 => v = .non ∧ Q (.ref x) H2) E) := by
  refine ⟨fun pins s σ H Q I h => ?_⟩
  refine wpAny_Call_Name_kw (ld_glob I hg hm ?_ hd)
  refine PySem.W.callWith_S (h₀ := X.base) I.ok.mod.kin M.kp (thn (he.run pins s σ H _ I h) fun v s1 ⟨y, H1, I1, ry, a, xs, ey, hxs, q⟩ => ?_) hst
  subst ey
  obtain rfl : v = Value.ref a := ry
  exact star_any I1 hxs fun us s2 I2 rv => ⟨I2.kIn, run_makeR M F hr hx I2 rv q⟩
/-- C(e, .., *y, ..) -/
theorem pe_makeS2 (M : Mk X.K C f) (F : FnR X.prog X.w X.K X.mg X.base CX k f sp) (hr : Room (k + 1) X.A) (hg : Gl X x) (hm : X.mg x = some (.ref C)) (hx : Passes CX X E) (ha : PA X (e :: es) t) (hd : (x == ("__debug__" : Str)) = false := by decide)
    (he : starEach (e :: es) X.env = (false, eval e X.env) :: starEach es X.env := by rfl) (hst : (backTo pos (starEach es X.env)).any (·.1) = true := by rfl) : PE X (.Call (.Name x p) (e :: es) [] pos) (tMakeR C sp E t) := by
  refine ⟨fun pins s σ H Q I h => ?_⟩
  refine wpAny_Call_Name_kw (ld_glob I hg hm ?_ hd)
  refine PySem.W.callWith_S2 (h₀ := X.base) I.ok.mod.kin M.kp (thn (ha.run pos pins s σ H _ I h) fun us s1 ⟨vs, H1, I1, r, q⟩ => ⟨I1.kIn, ?_⟩) he hst
  exact run_makeR M F hr hx I1 r q
/-- C() -/
theorem pe_makeR0 (M : Mk X.K C f) (F : FnR X.prog X.w X.K X.mg X.base CX k f sp) (hr : Room (k + 1) X.A) (hg : Gl X x) (hm : X.mg x = some (.ref C)) (hx : Passes CX X E) (hd : (x == ("__debug__" : Str)) = false := by decide) : PE X (.Call (.Name x p) [] [] pos) (tMakeR C sp E tNil) := by
  refine ⟨fun pins s σ H Q I h => ?_⟩
  refine wpAny_Call_Name_kw (ld_glob I hg hm ?_ hd)
  exact PySem.W.callWith_K0 I.kIn M.kp (run_makeR (us := []) M F hr hx I .nil h)
end
/-! ### raising an own error with an __init__ of its own -/
def tMkX (C : Addr) (sp : Sp) (ta : TA) : St → Hp → XK → Prop := fun σ H Q => ta σ H fun vs H1 => vs.length ≤ 1000 ∧ ∀ a, H1 a = none → sp (.ref a :: vs) (upd H1 a (exo a C none))
  (fun v H2 => v = .non ∧ ∃ (d : Addr) (fs : List (Str × V)), H2 a = some (exo a C (some d)) ∧ H2 d = some (exd d fs) ∧ H1 d = none ∧ Q (.ref C) (some d) (upd (del H2 a) d (.xd fs))) (fun _ _ _ => False)
section
variable {X : Cx} {e : Expr} {es : List Expr} {ta : TA} {p pos : Pos}
theorem pmk_G {CX : CXT} {x : Str} {C fI : Addr} {k : Nat} {fd : FuncData} {ps : List Str} {sp : Sp} (T : OexG X.K C fI)
    (F1 : FnOk X.prog X.w X.K X.mg X.base CX k fI fd ps sp) (hr : Room (k + 1) X.A) (hb : Binds X.K fd ps []) (hx : Passes CX X (fun _ _ _ => False)) (hg : Gl X x) (hm : X.mg x = some (.ref C)) (ha : PA X (e :: es) ta)
    (hdb : (x == ("__debug__" : Str)) = false := by decide) (he : starEach (e :: es) X.env = (false, eval e X.env) :: starEach es X.env := by rfl) (hpl : (backTo pos (starEach es X.env)).any (·.1) = false := by rfl) :
    PMk X (.Call (.Name x p) (e :: es) [] pos) (tMkX C sp ta) := by
  intro pins s σ H Q I h
  obtain ⟨B, newId, initId, bmB, FB, SB, nm, q, N, bs, bm, sn, sub, ab, col, dd, k0, k1, k2, k3, k5, hC, hbm⟩ := T.base
  refine wpAny_Call_Name_kw (ld_glob I hg hm ?_ hdb)
  refine PySem.W.callWith_K (h₀ := X.base) I.ok.mod.kin T.kC (thn (ha.run pos pins s σ H _ I h) fun us s1 ⟨vs, H1, I1, r1, hz, q1⟩ => ⟨I1.kIn, ?_⟩) he hpl
  show wpAny _ _ (call (.ref C) us) _ _ _
  obtain ⟨hp, g, dr, tk, os⟩ := s1
  have hsz : hp.objs.size ≤ hp.objs.size + 1 := Nat.le_succ _
  have hn : H1 (hp.objs.size + 1) = none := I1.hok.fresh hsz
  have hq := q1 (hp.objs.size + 1) hn
  have kk : ∀ b o, hp.get? b = some o → ((hp.push (PySem.W.kdv_tup us)).push (PySem.HandSPX.excO C hp.objs.size)).get? b = some o := fun b o e => Heap.get?_push_of_some _ (Heap.get?_push_of_some _ e)
  have hget : ((hp.push (PySem.W.kdv_tup us)).push (PySem.HandSPX.excO C hp.objs.size)).get? (hp.objs.size + 1) = some (PySem.HandSPX.excO C hp.objs.size) := by heap_get
  have I2 : Inv X pins σ (upd H1 (hp.objs.size + 1) (exo (hp.objs.size + 1) C none)) ⟨(hp.push (PySem.W.kdv_tup us)).push (PySem.HandSPX.excO C hp.objs.size), g, dr, tk, os⟩ :=
    I1.laid (t' := tk) (a := hp.objs.size + 1) (o := exo (hp.objs.size + 1) C none) (h' := (hp.push (PySem.W.kdv_tup us)).push (PySem.HandSPX.excO C hp.objs.size)) kk hsz (exo_ok hget)
  have r2 : Vals (V.ref (hp.objs.size + 1) :: vs) (Value.ref (hp.objs.size + 1) :: us) := .cons rfl r1
  have hl : (Value.ref (hp.objs.size + 1) :: us).length = ps.length := by
    have z := F1.len _ _ _ _ hq
    rw [← z, r2.length]
  have hbt := hb ⟨(hp.push (PySem.W.kdv_tup us)).push (PySem.HandSPX.excO C hp.objs.size), g, dr, tk, os⟩ (Value.ref (hp.objs.size + 1) :: us) I2.kIn (by rw [List.append_nil]; exact hl)
  rw [List.append_nil] at hbt
  have hus : us.length ≤ sizeLine := by
    rw [← Paired.length r1, sizeLine_eq]
    omega
  refine wpAny_call (PySem.LwX.call_kw FB (fun Y => PySem.W.excTail_contains Y bm hbm) (I1.kIn _ _ hC) (PySem.W.looks_findIn I1.kIn T.iC) (fun self => PySem.W.bind_fn I1.kIn self T.tI) hus
    (codeAny_mono (F1.run _ X.stack _ _ ⟨Value.ref (hp.objs.size + 1) :: us, []⟩ (Value.ref (hp.objs.size + 1) :: us) _ _ (fun _ _ _ => False) (hr.make C us []) (I2.env0.make C us []) hbt r2 hq) fun r s' hq' => ?_))
  cases r with
  | error er => exact hx pins σ _ _ er s' I2 hq'
  | ok fl =>
    cases fl with
    | ret u =>
      obtain ⟨v, H2, os2, bare2, un2, hok2, rv, ev, d, fs, ea, ed, hd1, q2⟩ := hq'
      subst ev
      obtain ⟨h2, g2, d2, t2, os'⟩ := s'
      exact ⟨rv, mk_end (raises_own T.exC T.tyC) I1 hsz kk un2 hok2 os2 bare2 ea ed hd1 q2⟩
    | next => exact False.elim hq'
    | brk => exact False.elim hq'
    | cont => exact False.elim hq'
end
end L2

/-! R4 -/
/-! ### names and steps -/
namespace Rw
open PySem PySem.Spec PyProof.Rows L2
def top (i : Nat) : Stmt := PySem.Challenge.pw_takendown_k06_threads_made_or_refused.main.body.getD i (.Pass ⟨0, 0, 0, 0⟩)
theorem same_upd {H : Hp} {p : Addr} {o : HO} (h : H p = none) : Same H (upd H p o) := fun b x e => by
  rw [upd_ne (ne_of_none e h)]
  exact e
/-- for i, x in enumerate(tuple) -/
theorem for_enumT {K : PySem.W.Frag} {a : Addr} {xs : List V} {g : TG} {tb : TS} {D : Ends} {σ : L2.St} {H : Hp} (Pv : Nat → L2.St → Hp → Prop) (h0 : Pv 0 σ H) (hl : ∀ i σ H, i ≤ xs.length → Pv i σ H → SqT K H a xs)
    (hs : ∀ i x σ H T, xs[i]? = some x → Pv i σ H → H T = none → g (.ref T) σ (upd H T (.tup [.int (i : Nat), x])) fun σ2 H2 => tb { D with nx := Pv (i + 1), ct := Pv (i + 1), bk := D.nx } σ2 H2) (hd : ∀ σ H, Pv xs.length σ H → D.nx σ H) :
    ∃ W : Nat → Nat → L2.St → Hp → Prop, (∃ m, W 0 m σ H) ∧ ∀ i m σ H, W i m σ H →
      ((IteT K a).stop i H ∧ D.nx σ H) ∨ ((IteT K a).go i H ∧ ∃ N : L2.St → Hp → Prop, (∀ σ' H', N σ' H' → ∃ m', m' < m ∧ W (i + 1) m' σ' H') ∧ ∀ x H', (IteT K a).yld i H x H' → g x σ H' fun σ2 H2 => tb { D with nx := N, ct := N, bk := D.nx } σ2 H2) := by
  refine ⟨fun i m σ H => m = xs.length - i ∧ i ≤ xs.length ∧ Pv i σ H, ⟨xs.length, by simp, Nat.zero_le _, h0⟩, ?_⟩
  rintro i m σ H ⟨rfl, hi, p⟩
  have q := hl i σ H hi p
  by_cases hlt : i < xs.length
  · refine .inr ⟨⟨xs, xs[i], q, by simp [hlt]⟩, Pv (i + 1), fun σ' H' p' => ⟨xs.length - (i + 1), by omega, rfl, hlt, p'⟩, fun v H' y => ?_⟩
    obtain ⟨T, x, rfl, nT, rfl, hx⟩ := y
    exact hs i x σ H T (hx xs q) p nT
  · have e : i = xs.length := by omega
    subst e
    exact .inl ⟨⟨xs, q, rfl⟩, hd σ H p⟩
/-- [.. for c in text] -/
theorem lc_text {z : Str} {g : TG} {tt : TT} {te : TE} {vs : List Nat} {σ : L2.St} {H1 : Hp} {D : Addr} {Qd : Hp → Prop} (Pv : Nat → Hp → Prop) (h0 : Pv 0 (upd H1 D (.lst [])))
    (hs : ∀ i c H, z.cps[i]? = some c → Pv i H → g (.str ⟨#[c]⟩) (wipe σ vs) H fun σ2 H2 => wipe σ2 vs = wipe σ vs ∧ tt σ2 H2 fun b H3 =>
      if b = true then te σ2 H3 fun y H4 => ∃ acc, H4 D = some (.lst acc) ∧ acc.length < sizeLine ∧ Pv (i + 1) (upd H4 D (.lst (acc ++ [y]))) else Pv (i + 1) H3) (hd : ∀ H, Pv z.cps.size H → Qd H) :
    ∃ W : Nat → Nat → Hp → Prop, (∃ m, W 0 m (upd H1 D (.lst []))) ∧ ∀ i m H, W i m H →
      ((Its z).stop i H ∧ Qd H) ∨ ((Its z).go i H ∧ ∃ Nx : Hp → Prop, (∀ H', Nx H' → ∃ m', m' < m ∧ W (i + 1) m' H') ∧ ∀ x H', (Its z).yld i H x H' → g x (wipe σ vs) H' fun σ2 H2 => wipe σ2 vs = wipe σ vs ∧ tt σ2 H2 fun b H3 =>
        if b = true then te σ2 H3 fun y H4 => ∃ acc, H4 D = some (.lst acc) ∧ acc.length < sizeLine ∧ Nx (upd H4 D (.lst (acc ++ [y]))) else Nx H3) := by
  refine ⟨fun i m H => m = z.cps.size - i ∧ i ≤ z.cps.size ∧ Pv i H, ⟨z.cps.size, by simp, Nat.zero_le _, h0⟩, ?_⟩
  rintro i m H ⟨rfl, hi, p⟩
  by_cases hlt : i < z.cps.size
  · refine .inr ⟨hlt, Pv (i + 1), fun H' p' => ⟨z.cps.size - (i + 1), by omega, rfl, hlt, p'⟩, fun x H' y => ?_⟩
    obtain ⟨rfl, c, hc, rfl⟩ := y
    exact hs i c _ hc p
  · have e : i = z.cps.size := by omega
    subst e
    exact .inl ⟨Nat.le_refl _, hd H p⟩
/-- a sign from a to z -/
def letB (c : Nat) : Bool := if (!decide ([c] < [97])) = true then !decide ([122] < [c]) else false
def nameB (z : Str) : Bool := decide (1 ≤ z.length) && decide (z.length ≤ 8) && (z.cps.toList.map letB).all id
abbrev oddTys : List String := ["NoneType", "bool", "int", "list", "tuple", "dict"]
/-- any value, and whether it is a name -/
inductive NV (K : PySem.W.Frag) (H : Hp) : V → Bool → Prop
  | str (z : Str) : z.length ≤ 1000000 → NV K H (.str z) (nameB z)
  | other {v : V} {T : String} : TyX K H v (.type T) → T ∈ oddTys → NV K H v false
def spName (K : PySem.W.Frag) : Sp := fun vs H Q _ => ∃ (v : V) (b : Bool), vs = [v] ∧ NV K H v b ∧ ∀ H', Same H H' → Q (.bl b) H'
theorem len_codes (z : Str) : z.length = z.cps.size := rfl
section
variable {P : Program} {w : World} {K : PySem.W.Frag} {mg : Str → Option Value} {base : Heap}
abbrev sName : Stmt := top 17
theorem scName : FnScope ["value", "letter"] ["value"] (defScope sName) := ⟨rfl, rfl, rfl, by decide +kernel, rfl, by decide +kernel, by decide +kernel⟩
theorem ok_name {f : Addr} {fd : FuncData} (F : Fun K "is_name" "is_name" sName f fd) (m_isinstance : mg "isinstance" = none) (m_str : mg "str" = none) (m_len : mg "len" = none) (m_all : mg "all" = none) {tM : Tok} (mM : mg "MOST_LETTERS" = some (.int 8 tM)) :
    FnOk P w K mg base CX0 1 f fd ["value"] (spName K) := by
  refine F.ok scName (fun vs H Q E h => ?_) (fun cdv A outer s H vs Q E hr h => ?_)
  · obtain ⟨v, b, rfl, _⟩ := h
    rfl
  · obtain ⟨v, b, rfl, hv, q⟩ := h
    refine ⟨_, (pss_cons (ps_if (PW.pt (pw_or (pt_not (pt_val (pe_callB call_isi (by rfl) m_isinstance (by decide +kernel) (pa_cons (pv 0) (pa_cons (pe_bltn (v := .ty "str") (by rfl) m_str (by decide +kernel) rfl) pa_nil))))) (pw_or1 (pt_not (pt_chain op_le op_le pe_int (pe_callB call_len_str (by rfl) m_len PySem.boot_len (pa_cons (pv 0) pa_nil)) (pe_glob (v := .int 8) rfl mM ⟨_, rfl⟩))))))
       (pss_one (ps_ret pe_bl))
       pss_nil)
       (pss_one (ps_ret (pe_callB (cr_all rfl) (by rfl) m_all (by decide +kernel) (pa_cons (pe_lc (own := [("letter", 1)]) (g := gName 1) (tt := tYes) rfl scName.nd (pi_str (pv 0)) (blkOk_by (N := ["value", "letter"]) (sc := defScope sName) (by decide +kernel)) (fun _ _ _ _ _ => pg_name (i := 1) scName.nd rfl (Or.inl rfl)) (fun _ _ _ _ _ => pts_nil) (fun _ _ _ _ _ => (pe_chain op_le_str op_le_str pe_str (pv 1) pe_str))) pa_nil))))), ?_⟩
    cases hv with
    | @other _ T ty hT =>
      have kt : PySem.W.kitOne K (.type T) (.type "str") = some false := by
        simp only [oddTys, List.mem_cons, List.mem_nil_iff, or_false] at hT
        rcases hT with rfl | rfl | rfl | rfl | rfl | rfl <;> exact kit_ty (by decide +kernel)
      exact ⟨_, rfl, _, _, _, _, _, rfl, .ty _, ty, kt, _, rfl, iteT (iteT (q H (Same.refl H)))⟩
    | str z hz =>
      have kt : PySem.W.kitOne K (.type "str") (.type "str") = some true := kit_ty (by decide +kernel)
      have hz2 : z.length ≤ sizeLine := by
        rw [sizeLine_eq]
        omega
      refine ⟨_, rfl, _, _, _, _, _, rfl, .ty _, .base (.str z), kt, _, rfl, iteF ?_⟩
      refine ⟨_, rfl, z, rfl, hz2, _, _, rfl, rfl, _, rfl, ?_⟩
      refine ite2 (fun h1 => ?_) (fun h1 => ?_)
      · have h1' : (1 : Int) ≤ (z.length : Int) := of_decide_eq_true h1
        refine ⟨_, _, rfl, rfl, _, rfl, ?_⟩
        by_cases h2 : (z.length : Int) ≤ 8
        · refine iteNS h2 ?_
          refine ⟨_, rfl, z, rfl, fun D nD => lc_text (fun i H' => Same H H' ∧ H' D = some (.lst (((z.cps.toList.take i).map letB).map V.bl))) ⟨same_upd nD, upd_same⟩ ?_ ?_⟩
          · rintro i c H1 hc ⟨s1, e1⟩
            have hi : i < z.cps.size := (Array.getElem?_eq_some_iff.mp hc).1
            refine ⟨rfl, ?_⟩
            dsimp only [tYes]
            rw [if_pos rfl]
            have fin : ∀ y, y = V.bl (letB c) → ∃ acc, H1 D = some (.lst acc) ∧ acc.length < sizeLine ∧ Same H (upd H1 D (.lst (acc ++ [y]))) ∧ (upd H1 D (.lst (acc ++ [y]))) D = some (.lst (((z.cps.toList.take (i + 1)).map letB).map V.bl)) := by
              rintro y rfl
              refine ⟨_, e1, ?_, fun b o e => ?_, ?_⟩
              · rw [List.length_map, List.length_map, List.length_take, sizeLine_eq]
                have z1 : z.cps.toList.length = z.cps.size := Array.length_toList
                have z2 : z.length = z.cps.size := rfl
                omega
              · rw [upd_ne (ne_of_none e nD)]
                exact s1 b o e
              · have e3 : z.cps.toList[i]? = some c := by rw [Array.getElem?_toList]; exact hc
                rw [upd_same, List.take_add_one, e3, List.map_append, List.map_append]
                rfl
            refine ⟨_, rfl, _, _, rfl, rfl, _, rfl, ?_⟩
            by_cases h3 : (!decide ([c] < [97])) = true
            · refine (if_pos h3).mpr ?_
              refine ⟨_, _, rfl, rfl, fin _ ?_⟩
              unfold letB
              rw [if_pos h3]
              rfl
            · refine (if_neg h3).mpr ?_
              refine fin _ ?_
              unfold letB
              rw [if_neg h3]
          · rintro H1 ⟨s1, e1⟩
            have e2 : z.cps.toList.take z.cps.size = z.cps.toList := by
              rw [List.take_of_length_le]
              rw [Array.length_toList]
              exact Nat.le_refl _
            rw [e2] at e1
            refine ⟨D, _, rfl, .inl (.inl e1), ?_⟩
            have e3 : (z.cps.toList.map letB).all id = nameB z := by
              unfold nameB
              rw [decide_eq_true (show 1 ≤ z.length by omega), decide_eq_true (show z.length ≤ 8 by omega)]
              rfl
            rw [e3]
            exact q H1 s1
        · have e3 : nameB z = false := by
            unfold nameB
            rw [decide_eq_false (show ¬ z.length ≤ 8 by omega), Bool.and_false, Bool.false_and]
          have z := q H (Same.refl H)
          rw [e3] at z
          rw [decide_eq_false h2]
          exact iteT z
      · have h1' : ¬ (1 : Int) ≤ (z.length : Int) := fun e => h1 (decide_eq_true e)
        have e3 : nameB z = false := by
          unfold nameB
          rw [decide_eq_false (show ¬ 1 ≤ z.length by omega), Bool.false_and, Bool.false_and]
        have y := q H (Same.refl H)
        rw [e3] at y
        exact ⟨_, rfl, iteT y⟩
end
end Rw

/-! T1 -/
/-! ### is_step -/
namespace Rw
open PySem PySem.Spec PyProof.Rows L2
theorem tyx_tup {K : PySem.W.Frag} {H : Hp} {p : Addr} {xs : List V} (h : SqT K H p xs) : TyX K H (.ref p) (.type "tuple") := by
  rcases h with (h | ⟨o, h⟩) | ⟨o, its, n, hl, hc, r⟩
  · exact .base (.tup h)
  · exact .fTuple h
  · exact .kTuple hl hc
abbrev noTup : List String := ["NoneType", "bool", "int", "list", "str", "dict"]
/-- a def as it is called -/
def Called (K : PySem.W.Frag) (mg : Str → Option Value) (x : Str) (ps : List Str) (f : Addr) (fd : FuncData) : Prop := mg x = some (.ref f) ∧ PySem.W.keepIn K (.ref f) = true ∧ Binds K fd ps []
section
variable {P : Program} {w : World} {K : PySem.W.Frag} {mg : Str → Option Value} {base : Heap}
end
end Rw

/-! ### what is never come to; not in a tuple of data -/
namespace L2
open PySem PySem.Spec PyProof.Rows
def tDead : TE := fun _ _ _ => False
def sDead : TS := fun _ _ _ => False
theorem pe_dead {X : Cx} {e : Expr} : PE X e tDead := ⟨fun _ _ _ _ _ _ h => False.elim h⟩
theorem ps_dead {X : Cx} {st : Stmt} : PS X st sDead := ⟨fun _ _ _ _ _ _ h => False.elim h⟩
theorem pss_dead {X : Cx} {st : List Stmt} : PSs X st sDead := ⟨fun _ _ _ _ _ _ h => False.elim h⟩
def rNotInTD (K : PySem.W.Frag) : R2 := fun x y H Q => ∃ d ds, Dp K H x d ∧ Dp K H y (.tuple ds) ∧ SeqAt.shaped d = true ∧ SeqAt.shaped (.tuple ds) = true ∧ Q (.bl (!ds.any fun z => PyData.eqv z d)) H
theorem op_notInTD {X : Cx} (hu : X.A.units + 65 < cLine) : OpR X (compareOp .NotIn) (rNotInTD X.K) := by
  intro pins s σ H x y v u Q I rx ry h
  obtain ⟨d, ds, hd, he, sd, se, q⟩ := h
  obtain ⟨as, r1⟩ := Dp.reads I d x v hd rx
  obtain ⟨bs, r2⟩ := Dp.reads I (.tuple ds) y u he ry
  exact SeqAt.notIn_tuple_reads r2 r1 (SeqAt.canLay_of_shaped se) (SeqAt.canLay_of_shaped sd) (room_in_shaped sd hu) ⟨.bl _, H, I, rfl, q⟩
theorem Room.units65 {k : Nat} {A : Around} (r : Room k A) : A.units + 65 < cLine := by have := r.un; omega
theorem Same.tupS {K : PySem.W.Frag} {H H' : Hp} {a : Addr} {xs : List V} (e : Same H H') (h : SqT K H a xs) : SqT K H' a xs := h.ext e
end L2
/-! ### steps, and the locks behind them -/
namespace Rw
open PySem PySem.Spec PyProof.Rows L2
abbrev Step := Str × Str
inductive All2 {α β : Type} (R : α → β → Prop) : List α → List β → Prop
  | nil : All2 R [] []
  | cons {a : α} {b : β} {as : List α} {bs : List β} : R a b → All2 R as bs → All2 R (a :: as) (b :: bs)
theorem All2.length {α β : Type} {R : α → β → Prop} {as : List α} {bs : List β} (h : All2 R as bs) : as.length = bs.length := by
  induction h with
  | nil => rfl
  | cons _ _ ih => exact congrArg (· + 1) ih
theorem All2.get {α β : Type} {R : α → β → Prop} {as : List α} {bs : List β} (h : All2 R as bs) : ∀ {i : Nat} {a : α}, as[i]? = some a → ∃ b, bs[i]? = some b ∧ R a b := by
  induction h with
  | nil => intro i a e; cases e
  | cons r _ ih =>
    intro i a e
    cases i with
    | zero => cases e; exact ⟨_, rfl, r⟩
    | succ i => exact ih e
theorem All2.mono {α β : Type} {R S : α → β → Prop} (f : ∀ a b, R a b → S a b) {as : List α} {bs : List β} (h : All2 R as bs) : All2 S as bs := by
  induction h with
  | nil => exact .nil
  | cons r _ ih => exact .cons (f _ _ r) ih
theorem All2.append {α β : Type} {R : α → β → Prop} {as as' : List α} {bs bs' : List β} (h : All2 R as bs) (h' : All2 R as' bs') : All2 R (as ++ as') (bs ++ bs') := by
  induction h with
  | nil => exact h'
  | cons r _ ih => exact .cons r ih
theorem All2.drop {α β : Type} {R : α → β → Prop} {as : List α} {bs : List β} (h : All2 R as bs) : ∀ n, All2 R (as.drop n) (bs.drop n) := by
  induction h with
  | nil => intro n; simp only [List.drop_nil]; exact .nil
  | cons r t ih =>
    intro n
    cases n with
    | zero => exact .cons r t
    | succ n => exact ih n
theorem All2.take {α β : Type} {R : α → β → Prop} {as : List α} {bs : List β} (h : All2 R as bs) : ∀ n, All2 R (as.take n) (bs.take n) := by
  induction h with
  | nil => intro n; simp only [List.take_nil]; exact .nil
  | cons r t ih =>
    intro n
    cases n with
    | zero => exact .nil
    | succ n => exact .cons r (ih n)
def StepAt (K : PySem.W.Frag) (H : Hp) (v : V) (s : Step) : Prop := ∃ p, v = .ref p ∧ SqT K H p [.str s.1, .str s.2]
def StepsAt (K : PySem.W.Frag) (H : Hp) : List V → List Step → Prop := All2 (StepAt K H)
def TxtT (K : PySem.W.Frag) (H : Hp) (v : V) (ns : List Str) : Prop := ∃ p, v = .ref p ∧ SqT K H p (ns.map V.str)
theorem StepAt.same {K : PySem.W.Frag} {H H' : Hp} (e : Same H H') {v : V} {s : Step} (h : StepAt K H v s) : StepAt K H' v s := let ⟨p, q, r⟩ := h; ⟨p, q, e.tupS r⟩
theorem StepsAt.same {K : PySem.W.Frag} {H H' : Hp} (e : Same H H') {vs : List V} {ss : List Step} (h : StepsAt K H vs ss) : StepsAt K H' vs ss := by
  exact h.mono fun _ _ a => a.same e
theorem TxtT.same {K : PySem.W.Frag} {H H' : Hp} (e : Same H H') {v : V} {s : List Str} (h : TxtT K H v s) : TxtT K H' v s := let ⟨p, q, r⟩ := h; ⟨p, q, e.tupS r⟩
theorem dec_str {a b : Str} : decide (V.str a = V.str b) = decide (a = b) := by
  by_cases h : a = b
  · rw [h, decide_eq_true rfl, decide_eq_true rfl]
  · rw [decide_eq_false h, decide_eq_false (fun e => h (V.str.inj e))]
theorem sIx_m1 (n d : Nat) : HT.sIx n d (some (-1)) = n - 1 := by
  show (if (-1 : Int) < 0 then ((-1 : Int) + (n : Int)).toNat else min (-1 : Int).toNat n) = n - 1
  rw [if_pos (by decide)]
  omega
theorem cut_m1 (xs : List V) : cutV xs none (some (-1)) = xs.dropLast := by
  show (xs.drop (HT.sIx xs.length 0 none)).take (HT.sIx xs.length xs.length (some (-1)) - HT.sIx xs.length 0 none) = xs.dropLast
  rw [sIx_m1]
  show (xs.drop 0).take (xs.length - 1 - 0) = _
  rw [List.drop_zero, Nat.sub_zero, List.dropLast_eq_take]
section
variable {P : Program} {w : World} {K : PySem.W.Frag} {mg : Str → Option Value} {base : Heap}
end
end Rw

/-! ### the locks along the steps -/
namespace Rw
open PySem PySem.Spec PyProof.Rows L2
theorem sqT_updL {K : PySem.W.Frag} {H : Hp} {o a : Addr} {ys xs : List V} {u : HO} (ho : H o = some (.lst ys)) (h : SqT K H a xs) : SqT K (upd H o u) a xs := by
  rcases h with (h | ⟨ob, h⟩) | h
  · exact .inl (.inl (by rw [upd_ne (fun e => by rw [e, ho] at h; cases h)]; exact h))
  · exact .inl (.inr ⟨ob, by rw [upd_ne (fun e => by rw [e, ho] at h; cases h)]; exact h⟩)
  · exact .inr h
theorem TxtT.updL {K : PySem.W.Frag} {H : Hp} {o : Addr} {ys : List V} {v : V} {ns : List Str} {u : HO} (ho : H o = some (.lst ys)) (h : TxtT K H v ns) : TxtT K (upd H o u) v ns := let ⟨p, e, q⟩ := h; ⟨p, e, sqT_updL ho q⟩
theorem same_updN {H H' : Hp} {o : Addr} {u : HO} (no : H o = none) (s : Same H H') : Same H (upd H' o u) := fun b z e => by
  rw [upd_ne (ne_of_none e no)]
  exact s b z e
theorem take_snoc {α : Type} {xs : List α} {i : Nat} {x : α} (h : xs[i]? = some x) : xs.take (i + 1) = xs.take i ++ [x] := by
  rw [List.take_add_one, h]
  rfl
section
variable {P : Program} {w : World} {K : PySem.W.Frag} {mg : Str → Option Value} {base : Heap}
end
end Rw

/-! ### which step takes or gives wrongly -/
namespace Rw
open PySem PySem.Spec PyProof.Rows L2
def txtD (ns : List Str) : PyData := .tuple (ns.map PyData.str)
def stepD (s : Step) : PyData := .tuple [.str s.1, .str s.2]
theorem eqvAll_txt : ∀ as bs : List Str, PyData.eqvAll (as.map PyData.str) (bs.map PyData.str) = decide (as = bs)
  | [], [] => rfl
  | [], b :: bs => by rw [decide_eq_false (by simp)]; rfl
  | a :: as, [] => by rw [decide_eq_false (by simp)]; rfl
  | a :: as, b :: bs => by
    show (a == b && PyData.eqvAll (as.map PyData.str) (bs.map PyData.str)) = _
    rw [eqvAll_txt as bs]
    by_cases h : a = b
    · subst h
      rw [beq_self_eq_true, Bool.true_and]
      by_cases h2 : as = bs
      · subst h2
        rw [decide_eq_true rfl, decide_eq_true rfl]
      · rw [decide_eq_false h2, decide_eq_false (fun e => h2 (List.cons.inj e).2)]
    · rw [beq_eq_false_iff_ne.mpr h, Bool.false_and, decide_eq_false (fun e => h (List.cons.inj e).1)]
theorem eqv_txt (as bs : List Str) : PyData.eqv (txtD as) (txtD bs) = decide (as = bs) := by
  unfold txtD
  rw [show PyData.eqv (.tuple (as.map PyData.str)) (.tuple (bs.map PyData.str)) = PyData.eqvAll (as.map PyData.str) (bs.map PyData.str) by simp only [PyData.eqv]]
  exact eqvAll_txt as bs
theorem stepD_txt (s : Step) : stepD s = txtD [s.1, s.2] := rfl
theorem eqv_step (s t : Step) : PyData.eqv (stepD s) (stepD t) = decide (s = t) := by
  rw [stepD_txt, stepD_txt, eqv_txt]
  by_cases h : s = t
  · subst h
    rw [decide_eq_true rfl, decide_eq_true rfl]
  · rw [decide_eq_false h, decide_eq_false]
    intro e
    have e1 := (List.cons.inj e).1
    have e2 := (List.cons.inj (List.cons.inj e).2).1
    exact h (Prod.ext e1 e2)
theorem any_step (ss : List Step) (t : Step) : (ss.map stepD).any (fun z => PyData.eqv z (stepD t)) = decide (t ∈ ss) := by
  induction ss with
  | nil => rw [decide_eq_false (by simp)]; rfl
  | cons s ss ih =>
    rw [List.map_cons, List.any_cons, ih, eqv_step]
    by_cases h : s = t
    · subst h
      rw [decide_eq_true rfl, decide_eq_true List.mem_cons_self, Bool.true_or]
    · rw [decide_eq_false h, Bool.false_or]
      by_cases h2 : t ∈ ss
      · rw [decide_eq_true h2, decide_eq_true (List.mem_cons_of_mem _ h2)]
      · rw [decide_eq_false h2, decide_eq_false]
        intro e
        rcases List.mem_cons.mp e with e | e
        · exact h e.symm
        · exact h2 e
abbrev sOk (n : Str) : Prop := PyData.strOk n = true
theorem txt_lay : ∀ ns : List Str, (∀ n ∈ ns, sOk n) → PyData.canLayAll0 (ns.map PyData.str) = true ∧ PyData.depthAll (ns.map PyData.str) = 0
  | [], _ => ⟨rfl, rfl⟩
  | n :: ns, h => by
    obtain ⟨a, b⟩ := txt_lay ns (fun x hx => h x (List.mem_cons_of_mem _ hx))
    refine ⟨?_, ?_⟩
    · show (PyData.canLay0 (.str n) && PyData.canLayAll0 (ns.map PyData.str)) = true
      rw [a, Bool.and_true]
      have e : PyData.canLay0 (.str n) = PyData.strOk n := by simp only [PyData.canLay0]
      rw [e]
      exact h n List.mem_cons_self
    · show max (PyData.depth (.str n)) (PyData.depthAll (ns.map PyData.str)) = 0
      have e : PyData.depth (.str n) = 0 := by simp only [PyData.depth]
      rw [b, e]
      rfl
theorem shaped_of {d : PyData} (h1 : d.canLay0 = true) (h2 : d.depth ≤ 64) : SeqAt.shaped d = true := by
  show (d.canLay0 && decide (d.depth ≤ 64)) = true
  rw [h1, decide_eq_true h2]
  rfl
theorem txtD_lay {ns : List Str} (h : ∀ n ∈ ns, sOk n) : (txtD ns).canLay0 = true ∧ (txtD ns).depth = 1 := by
  obtain ⟨a, b⟩ := txt_lay ns h
  unfold txtD
  simp only [PyData.canLay0, PyData.depth]
  rw [a, b]
  exact ⟨rfl, rfl⟩
theorem txtD_shaped {ns : List Str} (h : ∀ n ∈ ns, sOk n) : SeqAt.shaped (txtD ns) = true := by
  obtain ⟨a, b⟩ := txtD_lay h
  exact shaped_of a (by omega)
theorem dp_txts {K : PySem.W.Frag} {H : Hp} : ∀ ns : List Str, DpAll K H (ns.map V.str) (ns.map PyData.str)
  | [] => .nil
  | n :: ns => .cons (.str n) (dp_txts ns)
theorem TxtT.dp {K : PySem.W.Frag} {H : Hp} {v : V} {ns : List Str} (h : TxtT K H v ns) : Dp K H v (txtD ns) := by
  obtain ⟨p, rfl, q⟩ := h
  exact .tup q (dp_txts ns)
theorem StepAt.dp {K : PySem.W.Frag} {H : Hp} {v : V} {s : Step} (h : StepAt K H v s) : Dp K H v (stepD s) := by
  obtain ⟨p, rfl, q⟩ := h
  exact .tup q (dp_txts [s.1, s.2])
theorem StepsAt.dp {K : PySem.W.Frag} {H : Hp} {xs : List V} {ss : List Step} (h : StepsAt K H xs ss) : DpAll K H xs (ss.map stepD) := by
  unfold StepsAt at h
  induction h with
  | nil => exact .nil
  | cons a _ ih => exact .cons a.dp ih
theorem inV_txt (n : Str) : ∀ ns : List Str, inV (.str n) (ns.map V.str) = decide (n ∈ ns)
  | [] => by rw [decide_eq_false (by simp)]; rfl
  | m :: ns => by
    have e : inV (.str n) ((m :: ns).map V.str) = ((m == n) || inV (.str n) (ns.map V.str)) := rfl
    rw [e, inV_txt n ns]
    by_cases h : m = n
    · subst h
      rw [beq_self_eq_true, Bool.true_or, decide_eq_true List.mem_cons_self]
    · rw [beq_eq_false_iff_ne.mpr h, Bool.false_or]
      by_cases h2 : n ∈ ns
      · rw [decide_eq_true h2, decide_eq_true (List.mem_cons_of_mem _ h2)]
      · rw [decide_eq_false h2, decide_eq_false]
        intro z
        rcases List.mem_cons.mp z with z | z
        · exact h z.symm
        · exact h2 z
theorem flat_txt : ∀ ns : List Str, (ns.map V.str).all flatV = true
  | [] => rfl
  | n :: ns => by
    show (flatV (.str n) && (ns.map V.str).all flatV) = true
    rw [flat_txt ns]
    rfl
/-- a + b of tuples of texts -/
theorem cat_txt {K : PySem.W.Frag} {H : Hp} {u v : V} {as bs : List Str} {Q : VK} (ha : TxtT K H u as) (hb : TxtT K H v bs) (hl : as.length + bs.length ≤ 1000) (q : ∀ H' u, Same H H' → TxtT K H' u (as ++ bs) → Q u H') : rCatA K u v H Q := by
  obtain ⟨a, rfl, ha⟩ := ha
  obtain ⟨b, rfl, hb⟩ := hb
  refine ⟨a, b, _, _, rfl, rfl, ha, hb, ?_, fun e => ?_, fun _ e => ?_, fun _ _ p np => ?_⟩
  · rw [List.length_map, List.length_map, sizeLine_eq]
    omega
  · have e2 : as = [] := List.map_eq_nil_iff.mp e
    subst e2
    exact q H _ (Same.refl H) ⟨b, rfl, hb⟩
  · have e2 : bs = [] := List.map_eq_nil_iff.mp e
    subst e2
    rw [List.append_nil] at q
    exact q H _ (Same.refl H) ⟨a, rfl, ha⟩
  · refine q _ _ (same_upd np) ⟨p, rfl, SqT.of ?_⟩
    rw [upd_same, List.map_append]
/-- t[-1:] of a tuple of texts -/
theorem last_txt {K : PySem.W.Frag} {H : Hp} {u : V} {ns : List Str} {Q : VK} (h : TxtT K H u ns) (q : ∀ H' u, Same H H' → TxtT K H' u (ns.drop (ns.length - 1)) → Q u H') : rSlA K u (some (-1)) none H Q := by
  obtain ⟨a, rfl, h⟩ := h
  have e1 : HT.sIx (ns.map V.str).length 0 (some (-1)) = ns.length - 1 := by rw [List.length_map]; exact sIx_m1 _ _
  refine ⟨a, _, rfl, h, fun c => ?_, fun c u nu => ?_⟩
  · have c1 := c.1
    rw [e1] at c1
    rw [c1, List.drop_zero] at q
    exact q H _ (Same.refl H) ⟨a, rfl, h⟩
  · refine q _ _ (same_upd nu) ⟨u, rfl, SqT.of ?_⟩
    rw [upd_same]
    have e2 : cutV (ns.map V.str) (some (-1)) none = (ns.drop (ns.length - 1)).map V.str := by
      show ((ns.map V.str).drop (HT.sIx (ns.map V.str).length 0 (some (-1)))).take (HT.sIx (ns.map V.str).length (ns.map V.str).length none - HT.sIx (ns.map V.str).length 0 (some (-1))) = _
      rw [e1, List.map_drop]
      show ((ns.map V.str).drop (ns.length - 1)).take ((ns.map V.str).length - (ns.length - 1)) = _
      rw [List.take_of_length_le]
      rw [List.length_drop]
      exact Nat.le_refl _
    rw [e2]
section
variable {P : Program} {w : World} {K : PySem.W.Frag} {mg : Str → Option Value} {base : Heap}
end
end Rw

/-! ### the steps that take or give wrongly -/
namespace Rw
open PySem PySem.Spec PyProof.Rows L2
/-- t[i + 1:] -/
theorem tail_tup {K : PySem.W.Frag} {H : Hp} {p : Addr} {xs : List V} {i : Nat} {Q : VK} (h : SqT K H p xs) (hi : i < xs.length) (q : ∀ H' u, Same H H' → SqT K H' u (xs.drop (i + 1)) → Q (.ref u) H') : rSlA K (.ref p) (some ((i : Int) + 1)) none H Q := by
  have e1 : HT.sIx xs.length 0 (some ((i : Int) + 1)) = i + 1 := by
    have z := HT.sIx_nat xs.length 0 (i + 1)
    rw [show (((i + 1 : Nat) : Int)) = (i : Int) + 1 by omega] at z
    rw [z]
    omega
  refine ⟨p, _, rfl, h, fun c => ?_, fun c u nu => ?_⟩
  · have c1 := c.1
    rw [e1] at c1
    omega
  · refine q _ _ (same_upd nu) (SqT.of ?_)
    rw [upd_same]
    have e2 : cutV xs (some ((i : Int) + 1)) none = xs.drop (i + 1) := by
      show (xs.drop (HT.sIx xs.length 0 (some ((i : Int) + 1)))).take (HT.sIx xs.length xs.length none - HT.sIx xs.length 0 (some ((i : Int) + 1))) = _
      rw [e1]
      show (xs.drop (i + 1)).take (xs.length - (i + 1)) = _
      rw [List.take_of_length_le]
      rw [List.length_drop]
      exact Nat.le_refl _
    rw [e2]
section
variable {P : Program} {w : World} {K : PySem.W.Frag} {mg : Str → Option Value} {base : Heap}
end
end Rw

/-! ### values that stay what they are; an own error raised -/
namespace Rw
open PySem PySem.Spec PyProof.Rows L2
theorem TyX_same {K : PySem.W.Frag} {H H' : Hp} (e : Same H H') {v : V} {t : Value} (h : TyX K H v t) : TyX K H' v t := by
  cases h with
  | base h =>
    cases h with
    | non => exact .base .non
    | bl x => exact .base (.bl x)
    | int i => exact .base (.int i)
    | str x => exact .base (.str x)
    | flt x => exact .base (.flt x)
    | lst h => exact .base (.lst (e _ _ h))
    | frz h => exact .base (.frz (e _ _ h))
    | tup h => exact .base (.tup (e _ _ h))
    | dK h => exact .base (.dK (e _ _ h))
    | dT h => exact .base (.dT (e _ _ h))
    | ins h a b c d f => exact .base (.ins (e _ _ h) a b c d f)
  | byt b => exact .byt b
  | set h => exact .set (e _ _ h)
  | kList h c => exact .kList h c
  | kTuple h c => exact .kTuple h c
  | kDict h c => exact .kDict h c
  | fTuple h => exact .fTuple (e _ _ h)
  | fDict h => exact .fDict (e _ _ h)
theorem NV.same {K : PySem.W.Frag} {H H' : Hp} (e : Same H H') {v : V} {b : Bool} (h : NV K H v b) : NV K H' v b := by
  cases h with
  | str z hz => exact .str z hz
  | other t m => exact .other (TyX_same e t) m
/-- for i, x in enumerate(list) -/
theorem for_enum {K : PySem.W.Frag} {a : Addr} {xs : List V} {g : TG} {tb : TS} {D : Ends} {σ : L2.St} {H : Hp} (Pv : Nat → L2.St → Hp → Prop) (h0 : Pv 0 σ H) (hl : ∀ i σ H, i ≤ xs.length → Pv i σ H → SqL K H a xs)
    (hs : ∀ i x σ H T, xs[i]? = some x → Pv i σ H → H T = none → g (.ref T) σ (upd H T (.tup [.int (i : Nat), x])) fun σ2 H2 => tb { D with nx := Pv (i + 1), ct := Pv (i + 1), bk := D.nx } σ2 H2) (hd : ∀ σ H, Pv xs.length σ H → D.nx σ H) :
    ∃ W : Nat → Nat → L2.St → Hp → Prop, (∃ m, W 0 m σ H) ∧ ∀ i m σ H, W i m σ H →
      ((Ite K a).stop i H ∧ D.nx σ H) ∨ ((Ite K a).go i H ∧ ∃ N : L2.St → Hp → Prop, (∀ σ' H', N σ' H' → ∃ m', m' < m ∧ W (i + 1) m' σ' H') ∧ ∀ x H', (Ite K a).yld i H x H' → g x σ H' fun σ2 H2 => tb { D with nx := N, ct := N, bk := D.nx } σ2 H2) := by
  refine ⟨fun i m σ H => m = xs.length - i ∧ i ≤ xs.length ∧ Pv i σ H, ⟨xs.length, by simp, Nat.zero_le _, h0⟩, ?_⟩
  rintro i m σ H ⟨rfl, hi, p⟩
  have q := hl i σ H hi p
  by_cases hlt : i < xs.length
  · refine .inr ⟨⟨xs, xs[i], q, by simp [hlt]⟩, Pv (i + 1), fun σ' H' p' => ⟨xs.length - (i + 1), by omega, rfl, hlt, p'⟩, fun v H' y => ?_⟩
    obtain ⟨T, x, rfl, nT, rfl, hx⟩ := y
    exact hs i x σ H T (hx xs q) p nT
  · have e : i = xs.length := by omega
    subst e
    exact .inl ⟨⟨xs, q, Nat.le_refl _⟩, hd σ H p⟩
def SameBut (a : Addr) (H H' : Hp) : Prop := ∀ b o, b ≠ a → H b = some o → H' b = some o
def spR1 (K : PySem.W.Frag) (n : Str) : Sp := fun vs H Q _ => ∃ (a C fI : Addr) (v : V), vs = [.ref a, v] ∧ OexG K C fI ∧ PySem.W.findIn K (.ref C) n = some none ∧ H a = some (exo a C none) ∧
  ∀ H' d, SameBut a H H' → H' a = some (exo a C (some d)) → H' d = some (exd d [(n, v)]) → H d = none → d ≠ a → Q .non H'
/-- what a raise of it leaves -/
def Left (H : Hp) (n : Str) (v : V) (d : Addr) (H' : Hp) : Prop := Same H H' ∧ H d = none ∧ H' d = some (.xd [(n, v)])
theorem Left.before {H0 H H' : Hp} {n : Str} {v : V} {d : Addr} (s : Same H0 H) (h : Left H n v d H') : Left H0 n v d H' := ⟨s.trans h.1, s.free h.2.1, h.2.2⟩
theorem raise1 {K : PySem.W.Frag} {C fI a : Addr} {H : Hp} {n : Str} {v : V} {Q : XK} (T : OexG K C fI) (no : PySem.W.findIn K (.ref C) n = some none) (na : H a = none) (q : ∀ d H', Left H n v d H' → Q (.ref C) (some d) H') :
    spR1 K n [.ref a, v] (upd H a (exo a C none)) (fun u H2 => u = .non ∧ ∃ (d : Addr) (fs : List (Str × V)), H2 a = some (exo a C (some d)) ∧ H2 d = some (exd d fs) ∧ H d = none ∧ Q (.ref C) (some d) (upd (del H2 a) d (.xd fs))) (fun _ _ _ => False) := by
  refine ⟨a, C, fI, v, rfl, T, no, upd_same, fun H' d sb e1 e2 nd ne => ⟨rfl, d, _, e1, e2, ?_, q _ _ ⟨fun b o hb => ?_, ?_, upd_same⟩⟩⟩
  · rw [upd_ne ne] at nd
    exact nd
  · have hb1 : b ≠ a := ne_of_none hb na
    rw [upd_ne ne] at nd
    rw [upd_ne (ne_of_none hb nd), del_ne hb1]
    exact sb b o hb1 (by rw [upd_ne hb1]; exact hb)
  · rw [upd_ne ne] at nd
    exact nd
structure Er (P : Program) (w : World) (K : PySem.W.Frag) (mg : Str → Option Value) (base : Heap) (x n : Str) (C fI : Addr) (fd : FuncData) : Prop where
  g : mg x = some (.ref C)
  o : OexG K C fI
  no : PySem.W.findIn K (.ref C) n = some none
  F : FnOk P w K mg base CX0 1 fI fd ["self", n] (spR1 K n)
  b : Binds K fd ["self", n] []
theorem all_some {α : Type} : ∀ rs : List (Option α), (∀ j, j < rs.length → ∃ s, rs[j]? = some (some s)) → ∃ ss : List α, rs = ss.map some
  | [], _ => ⟨[], rfl⟩
  | r :: rs, h => by
    obtain ⟨s, e⟩ := h 0 (Nat.zero_lt_succ _)
    obtain ⟨ss, rfl⟩ := all_some rs fun j hj => h (j + 1) (Nat.succ_lt_succ hj)
    cases e
    exact ⟨s :: ss, rfl⟩
section
variable {P : Program} {w : World} {K : PySem.W.Frag} {mg : Str → Option Value} {base : Heap}
end
end Rw

/-! ### rows made, added, listed -/
namespace Rw
open PySem PySem.Spec PyProof.Rows L2
theorem passX {P : Program} {w : World} {K : PySem.W.Frag} {mg : Str → Option Value} {base : Heap} {N : List Str} {q : Str} {sc : Scope} {f : Addr} {cdv : Value} {A : Around} {outer : List Env} {s : Shared} {H : Hp} {E : XK} :
    Passes (L2.CX P w) (cxOf (L2.CX P w) P w K mg base N q sc f cdv A outer s H E) E := passes_call (takes_of rfl rfl rfl rfl) fun _ _ _ _ h => h
theorem but_of {x : Addr} {H H' : Hp} (s : Same H H') : SameBut x H H' := fun b o _ e => s b o e
theorem SameBut.trans {x : Addr} {H H1 H2 : Hp} (a : SameBut x H H1) (b : SameBut x H1 H2) : SameBut x H H2 := fun c o n e => b c o n (a c o n e)
theorem but_upd {x : Addr} {H : Hp} {u : HO} : SameBut x H (upd H x u) := fun b o n e => by
  rw [upd_ne n]
  exact e
theorem ne_of_ins {H : Hp} {x C dx a : Addr} {fs : List (Str × V)} {ys : List V} (hx : H x = some (.ins C dx fs)) (ha : H a = some (.lst ys)) : a ≠ x := fun e => by
  rw [e, hx] at ha
  cases ha
theorem sqT_but {K : PySem.W.Frag} {H H' : Hp} {x C dx a : Addr} {fs : List (Str × V)} {xs : List V} (b : SameBut x H H') (hx : H x = some (.ins C dx fs)) (h : SqT K H a xs) : SqT K H' a xs := by
  rcases h with (h | ⟨ob, h⟩) | h
  · exact .inl (.inl (b _ _ (fun e => by rw [e, hx] at h; cases h) h))
  · exact .inl (.inr ⟨ob, b _ _ (fun e => by rw [e, hx] at h; cases h) h⟩)
  · exact .inr h
section
variable {P : Program} {w : World} {K : PySem.W.Frag} {mg : Str → Option Value} {base : Heap}
end
end Rw

/-! ### rows made of tuples, added, listed -/
namespace Rw
open PySem PySem.Spec PyProof.Rows L2
theorem cat_any {K : PySem.W.Frag} {H : Hp} {a b : Addr} {xs ys : List V} {Q : VK} (ha : SqT K H a xs) (hb : SqT K H b ys) (hl : xs.length + ys.length ≤ 1000) (q : ∀ H' p, Same H H' → SqT K H' p (xs ++ ys) → Q (.ref p) H') : rCatA K (.ref a) (.ref b) H Q := by
  refine ⟨a, b, _, _, rfl, rfl, ha, hb, ?_, fun e => ?_, fun _ e => ?_, fun _ _ p np => ?_⟩
  · rw [sizeLine_eq]
    omega
  · subst e
    exact q H _ (Same.refl H) hb
  · subst e
    rw [List.append_nil] at q
    exact q H _ (Same.refl H) ha
  · exact q _ _ (same_upd np) (SqT.of upd_same)
section
variable {P : Program} {w : World} {K : PySem.W.Frag} {mg : Str → Option Value} {base : Heap}
end
end Rw

/-! ### what the law draws -/
namespace Rw
open PySem PySem.Spec PyProof.Rows L2
/-- the pool at o -/
def PoolAt (H : Hp) (o q : Addr) : Prop := ∃ (at_ : Nat) (ns : List Int), H o = some (.lst [.ref q, .int (at_ : Nat)]) ∧ q ≠ o ∧ H q = some (.lst (ns.map V.int)) ∧ ns.length ≤ 1000 ∧ ∀ n ∈ ns, 0 ≤ n ∧ n < 1000
theorem PoolAt.same {H H' : Hp} {o q : Addr} (e : Same H H') (h : PoolAt H o q) : PoolAt H' o q := let ⟨a, ns, h1, h2, h3, h4⟩ := h; ⟨a, ns, e _ _ h1, h2, e _ _ h3, h4⟩
def spPool (K : PySem.W.Frag) : Sp := fun vs H Q _ => ∃ (cell salt many : Int), vs = [.int cell, .int salt, .int many] ∧ 0 ≤ salt ∧ salt ≤ 1000000 ∧ 0 ≤ many ∧ many ≤ 400 ∧ ∀ H' o q, Same H H' → H o = none → PoolAt H' o q → Q (.ref o) H'
def spDraw (K : PySem.W.Frag) : Sp := fun vs H Q _ => ∃ (o q : Addr) (many : Int), vs = [.ref o, .int many] ∧ PoolAt H o q ∧ 1 ≤ many ∧ many ≤ 1000 ∧ ∀ H' n, SameBut o H H' → PoolAt H' o q → 0 ≤ n → n < many → Q (.int n) H'
def spPick (K : PySem.W.Frag) : Sp := fun vs H Q _ => ∃ (o q l : Addr) (xs : List V), vs = [.ref o, .ref l] ∧ PoolAt H o q ∧ l ≠ o ∧ SqL K H l xs ∧ xs ≠ [] ∧ xs.length ≤ 1000 ∧ ∀ H' x, SameBut o H H' → PoolAt H' o q → x ∈ xs → Q x H'
def spTruth (K : PySem.W.Frag) : Sp := fun vs H Q _ => ∃ a b : Bool, vs = [.bl a, .bl b] ∧ ∀ H', Same H H' → Q (.bl (decide (a = b))) H'
theorem sqL_but {K : PySem.W.Frag} {H H' : Hp} {x a : Addr} {xs : List V} (b : SameBut x H H') (n : a ≠ x) (h : SqL K H a xs) : SqL K H' a xs := by
  rcases h with (h | ⟨ob, h⟩) | h
  · exact .inl (.inl (b _ _ n h))
  · exact .inl (.inr ⟨ob, b _ _ n h⟩)
  · exact .inr h
section
variable {P : Program} {w : World} {K : PySem.W.Frag} {mg : Str → Option Value} {base : Heap}
end
end Rw

/-! ### what the law expects of a list -/
namespace Rw
open PySem PySem.Spec PyProof.Rows L2
/-- [.. for i, x in enumerate(list)] -/
theorem lc_enum {K : PySem.W.Frag} {a : Addr} {xs : List V} {g : TG} {tt : TT} {te : TE} {vs : List Nat} {σ : L2.St} {H1 : Hp} {D : Addr} {Qd : Hp → Prop} (Pv : Nat → Hp → Prop) (h0 : Pv 0 (upd H1 D (.lst []))) (hl : ∀ i H, i ≤ xs.length → Pv i H → SqL K H a xs)
    (hs : ∀ i x H T, xs[i]? = some x → Pv i H → H T = none → g (.ref T) (wipe σ vs) (upd H T (.tup [.int (i : Nat), x])) fun σ2 H2 => wipe σ2 vs = wipe σ vs ∧ tt σ2 H2 fun b H3 =>
      if b = true then te σ2 H3 fun y H4 => ∃ acc, H4 D = some (.lst acc) ∧ acc.length < sizeLine ∧ Pv (i + 1) (upd H4 D (.lst (acc ++ [y]))) else Pv (i + 1) H3) (hd : ∀ H, Pv xs.length H → Qd H) :
    ∃ W : Nat → Nat → Hp → Prop, (∃ m, W 0 m (upd H1 D (.lst []))) ∧ ∀ i m H, W i m H →
      ((Ite K a).stop i H ∧ Qd H) ∨ ((Ite K a).go i H ∧ ∃ Nx : Hp → Prop, (∀ H', Nx H' → ∃ m', m' < m ∧ W (i + 1) m' H') ∧ ∀ x H', (Ite K a).yld i H x H' → g x (wipe σ vs) H' fun σ2 H2 => wipe σ2 vs = wipe σ vs ∧ tt σ2 H2 fun b H3 =>
        if b = true then te σ2 H3 fun y H4 => ∃ acc, H4 D = some (.lst acc) ∧ acc.length < sizeLine ∧ Nx (upd H4 D (.lst (acc ++ [y]))) else Nx H3) := by
  refine ⟨fun i m H => m = xs.length - i ∧ i ≤ xs.length ∧ Pv i H, ⟨xs.length, by simp, Nat.zero_le _, h0⟩, ?_⟩
  rintro i m H ⟨rfl, hi, p⟩
  have q := hl i H hi p
  by_cases hlt : i < xs.length
  · refine .inr ⟨⟨xs, xs[i], q, by simp [hlt]⟩, Pv (i + 1), fun H' p' => ⟨xs.length - (i + 1), by omega, rfl, hlt, p'⟩, fun v H' y => ?_⟩
    obtain ⟨T, x, rfl, nT, rfl, hx⟩ := y
    exact hs i x H T (hx xs q) p nT
  · have e : i = xs.length := by omega
    subst e
    exact .inl ⟨⟨xs, q, Nat.le_refl _⟩, hd H p⟩
section
variable {P : Program} {w : World} {K : PySem.W.Frag} {mg : Str → Option Value} {base : Heap}
end
end Rw


/-! T2 -/
/-! ### repr of any data, where no repr is under way -/
namespace L2
open PySem PySem.Spec PyProof.Rows
/-- what repr(x) asks -/
def rReprD (K : PySem.W.Frag) : List V → Hp → VK → Prop := fun xs H Q => ∃ (x : V) (d : PyData), xs = [x] ∧ Dq K H x d ∧ (d.hasDict = false ∨ d = .dict []) ∧ d.showable = true ∧ d.depth ≤ 40 ∧ d.shown.length ≤ sizeLine ∧ Q (.str d.shown) H
theorem call_reprD {X : Cx} (hg : X.A.guards = some []) (hu : X.A.units + 64 < cLine) : CallR X (.builtin "repr") (rReprD X.K) := by
  intro pins s σ H xs us Q I r h
  obtain ⟨x, d, rfl, hd, hk, hs, hdep, hz, q⟩ := h
  obtain ⟨u, rfl, ru⟩ := vals1 r
  have last : ∀ {a : Addr} {as : List Addr}, u = .ref a → Reads s.heap (.ref a) d as → (d.hasDict = true → sysModules ∉ as) → wpAny (model X.prog X.w) X.A (call (.builtin "repr") [u]) (fun v s' => EP X pins σ Q v s') X.xe s := fun e rd no => by
    subst e
    exact PySem.repr_of_reads' rd hs no hg (by omega) (fun _ _ z => z) (fun h' t tk kk => ⟨.str d.shown, H, I.kept kk, ⟨_, rfl⟩, q⟩) hz
  cases hd with
  | non =>
    cases ru
    simp only [PyData.shown] at q
    exact PySem.P.repr_of_none ⟨.str _, H, I.tok _, ⟨_, rfl⟩, q⟩
  | bl b =>
    cases ru
    simp only [PyData.shown] at q
    refine PySem.P.repr_of_bool ⟨.str _, H, I.tok _, ⟨_, rfl⟩, ?_⟩
    cases b <;> exact q
  | int i =>
    obtain ⟨t, rfl⟩ := ru
    simp only [PyData.shown] at q
    exact PySem.P.repr_of_int (by simpa [PyData.showable] using hs) ⟨.str _, H, I.tok _, ⟨_, rfl⟩, q⟩
  | str y =>
    obtain ⟨t, rfl⟩ := ru
    simp only [PyData.shown] at q
    exact PySem.P.repr_of_str ⟨.str _, H, I.tok _, ⟨_, rfl⟩, q⟩ (by simpa only [PyData.shown] using hz)
  | lst hq ha =>
    have hz2 : ∀ t ∈ PyData.shownAll _, t.length ≤ sizeLine := fun t ht => Nat.le_trans (listText_mem_le ht) (by simpa only [PyData.shown] using hz)
    cases ru
    obtain ⟨its, rv, ⟨o, n, ho, hc, _, hd⟩, _⟩ := I.list hq
    obtain ⟨as, bs, hr, _⟩ := Dq.reprsAll I _ _ its ha rv (by simpa [PyData.showable] using hs) hz2
    exact last rfl (Reads.list ho hc hd hr) fun z => by
      rcases hk with k | k
      · rw [k] at z; cases z
      · cases k
  | tup hq ha =>
    have hz2 : ∀ t ∈ PyData.shownAll _, t.length ≤ sizeLine := fun t ht => Nat.le_trans (tupleText_mem_le ht) (by simpa only [PyData.shown] using hz)
    cases ru
    obtain ⟨its, rv, ⟨o, ho, hc, n, hd⟩, _⟩ := I.tuple hq
    obtain ⟨as, bs, hr, _⟩ := Dq.reprsAll I _ _ its ha rv (by simpa [PyData.showable] using hs) hz2
    exact last rfl (Reads.tuple ho hc hd hr) fun z => by
      rcases hk with k | k
      · rw [k] at z; cases z
      · cases k
  | @dic a ea =>
    cases ru
    obtain ⟨_, hsys, vs, kv, o, es, ep, h1, h2, h3⟩ := (show ObjOk X.prog X.w H s.heap a (.dK []) from I.hok a _ ea)
    cases kv
    have hes : es.toList = [] := List.eq_nil_of_length_eq_zero (by rw [PySem.Pairs.length h3.2.2.1]; rfl)
    refine last rfl (Reads.dict (kvs := []) h1 h2.1 h3.1 (by rw [hes]; exact .nil) (by rw [hes]; exact .nil)) fun _ z => ?_
    rcases List.mem_cons.mp z with z | z
    · rw [← z] at hsys
      simp at hsys
    · exact absurd z List.not_mem_nil
end L2
/-! ### static methods off their class -/
namespace L2
open PySem PySem.Spec PyProof.Rows
/-- C.m is a staticmethod: its record at p, its def at g -/
structure SMet (K : PySem.W.Frag) (C : Addr) (m : Str) (p g : Addr) : Prop where
  rd : PySem.W.readsIn K C (.type "type") = true
  ga : PySem.W.specialIn K (.ref C) "__getattribute__" = some (some (.builtin "type.__getattribute__"))
  at_ : PySem.W.findCls K (.ref C) (.type "type") m = some (.get (.builtin "staticmethod.__get__") (.ref p) .none (.ref C))
  rc : ∃ rest, PySem.W.recIn K p "staticmethod" = some (.ref g :: rest)
  kp : PySem.W.keepIn K (.ref g) = true
def tSMeth (C : Addr) (sp : Sp) (E : St → XK) (ta : TE) (t : TA) : TE := fun σ H Q => ta σ H fun x H1 => x = .ref C ∧ t σ H1 fun vs H2 => sp vs H2 Q (E σ)
section
variable {X : Cx} {pins : List (Addr × Obj)} {σ : St} {H : Hp} {s : Shared} {C p g : Addr} {m : Str} {pl : Sem Bool}
theorem getmethsm_ok {Q : Value × List Value → Shared → Prop} {A : Around} {E : Value → Shared → Prop} (I : Inv X pins σ H s) (k : SMet X.K C m p g) (h : ∀ s', Inv X pins σ H s' → Q (.ref g, []) s') : wpAny (model X.prog X.w) A (getMethod (.ref C) m pl) Q E s := by
  obtain ⟨rest, hp⟩ := k.rc
  refine PySem.W.method_cls I.kIn k.ga (PySem.W.cls_bind I.kIn k.rd k.at_ (wpAny_call (PySem.W.sm_get (s := { s with toks := s.toks + 1 }) I.kIn hp (PySem.W.handed_on rfl ?_))))
  exact h _ (I.tok _)
theorem run_fnRS {CX : CXT} {k : Nat} {sp : Sp} {E : XK} {Q : VK} {us : List Value} {vs : List V} (F : FnR X.prog X.w X.K X.mg X.base CX k g sp) (hr : Room k X.A) (hx : PassesAt CX X σ E) (I : Inv X pins σ H s) (r : Vals vs us) (h : sp vs H Q E) :
    wpAny (model X.prog X.w) X.A (call (.ref g) us) (EP X pins σ Q) X.xe s := by
  refine wpAny_call (codeAny_mono (F X.A X.stack s H us vs Q E hr I.env0 r h) fun r s' hq => ?_)
  cases r with
  | error e => exact hx pins H s e s' I hq
  | ok fl =>
    cases fl with
    | ret u => exact I.after hq
    | next => exact False.elim hq
    | brk => exact False.elim hq
    | cont => exact False.elim hq
variable {CX : CXT} {k : Nat} {sp : Sp} {E : St → XK} {o e : Expr} {es : List Expr} {ta : TE} {t : TA} {pos apos : Pos}
theorem pe_smeth (he : PE X o ta) (c : SMet X.K C m p g) (F : FnR X.prog X.w X.K X.mg X.base CX k g sp) (hr : Room k X.A) (hx : ∀ σ, PassesAt CX X σ (E σ)) (ha : PA X (e :: es) t)
    (hst : starEach (e :: es) X.env = (false, eval e X.env) :: starEach es X.env := by rfl) (hpl : (backTo pos (starEach es X.env)).any (·.1) = false := by rfl)
    (ht : eval (.Call (.Attribute o m apos) (e :: es) [] pos) X.env = (do
      let v ← eval o X.env
      standAt apos.atName
      let (f, first) ← holding [v] (getMethod v m pl)
      callWith pos f first (backTo pos (starEach (e :: es) X.env)) (backToKw pos (keywordEach [] X.env))) := by rfl) :
    PE X (.Call (.Attribute o m apos) (e :: es) [] pos) (tSMeth C sp E ta t) := by
  refine ⟨fun pins s σ H Q I h => ?_⟩
  refine PySem.W.methodCall_KW (pl := pl) (thn (he.run pins s σ H _ I h) fun u s1 ⟨x, H1, I1, rx, ex, q⟩ => ?_) ht
  subst ex
  obtain rfl : u = Value.ref C := rx
  refine getmethsm_ok I1 c fun s2 I2 => ?_
  exact PySem.W.callWith_K (h₀ := X.base) I2.ok.mod.kin c.kp (thn (ha.run pos pins s2 σ H1 _ I2 q) fun us s3 ⟨vs, H2, I3, rv, q2⟩ => ⟨I3.kIn, run_fnRS F hr (hx σ) I3 rv q2⟩) hst hpl
end
/-! ### a def that is called where no repr is under way -/
section
variable {X : Cx} {CX : CXT} {k : Nat} {f : Addr} {fd : FuncData} {ps : List Str} {sp : Sp} {E : XK} {x : Str} {e : Expr} {es : List Expr} {t : TA} {p pos : Pos}
theorem pe_callG (F : FnOkG X.prog X.w X.K X.mg X.base CX k f fd ps sp) (free : X.A.guards = some []) (hr : Room k X.A) (hg : Gl X x) (hm : X.mg x = some (.ref f)) (hk : PySem.W.keepIn X.K (.ref f) = true) (hb : Binds X.K fd ps []) (hx : Passes CX X E)
    (ha : PA X (e :: es) t) (hdb : (x == ("__debug__" : Str)) = false := by decide) (he : starEach (e :: es) X.env = (false, eval e X.env) :: starEach es X.env := by rfl) (hpl : (backTo pos (starEach es X.env)).any (·.1) = false := by rfl) :
    PE X (.Call (.Name x p) (e :: es) [] pos) (tCall sp [] E t) := by
  refine ⟨fun pins s σ H Q I h => ?_⟩
  refine wpAny_Call_Name_kw (ld_glob I hg hm ?_ hdb)
  refine PySem.W.callWith_K (h₀ := X.base) I.ok.mod.kin hk (thn (ha.run pos pins s σ H _ I h) fun us s1 ⟨vs, H1, I1, r, q⟩ => ⟨I1.kIn, ?_⟩) he hpl
  have q2 : sp (vs ++ []) H1 Q E := q
  rw [List.append_nil] at q2
  have many : (us ++ []).length = ps.length := by rw [List.append_nil, ← r.length]; exact F.len _ _ _ _ q2
  have bind := hb s1 us I1.kIn many
  rw [List.append_nil] at bind
  refine wpAny_call (codeAny_mono (F.run X.A X.stack s1 H1 ⟨us, []⟩ us vs Q E free hr I1.env0 bind r q2) fun r s' hq => ?_)
  cases r with
  | error er => exact hx pins σ H1 s1 er s' I1 hq
  | ok fl =>
    cases fl with
    | ret u => exact I1.after hq
    | next => exact False.elim hq
    | brk => exact False.elim hq
    | cont => exact False.elim hq
end
end L2

/-! ### names of one kind -/
namespace L2
open PySem PySem.Spec PyProof.Rows
theorem ix_tupK {X : Cx} {K : PySem.W.Frag} (hK : X.K = K) : IxR X (rIxT K) := by
  subst hK
  exact ix_tup
theorem ix_listK {X : Cx} {K : PySem.W.Frag} (hK : X.K = K) : IxR X (rIxL K) := by
  subst hK
  exact ix_list
theorem ix_kdictK {X : Cx} {K : PySem.W.Frag} {w : World} (hK : X.K = K) (hw : X.w = w) : IxR X (rIxD K w) := by
  subst hK hw
  exact ix_kdict
end L2
namespace Rw
open PySem PySem.Spec PyProof.Rows L2
section
variable {P : Program} {w : World} {K : PySem.W.Frag} {mg : Str → Option Value} {base : Heap}
end
end Rw

/-! ### a method called within a try -/
namespace L2
open PySem PySem.Spec PyProof.Rows
def tMethT (C : Addr) (m : Str) (sp : Sp) (E : St → XK) (ta : TE) (t : TA) : TE := fun σ H Q => ta σ H fun x H1 => ∃ (a dx : Addr) (fs : List (Str × V)), x = .ref a ∧ H1 a = some (.ins C dx fs) ∧ fs.lookup m = none ∧ t σ H1 fun vs H2 => sp (x :: vs) H2 Q (E σ)
section
variable {X : Cx} {CX : CXT} {k : Nat} {f C : Addr} {fd : FuncData} {m : Str} {ps : List Str} {sp : Sp} {E : St → XK} {o e : Expr} {es : List Expr} {ta : TE} {t : TA} {apos pos : Pos} {pl : Sem Bool}
theorem pe_methT (he : PE X o ta) (c : Cls X.K C) (hm : Meth X.K C m f) (F : FnOk X.prog X.w X.K X.mg X.base CX k f fd ps sp) (hr : Room k X.A) (hb : Binds X.K fd ps []) (hx : ∀ σ, PassesAt CX X σ (E σ)) (ha : PA X (e :: es) t)
    (hst : starEach (e :: es) X.env = (false, eval e X.env) :: starEach es X.env := by rfl) (hpl : (backTo pos (starEach es X.env)).any (·.1) = false := by rfl)
    (ht : eval (.Call (.Attribute o m apos) (e :: es) [] pos) X.env = (do
      let v ← eval o X.env
      standAt apos.atName
      let (f, first) ← holding [v] (getMethod v m pl)
      callWith pos f first (backTo pos (starEach (e :: es) X.env)) (backToKw pos (keywordEach [] X.env))) := by rfl) : PE X (.Call (.Attribute o m apos) (e :: es) [] pos) (tMethT C m sp E ta t) := by
  refine ⟨fun pins s σ H Q I h => PySem.W.methodCall_KW (pl := pl) (thn (he.run pins s σ H _ I h) fun u s1 ⟨x, H1, I1, rx, a, dx, fs, ex, ea, l, q⟩ => ?_) ht⟩
  subst ex
  obtain rfl : u = Value.ref a := rx
  refine getmeth_ok I1 ea c hm l (PySem.W.callWith_K (first := [.ref a]) (h₀ := X.base) I1.ok.mod.kin hm.kp (thn (ha.run pos pins s1 σ H1 _ I1 q) fun us s2 ⟨vs, H2, I2, r, q2⟩ => ⟨I2.kIn, ?_⟩) hst hpl)
  exact run_fnS (us := .ref a :: us) (vs := .ref a :: vs) F hr hb (hx σ) I2 (.cons rfl r) q2
theorem call_reprDK {K : PySem.W.Frag} (hK : X.K = K) (hg : X.A.guards = some []) (hu : X.A.units + 64 < cLine) : CallR X (.builtin "repr") (rReprD K) := by
  subst hK
  exact call_reprD hg hu
theorem call_len_K {K : PySem.W.Frag} (hK : X.K = K) : CallR X (.builtin "len") (fun xs H Q => ∃ p ys, xs = [.ref p] ∧ (SqL K H p ys ∨ SqT K H p ys) ∧ Q (.int ys.length) H) := by
  subst hK
  exact call_len_seq
end
end L2
/-! ### what the law hears of rows by words -/
namespace Rw
open PySem PySem.Spec PyProof.Rows L2
theorem xf_of {K : PySem.W.Frag} {C fI : Addr} (T : OexG K C fI) : XfC K C := ⟨T.ga, T.gg, T.exC, T.hdC⟩
section
variable {P : Program} {w : World} {K : PySem.W.Frag} {mg : Str → Option Value} {base : Heap}
end
end Rw

/-! ### own + within a try -/
namespace L2
open PySem PySem.Spec PyProof.Rows
def tOpS (r : XK → R2) (E : St → XK) (ta tb : TE) : TE := fun σ H Q => ta σ H fun x H1 => tb σ H1 fun y H2 => r (E σ) x y H2 Q
section
variable {X : Cx} {CX : CXT} {k : Nat} {f g C : Addr} {fd : FuncData} {ps : List Str} {sp : Sp} {E : St → XK} {a b : Expr} {ta tb : TE} {pos : Pos}
theorem pe_addTS {K : PySem.W.Frag} (hK : X.K = K) (A : AddC K C f g) (F : FnOk X.prog X.w X.K X.mg X.base CX k f fd ps sp) (hr : Room k X.A) (hb : Binds X.K fd ps []) (hx : ∀ σ, PassesAt CX X σ (E σ)) (ha : PE X a ta) (hb' : PE X b tb) : PE X (.BinOp a .Add b pos) (tOpS (rAddT K C sp) E ta tb) := by
  subst hK
  refine ⟨fun pins s σ H Q I h => ?_⟩
  refine wpAny_BinOp (binT (R := fun x y H2 => rAddT X.K C sp (E σ) x y H2 Q) ha hb' I h fun v u s2 x y H2 I2 rx ry q => ?_)
  obtain ⟨a, dx, fs, T, rfl, ha, ty, ⟨⟨fo, ro, h1, h2⟩, hsub⟩, q⟩ := q
  cases (show v = Value.ref a from rx)
  obtain ⟨P, Z, pz, hne⟩ := kit_of I2 ry ty
  obtain ⟨mA, O, _⟩ := ins_get I2.hok ha
  obtain ⟨od, J, _⟩ := O.look
  refine PySem.LwX.add_own I2.kIn J (fun M => Z.ty M _ I2.kIn pz) A.hc A.hs A.hf A.hr (.inr ⟨_, rfl⟩) h1 h2 hsub ?_
  exact thn (run_fnS (us := [.ref a, u]) (vs := [.ref a, y]) F hr hb (hx σ) I2 (.cons rfl (.cons ry .nil)) q) fun _ _ z => back_ref z
theorem pe_raddTS {K : PySem.W.Frag} (hK : X.K = K) (A : AddC K C f g) (F : FnOk X.prog X.w X.K X.mg X.base CX k g fd ps sp) (hr : Room k X.A) (hb : Binds X.K fd ps []) (hx : ∀ σ, PassesAt CX X σ (E σ)) (ha : PE X a ta) (hb' : PE X b tb) : PE X (.BinOp a .Add b pos) (tOpS (rRaddT K C sp) E ta tb) := by
  subst hK
  refine ⟨fun pins s σ H Q I h => ?_⟩
  refine wpAny_BinOp (binT (R := fun x y H2 => rRaddT X.K C sp (E σ) x y H2 Q) ha hb' I h fun v u s2 x y H2 I2 rx ry q => ?_)
  obtain ⟨a, dx, fs, T, rfl, ha, ty, ⟨fo, ro, h1, h2, h3⟩, q⟩ := q
  cases (show u = Value.ref a from ry)
  obtain ⟨P, Z, pz, hne⟩ := kit_of I2 rx ty
  obtain ⟨mA, O, _⟩ := ins_get I2.hok ha
  obtain ⟨od, J, _⟩ := O.look
  refine PySem.LwX.radd_own I2.kIn J (fun M => Z.ty M _ I2.kIn pz) A.hc A.hs A.hr A.hg h1 h2 h3 ?_
  exact thn (run_fnS (us := [.ref a, v]) (vs := [.ref a, x]) F hr hb (hx σ) I2 (.cons rfl (.cons rx .nil)) q) fun _ _ z => back_ref z
theorem call_tuple_K {K : PySem.W.Frag} (hK : X.K = K) : CallR X (.type "tuple") (fun xs H Q => ∃ p ys, xs = [.ref p] ∧ (SqL K H p ys ∧ (∀ l, H l = none → Q (.ref l) (upd H l (.tup ys))) ∨ SqT K H p ys ∧ Q (.ref p) H)) := by
  subst hK
  exact call_tuple_of
end
end L2
/-! ### what is compared -/
namespace Rw
open PySem PySem.Spec PyProof.Rows L2
def vD : V → PyData
  | .int i => .int i
  | _ => .none
theorem ints_of_cut (ns : List Int) (m : Int) (k : Nat) : ∃ ms : List Int, cutV (ns.map V.int) none (some m) ++ (List.replicate k [V.int 7]).flatten = ms.map V.int ∧ ms.length ≤ ns.length + k := by
  refine ⟨((ns.drop (HT.sIx ns.length 0 none)).take (HT.sIx ns.length ns.length (some m) - HT.sIx ns.length 0 none)) ++ List.replicate k 7, ?_, ?_⟩
  · unfold cutV
    rw [List.map_append, List.length_map, List.map_take, List.map_drop]
    congr 1
    induction k with
    | zero => rfl
    | succ k ih => rw [List.replicate_succ, List.flatten_cons, ih]; rfl
  · rw [List.length_append, List.length_replicate, List.length_take, List.length_drop]
    omega
theorem shaped_ints (ns : List Int) : SeqAt.shaped (.list (ns.map PyData.int)) = true := by
  have a : PyData.canLayAll0 (ns.map PyData.int) = true := by
    induction ns with
    | nil => rfl
    | cons n r ih => simp only [List.map, PyData.canLayAll0, PyData.canLay0, Bool.true_and]; exact ih
  have b : PyData.depthAll (ns.map PyData.int) = 0 := by
    induction ns with
    | nil => rfl
    | cons n r ih =>
      simp only [List.map, PyData.canLayAll0, PyData.canLay0, Bool.true_and] at a
      simp only [List.map, PyData.depthAll, PyData.depth, ih a]
      rfl
  unfold SeqAt.shaped
  simp only [PyData.canLay0, PyData.depth, a, b]
  decide
theorem dp_ints {K : PySem.W.Frag} {H : Hp} : ∀ ns : List Int, DpAll K H (ns.map V.int) (ns.map PyData.int)
  | [] => .nil
  | _ :: r => .cons (.int _) (dp_ints r)
theorem nil_in {σ : L2.St} {H : Hp} {k : List V → Hp → Prop} (h : k [] H) : tNil σ H k := h
theorem cons_in {te : TE} {t : TA} {σ : L2.St} {H : Hp} {k : List V → Hp → Prop} (h : te σ H fun x H1 => t σ H1 fun xs H2 => k (x :: xs) H2) : tCons te t σ H k := h
theorem c_in {v : V} {σ : L2.St} {H : Hp} {k : V → Hp → Prop} (h : k v H) : tC v σ H k := h
theorem seq_in {t u : TS} {D : Ends} {σ : L2.St} {H : Hp} (h : t { D with nx := u D } σ H) : tSeq t u D σ H := h
theorem if_in {c : TT} {t u : TS} {D : Ends} {σ : L2.St} {H : Hp} (h : c σ H fun b H1 => if b = true then t D σ H1 else u D σ H1) : tIfS c t u D σ H := h
theorem or_in {t u : TT} {σ : L2.St} {H : Hp} {Q : Bool → Hp → Prop} (h : t σ H fun c H1 => if c = true then Q true H1 else u σ H1 Q) : tOr t u σ H Q := h
theorem test_in {t : TE} {σ : L2.St} {H : Hp} {Q : Bool → Hp → Prop} (h : t σ H fun x H' => ∃ k, x = .bl k ∧ Q k H') : tTest t σ H Q := h
theorem op_in {r : R2} {ta tb : TE} {σ : L2.St} {H : Hp} {Q : VK} (h : ta σ H fun x H1 => tb σ H1 fun y H2 => r x y H2 Q) : tOp r ta tb σ H Q := h
theorem call_in {sp : Sp} {E : XK} {t : TA} {σ : L2.St} {H : Hp} {Q : VK} (h : t σ H fun vs H1 => sp (vs ++ []) H1 Q E) : tCall sp [] E t σ H Q := h
theorem asg_in {te : TE} {g : TG} {D : Ends} {σ : L2.St} {H : Hp} (h : te σ H fun x H1 => g x σ H1 D.nx) : tAsg te g D σ H := h
theorem name_in {i : Nat} {v : V} {σ : L2.St} {H : Hp} {Q : L2.St → Hp → Prop} (h : Q (σ.set i (some v)) H) : gName i v σ H Q := h
theorem ops_in {r : XK → R2} {E : L2.St → XK} {ta tb : TE} {σ : L2.St} {H : Hp} {Q : VK} (h : ta σ H fun x H1 => tb σ H1 fun y H2 => r (E σ) x y H2 Q) : tOpS r E ta tb σ H Q := h
end Rw

/-! ### data stands where the heap stands -/
namespace Rw
open PySem PySem.Spec PyProof.Rows L2
section
variable {K : PySem.W.Frag} {H H' : Hp}
theorem sqT_same {a : Addr} {xs : List V} (s : Same H H') (h : SqT K H a xs) : SqT K H' a xs := by
  rcases h with (h | ⟨o, h⟩) | h
  · exact .inl (.inl (s _ _ h))
  · exact .inl (.inr ⟨o, s _ _ h⟩)
  · exact .inr h
mutual
theorem dq_same (s : Same H H') : ∀ (d : PyData) (v : V), Dq K H v d → Dq K H' v d
  | .none, _, h => by cases h; exact .non
  | .bool _, _, h => by cases h; exact .bl _
  | .int _, _, h => by cases h; exact .int _
  | .str _, _, h => by cases h; exact .str _
  | .list ds, _, h => by
    cases h with
    | lst h1 h2 => exact .lst (s.seq h1) (dqs_same s ds _ h2)
  | .tuple ds, _, h => by
    cases h with
    | tup h1 h2 => exact .tup (sqT_same s h1) (dqs_same s ds _ h2)
  | .dict _, _, h => by
    cases h with
    | dic h1 => exact .dic (s _ _ h1)
theorem dqs_same (s : Same H H') : ∀ (ds : List PyData) (vs : List V), DqAll K H vs ds → DqAll K H' vs ds
  | [], _, h => by cases h; exact .nil
  | d :: ds, _, h => by
    cases h with
    | cons h1 h2 => exact .cons (dq_same s d _ h1) (dqs_same s ds _ h2)
end
end
end Rw
/-! ### x in a tuple of data -/
namespace L2
open PySem PySem.Spec PyProof.Rows
def rInTD (K : PySem.W.Frag) : R2 := fun x y H Q => ∃ d ds, Dp K H x d ∧ Dp K H y (.tuple ds) ∧ SeqAt.shaped d = true ∧ SeqAt.shaped (.tuple ds) = true ∧ Q (.bl (ds.any fun z => PyData.eqv z d)) H
theorem op_inTD {X : Cx} {K : PySem.W.Frag} (hK : X.K = K) (hu : X.A.units + 65 < cLine) : OpR X (compareOp .In) (rInTD K) := by
  subst hK
  intro pins s σ H x y v u Q I rx ry h
  obtain ⟨d, ds, hd, he, sd, se, q⟩ := h
  obtain ⟨as, r1⟩ := Dp.reads I d x v hd rx
  obtain ⟨bs, r2⟩ := Dp.reads I (.tuple ds) y u he ry
  exact SeqAt.in_tuple_reads r2 r1 (SeqAt.canLay_of_shaped se) (SeqAt.canLay_of_shaped sd) (room_in_shaped sd hu) ⟨.bl _, H, I, rfl, q⟩
end L2
/-! ### a row's own operators -/
namespace Rw
open PySem PySem.Spec PyProof.Rows L2
section
variable {P : Program} {w : World} {K : PySem.W.Frag} {mg : Str → Option Value} {base : Heap}
end
end Rw

/-! ### a row without a step, beginnings, equal rows -/
namespace Rw
open PySem PySem.Spec PyProof.Rows L2
theorem cut_head (xs : List V) (i : Nat) (hi : i ≤ xs.length) : cutV xs none (some (i : Int)) = xs.take i := by
  show (xs.drop 0).take (HT.sIx xs.length xs.length (some (i : Int)) - 0) = _
  rw [HT.sIx_nat, List.drop_zero, Nat.min_eq_left hi]
  rfl
/-- t[:i] -/
theorem head_tup {K : PySem.W.Frag} {H : Hp} {p : Addr} {xs : List V} {i : Nat} {Q : VK} (h : SqT K H p xs) (q : ∀ H' u, Same H H' → SqT K H' u (xs.take i) → Q (.ref u) H') : rSlA K (.ref p) none (some (i : Int)) H Q := by
  refine ⟨p, _, rfl, h, fun c => ?_, fun c u nu => ?_⟩
  · have c2 := c.2
    rw [HT.sIx_nat] at c2
    have z := q H p (Same.refl H)
    rw [List.take_of_length_le (by omega)] at z
    exact z h
  · refine q _ _ (same_upd nu) (SqT.of ?_)
    rw [upd_same]
    show some (HO.tup ((xs.drop 0).take (HT.sIx xs.length xs.length (some (i : Int)) - 0))) = _
    rw [HT.sIx_nat, List.drop_zero, Nat.sub_zero]
    congr 2
    by_cases hi : i ≤ xs.length
    · rw [Nat.min_eq_left hi]
    · rw [Nat.min_eq_right (by omega), List.take_of_length_le (Nat.le_refl _), List.take_of_length_le (by omega)]
section
variable {P : Program} {w : World} {K : PySem.W.Frag} {mg : Str → Option Value} {base : Heap}
end
/-! two rows -/
section
variable {P : Program} {w : World} {K : PySem.W.Frag} {mg : Str → Option Value} {base : Heap}
end
end Rw

/-! ### what stands, stands behind the first look at a name -/
namespace Nm
open PySem PySem.Spec PyProof.Rows L2
section
variable {K : PySem.W.Frag} {C : Addr} {n : Str} {v : Value} {H : Hp}
end
theorem op_eqDK {X : Cx} {K : PySem.W.Frag} (hK : X.K = K) (hu : X.A.units + 64 < cLine) : OpR X (compareOp .Eq) (rEqD K) := by
  subst hK
  exact op_eqD hu
theorem op_neDK {X : Cx} {K : PySem.W.Frag} (hK : X.K = K) (hu : X.A.units + 64 < cLine) : OpR X (compareOp .NotEq) (rNeD K) := by
  subst hK
  exact op_neD hu
end Nm
/-! ### a row's own == -/
namespace Rw
open PySem PySem.Spec PyProof.Rows L2
section
variable {P : Program} {w : World} {K : PySem.W.Frag} {mg : Str → Option Value} {base : Heap}
end
end Rw

/-! ### the law's kinds, and what it takes as held -/
namespace Rw
open PySem PySem.Spec PyProof.Rows L2
theorem sqT_upd {K : PySem.W.Frag} {H : Hp} {D p : Addr} {as xs : List V} {u : HO} (e : H D = some (.lst as)) (h : SqT K H p xs) : SqT K (upd H D u) p xs := by
  rcases h with (h | ⟨o, h⟩) | h
  · refine .inl (.inl ?_)
    rw [upd_ne]
    · exact h
    · rintro rfl
      rw [e] at h
      cases h
  · refine .inl (.inr ⟨o, ?_⟩)
    rw [upd_ne]
    · exact h
    · rintro rfl
      rw [e] at h
      cases h
  · exact .inr h
section
variable {P : Program} {w : World} {K : PySem.W.Frag} {mg : Str → Option Value} {base : Heap}
end
end Rw

/-! ### the rows that the law draws: the def -/
namespace Rw
open PySem PySem.Spec PyProof.Rows L2
theorem ifS_via {tc : TT} {t u : TS} {D : Ends} {σ : L2.St} {H : Hp} (F : Bool → Hp → Prop) (hc : ∀ Q : Bool → Hp → Prop, (∀ b H2, F b H2 → Q b H2) → tc σ H Q) (h : ∀ b H2, F b H2 → if b = true then t D σ H2 else u D σ H2) : tIfS tc t u D σ H := hc _ h
theorem seqS_in {t u : TS} {D : Ends} {σ : L2.St} {H : Hp} (h : t { D with nx := u D } σ H) : tSeq t u D σ H := h
section
variable {P : Program} {w : World} {K : PySem.W.Frag} {mg : Str → Option Value} {base : Heap}
end
end Rw

/-! ### append within a try -/
namespace L2
open PySem PySem.Spec PyProof.Rows
def rTry (t : TS) : TS := t
theorem ps_named {X : Cx} {st : Stmt} {t : TS} (h : PS X st t) : PS X st (rTry t) := h
theorem rTry_in {t : TS} {D : Ends} {σ : St} {H : Hp} (h : t D σ H) : rTry t D σ H := h
theorem pe_appendK {X : Cx} {K : PySem.W.Frag} (hK : X.K = K) {o e : Expr} {apos cpos : Pos} {to : TE} {t : TA} (ho : PE X o to) (ha : PA X [e] t) (hbase : attributeBase o "append" X.env (eval o X.env) = eval o X.env := by rfl)
    (hfew : ((backTo cpos (starEach [e] X.env)).all (fun x => !x.1) && (backToKw cpos (keywordEach [] X.env)).all (fun x => x.1.isSome) && decide ([e].length + ([] : List Keyword).length + (if ([] : List Keyword).isEmpty then 0 else 1) < 30)) = true := by rfl)
    (hline : (apos.endLine == cpos.line) = true := by rfl) (hs : starEach [e] X.env = (false, eval e X.env) :: starEach [] X.env := by rfl) (hplain : (backTo cpos (starEach [] X.env)).any (·.1) = false := by rfl) :
    PE X (.Call (.Attribute o "append" apos) [e] [] cpos) (tBM K "list" rAppend to t) := by
  subst hK
  exact pe_bm PySem.F.plainAttrs_list PySem.F.slot_list_append PySem.F.type_list_append mt_append ho ha hbase hfew hline hs hplain
section
variable {X : Cx} {CX : CXT} {k : Nat} {f g C : Addr} {fd : FuncData} {ps : List Str} {sp : Sp} {E : St → XK} {a b : Expr} {ta tb : TE} {pos : Pos}
end
end L2
/-! ### what is added -/
namespace Rw
open PySem PySem.Spec PyProof.Rows L2
section
variable {P : Program} {w : World} {K : PySem.W.Frag} {mg : Str → Option Value} {base : Heap}
end
end Rw

/-! ### the rows that the law draws -/
namespace L2
open PySem PySem.Spec PyProof.Rows
theorem op_notIn_seqKK {X : Cx} {K : PySem.W.Frag} (hK : X.K = K) : OpR X (compareOp .NotIn) (rIn K true) := by
  subst hK
  exact op_notIn_seq
end L2
namespace Rw
open PySem PySem.Spec PyProof.Rows L2
section
variable {K : PySem.W.Frag} {d o q : Addr} {H0 : Hp} {wl fl : Addr} {xs : List V} {ss : List Step} {H H' : Hp}
end
end Rw

/-! ### the law -/
namespace Rw
open PySem PySem.Spec PyProof.Rows L2
theorem cut_any (xs : List V) (i : Nat) : cutV xs none (some (i : Int)) = xs.take i := by
  by_cases h : i ≤ xs.length
  · exact cut_head xs i h
  · show (xs.drop 0).take (HT.sIx xs.length xs.length (some (i : Int)) - 0) = _
    rw [HT.sIx_nat, List.drop_zero, Nat.sub_zero, Nat.min_eq_right (by omega), List.take_of_length_le (Nat.le_refl _), List.take_of_length_le (by omega)]
theorem asg_via {te : TE} {g : TG} {D : Ends} {σ : L2.St} {H : Hp} (F : V → Hp → Prop) (hc : ∀ Qx : VK, (∀ v H2, F v H2 → Qx v H2) → te σ H Qx) (h : ∀ v H2, F v H2 → g v σ H2 D.nx) : tAsg te g D σ H := hc _ h
section
variable {P : Program} {w : World} {K : PySem.W.Frag} {mg : Str → Option Value} {base : Heap}
end
end Rw


/-! M1 -/
/-! ### trees of items: what is asked of them, as plain functions -/
namespace Tr
open PySem PySem.Spec PyProof.Rows L2 Rw
abbrev D := PyData
def nameD : D → Bool
  | .str z => nameB z
  | _ => false
def isTup : D → Bool
  | .tuple _ => true
  | _ => false
def plain6 : List Str := ["start", "cancel", "set", "clear", "take", "give"]
def inner3 : List Str := ["use", "start", "test"]
def wordIn : D → Bool
  | .tuple (.str w :: _) => decide (w ∈ inner3)
  | _ => false
/-- the two tuples of a test or a choose -/
def forkOf : D → Option (List D × List D)
  | .tuple [.str w, _, .tuple x, .tuple y] => if w = "test" then some (x, y) else none
  | .tuple [.str w, .tuple x, .tuple y] => if w = "choose" then some (x, y) else none
  | _ => none
mutual
def flat : List D → List D
  | [] => []
  | d :: ds => d :: (flatk d ++ flat ds)
termination_by ds => sizeOf ds
def flatk : D → List D
  | .tuple [.str w, _, .tuple x, .tuple y] => if w = "test" then flat x ++ flat y else []
  | .tuple [.str w, .tuple x, .tuple y] => if w = "choose" then flat x ++ flat y else []
  | _ => []
termination_by d => sizeOf d
end
def forkShape (w : Str) (r : List D) : Bool :=
  match r with
  | [n, x, y] => decide (w = "test") && nameD n && isTup x && isTup y
  | [x, y] => decide (w = "choose") && isTup x && isTup y
  | _ => false
mutual
/-- is_shaped -/
def shaped : D → Nat → Bool
  | .tuple [.str w], a => decide (w = "use")
  | .tuple [.str w, n], a => decide (w ≠ "use") && decide (w ∈ plain6) && nameD n
  | .tuple [.str w, n, v], a => decide (w ≠ "use") && !decide (w ∈ plain6) && (if w = "piece" then nameD n && innerP v else decide (a < 3) && forkShape w [n, v])
  | .tuple [.str w, n, x, y], a => decide (w ≠ "use") && !decide (w ∈ plain6) && !decide (w = "piece") && decide (a < 3) && forkShape w [n, x, y]
  | _, _ => false
termination_by d => sizeOf d
/-- is_inner -/
def innerP : D → Bool
  | .tuple ds => !ds.isEmpty && !(misl ds 0).contains true && decide ((flat ds).length ≤ 4) && (flat ds).all wordIn
  | _ => false
termination_by d => sizeOf d
/-- misshapen -/
def misl : List D → Nat → List Bool
  | [], _ => []
  | d :: ds, a => (!shaped d a) :: ((if shaped d a then misk d a else []) ++ misl ds a)
termination_by ds => sizeOf ds
def misk : D → Nat → List Bool
  | .tuple [.str w, _, .tuple x, .tuple y], a => if w = "test" then misl x (a + 1) ++ misl y (a + 1) else []
  | .tuple [.str w, .tuple x, .tuple y], a => if w = "choose" then misl x (a + 1) ++ misl y (a + 1) else []
  | _, _ => []
termination_by d => sizeOf d
end
mutual
/-- the law's form -/
def lform : D → Nat → Bool
  | .tuple [.str w], a => decide (w = "use")
  | .tuple [.str w, n], a => decide (w ∈ plain6) && nameD n
  | .tuple [.str w, n, .tuple v], a => if w = "choose" then isTup n && decide (a < 3) else decide (w = "piece") && nameD n && lall v 0 && !v.isEmpty && decide ((lnum v 0).length ≤ 4)
  | .tuple [.str w, n, x, y], a => decide (w = "test") && isTup x && isTup y && nameD n && decide (a < 3)
  | _, _ => false
termination_by d => (sizeOf d, 0)
def linner : D → Nat → Bool
  | d, a => lform d a && wordIn d && lkids d a
termination_by d => (sizeOf d, 2)
def lkids : D → Nat → Bool
  | .tuple [.str w, _, .tuple x, .tuple y], a => if w = "test" then lall x (a + 1) && lall y (a + 1) else true
  | .tuple [.str w, .tuple x, .tuple y], a => if w = "choose" then lall x (a + 1) && lall y (a + 1) else true
  | _, _ => true
termination_by d => (sizeOf d, 1)
def lall : List D → Nat → Bool
  | [], _ => true
  | d :: ds, a => linner d a && lall ds a
termination_by ds => (sizeOf ds, 0)
def lnum : List D → Nat → List (D × Nat)
  | [], _ => []
  | d :: ds, a => (d, a) :: ((if lform d a then lnumk d a else []) ++ lnum ds a)
termination_by ds => (sizeOf ds, 0)
def lnumk : D → Nat → List (D × Nat)
  | .tuple [.str w, _, .tuple x, .tuple y], a => if w = "test" then lnum x (a + 1) ++ lnum y (a + 1) else []
  | .tuple [.str w, .tuple x, .tuple y], a => if w = "choose" then lnum x (a + 1) ++ lnum y (a + 1) else []
  | _, _ => []
termination_by d => (sizeOf d, 0)
end
theorem fork_none {d : D} (h : forkOf d = none) : flatk d = [] ∧ (∀ a, misk d a = []) ∧ (∀ a, lkids d a = true) ∧ ∀ a, lnumk d a = [] := by
  unfold forkOf at h
  split at h
  · split at h
    · cases h
    · next hw => exact ⟨by rw [flatk, if_neg hw], fun a => by rw [misk, if_neg hw], fun a => by rw [lkids, if_neg hw], fun a => by rw [lnumk, if_neg hw]⟩
  · split at h
    · cases h
    · next hw => exact ⟨by rw [flatk, if_neg hw], fun a => by rw [misk, if_neg hw], fun a => by rw [lkids, if_neg hw], fun a => by rw [lnumk, if_neg hw]⟩
  · next h1 h2 => 
    refine ⟨?_, fun a => ?_, fun a => ?_, fun a => ?_⟩
    · rw [flatk] <;> assumption
    · rw [misk] <;> assumption
    · rw [lkids] <;> assumption
    · rw [lnumk] <;> assumption
theorem fork_some {d : D} {x y : List D} (h : forkOf d = some (x, y)) : flatk d = flat x ++ flat y ∧ (∀ a, misk d a = misl x (a + 1) ++ misl y (a + 1)) ∧ (∀ a, lkids d a = (lall x (a + 1) && lall y (a + 1))) ∧ (∀ a, lnumk d a = lnum x (a + 1) ++ lnum y (a + 1)) ∧ sizeOf x < sizeOf d ∧ sizeOf y < sizeOf d := by
  unfold forkOf at h
  split at h
  · split at h
    · next hw =>
      cases h
      exact ⟨by rw [flatk, if_pos hw], fun a => by rw [misk, if_pos hw], fun a => by rw [lkids, if_pos hw], fun a => by rw [lnumk, if_pos hw], by simp; omega, by simp; omega⟩
    · cases h
  · split at h
    · next hw =>
      cases h
      exact ⟨by rw [flatk, if_pos hw], fun a => by rw [misk, if_pos hw], fun a => by rw [lkids, if_pos hw], fun a => by rw [lnumk, if_pos hw], by simp; omega, by simp; omega⟩
    · cases h
  · cases h
end Tr

/-! M2 -/
/-! ### the program's look at a tree and the law's are one -/
namespace Tr
open PySem PySem.Spec PyProof.Rows L2 Rw
theorem use_not_plain : ¬ (("use" : Str) ∈ plain6) := by decide +kernel
theorem piece_not_plain : ¬ (("piece" : Str) ∈ plain6) := by decide +kernel
theorem choose_not_plain : ¬ (("choose" : Str) ∈ plain6) := by decide +kernel
theorem test_not_plain : ¬ (("test" : Str) ∈ plain6) := by decide +kernel
theorem piece_use : ("piece" : Str) ≠ "use" := by decide +kernel
theorem choose_use : ("choose" : Str) ≠ "use" := by decide +kernel
theorem test_use : ("test" : Str) ≠ "use" := by decide +kernel
theorem choose_piece : ("choose" : Str) ≠ "piece" := by decide +kernel
theorem test_piece : ("test" : Str) ≠ "piece" := by decide +kernel
theorem test_choose : ("test" : Str) ≠ "choose" := by decide +kernel
/-- the four facts of lists below a size -/
structure Below (N : Nat) : Prop where
  mis : ∀ ds : List D, sizeOf ds < N → ∀ a, misl ds a = (lnum ds a).map fun p => !lform p.1 p.2
  all : ∀ ds : List D, sizeOf ds < N → ∀ a, lall ds a = (!(misl ds a).contains true && (flat ds).all wordIn)
  len : ∀ ds : List D, sizeOf ds < N → ∀ a, (misl ds a).contains true = false → (lnum ds a).map (·.1) = flat ds
theorem shaped_eq : (d : D) → Below (sizeOf d) → (a : Nat) → shaped d a = lform d a
  | .none, _, _ => by simp [shaped, lform]
  | .bool _, _, _ => by simp [shaped, lform]
  | .int _, _, _ => by simp [shaped, lform]
  | .str _, _, _ => by simp [shaped, lform]
  | .list _, _, _ => by simp [shaped, lform]
  | .dict _, _, _ => by simp [shaped, lform]
  | .tuple [], _, _ => by simp [shaped, lform]
  | .tuple (.none :: _), _, _ => by simp [shaped, lform]
  | .tuple (.bool _ :: _), _, _ => by simp [shaped, lform]
  | .tuple (.int _ :: _), _, _ => by simp [shaped, lform]
  | .tuple (.list _ :: _), _, _ => by simp [shaped, lform]
  | .tuple (.tuple _ :: _), _, _ => by simp [shaped, lform]
  | .tuple (.dict _ :: _), _, _ => by simp [shaped, lform]
  | .tuple [.str w], _, a => by rw [shaped, lform]
  | .tuple [.str w, n], _, a => by
    rw [shaped, lform]
    by_cases h : w = "use"
    · subst h
      rw [decide_eq_false use_not_plain]
      simp
    · rw [decide_eq_true h, Bool.true_and]
  | .tuple [.str w, n, v], B, a => by
    rw [shaped]
    cases v with
    | tuple v =>
      rw [lform]
      have hv : sizeOf v < sizeOf (PyData.tuple [.str w, n, .tuple v]) := by simp; omega
      by_cases h : w = "choose"
      · subst h
        rw [if_pos rfl, if_neg choose_piece, decide_eq_false choose_not_plain, decide_eq_true choose_use]
        simp [forkShape, isTup, Bool.and_comm]
      · rw [if_neg h]
        by_cases h2 : w = "piece"
        · subst h2
          rw [if_pos rfl, decide_eq_true rfl, decide_eq_false piece_not_plain, decide_eq_true piece_use, innerP, B.all v hv 0]
          cases hc : (misl v 0).contains true with
          | true => simp
          | false =>
            have e := congrArg List.length (B.len v hv 0 hc)
            rw [List.length_map] at e
            rw [e]
            cases nameD n <;> cases v.isEmpty <;> cases decide ((flat v).length ≤ 4) <;> cases (flat v).all wordIn <;> rfl
        · rw [if_neg h2, decide_eq_false h2]
          simp [forkShape, h]
    | _ => simp [lform, forkShape, isTup, innerP]
  | .tuple [.str w, n, x, y], _, a => by
    rw [shaped, lform]
    by_cases h : w = "test"
    · subst h
      rw [decide_eq_true rfl, decide_eq_false test_not_plain, decide_eq_true test_use, decide_eq_false test_piece]
      simp only [forkShape, decide_true]
      cases nameD n <;> cases isTup x <;> cases isTup y <;> cases decide (a < 3) <;> rfl
    · rw [decide_eq_false h]
      simp [forkShape, h]
  | .tuple (.str w :: n :: x :: y :: z :: r), _, _ => by simp [shaped, lform]
theorem below (N : Nat) : Below N := by
  induction N with
  | zero => exact ⟨fun _ h => absurd h (by omega), fun _ h => absurd h (by omega), fun _ h => absurd h (by omega)⟩
  | succ N ih =>
    have sm : ∀ {d : D} {ds : List D}, sizeOf (d :: ds) < N + 1 → sizeOf d ≤ N ∧ sizeOf ds < N := fun {d ds} h => by
      simp at h
      omega
    have up : ∀ d : D, sizeOf d ≤ N → Below (sizeOf d) := fun d h => ⟨fun ds hd => ih.mis ds (by omega), fun ds hd => ih.all ds (by omega), fun ds hd => ih.len ds (by omega)⟩
    have sh : ∀ d : D, sizeOf d ≤ N → ∀ a, shaped d a = lform d a := fun d h a => shaped_eq d (up d h) a
    refine ⟨fun ds h a => ?_, fun ds h a => ?_, fun ds h a => ?_⟩
    · cases ds with
      | nil => rw [misl, lnum]; rfl
      | cons d ds =>
        obtain ⟨h1, h2⟩ := sm h
        rw [misl, lnum, List.map_cons, List.map_append, sh d h1 a, ih.mis ds h2 a]
        congr 2
        split
        · cases hf : forkOf d with
          | none => rw [(fork_none hf).2.1, (fork_none hf).2.2.2]; rfl
          | some p =>
            obtain ⟨x, y⟩ := p
            obtain ⟨_, f2, _, f4, s1, s2⟩ := fork_some hf
            rw [f2, f4, List.map_append, ih.mis x (by omega), ih.mis y (by omega)]
        · rfl
    · cases ds with
      | nil => rw [misl, lall, flat]; rfl
      | cons d ds =>
        obtain ⟨h1, h2⟩ := sm h
        rw [misl, lall, flat, linner, sh d h1 a, ih.all ds h2 a]
        have key : lform d a = true → lkids d a = (!(misk d a).contains true && (flatk d).all wordIn) := fun _ => by
          cases hf : forkOf d with
          | none => rw [(fork_none hf).1, (fork_none hf).2.1, (fork_none hf).2.2.1]; rfl
          | some p =>
            obtain ⟨x, y⟩ := p
            obtain ⟨f1, f2, f3, _, s1, s2⟩ := fork_some hf
            rw [f1, f2, f3, ih.all x (by omega), ih.all y (by omega)]
            simp only [List.contains_eq_any_beq, List.any_append, List.all_append]
            cases (misl x (a + 1)).any fun z => true == z <;> cases (misl y (a + 1)).any (fun z => true == z) <;> cases (flat x).all wordIn <;> cases (flat y).all wordIn <;> rfl
        cases hl : lform d a with
        | false => simp
        | true =>
          rw [key hl]
          simp only [List.contains_eq_any_beq, List.any_append, List.all_append, List.any_cons, List.all_cons, if_true]
          cases (misk d a).any (fun z => true == z) <;> cases (misl ds a).any (fun z => true == z) <;> cases (flatk d).all wordIn <;> cases (flat ds).all wordIn <;> cases wordIn d <;> rfl
    · cases ds with
      | nil => intro _; rw [lnum, flat]; rfl
      | cons d ds =>
        obtain ⟨h1, h2⟩ := sm h
        rw [misl, lnum, flat, sh d h1 a]
        cases hl : lform d a with
        | false => simp
        | true =>
          intro hc
          simp only [List.contains_eq_any_beq, List.any_append, List.any_cons, if_true] at hc
          have hc1 : (misk d a).any (fun z => true == z) = false := by
            cases h : (misk d a).any (fun z => true == z)
            · rfl
            · rw [h] at hc; simp at hc
          have hc2 : (misl ds a).any (fun z => true == z) = false := by
            cases h : (misl ds a).any (fun z => true == z)
            · rfl
            · rw [h] at hc; simp at hc
          rw [if_pos rfl, List.map_cons, List.map_append, ih.len ds h2 a (by rw [List.contains_eq_any_beq]; exact hc2)]
          congr 2
          cases hf : forkOf d with
          | none => rw [(fork_none hf).1, (fork_none hf).2.2.2]; rfl
          | some p =>
            obtain ⟨x, y⟩ := p
            obtain ⟨f1, f2, _, f4, s1, s2⟩ := fork_some hf
            rw [f2, List.any_append, Bool.or_eq_false_iff] at hc1
            rw [f1, f4, List.map_append, ih.len x (by omega) _ (by rw [List.contains_eq_any_beq]; exact hc1.1), ih.len y (by omega) _ (by rw [List.contains_eq_any_beq]; exact hc1.2)]
theorem shaped_lform (d : D) (a : Nat) : shaped d a = lform d a := shaped_eq d (below _) a
theorem misl_lnum (ds : List D) (a : Nat) : misl ds a = (lnum ds a).map fun p => !lform p.1 p.2 := (below (sizeOf ds + 1)).mis ds (by omega) a
theorem lall_eq (ds : List D) (a : Nat) : lall ds a = (!(misl ds a).contains true && (flat ds).all wordIn) := (below (sizeOf ds + 1)).all ds (by omega) a
theorem lnum_flat {ds : List D} {a : Nat} (h : (misl ds a).contains true = false) : (lnum ds a).map (·.1) = flat ds := (below (sizeOf ds + 1)).len ds (by omega) a h
end Tr

/-! P1 -/
/-! ### items as the program reads them -/
namespace L2
open PySem PySem.Spec PyProof.Rows
theorem call_list_K {X : Cx} {K : PySem.W.Frag} (hK : X.K = K) : CallR X (.type "list") (fun xs H Q => ∃ p ys, xs = [.ref p] ∧ (SqL K H p ys ∨ SqT K H p ys) ∧ ∀ l, H l = none → Q (.ref l) (upd H l (.lst ys))) := by
  subst hK
  exact call_list_of
theorem call_isiKK {X : Cx} {K : PySem.W.Frag} (hK : X.K = K) : CallR X (.builtin "isinstance") (rIsi K) := by
  subst hK
  exact call_isi
theorem op_in_seqKK {X : Cx} {K : PySem.W.Frag} (hK : X.K = K) : OpR X (compareOp .In) (rIn K false) := by
  subst hK
  exact op_in_seq
end L2
namespace Tr
open PySem PySem.Spec PyProof.Rows L2 Rw
theorem tyx_lst {K : PySem.W.Frag} {H : Hp} {p : Addr} {xs : List V} (h : SqL K H p xs) : TyX K H (.ref p) (.type "list") := by
  rcases h with (h | ⟨o, h⟩) | ⟨o, its, n, hl, hc, r⟩
  · exact .base (.lst h)
  · exact .base (.frz h)
  · exact .kList hl hc
def tyD : D → String
  | .none => "NoneType"
  | .bool _ => "bool"
  | .int _ => "int"
  | .str _ => "str"
  | .list _ => "list"
  | .tuple _ => "tuple"
  | .dict _ => "dict"
def isStr : D → Bool
  | .str _ => true
  | _ => false
theorem dp_ty {K : PySem.W.Frag} {H : Hp} {v : V} {d : D} (h : Dp K H v d) : TyX K H v (.type (tyD d)) := by
  cases h with
  | non => exact .base .non
  | bl b => exact .base (.bl b)
  | int i => exact .base (.int i)
  | str x => exact .base (.str x)
  | lst h _ => exact tyx_lst h
  | tup h _ => exact tyx_tup h
theorem kit_tup {K : PySem.W.Frag} : (d : D) → PySem.W.kitOne K (.type (tyD d)) (.type "tuple") = some (isTup d)
  | .none => show PySem.W.kitOne K (.type "NoneType") (.type "tuple") = some false from kit_ty (by decide +kernel)
  | .bool _ => show PySem.W.kitOne K (.type "bool") (.type "tuple") = some false from kit_ty (by decide +kernel)
  | .int _ => show PySem.W.kitOne K (.type "int") (.type "tuple") = some false from kit_ty (by decide +kernel)
  | .str _ => show PySem.W.kitOne K (.type "str") (.type "tuple") = some false from kit_ty (by decide +kernel)
  | .list _ => show PySem.W.kitOne K (.type "list") (.type "tuple") = some false from kit_ty (by decide +kernel)
  | .tuple _ => show PySem.W.kitOne K (.type "tuple") (.type "tuple") = some true from kit_ty (by decide +kernel)
  | .dict _ => show PySem.W.kitOne K (.type "dict") (.type "tuple") = some false from kit_ty (by decide +kernel)
theorem kit_str {K : PySem.W.Frag} : (d : D) → PySem.W.kitOne K (.type (tyD d)) (.type "str") = some (isStr d)
  | .none => show PySem.W.kitOne K (.type "NoneType") (.type "str") = some false from kit_ty (by decide +kernel)
  | .bool _ => show PySem.W.kitOne K (.type "bool") (.type "str") = some false from kit_ty (by decide +kernel)
  | .int _ => show PySem.W.kitOne K (.type "int") (.type "str") = some false from kit_ty (by decide +kernel)
  | .str _ => show PySem.W.kitOne K (.type "str") (.type "str") = some true from kit_ty (by decide +kernel)
  | .list _ => show PySem.W.kitOne K (.type "list") (.type "str") = some false from kit_ty (by decide +kernel)
  | .tuple _ => show PySem.W.kitOne K (.type "tuple") (.type "str") = some false from kit_ty (by decide +kernel)
  | .dict _ => show PySem.W.kitOne K (.type "dict") (.type "str") = some false from kit_ty (by decide +kernel)
mutual
theorem dp_same {K : PySem.W.Frag} {H H' : Hp} (s : Same H H') : ∀ (d : D) (v : V), Dp K H v d → Dp K H' v d
  | .none, _, h => by cases h; exact .non
  | .bool _, _, h => by cases h; exact .bl _
  | .int _, _, h => by cases h; exact .int _
  | .str _, _, h => by cases h; exact .str _
  | .list ds, _, h => by
    cases h with
    | lst h1 h2 => exact .lst (s.seq h1) (dps_same s ds _ h2)
  | .tuple ds, _, h => by
    cases h with
    | tup h1 h2 => exact .tup (sqT_same s h1) (dps_same s ds _ h2)
  | .dict _, _, h => by cases h
theorem dps_same {K : PySem.W.Frag} {H H' : Hp} (s : Same H H') : ∀ (ds : List D) (vs : List V), DpAll K H vs ds → DpAll K H' vs ds
  | [], _, h => by cases h; exact .nil
  | d :: ds, _, h => by
    cases h with
    | cons h1 h2 => exact .cons (dp_same s d _ h1) (dps_same s ds _ h2)
end
theorem _root_.L2.Dp.same {K : PySem.W.Frag} {H H' : Hp} {v : V} {d : D} (h : Dp K H v d) (s : Same H H') : Dp K H' v d := dp_same s d v h
theorem _root_.L2.DpAll.same {K : PySem.W.Frag} {H H' : Hp} {vs : List V} {ds : List D} (h : DpAll K H vs ds) (s : Same H H') : DpAll K H' vs ds := dps_same s ds vs h
theorem dpl {K : PySem.W.Frag} {H : Hp} : ∀ {vs : List V} {ds : List D}, DpAll K H vs ds → vs.length = ds.length
  | _, _, .nil => rfl
  | _, _, .cons _ t => by rw [List.length_cons, List.length_cons, dpl t]
theorem dp_get {K : PySem.W.Frag} {H : Hp} : ∀ {vs : List V} {ds : List D} {i : Nat} {v : V}, DpAll K H vs ds → vs[i]? = some v → ∃ d, ds[i]? = some d ∧ Dp K H v d
  | _, _, 0, _, .cons h _, e => by cases e; exact ⟨_, rfl, h⟩
  | _, _, i + 1, _, .cons _ t, e => dp_get (i := i) t e
theorem dp_drop {K : PySem.W.Frag} {H : Hp} : ∀ {vs : List V} {ds : List D} (i : Nat), DpAll K H vs ds → DpAll K H (vs.drop i) (ds.drop i)
  | _, _, 0, h => h
  | _, _, _ + 1, .nil => .nil
  | _, _, i + 1, .cons _ t => dp_drop i t
theorem dp_take {K : PySem.W.Frag} {H : Hp} : ∀ {vs : List V} {ds : List D} (i : Nat), DpAll K H vs ds → DpAll K H (vs.take i) (ds.take i)
  | _, _, 0, h => .nil
  | _, _, _ + 1, .nil => .nil
  | _, _, i + 1, .cons h t => .cons h (dp_take i t)
theorem dp_app {K : PySem.W.Frag} {H : Hp} : ∀ {vs us : List V} {ds es : List D}, DpAll K H vs ds → DpAll K H us es → DpAll K H (vs ++ us) (ds ++ es)
  | _, _, _, _, .nil, h => h
  | _, _, _, _, .cons a t, h => .cons a (dp_app t h)
/-- a text's length is kept small -/
def smallD : D → Bool
  | .str z => decide (z.length ≤ 1000000)
  | _ => true
theorem dp_nv {K : PySem.W.Frag} {H : Hp} {v : V} {d : D} (h : Dp K H v d) (z : smallD d = true) : NV K H v (nameD d) := by
  cases h with
  | non => exact .other (.base .non) (by decide)
  | bl b => exact .other (.base (.bl b)) (by decide)
  | int i => exact .other (.base (.int i)) (by decide)
  | str x => exact .str x (of_decide_eq_true z)
  | lst h _ => exact .other (tyx_lst h) (by decide)
  | tup h _ => exact .other (tyx_tup h) (by decide)
def spTups (K : PySem.W.Frag) : Sp := fun vs H Q _ => ∃ (p : Addr) (xs : List V) (ds : List D), vs = [.ref p] ∧ SqT K H p xs ∧ DpAll K H xs ds ∧ ds.length ≤ 1000 ∧ ∀ H', Same H H' → Q (.bl (ds.all isTup)) H'
section
variable {P : Program} {w : World} {K : PySem.W.Frag} {mg : Str → Option Value} {base : Heap}
abbrev sTups : Stmt := top 23
theorem scTups : FnScope ["values", "value"] ["values"] (defScope sTups) := ⟨rfl, rfl, rfl, by decide +kernel, rfl, by decide +kernel, by decide +kernel⟩
theorem ok_tups {f : Addr} {fd : FuncData} (F : Fun K "are_tuples" "are_tuples" sTups f fd) (m_isinstance : mg "isinstance" = none) (m_tuple : mg "tuple" = none) (m_all : mg "all" = none) : FnOk P w K mg base CX0 1 f fd ["values"] (spTups K) := by
  refine F.ok scTups (fun vs H Q E h => ?_) (fun cdv A outer s H vs Q E hr h => ?_)
  · obtain ⟨p, xs, ds, rfl, _⟩ := h
    rfl
  · obtain ⟨p, xs, ds, rfl, hx, hd, hz, q⟩ := h
    refine ⟨_, (pss_one (ps_ret (pe_callB (cr_all rfl) (by rfl) m_all (by decide +kernel) (pa_cons (pe_lc (own := [("value", 1)]) (g := gName 1) (tt := tYes) (by rfl) scTups.nd (pi_tup (pv 0)) (blkOk_by (own := [("value", 1)]) (N := ["values", "value"]) (sc := defScope sTups) (by decide +kernel)) (fun _ _ _ _ _ => (pg_name (i := 1) scTups.nd rfl (Or.inl rfl))) (fun _ _ _ _ _ => pts_nil) (fun _ _ _ _ _ => (pe_callB (call_isiKK (K := K) rfl) (by rfl) m_isinstance (by decide +kernel) (pa_cons (pv 1) (pa_cons (pe_bltn (v := .ty "tuple") (by rfl) m_tuple (by decide +kernel) rfl) pa_nil))))) pa_nil)))), ?_⟩
    have len := dpl hd
    refine ⟨_, rfl, p, rfl, ⟨_, hx⟩, fun L nL => lc_tup (xs := xs) (fun i H' => Same H H' ∧ H' L = some (.lst ((ds.take i).map fun d => V.bl (isTup d)))) ⟨same_upd nL, upd_same⟩ (fun i H' _ h => h.1.tupS hx) ?_ ?_⟩
    · rintro i x H1 hxi ⟨s1, e1⟩
      obtain ⟨d, hd1, hdx⟩ := dp_get hd hxi
      refine ⟨rfl, ?_⟩
      dsimp only [tYes]
      rw [if_pos rfl]
      refine ⟨_, rfl, _, _, _, _, _, rfl, .ty _, dp_ty (hdx.same s1), kit_tup d, _, e1, ?_, same_updN nL s1, ?_⟩
      · rw [List.length_map, List.length_take, sizeLine_eq]
        omega
      · rw [upd_same, take_snoc hd1, List.map_append]
        rfl
    · rintro H1 ⟨s1, e1⟩
      rw [len, List.take_length] at e1
      have e3 : (ds.map fun d => V.bl (isTup d)) = (ds.map isTup).map V.bl := by rw [List.map_map]; rfl
      rw [e3] at e1
      refine ⟨L, _, rfl, .inl (.inl e1), ?_⟩
      have e4 : (ds.map isTup).all id = ds.all isTup := by rw [List.all_map]; rfl
      rw [e4]
      exact q H1 s1
end
end Tr

/-! P2 -/
/-! ### what fits, branches, the locks behind an item -/
namespace Tr
open PySem PySem.Spec PyProof.Rows L2 Rw
mutual
def goodD : D → Bool
  | .str z => PyData.strOk z && decide (z.length ≤ 1000)
  | .tuple ds => goodAll ds
  | .list ds => goodAll ds
  | .dict _ => false
  | _ => true
def goodAll : List D → Bool
  | [] => true
  | d :: ds => goodD d && goodAll ds
end
mutual
def cntD : D → Nat
  | .tuple ds => cntAll ds + 1
  | .list ds => cntAll ds + 1
  | _ => 1
def cntAll : List D → Nat
  | [] => 0
  | d :: ds => cntD d + cntAll ds
end
structure FitD (n : Nat) (d : D) : Prop where
  good : goodD d = true
  dep : d.depth < n
  cnt : cntD d ≤ 60000
structure Fits (n : Nat) (ds : List D) : Prop where
  good : goodAll ds = true
  dep : PyData.depthAll ds < n
  cnt : cntAll ds ≤ 60000
theorem Fits.head {n : Nat} {d : D} {ds : List D} (h : Fits n (d :: ds)) : FitD n d := by
  obtain ⟨a, b, c⟩ := h
  rw [goodAll, Bool.and_eq_true] at a
  rw [PyData.depthAll] at b
  rw [cntAll] at c
  exact ⟨a.1, by omega, by omega⟩
theorem Fits.tail {n : Nat} {d : D} {ds : List D} (h : Fits n (d :: ds)) : Fits n ds := by
  obtain ⟨a, b, c⟩ := h
  rw [goodAll, Bool.and_eq_true] at a
  rw [PyData.depthAll] at b
  rw [cntAll] at c
  exact ⟨a.2, by omega, by omega⟩
theorem Fits.mem {n : Nat} : ∀ {ds : List D} {d : D}, Fits n ds → d ∈ ds → FitD n d
  | _ :: _, _, h, .head _ => h.head
  | _ :: _, _, h, .tail _ t => h.tail.mem t
theorem FitD.inside {n : Nat} {ds : List D} (h : FitD (n + 1) (.tuple ds)) : Fits n ds := by
  obtain ⟨a, b, c⟩ := h
  rw [goodD] at a
  rw [PyData.depth] at b
  rw [cntD] at c
  exact ⟨a, by omega, by omega⟩
theorem FitD.wrap {n : Nat} {ds : List D} (h : Fits n ds) (c : cntAll ds < 60000) : FitD (n + 1) (.tuple ds) := by
  obtain ⟨a, b, _⟩ := h
  exact ⟨by rw [goodD]; exact a, by rw [PyData.depth]; omega, by rw [cntD]; omega⟩
theorem FitD.pos {n : Nat} {d : D} (h : FitD n d) : 0 < n := Nat.lt_of_le_of_lt (Nat.zero_le _) h.dep
theorem FitD.mono {n m : Nat} {d : D} (h : FitD n d) (e : n ≤ m) : FitD m d := ⟨h.good, Nat.lt_of_lt_of_le h.dep e, h.cnt⟩
theorem Fits.mono {n m : Nat} {d : List D} (h : Fits n d) (e : n ≤ m) : Fits m d := ⟨h.good, Nat.lt_of_lt_of_le h.dep e, h.cnt⟩
theorem len_cnt : ∀ ds : List D, ds.length ≤ cntAll ds
  | [] => Nat.zero_le _
  | d :: ds => by
    have h := len_cnt ds
    have h1 : 1 ≤ cntD d := by cases d <;> simp [cntD]
    rw [List.length_cons, cntAll]
    omega
theorem Fits.len {n : Nat} {ds : List D} (h : Fits n ds) : ds.length ≤ 60000 := Nat.le_trans (len_cnt ds) h.cnt
mutual
theorem lay_of : ∀ d : D, goodD d = true → PyData.canLay0 d = true
  | .none, _ => rfl
  | .bool _, _ => rfl
  | .int _, _ => rfl
  | .str z, h => by
    rw [goodD, Bool.and_eq_true] at h
    rw [PyData.canLay0]
    exact h.1
  | .tuple ds, h => by
    rw [goodD] at h
    rw [PyData.canLay0]
    exact lays_of ds h
  | .list ds, h => by
    rw [goodD] at h
    rw [PyData.canLay0]
    exact lays_of ds h
  | .dict _, h => by rw [goodD] at h; cases h
theorem lays_of : ∀ ds : List D, goodAll ds = true → PyData.canLayAll0 ds = true
  | [], _ => rfl
  | d :: ds, h => by
    rw [goodAll, Bool.and_eq_true] at h
    rw [PyData.canLayAll0, lay_of d h.1, lays_of ds h.2]
    rfl
end
theorem FitD.small {n : Nat} {d : D} (h : FitD n d) : smallD d = true := by
  cases d with
  | str z =>
    have g := h.good
    rw [goodD, Bool.and_eq_true] at g
    have g2 := of_decide_eq_true g.2
    exact decide_eq_true (by omega)
  | _ => rfl
theorem FitD.shaped {n : Nat} {d : D} (h : FitD n d) (hn : n ≤ 40) : SeqAt.shaped d = true := shaped_of (lay_of d h.good) (by have := h.dep; omega)
theorem tail_from {K : PySem.W.Frag} {H : Hp} {p : Addr} {xs : List V} {x : Int} {i : Nat} {Q : VK} (h : SqT K H p xs) (hx : x = (i : Nat)) (q : ∀ H' u, Same H H' → SqT K H' u (xs.drop i) → Q (.ref u) H') : rSlA K (.ref p) (some x) none H Q := by
  subst hx
  have e1 : HT.sIx xs.length 0 (some ((i : Nat) : Int)) = min i xs.length := HT.sIx_nat xs.length 0 i
  have e0 : HT.sIx xs.length xs.length none = xs.length := rfl
  refine ⟨p, _, rfl, h, fun c => ?_, fun c u nu => ?_⟩
  · have c1 := c.1
    rw [e1] at c1
    have z : xs.drop i = xs := by
      by_cases hi : i = 0
      · rw [hi]; rfl
      · have z2 : xs.length = 0 := by omega
        rw [List.eq_nil_of_length_eq_zero z2]
        cases i <;> rfl
    have y := q H p (Same.refl H)
    rw [z] at y
    exact y h
  · refine q _ _ (same_upd nu) (SqT.of ?_)
    rw [upd_same]
    have e2 : cutV xs (some ((i : Nat) : Int)) none = xs.drop i := by
      show (xs.drop (HT.sIx xs.length 0 (some ((i : Nat) : Int)))).take (HT.sIx xs.length xs.length none - HT.sIx xs.length 0 (some ((i : Nat) : Int))) = _
      rw [e1, e0, List.take_of_length_le (by rw [List.length_drop]; exact Nat.le_refl _)]
      by_cases hi : i ≤ xs.length
      · rw [Nat.min_eq_left hi]
      · rw [Nat.min_eq_right (by omega), List.drop_of_length_le (Nat.le_refl _), List.drop_of_length_le (by omega)]
    rw [e2]
theorem atN {xs : List V} {i : Nat} {x : V} (h : xs[i]? = some x) : atI xs ((i : Nat) : Int) = some x := by
  have hi : i < xs.length := (List.getElem?_eq_some_iff.mp h).1
  unfold atI ixN
  rw [if_pos (Int.natCast_nonneg i), if_pos (Int.ofNat_lt.mpr hi)]
  exact h
theorem at0 {x : V} {xs : List V} : atI (x :: xs) 0 = some x := atN (i := 0) rfl
theorem at1 {x y : V} {xs : List V} : atI (x :: y :: xs) 1 = some y := atN (i := 1) rfl
theorem at2 {x y z : V} {xs : List V} : atI (x :: y :: z :: xs) 2 = some z := atN (i := 2) rfl
theorem at3 {x y z t : V} {xs : List V} : atI (x :: y :: z :: t :: xs) 3 = some t := atN (i := 3) rfl
def wD : D → Str
  | .tuple (.str w :: _) => w
  | _ => ""
def nmD : D → Str
  | .tuple (_ :: .str n :: _) => n
  | _ => ""
/-- an item of which the tuples, the names can be read -/
def BrOk (d : D) : Prop := ∃ w r, d = .tuple (.str w :: r) ∧ (w = "test" → ∃ n x y, r = [n, .tuple x, .tuple y]) ∧ (w = "choose" → ∃ x y, r = [.tuple x, .tuple y]) ∧ (w = "take" ∨ w = "give" ∨ w = "piece" → ∃ n r', r = .str n :: r')
def kids (d : D) : List (List D) := match forkOf d with
  | some (x, y) => [x, y]
  | none => []
theorem kids_test {n : D} {x y : List D} : kids (.tuple [.str "test", n, .tuple x, .tuple y]) = [x, y] := by
  rfl
theorem kids_choose {x y : List D} : kids (.tuple [.str "choose", .tuple x, .tuple y]) = [x, y] := by
  rfl
theorem kids_none {w : Str} {r : List D} (h1 : w ≠ "test") (h2 : w ≠ "choose") : kids (.tuple (.str w :: r)) = [] := by
  unfold kids
  have e : forkOf (.tuple (.str w :: r)) = none := by
    unfold forkOf
    split
    · next e =>
      cases e
      exact if_neg h1
    · next e =>
      cases e
      exact if_neg h2
    · rfl
  rw [e]
def spBr (K : PySem.W.Frag) : Sp := fun vs H Q _ => ∃ (H0 : Hp) (v : V) (d : D), vs = [v] ∧ Same H0 H ∧ Dp K H0 v d ∧ BrOk d ∧ ∀ H' t ys, Same H H' → SqT K H' t ys → DpAll K H0 ys ((kids d).map PyData.tuple) → Q (.ref t) H'
def behindD (d : D) (h : List Str) : List Str := if wD d = "take" then h ++ [nmD d] else if wD d = "give" then h.dropLast else h
def spBeh (K : PySem.W.Frag) : Sp := fun vs H Q _ => ∃ (v hv : V) (d : D) (h : List Str), vs = [v, hv] ∧ Dp K H v d ∧ BrOk d ∧ TxtT K H hv h ∧ h.length ≤ 900 ∧ ∀ H' u, Same H H' → TxtT K H' u (behindD d h) → Q u H'
section
variable {P : Program} {w : World} {K : PySem.W.Frag} {mg : Str → Option Value} {base : Heap}
abbrev sBr : Stmt := top 25
theorem scBr : FnScope ["item"] ["item"] (defScope sBr) := ⟨rfl, rfl, rfl, by decide +kernel, rfl, by decide +kernel, by decide +kernel⟩
theorem ok_br {f : Addr} {fd : FuncData} (F : Fun K "branches" "branches" sBr f fd) : FnOk P w K mg base CX0 1 f fd ["item"] (spBr K) := by
  refine F.ok scBr (fun vs H Q E h => ?_) (fun cdv A outer s H vs Q E hr h => ?_)
  · obtain ⟨H0, v, d, rfl, _⟩ := h
    rfl
  · obtain ⟨H0, v, d, rfl, s0, hd, ⟨wd, r, rfl, b1, b2, b3⟩, q⟩ := h
    refine ⟨_, (pss_cons (ps_if (pt_cmpR op_eq (pe_ix (ix_tupK (K := K) rfl) (pv 0) pe_int (fun _ _ => rfl)) pe_str (nomark _))
       (pss_one (ps_ret (pe_slice sl_tupA (pv 0) (po_some pe_int) po_none)))
       pss_nil)
       (pss_cons (ps_if (pt_cmpR op_eq (pe_ix (ix_tupK (K := K) rfl) (pv 0) pe_int (fun _ _ => rfl)) pe_str (nomark _))
       (pss_one (ps_ret (pe_slice sl_tupA (pv 0) (po_some pe_int) po_none)))
       pss_nil)
       (pss_one (ps_ret (pe_tup pa_nil))))), ?_⟩
    cases hd with
    | @tup p xs _ hp ha =>
      cases ha with
      | @cons x0 xs _ _ h0 ha =>
        cases h0
        have hp1 := s0.tupS hp
        refine ⟨_, rfl, p, _, _, _, rfl, rfl, hp1, at0, rfl, _, rfl, ?_⟩
        rw [Rw.dec_str]
        by_cases e1 : wd = "test"
        · rw [decide_eq_true e1]
          subst e1
          obtain ⟨n, x, y, rfl⟩ := b1 rfl
          refine iteT ⟨_, rfl, _, rfl, ?_⟩
          dsimp only [tNoPart]
          refine tail_from (i := 2) hp1 rfl fun H' u s1 hu => ?_
          refine q H' u _ s1 hu ?_
          rw [kids_test]
          cases ha with
          | cons _ ha => exact ha
        · rw [decide_eq_false e1]
          refine iteF ?_
          refine ⟨_, rfl, p, _, _, _, rfl, rfl, hp1, at0, rfl, _, rfl, ?_⟩
          rw [Rw.dec_str]
          by_cases e2 : wd = "choose"
          · rw [decide_eq_true e2]
            subst e2
            obtain ⟨x, y, rfl⟩ := b2 rfl
            refine iteT ⟨_, rfl, _, rfl, ?_⟩
            dsimp only [tNoPart]
            refine tail_from (i := 1) hp1 rfl fun H' u s1 hu => ?_
            refine q H' u _ s1 hu ?_
            rw [kids_choose]
            exact ha
          · rw [decide_eq_false e2]
            refine iteF ?_
            refine ⟨Nat.zero_le _, fun t nt => q _ t [] (same_upd nt) (SqT.of upd_same) ?_⟩
            rw [kids_none e1 e2]
            exact .nil
abbrev sBeh : Stmt := top 31
theorem scBeh : FnScope ["item", "held"] ["item", "held"] (defScope sBeh) := ⟨rfl, rfl, rfl, by decide +kernel, rfl, by decide +kernel, by decide +kernel⟩
theorem ok_beh {f : Addr} {fd : FuncData} (F : Fun K "locks_behind" "locks_behind" sBeh f fd) : FnOk P w K mg base CX0 1 f fd ["item", "held"] (spBeh K) := by
  refine F.ok scBeh (fun vs H Q E h => ?_) (fun cdv A outer s H vs Q E hr h => ?_)
  · obtain ⟨v, hv, d, ns, rfl, _⟩ := h
    rfl
  · obtain ⟨v, hv, d, ns, rfl, hd, ⟨wd, r, rfl, b1, b2, b3⟩, ht0, hz, q⟩ := h
    obtain ⟨t, rfl, ht⟩ := id ht0
    refine ⟨_, (pss_cons (ps_if (pt_cmpR op_eq (pe_ix (ix_tupK (K := K) rfl) (pv 0) pe_int (fun _ _ => rfl)) pe_str (nomark _))
       (pss_one (ps_ret (pe_op op_catA (pv 1) (pe_tup (pa_cons (pe_ix (ix_tupK (K := K) rfl) (pv 0) pe_int (fun _ _ => rfl)) pa_nil)))))
       pss_nil)
       (pss_cons (ps_if (pt_cmpR op_eq (pe_ix (ix_tupK (K := K) rfl) (pv 0) pe_int (fun _ _ => rfl)) pe_str (nomark _))
       (pss_one (ps_ret (pe_slice sl_tupA (pv 1) po_none (po_some (pe_un un_neg pe_int)))))
       pss_nil)
       (pss_one (ps_ret (pv 1))))), ?_⟩
    cases hd with
    | @tup p xs _ hp ha =>
      cases ha with
      | @cons x0 xs _ _ h0 ha =>
        cases h0
        refine ⟨_, rfl, p, _, _, _, rfl, rfl, hp, at0, rfl, _, rfl, ?_⟩
        rw [Rw.dec_str]
        unfold behindD at q
        rw [show wD (.tuple (.str wd :: r)) = wd from rfl] at q
        by_cases h1 : wd = "take"
        · rw [decide_eq_true h1]
          rw [if_pos h1] at q
          obtain ⟨n, r', rfl⟩ := b3 (.inl h1)
          cases ha with
          | @cons x1 xs2 _ _ h0 ha =>
          cases h0
          refine iteT ?_
          refine ⟨_, rfl, _, rfl, p, _, _, _, rfl, rfl, hp, at1, by show 1 ≤ sizeLine; decide, fun y ny => ?_⟩
          have s1 := same_upd (o := HO.tup [V.str n]) ny
          refine cat_txt (ht0.same s1) ⟨y, rfl, SqT.of upd_same⟩ (bs := [n]) (by show ns.length + 1 ≤ 1000; omega) fun H' u s2 hu => q H' u (s1.trans s2) hu
        · rw [decide_eq_false h1]
          rw [if_neg h1] at q
          refine iteF ?_
          refine ⟨_, rfl, p, _, _, _, rfl, rfl, hp, at0, rfl, _, rfl, ?_⟩
          rw [Rw.dec_str]
          by_cases h2 : wd = "give"
          · rw [decide_eq_true h2]
            rw [if_pos h2] at q
            refine iteT ?_
            refine ⟨_, rfl, _, rfl, _, rfl, ?_⟩
            refine ⟨t, _, rfl, ht, fun c => ?_, fun c u nu => ?_⟩
            · have e1 : HT.sIx (ns.map V.str).length (ns.map V.str).length (some (-1)) = ns.length - 1 := by rw [List.length_map]; exact sIx_m1 _ _
              have c2 := c.2
              rw [e1, List.length_map] at c2
              have e2 : ns = [] := List.eq_nil_of_length_eq_zero (by omega)
              rw [e2] at q ht
              exact q H _ (Same.refl H) ⟨t, rfl, ht⟩
            · refine q _ _ (same_upd nu) ⟨u, rfl, SqT.of ?_⟩
              rw [upd_same, cut_m1, List.map_dropLast]
          · rw [decide_eq_false h2]
            rw [if_neg h2] at q
            refine iteF ?_
            exact ⟨_, rfl, q H _ (Same.refl H) ⟨t, rfl, ht⟩⟩
end
end Tr

/-! P3 -/
/-! ### is_fork, flat -/
namespace Tr
open PySem PySem.Spec PyProof.Rows L2 Rw
theorem int_dec {n : Nat} (m : Int) (k : Nat) (h : m = (k : Nat)) : decide (V.int ((n : Nat) : Int) = V.int m) = decide (n = k) := by
  subst h
  by_cases e : n = k
  · rw [decide_eq_true e, decide_eq_true (by rw [e])]
  · rw [decide_eq_false e, decide_eq_false fun z => e (by have := V.int.inj z; omega)]
theorem fs_test {r : List D} (h : r.length ≠ 3) : forkShape "test" r = false := by
  match r, h with
  | [], _ => rfl
  | [_], _ => rfl
  | [x, y], _ => simp [forkShape, test_choose]
  | [_, _, _], h => exact absurd rfl h
  | _ :: _ :: _ :: _ :: _, _ => rfl
theorem fs_choose {r : List D} (h : r.length ≠ 2) : forkShape "choose" r = false := by
  match r, h with
  | [], _ => rfl
  | [_], _ => rfl
  | [_, _], h => exact absurd rfl h
  | [x, y, z], _ => simp [forkShape, test_choose.symm]
  | _ :: _ :: _ :: _ :: _, _ => rfl
theorem fs_other {w : Str} {r : List D} (h : w ≠ "test") (h2 : w ≠ "choose") : forkShape w r = false := by
  match r with
  | [] => rfl
  | [_] => rfl
  | [_, _] => simp [forkShape, h2]
  | [x, y, z] => simp [forkShape, h]
  | _ :: _ :: _ :: _ :: _ => rfl
def spFork (K : PySem.W.Frag) : Sp := fun vs H Q _ => ∃ (p : Addr) (xs : List V) (w : Str) (r : List D), vs = [.ref p] ∧ SqT K H p xs ∧ DpAll K H xs (.str w :: r) ∧ (∀ d ∈ r, smallD d = true) ∧ ∀ H', Same H H' → Q (.bl (forkShape w r)) H'
section
variable {P : Program} {w : World} {K : PySem.W.Frag} {mg : Str → Option Value} {base : Heap}
abbrev sFork : Stmt := top 22
theorem scFork : FnScope ["value"] ["value"] (defScope sFork) := ⟨rfl, rfl, rfl, by decide +kernel, rfl, by decide +kernel, by decide +kernel⟩
theorem ok_fork {f fN fT : Addr} {fd fdN fdT : FuncData} (F : Fun K "is_fork" "is_fork" sFork f fd) (GN : FnOk P w K mg base CX0 1 fN fdN ["value"] (spName K)) (TN : Called K mg "is_name" ["value"] fN fdN)
    (GT : FnOk P w K mg base CX0 1 fT fdT ["values"] (spTups K)) (TT : Called K mg "are_tuples" ["values"] fT fdT) (m_len : mg "len" = none) : FnOk P w K mg base CX0 2 f fd ["value"] (spFork K) := by
  refine F.ok scFork (fun vs H Q E h => ?_) (fun cdv A outer s H vs Q E hr h => ?_)
  · obtain ⟨p, xs, wd, r, rfl, _⟩ := h
    rfl
  · obtain ⟨p, xs0, wd, r, rfl, hp, ha, sm, q⟩ := h
    refine ⟨_, (pss_cons (ps_if (pt_cmpR op_eq (pe_ix (ix_tupK (K := K) rfl) (pv 0) pe_int (fun _ _ => rfl)) pe_str (nomark _))
       (pss_one (ps_ret (pe_and (pe_cmpR op_eq (pe_callB (call_len_K (K := K) rfl) (by rfl) m_len PySem.boot_len (pa_cons (pv 0) pa_nil)) pe_int (nomark _)) (pe_and (pe_call GN (hr.mono (by first | decide | omega)) rfl TN.1 TN.2.1 TN.2.2 .nil pass0 (pa_cons (pe_ix (ix_tupK (K := K) rfl) (pv 0) pe_int (fun _ _ => rfl)) pa_nil)) (pe_one (pe_call GT (hr.mono (by first | decide | omega)) rfl TT.1 TT.2.1 TT.2.2 .nil pass0 (pa_cons (pe_slice sl_tupA (pv 0) (po_some pe_int) po_none) pa_nil)))))))
       pss_nil)
       (pss_one (ps_ret (pe_and (pe_cmpR op_eq (pe_ix (ix_tupK (K := K) rfl) (pv 0) pe_int (fun _ _ => rfl)) pe_str (nomark _)) (pe_and (pe_cmpR op_eq (pe_callB (call_len_K (K := K) rfl) (by rfl) m_len PySem.boot_len (pa_cons (pv 0) pa_nil)) pe_int (nomark _)) (pe_one (pe_call GT (hr.mono (by first | decide | omega)) rfl TT.1 TT.2.1 TT.2.2 .nil pass0 (pa_cons (pe_slice sl_tupA (pv 0) (po_some pe_int) po_none) pa_nil)))))))), ?_⟩
    cases ha with
    | @cons x0 xs _ _ h0 ha =>
    cases h0
    have len := dpl ha
    have lenE : (V.str wd :: xs).length = r.length + 1 := by rw [List.length_cons, len]
    refine ⟨_, rfl, p, _, _, _, rfl, rfl, hp, at0, rfl, _, rfl, ?_⟩
    rw [Rw.dec_str]
    by_cases e1 : wd = "test"
    · rw [decide_eq_true e1]
      subst e1
      refine iteT ?_
      refine ⟨_, rfl, p, _, rfl, .inr hp, rfl, _, rfl, ?_⟩
      rw [lenE, int_dec 4 4 rfl]
      by_cases h3 : r.length = 3
      · rw [decide_eq_true (by omega)]
        match r, h3, ha with
        | [n, x, y], _, .cons hn (.cons hx (.cons hy .nil)) =>
        refine iteT ?_
        refine ⟨_, rfl, p, _, _, _, rfl, rfl, hp, at1, _, _, rfl, dp_nv hn (sm n List.mem_cons_self), fun H1 s1 => ⟨_, rfl, ?_⟩⟩
        cases hnm : nameD n with
        | false =>
          have z := q H1 s1
          rw [show forkShape "test" [n, x, y] = false by simp [forkShape, hnm]] at z
          exact iteF z
        | true =>
          refine iteT ?_
          refine ⟨_, rfl, _, rfl, ?_⟩
          dsimp only [tNoPart]
          refine tail_from (i := 2) (s1.tupS hp) rfl fun H2 u s2 hu => ?_
          refine ⟨u, _, [x, y], rfl, hu, (DpAll.cons hx (.cons hy .nil)).same (s1.trans s2), by show 2 ≤ 1000; decide, fun H3 s3 => ?_⟩
          have z := q H3 ((s1.trans s2).trans s3)
          rw [show forkShape "test" [n, x, y] = [x, y].all isTup by simp [forkShape, hnm]] at z
          exact z
      · rw [decide_eq_false (by omega)]
        rw [fs_test h3] at q
        exact iteF (q H (Same.refl H))
    · rw [decide_eq_false e1]
      refine iteF ?_
      refine ⟨_, rfl, p, _, _, _, rfl, rfl, hp, at0, rfl, _, rfl, ?_⟩
      rw [Rw.dec_str]
      by_cases e2 : wd = "choose"
      · rw [decide_eq_true e2]
        subst e2
        refine iteT ?_
        refine ⟨_, rfl, p, _, rfl, .inr hp, rfl, _, rfl, ?_⟩
        rw [lenE, int_dec 3 3 rfl]
        by_cases h3 : r.length = 2
        · rw [decide_eq_true (by omega)]
          match r, h3, ha with
          | [x, y], _, .cons hx (.cons hy .nil) =>
          refine iteT ?_
          refine ⟨_, rfl, _, rfl, ?_⟩
          dsimp only [tNoPart]
          refine tail_from (i := 1) hp rfl fun H2 u s2 hu => ?_
          refine ⟨u, _, [x, y], rfl, hu, (DpAll.cons hx (.cons hy .nil)).same s2, by show 2 ≤ 1000; decide, fun H3 s3 => ?_⟩
          have z := q H3 (s2.trans s3)
          rw [show forkShape "choose" [x, y] = [x, y].all isTup by simp [forkShape]] at z
          exact z
        · rw [decide_eq_false (by omega)]
          rw [fs_choose h3] at q
          exact iteF (q H (Same.refl H))
      · rw [decide_eq_false e2]
        rw [fs_other e1 e2] at q
        exact iteF (q H (Same.refl H))
end
/-! flat -/
theorem flat_app : ∀ as bs : List D, flat (as ++ bs) = flat as ++ flat bs
  | [], bs => by rw [List.nil_append]; rw [flat]; rfl
  | a :: as, bs => by
    rw [List.cons_append, flat, flat, flat_app as bs]
    simp
theorem flat_one (d : D) : flat [d] = d :: flatk d := by rw [flat, flat, List.append_nil]
theorem flatk_kids (d : D) : flatk d = (kids d).flatMap flat := by
  unfold kids
  cases h : forkOf d with
  | none => exact (fork_none h).1
  | some p =>
    obtain ⟨x, y⟩ := p
    rw [(fork_some h).1]
    simp
theorem fork_depth {d : D} {x y : List D} (h : forkOf d = some (x, y)) : PyData.depthAll x + 2 ≤ d.depth ∧ PyData.depthAll y + 2 ≤ d.depth ∧ cntAll x + cntAll y + 3 ≤ cntD d ∧ (goodD d = true → goodAll x = true ∧ goodAll y = true) := by
  unfold forkOf at h
  split at h
  · split at h
    · cases h
      simp only [PyData.depth, PyData.depthAll, cntD, cntAll, goodD, goodAll, Bool.and_eq_true]
      exact ⟨by omega, by omega, by omega, fun g => ⟨g.2.2.1, g.2.2.2.1⟩⟩
    · cases h
  · split at h
    · cases h
      simp only [PyData.depth, PyData.depthAll, cntD, cntAll, goodD, goodAll, Bool.and_eq_true]
      exact ⟨by omega, by omega, by omega, fun g => ⟨g.2.1, g.2.2.1⟩⟩
    · cases h
  · cases h
theorem kid_fit {n : Nat} {d : D} {x : List D} (h : FitD (n + 1) d) (hx : x ∈ kids d) : Fits n x := by
  unfold kids at hx
  cases hf : forkOf d with
  | none => rw [hf] at hx; cases hx
  | some p =>
    obtain ⟨a, b⟩ := p
    rw [hf] at hx
    obtain ⟨d1, d2, d3, d4⟩ := fork_depth hf
    obtain ⟨g1, g2⟩ := d4 h.good
    have hd := h.dep
    have hc := h.cnt
    simp only [List.mem_cons, List.not_mem_nil, or_false] at hx
    rcases hx with rfl | rfl
    · exact ⟨g1, by omega, by omega⟩
    · exact ⟨g2, by omega, by omega⟩
theorem kids_len (d : D) : (kids d).length ≤ 2 := by
  unfold kids
  split
  · exact Nat.le_refl _
  · exact Nat.zero_le _
theorem flat_cnt_aux (N : Nat) : ∀ ds : List D, sizeOf ds < N → (flat ds).length ≤ cntAll ds := by
  induction N with
  | zero => exact fun _ h => absurd h (by omega)
  | succ N ih =>
    intro ds h
    cases ds with
    | nil => rw [flat]; exact Nat.zero_le _
    | cons d ds =>
      simp at h
      rw [flat, cntAll, List.length_cons, List.length_append]
      have h1 := ih ds (by omega)
      have h2 : (flatk d).length + 1 ≤ cntD d := by
        cases hf : forkOf d with
        | none =>
          rw [(fork_none hf).1]
          cases d <;> simp [cntD]
        | some p =>
          obtain ⟨x, y⟩ := p
          obtain ⟨f1, _, _, _, s1, s2⟩ := fork_some hf
          obtain ⟨_, _, d3, _⟩ := fork_depth hf
          rw [f1, List.length_append]
          have a := ih x (by omega)
          have b := ih y (by omega)
          omega
      omega
theorem flat_cnt (ds : List D) : (flat ds).length ≤ cntAll ds := flat_cnt_aux _ ds (Nat.lt_succ_self _)
theorem dp_map_tup {K : PySem.W.Frag} {H : Hp} {ys : List V} {dss : List (List D)} {j : Nat} {v : V} (h : DpAll K H ys (dss.map PyData.tuple)) (e : ys[j]? = some v) : ∃ (p : Addr) (xs : List V) (ds : List D), v = .ref p ∧ dss[j]? = some ds ∧ SqT K H p xs ∧ DpAll K H xs ds := by
  obtain ⟨d, h1, h2⟩ := dp_get h e
  rw [List.getElem?_map, Option.map_eq_some_iff] at h1
  obtain ⟨ds, h3, rfl⟩ := h1
  cases h2 with
  | @tup p xs _ a b => exact ⟨p, xs, ds, rfl, h3, a, b⟩
def spFlat (K : PySem.W.Frag) (n : Nat) : Sp := fun vs H Q _ => ∃ (H0 : Hp) (p : Addr) (xs : List V) (ds : List D), vs = [.ref p] ∧ Same H0 H ∧ SqT K H p xs ∧ DpAll K H0 xs ds ∧ Fits n ds ∧ (∀ d ∈ flat ds, BrOk d) ∧ ∀ H' l ys, Same H H' → H l = none → H' l = some (.lst ys) → DpAll K H0 ys (flat ds) → Q (.ref l) H'
section
variable {P : Program} {w : World} {K : PySem.W.Frag} {mg : Str → Option Value} {base : Heap}
abbrev sFlat : Stmt := top 26
theorem scFlat : FnScope ["items", "found", "item", "inner"] ["items"] (defScope sFlat) := ⟨rfl, rfl, rfl, by decide +kernel, rfl, by decide +kernel, by decide +kernel⟩
theorem ok_flat {f fB : Addr} {fd fdB : FuncData} (F : Fun K "flat" "flat" sFlat f fd) (TF : Called K mg "flat" ["items"] f fd) (GB : FnOk P w K mg base CX0 1 fB fdB ["item"] (spBr K)) (TB : Called K mg "branches" ["item"] fB fdB) : ∀ n, FnOk P w K mg base CX0 (n + 2) f fd ["items"] (spFlat K n) := by
  intro n
  induction n with
  | zero =>
    refine F.ok scFlat (fun vs H Q E h => ?_) (fun cdv A outer s H vs Q E hr h => ?_)
    · obtain ⟨H0, p, xs, ds, rfl, _⟩ := h
      rfl
    · obtain ⟨H0, p, xs, ds, rfl, _, _, _, ft, _⟩ := h
      exact absurd ft.dep (Nat.not_lt_zero _)
  | succ n GF =>
    refine F.ok scFlat (fun vs H Q E h => ?_) (fun cdv A outer s H vs Q E hr h => ?_)
    · obtain ⟨H0, p, xs, ds, rfl, _⟩ := h
      rfl
    · obtain ⟨H0, p, xs, ds, rfl, s0, hp, ha, ft, br, q⟩ := h
      refine ⟨_, (pss_cons (ps_set (i := 1) scFlat.nd rfl (.inl rfl) (pe_lst pa_nil))
       (pss_cons (ps_for PassesOwn.never rfl (pi_tup (pv 0)) (pg_name (i := 2) scFlat.nd rfl (.inl rfl))
       (pss_cons (ps_expr (pe_bm PySem.F.plainAttrs_list PySem.F.slot_list_append PySem.F.type_list_append mt_append (pv 1) (pa_cons (pv 2) pa_nil)))
       (pss_one (ps_for PassesOwn.never rfl (pi_tup (pe_call GB (hr.mono (by first | decide | omega)) rfl TB.1 TB.2.1 TB.2.2 .nil pass0 (pa_cons (pv 2) pa_nil))) (pg_name (i := 3) scFlat.nd rfl (.inl rfl))
       (pss_one (ps_expr (pe_bm PySem.F.plainAttrs_list PySem.F.slot_list_extend PySem.F.type_list_extend mt_extend (pv 1) (pa_cons (pe_call GF (hr.mono (by first | decide | omega)) rfl TF.1 TF.2.1 TF.2.2 .nil pass0 (pa_cons (pv 3) pa_nil)) pa_nil))))))))
       (pss_one (ps_ret (pv 1))))), ?_⟩
      have len := dpl ha
      refine ⟨Nat.zero_le _, fun l nl => ?_⟩
      have cl := flat_cnt ds
      have cc := ft.cnt
      refine ⟨_, rfl, p, rfl, ⟨_, (same_upd nl).tupS hp⟩, for_tup (xs := xs)
        (fun i σ H' => ∃ (ys : List V) (v2 v3 : Option V), σ = [some (.ref p), some (.ref l), v2, v3] ∧ Same H H' ∧ H' l = some (.lst ys) ∧ DpAll K H0 ys (flat (ds.take i)))
        ⟨[], none, none, rfl, same_upd nl, upd_same, by rw [List.take_zero, flat]; exact .nil⟩ ?_ ?_ ?_⟩
      · rintro i σ H' hi ⟨ys, v2, v3, rfl, sm, _⟩
        exact sm.tupS hp
      · rintro i x σ H1 hxi ⟨ys, v2, v3, rfl, s1, hl, hy⟩
        obtain ⟨d, hd, hx⟩ := dp_get ha hxi
        have mem : d ∈ ds := List.mem_of_getElem? hd
        have tk := take_snoc hd
        have fl1 : flat (ds.take (i + 1)) = flat (ds.take i) ++ (d :: flatk d) := by rw [tk, flat_app, flat_one]
        have sub : ∀ e ∈ flat (ds.take (i + 1)), e ∈ flat ds := fun e he => by
          rw [← List.take_append_drop (i + 1) ds, flat_app]
          exact List.mem_append_left _ he
        have le1 : (flat (ds.take (i + 1))).length ≤ 60000 := by
          have z : (flat ds).length = (flat (ds.take (i + 1))).length + (flat (ds.drop (i + 1))).length := by
            rw [← List.length_append, ← flat_app, List.take_append_drop]
          omega
        have brd : BrOk d := br d (sub d (by rw [fl1]; exact List.mem_append_right _ List.mem_cons_self))
        -- found.append(item)
        have ly := dpl hy
        rw [fl1, List.length_append, List.length_cons] at le1
        refine ⟨_, rfl, .inl ⟨rfl, _, SqL.of hl⟩, _, rfl, l, _, _, rfl, rfl, hl, by rw [sizeLine_eq]; omega, ?_⟩
        have s2 : Same H (upd H1 l (.lst (ys ++ [x]))) := same_updN nl s1
        refine ⟨_, rfl, H0, x, d, rfl, s0.trans s2, hx, brd, fun H3 t ks s3 ht hk => ?_⟩
        have lk := dpl hk
        rw [List.length_map] at lk
        have l3 : H3 l = some (.lst (ys ++ [x])) := s3 _ _ upd_same
        have s03 := s2.trans s3
        refine ⟨t, rfl, ⟨_, ht⟩, for_tup (xs := ks) (fun j σ H' => ∃ (zs : List V) (v3 : Option V), σ = [some (.ref p), some (.ref l), some x, v3] ∧ Same H H' ∧ SqT K H' t ks ∧ H' l = some (.lst zs) ∧ DpAll K H0 zs (flat (ds.take i) ++ d :: ((kids d).take j).flatMap flat))
          ⟨ys ++ [x], v3, rfl, s03, ht, l3, dp_app hy (.cons hx .nil)⟩ ?_ ?_ ?_⟩
        · rintro j σ H' hj ⟨zs, v3, rfl, _, ht, _⟩
          exact ht
        · rintro j k σ H4 hkj ⟨zs, v3, rfl, s4, ht4, hl4, hz⟩
          obtain ⟨pk, xk, dk, rfl, hdk, hpk, hak⟩ := dp_map_tup hk hkj
          have memk : dk ∈ kids d := List.mem_of_getElem? hdk
          have subk : ∀ e ∈ flat dk, e ∈ flatk d := fun e he => by
            rw [flatk_kids]
            exact List.mem_flatMap.mpr ⟨dk, memk, he⟩
          refine ⟨_, rfl, .inl ⟨rfl, _, SqL.of hl4⟩, _, rfl, H0, pk, xk, dk, rfl, s0.trans s4, (s0.trans s4).tupS hpk, hak, kid_fit ((ft.mem mem)) memk, fun e he => br e (sub e (by rw [fl1]; exact List.mem_append_right _ (List.mem_cons_of_mem _ (subk e he)))), fun H5 l5 ws s5 n5 h5 hw => ?_⟩
          have lz := dpl hz
          have lw := dpl hw
          have tkk := take_snoc hdk
          have ll : (flat (ds.take i) ++ d :: ((kids d).take (j + 1)).flatMap flat).length ≤ 60000 := by
            have z : ((kids d).flatMap flat).length = (((kids d).take (j + 1)).flatMap flat).length + (((kids d).drop (j + 1)).flatMap flat).length := by
              rw [← List.length_append, ← List.flatMap_append, List.take_append_drop]
            rw [flatk_kids] at le1
            rw [List.length_append, List.length_cons]
            omega
          rw [tkk, List.flatMap_append] at ll
          simp only [List.length_append, List.length_cons, List.flatMap_cons, List.flatMap_nil, List.append_nil] at ll lz
          refine ⟨l, l5, _, _, rfl, rfl, s5 _ _ hl4, h5, by rw [sizeLine_eq]; omega, ?_⟩
          refine ⟨zs ++ ws, some (.ref pk), rfl, same_updN nl (s4.trans s5), sqT_updL (s5 _ _ hl4) (s5.tupS ht4), upd_same, ?_⟩
          rw [tkk, List.flatMap_append]
          have z := dp_app hz hw
          simpa using z
        · rintro σ H4 ⟨zs, v3, rfl, s4, ht4, hl4, hz⟩
          refine ⟨zs, some x, v3, rfl, s4, hl4, ?_⟩
          rw [fl1, flatk_kids]
          rw [lk, List.take_length] at hz
          exact hz
      · rintro σ H1 ⟨ys, v2, v3, rfl, s1, hl, hy⟩
        rw [len, List.take_length] at hy
        exact ⟨_, rfl, q H1 l ys s1 nl hl hy⟩
end
end Tr

/-! P4 -/
/-! ### is_inner, is_shaped, misshapen -/
namespace Tr
open PySem PySem.Spec PyProof.Rows L2 Rw
theorem inV_bl (b : Bool) : ∀ bs : List Bool, inV (.bl b) (bs.map V.bl) = bs.contains b
  | [] => rfl
  | c :: bs => by
    have e : inV (.bl b) ((c :: bs).map V.bl) = ((c == b) || inV (.bl b) (bs.map V.bl)) := by
      cases c <;> cases b <;> rfl
    rw [e, inV_bl b bs, List.contains_cons]
    cases c <;> cases b <;> rfl
theorem flat_bl : ∀ bs : List Bool, (bs.map V.bl).all flatV = true
  | [] => rfl
  | n :: ns => by
    show (flatV (.bl n) && (ns.map V.bl).all flatV) = true
    rw [flat_bl ns]
    rfl
theorem plain_facts {w : Str} (h : w ∈ plain6) : w ≠ "test" ∧ w ≠ "choose" ∧ w ≠ "piece" := ⟨fun e => test_not_plain (e ▸ h), fun e => choose_not_plain (e ▸ h), fun e => piece_not_plain (e ▸ h)⟩
theorem use_facts : ("use" : Str) ≠ "test" ∧ ("use" : Str) ≠ "choose" ∧ ¬ (("use" : Str) = "take" ∨ ("use" : Str) = "give" ∨ ("use" : Str) = "piece") := by decide +kernel
theorem name_str {n : D} (h : nameD n = true) : ∃ z, n = .str z := by
  cases n with
  | str z => exact ⟨z, rfl⟩
  | _ => cases h
theorem tup_of {n : D} (h : isTup n = true) : ∃ z, n = .tuple z := by
  cases n with
  | tuple z => exact ⟨z, rfl⟩
  | _ => cases h
theorem choose_lock : ¬ (("choose" : Str) = "take" ∨ ("choose" : Str) = "give" ∨ ("choose" : Str) = "piece") := by decide +kernel
theorem br_of : (d : D) → (a : Nat) → shaped d a = true → BrOk d
  | .none, _, h => by simp [shaped] at h
  | .bool _, _, h => by simp [shaped] at h
  | .int _, _, h => by simp [shaped] at h
  | .str _, _, h => by simp [shaped] at h
  | .list _, _, h => by simp [shaped] at h
  | .dict _, _, h => by simp [shaped] at h
  | .tuple [], _, h => by simp [shaped] at h
  | .tuple (.none :: _), _, h => by simp [shaped] at h
  | .tuple (.bool _ :: _), _, h => by simp [shaped] at h
  | .tuple (.int _ :: _), _, h => by simp [shaped] at h
  | .tuple (.list _ :: _), _, h => by simp [shaped] at h
  | .tuple (.tuple _ :: _), _, h => by simp [shaped] at h
  | .tuple (.dict _ :: _), _, h => by simp [shaped] at h
  | .tuple [.str w], a, h => by
    rw [shaped] at h
    have e := of_decide_eq_true h
    subst e
    exact ⟨_, _, rfl, fun e => absurd e use_facts.1, fun e => absurd e use_facts.2.1, fun e => absurd e use_facts.2.2⟩
  | .tuple [.str w, n], a, h => by
    rw [shaped, Bool.and_eq_true, Bool.and_eq_true] at h
    obtain ⟨⟨_, h2⟩, h3⟩ := h
    obtain ⟨p1, p2, _⟩ := plain_facts (of_decide_eq_true h2)
    obtain ⟨z, rfl⟩ := name_str h3
    exact ⟨_, _, rfl, fun e => absurd e p1, fun e => absurd e p2, fun _ => ⟨z, [], rfl⟩⟩
  | .tuple [.str w, n, v], a, h => by
    rw [shaped] at h
    simp only [Bool.and_eq_true] at h
    obtain ⟨_, h2⟩ := h
    by_cases e : w = "piece"
    · rw [if_pos e, Bool.and_eq_true] at h2
      obtain ⟨z, rfl⟩ := name_str h2.1
      exact ⟨_, _, rfl, fun x => absurd (e.symm.trans x) test_piece.symm, fun x => absurd (e.symm.trans x) choose_piece.symm, fun _ => ⟨z, [v], rfl⟩⟩
    · rw [if_neg e, Bool.and_eq_true] at h2
      have h3 := h2.2
      simp only [forkShape, Bool.and_eq_true] at h3
      obtain ⟨⟨h4, h5⟩, h6⟩ := h3
      have e2 := of_decide_eq_true h4
      obtain ⟨x, rfl⟩ := tup_of h5
      obtain ⟨y, rfl⟩ := tup_of h6
      subst e2
      exact ⟨_, _, rfl, fun x => absurd x test_choose.symm, fun _ => ⟨x, y, rfl⟩, fun x => absurd x choose_lock⟩
  | .tuple [.str w, n, x, y], a, h => by
    rw [shaped] at h
    simp only [forkShape, Bool.and_eq_true] at h
    obtain ⟨_, ⟨⟨h4, h7⟩, h5⟩, h6⟩ := h
    have e2 := of_decide_eq_true h4
    obtain ⟨x, rfl⟩ := tup_of h5
    obtain ⟨y, rfl⟩ := tup_of h6
    obtain ⟨z, rfl⟩ := name_str h7
    subst e2
    exact ⟨_, _, rfl, fun _ => ⟨_, x, y, rfl⟩, fun e => absurd e test_choose, fun _ => ⟨z, _, rfl⟩⟩
  | .tuple (.str w :: n :: x :: y :: z :: r), _, h => by simp [shaped] at h
theorem br_flat {ds : List D} {a : Nat} (h : (misl ds a).contains true = false) : ∀ e ∈ flat ds, BrOk e ∧ ∃ a', shaped e a' = true := by
  intro e he
  rw [← lnum_flat h] at he
  obtain ⟨p, hp, rfl⟩ := List.mem_map.mp he
  rw [misl_lnum] at h
  have z : lform p.1 p.2 = true := by
    cases hz : lform p.1 p.2 with
    | true => rfl
    | false =>
      have m : true ∈ (lnum ds a).map fun p => !lform p.1 p.2 := List.mem_map.mpr ⟨p, hp, by rw [hz]; rfl⟩
      rw [← List.contains_iff_mem, h] at m
      cases m
  rw [← shaped_lform] at z
  exact ⟨br_of _ _ z, _, z⟩
theorem misl_app : ∀ (as bs : List D) (a : Nat), misl (as ++ bs) a = misl as a ++ misl bs a
  | [], bs, a => by rw [List.nil_append, misl]; rfl
  | d :: as, bs, a => by
    rw [List.cons_append, misl, misl, misl_app as bs]
    simp
theorem misl_one (d : D) (a : Nat) : misl [d] a = (!shaped d a) :: (if shaped d a then misk d a else []) := by rw [misl, misl, List.append_nil]
theorem misk_kids (d : D) (a : Nat) : misk d a = (kids d).flatMap fun x => misl x (a + 1) := by
  unfold kids
  cases h : forkOf d with
  | none => exact (fork_none h).2.1 a
  | some p =>
    obtain ⟨x, y⟩ := p
    rw [(fork_some h).2.1]
    simp
theorem misl_cnt_aux (N : Nat) : ∀ (ds : List D) (a : Nat), sizeOf ds < N → (misl ds a).length ≤ cntAll ds := by
  induction N with
  | zero => exact fun _ _ h => absurd h (by omega)
  | succ N ih =>
    intro ds a h
    cases ds with
    | nil => rw [misl]; exact Nat.zero_le _
    | cons d ds =>
      simp at h
      rw [misl, cntAll, List.length_cons, List.length_append]
      have h1 := ih ds a (by omega)
      have h3 : (if shaped d a then misk d a else []).length ≤ (misk d a).length := by
        split
        · exact Nat.le_refl _
        · exact Nat.zero_le _
      have h2 : (misk d a).length + 1 ≤ cntD d := by
        cases hf : forkOf d with
        | none =>
          rw [(fork_none hf).2.1]
          cases d <;> simp [cntD]
        | some p =>
          obtain ⟨x, y⟩ := p
          obtain ⟨_, f1, _, _, s1, s2⟩ := fork_some hf
          obtain ⟨_, _, d3, _⟩ := fork_depth hf
          rw [f1, List.length_append]
          have a1 := ih x (a + 1) (by omega)
          have b1 := ih y (a + 1) (by omega)
          omega
      omega
theorem misl_cnt (ds : List D) (a : Nat) : (misl ds a).length ≤ cntAll ds := misl_cnt_aux _ ds a (Nat.lt_succ_self _)
theorem one_of {α : Type} {xs : List α} (h : xs.length = 1) : ∃ a, xs = [a] := by
  cases xs with
  | nil => cases h
  | cons a t =>
    have e : t = [] := List.eq_nil_of_length_eq_zero (by rw [List.length_cons] at h; omega)
    exact ⟨a, by rw [e]⟩
theorem two_of {α : Type} {xs : List α} (h : xs.length = 2) : ∃ a b, xs = [a, b] := by
  cases xs with
  | nil => cases h
  | cons a t =>
    obtain ⟨b, rfl⟩ := one_of (xs := t) (by rw [List.length_cons] at h; omega)
    exact ⟨a, b, rfl⟩
theorem drop_cons {α : Type} {xs : List α} {i : Nat} {x : α} (h : xs[i]? = some x) : xs.drop i = x :: xs.drop (i + 1) := by
  obtain ⟨hi, e⟩ := List.getElem?_eq_some_iff.mp h
  rw [List.drop_eq_getElem_cons hi, e]
def spMis (K : PySem.W.Frag) (n : Nat) : Sp := fun vs H Q _ => ∃ (p : Addr) (xs : List V) (ds : List D) (a : Nat), vs = [.ref p, .int (a : Nat)] ∧ SqT K H p xs ∧ DpAll K H xs ds ∧ Fits n ds ∧ ∀ H' l, Same H H' → H l = none → H' l = some (.lst ((misl ds a).map V.bl)) → Q (.ref l) H'
def spSh (K : PySem.W.Frag) (n : Nat) : Sp := fun vs H Q _ => ∃ (v : V) (d : D) (a : Nat), vs = [v, .int (a : Nat)] ∧ Dp K H v d ∧ FitD n d ∧ ∀ H', Same H H' → Q (.bl (shaped d a)) H'
def spInn (K : PySem.W.Frag) (n : Nat) : Sp := fun vs H Q _ => ∃ (v : V) (d : D), vs = [v] ∧ Dp K H v d ∧ FitD n d ∧ ∀ H', Same H H' → Q (.bl (innerP d)) H'
section
variable {P : Program} {w : World} {K : PySem.W.Frag} {mg : Str → Option Value} {base : Heap}
abbrev sIn : Stmt := top 24
theorem scIn : FnScope ["value", "inside", "item"] ["value"] (defScope sIn) := ⟨rfl, rfl, rfl, by decide +kernel, rfl, by decide +kernel, by decide +kernel⟩
theorem ok_inn {f fM fF iw : Addr} {fd fdM fdF : FuncData} (F : Fun K "is_inner" "is_inner" sIn f fd) (TM : Called K mg "misshapen" ["items", "around"] fM fdM) (TF : Called K mg "flat" ["items"] fF fdF) (n : Nat)
    (GM : FnOk P w K mg base CX0 (2 * n + 4) fM fdM ["items", "around"] (spMis K n)) (GF : FnOk P w K mg base CX0 (n + 2) fF fdF ["items"] (spFlat K n)) (m_isinstance : mg "isinstance" = none) (m_tuple : mg "tuple" = none) (m_all : mg "all" = none) (m_len : mg "len" = none)
    (gI : mg "INNER_WORDS" = some (.ref iw)) (hI : ∀ H, SqT K H iw (inner3.map V.str)) {tI : Tok} (mI : mg "MOST_INNER" = some (.int 4 tI)) : FnOk P w K mg base CX0 (2 * n + 5) f fd ["value"] (spInn K (n + 1)) := by
  refine F.ok scIn (fun vs H Q E h => ?_) (fun cdv A outer s H vs Q E hr h => ?_)
  · obtain ⟨v, d, rfl, _⟩ := h
    rfl
  · obtain ⟨v, d, rfl, hd, ft, q⟩ := h
    refine ⟨_, (pss_cons (ps_if (PW.pt (pw_or (pt_not (pt_val (pe_callB (call_isiKK (K := K) rfl) (by rfl) m_isinstance (by decide +kernel) (pa_cons (pv 0) (pa_cons (pe_bltn (v := .ty "tuple") (by rfl) m_tuple (by decide +kernel) rfl) pa_nil))))) (pw_or (pt_cmpR op_eq (pe_callB (call_len_K (K := K) rfl) (by rfl) m_len PySem.boot_len (pa_cons (pv 0) pa_nil)) pe_int (nomark _)) (pw_or1 (pt_cmpR (op_in_seqKK (K := K) rfl) pe_bl (pe_call GM (hr.mono (by first | decide | omega)) rfl TM.1 TM.2.1 TM.2.2 .nil pass0 (pa_cons (pv 0) (pa_cons pe_int pa_nil))) (by rfl))))))
       (pss_one (ps_ret pe_bl))
       pss_nil)
       (pss_cons (ps_set (i := 1) scIn.nd rfl (.inl rfl) (pe_call GF (hr.mono (by first | decide | omega)) rfl TF.1 TF.2.1 TF.2.2 .nil pass0 (pa_cons (pv 0) pa_nil)))
       (pss_one (ps_ret (pe_and (pe_cmpR op_le (pe_callB (call_len_K (K := K) rfl) (by rfl) m_len PySem.boot_len (pa_cons (pv 1) pa_nil)) (pe_glob (v := .int 4) rfl mI ⟨_, rfl⟩) (nomark _)) (pe_one (pe_callB (cr_all rfl) (by rfl) m_all (by decide +kernel) (pa_cons (pe_lc (own := [("item", 2)]) (g := gName 2) (tt := tYes) (by rfl) scIn.nd (pi_list (pv 1)) (blkOk_by (own := [("item", 2)]) (N := ["value", "inside", "item"]) (sc := defScope sIn) (by decide +kernel)) (fun _ _ _ _ _ => (pg_name (i := 2) scIn.nd rfl (Or.inl rfl))) (fun _ _ _ _ _ => pts_nil) (fun _ _ _ _ _ => (pe_cmpR (op_in_seqKK (K := K) rfl) (pe_ix (ix_tupK (K := K) rfl) (pv 2) pe_int (fun _ _ => rfl)) (pe_glob (v := .ref iw) rfl gI rfl) (by rfl)))) pa_nil)))))))), ?_⟩
    refine ⟨_, rfl, _, _, _, _, _, rfl, .ty _, dp_ty hd, kit_tup d, _, rfl, ?_⟩
    cases htp : isTup d with
    | false =>
      have e : innerP d = false := by
        cases d with
        | tuple _ => cases htp
        | _ => simp [innerP]
      rw [e] at q
      exact iteT (iteT (q H (Same.refl H)))
    | true =>
      refine iteF ?_
      obtain ⟨ds, rfl⟩ := tup_of htp
      rw [innerP] at q
      cases hd with
      | @tup p xs _ hp ha =>
      have len := dpl ha
      refine ⟨_, rfl, p, _, rfl, .inr hp, rfl, _, rfl, ?_⟩
      rw [len, int_dec 0 0 rfl]
      by_cases e0 : ds.length = 0
      · rw [decide_eq_true e0]
        rw [List.eq_nil_of_length_eq_zero e0] at q
        exact iteT (iteT (q H (Same.refl H)))
      · rw [decide_eq_false e0]
        have e1 : ds.isEmpty = false := by
          cases ds with
          | nil => exact absurd rfl e0
          | cons _ _ => rfl
        rw [e1] at q
        refine iteF ?_
        refine ⟨_, rfl, p, xs, ds, 0, rfl, hp, ha, ft.inside, fun H1 l s1 nl hl => ?_⟩
        refine ⟨l, _, rfl, .inl (SqL.of hl), rfl, flat_bl _, _, rfl, ?_⟩
        rw [if_neg Bool.false_ne_true, inV_bl]
        cases hc : (misl ds 0).contains true with
        | true =>
          rw [hc] at q
          exact iteT (q H1 s1)
        | false =>
          rw [hc] at q
          refine iteF ?_
          refine ⟨_, rfl, H, p, xs, ds, rfl, s1, s1.tupS hp, ha, ft.inside, fun e he => (br_flat hc e he).1, fun H2 l2 ys s2 n2 h2 hy => ?_⟩
          have s12 := s1.trans s2
          have ly := dpl hy
          refine ⟨_, rfl, l2, _, rfl, .inl (SqL.of h2), _, _, rfl, rfl, _, rfl, ?_⟩
          have e3 : decide ((ys.length : Int) ≤ 4) = decide ((flat ds).length ≤ 4) := by
            rw [ly]
            by_cases h : (flat ds).length ≤ 4
            · rw [decide_eq_true h, decide_eq_true (by omega)]
            · rw [decide_eq_false h, decide_eq_false (by omega)]
          rw [e3]
          cases h4 : decide ((flat ds).length ≤ 4) with
          | false =>
            rw [h4] at q
            exact iteF (q H2 s12)
          | true =>
            rw [h4] at q
            refine iteT ?_
            have h5 := of_decide_eq_true h4
            refine ⟨_, rfl, l2, rfl, ⟨_, SqL.of h2⟩, fun L nL => lc_list (K := K) (a := l2) (xs := ys) (fun i H' => Same H2 H' ∧ H' L = some (.lst (((flat ds).take i).map fun d => V.bl (wordIn d)))) ⟨same_upd nL, upd_same⟩ (fun i H' _ h => h.1.seq (SqL.of h2)) ?_ ?_⟩
            · rintro i x H3 hxi ⟨s3, e1⟩
              obtain ⟨d, hd1, hdx⟩ := dp_get hy hxi
              obtain ⟨wd, r, rfl, _⟩ := (br_flat hc d (List.mem_of_getElem? hd1)).1
              refine ⟨rfl, ?_⟩
              dsimp only [tYes]
              rw [if_pos rfl]
              cases hdx with
              | @tup px xx _ hpx hax =>
              cases hax with
              | @cons x0 xx _ _ h0 hax =>
              cases h0
              refine ⟨_, rfl, px, _, _, _, rfl, rfl, (s12.trans s3).tupS hpx, at0, iw, _, rfl, .inr (hI H3), rfl, flat_txt _, ?_⟩
              rw [if_neg Bool.false_ne_true, inV_txt]
              refine ⟨_, e1, ?_, same_updN nL s3, ?_⟩
              · rw [List.length_map, List.length_take, sizeLine_eq]
                omega
              · rw [upd_same, take_snoc hd1, List.map_append]
                rfl
            · rintro H3 ⟨s3, e1⟩
              rw [ly, List.take_length] at e1
              have e6 : ((flat ds).map fun d => V.bl (wordIn d)) = ((flat ds).map wordIn).map V.bl := by rw [List.map_map]; rfl
              rw [e6] at e1
              refine ⟨L, _, rfl, .inl (.inl e1), ?_⟩
              have e4 : ((flat ds).map wordIn).all id = (flat ds).all wordIn := by rw [List.all_map]; rfl
              rw [e4]
              exact q H3 (s12.trans s3)
abbrev sSh : Stmt := top 21
theorem scSh : FnScope ["value", "around", "word"] ["value", "around"] (defScope sSh) := ⟨rfl, rfl, rfl, by decide +kernel, rfl, by decide +kernel, by decide +kernel⟩
theorem ok_sh {f fN fI fK pw : Addr} {fd fdN fdI fdK : FuncData} (F : Fun K "is_shaped" "is_shaped" sSh f fd) (TN : Called K mg "is_name" ["value"] fN fdN) (TI : Called K mg "is_inner" ["value"] fI fdI) (TK : Called K mg "is_fork" ["value"] fK fdK) (n : Nat)
    (GN : FnOk P w K mg base CX0 1 fN fdN ["value"] (spName K)) (GI : FnOk P w K mg base CX0 (2 * n + 3) fI fdI ["value"] (spInn K n)) (GK : FnOk P w K mg base CX0 2 fK fdK ["value"] (spFork K))
    (m_isinstance : mg "isinstance" = none) (m_tuple : mg "tuple" = none) (m_str : mg "str" = none) (m_len : mg "len" = none)
    (gP : mg "PLAIN_WORDS" = some (.ref pw)) (hP : ∀ H, SqT K H pw (plain6.map V.str)) {tW : Tok} (mW : mg "MOST_WITHIN" = some (.int 3 tW)) : FnOk P w K mg base CX0 (2 * n + 5) f fd ["value", "around"] (spSh K (n + 1)) := by
  refine F.ok scSh (fun vs H Q E h => ?_) (fun cdv A outer s H vs Q E hr h => ?_)
  · obtain ⟨v, d, a, rfl, _⟩ := h
    rfl
  · obtain ⟨v, d, a, rfl, hd, ft, q⟩ := h
    refine ⟨_, (pss_cons (ps_if (PW.pt (pw_or (pt_not (pt_val (pe_callB (call_isiKK (K := K) rfl) (by rfl) m_isinstance (by decide +kernel) (pa_cons (pv 0) (pa_cons (pe_bltn (v := .ty "tuple") (by rfl) m_tuple (by decide +kernel) rfl) pa_nil))))) (pw_or (pt_cmpR op_eq (pe_callB (call_len_K (K := K) rfl) (by rfl) m_len PySem.boot_len (pa_cons (pv 0) pa_nil)) pe_int (nomark _)) (pw_or1 (pt_not (pt_val (pe_callB (call_isiKK (K := K) rfl) (by rfl) m_isinstance (by decide +kernel) (pa_cons (pe_ix (ix_tupK (K := K) rfl) (pv 0) pe_int (fun _ _ => rfl)) (pa_cons (pe_bltn (v := .ty "str") (by rfl) m_str (by decide +kernel) rfl) pa_nil)))))))))
       (pss_one (ps_ret pe_bl))
       pss_nil)
       (pss_cons (ps_set (i := 2) scSh.nd rfl (.inl rfl) (pe_ix (ix_tupK (K := K) rfl) (pv 0) pe_int (fun _ _ => rfl)))
       (pss_cons (ps_if (pt_cmpR op_eq (pv 2) pe_str (nomark _))
       (pss_one (ps_ret (pe_cmpR op_eq (pe_callB (call_len_K (K := K) rfl) (by rfl) m_len PySem.boot_len (pa_cons (pv 0) pa_nil)) pe_int (nomark _))))
       pss_nil)
       (pss_cons (ps_if (pt_cmpR (op_in_seqKK (K := K) rfl) (pv 2) (pe_glob (v := .ref pw) rfl gP rfl) (by rfl))
       (pss_one (ps_ret (pe_and (pe_cmpR op_eq (pe_callB (call_len_K (K := K) rfl) (by rfl) m_len PySem.boot_len (pa_cons (pv 0) pa_nil)) pe_int (nomark _)) (pe_one (pe_call GN (hr.mono (by first | decide | omega)) rfl TN.1 TN.2.1 TN.2.2 .nil pass0 (pa_cons (pe_ix (ix_tupK (K := K) rfl) (pv 0) pe_int (fun _ _ => rfl)) pa_nil))))))
       pss_nil)
       (pss_cons (ps_if (pt_cmpR op_eq (pv 2) pe_str (nomark _))
       (pss_one (ps_ret (pe_and (pe_cmpR op_eq (pe_callB (call_len_K (K := K) rfl) (by rfl) m_len PySem.boot_len (pa_cons (pv 0) pa_nil)) pe_int (nomark _)) (pe_and (pe_call GN (hr.mono (by first | decide | omega)) rfl TN.1 TN.2.1 TN.2.2 .nil pass0 (pa_cons (pe_ix (ix_tupK (K := K) rfl) (pv 0) pe_int (fun _ _ => rfl)) pa_nil)) (pe_one (pe_call GI (hr.mono (by first | decide | omega)) rfl TI.1 TI.2.1 TI.2.2 .nil pass0 (pa_cons (pe_ix (ix_tupK (K := K) rfl) (pv 0) pe_int (fun _ _ => rfl)) pa_nil)))))))
       pss_nil)
       (pss_one (ps_ret (pe_and (pe_cmpR op_lt (pv 1) (pe_glob (v := .int 3) rfl mW ⟨_, rfl⟩) (nomark _)) (pe_one (pe_call GK (hr.mono (by first | decide | omega)) rfl TK.1 TK.2.1 TK.2.2 .nil pass0 (pa_cons (pv 0) pa_nil))))))))))), ?_⟩
    refine ⟨_, rfl, _, _, _, _, _, rfl, .ty _, dp_ty hd, kit_tup d, _, rfl, ?_⟩
    cases htp : isTup d with
    | false =>
      have e : shaped d a = false := by
        cases d with
        | tuple _ => cases htp
        | _ => simp [shaped]
      rw [e] at q
      exact iteT (iteT (q H (Same.refl H)))
    | true =>
      refine iteF ?_
      obtain ⟨ds, rfl⟩ := tup_of htp
      cases hd with
      | @tup p xs _ hp ha =>
      have len := dpl ha
      refine ⟨_, rfl, p, _, rfl, .inr hp, rfl, _, rfl, ?_⟩
      rw [len, int_dec 0 0 rfl]
      cases ha with
      | nil =>
        have e : shaped (.tuple []) a = false := by simp [shaped]
        rw [e] at q
        rw [decide_eq_true (p := ([] : List D).length = 0) rfl]
        exact iteT (iteT (q H (Same.refl H)))
      | @cons x0 xs d0 ds h0 ha =>
        rw [decide_eq_false (by rw [List.length_cons]; omega)]
        refine iteF ?_
        refine ⟨_, rfl, p, _, _, _, rfl, rfl, hp, at0, _, _, _, _, _, rfl, .ty _, dp_ty h0, kit_str d0, _, rfl, ?_⟩
        cases hst : isStr d0 with
        | false =>
          have e : shaped (.tuple (d0 :: ds)) a = false := by
            cases d0 with
            | str _ => cases hst
            | _ => simp [shaped]
          rw [e] at q
          exact iteT (q H (Same.refl H))
        | true =>
          obtain ⟨wd, rfl⟩ : ∃ z, d0 = .str z := by
            cases d0 with
            | str z => exact ⟨z, rfl⟩
            | _ => cases hst
          cases h0
          refine iteF ?_
          refine ⟨_, rfl, p, _, _, _, rfl, rfl, hp, at0, ?_⟩
          refine ⟨_, rfl, rfl, _, rfl, ?_⟩
          rw [Rw.dec_str]
          have lenE : (V.str wd :: xs).length = ds.length + 1 := by rw [List.length_cons, dpl ha]
          have fit : ∀ d ∈ ds, FitD n d := fun d hd => ft.inside.tail.mem hd
          by_cases h1 : wd = "use"
          · rw [decide_eq_true h1]
            refine iteT ?_
            refine ⟨_, rfl, p, _, rfl, .inr hp, rfl, ?_⟩
            rw [lenE, int_dec 1 1 rfl]
            have e : shaped (.tuple (.str wd :: ds)) a = decide (ds.length + 1 = 1) := by
              match ds with
              | [] => simp [shaped, h1]
              | [_] => simp [shaped, h1]
              | [_, _] => simp [shaped, h1]
              | [_, _, _] => simp [shaped, h1]
              | _ :: _ :: _ :: _ :: _ => simp [shaped]
            rw [← e]
            exact q H (Same.refl H)
          · rw [decide_eq_false h1]
            refine iteF ?_
            refine ⟨_, rfl, pw, _, rfl, .inr (hP H), rfl, flat_txt _, _, rfl, ?_⟩
            rw [if_neg Bool.false_ne_true, inV_txt]
            by_cases h2 : wd ∈ plain6
            · rw [decide_eq_true h2]
              refine iteT ?_
              refine ⟨_, rfl, p, _, rfl, .inr hp, rfl, _, rfl, ?_⟩
              rw [lenE, int_dec 2 2 rfl]
              by_cases h3 : ds.length = 1
              · rw [decide_eq_true (by omega)]
                obtain ⟨nd, rfl⟩ := one_of h3
                cases ha with
                | cons hn ha =>
                cases ha
                refine iteT ?_
                refine ⟨_, rfl, p, _, _, _, rfl, rfl, hp, at1, _, _, rfl, dp_nv hn (fit nd List.mem_cons_self).small, fun H1 s1 => ?_⟩
                have e : shaped (.tuple [.str wd, nd]) a = nameD nd := by simp [shaped, h1, h2]
                rw [← e]
                exact q H1 s1
              · rw [decide_eq_false (by omega)]
                have e : shaped (.tuple (.str wd :: ds)) a = false := by
                  match ds, h3 with
                  | [], _ => simp [shaped, h1]
                  | [_], h3 => exact absurd rfl h3
                  | [_, _], _ => simp [shaped, h2]
                  | [_, _, _], _ => simp [shaped, h2]
                  | _ :: _ :: _ :: _ :: _, _ => simp [shaped]
                rw [e] at q
                exact iteF (q H (Same.refl H))
            · rw [decide_eq_false h2]
              refine iteF ?_
              refine ⟨_, rfl, rfl, _, rfl, ?_⟩
              rw [Rw.dec_str]
              by_cases h4 : wd = "piece"
              · rw [decide_eq_true h4]
                refine iteT ?_
                refine ⟨_, rfl, p, _, rfl, .inr hp, rfl, _, rfl, ?_⟩
                rw [lenE, int_dec 3 3 rfl]
                by_cases h3 : ds.length = 2
                · rw [decide_eq_true (by omega)]
                  obtain ⟨nd, vd, rfl⟩ := two_of h3
                  cases ha with
                  | cons hn ha =>
                  cases ha with
                  | cons hv ha =>
                  cases ha
                  refine iteT ?_
                  refine ⟨_, rfl, p, _, _, _, rfl, rfl, hp, at1, _, _, rfl, dp_nv hn (fit nd List.mem_cons_self).small, fun H1 s1 => ⟨_, rfl, ?_⟩⟩
                  have e : shaped (.tuple [.str wd, nd, vd]) a = (nameD nd && innerP vd) := by simp [shaped, h1, h2, h4, piece_use, piece_not_plain]
                  rw [e] at q
                  cases hnm : nameD nd with
                  | false =>
                    rw [hnm] at q
                    exact iteF (q H1 s1)
                  | true =>
                    rw [hnm] at q
                    refine iteT ?_
                    refine ⟨_, rfl, p, _, _, _, rfl, rfl, s1.tupS hp, at2, _, _, rfl, hv.same s1, fit vd (List.mem_cons_of_mem _ List.mem_cons_self), fun H2 s2 => ?_⟩
                    exact q H2 (s1.trans s2)
                · rw [decide_eq_false (by omega)]
                  have e : shaped (.tuple (.str wd :: ds)) a = false := by
                    match ds, h3 with
                    | [], _ => simp [shaped, h1]
                    | [_], _ => simp [shaped, h2]
                    | [_, _], h3 => exact absurd rfl h3
                    | [_, _, _], _ => simp [shaped, h4]
                    | _ :: _ :: _ :: _ :: _, _ => simp [shaped]
                  rw [e] at q
                  exact iteF (q H (Same.refl H))
              · rw [decide_eq_false h4]
                refine iteF ?_
                have e : shaped (.tuple (.str wd :: ds)) a = (decide (a < 3) && forkShape wd ds) := by
                  match ds with
                  | [] => simp [shaped, h1, forkShape]
                  | [_] => simp [shaped, h2, forkShape]
                  | [_, _] => simp [shaped, h1, h2, h4]
                  | [_, _, _] => simp [shaped, h1, h2, h4]
                  | _ :: _ :: _ :: _ :: _ => simp [shaped, forkShape]
                rw [e] at q
                refine ⟨_, rfl, _, _, rfl, rfl, _, rfl, ?_⟩
                have e3 : decide ((a : Int) < 3) = decide (a < 3) := by
                  by_cases h : a < 3
                  · rw [decide_eq_true h, decide_eq_true (by omega)]
                  · rw [decide_eq_false h, decide_eq_false (by omega)]
                rw [e3]
                cases h5 : decide (a < 3) with
                | false =>
                  rw [h5] at q
                  exact iteF (q H (Same.refl H))
                | true =>
                  rw [h5] at q
                  refine iteT ?_
                  exact ⟨_, rfl, p, _, wd, ds, rfl, hp, .cons (.str wd) ha, fun d hd => (fit d hd).small, q⟩
abbrev sMis : Stmt := top 20
theorem scMis : FnScope ["items", "around", "found", "item", "fit", "inner"] ["items", "around"] (defScope sMis) := ⟨rfl, rfl, rfl, by decide +kernel, rfl, by decide +kernel, by decide +kernel⟩
theorem ok_mis {f fS fB : Addr} {fd fdS fdB : FuncData} (F : Fun K "misshapen" "misshapen" sMis f fd) (TM : Called K mg "misshapen" ["items", "around"] f fd) (TS : Called K mg "is_shaped" ["value", "around"] fS fdS) (TB : Called K mg "branches" ["item"] fB fdB) (n : Nat)
    (GS : FnOk P w K mg base CX0 (2 * n + 5) fS fdS ["value", "around"] (spSh K (n + 1))) (GM : FnOk P w K mg base CX0 (2 * n + 4) f fd ["items", "around"] (spMis K n)) (GB : FnOk P w K mg base CX0 1 fB fdB ["item"] (spBr K)) : FnOk P w K mg base CX0 (2 * n + 6) f fd ["items", "around"] (spMis K (n + 1)) := by
  refine F.ok scMis (fun vs H Q E h => ?_) (fun cdv A outer s H vs Q E hr h => ?_)
  · obtain ⟨p, xs, ds, a, rfl, _⟩ := h
    rfl
  · obtain ⟨p, xs, ds, a, rfl, hp, ha, ft, q⟩ := h
    refine ⟨_, (pss_cons (ps_set (i := 2) scMis.nd rfl (.inl rfl) (pe_lst pa_nil))
       (pss_cons (ps_for PassesOwn.never rfl (pi_tup (pv 0)) (pg_name (i := 3) scMis.nd rfl (.inl rfl))
       (pss_cons (ps_set (i := 4) scMis.nd rfl (.inl rfl) (pe_call GS (hr.mono (by first | decide | omega)) rfl TS.1 TS.2.1 TS.2.2 .nil pass0 (pa_cons (pv 3) (pa_cons (pv 1) pa_nil))))
       (pss_cons (ps_expr (pe_bm PySem.F.plainAttrs_list PySem.F.slot_list_append PySem.F.type_list_append mt_append (pv 2) (pa_cons (pe_not (pv 4)) pa_nil)))
       (pss_one (ps_if (pt_val (pv 4))
       (pss_one (ps_for PassesOwn.never rfl (pi_tup (pe_call GB (hr.mono (by first | decide | omega)) rfl TB.1 TB.2.1 TB.2.2 .nil pass0 (pa_cons (pv 3) pa_nil))) (pg_name (i := 5) scMis.nd rfl (.inl rfl))
       (pss_one (ps_expr (pe_bm PySem.F.plainAttrs_list PySem.F.slot_list_extend PySem.F.type_list_extend mt_extend (pv 2) (pa_cons (pe_call GM (hr.mono (by first | decide | omega)) rfl TM.1 TM.2.1 TM.2.2 .nil pass0 (pa_cons (pv 5) (pa_cons (pe_op op_add (pv 1) pe_int) pa_nil))) pa_nil))))))
       pss_nil)))))
       (pss_one (ps_ret (pv 2))))), ?_⟩
    have len := dpl ha
    refine ⟨Nat.zero_le _, fun l nl => ?_⟩
    have cl := misl_cnt ds a
    have cc := ft.cnt
    have small : ∀ as bs : List Bool, as ++ bs = misl ds a → as.length < sizeLine := fun as bs e => by
      have z := congrArg List.length e
      rw [List.length_append] at z
      rw [sizeLine_eq]
      omega
    refine ⟨_, rfl, p, rfl, ⟨_, (same_upd nl).tupS hp⟩, for_tup (xs := xs)
      (fun i σ H' => ∃ (done : List Bool) (v3 v4 v5 : Option V), σ = [some (.ref p), some (.int (a : Nat)), some (.ref l), v3, v4, v5] ∧ Same H H' ∧ H' l = some (.lst (done.map V.bl)) ∧ done ++ misl (ds.drop i) a = misl ds a)
      ⟨[], none, none, none, rfl, same_upd nl, upd_same, rfl⟩ ?_ ?_ ?_⟩
    · rintro i σ H' hi ⟨_, v3, v4, v5, rfl, sm, _⟩
      exact sm.tupS hp
    · rintro i x σ H1 hxi ⟨done, v3, v4, v5, rfl, s1, hl, e⟩
      obtain ⟨d, hd, hx⟩ := dp_get ha hxi
      have mem : d ∈ ds := List.mem_of_getElem? hd
      rw [drop_cons hd, misl] at e
      refine ⟨_, rfl, _, rfl, x, d, a, rfl, hx.same s1, ft.mem mem, fun H2 s2 => ?_⟩
      have s12 := s1.trans s2
      refine ⟨_, rfl, .inl ⟨rfl, _, SqL.of (s2 _ _ hl)⟩, _, rfl, _, rfl, l, _, _, rfl, rfl, s2 _ _ hl, by rw [List.length_map]; exact small _ _ e, ?_⟩
      have hl3 : (upd H2 l (.lst (done.map V.bl ++ [V.bl (!shaped d a)]))) l = some (.lst ((done ++ [!shaped d a]).map V.bl)) := by rw [upd_same, List.map_append]; rfl
      have s3 : Same H (upd H2 l (.lst (done.map V.bl ++ [V.bl (!shaped d a)]))) := same_updN nl s12
      generalize upd H2 l (.lst (done.map V.bl ++ [V.bl (!shaped d a)])) = H3 at hl3 s3
      refine ⟨_, rfl, _, rfl, ?_⟩
      cases hs : shaped d a with
      | false =>
        rw [hs] at e hl3
        refine iteF ⟨done ++ [true], _, _, _, rfl, s3, hl3, ?_⟩
        rw [← e]
        simp
      | true =>
        rw [hs, if_pos rfl, misk_kids] at e
        rw [hs] at hl3
        refine iteT ?_
        refine ⟨_, rfl, H, x, d, rfl, s3, hx, br_of d a hs, fun H4 t ks s4 ht hk => ?_⟩
        have lk := dpl hk
        rw [List.length_map] at lk
        refine ⟨t, rfl, ⟨_, ht⟩, for_tup (xs := ks) (fun j σ H' => ∃ (dn : List Bool) (v5 : Option V), σ = [some (.ref p), some (.int (a : Nat)), some (.ref l), some x, some (.bl true), v5] ∧ Same H H' ∧ SqT K H' t ks ∧ H' l = some (.lst (dn.map V.bl)) ∧ dn ++ (((kids d).drop j).flatMap (fun x => misl x (a + 1)) ++ misl (ds.drop (i + 1)) a) = misl ds a)
          ⟨done ++ [false], v5, rfl, s3.trans s4, ht, s4 _ _ hl3, by rw [← e]; simp⟩ ?_ ?_ ?_⟩
        · rintro j σ H' hj ⟨dn, v5, rfl, _, ht, _⟩
          exact ht
        · rintro j k σ H5 hkj ⟨dn, v5, rfl, s5, ht5, hl5, e5⟩
          obtain ⟨pk, xk, dk, rfl, hdk, hpk, hak⟩ := dp_map_tup hk hkj
          have memk : dk ∈ kids d := List.mem_of_getElem? hdk
          rw [drop_cons hdk, List.flatMap_cons] at e5
          refine ⟨_, rfl, .inl ⟨rfl, _, SqL.of hl5⟩, _, rfl, _, rfl, _, _, rfl, rfl, pk, xk, dk, a + 1, rfl, s5.tupS hpk, hak.same s5, kid_fit (ft.mem mem) memk, fun H6 l6 s6 n6 h6 => ?_⟩
          refine ⟨l, l6, _, _, rfl, rfl, s6 _ _ hl5, h6, ?_, ?_⟩
          · have z := congrArg List.length e5
            simp only [List.length_append] at z
            rw [List.length_map, List.length_map, sizeLine_eq]
            omega
          refine ⟨dn ++ misl dk (a + 1), some (.ref pk), rfl, same_updN nl (s5.trans s6), sqT_updL (s6 _ _ hl5) (s6.tupS ht5), by rw [upd_same, List.map_append], ?_⟩
          rw [← e5]
          simp
        · rintro σ H5 ⟨dn, v5, rfl, s5, ht5, hl5, e5⟩
          refine ⟨dn, _, _, _, rfl, s5, hl5, ?_⟩
          rw [lk, List.drop_length] at e5
          exact e5
    · rintro σ H1 ⟨done, v3, v4, v5, rfl, s1, hl, e⟩
      rw [len, List.drop_length, misl, List.append_nil] at e
      rw [e] at hl
      exact ⟨_, rfl, q H1 l s1 nl hl⟩
end
end Tr

/-! M3 -/
/-! ### takes and gives over a tree, the locks held, as plain functions -/
namespace Tr
open PySem PySem.Spec PyProof.Rows L2 Rw
def giveD (n : Str) : D := .tuple [.str "give", .str n]
/-- is_wrong -/
def isWr (d : D) (later : List D) (ar t : List Str) : Bool :=
  if wD d = "give" then !decide (t.drop (t.length - 1) = [nmD d])
  else if wD d = "take" then (if nmD d ∈ ar ++ t then true else !(later.any fun z => PyData.eqv z (giveD (nmD d))))
  else decide (wD d = "piece") && decide (nmD d ∈ ar ++ t)
mutual
/-- wrong_locks, from the names taken so far -/
def wl : List D → List Str → List Str → List Bool
  | [], _, _ => []
  | d :: ds, t, ar => isWr d ds ar t :: (wlk d (ar ++ behindD d t) ++ wl ds (behindD d t) ar)
termination_by ds => sizeOf ds
def wlk : D → List Str → List Bool
  | .tuple [.str w, _, .tuple x, .tuple y], ar => if w = "test" then wl x [] ar ++ wl y [] ar else []
  | .tuple [.str w, .tuple x, .tuple y], ar => if w = "choose" then wl x [] ar ++ wl y [] ar else []
  | _, _ => []
termination_by d => sizeOf d
end
mutual
/-- held_along -/
def hl : List D → List Str → List (List Str)
  | [], _ => []
  | d :: ds, h => h :: (hlk d h ++ hl ds (behindD d h))
termination_by ds => sizeOf ds
def hlk : D → List Str → List (List Str)
  | .tuple [.str w, _, .tuple x, .tuple y], h => if w = "test" then hl x h ++ hl y h else []
  | .tuple [.str w, .tuple x, .tuple y], h => if w = "choose" then hl x h ++ hl y h else []
  | _, _ => []
termination_by d => sizeOf d
end
mutual
/-- ways_along: the next places of each item, the first item at s, behind the last one b -/
def wa : List D → Nat → Nat → List (List Nat)
  | [], _, _ => []
  | d :: ds, s, b => wo d s (if ds.isEmpty then b else s + (flat [d]).length) ++ wa ds (s + (flat [d]).length) b
termination_by ds => (sizeOf ds, 0)
/-- ways_of -/
def wo : D → Nat → Nat → List (List Nat)
  | .tuple [.str w, n, .tuple x, .tuple y], s, f => if w = "test" then woF x y s f ++ wa x (s + 1) f ++ wa y (s + 1 + (flat x).length) f else [[f]]
  | .tuple [.str w, .tuple x, .tuple y], s, f => if w = "choose" then woF x y s f ++ wa x (s + 1) f ++ wa y (s + 1 + (flat x).length) f else [[f]]
  | _, _, f => [[f]]
termination_by d => (sizeOf d, 0)
def woF : List D → List D → Nat → Nat → List (List Nat)
  | x, y, s, f => [[if x.isEmpty then f else s + 1, if y.isEmpty then f else s + 1 + (flat x).length]]
termination_by (0, 0)
end
theorem fork2_none {d : D} (h : forkOf d = none) : (∀ a, wlk d a = []) ∧ (∀ a, hlk d a = []) ∧ ∀ s f, wo d s f = [[f]] := by
  unfold forkOf at h
  split at h
  · split at h
    · cases h
    · next hw => exact ⟨fun a => by rw [wlk, if_neg hw], fun a => by rw [hlk, if_neg hw], fun s f => by rw [wo, if_neg hw]⟩
  · split at h
    · cases h
    · next hw => exact ⟨fun a => by rw [wlk, if_neg hw], fun a => by rw [hlk, if_neg hw], fun s f => by rw [wo, if_neg hw]⟩
  · next h1 h2 =>
    refine ⟨fun a => ?_, fun a => ?_, fun s f => ?_⟩
    · rw [wlk] <;> assumption
    · rw [hlk] <;> assumption
    · rw [wo] <;> assumption
theorem fork2_some {d : D} {x y : List D} (h : forkOf d = some (x, y)) : (∀ a, wlk d a = wl x [] a ++ wl y [] a) ∧ (∀ a, hlk d a = hl x a ++ hl y a) ∧ ∀ s f, wo d s f = [[if x.isEmpty then f else s + 1, if y.isEmpty then f else s + 1 + (flat x).length]] ++ wa x (s + 1) f ++ wa y (s + 1 + (flat x).length) f := by
  unfold forkOf at h
  split at h
  · split at h
    · next hw =>
      cases h
      exact ⟨fun a => by rw [wlk, if_pos hw], fun a => by rw [hlk, if_pos hw], fun s f => by rw [wo, if_pos hw, woF]⟩
    · cases h
  · split at h
    · next hw =>
      cases h
      exact ⟨fun a => by rw [wlk, if_pos hw], fun a => by rw [hlk, if_pos hw], fun s f => by rw [wo, if_pos hw, woF]⟩
    · cases h
  · cases h
theorem wlk_kids (d : D) (a : List Str) : wlk d a = (kids d).flatMap fun x => wl x [] a := by
  unfold kids
  cases h : forkOf d with
  | none => exact (fork2_none h).1 a
  | some p =>
    obtain ⟨x, y⟩ := p
    rw [(fork2_some h).1]
    simp
theorem hlk_kids (d : D) (a : List Str) : hlk d a = (kids d).flatMap fun x => hl x a := by
  unfold kids
  cases h : forkOf d with
  | none => exact (fork2_none h).2.1 a
  | some p =>
    obtain ⟨x, y⟩ := p
    rw [(fork2_some h).2.1]
    simp
/-- each of them has as many as there are items -/
theorem lens_aux (N : Nat) : ∀ ds : List D, sizeOf ds < N → (∀ t a, (wl ds t a).length = (flat ds).length) ∧ (∀ h, (hl ds h).length = (flat ds).length) ∧ ∀ s b, (wa ds s b).length = (flat ds).length := by
  induction N with
  | zero => exact fun _ h => absurd h (by omega)
  | succ N ih =>
    intro ds h
    cases ds with
    | nil => rw [flat]; exact ⟨fun t a => by rw [wl]; rfl, fun h => by rw [hl]; rfl, fun s b => by rw [wa]; rfl⟩
    | cons d ds =>
      simp at h
      obtain ⟨i1, i2, i3⟩ := ih ds (by omega)
      have key : (∀ a, (wlk d a).length = (flatk d).length) ∧ (∀ a, (hlk d a).length = (flatk d).length) ∧ ∀ s f, (wo d s f).length = (flatk d).length + 1 := by
        cases hf : forkOf d with
        | none =>
          obtain ⟨e1, e2, e3⟩ := fork2_none hf
          rw [(fork_none hf).1]
          exact ⟨fun a => by rw [e1]; rfl, fun a => by rw [e2]; rfl, fun s f => by rw [e3]; rfl⟩
        | some p =>
          obtain ⟨x, y⟩ := p
          obtain ⟨e1, e2, e3⟩ := fork2_some hf
          obtain ⟨f1, _, _, _, s1, s2⟩ := fork_some hf
          obtain ⟨x1, x2, x3⟩ := ih x (by omega)
          obtain ⟨y1, y2, y3⟩ := ih y (by omega)
          rw [f1]
          refine ⟨fun a => ?_, fun a => ?_, fun s f => ?_⟩
          · rw [e1, List.length_append, List.length_append, x1, y1]
          · rw [e2, List.length_append, List.length_append, x2, y2]
          · rw [e3, List.length_append, List.length_append, List.length_append, x3, y3]
            simp only [List.length_cons, List.length_nil]
            omega
      obtain ⟨k1, k2, k3⟩ := key
      rw [flat]
      refine ⟨fun t a => ?_, fun h => ?_, fun s b => ?_⟩
      · rw [wl, List.length_cons, List.length_append, List.length_cons, List.length_append, k1, i1]
      · rw [hl, List.length_cons, List.length_append, List.length_cons, List.length_append, k2, i2]
      · rw [wa, List.length_append, List.length_cons, List.length_append, k3, i3]
        omega
theorem wl_len (ds : List D) (t a : List Str) : (wl ds t a).length = (flat ds).length := (lens_aux _ ds (Nat.lt_succ_self _)).1 t a
theorem hl_len (ds : List D) (h : List Str) : (hl ds h).length = (flat ds).length := (lens_aux _ ds (Nat.lt_succ_self _)).2.1 h
theorem wa_len (ds : List D) (s b : Nat) : (wa ds s b).length = (flat ds).length := (lens_aux _ ds (Nat.lt_succ_self _)).2.2 s b
theorem wo_len (d : D) (s f : Nat) : (wo d s f).length = (flat [d]).length := by
  have h := wa_len [d] s f
  rw [wa, wa, List.append_nil] at h
  exact h
/-- the least that keeps the texts of a datum -/
theorem good_nm {d : D} (h : goodD d = true) : BrOk d → (wD d = "take" ∨ wD d = "give" ∨ wD d = "piece") → sOk (nmD d) := by
  rintro ⟨w, r, rfl, _, _, b3⟩ hw
  obtain ⟨n, r', rfl⟩ := b3 hw
  simp only [goodD, goodAll, Bool.and_eq_true] at h
  exact h.2.1.1
theorem behindD_ok {d : D} {t : List Str} (h : ∀ n ∈ t, sOk n) (g : goodD d = true) (b : BrOk d) : ∀ n ∈ behindD d t, sOk n := by
  intro n hn
  unfold behindD at hn
  split at hn
  · next e =>
    rcases List.mem_append.mp hn with hn | hn
    · exact h n hn
    · rcases List.mem_cons.mp hn with rfl | hn
      · exact good_nm g b (.inl e)
      · cases hn
  · split at hn
    · exact h n (List.dropLast_subset _ hn)
    · exact h n hn
theorem behindD_len (d : D) (h : List Str) : (behindD d h).length ≤ h.length + 1 := by
  unfold behindD
  split
  · rw [List.length_append]; exact Nat.le_refl _
  · split
    · rw [List.length_dropLast]; omega
    · omega
theorem kid_flat {d : D} {x : List D} (h : x ∈ kids d) : (flat x).length ≤ (flatk d).length ∧ ∀ e ∈ flat x, e ∈ flatk d := by
  rw [flatk_kids]
  refine ⟨?_, fun e he => List.mem_flatMap.mpr ⟨x, h, he⟩⟩
  obtain ⟨a, b, e⟩ := List.append_of_mem h
  rw [e, List.flatMap_append, List.flatMap_cons, List.length_append, List.length_append]
  omega
end Tr

/-! P5 -/
/-! ### is_wrong, wrong_locks, held_along -/
namespace Tr
open PySem PySem.Spec PyProof.Rows L2 Rw
theorem fits_shaped {n : Nat} {ds : List D} (h : Fits n ds) (hn : n ≤ 40) : SeqAt.shaped (.tuple ds) = true := by
  refine shaped_of ?_ ?_
  · rw [PyData.canLay0]
    exact lays_of ds h.good
  · rw [PyData.depth]
    have := h.dep
    omega
theorem fits_drop {n : Nat} : ∀ {ds : List D} (i : Nat), Fits n ds → Fits n (ds.drop i)
  | _, 0, h => h
  | [], _ + 1, h => h
  | _ :: _, i + 1, h => fits_drop i h.tail
def spWr (K : PySem.W.Frag) : Sp := fun vs H Q _ => ∃ (v ar tk : V) (d : D) (xs : List V) (p : Addr) (later : List D) (around taken : List Str), vs = [v, .ref p, ar, tk] ∧ Dp K H v d ∧ BrOk d ∧ goodD d = true ∧ SqT K H p xs ∧ DpAll K H xs later ∧ SeqAt.shaped (.tuple later) = true ∧
  TxtT K H ar around ∧ TxtT K H tk taken ∧ (∀ n ∈ taken, sOk n) ∧ around.length + taken.length ≤ 1000 ∧ ∀ H', Same H H' → Q (.bl (isWr d later around taken)) H'
section
variable {P : Program} {w : World} {K : PySem.W.Frag} {mg : Str → Option Value} {base : Heap}
abbrev sWr : Stmt := top 30
theorem scWr : FnScope ["item", "later", "around", "taken"] ["item", "later", "around", "taken"] (defScope sWr) := ⟨rfl, rfl, rfl, by decide +kernel, rfl, by decide +kernel, by decide +kernel⟩
theorem ok_wr {f : Addr} {fd : FuncData} (F : Fun K "is_wrong" "is_wrong" sWr f fd) : FnOk P w K mg base CX0 1 f fd ["item", "later", "around", "taken"] (spWr K) := by
  refine F.ok scWr (fun vs H Q E h => ?_) (fun cdv A outer s H vs Q E hr h => ?_)
  · obtain ⟨v, ar, tk, d, xs, p, later, around, taken, rfl, _⟩ := h
    rfl
  · obtain ⟨v, ar, tk, d, xs, pl, later, around, taken, rfl, hd, br, gd, hl, hls, hsh, har, htk, gt, hz, q⟩ := h
    have gn := good_nm gd br
    obtain ⟨wd, r, rfl, b1, b2, b3⟩ := br
    refine ⟨_, (pss_cons (ps_if (pt_cmpR op_eq (pe_ix (ix_tupK (K := K) rfl) (pv 0) pe_int (fun _ _ => rfl)) pe_str (nomark _))
       (pss_one (ps_ret (pe_cmpR (Nm.op_neDK (K := K) rfl hr.units) (pe_slice sl_tupA (pv 3) (po_some (pe_un un_neg pe_int)) po_none) (pe_tup (pa_cons (pe_ix (ix_tupK (K := K) rfl) (pv 0) pe_int (fun _ _ => rfl)) pa_nil)) (nomark _))))
       pss_nil)
       (pss_cons (ps_if (pt_cmpR op_eq (pe_ix (ix_tupK (K := K) rfl) (pv 0) pe_int (fun _ _ => rfl)) pe_str (nomark _))
       (pss_one (ps_ret (pe_or (pe_cmpR (op_in_seqKK (K := K) rfl) (pe_ix (ix_tupK (K := K) rfl) (pv 0) pe_int (fun _ _ => rfl)) (pe_op op_catA (pv 2) (pv 3)) (by rfl)) (pe_one (pe_cmpR (op_notInTD hr.units65) (pe_tup (pa_cons pe_str (pa_cons (pe_ix (ix_tupK (K := K) rfl) (pv 0) pe_int (fun _ _ => rfl)) pa_nil))) (pv 1) (by rfl))))))
       pss_nil)
       (pss_one (ps_ret (pe_and (pe_cmpR op_eq (pe_ix (ix_tupK (K := K) rfl) (pv 0) pe_int (fun _ _ => rfl)) pe_str (nomark _)) (pe_one (pe_cmpR (op_in_seqKK (K := K) rfl) (pe_ix (ix_tupK (K := K) rfl) (pv 0) pe_int (fun _ _ => rfl)) (pe_op op_catA (pv 2) (pv 3)) (by rfl)))))))), ?_⟩
    rw [show wD (.tuple (.str wd :: r)) = wd from rfl] at gn
    cases hd with
    | @tup p xs0 _ hp ha =>
    cases ha with
    | @cons x0 xs0 _ _ h0 ha =>
    cases h0
    refine ⟨_, rfl, p, _, _, _, rfl, rfl, hp, at0, rfl, _, rfl, ?_⟩
    rw [Rw.dec_str]
    unfold isWr at q
    rw [show wD (.tuple (.str wd :: r)) = wd from rfl] at q
    by_cases h1 : wd = "give"
    · rw [decide_eq_true h1]
      rw [if_pos h1] at q
      obtain ⟨n, r', rfl⟩ := b3 (.inr (.inl h1))
      rw [show nmD (.tuple (.str wd :: .str n :: r')) = n from rfl] at q gn
      cases ha with
      | @cons x1 xs2 _ _ h0 ha =>
      cases h0
      refine iteT ?_
      refine ⟨_, rfl, _, rfl, _, rfl, ?_⟩
      dsimp only [tNoPart]
      refine last_txt htk fun H1 u s1 hu => ?_
      refine ⟨_, rfl, p, _, _, _, rfl, rfl, s1.tupS hp, at1, by show 1 ≤ sizeLine; decide, fun y ny => ?_⟩
      have s2 := same_upd (o := HO.tup [V.str n]) ny
      have hy : TxtT K (upd H1 y (.tup [V.str n])) (.ref y) [n] := ⟨y, rfl, SqT.of upd_same⟩
      refine ⟨_, _, (hu.same s2).dp, hy.dp, txtD_shaped fun n hn => gt n (List.mem_of_mem_drop hn), txtD_shaped fun m hn => ?_, ?_⟩
      · rcases List.mem_cons.mp hn with rfl | hn
        · exact gn (.inr (.inl h1))
        · cases hn
      · rw [eqv_txt]
        exact q _ (s1.trans s2)
    · rw [decide_eq_false h1]
      rw [if_neg h1] at q
      refine iteF ?_
      refine ⟨_, rfl, p, _, _, _, rfl, rfl, hp, at0, rfl, _, rfl, ?_⟩
      rw [Rw.dec_str]
      by_cases h2 : wd = "take"
      · rw [decide_eq_true h2]
        rw [if_pos h2] at q
        obtain ⟨n, r', rfl⟩ := b3 (.inl h2)
        rw [show nmD (.tuple (.str wd :: .str n :: r')) = n from rfl] at q gn
        cases ha with
        | @cons x1 xs2 _ _ h0 ha =>
        cases h0
        refine iteT ?_
        refine ⟨_, rfl, p, _, _, _, rfl, rfl, hp, at1, _, rfl, _, rfl, cat_txt har htk hz fun H1 u s1 hu => ?_⟩
        obtain ⟨pu, rfl, hu⟩ := hu
        refine ⟨pu, _, rfl, .inr hu, rfl, flat_txt _, _, rfl, ?_⟩
        rw [if_neg Bool.false_ne_true, inV_txt]
        by_cases h3 : n ∈ around ++ taken
        · rw [decide_eq_true h3]
          rw [if_pos h3] at q
          exact iteT (q _ s1)
        · rw [decide_eq_false h3]
          rw [if_neg h3] at q
          refine iteF ?_
          refine ⟨_, rfl, p, _, _, _, rfl, rfl, s1.tupS hp, at1, by show 2 ≤ sizeLine; decide, fun y ny => ?_⟩
          have s2 := same_upd (o := HO.tup [V.str "give", V.str n]) ny
          have hy : TxtT K (upd H1 y (.tup [V.str "give", V.str n])) (.ref y) ["give", n] := ⟨y, rfl, SqT.of upd_same⟩
          have gok : ∀ m ∈ [("give" : Str), n], sOk m := fun m hm => by
            rcases List.mem_cons.mp hm with rfl | hm
            · exact (by decide +kernel : sOk "give")
            · rcases List.mem_cons.mp hm with rfl | hm
              · exact gn (.inl h2)
              · cases hm
          refine ⟨_, rfl, giveD n, later, hy.dp, .tup ((s1.trans s2).tupS hl) (hls.same (s1.trans s2)), txtD_shaped gok, hsh, ?_⟩
          exact q _ (s1.trans s2)
      · rw [decide_eq_false h2]
        rw [if_neg h2] at q
        refine iteF ?_
        refine ⟨_, rfl, p, _, _, _, rfl, rfl, hp, at0, rfl, _, rfl, ?_⟩
        rw [Rw.dec_str]
        by_cases h3 : wd = "piece"
        · rw [decide_eq_true h3]
          rw [decide_eq_true h3] at q
          obtain ⟨n, r', rfl⟩ := b3 (.inr (.inr h3))
          rw [show nmD (.tuple (.str wd :: .str n :: r')) = n from rfl] at q
          cases ha with
          | @cons x1 xs2 _ _ h0 ha =>
          cases h0
          refine iteT ?_
          refine ⟨_, rfl, p, _, _, _, rfl, rfl, hp, at1, _, rfl, _, rfl, cat_txt har htk hz fun H1 u s1 hu => ?_⟩
          obtain ⟨pu, rfl, hu⟩ := hu
          refine ⟨pu, _, rfl, .inr hu, rfl, flat_txt _, ?_⟩
          rw [if_neg Bool.false_ne_true, inV_txt]
          exact q _ s1
        · rw [decide_eq_false h3]
          rw [decide_eq_false h3] at q
          exact iteF (q H (Same.refl H))
end
def spWLk (K : PySem.W.Frag) (n : Nat) : Sp := fun vs H Q _ => ∃ (p : Addr) (ar : V) (xs : List V) (ds : List D) (around : List Str), vs = [.ref p, ar] ∧ SqT K H p xs ∧ DpAll K H xs ds ∧ Fits n ds ∧ (∀ d ∈ flat ds, BrOk d) ∧ TxtT K H ar around ∧ around.length + (flat ds).length ≤ 900 ∧
  ∀ H' l, Same H H' → H l = none → H' l = some (.lst ((wl ds [] around).map V.bl)) → Q (.ref l) H'
section
variable {P : Program} {w : World} {K : PySem.W.Frag} {mg : Str → Option Value} {base : Heap}
abbrev sWL : Stmt := top 29
theorem scWL : FnScope ["items", "around", "found", "taken", "at", "item", "inner"] ["items", "around"] (defScope sWL) := ⟨rfl, rfl, rfl, by decide +kernel, rfl, by decide +kernel, by decide +kernel⟩
theorem ok_wlk {f fB fL fW : Addr} {fd fdB fdL fdW : FuncData} (F : Fun K "wrong_locks" "wrong_locks" sWL f fd) (TX : Called K mg "wrong_locks" ["items", "around"] f fd) (GB : FnOk P w K mg base CX0 1 fB fdB ["item"] (spBr K)) (TB : Called K mg "branches" ["item"] fB fdB)
    (GL : FnOk P w K mg base CX0 1 fL fdL ["item", "held"] (spBeh K)) (TL : Called K mg "locks_behind" ["item", "held"] fL fdL) (GW : FnOk P w K mg base CX0 1 fW fdW ["item", "later", "around", "taken"] (spWr K)) (TW : Called K mg "is_wrong" ["item", "later", "around", "taken"] fW fdW)
    (m_enumerate : mg "enumerate" = none) : ∀ n, n ≤ 40 → FnOk P w K mg base CX0 (n + 2) f fd ["items", "around"] (spWLk K n) := by
  intro n
  induction n with
  | zero =>
    intro _
    refine F.ok scWL (fun vs H Q E h => ?_) (fun cdv A outer s H vs Q E hr h => ?_)
    · obtain ⟨p, ar, xs, ds, around, rfl, _⟩ := h
      rfl
    · obtain ⟨p, ar, xs, ds, around, rfl, _, _, ft, _⟩ := h
      exact absurd ft.dep (Nat.not_lt_zero _)
  | succ n ih =>
    intro hn
    have GX := ih (by omega)
    refine F.ok scWL (fun vs H Q E h => ?_) (fun cdv A outer s H vs Q E hr h => ?_)
    · obtain ⟨p, ar, xs, ds, around, rfl, _⟩ := h
      rfl
    · obtain ⟨p, ar, xs, ds, around, rfl, hp, ha, ft, br, har, hz, q⟩ := h
      refine ⟨_, (pss_cons (ps_set (i := 2) scWL.nd rfl (.inl rfl) (pe_lst pa_nil))
       (pss_cons (ps_set (i := 3) scWL.nd rfl (.inl rfl) (pe_tup pa_nil))
       (pss_cons (ps_for PassesOwn.never rfl (pi_enumT rfl m_enumerate (pa_cons (pv 0) pa_nil)) (pg_tup rfl (pgs_cons (pg_name (i := 4) scWL.nd rfl (.inl rfl)) (pgs_cons (pg_name (i := 5) scWL.nd rfl (.inl rfl)) pgs_nil)))
       (pss_cons (ps_expr (pe_bm PySem.F.plainAttrs_list PySem.F.slot_list_append PySem.F.type_list_append mt_append (pv 2) (pa_cons (pe_call GW (hr.mono (by first | decide | omega)) rfl TW.1 TW.2.1 TW.2.2 .nil pass0 (pa_cons (pv 5) (pa_cons (pe_slice sl_tupA (pv 0) (po_some (pe_op op_add (pv 4) pe_int)) po_none) (pa_cons (pv 1) (pa_cons (pv 3) pa_nil))))) pa_nil)))
       (pss_cons (ps_set (i := 3) scWL.nd rfl (.inl rfl) (pe_call GL (hr.mono (by first | decide | omega)) rfl TL.1 TL.2.1 TL.2.2 .nil pass0 (pa_cons (pv 5) (pa_cons (pv 3) pa_nil))))
       (pss_one (ps_for PassesOwn.never rfl (pi_tup (pe_call GB (hr.mono (by first | decide | omega)) rfl TB.1 TB.2.1 TB.2.2 .nil pass0 (pa_cons (pv 5) pa_nil))) (pg_name (i := 6) scWL.nd rfl (.inl rfl))
       (pss_one (ps_expr (pe_bm PySem.F.plainAttrs_list PySem.F.slot_list_extend PySem.F.type_list_extend mt_extend (pv 2) (pa_cons (pe_call GX (hr.mono (by first | decide | omega)) rfl TX.1 TX.2.1 TX.2.2 .nil pass0 (pa_cons (pv 6) (pa_cons (pe_op op_catA (pv 1) (pv 3)) pa_nil))) pa_nil)))))))))
       (pss_one (ps_ret (pv 2)))))), ?_⟩
      have len := dpl ha
      have tot := wl_len ds [] around
      have small : ∀ as bs : List Bool, as ++ bs = wl ds [] around → as.length ≤ 900 := fun as bs e => by
        have z := congrArg List.length e
        rw [List.length_append] at z
        omega
      refine ⟨Nat.zero_le _, fun l nl => ?_⟩
      have s1 : Same H (upd H l (.lst [])) := same_upd nl
      refine ⟨Nat.zero_le _, fun t0 nt0 => ?_⟩
      have s2 := same_upd (o := HO.tup []) nt0
      refine ⟨_, rfl, p, _, rfl, (s1.trans s2).tupS hp, for_enumT (K := K) (a := p) (xs := xs)
        (fun i σ H' => ∃ (u : V) (done : List Bool) (t : List Str) (v4 v5 v6 : Option V), σ = [some (.ref p), some ar, some (.ref l), some u, v4, v5, v6] ∧ Same H H' ∧ H' l = some (.lst (done.map V.bl)) ∧ TxtT K H' u t ∧ (∀ n ∈ t, sOk n) ∧
          done ++ wl (ds.drop i) t around = wl ds [] around ∧ t.length + (flat (ds.drop i)).length ≤ (flat ds).length)
        ⟨.ref t0, [], [], none, none, none, rfl, s1.trans s2, s2 _ _ upd_same, ⟨t0, rfl, SqT.of upd_same⟩, fun n hn => (nomatch hn), rfl, Nat.zero_add _ ▸ Nat.le_refl _⟩ ?_ ?_ ?_⟩
      · rintro i σ H' hi ⟨u, _, _, v4, v5, v6, rfl, sm, _⟩
        exact sm.tupS hp
      · rintro i x σ H1 T1 hxi ⟨u, done, t, v4, v5, v6, rfl, sm, ho, hu, tok, e, hl⟩ nT
        obtain ⟨d, hd, hx⟩ := dp_get ha hxi
        have mem : d ∈ ds := List.mem_of_getElem? hd
        have dr := drop_cons hd
        rw [dr, wl] at e
        rw [dr, flat, List.length_cons, List.length_append] at hl
        have fl : flat ds = flat (ds.take i) ++ (d :: (flatk d ++ flat (ds.drop (i + 1)))) := by
          have z := flat_app (ds.take i) (ds.drop i)
          rw [List.take_append_drop, dr, flat] at z
          exact z
        have brd : BrOk d := br d (by rw [fl]; simp)
        have gd := (ft.mem mem).good
        have hi : i < ds.length := (List.getElem?_eq_some_iff.mp hd).1
        have u0 := same_upd (o := .tup [.int (i : Nat), x]) nT
        refine ⟨T1, _, rfl, SqT.of upd_same, rfl, _, _, rfl, _, _, rfl, rfl, ?_⟩
        have sm0 := sm.trans u0
        refine ⟨_, rfl, .inl ⟨rfl, _, SqL.of (u0 _ _ ho)⟩, _, rfl, _, rfl, _, rfl, _, _, rfl, rfl, _, rfl, ?_⟩
        dsimp only [tNoPart]
        refine tail_tup (sm0.tupS hp) (by omega) fun H2 u2 s3 hu2 => ?_
        have sm2 := sm0.trans s3
        refine ⟨_, rfl, _, rfl, x, ar, u, d, _, u2, ds.drop (i + 1), around, t, rfl, hx.same sm2, brd, gd, hu2, (dp_drop (i + 1) ha).same sm2, fits_shaped (fits_drop (i + 1) ft) hn, har.same sm2, hu.same (u0.trans s3), tok, by omega, fun H3 s4 => ?_⟩
        have sm3 := sm2.trans s4
        have ho3 := s4 _ _ (s3 _ _ (u0 _ _ ho))
        have hu3 := hu.same (u0.trans (s3.trans s4))
        have dl := small _ _ e
        refine ⟨l, _, _, rfl, rfl, ho3, by rw [List.length_map, sizeLine_eq]; omega, ?_⟩
        generalize hH4 : upd H3 l _ = H4
        have sm4 : Same H H4 := by
          rw [← hH4]
          exact same_updN nl sm3
        have hu4 : TxtT K H4 u t := by
          rw [← hH4]
          exact hu3.updL ho3
        have ho4 : H4 l = some (.lst ((done ++ [isWr d (ds.drop (i + 1)) around t]).map V.bl)) := by
          rw [← hH4, upd_same, List.map_append]
          rfl
        clear hH4
        have bl := behindD_len d t
        refine ⟨_, rfl, _, rfl, x, u, d, t, rfl, hx.same sm4, brd, hu4, by omega, fun H5 u5 s6 hu5 => ?_⟩
        have bok := behindD_ok tok gd brd
        have sm5 := sm4.trans s6
        refine ⟨_, rfl, H, x, d, rfl, sm5, hx, brd, fun H6 p6 ks s7 ht hk => ?_⟩
        have lk := dpl hk
        rw [List.length_map] at lk
        rw [wlk_kids] at e
        refine ⟨p6, rfl, ⟨_, ht⟩, for_tup (xs := ks) (fun j σ H' => ∃ (dn : List Bool) (v6 : Option V), σ = [some (.ref p), some ar, some (.ref l), some u5, some (.int (i : Nat)), some x, v6] ∧ Same H H' ∧ SqT K H' p6 ks ∧ TxtT K H' u5 (behindD d t) ∧ H' l = some (.lst (dn.map V.bl)) ∧
            dn ++ (((kids d).drop j).flatMap (fun x => wl x [] (around ++ behindD d t)) ++ wl (ds.drop (i + 1)) (behindD d t) around) = wl ds [] around)
          ⟨done ++ [isWr d (ds.drop (i + 1)) around t], v6, rfl, sm5.trans s7, ht, hu5.same s7, s7 _ _ (s6 _ _ ho4), by rw [← e]; simp⟩ ?_ ?_ ?_⟩
        · rintro j σ H' hj ⟨dn, v6, rfl, _, ht, _⟩
          exact ht
        · rintro j k σ H7 hkj ⟨dn, v6, rfl, s8, ht8, hu8, hl8, e8⟩
          obtain ⟨pk, xk, dk, rfl, hdk, hpk, hak⟩ := dp_map_tup hk hkj
          have memk : dk ∈ kids d := List.mem_of_getElem? hdk
          rw [drop_cons hdk, List.flatMap_cons] at e8
          obtain ⟨kl, ks2⟩ := kid_flat memk
          refine ⟨_, rfl, .inl ⟨rfl, _, SqL.of hl8⟩, _, rfl, _, rfl, _, rfl, cat_txt (har.same s8) hu8 (by omega) fun H8 a8 s9 ha8 => ?_⟩
          refine ⟨pk, a8, xk, dk, around ++ behindD d t, rfl, (s8.trans s9).tupS hpk, hak.same (s8.trans s9), kid_fit (ft.mem mem) memk, fun z hz => br z (by rw [fl]; exact List.mem_append_right _ (List.mem_cons_of_mem _ (List.mem_append_left _ (ks2 z hz)))), ha8, by rw [List.length_append]; omega, fun H9 l9 s10 n9 h9 => ?_⟩
          have s89 := s9.trans s10
          refine ⟨l, l9, _, _, rfl, rfl, s89 _ _ hl8, h9, ?_, ?_⟩
          · have z := congrArg List.length e8
            simp only [List.length_append] at z
            rw [List.length_map, List.length_map, sizeLine_eq]
            omega
          refine ⟨dn ++ wl dk [] (around ++ behindD d t), some (.ref pk), rfl, same_updN nl (s8.trans s89), sqT_updL (s89 _ _ hl8) (s89.tupS ht8), (hu8.same s89).updL (s89 _ _ hl8), by rw [upd_same, List.map_append], ?_⟩
          rw [← e8]
          simp
        · rintro σ H7 ⟨dn, v6, rfl, s8, ht8, hu8, hl8, e8⟩
          refine ⟨u5, dn, behindD d t, _, _, _, rfl, s8, hl8, hu8, bok, ?_, by omega⟩
          rw [lk, List.drop_length] at e8
          exact e8
      · rintro σ H1 ⟨u, done, t, v4, v5, v6, rfl, sm, ho, hu, tok, e, hl⟩
        rw [len, List.drop_length, wl, List.append_nil] at e
        rw [e] at ho
        exact ⟨_, rfl, q H1 l sm nl ho⟩
end
def spHl (K : PySem.W.Frag) (n : Nat) : Sp := fun vs H Q _ => ∃ (p : Addr) (hv : V) (xs : List V) (ds : List D) (h0 : List Str), vs = [.ref p, hv] ∧ SqT K H p xs ∧ DpAll K H xs ds ∧ Fits n ds ∧ (∀ d ∈ flat ds, BrOk d) ∧ TxtT K H hv h0 ∧ h0.length + (flat ds).length ≤ 900 ∧
  ∀ H' l ys, Same H H' → H l = none → H' l = some (.lst ys) → All2 (TxtT K H') ys (hl ds h0) → Q (.ref l) H'
section
variable {P : Program} {w : World} {K : PySem.W.Frag} {mg : Str → Option Value} {base : Heap}
abbrev sHl : Stmt := top 32
theorem scHl : FnScope ["items", "around", "found", "held", "item", "inner"] ["items", "around"] (defScope sHl) := ⟨rfl, rfl, rfl, by decide +kernel, rfl, by decide +kernel, by decide +kernel⟩
theorem ok_hl {f fB fL : Addr} {fd fdB fdL : FuncData} (F : Fun K "held_along" "held_along" sHl f fd) (TX : Called K mg "held_along" ["items", "around"] f fd) (GB : FnOk P w K mg base CX0 1 fB fdB ["item"] (spBr K)) (TB : Called K mg "branches" ["item"] fB fdB)
    (GL : FnOk P w K mg base CX0 1 fL fdL ["item", "held"] (spBeh K)) (TL : Called K mg "locks_behind" ["item", "held"] fL fdL) : ∀ n, FnOk P w K mg base CX0 (n + 2) f fd ["items", "around"] (spHl K n) := by
  intro n
  induction n with
  | zero =>
    refine F.ok scHl (fun vs H Q E h => ?_) (fun cdv A outer s H vs Q E hr h => ?_)
    · obtain ⟨p, ar, xs, ds, around, rfl, _⟩ := h
      rfl
    · obtain ⟨p, ar, xs, ds, around, rfl, _, _, ft, _⟩ := h
      exact absurd ft.dep (Nat.not_lt_zero _)
  | succ n GX =>
    refine F.ok scHl (fun vs H Q E h => ?_) (fun cdv A outer s H vs Q E hr h => ?_)
    · obtain ⟨p, ar, xs, ds, around, rfl, _⟩ := h
      rfl
    · obtain ⟨p, hv, xs, ds, h0, rfl, hp, ha, ft, br, hh, hz, q⟩ := h
      refine ⟨_, (pss_cons (ps_set (i := 2) scHl.nd rfl (.inl rfl) (pe_lst pa_nil))
       (pss_cons (ps_set (i := 3) scHl.nd rfl (.inl rfl) (pv 1))
       (pss_cons (ps_for PassesOwn.never rfl (pi_tup (pv 0)) (pg_name (i := 4) scHl.nd rfl (.inl rfl))
       (pss_cons (ps_expr (pe_bm PySem.F.plainAttrs_list PySem.F.slot_list_append PySem.F.type_list_append mt_append (pv 2) (pa_cons (pv 3) pa_nil)))
       (pss_cons (ps_for PassesOwn.never rfl (pi_tup (pe_call GB (hr.mono (by first | decide | omega)) rfl TB.1 TB.2.1 TB.2.2 .nil pass0 (pa_cons (pv 4) pa_nil))) (pg_name (i := 5) scHl.nd rfl (.inl rfl))
       (pss_one (ps_expr (pe_bm PySem.F.plainAttrs_list PySem.F.slot_list_extend PySem.F.type_list_extend mt_extend (pv 2) (pa_cons (pe_call GX (hr.mono (by first | decide | omega)) rfl TX.1 TX.2.1 TX.2.2 .nil pass0 (pa_cons (pv 5) (pa_cons (pv 3) pa_nil))) pa_nil)))))
       (pss_one (ps_set (i := 3) scHl.nd rfl (.inl rfl) (pe_call GL (hr.mono (by first | decide | omega)) rfl TL.1 TL.2.1 TL.2.2 .nil pass0 (pa_cons (pv 4) (pa_cons (pv 3) pa_nil))))))))
       (pss_one (ps_ret (pv 2)))))), ?_⟩
      have len := dpl ha
      have tot := hl_len ds h0
      have small : ∀ as bs : List (List Str), as ++ bs = hl ds h0 → as.length ≤ 900 := fun as bs e => by
        have z := congrArg List.length e
        rw [List.length_append] at z
        omega
      refine ⟨Nat.zero_le _, fun l nl => ?_⟩
      have s1 : Same H (upd H l (.lst [])) := same_upd nl
      refine ⟨_, rfl, _, rfl, p, rfl, ⟨_, s1.tupS hp⟩, for_tup (xs := xs)
        (fun i σ H' => ∃ (ys : List V) (done : List (List Str)) (u : V) (t : List Str) (v4 v5 : Option V), σ = [some (.ref p), some hv, some (.ref l), some u, v4, v5] ∧ Same H H' ∧ H' l = some (.lst ys) ∧ All2 (TxtT K H') ys done ∧ TxtT K H' u t ∧
          done ++ hl (ds.drop i) t = hl ds h0 ∧ t.length + (flat (ds.drop i)).length ≤ h0.length + (flat ds).length)
        ⟨[], [], hv, h0, none, none, rfl, s1, upd_same, .nil, hh.same s1, rfl, Nat.le_refl _⟩ ?_ ?_ ?_⟩
      · rintro i σ H' hi ⟨_, _, u, _, v4, v5, rfl, sm, _⟩
        exact sm.tupS hp
      · rintro i x σ H1 hxi ⟨ys, done, u, t, v4, v5, rfl, sm, ho, hy, hu, e, hl2⟩
        obtain ⟨d, hd, hx⟩ := dp_get ha hxi
        have mem : d ∈ ds := List.mem_of_getElem? hd
        have dr := drop_cons hd
        rw [dr, hl] at e
        rw [dr, flat, List.length_cons, List.length_append] at hl2
        have fl : flat ds = flat (ds.take i) ++ (d :: (flatk d ++ flat (ds.drop (i + 1)))) := by
          have z := flat_app (ds.take i) (ds.drop i)
          rw [List.take_append_drop, dr, flat] at z
          exact z
        have brd : BrOk d := br d (by rw [fl]; simp)
        have yl := hy.length
        have dl := small _ _ e
        refine ⟨_, rfl, .inl ⟨rfl, _, SqL.of ho⟩, _, rfl, l, _, _, rfl, rfl, ho, small1000 (by omega), ?_⟩
        have s2 : Same H (upd H1 l (.lst (ys ++ [u]))) := same_updN nl sm
        have hy2 : All2 (TxtT K (upd H1 l (.lst (ys ++ [u])))) (ys ++ [u]) (done ++ [t]) := (hy.mono fun _ _ z => z.updL ho).append (.cons (hu.updL ho) .nil)
        have hu2 := hu.updL (u := .lst (ys ++ [u])) ho
        have ho2 : (upd H1 l (.lst (ys ++ [u]))) l = some (.lst (ys ++ [u])) := upd_same
        generalize upd H1 l (.lst (ys ++ [u])) = H2 at s2 hy2 hu2 ho2
        refine ⟨_, rfl, H, x, d, rfl, s2, hx, brd, fun H3 p3 ks s3 ht hk => ?_⟩
        have lk := dpl hk
        rw [List.length_map] at lk
        rw [hlk_kids] at e
        refine ⟨p3, rfl, ⟨_, ht⟩, for_tup (xs := ks) (fun j σ H' => ∃ (zs : List V) (dn : List (List Str)) (v5 : Option V), σ = [some (.ref p), some hv, some (.ref l), some u, some x, v5] ∧ Same H H' ∧ SqT K H' p3 ks ∧ TxtT K H' u t ∧ H' l = some (.lst zs) ∧ All2 (TxtT K H') zs dn ∧
            dn ++ (((kids d).drop j).flatMap (fun x => hl x t) ++ hl (ds.drop (i + 1)) (behindD d t)) = hl ds h0)
          ⟨ys ++ [u], done ++ [t], v5, rfl, s2.trans s3, ht, hu2.same s3, s3 _ _ ho2, hy2.mono fun _ _ z => z.same s3, by rw [← e]; simp⟩ ?_ ?_ ?_⟩
        · rintro j σ H' hj ⟨_, dn, v6, rfl, _, ht, _⟩
          exact ht
        · rintro j k σ H7 hkj ⟨zs, dn, v6, rfl, s8, ht8, hu8, hl8, hz8, e8⟩
          obtain ⟨pk, xk, dk, rfl, hdk, hpk, hak⟩ := dp_map_tup hk hkj
          have memk : dk ∈ kids d := List.mem_of_getElem? hdk
          rw [drop_cons hdk, List.flatMap_cons] at e8
          obtain ⟨kl, ks2⟩ := kid_flat memk
          refine ⟨_, rfl, .inl ⟨rfl, _, SqL.of hl8⟩, _, rfl, _, rfl, pk, u, xk, dk, t, rfl, s8.tupS hpk, hak.same s8, kid_fit (ft.mem mem) memk, fun z hz => br z (by rw [fl]; exact List.mem_append_right _ (List.mem_cons_of_mem _ (List.mem_append_left _ (ks2 z hz)))), hu8, by omega, fun H9 l9 ws s9 n9 h9 hw => ?_⟩
          have zl := hz8.length
          have wln := hw.length
          refine ⟨l, l9, _, _, rfl, rfl, s9 _ _ hl8, h9, ?_, ?_⟩
          · have z := congrArg List.length e8
            simp only [List.length_append] at z
            rw [sizeLine_eq]
            omega
          refine ⟨zs ++ ws, dn ++ hl dk t, some (.ref pk), rfl, same_updN nl (s8.trans s9), sqT_updL (s9 _ _ hl8) (s9.tupS ht8), (hu8.same s9).updL (s9 _ _ hl8), upd_same, ?_, ?_⟩
          · exact ((hz8.mono fun _ _ z => (z.same s9).updL (s9 _ _ hl8)).append (hw.mono fun _ _ z => z.updL (s9 _ _ hl8)))
          · rw [← e8]
            simp
        · rintro σ H7 ⟨zs, dn, v6, rfl, s8, ht8, hu8, hl8, hz8, e8⟩
          rw [lk, List.drop_length] at e8
          have bl := behindD_len d t
          refine ⟨_, rfl, _, rfl, x, u, d, t, rfl, hx.same s8, brd, hu8, by omega, fun H9 u9 s9 hu9 => ?_⟩
          refine ⟨zs, dn, u9, behindD d t, _, _, rfl, s8.trans s9, s9 _ _ hl8, hz8.mono fun _ _ z => z.same s9, hu9, e8, by omega⟩
      · rintro σ H1 ⟨ys, done, u, t, v4, v5, rfl, sm, ho, hy, hu, e, hl2⟩
        rw [len, List.drop_length, hl, List.append_nil] at e
        rw [e] at hy
        exact ⟨_, rfl, q H1 l ys sm nl ho hy⟩
end
end Tr

/-! P6 -/
/-! ### check_each, check_body, is_body, is_item -/
namespace Tr
open PySem PySem.Spec PyProof.Rows L2 Rw
/-- what Body says of a value: none, or where its first fault lies -/
def faultL (ds : List D) : Option V :=
  if ds.isEmpty then some .non else
    match (misl ds 0).findIdx? id with
    | some i => some (.int (i : Nat))
    | none => if 8 < (flat ds).length then some .non else
      match (wl ds [] []).findIdx? id with
      | some i => some (.int (i : Nat))
      | none => none
def faultB : D → Option V
  | .tuple ds => faultL ds
  | _ => some .non
theorem find_none {bs : List Bool} (h : bs.findIdx? id = none) : bs.contains true = false := by
  rw [List.findIdx?_eq_none_iff] at h
  cases hc : bs.contains true with
  | false => rfl
  | true =>
    have z := h true (List.contains_iff_mem.mp hc)
    cases z
def spEach (K : PySem.W.Frag) (CI : Addr) : Sp := fun vs H Q E => ∃ (l : Addr) (bs : List Bool), vs = [.ref l] ∧ SqL K H l (bs.map V.bl) ∧ (bs.findIdx? id = none → ∀ H', Same H H' → Q .non H') ∧ (∀ i : Nat, bs.findIdx? id = some i → ∀ t H', Left H "place" (.int (i : Nat)) t H' → E (.ref CI) (some t) H')
def spCB (K : PySem.W.Frag) (CI : Addr) (n : Nat) : Sp := fun vs H Q E => ∃ (v : V) (d : D), vs = [v] ∧ Dp K H v d ∧ FitD n d ∧ (faultB d = none → ∀ H', Same H H' → Q .non H') ∧ (∀ r, faultB d = some r → ∀ t H', Left H "place" r t H' → E (.ref CI) (some t) H')
section
variable {P : Program} {w : World} {K : PySem.W.Frag} {mg : Str → Option Value} {base : Heap}
abbrev sII : Stmt := inClass (top 3) 0
theorem scII : FnScope ["self", "place"] ["self", "place"] (defScope sII) := ⟨rfl, rfl, rfl, by decide +kernel, rfl, by decide +kernel, by decide +kernel⟩
theorem ok_II {f : Addr} {fd : FuncData} (F : Fun K "__init__" "InvalidItem.__init__" sII f fd) : FnOk P w K mg base CX0 1 f fd ["self", "place"] (spR1 K "place") := by
  refine F.ok scII (fun vs H Q E h => ?_) (fun cdv A outer s H vs Q E hr h => ?_)
  · obtain ⟨a, C, fI, v, rfl, _⟩ := h
    rfl
  · obtain ⟨a, C, fI, v, rfl, T, hn, ea, q⟩ := h
    refine ⟨_, pss_one (ps_ostG (pv 0) (pv 1)), ?_⟩
    refine ⟨_, rfl, _, rfl, a, C, fI, rfl, T, hn, .inl ⟨ea, fun dx n ne => ?_⟩⟩
    refine q _ dx (fun b o hb e => ?_) upd_same (by rw [upd_ne ne, upd_same]) n ne
    rw [upd_ne hb, upd_ne (ne_of_none e n)]
    exact e
theorem er_II {x : Str} {C f : Addr} {fd : FuncData} (F : Fun K "__init__" "InvalidItem.__init__" sII f fd) (g : mg x = some (.ref C)) (o : OexG K C f) (no : PySem.W.findIn K (.ref C) "place" = some none) : Er P w K mg base x "place" C f fd :=
  ⟨g, o, no, ok_II F, F.binds (ps := ["self", "place"]) fun _ _ _ _ _ _ us hl => match us, hl with | [_, _], _ => rfl⟩
abbrev sEach : Stmt := top 19
theorem scEach : FnScope ["faults", "place", "wrong"] ["faults"] (defScope sEach) := ⟨rfl, rfl, rfl, by decide +kernel, rfl, by decide +kernel, by decide +kernel⟩
theorem ok_each {f CI fI : Addr} {fd fdI : FuncData} (F : Fun K "check_each" "check_each" sEach f fd) (T : Er P w K mg base "InvalidItem" "place" CI fI fdI) (m_enumerate : mg "enumerate" = none) : FnOk P w K mg base (L2.CX P w) 3 f fd ["faults"] (spEach K CI) := by
  refine F.okX scEach (fun vs H Q E h => ?_) (fun cdv A outer s H vs Q E hr h => ?_)
  · obtain ⟨l, bs, rfl, _⟩ := h
    rfl
  · obtain ⟨l, bs, rfl, hl, q, qE⟩ := h
    refine ⟨_, (pss_one (ps_for (passes_of rfl) rfl (pi_enum (by rfl) m_enumerate (pa_cons (pv 0) pa_nil)) (pg_tup rfl (pgs_cons (pg_name (i := 1) scEach.nd rfl (.inl rfl)) (pgs_cons (pg_name (i := 2) scEach.nd rfl (.inl rfl)) pgs_nil)))
       (pss_one (ps_if (pt_val (pv 2))
       (pss_one (ps_raise rfl (takes_of rfl rfl rfl rfl) (pmk_G T.o T.F (hr.mono (by first | decide | omega)) T.b pass0 rfl T.g (pa_cons (pv 1) pa_nil))))
       pss_nil)))), ?_⟩
    refine ⟨_, rfl, l, _, rfl, hl, for_enum (K := K) (a := l) (xs := bs.map V.bl)
      (fun i σ H' => ∃ v1 v2 : Option V, σ = [some (.ref l), v1, v2] ∧ Same H H' ∧ ∀ j, j < i → bs[j]? = some false)
      ⟨none, none, rfl, Same.refl _, fun j hj => absurd hj (Nat.not_lt_zero j)⟩ (fun i σ H' _ ⟨_, _, _, s5, _⟩ => s5.seq hl) ?_ ?_⟩
    · rintro i x σ H4 T4 hxi ⟨w1, w3, rfl, s5, al2⟩ nT4
      obtain ⟨b, hb, rfl⟩ : ∃ b, bs[i]? = some b ∧ x = V.bl b := by
        rw [List.getElem?_map] at hxi
        cases e : bs[i]? with
        | none => rw [e] at hxi; cases hxi
        | some z => rw [e] at hxi; exact ⟨z, rfl, (Option.some.inj hxi).symm⟩
      have u4 := same_upd (o := .tup [.int (i : Nat), .bl b]) nT4
      refine ⟨T4, _, rfl, .inl (.inl upd_same), rfl, _, _, rfl, _, _, rfl, rfl, ?_⟩
      refine ⟨_, rfl, _, rfl, ?_⟩
      cases b with
      | true =>
        refine iteT ⟨_, rfl, Nat.le_of_ble_eq_true rfl, fun e ne => raise1 T.o T.no ne fun t H' l => qE i ?_ t H' (l.before (s5.trans u4))⟩
        rw [List.findIdx?_eq_some_iff_getElem]
        obtain ⟨hi, he⟩ := List.getElem?_eq_some_iff.mp hb
        refine ⟨hi, by rw [he]; rfl, fun j hj => ?_⟩
        obtain ⟨hj2, he2⟩ := List.getElem?_eq_some_iff.mp (al2 j hj)
        rw [he2]
        exact Bool.false_ne_true
      | false =>
        refine iteF ⟨_, _, rfl, s5.trans u4, fun j hj => ?_⟩
        by_cases e : j = i
        · rw [e]; exact hb
        · exact al2 j (by omega)
    · rintro σ H4 ⟨w1, w3, rfl, s5, al2⟩
      refine q ?_ _ s5
      rw [List.findIdx?_eq_none_iff]
      intro x hx
      obtain ⟨j, hj⟩ := List.getElem?_of_mem hx
      have hj2 : j < (bs.map V.bl).length := by
        rw [List.length_map]
        exact (List.getElem?_eq_some_iff.mp hj).1
      have z := al2 j hj2
      rw [hj] at z
      exact Option.some.inj z
abbrev sCB : Stmt := top 18
theorem scCB : FnScope ["value"] ["value"] (defScope sCB) := ⟨rfl, rfl, rfl, by decide +kernel, rfl, by decide +kernel, by decide +kernel⟩
theorem ok_cb {f fM fF fW fE CI fI : Addr} {fd fdM fdF fdW fdE fdI : FuncData} (F : Fun K "check_body" "check_body" sCB f fd) (n : Nat) (hn : n ≤ 40) (T : Er P w K mg base "InvalidItem" "place" CI fI fdI)
    (GM : FnOk P w K mg base CX0 (2 * n + 4) fM fdM ["items", "around"] (spMis K n)) (TM : Called K mg "misshapen" ["items", "around"] fM fdM) (GF : FnOk P w K mg base CX0 (n + 2) fF fdF ["items"] (spFlat K n)) (TF : Called K mg "flat" ["items"] fF fdF)
    (GW : FnOk P w K mg base CX0 (n + 2) fW fdW ["items", "around"] (spWLk K n)) (TW : Called K mg "wrong_locks" ["items", "around"] fW fdW) (GE : FnOk P w K mg base (L2.CX P w) 3 fE fdE ["faults"] (spEach K CI)) (TE : Called K mg "check_each" ["faults"] fE fdE)
    (m_isinstance : mg "isinstance" = none) (m_tuple : mg "tuple" = none) (m_len : mg "len" = none) {tM : Tok} (mM : mg "MOST_ITEMS" = some (.int 8 tM)) : FnOk P w K mg base (L2.CX P w) (2 * n + 5) f fd ["value"] (spCB K CI (n + 1)) := by
  refine F.okX scCB (fun vs H Q E h => ?_) (fun cdv A outer s H vs Q E hr h => ?_)
  · obtain ⟨v, d, rfl, _⟩ := h
    rfl
  · obtain ⟨v, d, rfl, hd, ft, q, qE⟩ := h
    refine ⟨_, (pss_cons (ps_if (PW.pt (pw_or (pt_not (pt_val (pe_callB (call_isiKK (K := K) rfl) (by rfl) m_isinstance (by decide +kernel) (pa_cons (pv 0) (pa_cons (pe_bltn (v := .ty "tuple") (by rfl) m_tuple (by decide +kernel) rfl) pa_nil))))) (pw_or1 (pt_cmpR op_eq (pe_callB (call_len_K (K := K) rfl) (by rfl) m_len PySem.boot_len (pa_cons (pv 0) pa_nil)) pe_int (nomark _)))))
       (pss_one (ps_raise rfl (takes_of rfl rfl rfl rfl) (pmk_G T.o T.F (hr.mono (by first | decide | omega)) T.b pass0 rfl T.g (pa_cons pe_non pa_nil))))
       pss_nil)
       (pss_cons (ps_expr (pe_call GE (hr.mono (by first | decide | omega)) rfl TE.1 TE.2.1 TE.2.2 .nil passX (pa_cons (pe_call GM (hr.mono (by first | decide | omega)) rfl TM.1 TM.2.1 TM.2.2 .nil pass0 (pa_cons (pv 0) (pa_cons pe_int pa_nil))) pa_nil)))
       (pss_cons (ps_if (pt_cmpR op_gt (pe_callB (call_len_K (K := K) rfl) (by rfl) m_len PySem.boot_len (pa_cons (pe_call GF (hr.mono (by first | decide | omega)) rfl TF.1 TF.2.1 TF.2.2 .nil pass0 (pa_cons (pv 0) pa_nil)) pa_nil)) (pe_glob (v := .int 8) rfl mM ⟨_, rfl⟩) (nomark _))
       (pss_one (ps_raise rfl (takes_of rfl rfl rfl rfl) (pmk_G T.o T.F (hr.mono (by first | decide | omega)) T.b pass0 rfl T.g (pa_cons pe_non pa_nil))))
       pss_nil)
       (pss_one (ps_expr (pe_call GE (hr.mono (by first | decide | omega)) rfl TE.1 TE.2.1 TE.2.2 .nil passX (pa_cons (pe_call GW (hr.mono (by first | decide | omega)) rfl TW.1 TW.2.1 TW.2.2 .nil pass0 (pa_cons (pv 0) (pa_cons (pe_tup pa_nil) pa_nil))) pa_nil))))))), ?_⟩
    refine ⟨_, rfl, _, _, _, _, _, rfl, .ty _, dp_ty hd, kit_tup d, _, rfl, ?_⟩
    cases htp : isTup d with
    | false =>
      have e : faultB d = some .non := by
        cases d with
        | tuple _ => cases htp
        | _ => rfl
      exact iteT (iteT ⟨Nat.le_of_ble_eq_true rfl, fun x ne => raise1 T.o T.no ne fun t H' l => qE _ e t H' l⟩)
    | true =>
      refine iteF ?_
      obtain ⟨ds, rfl⟩ := tup_of htp
      cases hd with
      | @tup p xs _ hp ha =>
      have len := dpl ha
      rw [show faultB (.tuple ds) = faultL ds from rfl] at q qE
      unfold faultL at q qE
      refine ⟨_, rfl, p, _, rfl, .inr hp, rfl, _, rfl, ?_⟩
      rw [len, int_dec 0 0 rfl]
      by_cases e0 : ds.length = 0
      · rw [decide_eq_true e0]
        rw [List.eq_nil_of_length_eq_zero e0] at qE
        exact iteT ⟨Nat.le_of_ble_eq_true rfl, fun x ne => raise1 T.o T.no ne fun t H' l => qE _ rfl t H' l⟩
      · rw [decide_eq_false e0]
        have e1 : ¬ (ds.isEmpty = true) := by
          cases ds with
          | nil => exact absurd rfl e0
          | cons _ _ => exact Bool.false_ne_true
        rw [if_neg e1] at q qE
        refine iteF ?_
        refine ⟨_, rfl, p, xs, ds, 0, rfl, hp, ha, ft.inside, fun H1 l s1 nl hl => ?_⟩
        refine ⟨l, _, rfl, SqL.of hl, fun hf H2 s2 => ?_, fun i hi t H' lf => qE _ (by rw [hi]) t H' (lf.before s1)⟩
        rw [hf] at q qE
        have hc := find_none hf
        have s12 := s1.trans s2
        refine ⟨_, rfl, H, p, xs, ds, rfl, s12, s12.tupS hp, ha, ft.inside, fun e he => (br_flat hc e he).1, fun H3 l3 ys s3 n3 h3 hy => ?_⟩
        have ly := dpl hy
        have s13 := s12.trans s3
        refine ⟨l3, _, rfl, .inl (SqL.of h3), _, _, rfl, rfl, _, rfl, ?_⟩
        by_cases h8 : 8 < (flat ds).length
        · rw [decide_eq_true (by omega)]
          refine iteT ⟨Nat.le_of_ble_eq_true rfl, fun x ne => raise1 T.o T.no ne fun t H' l => qE .non (by rw [if_pos h8]) t H' (l.before s13)⟩
        · rw [decide_eq_false (by omega)]
          rw [if_neg h8] at q qE
          refine iteF ?_
          refine ⟨_, rfl, Nat.zero_le _, fun z nz => ?_⟩
          have s4 := s13.trans (same_upd (o := HO.tup []) nz)
          refine ⟨p, .ref z, xs, ds, [], rfl, s4.tupS hp, ha.same s4, ft.inside, fun e he => (br_flat hc e he).1, ⟨z, rfl, SqT.of upd_same⟩, by rw [List.length_nil]; omega, fun H5 l5 s5 n5 h5 => ?_⟩
          have s45 := s4.trans s5
          refine ⟨l5, _, rfl, SqL.of h5, fun hf2 H6 s6 => ?_, fun i hi t H' lf => qE _ (by rw [hi]) t H' (lf.before s45)⟩
          exact q (by rw [hf2]) H6 (s45.trans s6)
end
end Tr

/-! P7 -/
/-! ### ways_along, ways_of -/
namespace Tr
open PySem PySem.Spec PyProof.Rows L2 Rw
def WayT (K : PySem.W.Frag) (H : Hp) (v : V) (ns : List Nat) : Prop := ∃ p, v = .ref p ∧ SqT K H p (ns.map fun (n : Nat) => V.int (n : Int))
theorem WayT.same {K : PySem.W.Frag} {H H' : Hp} (s : Same H H') {v : V} {ns : List Nat} (h : WayT K H v ns) : WayT K H' v ns := let ⟨p, e, q⟩ := h; ⟨p, e, s.tupS q⟩
theorem WayT.updL {K : PySem.W.Frag} {H : Hp} {l : Addr} {xs : List V} {u : HO} (hl : H l = some (.lst xs)) {v : V} {ns : List Nat} (h : WayT K H v ns) : WayT K (upd H l u) v ns := let ⟨p, e, q⟩ := h; ⟨p, e, sqT_updL hl q⟩
def spWA (K : PySem.W.Frag) (n : Nat) : Sp := fun vs H Q _ => ∃ (p : Addr) (xs : List V) (ds : List D) (s b : Nat), vs = [.ref p, .int (s : Nat), .int (b : Nat)] ∧ SqT K H p xs ∧ DpAll K H xs ds ∧ Fits n ds ∧ (∀ d ∈ flat ds, BrOk d) ∧ (flat ds).length ≤ 900 ∧
  ∀ H' l ys, Same H H' → H l = none → H' l = some (.lst ys) → All2 (WayT K H') ys (wa ds s b) → Q (.ref l) H'
def spWO (K : PySem.W.Frag) (n : Nat) : Sp := fun vs H Q _ => ∃ (v : V) (d : D) (s f : Nat), vs = [v, .int (s : Nat), .int (f : Nat)] ∧ Dp K H v d ∧ FitD n d ∧ BrOk d ∧ (∀ e ∈ flatk d, BrOk e) ∧ (flatk d).length < 900 ∧
  ∀ H' l ys, Same H H' → H l = none → H' l = some (.lst ys) → All2 (WayT K H') ys (wo d s f) → Q (.ref l) H'
theorem fit_one {n : Nat} {d : D} (h : FitD n d) : Fits n [d] := ⟨by rw [goodAll, goodAll, h.good]; rfl, by rw [PyData.depthAll, PyData.depthAll]; have := h.dep; omega, by rw [cntAll, cntAll]; exact h.cnt⟩
theorem cons_mem_app {α : Type} {e d : α} {as bs : List α} (h : e ∈ d :: as) : e ∈ d :: (as ++ bs) := by
  rcases List.mem_cons.mp h with rfl | h
  · exact List.mem_cons_self
  · exact List.mem_cons_of_mem _ (List.mem_append_left _ h)
section
variable {P : Program} {w : World} {K : PySem.W.Frag} {mg : Str → Option Value} {base : Heap}
abbrev sWA : Stmt := top 35
theorem scWA : FnScope ["items", "start", "behind", "found", "at", "item", "place", "follows"] ["items", "start", "behind"] (defScope sWA) := ⟨rfl, rfl, rfl, by decide +kernel, rfl, by decide +kernel, by decide +kernel⟩
theorem ok_wa {f fF fO : Addr} {fd fdF fdO : FuncData} (F : Fun K "ways_along" "ways_along" sWA f fd) (TF : Called K mg "flat" ["items"] fF fdF) (TO : Called K mg "ways_of" ["item", "place", "follows"] fO fdO) (n : Nat)
    (GF : FnOk P w K mg base CX0 (n + 2) fF fdF ["items"] (spFlat K n)) (GO : FnOk P w K mg base CX0 (2 * n + 3) fO fdO ["item", "place", "follows"] (spWO K n)) (m_enumerate : mg "enumerate" = none) (m_len : mg "len" = none) : FnOk P w K mg base CX0 (2 * n + 4) f fd ["items", "start", "behind"] (spWA K n) := by
  refine F.ok scWA (fun vs H Q E h => ?_) (fun cdv A outer s H vs Q E hr h => ?_)
  · obtain ⟨p, xs, ds, s, b, rfl, _⟩ := h
    rfl
  · obtain ⟨p, xs, ds, s, b, rfl, hp, ha, ft, br, hz, q⟩ := h
    refine ⟨_, (pss_cons (ps_set (i := 3) scWA.nd rfl (.inl rfl) (pe_lst pa_nil))
       (pss_cons (ps_for PassesOwn.never rfl (pi_enumT rfl m_enumerate (pa_cons (pv 0) pa_nil)) (pg_tup rfl (pgs_cons (pg_name (i := 4) scWA.nd rfl (.inl rfl)) (pgs_cons (pg_name (i := 5) scWA.nd rfl (.inl rfl)) pgs_nil)))
       (pss_cons (ps_set (i := 6) scWA.nd rfl (.inl rfl) (pe_op op_add (pv 1) (pe_callB (call_len_K (K := K) rfl) (by rfl) m_len PySem.boot_len (pa_cons (pv 3) pa_nil))))
       (pss_cons (ps_set (i := 7) scWA.nd rfl (.inl rfl) (pe_ifExp (pt_cmpR op_eq (pe_op op_add (pv 4) pe_int) (pe_callB (call_len_K (K := K) rfl) (by rfl) m_len PySem.boot_len (pa_cons (pv 0) pa_nil)) (nomark _))
       (pv 2)
       (pe_op op_add (pv 6) (pe_callB (call_len_K (K := K) rfl) (by rfl) m_len PySem.boot_len (pa_cons (pe_call GF (hr.mono (by first | decide | omega)) rfl TF.1 TF.2.1 TF.2.2 .nil pass0 (pa_cons (pe_tup (pa_cons (pv 5) pa_nil)) pa_nil)) pa_nil)))))
       (pss_one (ps_expr (pe_bm PySem.F.plainAttrs_list PySem.F.slot_list_extend PySem.F.type_list_extend mt_extend (pv 3) (pa_cons (pe_call GO (hr.mono (by first | decide | omega)) rfl TO.1 TO.2.1 TO.2.2 .nil pass0 (pa_cons (pv 5) (pa_cons (pv 6) (pa_cons (pv 7) pa_nil)))) pa_nil)))))))
       (pss_one (ps_ret (pv 3))))), ?_⟩
    have len := dpl ha
    have tot := wa_len ds s b
    have small : ∀ as bs : List (List Nat), as ++ bs = wa ds s b → as.length ≤ 900 := fun as bs e => by
      have z := congrArg List.length e
      rw [List.length_append] at z
      omega
    refine ⟨Nat.zero_le _, fun l nl => ?_⟩
    have s1 : Same H (upd H l (.lst [])) := same_upd nl
    refine ⟨_, rfl, p, _, rfl, s1.tupS hp, for_enumT (K := K) (a := p) (xs := xs)
      (fun i σ H' => ∃ (ys : List V) (done : List (List Nat)) (v4 v5 v6 v7 : Option V), σ = [some (.ref p), some (.int (s : Nat)), some (.int (b : Nat)), some (.ref l), v4, v5, v6, v7] ∧ Same H H' ∧ H' l = some (.lst ys) ∧ All2 (WayT K H') ys done ∧
        done ++ wa (ds.drop i) (s + done.length) b = wa ds s b)
      ⟨[], [], none, none, none, none, rfl, s1, upd_same, .nil, rfl⟩ ?_ ?_ ?_⟩
    · rintro i σ H' hi ⟨_, _, v4, v5, v6, v7, rfl, sm, _⟩
      exact sm.tupS hp
    · rintro i x σ H1 T1 hxi ⟨ys, done, v4, v5, v6, v7, rfl, sm, ho, hy, e⟩ nT
      obtain ⟨d, hd, hx⟩ := dp_get ha hxi
      have mem : d ∈ ds := List.mem_of_getElem? hd
      have hi : i < ds.length := (List.getElem?_eq_some_iff.mp hd).1
      rw [drop_cons hd, wa] at e
      have fl : flat ds = flat (ds.take i) ++ (d :: (flatk d ++ flat (ds.drop (i + 1)))) := by
        have z := flat_app (ds.take i) (ds.drop i)
        rw [List.take_append_drop, drop_cons hd, flat] at z
        exact z
      have brd : BrOk d := br d (by rw [fl]; simp)
      have lf : (flatk d).length < 900 := by
        have z := congrArg List.length fl
        simp only [List.length_append, List.length_cons] at z
        omega
      have yl := hy.length
      have u0 := same_upd (o := .tup [.int (i : Nat), x]) nT
      have sm0 := sm.trans u0
      refine ⟨T1, _, rfl, SqT.of upd_same, rfl, _, _, rfl, _, _, rfl, rfl, ?_⟩
      refine ⟨_, rfl, _, rfl, l, _, rfl, .inl (SqL.of (u0 _ _ ho)), _, _, rfl, rfl, ?_⟩
      have ep : ((s : Nat) : Int) + ((ys.length : Nat) : Int) = ((s + done.length : Nat) : Int) := by omega
      refine name_in ?_
      dsimp only
      rw [ep]
      have lw := wo_len d (s + done.length) (if (ds.drop (i + 1)).isEmpty then b else s + done.length + (flat [d]).length)
      refine seqS_in (asg_via (fun v H2 => v = .int (((if (ds.drop (i + 1)).isEmpty then b else s + done.length + (flat [d]).length) : Nat) : Int) ∧ Same (upd H1 T1 (.tup [.int (i : Nat), x])) H2) (fun Qx hQ => ?_) (fun v H2 ⟨ev, s3⟩ => ?_))
      · refine ⟨_, rfl, _, _, rfl, rfl, _, rfl, p, _, rfl, .inr (sm0.tupS hp), rfl, _, rfl, ?_⟩
        rw [len]
        by_cases hlast : i + 1 = ds.length
        · rw [decide_eq_true (by rw [← hlast]; rfl)]
          refine iteT ⟨_, rfl, hQ _ _ ⟨?_, Same.refl _⟩⟩
          rw [if_pos (by rw [List.isEmpty_iff, hlast, List.drop_length])]
        · rw [decide_eq_false (fun e => hlast (by have := V.int.inj e; omega))]
          refine iteF ?_
          refine ⟨_, rfl, _, rfl, by show 1 ≤ sizeLine; decide, fun y ny => ?_⟩
          have s4 := same_upd (o := HO.tup [x]) ny
          refine ⟨H, y, [x], [d], rfl, sm0.trans s4, SqT.of upd_same, .cons hx .nil, fit_one (ft.mem mem), fun e he => br e (by rw [fl]; exact List.mem_append_right _ (by rw [flat_one] at he; exact cons_mem_app he)), fun H5 l5 ys5 s5 n5 h5 hy5 => ?_⟩
          have ly5 := dpl hy5
          refine ⟨l5, _, rfl, .inl (SqL.of h5), _, _, rfl, rfl, hQ _ _ ⟨?_, s4.trans s5⟩⟩
          rw [if_neg (by rw [List.isEmpty_iff, List.drop_eq_nil_iff]; omega), ly5]
          congr 1
      · subst ev
        refine name_in ?_
        have s13 := sm0.trans s3
        refine ⟨_, rfl, .inl ⟨rfl, _, SqL.of (s3 _ _ (u0 _ _ ho))⟩, _, rfl, _, rfl, _, rfl, x, d, s + done.length, _, rfl, hx.same s13, ft.mem mem, brd, fun e he => br e (by rw [fl]; exact List.mem_append_right _ (List.mem_cons_of_mem _ (List.mem_append_left _ he))), lf, fun H5 l5 ws s5 n5 h5 hw => ?_⟩
        have s135 := u0.trans (s3.trans s5)
        have wl5 := hw.length
        have d9 := small (done ++ wo d (s + done.length) (if (ds.drop (i + 1)).isEmpty then b else s + done.length + (flat [d]).length)) _ (by rw [List.append_assoc]; exact e)
        rw [List.length_append] at d9
        refine ⟨l, l5, _, _, rfl, rfl, s135 _ _ ho, h5, by rw [sizeLine_eq]; omega, ?_⟩
        refine ⟨ys ++ ws, done ++ wo d (s + done.length) (if (ds.drop (i + 1)).isEmpty then b else s + done.length + (flat [d]).length), _, _, _, _, rfl, same_updN nl (sm.trans s135), upd_same, ?_, ?_⟩
        · exact ((hy.mono fun _ _ z => (z.same s135).updL (s135 _ _ ho)).append (hw.mono fun _ _ z => z.updL (s135 _ _ ho)))
        · rw [List.append_assoc, List.length_append, lw, ← Nat.add_assoc]
          exact e
    · rintro σ H1 ⟨ys, done, v4, v5, v6, v7, rfl, sm, ho, hy, e⟩
      rw [len, List.drop_length, wa, List.append_nil] at e
      rw [e] at hy
      exact ⟨_, rfl, q H1 l ys sm nl ho hy⟩
abbrev sWO : Stmt := top 36
theorem scWO : FnScope ["item", "place", "follows", "inner", "first", "second", "middle", "own"] ["item", "place", "follows"] (defScope sWO) := ⟨rfl, rfl, rfl, by decide +kernel, rfl, by decide +kernel, by decide +kernel⟩
theorem ok_wo {f fF fB fA : Addr} {fd fdF fdB fdA : FuncData} (F : Fun K "ways_of" "ways_of" sWO f fd) (TF : Called K mg "flat" ["items"] fF fdF) (TB : Called K mg "branches" ["item"] fB fdB) (TA : Called K mg "ways_along" ["items", "start", "behind"] fA fdA) (n : Nat)
    (GF : FnOk P w K mg base CX0 (n + 2) fF fdF ["items"] (spFlat K n)) (GB : FnOk P w K mg base CX0 1 fB fdB ["item"] (spBr K)) (GA : FnOk P w K mg base CX0 (2 * n + 4) fA fdA ["items", "start", "behind"] (spWA K n)) (m_len : mg "len" = none) : FnOk P w K mg base CX0 (2 * n + 5) f fd ["item", "place", "follows"] (spWO K (n + 1)) := by
  refine F.ok scWO (fun vs H Q E h => ?_) (fun cdv A outer s H vs Q E hr h => ?_)
  · obtain ⟨v, d, s, b, rfl, _⟩ := h
    rfl
  · obtain ⟨v, d, s, b, rfl, hd, ft, brd, brk, hz, q⟩ := h
    refine ⟨_, (pss_cons (ps_set (i := 3) scWO.nd rfl (.inl rfl) (pe_call GB (hr.mono (by first | decide | omega)) rfl TB.1 TB.2.1 TB.2.2 .nil pass0 (pa_cons (pv 0) pa_nil)))
       (pss_cons (ps_if (pt_cmpR op_eq (pe_callB (call_len_K (K := K) rfl) (by rfl) m_len PySem.boot_len (pa_cons (pv 3) pa_nil)) pe_int (nomark _))
       (pss_one (ps_ret (pe_lst (pa_cons (pe_tup (pa_cons (pv 2) pa_nil)) pa_nil))))
       pss_nil)
       (pss_cons (ps_asg (pv 3) (pg_tup rfl (pgs_cons (pg_name (i := 4) scWO.nd rfl (.inl rfl)) (pgs_cons (pg_name (i := 5) scWO.nd rfl (.inl rfl)) pgs_nil))))
       (pss_cons (ps_set (i := 6) scWO.nd rfl (.inl rfl) (pe_op op_add (pe_op op_add (pv 1) pe_int) (pe_callB (call_len_K (K := K) rfl) (by rfl) m_len PySem.boot_len (pa_cons (pe_call GF (hr.mono (by first | decide | omega)) rfl TF.1 TF.2.1 TF.2.2 .nil pass0 (pa_cons (pv 4) pa_nil)) pa_nil))))
       (pss_cons (ps_set (i := 7) scWO.nd rfl (.inl rfl) (pe_tup (pa_cons (pe_ifExp (pt_cmpR op_gt (pe_callB (call_len_K (K := K) rfl) (by rfl) m_len PySem.boot_len (pa_cons (pv 4) pa_nil)) pe_int (nomark _))
       (pe_op op_add (pv 1) pe_int)
       (pv 2)) (pa_cons (pe_ifExp (pt_cmpR op_gt (pe_callB (call_len_K (K := K) rfl) (by rfl) m_len PySem.boot_len (pa_cons (pv 5) pa_nil)) pe_int (nomark _))
       (pv 6)
       (pv 2)) pa_nil))))
       (pss_one (ps_ret (pe_op op_cat (pe_op op_cat (pe_lst (pa_cons (pv 7) pa_nil)) (pe_call GA (hr.mono (by first | decide | omega)) rfl TA.1 TA.2.1 TA.2.2 .nil pass0 (pa_cons (pv 4) (pa_cons (pe_op op_add (pv 1) pe_int) (pa_cons (pv 2) pa_nil))))) (pe_call GA (hr.mono (by first | decide | omega)) rfl TA.1 TA.2.1 TA.2.2 .nil pass0 (pa_cons (pv 5) (pa_cons (pv 6) (pa_cons (pv 2) pa_nil)))))))))))), ?_⟩
    refine ⟨_, rfl, H, v, d, rfl, Same.refl H, hd, brd, fun H1 t ks s1 ht hk => ?_⟩
    have lk := dpl hk
    rw [List.length_map] at lk
    refine ⟨_, rfl, t, _, rfl, .inr ht, rfl, _, rfl, ?_⟩
    rw [lk, int_dec 0 0 rfl]
    cases hf : forkOf d with
    | none =>
      have ek : kids d = [] := by unfold kids; rw [hf]
      rw [ek]
      rw [(fork2_none hf).2.2] at q
      refine iteT ?_
      refine ⟨_, rfl, by show 1 ≤ sizeLine; decide, fun y ny => ⟨by show 1 ≤ sizeLine; decide, fun l nl => ?_⟩⟩
      have s2 := same_upd (o := HO.tup [V.int (b : Nat)]) ny
      have s3 := same_upd (o := HO.lst [V.ref y]) nl
      have s12 := s1.trans s2
      exact q _ l _ (s12.trans s3) (s12.free nl) upd_same (.cons ⟨y, rfl, SqT.of (s3 _ _ upd_same)⟩ .nil)
    | some xy =>
      obtain ⟨x, y⟩ := xy
      have ek : kids d = [x, y] := by unfold kids; rw [hf]
      rw [ek] at hk ⊢
      rw [(fork2_some hf).2.2] at q
      have mx : x ∈ kids d := by rw [ek]; exact List.mem_cons_self
      have my : y ∈ kids d := by rw [ek]; exact List.mem_cons_of_mem _ List.mem_cons_self
      have bk : ∀ z ∈ kids d, ∀ e ∈ flat z, BrOk e := fun z hz e he => brk e ((kid_flat hz).2 e he)
      have lx := (kid_flat mx).1
      have ly := (kid_flat my).1
      cases hk with
      | @cons k1 ks _ _ h1 hk =>
      cases hk with
      | @cons k2 ks _ _ h2 hk =>
      cases hk
      cases h1 with
      | @tup p1 xs1 _ hp1 ha1 =>
      cases h2 with
      | @tup p2 xs2 _ hp2 ha2 =>
      have l1 := dpl ha1
      have l2 := dpl ha2
      refine iteF ?_
      refine ⟨_, rfl, t, _, rfl, ht, rfl, _, _, rfl, _, _, rfl, rfl, ?_⟩
      refine ⟨_, rfl, _, _, rfl, rfl, ?_⟩
      refine ⟨_, rfl, H, p1, xs1, x, rfl, s1, s1.tupS hp1, ha1, kid_fit ft mx, bk x mx, fun H2 l2' ys2 s2 n2 h2' hy2 => ?_⟩
      have ly2 := dpl hy2
      refine ⟨l2', _, rfl, .inl (SqL.of h2'), _, _, rfl, rfl, ?_⟩
      refine name_in ?_
      dsimp only
      have em : ((s : Nat) : Int) + 1 + ((ys2.length : Nat) : Int) = ((s + 1 + (flat x).length : Nat) : Int) := by omega
      have s12 := s1.trans s2
      rw [em]
      have gt : ∀ k : Nat, decide ((0 : Int) < (k : Nat)) = decide (0 < k) := fun k => by
        by_cases h : 0 < k
        · rw [decide_eq_true h, decide_eq_true (by omega)]
        · rw [decide_eq_false h, decide_eq_false (by omega)]
      have emp : ∀ z : List D, z.isEmpty = !decide (0 < z.length) := fun z => by cases z <;> simp
      rw [emp x, emp y] at q
      refine seqS_in (asg_via (fun v H3 => Same H2 H3 ∧ WayT K H3 v [if (!decide (0 < x.length)) = true then b else s + 1, if (!decide (0 < y.length)) = true then b else s + 1 + (flat x).length]) (fun Qx hQ => ?_) (fun v H3 ⟨s3, hw⟩ => ?_))
      · refine ⟨_, rfl, p1, _, rfl, .inr (s12.tupS hp1), _, _, rfl, rfl, _, rfl, ?_⟩
        rw [l1, gt]
        have s2' := s1.trans s2
        have fin : ∀ (a1 a2 : Nat), a1 = (if (!decide (0 < x.length)) = true then b else s + 1) → a2 = (if (!decide (0 < y.length)) = true then b else s + 1 + (flat x).length) → ∀ o, H2 o = none → Qx (.ref o) (upd H2 o (.tup [.int (a1 : Nat), .int (a2 : Nat)])) := fun a1 a2 e1 e2 o no => hQ _ _ ⟨same_upd no, o, rfl, by rw [← e1, ← e2]; exact SqT.of upd_same⟩
        cases hx0 : decide (0 < x.length) with
        | false =>
          rw [hx0] at fin
          refine iteF ⟨_, rfl, ?_⟩
          refine ⟨_, rfl, p2, _, rfl, .inr (s12.tupS hp2), _, _, rfl, rfl, _, rfl, ?_⟩
          rw [l2, gt]
          cases hy0 : decide (0 < y.length) with
          | false =>
            rw [hy0] at fin
            exact iteF ⟨_, rfl, by show 2 ≤ sizeLine; decide, fin b b rfl rfl⟩
          | true =>
            rw [hy0] at fin
            exact iteT ⟨_, rfl, by show 2 ≤ sizeLine; decide, fin b (s + 1 + (flat x).length) rfl rfl⟩
        | true =>
          rw [hx0] at fin
          refine iteT ⟨_, rfl, _, _, rfl, rfl, ?_⟩
          refine ⟨_, rfl, p2, _, rfl, .inr (s12.tupS hp2), _, _, rfl, rfl, _, rfl, ?_⟩
          rw [l2, gt]
          cases hy0 : decide (0 < y.length) with
          | false =>
            rw [hy0] at fin
            exact iteF ⟨_, rfl, by show 2 ≤ sizeLine; decide, fin (s + 1) b rfl rfl⟩
          | true =>
            rw [hy0] at fin
            exact iteT ⟨_, rfl, by show 2 ≤ sizeLine; decide, fin (s + 1) (s + 1 + (flat x).length) rfl rfl⟩
      · refine name_in ?_
        have s123 := s12.trans s3
        refine ⟨_, rfl, by show 1 ≤ sizeLine; decide, fun l4 n4 => ?_⟩
        have s4 := same_upd (o := HO.lst [v]) n4
        have e4 : (upd H3 l4 (.lst [v])) l4 = some (.lst [v]) := upd_same
        have hw4 := hw.same s4
        generalize upd H3 l4 (.lst [v]) = H4 at s4 e4 hw4
        have s14 := s123.trans s4
        refine ⟨_, rfl, _, rfl, _, _, rfl, rfl, _, rfl, p1, xs1, x, s + 1, b, rfl, s14.tupS hp1, ha1.same s14, kid_fit ft mx, bk x mx, by omega, fun H5 l5 ys5 s5 n5 h5 hy5 => ?_⟩
        have w5 := hy5.length
        rw [wa_len] at w5
        refine ⟨l4, l5, _, _, rfl, rfl, s5 _ _ e4, h5, by rw [sizeLine_eq, w5]; show 1 + _ ≤ _; omega, fun l6 n6 => ?_⟩
        have s6 := same_upd (o := HO.lst ([v] ++ ys5)) n6
        have e6 : (upd H5 l6 (.lst ([v] ++ ys5))) l6 = some (.lst ([v] ++ ys5)) := upd_same
        generalize upd H5 l6 (.lst ([v] ++ ys5)) = H6 at s6 e6
        have s16 := s14.trans (s5.trans s6)
        refine ⟨_, rfl, _, rfl, _, rfl, p2, xs2, y, s + 1 + (flat x).length, b, rfl, s16.tupS hp2, ha2.same s16, kid_fit ft my, bk y my, by omega, fun H7 l7 ys7 s7 n7 h7 hy7 => ?_⟩
        have w7 := hy7.length
        rw [wa_len] at w7
        refine ⟨l6, l7, _, _, rfl, rfl, s7 _ _ e6, h7, ?_, fun l8 n8 => ?_⟩
        · rw [sizeLine_eq, List.length_append, w5, w7]
          show 1 + _ + _ ≤ _
          omega
        have s8 := same_upd (o := HO.lst ([v] ++ ys5 ++ ys7)) n8
        have s17 := s16.trans s7
        refine q _ l8 _ (s17.trans s8) (s17.free n8) upd_same ?_
        exact ((All2.cons (hw4.same ((s5.trans s6).trans (s7.trans s8))) .nil).append (hy5.mono fun _ _ z => z.same (s6.trans (s7.trans s8)))).append (hy7.mono fun _ _ z => z.same s8)
end
end Tr

/-! P8 -/
/-! ### the heap without the pool; things written out -/
namespace Tr
open PySem PySem.Spec PyProof.Rows L2 Rw
/-- the heap without o -/
def wh (o : Addr) (H : Hp) : Hp := fun a => if a = o then none else H a
theorem wh_sub {o : Addr} {H : Hp} : Same (wh o H) H := fun a x h => by
  unfold wh at h
  split at h
  · cases h
  · exact h
theorem wh_same {o : Addr} {H H' : Hp} (s : Same H H') : Same (wh o H) (wh o H') := fun a x h => by
  unfold wh at h ⊢
  split at h
  · cases h
  · next e => rw [if_neg e]; exact s a x h
theorem wh_but {o : Addr} {H H' : Hp} (b : SameBut o H H') : Same (wh o H) (wh o H') := fun a x h => by
  unfold wh at h ⊢
  split at h
  · cases h
  · next e => rw [if_neg e]; exact b a x e h
theorem wh_at {o l : Addr} {H : Hp} {x : HO} (n : l ≠ o) (h : H l = some x) : wh o H l = some x := by
  unfold wh
  rw [if_neg n]
  exact h
theorem wh_ne {o l : Addr} {H : Hp} {x : HO} (h : wh o H l = some x) : l ≠ o := fun e => by
  unfold wh at h
  rw [if_pos e] at h
  cases h
theorem pool_ne {o q l : Addr} {H : Hp} (p : PoolAt H o q) (nl : H l = none) : l ≠ o := by
  obtain ⟨a, ns, h1, _⟩ := p
  intro e
  rw [e, h1] at nl
  cases nl
theorem wh_new {o q l : Addr} {H : Hp} {x : HO} (p : PoolAt H o q) (nl : H l = none) : wh o (upd H l x) l = some x := wh_at (pool_ne p nl) upd_same
theorem wh_upd {o l : Addr} {H : Hp} {x : HO} (nl : H l = none) : Same (wh o H) (wh o (upd H l x)) := wh_same (same_upd nl)
theorem pool_upd {o q l : Addr} {H : Hp} {x : HO} (p : PoolAt H o q) (nl : H l = none) : PoolAt (upd H l x) o q := p.same (same_upd nl)
/-! a thing written out -/
section
variable {X : Cx} {e : Expr} {es : List Expr} {pos : Pos} {J : L2.St → Hp → Prop} {K : PySem.W.Frag} {d : D} {ds : List D}
def tLit (J : L2.St → Hp → Prop) (K : PySem.W.Frag) (d : D) : TE := fun σ H Q => J σ H ∧ ∀ H' v, Same H H' → Dp K H' v d → Q v H'
def tLits (J : L2.St → Hp → Prop) (K : PySem.W.Frag) (ds : List D) : TA := fun σ H Q => J σ H ∧ ∀ H' vs, Same H H' → DpAll K H' vs ds → Q vs H'
def tLitL (J : L2.St → Hp → Prop) (K : PySem.W.Frag) (ds : List D) : TE := fun σ H Q => J σ H ∧ ∀ H' l vs, Same H H' → H l = none → H' l = some (.lst vs) → DpAll K H' vs ds → Q (.ref l) H'
structure Stay (J : L2.St → Hp → Prop) : Prop where
  up : ∀ σ H H', J σ H → Same H H' → J σ H'
theorem pe_way {t t' : TE} (h : PE X e t) (m : ∀ σ H Q, t' σ H Q → t σ H Q) : PE X e t' := ⟨fun pins s σ H Q I q => h.run pins s σ H Q I (m σ H Q q)⟩
theorem pa_way {t t' : TA} (h : PA X es t) (m : ∀ σ H Q, t' σ H Q → t σ H Q) : PA X es t' := ⟨fun pos pins s σ H Q I q => h.run pos pins s σ H Q I (m σ H Q q)⟩
theorem pl_int {i : Int} {j pos} : PE X (.Constant (.int i) j pos) (tLit J K (.int i)) := pe_way pe_int fun σ H Q h => h.2 H _ (Same.refl H) (.int i)
theorem pl_bl {b : Bool} {j pos} : PE X (.Constant (.bool b) j pos) (tLit J K (.bool b)) := pe_way pe_bl fun σ H Q h => h.2 H _ (Same.refl H) (.bl b)
theorem pl_non {j pos} : PE X (.Constant .none j pos) (tLit J K .none) := pe_way pe_non fun σ H Q h => h.2 H _ (Same.refl H) .non
theorem pl_str {x : Str} {j pos} : PE X (.Constant (.str x) j pos) (tLit J K (.str x)) := pe_way pe_str fun σ H Q h => h.2 H _ (Same.refl H) (.str x)
theorem pl_nil : PA X [] (tLits J K []) := pa_way pa_nil fun σ H Q h => h.2 H [] (Same.refl H) .nil
theorem pl_cons (S : Stay J) (ha : PE X e (tLit J K d)) (hr : PA X es (tLits J K ds)) (hs : starEach (e :: es) X.env = (false, eval e X.env) :: starEach es X.env := by rfl) : PA X (e :: es) (tLits J K (d :: ds)) :=
  pa_way (pa_cons ha hr hs) fun σ H Q h => ⟨h.1, fun H1 v s1 h1 => ⟨S.up _ _ _ h.1 s1, fun H2 vs s2 h2 => h.2 H2 (v :: vs) (s1.trans s2) (.cons (h1.same s2) h2)⟩⟩
theorem pl_tup {x1} (h : PA X es (tLits J K ds)) (z : ds.length ≤ 1000 := by decide) : PE X (.Tuple es x1 pos) (tLit J K (.tuple ds)) :=
  pe_way (pe_tup h) fun σ H Q q => ⟨q.1, fun H1 vs s1 h1 => ⟨by rw [dpl h1, sizeLine_eq]; omega, fun p np => q.2 _ _ (s1.trans (same_upd np)) (.tup (SqT.of upd_same) (h1.same (same_upd np)))⟩⟩
theorem pl_lst (h : PA X es (tLits J K ds)) (z : ds.length ≤ 1000 := by decide) : PE X (.List es pos) (tLit J K (.list ds)) :=
  pe_way (pe_lst h) fun σ H Q q => ⟨q.1, fun H1 vs s1 h1 => ⟨by rw [dpl h1, sizeLine_eq]; omega, fun p np => q.2 _ _ (s1.trans (same_upd np)) (.lst (SqL.of upd_same) (h1.same (same_upd np)))⟩⟩
theorem pl_list (h : PA X es (tLits J K ds)) (z : ds.length ≤ 1000 := by decide) : PE X (.List es pos) (tLitL J K ds) :=
  pe_way (pe_lst h) fun σ H Q q => ⟨q.1, fun H1 vs s1 h1 => ⟨by rw [dpl h1, sizeLine_eq]; omega, fun p np => q.2 _ p vs (s1.trans (same_upd np)) (s1.free np) upd_same (h1.same (same_upd np))⟩⟩
end
end Tr

/-! P9 -/
/-! ### the law's tuples, size -/
namespace Tr
open PySem PySem.Spec PyProof.Rows L2 Rw
def spTu (K : PySem.W.Frag) : Sp := fun vs H Q _ => ∃ (H0 : Hp) (v : V) (d : D), vs = [v] ∧ Same H0 H ∧ Dp K H0 v d ∧ BrOk d ∧ ∀ H' l ys, Same H H' → H l = none → H' l = some (.lst ys) → DpAll K H0 ys ((kids d).map PyData.tuple) → Q (.ref l) H'
def spSz (K : PySem.W.Frag) (n : Nat) : Sp := fun vs H Q _ => ∃ (H0 : Hp) (p : Addr) (xs : List V) (ds : List D), vs = [.ref p] ∧ Same H0 H ∧ SqT K H p xs ∧ DpAll K H0 xs ds ∧ Fits n ds ∧ (∀ d ∈ flat ds, BrOk d) ∧ ∀ H', Same H H' → Q (.int ((flat ds).length : Nat)) H'
def spSzL (K : PySem.W.Frag) (n : Nat) : Sp := fun vs H Q _ => ∃ (H0 : Hp) (p : Addr) (xs : List V) (ds : List D), vs = [.ref p] ∧ Same H0 H ∧ SqL K H p xs ∧ DpAll K H0 xs ds ∧ Fits n ds ∧ (∀ d ∈ flat ds, BrOk d) ∧ ∀ H', Same H H' → Q (.int ((flat ds).length : Nat)) H'
section
variable {P : Program} {w : World} {K : PySem.W.Frag} {mg : Str → Option Value} {base : Heap}
abbrev sTu : Stmt := top 53
theorem scTu : FnScope ["_law_item"] ["_law_item"] (defScope sTu) := ⟨rfl, rfl, rfl, by decide +kernel, rfl, by decide +kernel, by decide +kernel⟩
theorem ok_tu {f : Addr} {fd : FuncData} (F : Fun K "_law_tuples" "_law_tuples" sTu f fd) : FnOk P w K mg base CX0 1 f fd ["_law_item"] (spTu K) := by
  refine F.ok scTu (fun vs H Q E h => ?_) (fun cdv A outer s H vs Q E hr h => ?_)
  · obtain ⟨H0, v, d, rfl, _⟩ := h
    rfl
  · obtain ⟨H0, v, d, rfl, s0, hd, ⟨wd, r, rfl, b1, b2, b3⟩, q⟩ := h
    refine ⟨_, (pss_cons (ps_if (pt_cmpR op_eq (pe_ix (ix_tupK (K := K) rfl) (pv 0) pe_int (fun _ _ => rfl)) pe_str (nomark _))
       (pss_one (ps_ret (pe_lst (pa_cons (pe_ix (ix_tupK (K := K) rfl) (pv 0) pe_int (fun _ _ => rfl)) (pa_cons (pe_ix (ix_tupK (K := K) rfl) (pv 0) pe_int (fun _ _ => rfl)) pa_nil)))))
       pss_nil)
       (pss_one (ps_ret (pe_ifExp (pt_cmpR op_eq (pe_ix (ix_tupK (K := K) rfl) (pv 0) pe_int (fun _ _ => rfl)) pe_str (nomark _))
       (pe_lst (pa_cons (pe_ix (ix_tupK (K := K) rfl) (pv 0) pe_int (fun _ _ => rfl)) (pa_cons (pe_ix (ix_tupK (K := K) rfl) (pv 0) pe_int (fun _ _ => rfl)) pa_nil)))
       (pe_lst pa_nil))))), ?_⟩
    cases hd with
    | @tup p xs _ hp ha =>
      cases ha with
      | @cons x0 xs _ _ h0 ha =>
        cases h0
        have hp1 := s0.tupS hp
        refine ⟨_, rfl, p, _, _, _, rfl, rfl, hp1, at0, rfl, _, rfl, ?_⟩
        rw [Rw.dec_str]
        by_cases e1 : wd = "test"
        · rw [decide_eq_true e1]
          subst e1
          obtain ⟨n, x, y, rfl⟩ := b1 rfl
          cases ha with
          | cons hn ha =>
          cases ha with
          | cons hx ha =>
          cases ha with
          | cons hy ha =>
          cases ha
          refine iteT ?_
          refine ⟨_, rfl, p, _, _, _, rfl, rfl, hp1, at2, _, rfl, p, _, _, _, rfl, rfl, hp1, at3, by show 2 ≤ sizeLine; decide, fun l nl => ?_⟩
          exact q _ l _ (same_upd nl) nl upd_same (by rw [kids_test]; exact .cons hx (.cons hy .nil))
        · rw [decide_eq_false e1]
          refine iteF ?_
          refine ⟨_, rfl, p, _, _, _, rfl, rfl, hp1, at0, rfl, _, rfl, ?_⟩
          rw [Rw.dec_str]
          by_cases e2 : wd = "choose"
          · rw [decide_eq_true e2]
            subst e2
            obtain ⟨x, y, rfl⟩ := b2 rfl
            cases ha with
            | cons hx ha =>
            cases ha with
            | cons hy ha =>
            cases ha
            refine iteT ?_
            refine ⟨_, rfl, p, _, _, _, rfl, rfl, hp1, at1, _, rfl, p, _, _, _, rfl, rfl, hp1, at2, by show 2 ≤ sizeLine; decide, fun l nl => ?_⟩
            exact q _ l _ (same_upd nl) nl upd_same (by rw [kids_choose]; exact .cons hx (.cons hy .nil))
          · rw [decide_eq_false e2]
            refine iteF ?_
            refine ⟨Nat.zero_le _, fun l nl => q _ l [] (same_upd nl) nl upd_same ?_⟩
            rw [kids_none e1 e2]
            exact .nil
abbrev sSz : Stmt := top 54
theorem scSz : FnScope ["_law_items", "_law_total", "_law_item", "_law_some"] ["_law_items"] (defScope sSz) := ⟨rfl, rfl, rfl, by decide +kernel, rfl, by decide +kernel, by decide +kernel⟩
theorem sum_len : ∀ (dss : List (List D)), (dss.map fun x => (((flat x).length : Nat) : Int)).sum = (((dss.flatMap flat).length : Nat) : Int)
  | [] => rfl
  | d :: dss => by
    rw [List.map_cons, List.sum_cons, sum_len dss, List.flatMap_cons, List.length_append]
    omega
/-- what stands in the loop's turn, for both ways to walk -/
theorem ok_sz {f fT : Addr} {fd fdT : FuncData} (F : Fun K "_law_size" "_law_size" sSz f fd) (TZ : Called K mg "_law_size" ["_law_items"] f fd) (GT : FnOk P w K mg base CX0 1 fT fdT ["_law_item"] (spTu K)) (TT : Called K mg "_law_tuples" ["_law_item"] fT fdT) (m_sum : mg "sum" = none) : ∀ n, FnOk P w K mg base CX0 (n + 2) f fd ["_law_items"] (spSz K n) ∧ FnOk P w K mg base CX0 (n + 2) f fd ["_law_items"] (spSzL K n) := by
  intro n
  induction n with
  | zero =>
    constructor
    · refine F.ok scSz (fun vs H Q E h => ?_) (fun cdv A outer s H vs Q E hr h => ?_)
      · obtain ⟨H0, p, xs, ds, rfl, _⟩ := h
        rfl
      · obtain ⟨H0, p, xs, ds, rfl, _, _, _, ft, _⟩ := h
        exact absurd ft.dep (Nat.not_lt_zero _)
    · refine F.ok scSz (fun vs H Q E h => ?_) (fun cdv A outer s H vs Q E hr h => ?_)
      · obtain ⟨H0, p, xs, ds, rfl, _⟩ := h
        rfl
      · obtain ⟨H0, p, xs, ds, rfl, _, _, _, ft, _⟩ := h
        exact absurd ft.dep (Nat.not_lt_zero _)
  | succ n ih =>
    have GZ := ih.1
    constructor
    · refine F.ok scSz (fun vs H Q E h => ?_) (fun cdv A outer s H vs Q E hr h => ?_)
      · obtain ⟨H0, p, xs, ds, rfl, _⟩ := h
        rfl
      · obtain ⟨H0, p, xs, ds, rfl, s0, hp, ha, ft, br, q⟩ := h
        refine ⟨_, (pss_cons (ps_set (i := 1) scSz.nd rfl (.inl rfl) pe_int)
       (pss_cons (ps_for PassesOwn.never rfl (pi_tup (pv 0)) (pg_name (i := 2) scSz.nd rfl (.inl rfl))
       (pss_one (ps_set (i := 1) scSz.nd rfl (.inl rfl) (pe_op op_add (pe_op op_add (pv 1) pe_int) (pe_callB (cr_sum rfl) (by rfl) m_sum (by decide +kernel) (pa_cons (pe_lc (own := [("_law_some", 3)]) (g := gName 3) (tt := tYes) (by rfl) scSz.nd (pi_list (pe_call GT (hr.mono (by first | decide | omega)) rfl TT.1 TT.2.1 TT.2.2 .nil pass0 (pa_cons (pv 2) pa_nil))) (blkOk_by (own := [("_law_some", 3)]) (N := ["_law_items", "_law_total", "_law_item", "_law_some"]) (sc := defScope sSz) (by decide +kernel)) (fun _ _ _ _ _ => (pg_name (i := 3) scSz.nd rfl (Or.inl rfl))) (fun _ _ _ _ _ => pts_nil) (fun _ _ _ _ _ => (pe_call GZ (hr.mono (by first | decide | omega)) rfl TZ.1 TZ.2.1 TZ.2.2 .nil pass0 (pa_cons (pv 3) pa_nil)))) pa_nil))))))
       (pss_one (ps_ret (pv 1))))), ?_⟩
        have len := dpl ha
        refine ⟨_, rfl, p, rfl, ⟨_, hp⟩, for_tup (xs := xs)
          (fun i σ H' => ∃ (v2 v3 : Option V), σ = [some (.ref p), some (.int ((flat (ds.take i)).length : Nat)), v2, v3] ∧ Same H H')
          ⟨none, none, by rw [List.take_zero, flat]; rfl, Same.refl H⟩ ?_ ?_ ?_⟩
        · rintro i σ H' hi ⟨v2, v3, rfl, sm⟩
          exact sm.tupS hp
        · rintro i x σ H1 hxi ⟨v2, v3, rfl, s1⟩
          obtain ⟨d, hd, hx⟩ := dp_get ha hxi
          have mem : d ∈ ds := List.mem_of_getElem? hd
          have tk := take_snoc hd
          have fl1 : flat (ds.take (i + 1)) = flat (ds.take i) ++ (d :: flatk d) := by rw [tk, flat_app, flat_one]
          have sub : ∀ e ∈ flat (ds.take (i + 1)), e ∈ flat ds := fun e he => by
            rw [← List.take_append_drop (i + 1) ds, flat_app]
            exact List.mem_append_left _ he
          have brd : BrOk d := br d (sub d (by rw [fl1]; exact List.mem_append_right _ List.mem_cons_self))
          refine ⟨_, rfl, _, _, rfl, rfl, ?_⟩
          refine ⟨_, rfl, H0, x, d, rfl, s0.trans s1, hx, brd, fun H2 l ks s2 nl hl hk => ?_⟩
          have lk := dpl hk
          rw [List.length_map] at lk
          refine ⟨l, rfl, ⟨_, SqL.of hl⟩, fun L nL => lc_list (K := K) (a := l) (xs := ks) (fun j H' => Same H2 H' ∧ H' L = some (.lst (((kids d).take j).map fun x => V.int (((flat x).length : Nat) : Int)))) ⟨same_upd nL, upd_same⟩ (fun j H' _ h => h.1.seq (SqL.of hl)) ?_ ?_⟩
          · rintro j k H3 hkj ⟨s3, e3⟩
            obtain ⟨pk, xk, dk, rfl, hdk, hpk, hak⟩ := dp_map_tup hk hkj
            have memk : dk ∈ kids d := List.mem_of_getElem? hdk
            refine ⟨rfl, ?_⟩
            dsimp only [tYes]
            rw [if_pos rfl]
            refine ⟨_, rfl, H0, pk, xk, dk, rfl, (s0.trans s1).trans (s2.trans s3), ((s0.trans s1).trans (s2.trans s3)).tupS hpk, hak, kid_fit (ft.mem mem) memk, fun e he => br e (sub e (by rw [fl1]; exact List.mem_append_right _ (List.mem_cons_of_mem _ (by rw [flatk_kids]; exact List.mem_flatMap.mpr ⟨dk, memk, he⟩)))), fun H4 s4 => ?_⟩
            refine ⟨_, s4 _ _ e3, ?_, same_updN nL (s3.trans s4), ?_⟩
            · have := kids_len d
              rw [List.length_map, List.length_take, sizeLine_eq]
              omega
            · rw [upd_same, take_snoc hdk, List.map_append]
              rfl
          · rintro H3 ⟨s3, e3⟩
            rw [lk, List.take_length] at e3
            refine ⟨L, (kids d).map fun x => (((flat x).length : Nat) : Int), rfl, SqL.of (by rw [e3, List.map_map]; rfl), _, _, rfl, rfl, ?_⟩
            refine ⟨some x, v3, ?_, s1.trans (s2.trans s3)⟩
            rw [sum_len, ← flatk_kids, fl1, List.length_append, List.length_cons]
            have e9 : (((flat (ds.take i)).length : Nat) : Int) + 1 + (((flatk d).length : Nat) : Int) = (((flat (ds.take i)).length + ((flatk d).length + 1) : Nat) : Int) := by omega
            dsimp only
            rw [e9]
            rfl
        · rintro σ H1 ⟨v2, v3, rfl, s1⟩
          rw [len, List.take_length]
          exact ⟨_, rfl, q H1 s1⟩
    · refine F.ok scSz (fun vs H Q E h => ?_) (fun cdv A outer s H vs Q E hr h => ?_)
      · obtain ⟨H0, p, xs, ds, rfl, _⟩ := h
        rfl
      · obtain ⟨H0, p, xs, ds, rfl, s0, hp, ha, ft, br, q⟩ := h
        refine ⟨_, (pss_cons (ps_set (i := 1) scSz.nd rfl (.inl rfl) pe_int)
       (pss_cons (ps_for PassesOwn.never rfl (pi_list (pv 0)) (pg_name (i := 2) scSz.nd rfl (.inl rfl))
       (pss_one (ps_set (i := 1) scSz.nd rfl (.inl rfl) (pe_op op_add (pe_op op_add (pv 1) pe_int) (pe_callB (cr_sum rfl) (by rfl) m_sum (by decide +kernel) (pa_cons (pe_lc (own := [("_law_some", 3)]) (g := gName 3) (tt := tYes) (by rfl) scSz.nd (pi_list (pe_call GT (hr.mono (by first | decide | omega)) rfl TT.1 TT.2.1 TT.2.2 .nil pass0 (pa_cons (pv 2) pa_nil))) (blkOk_by (own := [("_law_some", 3)]) (N := ["_law_items", "_law_total", "_law_item", "_law_some"]) (sc := defScope sSz) (by decide +kernel)) (fun _ _ _ _ _ => (pg_name (i := 3) scSz.nd rfl (Or.inl rfl))) (fun _ _ _ _ _ => pts_nil) (fun _ _ _ _ _ => (pe_call GZ (hr.mono (by first | decide | omega)) rfl TZ.1 TZ.2.1 TZ.2.2 .nil pass0 (pa_cons (pv 3) pa_nil)))) pa_nil))))))
       (pss_one (ps_ret (pv 1))))), ?_⟩
        have len := dpl ha
        refine ⟨_, rfl, p, rfl, ⟨_, hp⟩, for_list (K := K) (a := p) (xs := xs)
          (fun i σ H' => ∃ (v2 v3 : Option V), σ = [some (.ref p), some (.int ((flat (ds.take i)).length : Nat)), v2, v3] ∧ Same H H')
          ⟨none, none, by rw [List.take_zero, flat]; rfl, Same.refl H⟩ ?_ ?_ ?_⟩
        · rintro i σ H' hi ⟨v2, v3, rfl, sm⟩
          exact sm.seq hp
        · rintro i x σ H1 hxi ⟨v2, v3, rfl, s1⟩
          obtain ⟨d, hd, hx⟩ := dp_get ha hxi
          have mem : d ∈ ds := List.mem_of_getElem? hd
          have tk := take_snoc hd
          have fl1 : flat (ds.take (i + 1)) = flat (ds.take i) ++ (d :: flatk d) := by rw [tk, flat_app, flat_one]
          have sub : ∀ e ∈ flat (ds.take (i + 1)), e ∈ flat ds := fun e he => by
            rw [← List.take_append_drop (i + 1) ds, flat_app]
            exact List.mem_append_left _ he
          have brd : BrOk d := br d (sub d (by rw [fl1]; exact List.mem_append_right _ List.mem_cons_self))
          refine ⟨_, rfl, _, _, rfl, rfl, ?_⟩
          refine ⟨_, rfl, H0, x, d, rfl, s0.trans s1, hx, brd, fun H2 l ks s2 nl hl hk => ?_⟩
          have lk := dpl hk
          rw [List.length_map] at lk
          refine ⟨l, rfl, ⟨_, SqL.of hl⟩, fun L nL => lc_list (K := K) (a := l) (xs := ks) (fun j H' => Same H2 H' ∧ H' L = some (.lst (((kids d).take j).map fun x => V.int (((flat x).length : Nat) : Int)))) ⟨same_upd nL, upd_same⟩ (fun j H' _ h => h.1.seq (SqL.of hl)) ?_ ?_⟩
          · rintro j k H3 hkj ⟨s3, e3⟩
            obtain ⟨pk, xk, dk, rfl, hdk, hpk, hak⟩ := dp_map_tup hk hkj
            have memk : dk ∈ kids d := List.mem_of_getElem? hdk
            refine ⟨rfl, ?_⟩
            dsimp only [tYes]
            rw [if_pos rfl]
            refine ⟨_, rfl, H0, pk, xk, dk, rfl, (s0.trans s1).trans (s2.trans s3), ((s0.trans s1).trans (s2.trans s3)).tupS hpk, hak, kid_fit (ft.mem mem) memk, fun e he => br e (sub e (by rw [fl1]; exact List.mem_append_right _ (List.mem_cons_of_mem _ (by rw [flatk_kids]; exact List.mem_flatMap.mpr ⟨dk, memk, he⟩)))), fun H4 s4 => ?_⟩
            refine ⟨_, s4 _ _ e3, ?_, same_updN nL (s3.trans s4), ?_⟩
            · have := kids_len d
              rw [List.length_map, List.length_take, sizeLine_eq]
              omega
            · rw [upd_same, take_snoc hdk, List.map_append]
              rfl
          · rintro H3 ⟨s3, e3⟩
            rw [lk, List.take_length] at e3
            refine ⟨L, (kids d).map fun x => (((flat x).length : Nat) : Int), rfl, SqL.of (by rw [e3, List.map_map]; rfl), _, _, rfl, rfl, ?_⟩
            refine ⟨some x, v3, ?_, s1.trans (s2.trans s3)⟩
            rw [sum_len, ← flatk_kids, fl1, List.length_append, List.length_cons]
            have e9 : (((flat (ds.take i)).length : Nat) : Int) + 1 + (((flatk d).length : Nat) : Int) = (((flat (ds.take i)).length + ((flatk d).length + 1) : Nat) : Int) := by omega
            dsimp only
            rw [e9]
            rfl
        · rintro σ H1 ⟨v2, v3, rfl, s1⟩
          rw [len, List.take_length]
          exact ⟨_, rfl, q H1 s1⟩
end
end Tr

/-! P10 -/
/-! ### the law's flat -/
namespace Tr
open PySem PySem.Spec PyProof.Rows L2 Rw
theorem ite_any {b : Bool} {A B : Prop} (h1 : A) (h2 : B) : if b = true then A else B := by
  cases b
  · exact iteF h2
  · exact iteT h1
theorem ifS_join {c : TT} {t u : TS} {D : Ends} {σ : L2.St} {H : Hp} (G : L2.St → Hp → Prop) (hG : ∀ σ' H', G σ' H' → D.nx σ' H') (h : (∀ σ' H', G σ' H' → D.nx σ' H') → c σ H fun b H1 => if b = true then t D σ H1 else u D σ H1) : tIfS c t u D σ H := h hG
theorem ifE_via {tc : TT} {ta tb : TE} {σ : L2.St} {H : Hp} {Q : VK} (F : V → Hp → Prop) (hQ : ∀ v H', F v H' → Q v H') (h : (∀ v H', F v H' → Q v H') → tc σ H fun b H1 => if b = true then ta σ H1 Q else tb σ H1 Q) : tIf tc ta tb σ H Q := h hQ
theorem but_last_txt {K : PySem.W.Frag} {H : Hp} {u : V} {ns : List Str} {Q : VK} (h : TxtT K H u ns) (q : ∀ H' u', Same H H' → TxtT K H' u' ns.dropLast → Q u' H') : rSlA K u none (some (-1)) H Q := by
  obtain ⟨t, rfl, ht⟩ := h
  refine ⟨t, _, rfl, ht, fun c => ?_, fun c u nu => ?_⟩
  · have e1 : HT.sIx (ns.map V.str).length (ns.map V.str).length (some (-1)) = ns.length - 1 := by rw [List.length_map]; exact sIx_m1 _ _
    have c2 := c.2
    rw [e1, List.length_map] at c2
    have e2 : ns = [] := List.eq_nil_of_length_eq_zero (by omega)
    rw [e2] at q ht
    exact q H _ (Same.refl H) ⟨t, rfl, ht⟩
  · refine q _ _ (same_upd nu) ⟨u, rfl, SqT.of ?_⟩
    rw [upd_same, cut_m1, List.map_dropLast]
theorem eqv_nilL (ds : List D) : PyData.eqv (.list ds) (.list []) = ds.isEmpty := by
  cases ds <;> simp [PyData.eqv, PyData.eqvAll]
theorem eqv_nilT (ds : List D) : PyData.eqv (.tuple ds) (.tuple []) = ds.isEmpty := by
  cases ds <;> simp [PyData.eqv, PyData.eqvAll]
/-- a row of the law's list: a tuple that begins with the item -/
def RowT (K : PySem.W.Frag) (H0 H : Hp) (v : V) (d : D) : Prop := ∃ p x rest, v = .ref p ∧ SqT K H p (x :: rest) ∧ Dp K H0 x d
theorem RowT.same {K : PySem.W.Frag} {H0 H H' : Hp} (s : Same H H') {v : V} {d : D} (h : RowT K H0 H v d) : RowT K H0 H' v d := let ⟨p, x, r, e, q, z⟩ := h; ⟨p, x, r, e, s.tupS q, z⟩
theorem RowT.updL {K : PySem.W.Frag} {H0 H : Hp} {l : Addr} {xs : List V} {u : HO} (hl : H l = some (.lst xs)) {v : V} {d : D} (h : RowT K H0 H v d) : RowT K H0 (upd H l u) v d := let ⟨p, x, r, e, q, z⟩ := h; ⟨p, x, r, e, sqT_updL hl q, z⟩
def spLF (K : PySem.W.Frag) (n : Nat) : Sp := fun vs H Q _ => ∃ (H0 : Hp) (p : Addr) (s b : Int) (hv : V) (xs : List V) (ds : List D) (held : List Str), vs = [.ref p, .int s, .int b, hv] ∧ Same H0 H ∧ SqT K H p xs ∧ DpAll K H0 xs ds ∧ Fits n ds ∧ (∀ d ∈ flat ds, BrOk d) ∧ TxtT K H hv held ∧ held.length + (flat ds).length ≤ 900 ∧
  ∀ H' l ys, Same H H' → H l = none → H' l = some (.lst ys) → All2 (RowT K H0 H') ys (flat ds) → Q (.ref l) H'
theorem kids_cnt {d : D} : (kids d).length = 0 ∨ ∃ x y, kids d = [x, y] := by
  unfold kids
  cases forkOf d with
  | none => exact .inl rfl
  | some p => exact .inr ⟨p.1, p.2, rfl⟩
theorem kids_shaped {n : Nat} {d : D} (ft : FitD (n + 1) d) (hn : n ≤ 40) : SeqAt.shaped (.list ((kids d).map PyData.tuple)) = true := by
  refine shaped_of ?_ ?_
  · rw [PyData.canLay0]
    refine lays_of _ ?_
    rcases kids_cnt (d := d) with h | ⟨x, y, h⟩
    · rw [List.eq_nil_of_length_eq_zero h]; rfl
    · rw [h]
      have gx := (kid_fit ft (x := x) (by rw [h]; exact List.mem_cons_self)).good
      have gy := (kid_fit ft (x := y) (by rw [h]; exact List.mem_cons_of_mem _ List.mem_cons_self)).good
      simp only [List.map_cons, List.map_nil, goodAll, goodD, gx, gy]
      rfl
  · rw [PyData.depth]
    rcases kids_cnt (d := d) with h | ⟨x, y, h⟩
    · rw [List.eq_nil_of_length_eq_zero h]; decide
    · rw [h]
      have gx := (kid_fit ft (x := x) (by rw [h]; exact List.mem_cons_self)).dep
      have gy := (kid_fit ft (x := y) (by rw [h]; exact List.mem_cons_of_mem _ List.mem_cons_self)).dep
      simp only [List.map_cons, List.map_nil, PyData.depthAll, PyData.depth]
      omega
theorem flat_ge : ∀ ds : List D, ds.length ≤ (flat ds).length
  | [] => Nat.zero_le _
  | d :: ds => by
    have h := flat_ge ds
    rw [flat, List.length_cons, List.length_cons, List.length_append]
    omega
theorem fits_sh {n : Nat} {ds : List D} (h : Fits n ds) (hn : n ≤ 40) : SeqAt.shaped (.tuple ds) = true := fits_shaped h hn
theorem nilL_shaped : SeqAt.shaped (.list []) = true := rfl
theorem nilT_shaped : SeqAt.shaped (.tuple []) = true := rfl
section
variable {P : Program} {w : World} {K : PySem.W.Frag} {mg : Str → Option Value} {base : Heap}
abbrev sLF : Stmt := top 55
theorem scLF : FnScope ["_law_items", "_law_start", "_law_follow", "_law_held", "_law_rows", "_law_at", "_law_kept", "_law_number", "_law_item", "_law_size_here", "_law_some", "_law_behind", "_law_other", "_law_nexts"] ["_law_items", "_law_start", "_law_follow", "_law_held"] (defScope sLF) := ⟨rfl, rfl, rfl, by decide +kernel, rfl, by decide +kernel, by decide +kernel⟩
theorem ok_lf {f fT fZ : Addr} {fd fdT fdZ : FuncData} (F : Fun K "_law_flat" "_law_flat" sLF f fd) (TX : Called K mg "_law_flat" ["_law_items", "_law_start", "_law_follow", "_law_held"] f fd) (GT : FnOk P w K mg base CX0 1 fT fdT ["_law_item"] (spTu K)) (TT : Called K mg "_law_tuples" ["_law_item"] fT fdT) (TZ : Called K mg "_law_size" ["_law_items"] fZ fdZ)
    (GZa : ∀ n, FnOk P w K mg base CX0 (n + 2) fZ fdZ ["_law_items"] (spSz K n)) (m_enumerate : mg "enumerate" = none) (m_len : mg "len" = none) : ∀ n, n ≤ 40 → FnOk P w K mg base CX0 (n + 3) f fd ["_law_items", "_law_start", "_law_follow", "_law_held"] (spLF K n) := by
  intro n
  induction n with
  | zero =>
    intro _
    refine F.ok scLF (fun vs H Q E h => ?_) (fun cdv A outer s H vs Q E hr h => ?_)
    · obtain ⟨H0, p, s, b, hv, xs, ds, held, rfl, _⟩ := h
      rfl
    · obtain ⟨H0, p, s, b, hv, xs, ds, held, rfl, _, _, _, ft, _⟩ := h
      exact absurd ft.dep (Nat.not_lt_zero _)
  | succ n ih =>
    intro hn
    have GX := ih (by omega)
    have GZ := GZa (n + 1)
    refine F.ok scLF (fun vs H Q E h => ?_) (fun cdv A outer s H vs Q E hr h => ?_)
    · obtain ⟨H0, p, s, b, hv, xs, ds, held, rfl, _⟩ := h
      rfl
    · obtain ⟨H0, p, s, b, hv, xs, ds, held, rfl, s0, hp, ha, ft, br, hh, hz, q⟩ := h
      refine ⟨_, (pss_cons (ps_par3 (i := 4) (j := 5) (l := 6) rfl scLF.nd rfl rfl rfl (by decide) (by decide) (by decide) rfl rfl rfl (pa_cons (pe_lst pa_nil) (pa_cons (pv 1) (pa_cons (pv 3) pa_nil))) (by rfl))
       (pss_cons (ps_for PassesOwn.never rfl (pi_enumT rfl m_enumerate (pa_cons (pv 0) pa_nil)) (pg_tup rfl (pgs_cons (pg_name (i := 7) scLF.nd rfl (.inl rfl)) (pgs_cons (pg_name (i := 8) scLF.nd rfl (.inl rfl)) pgs_nil)))
       (pss_cons (ps_par (i := 9) (j := 10) rfl scLF.nd rfl rfl (by decide) rfl rfl (pa_cons (pe_call GZ (hr.mono (by first | decide | omega)) rfl TZ.1 TZ.2.1 TZ.2.2 .nil pass0 (pa_cons (pe_tup (pa_cons (pv 8) pa_nil)) pa_nil)) (pa_cons (pe_call GT (hr.mono (by first | decide | omega)) rfl TT.1 TT.2.1 TT.2.2 .nil pass0 (pa_cons (pv 8) pa_nil)) pa_nil)) (by rfl))
       (pss_cons (ps_set (i := 11) scLF.nd rfl (.inl rfl) (pe_ifExp (pt_cmpR op_lt (pe_op op_add (pv 7) pe_int) (pe_callB (call_len_K (K := K) rfl) (by rfl) m_len PySem.boot_len (pa_cons (pv 0) pa_nil)) (nomark _))
       (pe_op op_add (pv 5) (pv 9))
       (pv 2)))
       (pss_cons (ps_if (pt_cmpR (Nm.op_eqDK (K := K) rfl hr.units) (pv 10) (pe_lst pa_nil) (nomark _))
       (pss_one (ps_expr (pe_bm PySem.F.plainAttrs_list PySem.F.slot_list_append PySem.F.type_list_append mt_append (pv 4) (pa_cons (pe_tup (pa_cons (pv 8) (pa_cons (pe_tup (pa_cons (pv 11) pa_nil)) (pa_cons (pv 6) pa_nil)))) pa_nil))))
       (pss_cons (ps_set (i := 12) scLF.nd rfl (.inl rfl) (pe_op op_add (pe_op op_add (pv 5) pe_int) (pe_call GZ (hr.mono (by first | decide | omega)) rfl TZ.1 TZ.2.1 TZ.2.2 .nil pass0 (pa_cons (pe_ix (ix_listK (K := K) rfl) (pv 10) pe_int (fun _ _ => rfl)) pa_nil))))
       (pss_cons (ps_set (i := 13) scLF.nd rfl (.inl rfl) (pe_tup (pa_cons (pe_ifExp (pt_cmpR (Nm.op_neDK (K := K) rfl hr.units) (pe_ix (ix_listK (K := K) rfl) (pv 10) pe_int (fun _ _ => rfl)) (pe_tup pa_nil) (nomark _))
       (pe_op op_add (pv 5) pe_int)
       (pv 11)) (pa_cons (pe_ifExp (pt_cmpR (Nm.op_neDK (K := K) rfl hr.units) (pe_ix (ix_listK (K := K) rfl) (pv 10) pe_int (fun _ _ => rfl)) (pe_tup pa_nil) (nomark _))
       (pv 12)
       (pv 11)) pa_nil))))
       (pss_cons (ps_set (i := 4) scLF.nd rfl (.inl rfl) (pe_op op_cat (pe_op op_cat (pv 4) (pe_lst (pa_cons (pe_tup (pa_cons (pv 8) (pa_cons (pv 13) (pa_cons (pv 6) pa_nil)))) pa_nil))) (pe_call GX (hr.mono (by first | decide | omega)) rfl TX.1 TX.2.1 TX.2.2 .nil pass0 (pa_cons (pe_ix (ix_listK (K := K) rfl) (pv 10) pe_int (fun _ _ => rfl)) (pa_cons (pe_op op_add (pv 5) pe_int) (pa_cons (pv 11) (pa_cons (pv 6) pa_nil)))))))
       (pss_one (ps_set (i := 4) scLF.nd rfl (.inl rfl) (pe_op op_cat (pv 4) (pe_call GX (hr.mono (by first | decide | omega)) rfl TX.1 TX.2.1 TX.2.2 .nil pass0 (pa_cons (pe_ix (ix_listK (K := K) rfl) (pv 10) pe_int (fun _ _ => rfl)) (pa_cons (pv 12) (pa_cons (pv 11) (pa_cons (pv 6) pa_nil))))))))))))
       (pss_cons (ps_if (pt_cmpR op_eq (pe_ix (ix_tupK (K := K) rfl) (pv 8) pe_int (fun _ _ => rfl)) pe_str (nomark _))
       (pss_one (ps_set (i := 6) scLF.nd rfl (.inl rfl) (pe_op op_catA (pv 6) (pe_tup (pa_cons (pe_ix (ix_tupK (K := K) rfl) (pv 8) pe_int (fun _ _ => rfl)) pa_nil)))))
       pss_nil)
       (pss_cons (ps_if (pt_cmpR op_eq (pe_ix (ix_tupK (K := K) rfl) (pv 8) pe_int (fun _ _ => rfl)) pe_str (nomark _))
       (pss_one (ps_set (i := 6) scLF.nd rfl (.inl rfl) (pe_slice sl_tupA (pv 6) po_none (po_some (pe_un un_neg pe_int)))))
       pss_nil)
       (pss_one (ps_set (i := 5) scLF.nd rfl (.inl rfl) (pe_op op_add (pv 5) (pv 9))))))))))
       (pss_one (ps_ret (pv 4))))), ?_⟩
      have len := dpl ha
      have dlen : ds.length ≤ (flat ds).length := flat_ge ds
      refine ⟨Nat.zero_le _, fun l nl => ?_⟩
      have s1 : Same H (upd H l (.lst [])) := same_upd nl
      refine ⟨_, rfl, _, rfl, _, _, _, rfl, ?_⟩
      refine ⟨_, rfl, p, _, rfl, s1.tupS hp, for_enumT (K := K) (a := p) (xs := xs)
        (fun i σ H' => ∃ (l : Addr) (ys : List V) (a : Int) (u : V) (t : List Str) (v7 v8 v9 v10 v11 v12 v13 : Option V), σ = [some (.ref p), some (.int s), some (.int b), some hv, some (.ref l), some (.int a), some u, v7, v8, v9, v10, v11, v12, v13] ∧ Same H H' ∧ H l = none ∧ H' l = some (.lst ys) ∧ All2 (RowT K H0 H') ys (flat (ds.take i)) ∧
          TxtT K H' u t ∧ t.length ≤ held.length + i)
        ⟨l, [], s, hv, held, none, none, none, none, none, none, none, rfl, s1, nl, upd_same, by rw [List.take_zero, flat]; exact .nil, hh.same s1, Nat.le_refl _⟩ ?_ ?_ ?_⟩
      · rintro i σ H' hi ⟨_, _, _, _, _, v7, v8, v9, v10, v11, v12, v13, rfl, sm, _⟩
        exact sm.tupS hp
      · rintro i x σ H1 T1 hxi ⟨l, ys, a, u, t, v7, v8, v9, v10, v11, v12, v13, rfl, sm, nl, hl, hy, hu, tl⟩ nT
        obtain ⟨d, hd, hx⟩ := dp_get ha hxi
        have mem : d ∈ ds := List.mem_of_getElem? hd
        have hi : i < ds.length := (List.getElem?_eq_some_iff.mp hd).1
        have tk := take_snoc hd
        have fl1 : flat (ds.take (i + 1)) = flat (ds.take i) ++ (d :: flatk d) := by rw [tk, flat_app, flat_one]
        have sub : ∀ e ∈ flat (ds.take (i + 1)), e ∈ flat ds := fun e he => by
          rw [← List.take_append_drop (i + 1) ds, flat_app]
          exact List.mem_append_left _ he
        have le1 : (flat (ds.take (i + 1))).length ≤ (flat ds).length := by
          have z : (flat ds).length = (flat (ds.take (i + 1))).length + (flat (ds.drop (i + 1))).length := by
            rw [← List.length_append, ← flat_app, List.take_append_drop]
          omega
        have brd : BrOk d := br d (sub d (by rw [fl1]; exact List.mem_append_right _ List.mem_cons_self))
        have brk : ∀ e ∈ flatk d, BrOk e := fun e he => br e (sub e (by rw [fl1]; exact List.mem_append_right _ (List.mem_cons_of_mem _ he)))
        have ftd := ft.mem mem
        have u0 := same_upd (o := .tup [.int (i : Nat), x]) nT
        have sm0 := sm.trans u0
        refine ⟨T1, _, rfl, SqT.of upd_same, rfl, _, _, rfl, _, _, rfl, rfl, ?_⟩
        refine ⟨_, rfl, by show 1 ≤ sizeLine; decide, fun y ny => ?_⟩
        have s4 := same_upd (o := HO.tup [x]) ny
        have t4 := s0.trans (sm0.trans s4)
        refine ⟨H0, y, [x], [d], rfl, t4, SqT.of upd_same, .cons hx .nil, fit_one ftd, fun e he => ?_, fun H5 s5 => ?_⟩
        · rw [flat_one] at he
          rcases List.mem_cons.mp he with rfl | he
          · exact brd
          · exact brk e he
        refine ⟨_, rfl, H0, x, d, rfl, t4.trans s5, hx, brd, fun H6 kl ks s6 nkl hkl hks => ⟨_, _, rfl, ?_⟩⟩
        have sA := (u0.trans s4).trans (s5.trans s6)
        have smA := sm.trans sA
        have hlA := sA _ _ hl
        have hyA : All2 (RowT K H0 H6) ys (flat (ds.take i)) := hy.mono fun _ _ z => z.same sA
        have huA := hu.same sA
        dsimp only
        refine seqS_in (asg_via (fun v H' => Same H6 H' ∧ ∃ z : Int, v = .int z) (fun Qx hQ => ?_) (fun v H7 ⟨s7, z, ev⟩ => ?_))
        · refine ⟨_, rfl, _, _, rfl, rfl, _, rfl, p, _, rfl, .inr (smA.tupS hp), _, _, rfl, rfl, _, rfl, ?_⟩
          refine ite_any ?_ ?_
          · exact ⟨_, rfl, _, rfl, _, _, rfl, rfl, hQ _ _ ⟨Same.refl _, _, rfl⟩⟩
          · exact ⟨_, rfl, hQ _ _ ⟨Same.refl _, _, rfl⟩⟩
        subst ev
        refine name_in ?_
        try dsimp only
        have sm7 := smA.trans s7
        have hl7 := s7 _ _ hlA
        have hy7 : All2 (RowT K H0 H7) ys (flat (ds.take i)) := hyA.mono fun _ _ z => z.same s7
        have hu7 := huA.same s7
        have hkl7 := s7 _ _ hkl
        have sz : (RowT K H0 H7) = (RowT K H0 H7) := rfl
        refine seqS_in (ifS_join (fun σ' H' => ∃ (l' : Addr) (ys' : List V) (w12 w13 : Option V), σ' = [some (.ref p), some (.int s), some (.int b), some hv, some (.ref l'), some (.int a), some u, some (.int (i : Nat)), some x, some (.int ((flat [d]).length : Nat)), some (.ref kl), some (.int z), w12, w13] ∧ Same H H' ∧ H l' = none ∧ H' l' = some (.lst ys') ∧ All2 (RowT K H0 H') ys' (flat (ds.take (i + 1))) ∧ TxtT K H' u t) ?_ fun hG => ?_)
        · rintro σ' H8 ⟨l', ys', w12, w13, rfl, sm8, nl8, hl8, hy8, hu8⟩
          obtain ⟨wd, r, rfl, b1, b2, b3⟩ := brd
          cases hx with
          | @tup px xr _ hpx hax =>
          cases hax with
          | @cons x0 xr _ _ h0 hax =>
          cases h0
          have hp8 := (s0.trans sm8).tupS hpx
          try dsimp only
          refine seqS_in (ifS_join (fun σ' H' => ∃ (u' : V) (t' : List Str), σ' = [some (.ref p), some (.int s), some (.int b), some hv, some (.ref l'), some (.int a), some u', some (.int (i : Nat)), some (.ref px), some (.int ((flat [PyData.tuple (.str wd :: r)]).length : Nat)), some (.ref kl), some (.int z), w12, w13] ∧ Same H8 H' ∧ TxtT K H' u' t' ∧ t'.length ≤ t.length + 1) ?_ fun hG => ?_)
          · rintro σ2 H9 ⟨u', t', rfl, s9, hu9, tl9⟩
            try dsimp only
            refine seqS_in (ifS_join (fun σ' H' => ∃ (u' : V) (t' : List Str), σ' = [some (.ref p), some (.int s), some (.int b), some hv, some (.ref l'), some (.int a), some u', some (.int (i : Nat)), some (.ref px), some (.int ((flat [PyData.tuple (.str wd :: r)]).length : Nat)), some (.ref kl), some (.int z), w12, w13] ∧ Same H8 H' ∧ TxtT K H' u' t' ∧ t'.length ≤ t.length + 1) ?_ fun hG => ?_)
            · rintro σ2 H10 ⟨u2, t2, rfl, s10, hu10, tl10⟩
              refine ⟨_, rfl, _, rfl, _, _, rfl, rfl, ?_⟩
              exact ⟨l', ys', _, u2, t2, _, _, _, _, _, _, _, rfl, sm8.trans s10, nl8, s10 _ _ hl8, hy8.mono fun _ _ z => z.same s10, hu10, by omega⟩
            · refine ⟨_, rfl, px, _, _, _, rfl, rfl, s9.tupS hp8, at0, rfl, _, rfl, ?_⟩
              rw [Rw.dec_str]
              by_cases h1 : wd = "give"
              · rw [decide_eq_true h1]
                refine iteT ?_
                refine ⟨_, rfl, _, rfl, _, rfl, ?_⟩
                dsimp only [tNoPart]
                refine but_last_txt hu9 fun H10 u10 s10 hu10 => ?_
                exact name_in (hG _ _ ⟨u10, _, rfl, s9.trans s10, hu10, by rw [List.length_dropLast]; omega⟩)
              · rw [decide_eq_false h1]
                exact iteF (hG _ _ ⟨_, _, rfl, s9, hu9, tl9⟩)
          · refine ⟨_, rfl, px, _, _, _, rfl, rfl, hp8, at0, rfl, _, rfl, ?_⟩
            rw [Rw.dec_str]
            by_cases h1 : wd = "take"
            · rw [decide_eq_true h1]
              obtain ⟨n1, r', rfl⟩ := b3 (.inl h1)
              cases hax with
              | @cons x1 xr2 _ _ h0 hax =>
              cases h0
              refine iteT ?_
              refine ⟨_, rfl, _, rfl, px, _, _, _, rfl, rfl, hp8, at1, by show 1 ≤ sizeLine; decide, fun y ny => ?_⟩
              have s9 := same_upd (o := HO.tup [V.str n1]) ny
              refine cat_txt (hu8.same s9) ⟨y, rfl, SqT.of upd_same⟩ (bs := [n1]) (by show t.length + 1 ≤ 1000; omega) fun H9 u9 s10 hu9 => ?_
              exact name_in (hG _ _ ⟨u9, _, rfl, s9.trans s10, hu9, by rw [List.length_append]; exact Nat.le_refl _⟩)
            · rw [decide_eq_false h1]
              exact iteF (hG _ _ ⟨_, _, rfl, Same.refl _, hu8, Nat.le_succ _⟩)
        · refine ⟨_, rfl, Nat.zero_le _, fun ln nln => ?_⟩
          have s8 := same_upd (o := HO.lst []) nln
          have s08 := s0.trans (sm7.trans s8)
          refine ⟨_, _, .lst (SqL.of (s8 _ _ hkl7)) (hks.same s08), .lst (SqL.of upd_same) .nil, kids_shaped ftd (by omega), nilL_shaped, _, rfl, ?_⟩
          rw [eqv_nilL]
          have sm8 := sm7.trans s8
          have hl8 := s8 _ _ hl7
          have hy8 : All2 (RowT K H0 (upd H7 ln (.lst []))) ys (flat (ds.take i)) := hy7.mono fun _ _ z => z.same s8
          have hu8 := hu7.same s8
          have hkl8 := s8 _ _ hkl7
          generalize upd H7 ln (.lst []) = H8 at s8 s08 sm8 hl8 hy8 hu8 hkl8
          have yl := hy8.length
          rw [fl1, List.length_append, List.length_cons] at le1
          rcases kids_cnt (d := d) with hk0 | ⟨kx, ky, hk2⟩
          · rw [show (List.map PyData.tuple (kids d)).isEmpty = true by rw [List.eq_nil_of_length_eq_zero hk0]; rfl]
            have fk : flatk d = [] := by rw [flatk_kids, List.eq_nil_of_length_eq_zero hk0]; rfl
            refine iteT ?_
            refine ⟨_, rfl, .inl ⟨rfl, _, SqL.of hl8⟩, _, rfl, _, rfl, by show 1 ≤ sizeLine; decide, fun y1 n1 => ⟨_, rfl, by show 3 ≤ sizeLine; decide, fun y2 n2 => ?_⟩⟩
            have q1 := same_upd (o := HO.tup [V.int z]) n1
            have q2 := same_upd (o := HO.tup [x, V.ref y1, u]) n2
            have q12 := q1.trans q2
            refine ⟨l, _, _, rfl, rfl, q12 _ _ hl8, by rw [sizeLine_eq]; omega, ?_⟩
            refine hG _ _ ⟨l, ys ++ [V.ref y2], v12, v13, rfl, same_updN nl (sm8.trans q12), nl, upd_same, ?_, (hu8.same q12).updL (q12 _ _ hl8)⟩
            rw [fl1, fk]
            exact (hy8.mono fun _ _ z => (z.same q12).updL (q12 _ _ hl8)).append (.cons ⟨y2, x, _, rfl, sqT_updL (q12 _ _ hl8) (SqT.of upd_same), hx⟩ .nil)
          · rw [show (List.map PyData.tuple (kids d)).isEmpty = false by rw [hk2]; rfl]
            rw [hk2] at hks
            have mx : kx ∈ kids d := by rw [hk2]; exact List.mem_cons_self
            have my : ky ∈ kids d := by rw [hk2]; exact List.mem_cons_of_mem _ List.mem_cons_self
            have bk : ∀ z ∈ kids d, ∀ e ∈ flat z, BrOk e := fun z hz e he => brk e ((kid_flat hz).2 e he)
            have fk : flatk d = flat kx ++ flat ky := by rw [flatk_kids, hk2]; simp
            rw [fk, List.length_append] at le1
            cases hks with
            | @cons k1 ks _ _ h1 hk =>
            cases hk with
            | @cons k2 ks _ _ h2 hk =>
            cases hk
            cases h1 with
            | @tup p1 xs1 _ hp1 ha1 =>
            cases h2 with
            | @tup p2 xs2 _ hp2 ha2 =>
            refine iteF ?_
            refine ⟨_, rfl, _, _, rfl, rfl, ?_⟩
            refine ⟨_, rfl, kl, _, _, _, rfl, rfl, SqL.of hkl8, at0, H0, p1, xs1, kx, rfl, s08, s08.tupS hp1, ha1, (kid_fit ftd mx).mono (Nat.le_succ _), bk kx mx, fun H9 s9 => ?_⟩
            refine ⟨_, _, rfl, rfl, ?_⟩
            refine name_in ?_
            try dsimp only
            have s09 := s08.trans s9
            have hkl9 := s9 _ _ hkl8
            refine seqS_in (asg_via (fun v H' => Same H9 H') (fun Qx hQ => ?_) (fun v H10 s10 => ?_))
            · refine ⟨_, rfl, kl, _, _, _, rfl, rfl, SqL.of hkl9, at0, Nat.zero_le _, fun e ne => ?_⟩
              have se := same_upd (o := HO.tup []) ne
              have t9 := s09.trans se
              refine ⟨_, _, .tup (t9.tupS hp1) (ha1.same t9), .tup (SqT.of upd_same) .nil, fits_sh (kid_fit ftd mx) (by omega), nilT_shaped, _, rfl, ?_⟩
              refine ite_any ?_ ?_
              · refine ⟨_, rfl, _, _, rfl, rfl, ?_⟩
                refine ⟨_, rfl, kl, _, _, _, rfl, rfl, SqL.of (se _ _ hkl9), at1, Nat.zero_le _, fun e2 ne2 => ?_⟩
                have se2 := same_upd (o := HO.tup []) ne2
                have t10 := t9.trans se2
                refine ⟨_, _, .tup (t10.tupS hp2) (ha2.same t10), .tup (SqT.of upd_same) .nil, fits_sh (kid_fit ftd my) (by omega), nilT_shaped, _, rfl, ?_⟩
                refine ite_any ?_ ?_
                · exact ⟨_, rfl, by show 2 ≤ sizeLine; decide, fun o no => hQ _ _ (se.trans (se2.trans (same_upd no)))⟩
                · exact ⟨_, rfl, by show 2 ≤ sizeLine; decide, fun o no => hQ _ _ (se.trans (se2.trans (same_upd no)))⟩
              · refine ⟨_, rfl, ?_⟩
                refine ⟨_, rfl, kl, _, _, _, rfl, rfl, SqL.of (se _ _ hkl9), at1, Nat.zero_le _, fun e2 ne2 => ?_⟩
                have se2 := same_upd (o := HO.tup []) ne2
                have t10 := t9.trans se2
                refine ⟨_, _, .tup (t10.tupS hp2) (ha2.same t10), .tup (SqT.of upd_same) .nil, fits_sh (kid_fit ftd my) (by omega), nilT_shaped, _, rfl, ?_⟩
                refine ite_any ?_ ?_
                · exact ⟨_, rfl, by show 2 ≤ sizeLine; decide, fun o no => hQ _ _ (se.trans (se2.trans (same_upd no)))⟩
                · exact ⟨_, rfl, by show 2 ≤ sizeLine; decide, fun o no => hQ _ _ (se.trans (se2.trans (same_upd no)))⟩
            refine name_in ?_
            try dsimp only
            have il : i ≤ (flat (ds.take i)).length := by
              have z := flat_ge (ds.take i)
              rw [List.length_take] at z
              omega
            have c10 := s9.trans s10
            have t10 := s08.trans c10
            have sm10 := sm8.trans c10
            refine ⟨_, rfl, _, rfl, _, rfl, _, rfl, by show 3 ≤ sizeLine; decide, fun y2 n2 => ⟨by show 1 ≤ sizeLine; decide, fun l4 n4 => ?_⟩⟩
            have q1 := same_upd (o := HO.tup [x, v, u]) n2
            have q2 := same_upd (o := HO.lst [V.ref y2]) n4
            have e2 := q2 _ _ (upd_same (H := H10) (a := y2) (o := HO.tup [x, v, u]))
            have e4 : (upd (upd H10 y2 (HO.tup [x, v, u])) l4 (HO.lst [V.ref y2])) l4 = some (.lst [V.ref y2]) := upd_same
            have q12 := c10.trans (q1.trans q2)
            have sm11 := sm8.trans q12
            generalize upd (upd H10 y2 (HO.tup [x, v, u])) l4 (HO.lst [V.ref y2]) = H11 at e2 e4 q12 sm11
            have t11 := s08.trans q12
            refine ⟨l, l4, _, _, rfl, rfl, q12 _ _ hl8, e4, by rw [sizeLine_eq]; show _ + 1 ≤ _; omega, fun l5 n5 => ?_⟩
            have q5 := same_upd (o := HO.lst (ys ++ [V.ref y2])) n5
            have e5 : (upd H11 l5 (.lst (ys ++ [V.ref y2]))) l5 = some (.lst (ys ++ [V.ref y2])) := upd_same
            have q15 := q12.trans q5
            have e25 := q5 _ _ e2
            generalize upd H11 l5 (.lst (ys ++ [V.ref y2])) = H12 at q5 e5 q15 e25
            have t12 := s08.trans q15
            refine ⟨_, rfl, kl, _, _, _, rfl, rfl, SqL.of (q15 _ _ hkl8), at0, _, rfl, _, _, rfl, rfl, _, rfl, _, rfl, H0, p1, _, _, u, xs1, kx, t, rfl, t12, t12.tupS hp1, ha1, kid_fit ftd mx, bk kx mx, hu8.same q15, by omega, fun H13 l6 ys6 s6 n6 h6 hy6 => ?_⟩
            have w6 := hy6.length
            refine ⟨l5, l6, _, _, rfl, rfl, s6 _ _ e5, h6, by rw [sizeLine_eq, List.length_append]; show _ + 1 + _ ≤ _; omega, fun l7 n7 => ?_⟩
            have q7 := same_upd (o := HO.lst (ys ++ [V.ref y2] ++ ys6)) n7
            have e7 : (upd H13 l7 (.lst (ys ++ [V.ref y2] ++ ys6))) l7 = some (.lst (ys ++ [V.ref y2] ++ ys6)) := upd_same
            have hy7' : All2 (RowT K H0 (upd H13 l7 (.lst (ys ++ [V.ref y2] ++ ys6)))) ys6 (flat kx) := hy6.mono fun _ _ z => z.same q7
            have q57 := s6.trans q7
            generalize upd H13 l7 (.lst (ys ++ [V.ref y2] ++ ys6)) = H14 at q7 e7 q57 hy7'
            have q17 := q15.trans q57
            have t14 := s08.trans q17
            refine name_in ?_
            try dsimp only
            refine ⟨_, rfl, _, rfl, kl, _, _, _, rfl, rfl, SqL.of (q17 _ _ hkl8), at1, _, rfl, _, rfl, _, rfl, H0, p2, _, _, u, xs2, ky, t, rfl, t14, t14.tupS hp2, ha2, kid_fit ftd my, bk ky my, hu8.same q17, by omega, fun H15 l8 ys8 s8' n8 h8 hy8' => ?_⟩
            have w8 := hy8'.length
            refine ⟨l7, l8, _, _, rfl, rfl, s8' _ _ e7, h8, by rw [sizeLine_eq, List.length_append, List.length_append]; show _ + 1 + _ + _ ≤ _; omega, fun l9 n9 => ?_⟩
            have q9 := same_upd (o := HO.lst (ys ++ [V.ref y2] ++ ys6 ++ ys8)) n9
            have q89 := s8'.trans q9
            have smF := sm8.trans q17
            refine name_in (hG _ _ ⟨l9, _, _, _, rfl, smF.trans q89, (smF.trans s8').free n9, upd_same, ?_, hu8.same (q17.trans q89)⟩)
            rw [fl1, fk]
            have r1 : All2 (RowT K H0 (upd H15 l9 (.lst (ys ++ [V.ref y2] ++ ys6 ++ ys8)))) [V.ref y2] [d] := .cons ⟨y2, x, _, rfl, SqT.of (q89 _ _ (q57 _ _ e25)), hx⟩ .nil
            have z := (((hy8.mono fun _ _ z => z.same (q17.trans q89)).append r1).append (hy7'.mono fun _ _ z => z.same q89)).append (hy8'.mono fun _ _ z => z.same q9)
            simpa using z
      · rintro σ H1 ⟨l, ys, a, u, t, v7, v8, v9, v10, v11, v12, v13, rfl, sm, nl, hl, hy, hu, tl⟩
        rw [len, List.take_length] at hy
        exact ⟨_, rfl, q H1 l ys sm nl hl hy⟩
end
end Tr

/-! S1 -/
/-! ### super().m(..) in a def of a class -/
namespace SuX
open PySem PySem.Spec PyProof.Rows L2 NdefX
open PySem.W (clsIn mroIn typeIn nsIn ks_superIn fnIn codeIn keepIn)
/-- statements of a def's body, its code being the one that runs -/
structure QS (X : Cx) (b0 sts : List Stmt) (t : TS) : Prop where
  run : ∀ (pins : List (Addr × Obj)) (s : Shared) (σ : L2.St) (H : Hp) (D : Ends), Inv X pins σ H s → t D σ H → _root_.PySem.wpAt (model X.prog X.w) X.A (.func b0 X.env) (execs sts X.env) (SP X pins D) X.xe s
theorem qs_of {X : Cx} {b0 sts : List Stmt} {t : TS} (h : PSs X sts t) : QS X b0 sts t := ⟨fun pins s σ H D I q => _root_.PySem.wpAt_of_wpAny (h.run pins s σ H D I q)⟩
theorem qs_cons {X : Cx} {b0 rest : List Stmt} {st : Stmt} {t u : TS} (h1 : PS X st t) (h2 : QS X b0 rest u) : QS X b0 (st :: rest) (tSeq t u) := by
  refine ⟨fun pins s σ H D I h => ?_⟩
  refine ks_wpAt_execs_cons (_root_.PySem.wpAt_of_wpAny (thn (h1.run pins s σ H { D with nx := u D } I h) fun f s1 q => ?_))
  cases f with
  | next =>
    obtain ⟨σ', H', I', q⟩ := q
    exact h2.run pins s1 σ' H' D I' q
  | ret v => exact q
  | brk => exact q
  | cont => exact q
/-- behind D in C's order there is a def m at f2 -/
structure Sup (K : PySem.W.Frag) (C D : Addr) (m : Str) (f2 : Addr) : Prop where
  sub : mroIn K C (.ref D) = some true
  at_ : ks_superIn K C D m = some (some (.ref f2))
  ty : typeIn K (.ref f2) = some (.type "function")
  fi : fnIn K f2 = true
  st : nsIn K cStatics "thirdparty.any" = some none
/-- the def at f, in the class at D, says super() -/
structure SupF (X : Cx) (ar : Str) (f cda cc D : Addr) : Prop where
  sk : X.env.kindOf "super" = some .globalImplicit
  ck : X.env.kindOf "__class__" = some .free
  ak : X.env.kindOf ar = some .local
  fu : X.env.func = some f
  co : X.env.code = .ref cda
  ce : X.env.cells.lookup ("__class__" : Str) = some cc
  fd : ∃ oc od fd osl a, X.K.lookup f = some ⟨oc, od, .func fd, osl⟩ ∧ (fd.params.posonlyargs ++ fd.params.args).head? = some a ∧ a.arg = ar
  cd : ∃ ccl cdd vs ccs file tf, X.K.lookup cda = some ⟨ccl, cdd, .fields vs, ccs⟩ ∧ vs[2]? = some (.str file tf) ∧ ((X.prog.main.file : Str) == file) = true
  ht : (X.prog.main.scope.names.lookup ("super" : Str)).isSome = false
  cl : ∃ cl cld csl, X.K.lookup cc = some ⟨cl, cld, .cell (some (.ref D)), csl⟩
  dd : ∃ cdD, clsIn X.K D = some cdD
  mg : X.mg "super" = none
def tSup (K : PySem.W.Frag) (D : Addr) (m : Str) (f2 : Addr) (sp : Sp) (E : XK) (ta : TA) : TS := fun D' σ H => ∃ x C dx fs, σ[0]? = some (some (.ref x)) ∧ H x = some (.ins C dx fs) ∧ Sup K C D m f2 ∧ ta σ H fun vs H1 => sp (.ref x :: vs) H1 (fun _ H2 => D'.nx σ H2) E
section
variable {X : Cx} {CX : CXT} {k : Nat} {f cda cc D f2 : Addr} {ar m : Str} {fd : FuncData} {ps : List Str} {sp : Sp} {E : XK} {p0 p1 pos apos epos : Pos} {e : Expr} {es : List Expr} {ta : TA} {b0 rest : List Stmt} {u : TS}
theorem cls_get {K : PySem.W.Frag} {h : Heap} {D : Addr} {cdD : ClassData} (Xk : K.In h) (hD : clsIn K D = some cdD) : ∃ oD, h.get? D = some oD ∧ oD.data = .cls cdD := by
  unfold clsIn at hD
  split at hD
  · rename_i c d cd' sl ho
    cases hD
    exact ⟨_, Xk _ _ ho, rfl⟩
  · cases hD
theorem qs_super {pl : Sem Bool} (S : SupF X ar f cda cc D) (h0 : X.N[0]? = some ar) (F : FnOk X.prog X.w X.K X.mg X.base CX k f2 fd ps sp) (hr : Room k X.A) (hb : Binds X.K fd ps []) (hx : Passes CX X E) (ha : PA X (e :: es) ta) (h2 : QS X b0 rest u)
    (hat : (m == ("__class__" : Str)) = false := by decide)
    (hst : starEach (e :: es) X.env = (false, eval e X.env) :: starEach es X.env := by rfl) (hpl : (backTo pos (starEach es X.env)).any (·.1) = false := by rfl)
    (hs : swapsWith (.Call (.Attribute (.Call (.Name "super" p0) [] [] p1) m apos) (e :: es) [] pos) none epos.line X.env = pure false := by rfl)
    (he : eval (.Call (.Attribute (.Call (.Name "super" p0) [] [] p1) m apos) (e :: es) [] pos) X.env = (do
      let ov ← attributeBase (.Call (.Name "super" p0) [] [] p1) m X.env (eval (.Call (.Name "super" p0) [] [] p1) X.env)
      standAt apos.atName
      let (f, first) ← holding [ov] (getMethod ov m pl)
      callWith pos f first (backTo pos (starEach (e :: es) X.env)) []) := by rfl) :
    QS X b0 (.Expr (.Call (.Attribute (.Call (.Name "super" p0) [] [] p1) m apos) (e :: es) [] pos) epos :: rest) (tSeq (tSup X.K D m f2 sp E ta) u) := by
  refine ⟨fun pins s σ H D' I h => ?_⟩
  obtain ⟨x, C, dx, fs, hσ, hH, sup, h⟩ := h
  refine ks_wpAt_execs_cons (ks_wpAt_Expr_any (ks_wpAt_MethodCall ?_ he) I.quiet hs)
  obtain ⟨oc, od, fd0, osl, a, hf, hp, rfl⟩ := S.fd
  obtain ⟨ccl, cdd, vs0, ccs, file, tf, hcode, hvs, hfile⟩ := S.cd
  obtain ⟨cl0, cld, csl, hcell⟩ := S.cl
  obtain ⟨cdD, hD⟩ := S.dd
  have XK := I.kIn
  obtain ⟨oD, hD1, hD2⟩ := cls_get XK hD
  have hk := I.ok.kind
  obtain ⟨mb, hb1, hb2⟩ := I.mod.blt
  obtain ⟨m0, hns, hlk⟩ := I.loc
  obtain ⟨mA, O, _, _, _, _⟩ := ins_get I.hok hH
  have hx1 := O.obj
  have hself : m0 a.arg = some (.ref x) := by
    obtain ⟨u, ru, lk⟩ := hlk 0 a.arg (.ref x) h0 hσ (.inl S.ak)
    obtain rfl : u = Value.ref x := ru
    rcases lk with ⟨_, z⟩ | ⟨z, _⟩
    · exact z
    · have ak := S.ak
      rcases z with z | z
      · rw [ak] at z
        cases z
      · rw [ak] at z
        cases z
  obtain ⟨hh, g, d, t, os⟩ := s
  refine ks_wpAt_super_base S.sk S.ck hat S.fu (XK _ _ hf) rfl hp S.co (XK _ _ hcode) rfl hvs hfile S.ht ?_
  refine PySem.W.ks_loadName_global hk S.sk (Calls.loadGlobal_builtin (by rw [I.ok.glob]; exact I.mod.glob.keeps I.bk) S.mg (by rw [I.ok.blt]; exact hb1.keeps I.bk) ((hb2 "super" (by decide)).trans (by rfl : bootBuiltins "super" = some (.type "super"))) ⟨rfl, ?_⟩)
  refine wpAny_loadName_free hk S.ck S.ce ⟨_, XK _ _ hcell, rfl⟩ ?_
  refine wpAny_loadName_local hk S.ak hns hself ?_
  refine ks_wpAny_isType_cls hD1 hD2 ⟨rfl, ?_⟩
  refine ks_wpAny_call_super hD1 hD2 hx1 rfl (fun c z => nomatch z) (PySem.W.looks_mroIn XK sup.sub) (fun h' e1 k1 => ?_)
  have I2 := ClX.pin_new (t' := t) I k1 (Nat.le_refl _) e1 (fun v z => nomatch z)
  have XK2 := I2.kIn
  have hxC : x ≠ C := fun z => by
    obtain ⟨cd, hcd⟩ : ∃ cd, clsIn X.K C = some cd := by
      cases hc : clsIn X.K C with
      | none =>
        have z := sup.at_
        unfold ks_superIn at z
        rw [hc] at z
        cases z
      | some cd => exact ⟨cd, rfl⟩
    obtain ⟨oC, hC1, hC2⟩ := cls_get XK hcd
    rw [← z] at hC1
    rw [hx1] at hC1
    cases hC1
    cases hC2
  obtain ⟨cd, hcd⟩ : ∃ cd, clsIn X.K C = some cd := by
    cases hc : clsIn X.K C with
    | none =>
      have z := sup.at_
      unfold ks_superIn at z
      rw [hc] at z
      cases z
    | some cd => exact ⟨cd, rfl⟩
  have hat2 := sup.at_
  unfold ks_superIn at hat2
  rw [hcd] at hat2
  obtain ⟨of, hof, hofc⟩ : ∃ of, h'.get? f2 = some of ∧ of.cls = .type "function" := by
    have ht' : (X.K.lookup f2).map (·.cls) = some (.type "function") := sup.ty
    cases z : X.K.lookup f2 with
    | none => rw [z] at ht'; cases ht'
    | some of => rw [z] at ht'; exact ⟨of, XK2 _ _ z, Option.some.inj ht'⟩
  have hso := ClX.pin_at I2
  refine ks_wpAny_getMethod_super hso (PySem.W.looks_opaque XK2 sup.st) (l₀ := cd.mro) (fun A Q E s k q => wpAny_bind ((PySem.W.looks_clsIn XK2 hcd) A _ E s k (wpAny_pure q))) rfl XK2 hat2 hof hofc hxC hat ?_
  have I3 := ClX.pin_new (t' := t + 1) I2 (h' := h'.push (PySem.W.methodObj (.ref f2) (.ref x))) (o := PySem.W.methodObj (.ref f2) (.ref x)) (fun _ _ z => Heap.get?_push_of_some _ z) (Nat.le_refl _) (Heap.get?_push_size h' rfl) (fun v z => nomatch z)
  try dsimp only
  rw [hst]
  refine PySem.W.callWith_of (P := PySem.W.MethP X.K h'.objs.size f2 (.ref x)) (args := backTo pos ((false, eval e X.env) :: starEach es X.env)) (keywords := []) (by show ((false || (backTo pos (starEach es X.env)).any (·.1)) || false) = false; rw [hpl]; rfl) (PySem.W.keeps_M sup.fi) (Calls.evalArgs_plain ?_)
  have gg := ha.run pos _ _ σ H _ I3 h
  rw [hst] at gg
  refine thn gg fun us s1 ⟨vs, H1, I4, r, q⟩ => ⟨⟨ClX.pin_at I4, I4.kIn⟩, ?_⟩
  refine wpAny_call (PySem.W.method_call (ClX.pin_at I4) ?_)
  have r2 : Vals (V.ref x :: vs) (Value.ref x :: us) := .cons rfl r
  have r3 : Vals (V.ref x :: vs) (Value.ref x :: us ++ []) := by rw [List.append_nil]; exact r2
  have hl : (Value.ref x :: us ++ []).length = ps.length := by rw [← r3.length]; exact F.len _ _ _ _ q
  have bd := hb s1 (Value.ref x :: us) I4.kIn hl
  rw [List.append_nil] at bd
  refine codeAny_mono (F.run X.A X.stack s1 H1 ⟨Value.ref x :: us, []⟩ (Value.ref x :: us) (V.ref x :: vs) _ E hr I4.env0 bd r2 q) fun r s' hq => ?_
  cases r with
  | error e => exact hx _ σ H1 s1 e s' I4 hq
  | ok fl =>
    cases fl with
    | ret u =>
      obtain ⟨v, H2, I5, _, q2⟩ := I4.after hq
      exact h2.run pins s' σ H2 D' (ClX.unpin (ClX.unpin I5)) q2
    | next => exact False.elim hq
    | brk => exact False.elim hq
    | cont => exact False.elim hq
/-- THE RULE: a def of a class that says super() -/
theorem fn_ofS {P : Program} {w : World} {K : PySem.W.Frag} {mg : Str → Option Value} {base : Heap} {name qual : Str} {params : Arguments} {body : List Stmt} {scope : Scope} {dV kV doc pm ct oc : Value} {an od : Option Addr} {osl : Array (Option Value)} {N : List Str} {cl0 : Value} {cld : Option Addr} {cv : Option Value} {csl : Array (Option Value)}
    (lk : K.lookup f = some ⟨oc, od, .func (PySem.W.fnX name qual params body scope [("__class__", cc)] dV kV doc pm an (.ref cda) ct), osl⟩) (hcd : codeIn K (.ref cda) qual = true) (S : NScope N ps ["__class__"] scope) (hcc : K.lookup cc = some ⟨cl0, cld, .cell cv, csl⟩)
    (len : ∀ vs H Q E, sp vs H Q E → vs.length = ps.length)
    (hbody : ∀ (A : Around) (outer : List Env) (s : Shared) (H : Hp) (vs : List V) (Q : VK) (E : XK), Room k (A.deeper (PySem.W.envX qual scope s.heap.objs.size f (.ref cda) [("__class__", cc)])) → sp vs H Q E →
      ∃ t, QS (ncx CX P w K mg base N ⟨name, qual, params, body, scope, [("__class__", cc)], cda⟩ f A outer s H E) body body t ∧ t { nx := fun _ H' => Q .non H', rt := Q } (startF N vs [none]) H) :
    FnOk P w K mg base CX (k + 1) f (PySem.W.fnX name qual params body scope [("__class__", cc)] dV kV doc pm an (.ref cda) ct) ps sp := by
  refine ⟨len, fun A outer s H args us vs Q E hr e0 hb r hsp => ?_⟩
  have hl := len _ _ _ _ hsp
  have KX : K.In s.heap := e0.mod.kin.keeps fun b o e => (e0.bs b o e).1
  have lim : s.heap.NoLimit := e0.mod.nolimit.keeps fun b o e => (e0.bs b o e).1
  have hcn : H cc = none := (e0.bs cc _ (e0.mod.kin _ _ hcc)).2
  have C : CellsAt [(("__class__" : Str), cc)] ["__class__"] [none] s.heap H := by
    have lc : ∀ (y : Str) (c : Addr), List.lookup y [(("__class__" : Str), cc)] = some c → y = "__class__" ∧ c = cc := fun y c e => by
      unfold List.lookup at e
      split at e
      · next z => exact ⟨beq_iff_eq.mp z, (Option.some.inj e).symm⟩
      · cases e
    refine ⟨rfl, fun y c e => ?_, fun x y c e1 e2 => (lc x c e1).1.trans (lc y c e2).1.symm, fun i y e => ?_⟩
    · obtain ⟨_, rfl⟩ := lc y c e
      exact ⟨hcn, cv, _, KX _ _ hcc, rfl⟩
    · cases i with
      | zero =>
        cases e
        exact ⟨cc, by simp [List.lookup], fun v z => by cases z⟩
      | succ i => cases e
  refine ks_codeAny_call_defAt (fd := PySem.W.fnX name qual params body scope [("__class__", cc)] dV kV doc pm an (.ref cda) ct) (body := body) (binds := ps.zip us) hr.depth (KX _ _ lk) rfl lim (PySem.W.codeRec_of KX hcd) rfl hb S.nocell (fun ⟨n, _⟩ hy => S.par n (List.of_mem_zip hy).1) (fun h₁ hns kp => ?_) S.co S.gen S.kind
  obtain ⟨t, ht, hq⟩ := hbody A outer s H vs Q E (hr.deeper _) hsp
  have I : Inv (ncx CX P w K mg base N ⟨name, qual, params, body, scope, [("__class__", cc)], cda⟩ f A outer s H E) [] (startF N vs [none]) H { s with heap := h₁, toks := s.toks + (ps.zip us).length } := inv_startN (F := ⟨name, qual, params, body, scope, [("__class__", cc)], cda⟩) S hr.hd e0 hl r C hns kp
  refine ks_wpAt_mono (ht.run [] _ (startF N vs [none]) H _ I hq) (fun fl s' hs => ?_) fun e s' hs => hs
  have fin : ∀ {σ' : L2.St} {H' : Hp} {v : V} {u : Value}, Inv (ncx CX P w K mg base N ⟨name, qual, params, body, scope, [("__class__", cc)], cda⟩ f A outer s H E) [] σ' H' s' → L2.RelV v u → Q v H' → CE outer P w H s Q u s' :=
    fun {σ' H' v u} J rv q => ⟨v, H', J.os, J.bare, J.base, J.hok, rv, q⟩
  cases fl with
  | ret u =>
    obtain ⟨v, σ', H', J, rv, q⟩ := hs
    exact fin J rv q
  | next =>
    obtain ⟨σ', H', J, q⟩ := hs
    exact fin (v := V.non) (u := Value.none) J rfl q
  | brk =>
    obtain ⟨_, _, _, q⟩ := hs
    exact False.elim q
  | cont =>
    obtain ⟨_, _, _, q⟩ := hs
    exact False.elim q
end
end SuX

/-! S2 -/
/-! ### Body made; what the law hears -/
namespace L2
open PySem PySem.Spec PyProof.Rows
theorem fnok_or {P : Program} {w : World} {K : PySem.W.Frag} {mg : Str → Option Value} {base : Heap} {CX : CXT} {k : Nat} {f : Addr} {fd : FuncData} {ps : List Str} {sp sq : Sp} (a : FnOk P w K mg base CX k f fd ps sp) (b : FnOk P w K mg base CX k f fd ps sq) : FnOk P w K mg base CX k f fd ps (fun vs H Q E => sp vs H Q E ∨ sq vs H Q E) :=
  ⟨fun vs H Q E h => h.elim (a.len vs H Q E) (b.len vs H Q E), fun A outer s H args us vs Q E hr e0 hb r h => h.elim (a.run A outer s H args us vs Q E hr e0 hb r) (b.run A outer s H args us vs Q E hr e0 hb r)⟩
theorem fnok_of {P : Program} {w : World} {K : PySem.W.Frag} {mg : Str → Option Value} {base : Heap} {CX : CXT} {k : Nat} {f : Addr} {fd : FuncData} {ps : List Str} {sp sq : Sp} (a : FnOk P w K mg base CX k f fd ps sp) (m : ∀ vs H Q E, sq vs H Q E → sp vs H Q E) : FnOk P w K mg base CX k f fd ps sq :=
  ⟨fun vs H Q E h => a.len vs H Q E (m vs H Q E h), fun A outer s H args us vs Q E hr e0 hb r h => a.run A outer s H args us vs Q E hr e0 hb r (m vs H Q E h)⟩
/-- an instance made within a try -/
def tMakeT (C : Addr) (sp : Sp) (E : L2.St → XK) (t : TA) : TE := fun σ H Q => t σ H fun vs H1 => ∀ x dx, H1 x = none → H1 dx = none → dx ≠ x → sp (.ref x :: (vs ++ [])) (upd (upd H1 dx (.own x)) x (.ins C dx [])) (fun v H2 => v = .non ∧ Q (.ref x) H2) (E σ)
section
variable {X : Cx} {CX : CXT} {k : Nat} {f C : Addr} {fd : FuncData} {ps : List Str} {sp : Sp} {E : L2.St → XK} {x : Str} {e : Expr} {es : List Expr} {t : TA} {p pos : Pos}
theorem make_at {e : XK} {pins : List (Addr × Obj)} {σ : L2.St} {H : Hp} {s : Shared} {Q : VK} {us : List Value} {vs : List V} (M : Mk X.K C f) (F : FnOk X.prog X.w X.K X.mg X.base CX k f fd ps sp) (hr : Room (k + 1) X.A) (hb : Binds X.K fd ps []) (hx : PassesAt CX X σ e) (I : Inv X pins σ H s) (r : Vals vs us)
    (h : ∀ x dx, H x = none → H dx = none → dx ≠ x → sp (.ref x :: (vs ++ [])) (upd (upd H dx (.own x)) x (.ins C dx [])) (fun v H2 => v = .non ∧ Q (.ref x) H2) e) : wpAny (model X.prog X.w) X.A (call (.ref C) us) (EP X pins σ Q) X.xe s := by
  have q0 := h (s.heap.objs.size + 1) s.heap.objs.size (I.hok.fresh (Nat.le_succ _)) (I.hok.fresh (Nat.le_refl _)) (Nat.succ_ne_self _).symm
  have J := Inv.made (C := C) I
  have rr : Vals (V.ref (s.heap.objs.size + 1) :: (vs ++ [])) (Value.ref (s.heap.objs.size + 1) :: (us ++ [])) := .cons rfl (r.append .nil)
  have l0 : (Value.ref (s.heap.objs.size + 1) :: us ++ []).length = ps.length := by
    rw [← F.len _ _ _ _ q0]
    exact rr.length.symm
  have bd := hb _ (Value.ref (s.heap.objs.size + 1) :: us) J.kIn l0
  have go := F.run _ X.stack _ _ ⟨Value.ref (s.heap.objs.size + 1) :: us, []⟩ _ _ _ e (hr.make C us []) (J.env0.make C us []) bd rr q0
  refine wpAny_call (make_map (f := f) I.kIn M.makes M.init (beq_iff_eq.mp M.fn) (codeAny_mono go ?_))
  intro res s' hres
  match res, hres with
  | .error er, hres => exact hx pins _ _ er s' J hres
  | .ok (.ret u), hres =>
    obtain ⟨v, H2, I2, rv, rfl, q2⟩ := J.after hres
    exact ⟨rv, ⟨V.ref (s.heap.objs.size + 1), H2, I2, rfl, q2⟩⟩
  | .ok .next, hres => exact hres.elim
  | .ok .brk, hres => exact hres.elim
  | .ok .cont, hres => exact hres.elim
theorem pe_makeT (M : Mk X.K C f) (F : FnOk X.prog X.w X.K X.mg X.base CX k f fd ps sp) (hr : Room (k + 1) X.A) (hg : Gl X x) (hm : X.mg x = some (.ref C)) (hb : Binds X.K fd ps []) (hx : ∀ σ, PassesAt CX X σ (E σ)) (ha : PA X (e :: es) t) (hdb : (x == ("__debug__" : Str)) = false := by decide)
    (he : starEach (e :: es) X.env = (false, eval e X.env) :: starEach es X.env := by rfl) (hpl : (backTo pos (starEach es X.env)).any (·.1) = false := by rfl) : PE X (.Call (.Name x p) (e :: es) [] pos) (tMakeT C sp E t) :=
  ⟨fun pins s σ H Q I h => wpAny_Call_Name_kw (ld_glob I hg hm (PySem.W.callWith_K (h₀ := X.base) I.ok.mod.kin M.kp (thn (ha.run pos pins s σ H _ I h) fun us s1 ⟨vs, H1, I1, r, q⟩ => ⟨I1.kIn, make_at M F hr hb (hx σ) I1 r q⟩) he hpl) hdb)⟩
end
end L2
namespace Tr
open PySem PySem.Spec PyProof.Rows L2 Rw NdefX SuX
open PySem.W (clsIn mroIn typeIn nsIn ks_superIn fnIn codeIn keepIn fnX envX)
/-- what a class's own instance is not a part of -/
theorem sqL_but {K : PySem.W.Frag} {H H' : Hp} {x C dx a : Addr} {fs : List (Str × V)} {xs : List V} (b : SameBut x H H') (hx : H x = some (.ins C dx fs)) (h : SqL K H a xs) : SqL K H' a xs := by
  rcases h with (h | ⟨ob, h⟩) | h
  · exact .inl (.inl (b _ _ (fun e => by rw [e, hx] at h; cases h) h))
  · exact .inl (.inr ⟨ob, b _ _ (fun e => by rw [e, hx] at h; cases h) h⟩)
  · exact .inr h
mutual
theorem dp_but {K : PySem.W.Frag} {H H' : Hp} {x C dx : Addr} {fs : List (Str × V)} (b : SameBut x H H') (hx : H x = some (.ins C dx fs)) : ∀ (d : D) (v : V), Dp K H v d → Dp K H' v d
  | .none, _, h => by cases h; exact .non
  | .bool _, _, h => by cases h; exact .bl _
  | .int _, _, h => by cases h; exact .int _
  | .str _, _, h => by cases h; exact .str _
  | .list ds, _, h => by
    cases h with
    | lst h1 h2 => exact .lst (sqL_but b hx h1) (dps_but b hx ds _ h2)
  | .tuple ds, _, h => by
    cases h with
    | tup h1 h2 => exact .tup (sqT_but b hx h1) (dps_but b hx ds _ h2)
  | .dict _, _, h => by cases h
theorem dps_but {K : PySem.W.Frag} {H H' : Hp} {x C dx : Addr} {fs : List (Str × V)} (b : SameBut x H H') (hx : H x = some (.ins C dx fs)) : ∀ (ds : List D) (vs : List V), DpAll K H vs ds → DpAll K H' vs ds
  | [], _, h => by cases h; exact .nil
  | d :: ds, _, h => by
    cases h with
    | cons h1 h2 => exact .cons (dp_but b hx d _ h1) (dps_but b hx ds _ h2)
end
theorem txt_but {K : PySem.W.Frag} {H H' : Hp} {x C dx : Addr} {fs : List (Str × V)} (b : SameBut x H H') (hx : H x = some (.ins C dx fs)) {v : V} {ns : List Str} : TxtT K H v ns → TxtT K H' v ns
  | ⟨p, e, q⟩ => ⟨p, e, sqT_but b hx q⟩
theorem WayT.but {K : PySem.W.Frag} {H H' : Hp} {x C dx : Addr} {fs : List (Str × V)} (b : SameBut x H H') (hx : H x = some (.ins C dx fs)) {v : V} {ns : List Nat} (h : WayT K H v ns) : WayT K H' v ns := let ⟨p, e, q⟩ := h; ⟨p, e, sqT_but b hx q⟩
theorem fault_tup {d : D} (h : faultB d = none) : ∃ ds, d = .tuple ds ∧ (misl ds 0).contains true = false ∧ (flat ds).length ≤ 8 ∧ ds ≠ [] := by
  cases d with
  | tuple ds =>
    have h : faultL ds = none := h
    unfold faultL at h
    split at h
    · cases h
    · next he =>
      split at h
      · cases h
      · next hf =>
        split at h
        · cases h
        · next h8 => exact ⟨ds, rfl, find_none hf, by omega, fun e => he (by rw [e]; rfl)⟩
  | _ => cases h
/-- a def of a class that says super() -/
structure FunS (K : PySem.W.Frag) (x qual : Str) (st : Stmt) (f : Addr) (fd : FuncData) (cc cda : Addr) : Prop where
  ex : ∃ (oc : Value) (od : Option Addr) (kV doc pm : Value) (an : Option Addr) (ct : Value) (osl : Array (Option Value)),
    fd = fnX x qual (defArgs st) (defBody st) (defScope st) [("__class__", cc)] .none kV doc pm an (.ref cda) ct ∧ K.lookup f = some ⟨oc, od, .func fd, osl⟩ ∧ codeIn K (.ref cda) qual = true
  kp : keepIn K (.ref f) = true
structure SupTop (P : Program) (K : PySem.W.Frag) (mg : Str → Option Value) (cda cc D : Addr) : Prop where
  cd : ∃ ccl cdd vs ccs file tf, K.lookup cda = some ⟨ccl, cdd, .fields vs, ccs⟩ ∧ vs[2]? = some (.str file tf) ∧ ((P.main.file : Str) == file) = true
  ht : (P.main.scope.names.lookup ("super" : Str)).isSome = false
  cl : ∃ cl cld csl, K.lookup cc = some ⟨cl, cld, .cell (some (.ref D)), csl⟩
  dd : ∃ cdD, clsIn K D = some cdD
  mg : mg "super" = none
abbrev nfS (x qual : Str) (st : Stmt) (cc cda : Addr) : NF := ⟨x, qual, defArgs st, defBody st, defScope st, [("__class__", cc)], cda⟩
section
variable {P : Program} {w : World} {K : PySem.W.Frag} {mg : Str → Option Value} {base : Heap} {x qual : Str} {st : Stmt} {f cc cda D : Addr} {fd : FuncData} {N ps : List Str} {k : Nat} {sp : Sp}
theorem FunS.okX (F : FunS K x qual st f fd cc cda) (S : NScope N ps ["__class__"] (defScope st)) (T : SupTop P K mg cda cc D) (len : ∀ vs H Q E, sp vs H Q E → vs.length = ps.length)
    (hbody : ∀ (A : Around) (outer : List Env) (s : Shared) (H : Hp) (vs : List V) (Q : VK) (E : XK), Room k (A.deeper (envX qual (defScope st) s.heap.objs.size f (.ref cda) [("__class__", cc)])) → sp vs H Q E →
      ∃ t, QS (ncx (L2.CX P w) P w K mg base N (nfS x qual st cc cda) f A outer s H E) (defBody st) (defBody st) t ∧ t { nx := fun _ H' => Q .non H', rt := Q } (startF N vs [none]) H) :
    FnOk P w K mg base (L2.CX P w) (k + 1) f fd ps sp := by
  obtain ⟨oc, od, kV, doc, pm, an, ct, osl, rfl, lk, hcd⟩ := F.ex
  obtain ⟨cl, cld, csl, hc⟩ := T.cl
  exact fn_ofS lk hcd S hc len hbody
theorem FunS.binds (F : FunS K x qual st f fd cc cda) (h : ∀ (kV doc pm : Value) (an : Option Addr) (ct : Value) (us : List Value), us.length = ps.length → bindArgs (fnX x qual (defArgs st) (defBody st) (defScope st) [("__class__", cc)] .none kV doc pm an (.ref cda) ct) ⟨us, []⟩ = pure (ps.zip us)) : Binds K fd ps [] := by
  obtain ⟨oc, od, kV, doc, pm, an, ct, osl, rfl, lk, hcd⟩ := F.ex
  exact Binds.all (h kV doc pm an ct)
theorem supF {A : Around} {outer : List Env} {s : Shared} {H : Hp} {E : XK} {ar : Str} (F : FunS K x qual st f fd cc cda) (T : SupTop P K mg cda cc D) (hp : ∃ a, ((defArgs st).posonlyargs ++ (defArgs st).args).head? = some a ∧ a.arg = ar)
    (sk : (defScope st).names.lookup ("super" : Str) = some .globalImplicit) (ck : (defScope st).names.lookup ("__class__" : Str) = some .free) (ak : (defScope st).names.lookup ar = some .local) :
    SupF (ncx (L2.CX P w) P w K mg base N (nfS x qual st cc cda) f A outer s H E) ar f cda cc D := by
  obtain ⟨oc, od, kV, doc, pm, an, ct, osl, rfl, lk, hcd⟩ := F.ex
  obtain ⟨a, h1, h2⟩ := hp
  exact ⟨sk, ck, ak, rfl, rfl, rfl, ⟨oc, od, _, osl, a, lk, h1, h2⟩, T.cd, T.ht, T.cl, T.dd, T.mg⟩
theorem passN {A : Around} {outer : List Env} {s : Shared} {H : Hp} {E : XK} {F : NF} : Passes (L2.CX P w) (ncx (L2.CX P w) P w K mg base N F f A outer s H E) E := passes_call (takes_of rfl rfl rfl rfl) fun _ _ _ _ h => h
end
/-- an instance of C, of a thread's shape -/
structure ThrC (K : PySem.W.Frag) (C : Addr) : Prop where
  cl : Cls K C
  nC : NoAttr K C "_code"
  nL : NoAttr K C "_listed"
  nW : NoAttr K C "_ways"
  nH : NoAttr K C "_held"
  nB : NoAttr K C "_label"
  nG : NoAttr K C "_gate"
/-- what a raise leaves while x is being made -/
def LeftB (x : Addr) (H : Hp) (n : Str) (v : V) (d : Addr) (H' : Hp) : Prop := SameBut x H H' ∧ H d = none ∧ H' d = some (.xd [(n, v)])
theorem LeftB.of {x : Addr} {H : Hp} {n : Str} {v : V} {d : Addr} {H' : Hp} (h : Left H n v d H') : LeftB x H n v d H' := ⟨but_of h.1, h.2⟩
theorem LeftB.before {x : Addr} {H0 H : Hp} {n : Str} {v : V} {d : Addr} {H' : Hp} {o : HO} (s : SameBut x H0 H) (hx : H x = some o) (h : LeftB x H n v d H') : LeftB x H0 n v d H' :=
  ⟨s.trans h.1, (by
    cases e : H0 d with
    | none => rfl
    | some u =>
      by_cases z : d = x
      · have e2 := h.2.1
        rw [z, hx] at e2
        cases e2
      · have e2 := h.2.1
        rw [s d u z e] at e2
        cases e2), h.2.2⟩
abbrev f4 (v : V) (l1 l2 l3 : Addr) : List (Str × V) := [("_code", v), ("_listed", .ref l1), ("_ways", .ref l2), ("_held", .ref l3)]
def IsThr (K : PySem.W.Frag) (C : Addr) (H : Hp) (a : Addr) (v : V) (ds : List D) (more : List (Str × V)) : Prop := ∃ (dx l1 l2 l3 : Addr) (ys zs us : List V), H a = some (.ins C dx (f4 v l1 l2 l3 ++ more)) ∧ Dp K H v (.tuple ds) ∧
  H l1 = some (.lst ys) ∧ DpAll K H ys (flat ds) ∧ H l2 = some (.lst zs) ∧ All2 (WayT K H) zs (wa ds 0 (flat ds).length) ∧ H l3 = some (.lst us) ∧ All2 (TxtT K H) us (hl ds [] ++ [[]])
theorem IsThr.same {K : PySem.W.Frag} {C : Addr} {H H' : Hp} (s : Same H H') {a : Addr} {v : V} {ds : List D} {more : List (Str × V)} (h : IsThr K C H a v ds more) : IsThr K C H' a v ds more := by
  obtain ⟨dx, l1, l2, l3, ys, zs, us, h0, h1, h2, h3, h4, h5, h6, h7⟩ := h
  exact ⟨dx, l1, l2, l3, ys, zs, us, s _ _ h0, h1.same s, s _ _ h2, h3.same s, s _ _ h4, h5.mono fun _ _ z => z.same s, s _ _ h6, h7.mono fun _ _ z => z.same s⟩
/-- a field more -/
theorem IsThr.put {K : PySem.W.Frag} {C : Addr} {H : Hp} {a dx : Addr} {v : V} {ds : List D} {more fs : List (Str × V)} {o : HO} {n : Str × V} (h : IsThr K C H a v ds more) (hx : H a = some (.ins C dx fs)) (ho : o = .ins C dx (fs ++ [n])) : IsThr K C (upd H a o) a v ds (more ++ [n]) := by
  obtain ⟨dx', l1, l2, l3, ys, zs, us, h0, h1, h2, h3, h4, h5, h6, h7⟩ := h
  rw [hx] at h0
  cases h0
  subst ho
  have b : SameBut a H (upd H a (.ins C dx (f4 v l1 l2 l3 ++ more ++ [n]))) := but_upd
  refine ⟨dx, l1, l2, l3, ys, zs, us, by rw [upd_same, List.append_assoc], dp_but b hx _ _ h1, b _ _ (ne_of_ins hx h2) h2, dps_but b hx _ _ h3, b _ _ (ne_of_ins hx h4) h4, h5.mono fun _ _ z => WayT.but b hx z, b _ _ (ne_of_ins hx h6) h6, h7.mono fun _ _ t => txt_but b hx t⟩
def spBg (K : PySem.W.Frag) (CI : Addr) (n : Nat) : Sp := fun vs H Q E => ∃ (x C dx : Addr) (v : V) (o : D), vs = [.ref x, v] ∧ H x = some (.ins C dx []) ∧ ThrC K C ∧ Dp K H v o ∧ FitD n o ∧
  (faultB o = none → ∀ ds, o = .tuple ds → ∀ H', SameBut x H H' → IsThr K C H' x v ds [] → Q .non H') ∧ (∀ r, faultB o = some r → ∀ t H', LeftB x H "place" r t H' → E (.ref CI) (some t) H')
section
variable {P : Program} {w : World} {K : PySem.W.Frag} {mg : Str → Option Value} {base : Heap}
abbrev sBI : Stmt := inClass (top 37) 0
theorem scBI : FnScope ["self", "items"] ["self", "items"] (defScope sBI) := ⟨rfl, rfl, rfl, by decide +kernel, rfl, by decide +kernel, by decide +kernel⟩
theorem ok_BI {f fC fF fA fH CI : Addr} {fd fdC fdF fdA fdH : FuncData} (F : Fun K "__init__" "Body.__init__" sBI f fd) (n : Nat)
    (GC : FnOk P w K mg base (L2.CX P w) (2 * n + 5) fC fdC ["value"] (spCB K CI (n + 1))) (TC : Called K mg "check_body" ["value"] fC fdC) (GF : FnOk P w K mg base CX0 (n + 2) fF fdF ["items"] (spFlat K n)) (TF : Called K mg "flat" ["items"] fF fdF)
    (GA : FnOk P w K mg base CX0 (2 * n + 4) fA fdA ["items", "start", "behind"] (spWA K n)) (TA : Called K mg "ways_along" ["items", "start", "behind"] fA fdA) (GH : FnOk P w K mg base CX0 (n + 2) fH fdH ["items", "around"] (spHl K n)) (TH : Called K mg "held_along" ["items", "around"] fH fdH)
    (m_len : mg "len" = none) : FnOk P w K mg base (L2.CX P w) (2 * n + 6) f fd ["self", "items"] (spBg K CI (n + 1)) := by
  refine F.okX scBI (fun vs H Q E h => ?_) (fun cdv A outer s H vs Q E hr h => ?_)
  · obtain ⟨x, C, dx, v, o, rfl, _⟩ := h
    rfl
  · obtain ⟨x, C, dx, v, o, rfl, hx, T, hv, ft, q, qE⟩ := h
    refine ⟨_, (pss_cons (ps_expr (pe_call GC (hr.mono (by first | decide | omega)) rfl TC.1 TC.2.1 TC.2.2 .nil passX (pa_cons (pv 1) pa_nil)))
       (pss_cons (ps_fld (pv 0) (pv 1) rfl)
       (pss_cons (ps_fld (pv 0) (pe_call GF (hr.mono (by first | decide | omega)) rfl TF.1 TF.2.1 TF.2.2 .nil pass0 (pa_cons (pv 1) pa_nil)) rfl)
       (pss_cons (ps_fld (pv 0) (pe_call GA (hr.mono (by first | decide | omega)) rfl TA.1 TA.2.1 TA.2.2 .nil pass0 (pa_cons (pv 1) (pa_cons pe_int (pa_cons (pe_callB (call_len_K (K := K) rfl) (by rfl) m_len PySem.boot_len (pa_cons (pe_fld (pv 0) rfl) pa_nil)) pa_nil)))) rfl)
       (pss_one (ps_fld (pv 0) (pe_op op_cat (pe_call GH (hr.mono (by first | decide | omega)) rfl TH.1 TH.2.1 TH.2.2 .nil pass0 (pa_cons (pv 1) (pa_cons (pe_tup pa_nil) pa_nil))) (pe_lst (pa_cons (pe_tup pa_nil) pa_nil))) rfl)))))), ?_⟩
    refine ⟨_, rfl, v, o, rfl, hv, ft, fun hf H1 s1 => ?_, fun r hr t H1 lf => qE r hr t H1 (LeftB.of lf)⟩
    obtain ⟨ds, rfl, hc, h8, _⟩ := fault_tup hf
    have q := q hf ds rfl
    have hd := hv
    have fin := ft.inside
    have brk : ∀ e ∈ flat ds, BrOk e := fun e he => (br_flat hc e he).1
    cases id hd with
    | @tup pt xs _ hp ha =>
    have hx1 := s1 _ _ hx
    have hp1 := s1.tupS hp
    have ha1 := ha.same s1
    have hd1 := hd.same s1
    -- self._code
    refine ⟨_, rfl, _, rfl, x, C, dx, [], rfl, hx1, T.cl, T.nC, by decide, ?_⟩
    have b1 : SameBut x H1 (upd H1 x (.ins C dx (putF "_code" (.ref pt) []))) := but_upd
    have hx2 : (upd H1 x (.ins C dx (putF "_code" (.ref pt) []))) x = some (.ins C dx [("_code", .ref pt)]) := upd_same
    generalize upd H1 x (.ins C dx (putF "_code" (.ref pt) [])) = H2 at b1 hx2
    -- self._listed
    have hp2 := sqT_but b1 hx1 hp1
    have ha2 := dps_but b1 hx1 _ _ ha1
    have hd2 := dp_but b1 hx1 _ _ hd1
    refine ⟨_, rfl, H2, pt, xs, ds, rfl, Same.refl _, hp2, ha2, fin, brk, fun H3 l1 ys s3 n1 hl1 hy => ?_⟩
    have ly := dpl hy
    have hx3 := s3 _ _ hx2
    refine ⟨_, rfl, x, C, dx, _, rfl, hx3, T.cl, T.nL, by show 1 < 1000; decide, ?_⟩
    have b3 : SameBut x H3 (upd H3 x (.ins C dx (putF "_listed" (.ref l1) [("_code", .ref pt)]))) := but_upd
    have hx4 : (upd H3 x (.ins C dx (putF "_listed" (.ref l1) [("_code", .ref pt)]))) x = some (.ins C dx [("_code", .ref pt), ("_listed", .ref l1)]) := upd_same
    generalize upd H3 x (.ins C dx (putF "_listed" (.ref l1) [("_code", .ref pt)])) = H4 at b3 hx4
    have hl4 := b3 _ _ (ne_of_ins hx3 hl1) hl1
    have hy4 := dps_but b3 hx3 _ _ (hy.same s3)
    have hp4 := sqT_but b3 hx3 (s3.tupS hp2)
    have ha4 := dps_but b3 hx3 _ _ (ha2.same s3)
    have hd4 := dp_but b3 hx3 _ _ (hd2.same s3)
    -- self._ways
    refine ⟨_, rfl, _, rfl, x, C, dx, _, _, rfl, hx4, T.cl, T.nL, rfl, l1, _, rfl, .inl (SqL.of hl4), pt, xs, ds, 0, ys.length, rfl, hp4, ha4, fin, brk, by omega, fun H5 l2 zs s5 n2 hl2 hz => ?_⟩
    rw [ly] at hz
    have hx5 := s5 _ _ hx4
    refine ⟨_, rfl, x, C, dx, _, rfl, hx5, T.cl, T.nW, by show 2 < 1000; decide, ?_⟩
    have b5 : SameBut x H5 (upd H5 x (.ins C dx (putF "_ways" (.ref l2) [("_code", .ref pt), ("_listed", .ref l1)]))) := but_upd
    have hx6 : (upd H5 x (.ins C dx (putF "_ways" (.ref l2) [("_code", .ref pt), ("_listed", .ref l1)]))) x = some (.ins C dx [("_code", .ref pt), ("_listed", .ref l1), ("_ways", .ref l2)]) := upd_same
    generalize upd H5 x (.ins C dx (putF "_ways" (.ref l2) [("_code", .ref pt), ("_listed", .ref l1)])) = H6 at b5 hx6
    have hl46 := b5 _ _ (ne_of_ins hx5 (s5 _ _ hl4)) (s5 _ _ hl4)
    have hy6 := dps_but b5 hx5 _ _ (hy4.same s5)
    have hp6 := sqT_but b5 hx5 (s5.tupS hp4)
    have ha6 := dps_but b5 hx5 _ _ (ha4.same s5)
    have hd6 := dp_but b5 hx5 _ _ (hd4.same s5)
    have hl26 := b5 _ _ (ne_of_ins hx5 hl2) hl2
    have hz6 := hz.mono fun _ _ z => WayT.but b5 hx5 z
    -- self._held
    refine ⟨_, rfl, Nat.zero_le _, fun z nz => ?_⟩
    have s6 := same_upd (o := HO.tup []) nz
    refine ⟨pt, .ref z, xs, ds, [], rfl, s6.tupS hp6, ha6.same s6, fin, brk, ⟨z, rfl, SqT.of upd_same⟩, by rw [List.length_nil]; omega, fun H7 l3 us s7 n3 hl3 hu => ?_⟩
    have lu := hu.length
    rw [hl_len] at lu
    refine ⟨Nat.zero_le _, fun z1 nz1 => ⟨by show 1 ≤ sizeLine; decide, fun l4 nl4 => ?_⟩⟩
    have s8 := same_upd (o := HO.tup []) nz1
    have s9 := same_upd (o := HO.lst [V.ref z1]) nl4
    have s89 := s8.trans s9
    have t1 : TxtT K (upd (upd H7 z1 (HO.tup [])) l4 (HO.lst [V.ref z1])) (.ref z1) [] := ⟨z1, rfl, SqT.of (s9 _ _ upd_same)⟩
    have e9 : (upd (upd H7 z1 (HO.tup [])) l4 (HO.lst [V.ref z1])) l4 = some (.lst [V.ref z1]) := upd_same
    generalize upd (upd H7 z1 (HO.tup [])) l4 (HO.lst [V.ref z1]) = H9 at s9 s89 t1 e9
    refine ⟨l3, l4, us, _, rfl, rfl, s89 _ _ hl3, e9, by rw [sizeLine_eq]; show us.length + 1 ≤ _; omega, fun l5 n5 => ?_⟩
    have s10 := same_upd (o := HO.lst (us ++ [V.ref z1])) n5
    have e10 : (upd H9 l5 (.lst (us ++ [V.ref z1]))) l5 = some (.lst (us ++ [V.ref z1])) := upd_same
    generalize upd H9 l5 (.lst (us ++ [V.ref z1])) = H10 at s10 e10
    have s710 := s89.trans s10
    have s610 := (s6.trans s7).trans s710
    have hx10 := s610 _ _ hx6
    refine ⟨_, rfl, x, C, dx, _, rfl, hx10, T.cl, T.nH, by show 3 < 1000; decide, ?_⟩
    have b10 : SameBut x H10 (upd H10 x (.ins C dx (putF "_held" (.ref l5) [("_code", .ref pt), ("_listed", .ref l1), ("_ways", .ref l2)]))) := but_upd
    have b : SameBut x H (upd H10 x (.ins C dx (putF "_held" (.ref l5) [("_code", .ref pt), ("_listed", .ref l1), ("_ways", .ref l2)]))) := (but_of s1).trans (b1.trans ((but_of s3).trans (b3.trans ((but_of s5).trans (b5.trans ((but_of s610).trans b10))))))
    refine q _ b ⟨dx, l1, l2, l5, ys, zs, us ++ [V.ref z1], upd_same, dp_but b10 hx10 _ _ (hd6.same s610), b10 _ _ (ne_of_ins hx10 (s610 _ _ hl46)) (s610 _ _ hl46), dps_but b10 hx10 _ _ (hy6.same s610), b10 _ _ (ne_of_ins hx10 (s610 _ _ hl26)) (s610 _ _ hl26), hz6.mono fun _ _ z => WayT.but b10 hx10 (z.same s610), b10 _ _ (ne_of_ins hx10 e10) e10, ?_⟩
    exact ((hu.mono fun _ _ t => t.same s710).append (.cons (t1.same s10) .nil)).mono fun _ _ t => txt_but b10 hx10 t
abbrev sCo : Stmt := inClass (top 37) 1
theorem scCo : FnScope ["self"] ["self"] (defScope sCo) := ⟨rfl, rfl, rfl, by decide +kernel, rfl, by decide +kernel, by decide +kernel⟩
theorem ok_Co {f C : Addr} {fd : FuncData} (F : Fun K "code" "Body.code" sCo f fd) (cl : Cls K C) (n : NoAttr K C "_code") : FnOk P w K mg base CX0 1 f fd ["self"] (getSp C "_code") := by
  obtain ⟨oc, od, kV, doc, pm, an, cdv, ct, osl, rfl, lk, hcd⟩ := F.ex
  exact fn_getter lk hcd scCo rfl rfl cl n
end
end Tr

/-! S3 -/
/-! ### names, pieces and crowds looked at -/
namespace Tr
open PySem PySem.Spec PyProof.Rows L2 Rw NdefX SuX
def spR2 (K : PySem.W.Frag) (n1 n2 : Str) : Sp := fun vs H Q _ => ∃ (a C fI : Addr) (v1 v2 : V), vs = [.ref a, v1, v2] ∧ OexG K C fI ∧ PySem.W.findIn K (.ref C) n1 = some none ∧ PySem.W.findIn K (.ref C) n2 = some none ∧ H a = some (exo a C none) ∧
  ∀ H' d, SameBut a H H' → H' a = some (exo a C (some d)) → H' d = some (exd d [(n2, v2), (n1, v1)]) → H d = none → d ≠ a → Q .non H'
def Left2 (H : Hp) (n1 : Str) (v1 : V) (n2 : Str) (v2 : V) (d : Addr) (H' : Hp) : Prop := Same H H' ∧ H d = none ∧ H' d = some (.xd [(n2, v2), (n1, v1)])
theorem Left2.before {H0 H H' : Hp} {n1 n2 : Str} {v1 v2 : V} {d : Addr} (s : Same H0 H) (h : Left2 H n1 v1 n2 v2 d H') : Left2 H0 n1 v1 n2 v2 d H' := ⟨s.trans h.1, s.free h.2.1, h.2.2⟩
theorem raise2 {K : PySem.W.Frag} {C fI a : Addr} {H : Hp} {n1 n2 : Str} {v1 v2 : V} {Q : XK} (T : OexG K C fI) (no1 : PySem.W.findIn K (.ref C) n1 = some none) (no2 : PySem.W.findIn K (.ref C) n2 = some none) (na : H a = none) (q : ∀ d H', Left2 H n1 v1 n2 v2 d H' → Q (.ref C) (some d) H') :
    spR2 K n1 n2 [.ref a, v1, v2] (upd H a (exo a C none)) (fun u H2 => u = .non ∧ ∃ (d : Addr) (fs : List (Str × V)), H2 a = some (exo a C (some d)) ∧ H2 d = some (exd d fs) ∧ H d = none ∧ Q (.ref C) (some d) (upd (del H2 a) d (.xd fs))) (fun _ _ _ => False) := by
  refine ⟨a, C, fI, v1, v2, rfl, T, no1, no2, upd_same, fun H' d sb e1 e2 nd ne => ⟨rfl, d, _, e1, e2, ?_, q _ _ ⟨fun b o hb => ?_, ?_, upd_same⟩⟩⟩
  · rw [upd_ne ne] at nd
    exact nd
  · have hb1 : b ≠ a := ne_of_none hb na
    rw [upd_ne ne] at nd
    rw [upd_ne (ne_of_none hb nd), del_ne hb1]
    exact sb b o hb1 (by rw [upd_ne hb1]; exact hb)
  · rw [upd_ne ne] at nd
    exact nd
structure Er2 (P : Program) (w : World) (K : PySem.W.Frag) (mg : Str → Option Value) (base : Heap) (x n1 n2 : Str) (C fI : Addr) (fd : FuncData) : Prop where
  g : mg x = some (.ref C)
  o : OexG K C fI
  no1 : PySem.W.findIn K (.ref C) n1 = some none
  no2 : PySem.W.findIn K (.ref C) n2 = some none
  F : FnOk P w K mg base CX0 1 fI fd ["self", n1, n2] (spR2 K n1 n2)
  b : Binds K fd ["self", n1, n2] []
def LeftB2 (x : Addr) (H : Hp) (n1 : Str) (v1 : V) (n2 : Str) (v2 : V) (d : Addr) (H' : Hp) : Prop := SameBut x H H' ∧ H d = none ∧ H' d = some (.xd [(n2, v2), (n1, v1)])
theorem LeftB2.before {x : Addr} {H0 H : Hp} {n1 n2 : Str} {v1 v2 : V} {d : Addr} {H' : Hp} {o : HO} (s : SameBut x H0 H) (hx : H x = some o) (h : Left2 H n1 v1 n2 v2 d H') : LeftB2 x H0 n1 v1 n2 v2 d H' :=
  ⟨s.trans (but_of h.1), (by
    cases e : H0 d with
    | none => rfl
    | some u =>
      by_cases z : d = x
      · have e2 := h.2.1
        rw [z, hx] at e2
        cases e2
      · have e2 := h.2.1
        rw [s d u z e] at e2
        cases e2), h.2.2⟩
def pieceAt (ds : List D) : Option Nat := (flat ds).findIdx? fun d => decide (wD d = "piece")
def crowd5 : List Str := ["use", "start", "test", "choose", "piece"]
def crowdAt (ds : List D) : Option Nat := (flat ds).findIdx? fun d => !decide (wD d ∈ crowd5)
theorem find_at {α : Type} {l : List α} {p : α → Bool} {i : Nat} {d : α} (h : ∀ j, j < i → ∀ e, l[j]? = some e → p e = false) (hd : l[i]? = some d) (hp : p d = true) : l.findIdx? p = some i := by
  rw [List.findIdx?_eq_some_iff_getElem]
  obtain ⟨hi, he⟩ := List.getElem?_eq_some_iff.mp hd
  refine ⟨hi, by rw [he]; exact hp, fun j hj => ?_⟩
  have z := h j hj _ (List.getElem?_eq_getElem (by omega))
  rw [z]
  exact Bool.false_ne_true
theorem find_no {α : Type} {l : List α} {p : α → Bool} (h : ∀ j, j < l.length → ∀ e, l[j]? = some e → p e = false) : l.findIdx? p = none := by
  rw [List.findIdx?_eq_none_iff]
  intro x hx
  obtain ⟨j, hj⟩ := List.getElem?_of_mem hx
  exact h j (List.getElem?_eq_some_iff.mp hj).1 x hj
def spCN (K : PySem.W.Frag) (CU : Addr) : Sp := fun vs H Q E => ∃ (v : V) (b : Bool), vs = [v] ∧ NV K H v b ∧ (b = true → ∀ H', Same H H' → Q .non H') ∧ (b = false → ∀ t H', Left H "name" v t H' → E (.ref CU) (some t) H')
def spCP (K : PySem.W.Frag) (CI : Addr) (n : Nat) : Sp := fun vs H Q E => ∃ (p : Addr) (xs : List V) (ds : List D), vs = [.ref p] ∧ SqT K H p xs ∧ DpAll K H xs ds ∧ Fits n ds ∧ (∀ d ∈ flat ds, BrOk d) ∧ (pieceAt ds = none → ∀ H', Same H H' → Q .non H') ∧ (∀ i : Nat, pieceAt ds = some i → ∀ t H', Left H "place" (.int (i : Nat)) t H' → E (.ref CI) (some t) H')
def spCC (K : PySem.W.Frag) (CC : Addr) (n : Nat) : Sp := fun vs H Q E => ∃ (nm : V) (p : Addr) (xs : List V) (ds : List D), vs = [nm, .ref p] ∧ SqT K H p xs ∧ DpAll K H xs ds ∧ Fits n ds ∧ (∀ d ∈ flat ds, BrOk d) ∧ (crowdAt ds = none → ∀ H', Same H H' → Q .non H') ∧ (∀ i : Nat, crowdAt ds = some i → ∀ t H', Left2 H "name" nm "place" (.int (i : Nat)) t H' → E (.ref CC) (some t) H')
section
variable {P : Program} {w : World} {K : PySem.W.Frag} {mg : Str → Option Value} {base : Heap}
abbrev sUN : Stmt := inClass (top 6) 0
theorem scUN : FnScope ["self", "name"] ["self", "name"] (defScope sUN) := ⟨rfl, rfl, rfl, by decide +kernel, rfl, by decide +kernel, by decide +kernel⟩
theorem ok_UN {f : Addr} {fd : FuncData} (F : Fun K "__init__" "UnknownName.__init__" sUN f fd) : FnOk P w K mg base CX0 1 f fd ["self", "name"] (spR1 K "name") := by
  refine F.ok scUN (fun vs H Q E h => ?_) (fun cdv A outer s H vs Q E hr h => ?_)
  · obtain ⟨a, C, fI, v, rfl, _⟩ := h
    rfl
  · obtain ⟨a, C, fI, v, rfl, T, hn, ea, q⟩ := h
    refine ⟨_, pss_one (ps_ostG (pv 0) (pv 1)), ?_⟩
    refine ⟨_, rfl, _, rfl, a, C, fI, rfl, T, hn, .inl ⟨ea, fun dx n ne => ?_⟩⟩
    refine q _ dx (fun b o hb e => ?_) upd_same (by rw [upd_ne ne, upd_same]) n ne
    rw [upd_ne hb, upd_ne (ne_of_none e n)]
    exact e
abbrev sNC : Stmt := inClass (top 4) 0
theorem scNC : FnScope ["self", "name", "place"] ["self", "name", "place"] (defScope sNC) := ⟨rfl, rfl, rfl, by decide +kernel, rfl, by decide +kernel, by decide +kernel⟩
theorem ok_NC {f : Addr} {fd : FuncData} (F : Fun K "__init__" "NotACrowd.__init__" sNC f fd) : FnOk P w K mg base CX0 1 f fd ["self", "name", "place"] (spR2 K "name" "place") := by
  refine F.ok scNC (fun vs H Q E h => ?_) (fun cdv A outer s H vs Q E hr h => ?_)
  · obtain ⟨a, C, fI, v1, v2, rfl, _⟩ := h
    rfl
  · obtain ⟨a, C, fI, v1, v2, rfl, T, hn1, hn2, ea, q⟩ := h
    refine ⟨_, pss_cons (ps_ostG (pv 0) (pv 1)) (pss_one (ps_ostG (pv 0) (pv 2))), ?_⟩
    refine ⟨_, rfl, _, rfl, a, C, fI, rfl, T, hn1, .inl ⟨ea, fun dx n ne => ?_⟩⟩
    refine ⟨_, rfl, _, rfl, a, C, fI, rfl, T, hn2, .inr ⟨dx, _, upd_same, by rw [upd_ne ne, upd_same], Nat.le_of_ble_eq_true rfl, ?_⟩⟩
    refine q _ dx (fun b o hb e => ?_) ?_ ?_ n ne
    · have e1 : b ≠ dx := ne_of_none e n
      first
        | (rw [upd_ne e1, upd_ne hb, upd_ne e1]; exact e)
        | (rw [upd_ne hb, upd_ne e1, upd_ne hb, upd_ne e1]; exact e)
    · first
        | exact upd_same
        | (rw [upd_ne (Ne.symm ne)]; exact upd_same)
    · first
        | exact upd_same
        | (rw [upd_ne ne]; exact upd_same)
abbrev sCN : Stmt := top 40
theorem scCN : FnScope ["value"] ["value"] (defScope sCN) := ⟨rfl, rfl, rfl, by decide +kernel, rfl, by decide +kernel, by decide +kernel⟩
theorem ok_cn {f fN CU fU : Addr} {fd fdN fdU : FuncData} (F : Fun K "check_name" "check_name" sCN f fd) (T : Er P w K mg base "UnknownName" "name" CU fU fdU) (GN : FnOk P w K mg base CX0 1 fN fdN ["value"] (spName K)) (TN : Called K mg "is_name" ["value"] fN fdN) : FnOk P w K mg base (L2.CX P w) 3 f fd ["value"] (spCN K CU) := by
  refine F.okX scCN (fun vs H Q E h => ?_) (fun cdv A outer s H vs Q E hr h => ?_)
  · obtain ⟨v, b, rfl, _⟩ := h
    rfl
  · obtain ⟨v, b, rfl, hv, q, qE⟩ := h
    refine ⟨_, (pss_one (ps_if (pt_not (pt_val (pe_call GN (hr.mono (by first | decide | omega)) rfl TN.1 TN.2.1 TN.2.2 .nil pass0 (pa_cons (pv 0) pa_nil))))
       (pss_one (ps_raise rfl (takes_of rfl rfl rfl rfl) (pmk_G T.o T.F (hr.mono (by first | decide | omega)) T.b pass0 rfl T.g (pa_cons (pv 0) pa_nil))))
       pss_nil)), ?_⟩
    refine ⟨_, rfl, v, b, rfl, hv, fun H1 s1 => ⟨_, rfl, ?_⟩⟩
    cases b with
    | true => exact iteF (q rfl _ s1)
    | false => exact iteT ⟨_, rfl, Nat.le_of_ble_eq_true rfl, fun e ne => raise1 T.o T.no ne fun t H' l => qE rfl t H' (l.before s1)⟩
abbrev sCP : Stmt := top 41
theorem scCP : FnScope ["items", "place", "item"] ["items"] (defScope sCP) := ⟨rfl, rfl, rfl, by decide +kernel, rfl, by decide +kernel, by decide +kernel⟩
theorem ok_cp {f fF CI fI : Addr} {fd fdF fdI : FuncData} (F : Fun K "check_pieceless" "check_pieceless" sCP f fd) (T : Er P w K mg base "InvalidItem" "place" CI fI fdI) (n : Nat) (GF : FnOk P w K mg base CX0 (n + 2) fF fdF ["items"] (spFlat K n)) (TF : Called K mg "flat" ["items"] fF fdF) (m_enumerate : mg "enumerate" = none) : FnOk P w K mg base (L2.CX P w) (n + 3) f fd ["items"] (spCP K CI n) := by
  refine F.okX scCP (fun vs H Q E h => ?_) (fun cdv A outer s H vs Q E hr h => ?_)
  · obtain ⟨p, xs, ds, rfl, _⟩ := h
    rfl
  · obtain ⟨p, xs, ds, rfl, hp, ha, ft, br, q, qE⟩ := h
    have npos : 0 < n := by have := ft.dep; omega
    refine ⟨_, (pss_one (ps_for (passes_of rfl) rfl (pi_enum (by rfl) m_enumerate (pa_cons (pe_call GF (hr.mono (by first | decide | omega)) rfl TF.1 TF.2.1 TF.2.2 .nil pass0 (pa_cons (pv 0) pa_nil)) pa_nil)) (pg_tup rfl (pgs_cons (pg_name (i := 1) scCP.nd rfl (.inl rfl)) (pgs_cons (pg_name (i := 2) scCP.nd rfl (.inl rfl)) pgs_nil)))
       (pss_one (ps_if (pt_cmpR op_eq (pe_ix (ix_tupK (K := K) rfl) (pv 2) pe_int (fun _ _ => rfl)) pe_str (nomark _))
       (pss_one (ps_raise rfl (takes_of rfl rfl rfl rfl) (pmk_G T.o T.F (hr.mono (by first | decide | omega)) T.b pass0 rfl T.g (pa_cons (pv 1) pa_nil))))
       pss_nil)))), ?_⟩
    refine ⟨_, rfl, H, p, xs, ds, rfl, Same.refl _, hp, ha, ft, br, fun H1 l ys s1 nl hl hy => ?_⟩
    have len := dpl hy
    refine ⟨l, ys, rfl, SqL.of hl, for_enum (K := K) (a := l) (xs := ys)
      (fun i σ H' => ∃ v1 v2 : Option V, σ = [some (.ref p), v1, v2] ∧ Same H1 H' ∧ ∀ j, j < i → ∀ e, (flat ds)[j]? = some e → decide (wD e = "piece") = false)
      ⟨none, none, rfl, Same.refl _, fun j hj => absurd hj (Nat.not_lt_zero j)⟩ (fun i σ H' _ ⟨_, _, _, s5, _⟩ => s5.seq (SqL.of hl)) ?_ ?_⟩
    · rintro i x σ H4 T4 hxi ⟨w1, w3, rfl, s5, al2⟩ nT4
      obtain ⟨d, hd, hx⟩ := dp_get hy hxi
      obtain ⟨wd, r, rfl, _⟩ := br d (List.mem_of_getElem? hd)
      cases hx with
      | @tup px xr _ hpx hax =>
      cases hax with
      | @cons x0 xr _ _ h0 hax =>
      cases h0
      have u4 := same_upd (o := .tup [.int (i : Nat), .ref px]) nT4
      refine ⟨T4, _, rfl, .inl (.inl upd_same), rfl, _, _, rfl, _, _, rfl, rfl, ?_⟩
      refine ⟨_, rfl, px, _, _, _, rfl, rfl, (s1.trans (s5.trans u4)).tupS hpx, at0, rfl, _, rfl, ?_⟩
      rw [Rw.dec_str]
      by_cases h1 : wd = "piece"
      · rw [decide_eq_true h1]
        refine iteT ⟨_, rfl, Nat.le_of_ble_eq_true rfl, fun e ne => raise1 T.o T.no ne fun t H' lf => qE i ?_ t H' (lf.before (s1.trans (s5.trans u4)))⟩
        exact find_at al2 hd (decide_eq_true h1)
      · rw [decide_eq_false h1]
        refine iteF ⟨_, _, rfl, s5.trans u4, fun j hj e he => ?_⟩
        by_cases z : j = i
        · rw [z, hd] at he
          cases he
          exact decide_eq_false h1
        · exact al2 j (by omega) e he
    · rintro σ H4 ⟨w1, w3, rfl, s5, al2⟩
      exact q (find_no fun j hj e he => al2 j (by rw [len]; exact hj) e he) _ (s1.trans s5)
abbrev sCC : Stmt := top 42
theorem scCC : FnScope ["name", "items", "place", "item"] ["name", "items"] (defScope sCC) := ⟨rfl, rfl, rfl, by decide +kernel, rfl, by decide +kernel, by decide +kernel⟩
theorem ok_cc {f fF CC fI cw : Addr} {fd fdF fdI : FuncData} (F : Fun K "check_crowd" "check_crowd" sCC f fd) (T : Er2 P w K mg base "NotACrowd" "name" "place" CC fI fdI) (n : Nat) (GF : FnOk P w K mg base CX0 (n + 2) fF fdF ["items"] (spFlat K n)) (TF : Called K mg "flat" ["items"] fF fdF) (m_enumerate : mg "enumerate" = none)
    (gW : mg "CROWD_WORDS" = some (.ref cw)) (hW : ∀ H, SqT K H cw (crowd5.map V.str)) : FnOk P w K mg base (L2.CX P w) (n + 3) f fd ["name", "items"] (spCC K CC n) := by
  refine F.okX scCC (fun vs H Q E h => ?_) (fun cdv A outer s H vs Q E hr h => ?_)
  · obtain ⟨nm, p, xs, ds, rfl, _⟩ := h
    rfl
  · obtain ⟨nm, p, xs, ds, rfl, hp, ha, ft, br, q, qE⟩ := h
    have npos : 0 < n := by have := ft.dep; omega
    refine ⟨_, (pss_one (ps_for (passes_of rfl) rfl (pi_enum (by rfl) m_enumerate (pa_cons (pe_call GF (hr.mono (by first | decide | omega)) rfl TF.1 TF.2.1 TF.2.2 .nil pass0 (pa_cons (pv 1) pa_nil)) pa_nil)) (pg_tup rfl (pgs_cons (pg_name (i := 2) scCC.nd rfl (.inl rfl)) (pgs_cons (pg_name (i := 3) scCC.nd rfl (.inl rfl)) pgs_nil)))
       (pss_one (ps_if (pt_cmpR (op_notIn_seqKK (K := K) rfl) (pe_ix (ix_tupK (K := K) rfl) (pv 3) pe_int (fun _ _ => rfl)) (pe_glob (v := .ref cw) rfl gW rfl) (by rfl))
       (pss_one (ps_raise rfl (takes_of rfl rfl rfl rfl) (pmk_G T.o T.F (hr.mono (by first | decide | omega)) T.b pass0 rfl T.g (pa_cons (pv 0) (pa_cons (pv 2) pa_nil)))))
       pss_nil)))), ?_⟩
    refine ⟨_, rfl, H, p, xs, ds, rfl, Same.refl _, hp, ha, ft, br, fun H1 l ys s1 nl hl hy => ?_⟩
    have len := dpl hy
    refine ⟨l, ys, rfl, SqL.of hl, for_enum (K := K) (a := l) (xs := ys)
      (fun i σ H' => ∃ v1 v2 : Option V, σ = [some nm, some (.ref p), v1, v2] ∧ Same H1 H' ∧ ∀ j, j < i → ∀ e, (flat ds)[j]? = some e → (!decide (wD e ∈ crowd5)) = false)
      ⟨none, none, rfl, Same.refl _, fun j hj => absurd hj (Nat.not_lt_zero j)⟩ (fun i σ H' _ ⟨_, _, _, s5, _⟩ => s5.seq (SqL.of hl)) ?_ ?_⟩
    · rintro i x σ H4 T4 hxi ⟨w1, w3, rfl, s5, al2⟩ nT4
      obtain ⟨d, hd, hx⟩ := dp_get hy hxi
      obtain ⟨wd, r, rfl, _⟩ := br d (List.mem_of_getElem? hd)
      cases hx with
      | @tup px xr _ hpx hax =>
      cases hax with
      | @cons x0 xr _ _ h0 hax =>
      cases h0
      have u4 := same_upd (o := .tup [.int (i : Nat), .ref px]) nT4
      refine ⟨T4, _, rfl, .inl (.inl upd_same), rfl, _, _, rfl, _, _, rfl, rfl, ?_⟩
      refine ⟨_, rfl, px, _, _, _, rfl, rfl, (s1.trans (s5.trans u4)).tupS hpx, at0, cw, _, rfl, .inr (hW _), rfl, flat_txt _, _, rfl, ?_⟩
      show if (!inV (.str wd) (crowd5.map V.str)) = true then _ else _
      rw [inV_txt]
      by_cases h1 : wd ∈ crowd5
      · rw [decide_eq_true h1]
        refine iteF ⟨_, _, rfl, s5.trans u4, fun j hj e he => ?_⟩
        by_cases z : j = i
        · rw [z, hd] at he
          cases he
          show (!decide (wd ∈ crowd5)) = false
          rw [decide_eq_true h1]
          rfl
        · exact al2 j (by omega) e he
      · rw [decide_eq_false h1]
        refine iteT ⟨_, rfl, _, rfl, Nat.le_of_ble_eq_true rfl, fun e ne => raise2 T.o T.no1 T.no2 ne fun t H' lf => qE i ?_ t H' (lf.before (s1.trans (s5.trans u4)))⟩
        refine find_at al2 hd ?_
        show (!decide (wd ∈ crowd5)) = true
        rw [decide_eq_false h1]
        rfl
    · rintro σ H4 ⟨w1, w3, rfl, s5, al2⟩
      exact q (find_no fun j hj e he => al2 j (by rw [len]; exact hj) e he) _ (s1.trans s5)
end
end Tr

/-! S4 -/
/-! ### threads made -/
namespace Tr
open PySem PySem.Spec PyProof.Rows L2 Rw NdefX SuX
def nmF : List (V × Bool) → Option V
  | [] => none
  | (v, b) :: r => if b = true then nmF r else some v
/-- what comes in the way of a work, a guest, of its place -/
def faultW (d : D) : Option V := match faultB d with
  | some r => some r
  | none => match d with
    | .tuple ds => (pieceAt ds).map fun i => .int (i : Nat)
    | _ => none
def faultC (d : D) : Option Nat := match faultB d with
  | some _ => none
  | none => match d with
    | .tuple ds => crowdAt ds
    | _ => none
/-- what a raise before anything was made leaves -/
theorem LeftB.later {x : Addr} {H0 H : Hp} {n : Str} {v : V} {d : Addr} {H' : Hp} {o : HO} (s : SameBut x H0 H) (hx : H x = some o) (h : Left H n v d H') : LeftB x H0 n v d H' := (LeftB.of h).before s hx
def spWI (K : PySem.W.Frag) (CU CI cW : Addr) (n : Nat) : Sp := fun vs H Q E => ∃ (x dx : Addr) (nm v : V) (b : Bool) (d : D), vs = [.ref x, nm, v] ∧ H x = some (.ins cW dx []) ∧ NV K H nm b ∧ Dp K H v d ∧ FitD n d ∧
  (∀ z, nmF [(nm, b)] = some z → ∀ t H', LeftB x H "name" z t H' → E (.ref CU) (some t) H') ∧
  (nmF [(nm, b)] = none → (∀ r, faultW d = some r → ∀ t H', LeftB x H "place" r t H' → E (.ref CI) (some t) H') ∧
    (faultW d = none → ∀ ds, d = .tuple ds → ∀ H', SameBut x H H' → IsThr K cW H' x v ds [("_label", nm)] → Q .non H'))
def spGI (K : PySem.W.Frag) (CU CI cD fB : Addr) (n : Nat) : Sp := fun vs H Q E => ∃ (x C dx : Addr) (nm gt v : V) (b1 b2 : Bool) (d : D), vs = [.ref x, nm, gt, v] ∧ H x = some (.ins C dx []) ∧ ThrC K C ∧ Sup K C cD "__init__" fB ∧ NV K H nm b1 ∧ NV K H gt b2 ∧ Dp K H v d ∧ FitD n d ∧
  (∀ z, nmF [(nm, b1), (gt, b2)] = some z → ∀ t H', LeftB x H "name" z t H' → E (.ref CU) (some t) H') ∧
  (nmF [(nm, b1), (gt, b2)] = none → (∀ r, faultB d = some r → ∀ t H', LeftB x H "place" r t H' → E (.ref CI) (some t) H') ∧
    (faultB d = none → ∀ ds, d = .tuple ds → ∀ H', SameBut x H H' → IsThr K C H' x v ds [("_label", nm), ("_gate", gt)] → Q .non H'))
def spUI (K : PySem.W.Frag) (CU CI cG : Addr) (n : Nat) : Sp := fun vs H Q E => ∃ (x dx : Addr) (nm gt v : V) (b1 b2 : Bool) (d : D), vs = [.ref x, nm, gt, v] ∧ H x = some (.ins cG dx []) ∧ NV K H nm b1 ∧ NV K H gt b2 ∧ Dp K H v d ∧ FitD n d ∧
  (∀ z, nmF [(nm, b1), (gt, b2)] = some z → ∀ t H', LeftB x H "name" z t H' → E (.ref CU) (some t) H') ∧
  (nmF [(nm, b1), (gt, b2)] = none → (∀ r, faultW d = some r → ∀ t H', LeftB x H "place" r t H' → E (.ref CI) (some t) H') ∧
    (faultW d = none → ∀ ds, d = .tuple ds → ∀ H', SameBut x H H' → IsThr K cG H' x v ds [("_label", nm), ("_gate", gt)] → Q .non H'))
def spKI (K : PySem.W.Frag) (CU CI CC cC : Addr) (n : Nat) : Sp := fun vs H Q E => ∃ (x dx : Addr) (nm gt v : V) (b1 b2 : Bool) (d : D), vs = [.ref x, nm, gt, v] ∧ H x = some (.ins cC dx []) ∧ NV K H nm b1 ∧ NV K H gt b2 ∧ Dp K H v d ∧ FitD n d ∧
  (∀ z, nmF [(nm, b1), (gt, b2)] = some z → ∀ t H', LeftB x H "name" z t H' → E (.ref CU) (some t) H') ∧
  (nmF [(nm, b1), (gt, b2)] = none → (∀ r, faultB d = some r → ∀ t H', LeftB x H "place" r t H' → E (.ref CI) (some t) H') ∧ (∀ i : Nat, faultC d = some i → ∀ t H', LeftB2 x H "name" nm "place" (.int (i : Nat)) t H' → E (.ref CC) (some t) H') ∧
    (faultB d = none → faultC d = none → ∀ ds, d = .tuple ds → ∀ H', SameBut x H H' → IsThr K cC H' x v ds [("_label", nm), ("_gate", gt)] → Q .non H'))
section
variable {P : Program} {w : World} {K : PySem.W.Frag} {mg : Str → Option Value} {base : Heap}
abbrev sWI : Stmt := inClass (top 43) 0
theorem nsWI : NScope ["self", "name", "items", "__class__"] ["self", "name", "items"] ["__class__"] (defScope sWI) := nscope_by (by decide +kernel)
theorem ok_WI {f fN fB fP CU CI cW cc cda : Addr} {fd fdN fdB fdP : FuncData} (F : FunS K "__init__" "Work.__init__" sWI f fd cc cda) (T : SupTop P K mg cda cc cW) (n : Nat) (tc : ThrC K cW) (su : Sup K cW cW "__init__" fB)
    (GN : FnOk P w K mg base (L2.CX P w) 3 fN fdN ["value"] (spCN K CU)) (TN : Called K mg "check_name" ["value"] fN fdN) (GS : FnOk P w K mg base (L2.CX P w) (2 * n + 6) fB fdB ["self", "items"] (spBg K CI (n + 1))) (bS : Binds K fdB ["self", "items"] [])
    (GP : FnOk P w K mg base (L2.CX P w) (n + 3) fP fdP ["items"] (spCP K CI n)) (TP : Called K mg "check_pieceless" ["items"] fP fdP) : FnOk P w K mg base (L2.CX P w) (2 * n + 7) f fd ["self", "name", "items"] (spWI K CU CI cW (n + 1)) := by
  refine F.okX nsWI T (fun vs H Q E h => ?_) (fun A outer s H vs Q E hr h => ?_)
  · obtain ⟨x, dx, nm, v, b, d, rfl, _⟩ := h
    rfl
  · obtain ⟨x, dx, nm, v, b, d, rfl, hx, hn, hd, ft, qU, qR⟩ := h
    refine ⟨_, (qs_cons (ps_expr (pe_call GN (hr.mono (by first | decide | omega)) rfl TN.1 TN.2.1 TN.2.2 .nil passN (pa_cons (pv 1) pa_nil))) (qs_super (supF F T ⟨_, rfl, rfl⟩ (by decide +kernel) (by decide +kernel) (by decide +kernel)) rfl GS (hr.mono (by first | decide | omega)) bS passN (pa_cons (pv 2) pa_nil) (qs_of (pss_cons (ps_expr (pe_call GP (hr.mono (by first | decide | omega)) rfl TP.1 TP.2.1 TP.2.2 .nil passN (pa_cons (pv 2) pa_nil)))  (pss_one (ps_fld (pv 0) (pv 1) rfl)))))), ?_⟩
    refine ⟨_, rfl, nm, b, rfl, hn, fun hb H1 s1 => ?_, fun hb t H1 l => qU nm (by subst hb; rfl) t H1 (LeftB.of l)⟩
    subst hb
    obtain ⟨qI, q⟩ := qR rfl
    have hx1 := s1 _ _ hx
    refine ⟨x, cW, dx, [], rfl, hx1, su, _, rfl, x, cW, dx, v, d, rfl, hx1, tc, hd.same s1, ft, fun hf ds ed H2 b2 th => ?_, fun r hr t H2 l => qI r (by unfold faultW; rw [hr]) t H2 (LeftB.before (but_of s1) hx1 l)⟩
    subst ed
    have b02 := (but_of (x := x) s1).trans b2
    obtain ⟨ds', e1, hc, h8, hne⟩ := fault_tup hf
    cases e1
    obtain ⟨dx2, l1, l2, l3, ys, zs, us, hx2, hd2, _⟩ := id th
    cases hd2 with
    | @tup pt xs _ hp ha =>
    refine ⟨_, rfl, pt, xs, ds, rfl, hp, ha, ft.inside, fun e he => (br_flat hc e he).1, fun hp H3 s3 => ?_, fun i hi t H3 l => qI _ (by unfold faultW; rw [hf]; show (pieceAt ds).map _ = _; rw [hi]; rfl) t H3 (LeftB.later b02 hx2 l)⟩
    have hx3 := s3 _ _ hx2
    have th3 := th.same s3
    refine ⟨_, rfl, _, rfl, x, cW, dx2, _, rfl, hx3, tc.cl, tc.nB, by show 4 < 1000; decide, ?_⟩
    refine q (by unfold faultW; rw [hf]; show (pieceAt ds).map _ = _; rw [hp]; rfl) ds rfl _ ((b02.trans (but_of s3)).trans but_upd) ?_
    exact th3.put (n := ("_label", nm)) hx3 rfl
abbrev sGI : Stmt := inClass (top 44) 0
theorem nsGI : NScope ["self", "name", "gate", "items", "__class__"] ["self", "name", "gate", "items"] ["__class__"] (defScope sGI) := nscope_by (by decide +kernel)
theorem ok_GI {f fN fB CU CI cGt cc cda : Addr} {fd fdN fdB : FuncData} (F : FunS K "__init__" "Gated.__init__" sGI f fd cc cda) (T : SupTop P K mg cda cc cGt) (n : Nat)
    (GN : FnOk P w K mg base (L2.CX P w) 3 fN fdN ["value"] (spCN K CU)) (TN : Called K mg "check_name" ["value"] fN fdN) (GS : FnOk P w K mg base (L2.CX P w) (2 * n + 6) fB fdB ["self", "items"] (spBg K CI (n + 1))) (bS : Binds K fdB ["self", "items"] []) : FnOk P w K mg base (L2.CX P w) (2 * n + 7) f fd ["self", "name", "gate", "items"] (spGI K CU CI cGt fB (n + 1)) := by
  refine F.okX nsGI T (fun vs H Q E h => ?_) (fun A outer s H vs Q E hr h => ?_)
  · obtain ⟨x, C, dx, nm, gt, v, b1, b2, d, rfl, _⟩ := h
    rfl
  · obtain ⟨x, C, dx, nm, gt, v, b1, b2, d, rfl, hx, tc, su, hn, hg, hd, ft, qU, qR⟩ := h
    refine ⟨_, (qs_cons (ps_expr (pe_call GN (hr.mono (by first | decide | omega)) rfl TN.1 TN.2.1 TN.2.2 .nil passN (pa_cons (pv 1) pa_nil))) (qs_cons (ps_expr (pe_call GN (hr.mono (by first | decide | omega)) rfl TN.1 TN.2.1 TN.2.2 .nil passN (pa_cons (pv 2) pa_nil))) (qs_super (supF F T ⟨_, rfl, rfl⟩ (by decide +kernel) (by decide +kernel) (by decide +kernel)) rfl GS (hr.mono (by first | decide | omega)) bS passN (pa_cons (pv 3) pa_nil) (qs_of (pss_cons (ps_fld (pv 0) (pv 1) rfl)  (pss_one (ps_fld (pv 0) (pv 2) rfl))))))), ?_⟩
    refine ⟨_, rfl, nm, b1, rfl, hn, fun hb H1 s1 => ?_, fun hb t H1 l => qU nm (by subst hb; rfl) t H1 (LeftB.of l)⟩
    subst hb
    refine ⟨_, rfl, gt, b2, rfl, hg.same s1, fun hb H2 s2 => ?_, fun hb t H2 l => qU gt (by subst hb; rfl) t H2 (LeftB.of (l.before s1))⟩
    subst hb
    obtain ⟨qI, q⟩ := qR rfl
    have s12 := s1.trans s2
    have hx2 := s12 _ _ hx
    refine ⟨x, C, dx, [], rfl, hx2, su, _, rfl, x, C, dx, v, d, rfl, hx2, tc, hd.same s12, ft, fun hf ds ed H3 b3 th => ?_, fun r hr t H2 l => qI r hr t H2 (LeftB.before (but_of s12) hx2 l)⟩
    subst ed
    obtain ⟨dx2, l1, l2, l3, ys, zs, us, hx3, _⟩ := id th
    have b03 := (but_of (x := x) s12).trans b3
    refine ⟨_, rfl, _, rfl, x, C, dx2, _, rfl, hx3, tc.cl, tc.nB, by show 4 < 1000; decide, ?_⟩
    have th4 := th.put (n := ("_label", nm)) hx3 rfl
    have hx4 : (upd H3 x (.ins C dx2 (putF "_label" nm (f4 v l1 l2 l3 ++ [])))) x = some (.ins C dx2 (f4 v l1 l2 l3 ++ [] ++ [(("_label" : Str), nm)])) := upd_same
    refine ⟨_, rfl, _, rfl, x, C, dx2, _, rfl, hx4, tc.cl, tc.nG, by show 5 < 1000; decide, ?_⟩
    exact q hf ds rfl _ (b03.trans (but_upd.trans but_upd)) (th4.put (n := ("_gate", gt)) hx4 rfl)
abbrev sUI : Stmt := inClass (top 46) 0
theorem nsUI : NScope ["self", "name", "gate", "items", "__class__"] ["self", "name", "gate", "items"] ["__class__"] (defScope sUI) := nscope_by (by decide +kernel)
theorem ok_UI {f fB fS fP CU CI cGt cG cc cda : Addr} {fd fdS fdP : FuncData} (F : FunS K "__init__" "Guest.__init__" sUI f fd cc cda) (T : SupTop P K mg cda cc cG) (n : Nat) (tc : ThrC K cG) (su : Sup K cG cGt "__init__" fB) (su2 : Sup K cG cG "__init__" fS)
    (GS : FnOk P w K mg base (L2.CX P w) (2 * n + 7) fS fdS ["self", "name", "gate", "items"] (spGI K CU CI cGt fB (n + 1))) (bS : Binds K fdS ["self", "name", "gate", "items"] [])
    (GP : FnOk P w K mg base (L2.CX P w) (n + 3) fP fdP ["items"] (spCP K CI n)) (TP : Called K mg "check_pieceless" ["items"] fP fdP) : FnOk P w K mg base (L2.CX P w) (2 * n + 8) f fd ["self", "name", "gate", "items"] (spUI K CU CI cG (n + 1)) := by
  refine F.okX nsUI T (fun vs H Q E h => ?_) (fun A outer s H vs Q E hr h => ?_)
  · obtain ⟨x, dx, nm, gt, v, b1, b2, d, rfl, _⟩ := h
    rfl
  · obtain ⟨x, dx, nm, gt, v, b1, b2, d, rfl, hx, hn, hg, hd, ft, qU, qR⟩ := h
    refine ⟨_, (qs_super (supF F T ⟨_, rfl, rfl⟩ (by decide +kernel) (by decide +kernel) (by decide +kernel)) rfl GS (hr.mono (by first | decide | omega)) bS passN (pa_cons (pv 1) (pa_cons (pv 2) (pa_cons (pv 3) pa_nil))) (qs_of (pss_one (ps_expr (pe_call GP (hr.mono (by first | decide | omega)) rfl TP.1 TP.2.1 TP.2.2 .nil passN (pa_cons (pv 3) pa_nil)))))), ?_⟩
    refine ⟨x, cG, dx, [], rfl, hx, su2, _, rfl, _, rfl, _, rfl, x, cG, dx, nm, gt, v, b1, b2, d, rfl, hx, tc, su, hn, hg, hd, ft, qU, fun hb => ⟨fun r hr t H2 l => (qR hb).1 r (by unfold faultW; rw [hr]) t H2 l, fun hf ds ed H2 b02 th => ?_⟩⟩
    obtain ⟨qI, q⟩ := qR hb
    subst ed
    obtain ⟨ds', e1, hc, h8, hne⟩ := fault_tup hf
    cases e1
    obtain ⟨dx2, l1, l2, l3, ys, zs, us, hx2, hd2, _⟩ := id th
    cases hd2 with
    | @tup pt xs _ hp ha =>
    refine ⟨_, rfl, pt, xs, ds, rfl, hp, ha, ft.inside, fun e he => (br_flat hc e he).1, fun hp H3 s3 => ?_, fun i hi t H3 l => qI _ (by unfold faultW; rw [hf]; show (pieceAt ds).map _ = _; rw [hi]; rfl) t H3 (LeftB.later b02 hx2 l)⟩
    exact q (by unfold faultW; rw [hf]; show (pieceAt ds).map _ = _; rw [hp]; rfl) ds rfl _ (b02.trans (but_of s3)) (th.same s3)
abbrev sKI : Stmt := inClass (top 47) 0
theorem nsKI : NScope ["self", "name", "gate", "items", "__class__"] ["self", "name", "gate", "items"] ["__class__"] (defScope sKI) := nscope_by (by decide +kernel)
theorem ok_KI {f fB fS fP CU CI CC cGt cC cc cda : Addr} {fd fdS fdP : FuncData} (F : FunS K "__init__" "Crowd.__init__" sKI f fd cc cda) (T : SupTop P K mg cda cc cC) (n : Nat) (tc : ThrC K cC) (su : Sup K cC cGt "__init__" fB) (su2 : Sup K cC cC "__init__" fS)
    (GS : FnOk P w K mg base (L2.CX P w) (2 * n + 7) fS fdS ["self", "name", "gate", "items"] (spGI K CU CI cGt fB (n + 1))) (bS : Binds K fdS ["self", "name", "gate", "items"] [])
    (GP : FnOk P w K mg base (L2.CX P w) (n + 3) fP fdP ["name", "items"] (spCC K CC n)) (TP : Called K mg "check_crowd" ["name", "items"] fP fdP) : FnOk P w K mg base (L2.CX P w) (2 * n + 8) f fd ["self", "name", "gate", "items"] (spKI K CU CI CC cC (n + 1)) := by
  refine F.okX nsKI T (fun vs H Q E h => ?_) (fun A outer s H vs Q E hr h => ?_)
  · obtain ⟨x, dx, nm, gt, v, b1, b2, d, rfl, _⟩ := h
    rfl
  · obtain ⟨x, dx, nm, gt, v, b1, b2, d, rfl, hx, hn, hg, hd, ft, qU, qR⟩ := h
    refine ⟨_, (qs_super (supF F T ⟨_, rfl, rfl⟩ (by decide +kernel) (by decide +kernel) (by decide +kernel)) rfl GS (hr.mono (by first | decide | omega)) bS passN (pa_cons (pv 1) (pa_cons (pv 2) (pa_cons (pv 3) pa_nil))) (qs_of (pss_one (ps_expr (pe_call GP (hr.mono (by first | decide | omega)) rfl TP.1 TP.2.1 TP.2.2 .nil passN (pa_cons (pv 1) (pa_cons (pv 3) pa_nil))))))), ?_⟩
    refine ⟨x, cC, dx, [], rfl, hx, su2, _, rfl, _, rfl, _, rfl, x, cC, dx, nm, gt, v, b1, b2, d, rfl, hx, tc, su, hn, hg, hd, ft, qU, fun hb => ⟨fun r hr t H2 l => (qR hb).1 r hr t H2 l, fun hf ds ed H2 b02 th => ?_⟩⟩
    obtain ⟨qI, qC, q⟩ := qR hb
    subst ed
    obtain ⟨ds', e1, hc, h8, hne⟩ := fault_tup hf
    cases e1
    obtain ⟨dx2, l1, l2, l3, ys, zs, us, hx2, hd2, _⟩ := id th
    cases hd2 with
    | @tup pt xs _ hp ha =>
    have fc : faultC (.tuple ds) = crowdAt ds := by
      unfold faultC
      rw [hf]
    refine ⟨_, rfl, _, rfl, nm, pt, xs, ds, rfl, hp, ha, ft.inside, fun e he => (br_flat hc e he).1, fun hp H3 s3 => ?_, fun i hi t H3 l => qC i (fc.trans hi) t H3 (LeftB2.before b02 hx2 l)⟩
    exact q hf (fc.trans hp) ds rfl _ (b02.trans (but_of s3)) (th.same s3)
end
end Tr

/-! N1 -/
/-! ### == and `in` by an own __eq__ that says no -/
namespace Ow
open PySem PySem.SeqAt
open AutoSeq1 (wpAny_loadPart')
open MeetsSeq MeetsSeq2 MeetsSeq3 SeqRoads2
open GQ (FinOf call_here)
section
variable {prog : Program} {w : World} {A : Around} {E : Value → Shared → Prop} {s : Shared} {K : PySem.W.Frag} {x C L f : Addr} {h₀ : Heap} {m : Str → Option Value} {ox : Obj} {od : Option Obj}
theorem try_own {b : Value} {Q : Option Value → Shared → Prop} (X : K.In s.heap) (I : PySem.W.InstAt s.heap x ox C od) (hs : PySem.W.findIn K (.ref C) "__eq__" = some (some (.ref f))) (hf : PySem.W.isFn K (.ref f) = true)
    (h : wpAny (model prog w) A (call (.ref f) [.ref x, b]) (PySem.W.CmpBack fun v s' => Q (some v) s') E s) : wpAny (model prog w) A (tryCompare (.ref x) "__eq__" b) Q E s := by
  unfold tryCompare
  refine wpAny_bind (PySem.W.ifBound_K X I hs hf (wpAny_mono h (fun v s' hv => ?_) fun _ _ e => e))
  cases v <;> first | exact hv.elim | exact wpAny_pure hv
/-- the left one declines, the right one's own __eq__ is asked -/
theorem rc_back {a ta : Value} {Q : Value → Shared → Prop} (hu : A.units < cLine) (X : K.In s.heap) (I : PySem.W.InstAt s.heap x ox C od) (ha1 : oneThing? .Eq a (.ref x) = none) (ha : PySem.W.Looks (model prog w) s.heap (typeOf a) ta) (hn : PySem.W.subIn K (.ref C) ta = some false) (hne : (ta != .ref C) = true)
    (dec : ∀ Q' : Option Value → Shared → Prop, Q' none s → wpAny (model prog w) A (tryCompare a "__eq__" (.ref x)) Q' E s)
    (hs : PySem.W.findIn K (.ref C) "__eq__" = some (some (.ref f))) (hf : PySem.W.isFn K (.ref f) = true)
    (h : wpAny (model prog w) A (call (.ref f) [.ref x, a]) (PySem.W.CmpBack Q) E s) : wpAny (model prog w) A (richCompare .Eq a (.ref x)) Q E s := by
  unfold richCompare
  simp only [ha1, cmpInfo]
  refine wpAny_holding (wpAny_bind (wpAny_cRoomFor hu ?_))
  refine wpAny_bind (ha.here (wpAny_bind (I.type.here ?_)))
  simp only [hne, if_true]
  refine wpAny_bind ((PySem.W.looks_subIn X hn).here ?_)
  simp only [Bool.false_eq_true, if_false, Bool.not_false, if_true]
  refine wpAny_bind (m := tryCompare a _ _) (dec _ ?_)
  refine wpAny_bind (m := tryCompare (.ref x) _ _) (try_own X I hs hf (wpAny_mono h (fun v s' hv => ?_) fun _ _ e => e))
  cases v <;> first | exact hv.elim | exact wpAny_pure hv
/-- the right one's class is below the left one's: it is asked first -/
theorem rc_below {y : Addr} {oy : Obj} {D : Addr} {ody : Option Obj} {Q : Value → Shared → Prop} (hu : A.units < cLine) (X : K.In s.heap) (I : PySem.W.InstAt s.heap x ox C od) (J : PySem.W.InstAt s.heap y oy D ody) (hn : PySem.W.subIn K (.ref C) (.ref D) = some true) (hne : D ≠ C)
    (hs : PySem.W.findIn K (.ref C) "__eq__" = some (some (.ref f))) (hf : PySem.W.isFn K (.ref f) = true)
    (h : wpAny (model prog w) A (call (.ref f) [.ref x, .ref y]) (PySem.W.CmpBack Q) E s) : wpAny (model prog w) A (richCompare .Eq (.ref y) (.ref x)) Q E s := by
  unfold richCompare
  simp only [oneThing_ref, cmpInfo]
  refine wpAny_holding (wpAny_bind (wpAny_cRoomFor hu ?_))
  refine wpAny_bind (J.type.here (wpAny_bind (I.type.here ?_)))
  have hne' : (Value.ref D != Value.ref C) = true := by simpa using hne
  simp only [hne', if_true]
  refine wpAny_bind ((PySem.W.looks_subIn X hn).here ?_)
  simp only [if_true]
  refine wpAny_bind (m := tryCompare (.ref x) _ _) (try_own X I hs hf (wpAny_mono h (fun v s' hv => ?_) fun _ _ e => e))
  cases v <;> first | exact hv.elim | exact wpAny_rule (wpAny_pure hv) | exact wpAny_bind (wpAny_rule (wpAny_pure hv)) | exact wpAny_pure hv
end
section
variable {M : Model} {A : Around} {E : Value → Shared → Prop} {h : Heap} {g : Array GenState} {d : Drawn} {t : Nat} {os : OsState} {K : PySem.W.Frag} {x C : Addr} {ox : Obj} {od : Option Obj}
theorem inst_no {B : Value} {Q : Bool → Shared → Prop} (X : K.In h) (I : PySem.W.InstAt h x ox C od) (e : PySem.W.subIn K (.ref C) B = some false) (q : Q false ⟨h, g, d, t, os⟩) : wpAny M A (isInstance (.ref x) B) Q E ⟨h, g, d, t, os⟩ := by
  simp only [isInstance]
  exact wpAny_bind (PySem.W.Looks.here (s := ⟨h, g, d, t, os⟩) I.type ((PySem.W.looks_subIn X e).here q))
end
section
variable {prog : Program} {w : World} {A : Around} {E : Value → Shared → Prop} {s : Shared} {K : PySem.W.Frag} {x C : Addr} {ox : Obj} {od : Option Obj}
theorem dec_none {Q : Option Value → Shared → Prop} (q : Q none s) : wpAny (model prog w) A (tryCompare .none "__eq__" (.ref x)) Q E s :=
  wpAny_tryCompare_declines rfl F.slot_NoneType_eq (call_gives F.slot_NoneType_eq rfl F.entry_NoneType_eq (F.args_NoneType_eq_2 _ _) (NoneType___eq___none_ref_0 x) ⟨rfl, q⟩)
theorem dec_str {a : Str} {t : Tok} {Q : Option Value → Shared → Prop} (I : PySem.W.InstAt s.heap x ox C od) (hp : ∀ u, ox.data ≠ .prim u) (q : Q none s) : wpAny (model prog w) A (tryCompare (.str a t) "__eq__" (.ref x)) Q E s := by
  refine wpAny_tryCompare_declines (typeIs_str s a t) F.slot_str_eq (wpAny_call_entry F.slot_str_eq (typeIs_str s a t) F.entry_str_eq ?_ (F.args_str_eq_2 _ _))
  obtain ⟨hx, _, _, _⟩ := I
  obtain ⟨hp', g, d, tk, os⟩ := s
  obtain ⟨oc, odi, oda, osl⟩ := ox
  cases oda with
  | prim u => exact absurd rfl (hp u)
  | _ => wp_walk using wpAny_load hx, wpAny_loadPart' hx; exact ⟨_, rfl, rfl, q⟩
theorem dec_tuple {l : Addr} {items : Array Value} {Q : Option Value → Shared → Prop} (X : K.In s.heap) (I : PySem.W.InstAt s.heap x ox C od) (e : PySem.W.subIn K (.ref C) (.type "tuple") = some false) (hl : s.heap.IsTuple l items) (q : Q none s) : wpAny (model prog w) A (tryCompare (.ref l) "__eq__" (.ref x)) Q E s := by
  obtain ⟨⟨cls, dd, data, sl⟩, ho, hc, n, hd⟩ := id hl
  simp only at hc hd
  subst hc hd
  refine wpAny_tryCompare_declines ⟨_, ho, rfl⟩ F.slot_tuple_eq (wpAny_call_entry F.slot_tuple_eq ⟨_, ho, rfl⟩ F.entry_tuple_eq ?_ (F.args_tuple_eq_2 _ _))
  obtain ⟨hp', g, d, tk, os⟩ := s
  have hi : ∀ {g : Array GenState} {d : Drawn} {t : Nat} {os : OsState} {A : Around} {E : Value → Shared → Prop} {Q : Bool → Shared → Prop}, Q false ⟨hp', g, d, t, os⟩ → wpAny (model prog w) A (isInstance (.ref x) (.type "tuple")) Q E ⟨hp', g, d, t, os⟩ := fun q => inst_no X I e q
  wp_walk using wpAny_loadPart' ho, hi
  exact ⟨_, rfl, rfl, q⟩
end
/-! the loop of a list's __contains__, where each answer is no -/
section
variable {prog : Program} {w : World} {A : Around} {R : Result → Shared → Prop}
def InI (prog : Program) (w : World) (A : Around) (E : Value → Shared → Prop) (l : Addr) (x : Value) (N : Nat) (I : Nat → Shared → Prop) : Prop :=
  ∀ i s, I i s → ∃ (items : Array Value) (n : Nat), s.heap.get? l = some { cls := .type "list", data := .seq items n } ∧ items.size = N ∧
    ∀ (h1 : i < items.size), wpAny (model prog w) A.in1 (eqBool items[i] x) (fun r s' => r = false ∧ I (i + 1) s') E s
theorem in_loopG (l : Addr) (x : Value) (N : Nat) (I : Nat → Shared → Prop) (hl : InI prog w A (fun e s' => R (.error e) s') l x N I) (fin : ∀ s, I N s → R (.ok (.ret (.bool false))) s) (k : Nat) :
    ∀ i : Nat, N - i = k → i ≤ N → ∀ s, I i s → wpAny (model prog w) A.in1 (Builtin.«list.__contains__.loop» ⟨[.ref l, x, rawInt i], []⟩) (FinOf prog w A R) (fun e s' => R (.error e) s') s := by
  induction k with
  | zero =>
    intro i hk hi s h
    obtain ⟨items, n, hl1, hs1, _⟩ := hl _ _ h
    have hi' : i = N := by omega
    have hR : R (.ok (.ret (.bool false))) s := fin s (hi' ▸ h)
    obtain ⟨hp, g, d, tk, os⟩ := s
    wp_walk using wpAny_loadPart' hl1
    have hi1 : items[((i : Nat) : Int).toNat]? = none := by simp; omega
    rw [hi1]
    wp_walk
    exact hR
  | succ k ih =>
    intro i hk hi s h
    obtain ⟨items, n, hl1, hs1, turn⟩ := hl _ _ h
    have hlt : i < items.size := by omega
    have ht := turn hlt
    obtain ⟨hp, g, d, tk, os⟩ := s
    wp_walk using wpAny_loadPart' hl1
    have hi1 : items[((i : Nat) : Int).toNat]? = some items[i] := by simp [hlt]
    have hc : ((i : Int) + 1) = ((i + 1 : Nat) : Int) := by omega
    rw [hi1]
    refine wpAny_bind (wpAny_mono ht (fun r s2 h2 => ?_) fun _ _ x => x)
    obtain ⟨hr, h2⟩ := h2
    subst hr
    have hrec := ih (i + 1) (by omega) (by omega) s2 h2
    obtain ⟨hp2, g2, d2, tk2, os2⟩ := s2
    wp_walk
    rw [hc]
    exact ⟨plainId_quiet plain_contains_loop _, codeAny_builtin entry_contains_loop (by
      rw [Around.under_plainId plain_contains_loop _]
      exact hrec)⟩
theorem list_inG (l : Addr) (x : Value) (N : Nat) (I : Nat → Shared → Prop) (hl : InI prog w A (fun e s' => R (.error e) s') l x N I) (fin : ∀ s, I N s → R (.ok (.ret (.bool false))) s) {s : Shared} (h : I 0 s) :
    wpAny (model prog w) A.in1 (Builtin.«list.__contains__» ⟨[.ref l, x], []⟩) (FinOf prog w A R) (fun e s' => R (.error e) s') s := by
  have hrec := in_loopG (A := A) (R := R) l x N I hl fin _ 0 rfl (Nat.zero_le _) s h
  obtain ⟨hp, g, d, tk, os⟩ := s
  wp_walk
  exact ⟨plainId_quiet plain_contains_loop _, codeAny_builtin entry_contains_loop (by
    rw [Around.under_plainId plain_contains_loop _]
    exact hrec)⟩
end
theorem in_no {prog : Program} {w : World} {A : Around} {E : Value → Shared → Prop} {s : Shared} {l : Addr} {x : Value} {N : Nat} {Q : Value → Shared → Prop} (I : Nat → Shared → Prop) (hl : InI prog w A E l x N I)
    (fin : ∀ s, I N s → Q (.bool false) s) (h : I 0 s) : wpAny (model prog w) A (compareOp .In x (.ref l)) Q E s := by
  obtain ⟨items, n, hl1, _, _⟩ := hl _ _ h
  show wpAny _ A (do return .bool (← contains (.ref l) x)) Q E s
  refine wpAny_bind (wpAny_contains_slot (s := s) (T := "list") ⟨_, hl1, rfl⟩ F.slot_list_contains (call_here F.slot_list_contains ⟨_, hl1, rfl⟩ F.entry_list_contains (F.args_list_contains_2 _ _) ?_))
  refine list_inG (R := wants (fun v s' => wpAny (model prog w) A (truthy v) (fun a s2 => wpAny (model prog w) A (pure (.bool a)) Q E s2) E s') E) l x N I hl (fun s' q => ?_) h
  exact wpAny_truthy_bool (wpAny_pure (fin s' q))
end Ow
namespace L2
open PySem PySem.Spec PyProof.Rows
/-- == gives False for what D says, and only makes objects -/
def EqN (X : Cx) (n : Nat) (D : Eqv) : Prop :=
  ∀ (A : Around) (pins : List (Addr × Obj)) (s : Shared) (σ : St) (H : Hp) (x y : V) (u v : Value), Sub X n A → Inv X pins σ H s → RelV x u → RelV y v → D x y H →
    wpAny (model X.prog X.w) A (eqBool u v) (fun r s' => r = false ∧ ∃ H', Inv X pins σ H' s' ∧ Ext H H') X.xe s
def spNo (D : Eqv) : Sp := fun vs H Q _ => ∃ x y, vs = [x, y] ∧ D x y H ∧ ∀ H', Ext H H' → Q (.bl false) H'
section
variable {X : Cx} {n m : Nat} {D D' : Eqv}
theorem EqN.mono (h : EqN X n D) (hn : n ≤ m) : EqN X m D := fun A pins s σ H x y u v sb => h A pins s σ H x y u v (sb.mono hn)
theorem EqN.or (h : EqN X n D) (h' : EqN X n D') : EqN X n (fun x y H => D x y H ∨ D' x y H) := fun A pins s σ H x y u v sb I rx ry d => by
  rcases d with d | d
  · exact h A pins s σ H x y u v sb I rx ry d
  · exact h' A pins s σ H x y u v sb I rx ry d
/-- x in a list of which none is equal to x -/
def rInNo (D : Eqv) : R2 := fun x y H Q => ∃ l xs, y = .ref l ∧ H l = some (.lst xs) ∧ (∀ z ∈ xs, ∀ H', Ext H H' → D z x H') ∧ ∀ H', Ext H H' → Q (.bl false) H'
theorem op_inNo (h : EqN X n D) (hr : Room (n + 1) X.A) : OpR X (compareOp .In) (rInNo D) := by
  intro pins s σ H x y v u Q I rx ry hq
  obtain ⟨l, xs, rfl, hl, hd, q⟩ := hq
  cases ry
  refine Ow.in_no (N := xs.length) (fun _ s' => LoopI X pins σ H s') (fun i s' z => ?_) (fun s' z => ?_) ⟨H, I, Ext.rfl'⟩
  · obtain ⟨H1, I1, e1⟩ := id z
    obtain ⟨zz, its, k, r, e⟩ := I1.hok l _ (e1 _ _ hl)
    refine ⟨its.toArray, k, e, by rw [List.size_toArray, ← r.length], fun h1 => ?_⟩
    have k1 : i < xs.length := by rw [r.length]; simpa using h1
    obtain ⟨w, hw, rw_⟩ := r.get (List.getElem?_eq_getElem k1)
    have g1 : its[i]? = some its.toArray[i] := by
      have h1' : i < its.length := by simpa using h1
      rw [List.getElem?_eq_getElem h1'] <;> simp
    rw [g1] at hw
    rw [Option.some.inj hw]
    refine wpAny_mono (h X.A.in1 pins s' σ H1 _ _ w v ⟨hr.in1, rfl⟩ I1 rw_ rx (hd _ (List.getElem_mem k1) H1 e1)) (fun r s2 q => ?_) fun _ _ x => x
    obtain ⟨hr, H2, I2, e2⟩ := q
    exact ⟨hr, H2, I2, e1.trans e2⟩
  · obtain ⟨H1, I1, e1⟩ := z
    exact ⟨.bl false, H1, I1, rfl, q H1 e1⟩
end
end L2

/-! N2 -/
/-! ### what an own __eq__ that says no gives, from every side -/
namespace L2
open PySem PySem.Spec PyProof.Rows
/-- what is known of a class's own == -/
structure OwnEqC (K : PySem.W.Frag) (C D0 f : Addr) : Prop where
  hs : PySem.W.findIn K (.ref C) "__eq__" = some (some (.ref f))
  hf : PySem.W.isFn K (.ref f) = true
  sN : PySem.W.subIn K (.ref C) (.type "NoneType") = some false
  sS : PySem.W.subIn K (.ref C) (.type "str") = some false
  sT : PySem.W.subIn K (.ref C) (.type "tuple") = some false
  sD : PySem.W.subIn K (.ref C) (.ref D0) = some true
  ne : D0 ≠ C
def DNo (K : PySem.W.Frag) (C D0 : Addr) (R : Eqv) : Eqv := fun x y H => ∃ b dy gs, y = .ref b ∧ H b = some (.ins C dy gs) ∧
  ((∃ a dx fs, x = .ref a ∧ a ≠ b ∧ H a = some (.ins C dx fs) ∧ R x y H) ∨ (∃ a dx fs, x = .ref a ∧ H a = some (.ins D0 dx fs) ∧ R y x H) ∨ (x = .non ∧ R y x H) ∨ (∃ s, x = .str s ∧ R y x H) ∨ (∃ p xs, x = .ref p ∧ SqT K H p xs ∧ R y x H))
section
variable {X : Cx} {n : Nat} {CX : CXT} {C D0 f : Addr} {fd : FuncData} {ps : List Str} {R : Eqv} {E : XK}
theorem call_no (F : FnOk X.prog X.w X.K X.mg X.base CX n f fd ps (spNo R)) (hb : Binds X.K fd ps []) (hx : Passes CX X E) {A : Around} {pins : List (Addr × Obj)} {s : Shared} {σ : St} {H : Hp} {x y : V} {u v : Value} (sb : Sub X n A) (I : Inv X pins σ H s) (rx : RelV x u) (ry : RelV y v) (d : R x y H) :
    wpAny (model X.prog X.w) A (call (.ref f) [u, v]) (PySem.W.CmpBack fun r s' => r = .bool false ∧ ∃ H', Inv X pins σ H' s' ∧ Ext H H') X.xe s := by
  have hsp : spNo R [x, y] H (fun v H' => v = .bl false ∧ Ext H H') E := ⟨x, y, rfl, d, fun H' e => ⟨rfl, e⟩⟩
  have e0 : Env0 X.prog X.w X.K X.mg X.base A X.stack s H := by
    have e := I.env0
    exact ⟨by rw [sb.fr]; exact e.frames, e.mod, e.bs, e.bsz, e.funs, e.frf, e.hok, e.bare⟩
  have hl := F.len _ _ _ _ hsp
  have r2 : Vals [x, y] [u, v] := .cons rx (.cons ry .nil)
  refine wpAny_call (codeAny_mono (F.run A X.stack s H ⟨[u, v], []⟩ [u, v] [x, y] _ E sb.room e0 (by
    have := hb s [u, v] I.kIn (by simpa using hl)
    simpa using this) r2 hsp) fun r s' hq => ?_)
  cases r with
  | error e => exact hx pins σ H s e s' I hq
  | ok fl =>
    cases fl with
    | ret w =>
      obtain ⟨z, H', I', rz, ez, ex⟩ := I.after hq
      subst ez
      cases rz
      exact ⟨rfl, H', I', ex⟩
    | next => exact False.elim hq
    | brk => exact False.elim hq
    | cont => exact False.elim hq
theorem eqBool_neG {prog : Program} {w : World} {A : Around} {E : Value → Shared → Prop} {s : Shared} {u v : Value} {Q : Bool → Shared → Prop} (hne : (u == v) = false) (hf : ∀ a b c d, (u, v) ≠ (Value.float a b, Value.float c d)) (h : wpAny (model prog w) A (richCompare .Eq u v) (fun v s' => ∃ r, v = .bool r ∧ Q r s') E s) : wpAny (model prog w) A (eqBool u v) Q E s := by
  unfold eqBool
  refine wpAny_holding ?_
  refine wpAny_ite_split (fun hab => absurd (hab.symm.trans hne) (fun z => nomatch z)) (fun _ => ?_)
  split
  · next a b c d e => exact absurd e (hf a b c d)
  · refine (wpAny_bind (wpAny_mono h (fun v s' hv => ?_) fun _ _ x => x))
    obtain ⟨r, rfl, q⟩ := hv
    exact wpAny_truthy_bool q
theorem eqN_own (T : OwnEqC X.K C D0 f) (F : FnOk X.prog X.w X.K X.mg X.base CX n f fd ps (spNo R)) (hb : Binds X.K fd ps []) (hx : Passes CX X E) : EqN X n (DNo X.K C D0 R) := by
  intro A pins s σ H x y u v sb I rx ry d
  obtain ⟨b, dy, gs, rfl, hb', d⟩ := d
  cases ry
  obtain ⟨mB, J', _⟩ := ins_get I.hok hb'
  obtain ⟨od', J', _⟩ := J'.look
  obtain ⟨m, hF⟩ := I.fr
  have fin : ∀ r s', (r = Value.bool false ∧ ∃ H', Inv X pins σ H' s' ∧ Ext H H') → ∃ r', r = .bool r' ∧ (r' = false ∧ ∃ H', Inv X pins σ H' s' ∧ Ext H H') := fun r s' ⟨e, q⟩ => ⟨false, e, rfl, q⟩
  rcases d with ⟨a, dx, fs, rfl, hne, ha, hr⟩ | ⟨a, dx, fs, rfl, ha, hr⟩ | ⟨rfl, hr⟩ | ⟨t, rfl, hr⟩ | ⟨p, xs, rfl, hp, hr⟩
  · cases rx
    obtain ⟨mA, J, _⟩ := ins_get I.hok ha
    obtain ⟨od, J, _⟩ := J.look
    refine GQ.eqBool_refG hne (wpAny_mono (Q := fun r s' => r = .bool false ∧ ∃ H', Inv X pins σ H' s' ∧ Ext H H') ?_ fin fun _ _ x => x)
    exact PySem.W.cmp_K (op := .Eq) (tb := .ref C) sb.room.units0 hF I.ok.mod.kin J J'.type (by simp [PySem.W.notFirst]) T.hs T.hf (call_no (x := .ref a) (y := .ref b) F hb hx sb I rfl rfl hr)
  · cases rx
    obtain ⟨mA, J, _⟩ := ins_get I.hok ha
    obtain ⟨od, J, _⟩ := J.look
    have hne : a ≠ b := by
      rintro rfl
      rw [ha] at hb'
      injection hb' with e
      injection e with e1
      exact T.ne e1
    refine GQ.eqBool_refG hne (wpAny_mono (Q := fun r s' => r = .bool false ∧ ∃ H', Inv X pins σ H' s' ∧ Ext H H') ?_ fin fun _ _ x => x)
    exact Ow.rc_below sb.room.units0 I.kIn J' J T.sD T.ne T.hs T.hf (call_no (x := .ref b) (y := .ref a) F hb hx sb I rfl rfl hr)
  · cases rx
    refine eqBool_neG rfl (fun _ _ _ _ z => nomatch z) (wpAny_mono (Q := fun r s' => r = .bool false ∧ ∃ H', Inv X pins σ H' s' ∧ Ext H H') ?_ fin fun _ _ x => x)
    exact Ow.rc_back (ta := .type "NoneType") sb.room.units0 I.kIn J' rfl (PySem.W.Looks.of_pure rfl) T.sN rfl (fun Q' q => Ow.dec_none q) T.hs T.hf (call_no (x := .ref b) (y := .non) F hb hx sb I rfl rfl hr)
  · obtain ⟨tk, rfl⟩ := (show ∃ tk, u = Value.str t tk from rx)
    refine eqBool_neG rfl (fun _ _ _ _ z => nomatch z) (wpAny_mono (Q := fun r s' => r = .bool false ∧ ∃ H', Inv X pins σ H' s' ∧ Ext H H') ?_ fin fun _ _ x => x)
    exact Ow.rc_back (ta := .type "str") sb.room.units0 I.kIn J' rfl (PySem.W.Looks.of_pure rfl) T.sS rfl (fun Q' q => Ow.dec_str J' (fun u z => nomatch z) q) T.hs T.hf (call_no (x := .ref b) (y := .str t) F hb hx sb I rfl ⟨tk, rfl⟩ hr)
  · cases rx
    obtain ⟨its, r, e, z⟩ := I.tuple hp
    obtain ⟨o, ho, hc, _⟩ := id e
    have hne : p ≠ b := by
      rintro rfl
      have h1 := J'.at_
      rw [ho] at h1
      cases h1
      cases hc
    refine GQ.eqBool_refG hne (wpAny_mono (Q := fun r s' => r = .bool false ∧ ∃ H', Inv X pins σ H' s' ∧ Ext H H') ?_ fin fun _ _ x => x)
    refine Ow.rc_back (ta := .type "tuple") sb.room.units0 I.kIn J' rfl (fun A' Q' E' s' k q => ?_) T.sT rfl (fun Q' q => Ow.dec_tuple I.kIn J' T.sT e q) T.hs T.hf (call_no (x := .ref b) (y := .ref p) F hb hx sb I rfl rfl hr)
    exact wpAny_typeOf (T := "tuple") ⟨o, k _ _ ho, hc⟩ q
end
end L2

/-! N3 -/
/-! ### != by an own __eq__ -/
namespace Ow
open PySem PySem.SeqAt Builtin
section
variable {prog : Program} {w : World} {A : Around} {E : Value → Shared → Prop} {s : Shared} {K : PySem.W.Frag} {x y C f : Addr} {ox oy : Obj} {od od' : Option Obj}
theorem ne_entry {Q : Fin → Shared → Prop} (X : K.In s.heap) (I : PySem.W.InstAt s.heap x ox C od) (hs : PySem.W.findIn K (.ref C) "__eq__" = some (some (.ref f))) (hf : PySem.W.isFn K (.ref f) = true) (hu : A.units < cLine)
    (hcall : wpAny (model prog w) A (call (.ref f) [.ref x, .ref y]) (fun v s' => ∃ b, v = .bool b ∧ Q (.done (.ret (.bool (!b)))) s') E s) : wpAny (model prog w) A (Builtin.«object.__ne__» ⟨[.ref x, .ref y], []⟩) Q E s := by
  obtain ⟨h, g, d, t, os⟩ := s
  unfold Builtin.«object.__ne__»
  repeat (first
    | with_reducible refine wpAny_cRoomFor hu ?_
    | (refine wpAny_bind (m := callSpecialIfBound? (.ref x) (Str.ofString "__eq__") [.ref y])
        (PySem.W.ifBound_K X I hs hf (wpAny_mono hcall (fun r s' hr => by
          obtain ⟨b, rfl, hq⟩ := hr
          repeat (first | exact hq | exact wpAny_pure hq | exact wpAny_truthy_bool hq | (refine wpAny_bind (m := truthy (.bool _)) (wpAny_truthy_bool ?_)) | wp_step)) fun _ _ e => e)))
    | wp_step)
theorem check_ne {Q : Unit → Shared → Prop} (X : K.In s.heap) (I : PySem.W.InstAt s.heap x ox C od) (ob : PySem.W.subIn K (.ref C) (.type "object") = some true) (hq : Q () s) : wpAny (model prog w) A (checkBuiltinCall "object.__ne__" ⟨[.ref x, .ref y], []⟩) Q E s := by
  have ha := F.cmpArgs_ne (.ref x) (.ref y)
  simp only [checkBuiltinCall, F.cmpKind_ne, F.cmpSplit_ne]
  refine wpAny_bind ?_
  simp only [isInstance]
  refine wpAny_bind (I.type.here ((PySem.W.looks_subIn X ob).here ?_))
  simp only [Bool.not_true, Bool.false_eq_true, if_false]
  exact wpAny_pure hq
theorem ne_own {Q : Value → Shared → Prop} (X : K.In s.heap) (I : PySem.W.InstAt s.heap x ox C od) (J : PySem.W.InstAt s.heap y oy C od') (hs : PySem.W.findIn K (.ref C) "__eq__" = some (some (.ref f))) (hf : PySem.W.isFn K (.ref f) = true)
    (hn : PySem.W.findIn K (.ref C) "__ne__" = some (some (.builtin "object.__ne__"))) (ob : PySem.W.subIn K (.ref C) (.type "object") = some true) (hu : A.units + 1 < cLine)
    (hcall : wpAny (model prog w) A.in1 (call (.ref f) [.ref x, .ref y]) (fun v s' => ∃ b, v = .bool b ∧ Q (.bool (!b)) s') E s) : wpAny (model prog w) A (richCompare .NotEq (.ref x) (.ref y)) Q E s := by
  unfold richCompare
  simp only [oneThing_ref, cmpInfo]
  refine wpAny_holding (wpAny_bind (wpAny_cRoomFor (Nat.lt_of_succ_lt hu) ?_))
  refine wpAny_bind (I.type.here (wpAny_bind (J.type.here ?_)))
  rw [show (Value.ref C != Value.ref C) = false from by simp]
  simp only [Bool.false_eq_true, if_false]
  refine wpAny_bind (wpAny_pure ?_)
  simp only [Bool.false_eq_true, if_false]
  refine wpAny_bind (m := tryCompare (.ref x) _ _) ?_
  unfold tryCompare
  refine wpAny_bind ?_
  simp only [callSpecialIfBound?, bindSpecialIfBound?]
  refine wpAny_holding (wpAny_bind (wpAny_bind (wpAny_bind (I.type.here ((PySem.W.looks_findIn X hn).here ?_)))))
  simp only [F.cmp_object.ne.bind]
  have fin : ∀ {Q' : Option Value → Shared → Prop}, (∀ b s', Q (.bool (!b)) s' → Q' (some (.bool (!b))) s') → wpAny (model prog w) A (call (.builtin "object.__ne__") ([.ref x] ++ [.ref y]) >>= fun v => pure (some v)) Q' E s := fun {Q'} hQ => by
    refine wpAny_bind (wpAny_call (codeAny_call_builtin F.cmp_object.ne.plain F.cmpEntry_ne (check_ne X I ob ?_)))
    refine ne_entry (A := A.in1) X I hs hf hu (wpAny_mono hcall (fun v s' hv => ?_) fun _ _ e => e)
    obtain ⟨b, rfl, hq⟩ := hv
    exact ⟨b, rfl, wpAny_pure (hQ b s' hq)⟩
  refine wpAny_bind (wpAny_askSetting (wpAny_ite ?_))
  split
  · exact wpAny_bind (wpAny_pure (wpAny_pure (fin fun b s' hq => wpAny_pure (wpAny_pure hq))))
  · exact wpAny_tryCatch (wpAny_bind (wpAny_pure (wpAny_pure (fin fun b s' hq => wpAny_pure (wpAny_pure hq)))))
end
end Ow
namespace L2
open PySem PySem.Spec PyProof.Rows
/-- x != y, of two of the class C -/
def rNeOwn (C : Addr) (sp : Sp) (E : XK) : R2 := fun x y H Q => ∃ (a b dx dy : Addr) (fs gs : List (Str × V)), x = .ref a ∧ y = .ref b ∧ H a = some (.ins C dx fs) ∧ H b = some (.ins C dy gs) ∧ sp [.ref a, .ref b] H (fun v H' => ∃ z, v = .bl z ∧ Q (.bl (!z)) H') E
theorem op_neOwn {X : Cx} {n : Nat} {CX : CXT} {C f : Addr} {fd : FuncData} {ps : List Str} {sp : Sp} {E : XK} (F : FnOk X.prog X.w X.K X.mg X.base CX n f fd ps sp) (hs : PySem.W.findIn X.K (.ref C) "__eq__" = some (some (.ref f))) (hf : PySem.W.isFn X.K (.ref f) = true)
    (hn : PySem.W.findIn X.K (.ref C) "__ne__" = some (some (.builtin "object.__ne__"))) (ob : PySem.W.subIn X.K (.ref C) (.type "object") = some true) (hb : Binds X.K fd ps []) (hx : Passes CX X E) (hr : Room (n + 1) X.A) : OpR X (compareOp .NotEq) (rNeOwn C sp E) := by
  intro pins s σ H x y v u Q I rx ry h
  obtain ⟨a, b, dx, dy, fs, gs, rfl, rfl, ha, hb', hsp⟩ := h
  cases rx
  cases ry
  obtain ⟨mA, J, _⟩ := ins_get I.hok ha
  obtain ⟨mB, J', _⟩ := ins_get I.hok hb'
  obtain ⟨od, J, _⟩ := J.look
  obtain ⟨od', J', _⟩ := J'.look
  have un : X.A.units + 1 < cLine := by have := hr.un; omega
  show wpAny _ _ (richCompare .NotEq _ _) _ _ _
  refine Ow.ne_own I.kIn J J' hs hf hn ob un ?_
  have e0 : Env0 X.prog X.w X.K X.mg X.base X.A.in1 X.stack s H := by
    have e := I.env0
    exact ⟨e.frames, e.mod, e.bs, e.bsz, e.funs, e.frf, e.hok, e.bare⟩
  have hl := F.len _ _ _ _ hsp
  have r2 : Vals [V.ref a, V.ref b] [Value.ref a, Value.ref b] := .cons rfl (.cons rfl .nil)
  refine wpAny_call (codeAny_mono (F.run X.A.in1 X.stack s H ⟨[.ref a, .ref b], []⟩ [.ref a, .ref b] [.ref a, .ref b] _ E hr.in1 e0 (by
    have := hb s [.ref a, .ref b] I.kIn (by simpa using hl)
    simpa using this) r2 hsp) fun r s' hq => ?_)
  cases r with
  | error e => exact hx pins σ H s e s' I hq
  | ok fl =>
    cases fl with
    | ret w =>
      obtain ⟨z, H', I', rz, b, ez, q⟩ := I.after hq
      subst ez
      cases rz
      exact ⟨b, rfl, .bl (!b), H', I', rfl, q⟩
    | next => exact False.elim hq
    | brk => exact False.elim hq
    | cont => exact False.elim hq
end L2

/-! N4 -/
/-! ### the name of an own class -/
namespace Nm
section
open PySem PySem.W PySem.Calls PyProof.Rows Builtin Builtin.ObjectAttr Builtin.Getset_descriptor
variable {prog : Program} {w : World} {A : Around} {E : Value → Shared → Prop} {s : Shared} {K : Frag} {R : Result → Shared → Prop} {C : Addr} {n : Str} {o : Obj} {cd : ClassData}
theorem name_kept {tp x : Value} (ho : s.heap.get? C = some o) (hc : o.cls = .type "type") (hs : (o.slots[2]?).join = some x)
    (h : R (.ok (.ret x)) s) :
    codeAny (model prog w) A (.call (.builtin "getset_descriptor.__get__") ⟨[.builtin "type.__name__", .ref C, tp], []⟩) R s := by
  obtain ⟨hh, g, dr, t, os⟩ := s
  have L0 : Looks (model prog w) hh (typeOf (.ref C)) (.type "type") := by
    have := (Looks.ld (M := model prog w) (part := none) ho).andThen (f := fun o => pure o.cls) .now
    rw [hc] at this
    exact this
  have L1 : Looks (model prog w) hh (isSubtype (.type "type") (.type "type")) true := Looks.of_pure (by rw [isSubtype_type]; kernel_rfl)
  refine codeAny_call_builtin KF.slot_gs.plain KF.entry_gs (KF.slot_gs.check _ _ _ _ _ _ _ _ ktyn_type (KF.args_gs _ _ _) ?_)
  unfold Builtin.«getset_descriptor.__get__» descrGet
  rw [dga_obj]
  refine wpAny_bind (wpAny_pure ?_)
  unfold descrGetter descrCheckInstance descrNameAndClass isInstance
  simp only [ktyn_owner]
  repeat lk
  refine ⟨Code.quiet_builtin _ (by decide +kernel), codeAny_builtin ktyn_entry ?_⟩
  unfold Builtin.«type.__name__»
  dsimp only
  unfold keptObject
  dsimp only
  unfold slotAt
  refine wpAny_bind (wpAny_bind (wpAny_loadPart (o := o) ho (wpAny_pure ?_)))
  rw [hs]
  exact wpAny_pure h
end
end Nm
/-! ### what is known of a class whose name is asked -/
namespace Nm
open PySem PySem.Spec PyProof.Rows L2
abbrev LSt := L2.St
/-- what is known of the class at C, whose name is n -/
structure NmC (K : PySem.W.Frag) (C : Addr) (n : Str) : Prop where
  rd : PySem.W.readsIn K C (.type "type") = true
  at_ : PySem.W.findCls K (.ref C) (.type "type") "__name__" = some (.get (.builtin "getset_descriptor.__get__") (.builtin "type.__name__") (.ref C) (.type "type"))
  ob : ∃ (o : Obj) (cd : ClassData), K.lookup C = some o ∧ o.cls = .type "type" ∧ o.data = .cls cd ∧ Str.ofString cd.name.toString = n
  pg : PySem.W.plainGet K C "__class__" = true
  hd : PySem.W.hasDictIn K C = true
  ha : PySem.W.findIn K (.ref C) "__class__" = some (some (.builtin "object.__class__"))
  hn : PySem.W.specialIn K (.builtin "object.__class__") "__get__" = some (some (.builtin "getset_descriptor.__get__"))
  ht : PySem.W.takesIn K (.builtin "object.__class__") = some true
  hm : PySem.W.mroIn K C (.type "object") = some true
  sz : n.length ≤ sizeLine
def Kept (K : PySem.W.Frag) (C : Addr) (v : Value) : Prop := ∀ o, K.lookup C = some o → (o.slots[2]?).join = some v
end Nm

namespace Tr
open PySem PySem.Spec PyProof.Rows L2 Rw NdefX SuX
/-- a class by its name -/
structure TCls (K : PySem.W.Frag) (C : Addr) (n : Str) : Prop where
  c : Nm.NmC K C n
  k : ∃ tk : Tok, Nm.Kept K C (.str n tk)
/-- e.__class__.__name__ -/
def tClsNm (K : PySem.W.Frag) (ta : TE) : TE := fun σ H Q => ta σ H fun x H1 => ∃ (a C dx : Addr) (fs : List (Str × V)) (n : Str), x = .ref a ∧ H1 a = some (.ins C dx fs) ∧ TCls K C n ∧ Q (.str n) H1
theorem pe_clsnm {X : Cx} {K : PySem.W.Frag} {e : Expr} {ta : TE} {p1 p2 : Pos} (hK : X.K = K) (he : PE X e ta) (hb1 : attributeBase e "__class__" X.env (eval e X.env) = eval e X.env)
    (hb2 : attributeBase (.Attribute e "__class__" p1) "__name__" X.env (eval (.Attribute e "__class__" p1) X.env) = eval (.Attribute e "__class__" p1) X.env) : PE X (.Attribute (.Attribute e "__class__" p1) "__name__" p2) (tClsNm K ta) := by
  subst hK
  refine ⟨fun pins s σ H Q I h => ?_⟩
  refine attr_of hb2 (attr_of hb1 (thn (he.run pins s σ H _ I h) fun u s1 ⟨x, H1, I1, rx, a, C, dx, fs, n, ex, ea, T, q⟩ => ?_))
  subst ex
  obtain rfl : u = Value.ref a := rx
  obtain ⟨c, tk, f⟩ := T
  obtain ⟨mA, J, _⟩ := ins_get I1.hok ea
  obtain ⟨od, J, _⟩ := J.look
  obtain ⟨m, hF⟩ := I1.fr
  refine PySem.W.get_class hF I1.ok.mod.kin J c.pg c.hd c.ha c.hn c.ht c.hm ?_
  have I2 := I1.tok (s1.toks + 1)
  obtain ⟨o, cd, h1, h3, h4, h5⟩ := c.ob
  have ho := I2.kIn _ _ h1
  refine PySem.W.cls_bind I2.kIn c.rd c.at_ (wpAny_call (Nm.name_kept (o := o) ho h3 (f _ h1) (PySem.W.handed_on rfl ?_)))
  exact ⟨.str n, H1, I2.tok _, ⟨_, rfl⟩, q⟩
theorem dec_strV (a b : Str) : decide (V.str a = V.str b) = decide (a = b) := by
  by_cases e : a = b
  · rw [decide_eq_true e, decide_eq_true (congrArg V.str e)]
  · rw [decide_eq_false e, decide_eq_false fun z => e (V.str.inj z)]
def spAlG (K : PySem.W.Frag) : Sp := fun vs H Q _ => ∃ (a b C C' dx dy : Addr) (fs gs : List (Str × V)) (n n' : Str), vs = [.ref a, .ref b] ∧ H a = some (.ins C dx fs) ∧ TCls K C n ∧ H b = some (.ins C' dy gs) ∧ TCls K C' n' ∧ Q (.bl (decide (n = n'))) H
theorem IsThr.ins {K : PySem.W.Frag} {C : Addr} {H : Hp} {a : Addr} {v : V} {ds : List D} {more : List (Str × V)} (h : IsThr K C H a v ds more) : ∃ dx fs, H a = some (.ins C dx fs) := by
  obtain ⟨dx, l1, l2, l3, ys, zs, us, h0, _⟩ := h
  exact ⟨_, _, h0⟩
theorem IsThr.ty {K : PySem.W.Frag} {C : Addr} {H : Hp} {a : Addr} {v : V} {ds : List D} {more : List (Str × V)} {n : Str} (h : IsThr K C H a v ds more) (T : ThrC K C) (c : TCls K C n) : TyX K H (.ref a) (.ref C) := by
  obtain ⟨dx, fs, h0⟩ := h.ins
  exact .base (.ins h0 T.cl c.c.ha c.c.hn c.c.ht c.c.hm)
abbrev mW (nm : Str) : List (Str × V) := [("_label", .str nm)]
abbrev mG (nm gt : Str) : List (Str × V) := [("_label", .str nm), ("_gate", .str gt)]
def spEqW (K : PySem.W.Frag) (cW : Addr) (n : Nat) : Sp := fun vs H Q _ => ∃ (a : Addr) (y : V) (nm : Str) (v : V) (ds : List D), vs = [.ref a, y] ∧ IsThr K cW H a v ds (mW nm) ∧ Fits n ds ∧
  ((∃ T, TyX K H y T ∧ PySem.W.kitOne K T (.ref cW) = some false ∧ Q (.bl false) H) ∨
   (∃ (b : Addr) (nm' : Str) (v' : V) (ds' : List D), y = .ref b ∧ IsThr K cW H b v' ds' (mW nm') ∧ Fits n ds' ∧ Q (.bl (decide (nm = nm') && PyData.eqv (.tuple ds) (.tuple ds'))) H))
def spEqG (K : PySem.W.Frag) (cGt : Addr) (n : Nat) : Sp := fun vs H Q _ => ∃ (a C : Addr) (nC : Str) (y : V) (nm gt : Str) (v : V) (ds : List D), vs = [.ref a, y] ∧ ThrC K C ∧ TCls K C nC ∧ IsThr K C H a v ds (mG nm gt) ∧ Fits n ds ∧
  ((∃ T, TyX K H y T ∧ PySem.W.kitOne K T (.ref cGt) = some false ∧ Q (.bl false) H) ∨
   (∃ (b C' : Addr) (nC' : Str) (v' : V) (ds' : List D) (more' : List (Str × V)), y = .ref b ∧ ThrC K C' ∧ TCls K C' nC' ∧ PySem.W.kitOne K (.ref C') (.ref cGt) = some true ∧ nC ≠ nC' ∧ IsThr K C' H b v' ds' more' ∧ Q (.bl false) H) ∨
   (∃ (b : Addr) (nm' gt' : Str) (v' : V) (ds' : List D), y = .ref b ∧ PySem.W.kitOne K (.ref C) (.ref cGt) = some true ∧ IsThr K C H b v' ds' (mG nm' gt') ∧ Fits n ds' ∧ Q (.bl (decide (nm = nm') && (decide (gt = gt') && PyData.eqv (.tuple ds) (.tuple ds')))) H))
section
variable {P : Program} {w : World} {K : PySem.W.Frag} {mg : Str → Option Value} {base : Heap}
abbrev sAl : Stmt := top 34
theorem scAl : FnScope ["one", "other"] ["one", "other"] (defScope sAl) := ⟨rfl, rfl, rfl, by decide +kernel, rfl, by decide +kernel, by decide +kernel⟩
theorem ok_al {f : Addr} {fd : FuncData} (F : Fun K "are_alike" "are_alike" sAl f fd) : FnOk P w K mg base CX0 1 f fd ["one", "other"] (spAlG K) := by
  refine F.ok scAl (fun vs H Q E h => ?_) (fun cdv A outer s H vs Q E hr h => ?_)
  · obtain ⟨a, b, C, C', dx, dy, fs, gs, n, n', rfl, _⟩ := h
    rfl
  · obtain ⟨a, b, C, C', dx, dy, fs, gs, n, n', rfl, h1, T1, h2, T2, q⟩ := h
    refine ⟨_, (pss_one (ps_ret (pe_cmpR op_eq (pe_clsnm rfl (pv 0) rfl rfl) (pe_clsnm rfl (pv 1) rfl rfl) (nomark _)))), ?_⟩
    refine ⟨_, rfl, a, C, dx, fs, n, rfl, h1, T1, ?_⟩
    refine ⟨_, rfl, b, C', dy, gs, n', rfl, h2, T2, rfl, ?_⟩
    rw [dec_strV]
    exact q
abbrev sEW : Stmt := inClass (top 43) 3
theorem scEW : FnScope ["self", "other"] ["self", "other"] (defScope sEW) := ⟨rfl, rfl, rfl, by decide +kernel, rfl, by decide +kernel, by decide +kernel⟩
theorem ok_EW {f fL cW : Addr} {fd fdL : FuncData} {nW : Str} (F : Fun K "__eq__" "Work.__eq__" sEW f fd) (n : Nat) (hn : n ≤ 40) (tc : ThrC K cW) (cc : TCls K cW nW) (kw : PySem.W.kitOne K (.ref cW) (.ref cW) = some true) (gW : mg "Work" = some (.ref cW))
    (GL : FnOk P w K mg base CX0 1 fL fdL ["one", "other"] (spAlG K)) (TL : Called K mg "are_alike" ["one", "other"] fL fdL) (m_isinstance : mg "isinstance" = none) : FnOk P w K mg base CX0 2 f fd ["self", "other"] (spEqW K cW n) := by
  refine F.ok scEW (fun vs H Q E h => ?_) (fun cdv A outer s H vs Q E hr h => ?_)
  · obtain ⟨a, y, nm, v, ds, rfl, _⟩ := h
    rfl
  · obtain ⟨a, y, nm, v, ds, rfl, ha, ft, h⟩ := h
    refine ⟨_, (pss_cons (ps_if (PW.pt (pw_or (pt_not (pt_val (pe_callB (call_isiKK (K := K) rfl) (by rfl) m_isinstance (by decide +kernel) (pa_cons (pv 1) (pa_cons (pe_glob (v := .ref cW) rfl gW rfl) pa_nil))))) (pw_or1 (pt_not (pt_val (pe_call GL (hr.mono (by first | decide | omega)) rfl TL.1 TL.2.1 TL.2.2 .nil pass0 (pa_cons (pv 0) (pa_cons (pv 1) pa_nil))))))))
       (pss_one (ps_ret pe_bl))
       pss_nil)
       (pss_one (ps_ret (pe_and (pe_cmpR op_eq (pe_fld (pv 0) rfl) (pe_fld (pv 1) rfl) (nomark _)) (pe_one (pe_cmpR (Nm.op_eqDK (K := K) rfl hr.units) (pe_fld (pv 0) rfl) (pe_fld (pv 1) rfl) (nomark _))))))), ?_⟩
    rcases h with ⟨T, ty, kt, q⟩ | ⟨b, nm', v', ds', rfl, hb, ft', q⟩
    · refine ⟨_, rfl, _, _, _, _, _, rfl, .own _, ty, kt, _, rfl, ?_⟩
      exact iteT (iteT q)
    · refine ⟨_, rfl, _, _, _, _, _, rfl, .own _, hb.ty tc cc, kw, _, rfl, ?_⟩
      refine iteF ?_
      obtain ⟨dx, l1, l2, l3, ys, zs, us, h0, h1, _⟩ := ha
      obtain ⟨dy, g1, g2, g3, ys', zs', us', e0, e1, _⟩ := hb
      refine ⟨_, rfl, _, rfl, a, b, cW, cW, dx, dy, _, _, _, _, rfl, h0, cc, e0, cc, _, rfl, ?_⟩
      rw [decide_eq_true rfl]
      refine iteF ?_
      refine ⟨_, rfl, a, cW, dx, _, _, rfl, h0, tc.cl, tc.nB, rfl, _, rfl, b, cW, dy, _, _, rfl, e0, tc.cl, tc.nB, rfl, rfl, _, rfl, ?_⟩
      rw [dec_strV]
      by_cases e : nm = nm'
      · rw [decide_eq_true e] at q ⊢
        rw [Bool.true_and] at q
        refine iteT ?_
        exact ⟨_, rfl, a, cW, dx, _, _, rfl, h0, tc.cl, tc.nC, rfl, _, rfl, b, cW, dy, _, _, rfl, e0, tc.cl, tc.nC, rfl, _, _, h1, e1, fits_sh ft hn, fits_sh ft' hn, q⟩
      · rw [decide_eq_false e] at q ⊢
        rw [Bool.false_and] at q
        exact iteF q
abbrev sEq : Stmt := top 45
theorem scEq : FnScope ["one", "other"] ["one", "other"] (defScope sEq) := ⟨rfl, rfl, rfl, by decide +kernel, rfl, by decide +kernel, by decide +kernel⟩
theorem ok_eq {f fL cGt : Addr} {fd fdL : FuncData} (F : Fun K "are_equal" "are_equal" sEq f fd) (n : Nat) (hn : n ≤ 40) (gGt : mg "Gated" = some (.ref cGt))
    (GL : FnOk P w K mg base CX0 1 fL fdL ["one", "other"] (spAlG K)) (TL : Called K mg "are_alike" ["one", "other"] fL fdL) (m_isinstance : mg "isinstance" = none) : FnOk P w K mg base CX0 2 f fd ["one", "other"] (spEqG K cGt n) := by
  refine F.ok scEq (fun vs H Q E h => ?_) (fun cdv A outer s H vs Q E hr h => ?_)
  · obtain ⟨a, C, nC, y, nm, gt, v, ds, rfl, _⟩ := h
    rfl
  · obtain ⟨a, C, nC, y, nm, gt, v, ds, rfl, tc, cc, ha, ft, h⟩ := h
    refine ⟨_, (pss_cons (ps_if (PW.pt (pw_or (pt_not (pt_val (pe_callB (call_isiKK (K := K) rfl) (by rfl) m_isinstance (by decide +kernel) (pa_cons (pv 1) (pa_cons (pe_glob (v := .ref cGt) rfl gGt rfl) pa_nil))))) (pw_or1 (pt_not (pt_val (pe_call GL (hr.mono (by first | decide | omega)) rfl TL.1 TL.2.1 TL.2.2 .nil pass0 (pa_cons (pv 0) (pa_cons (pv 1) pa_nil))))))))
       (pss_one (ps_ret pe_bl))
       pss_nil)
       (pss_one (ps_ret (pe_and (pe_cmpR op_eq (pe_fld (pv 0) rfl) (pe_fld (pv 1) rfl) (nomark _)) (pe_and (pe_cmpR op_eq (pe_fld (pv 0) rfl) (pe_fld (pv 1) rfl) (nomark _)) (pe_one (pe_cmpR (Nm.op_eqDK (K := K) rfl hr.units) (pe_fld (pv 0) rfl) (pe_fld (pv 1) rfl) (nomark _)))))))), ?_⟩
    rcases h with ⟨T, ty, kt, q⟩ | ⟨b, C', nC', v', ds', more', rfl, tc', cc', kt, hne, hb, q⟩ | ⟨b, nm', gt', v', ds', rfl, kw, hb, ft', q⟩
    · refine ⟨_, rfl, _, _, _, _, _, rfl, .own _, ty, kt, _, rfl, ?_⟩
      exact iteT (iteT q)
    · refine ⟨_, rfl, _, _, _, _, _, rfl, .own _, hb.ty tc' cc', kt, _, rfl, ?_⟩
      refine iteF ?_
      obtain ⟨dx, fs, h0⟩ := ha.ins
      obtain ⟨dy, gs, e0⟩ := hb.ins
      refine ⟨_, rfl, _, rfl, a, b, C, C', dx, dy, _, _, _, _, rfl, h0, cc, e0, cc', _, rfl, ?_⟩
      rw [decide_eq_false hne]
      exact iteT q
    · refine ⟨_, rfl, _, _, _, _, _, rfl, .own _, hb.ty tc cc, kw, _, rfl, ?_⟩
      refine iteF ?_
      obtain ⟨dx, l1, l2, l3, ys, zs, us, h0, h1, _⟩ := ha
      obtain ⟨dy, g1, g2, g3, ys', zs', us', e0, e1, _⟩ := hb
      refine ⟨_, rfl, _, rfl, a, b, C, C, dx, dy, _, _, _, _, rfl, h0, cc, e0, cc, _, rfl, ?_⟩
      rw [decide_eq_true rfl]
      refine iteF ?_
      refine ⟨_, rfl, a, C, dx, _, _, rfl, h0, tc.cl, tc.nB, rfl, _, rfl, b, C, dy, _, _, rfl, e0, tc.cl, tc.nB, rfl, rfl, _, rfl, ?_⟩
      rw [dec_strV]
      by_cases e : nm = nm'
      · rw [decide_eq_true e] at q ⊢
        rw [Bool.true_and] at q
        refine iteT ?_
        refine ⟨_, rfl, a, C, dx, _, _, rfl, h0, tc.cl, tc.nG, rfl, _, rfl, b, C, dy, _, _, rfl, e0, tc.cl, tc.nG, rfl, rfl, _, rfl, ?_⟩
        rw [dec_strV]
        by_cases e2 : gt = gt'
        · rw [decide_eq_true e2] at q ⊢
          rw [Bool.true_and] at q
          refine iteT ?_
          exact ⟨_, rfl, a, C, dx, _, _, rfl, h0, tc.cl, tc.nC, rfl, _, rfl, b, C, dy, _, _, rfl, e0, tc.cl, tc.nC, rfl, _, _, h1, e1, fits_sh ft hn, fits_sh ft' hn, q⟩
        · rw [decide_eq_false e2] at q ⊢
          rw [Bool.false_and] at q
          exact iteF q
      · rw [decide_eq_false e] at q ⊢
        rw [Bool.false_and] at q
        exact iteF q
abbrev sEU : Stmt := inClass (top 46) 3
theorem scEU : FnScope ["self", "other"] ["self", "other"] (defScope sEU) := ⟨rfl, rfl, rfl, by decide +kernel, rfl, by decide +kernel, by decide +kernel⟩
theorem ok_EU {f fE cGt : Addr} {fd fdE : FuncData} (F : Fun K "__eq__" "Guest.__eq__" sEU f fd) (n : Nat) (GE : FnOk P w K mg base CX0 2 fE fdE ["one", "other"] (spEqG K cGt n)) (TE : Called K mg "are_equal" ["one", "other"] fE fdE) : FnOk P w K mg base CX0 3 f fd ["self", "other"] (spEqG K cGt n) := by
  refine F.ok scEU (fun vs H Q E h => ?_) (fun cdv A outer s H vs Q E hr h => ?_)
  · obtain ⟨a, C, nC, y, nm, gt, v, ds, rfl, _⟩ := h
    rfl
  · obtain ⟨a, C, nC, y, nm, gt, v, ds, rfl, h⟩ := h
    refine ⟨_, (pss_one (ps_ret (pe_call GE (hr.mono (by first | decide | omega)) rfl TE.1 TE.2.1 TE.2.2 .nil pass0 (pa_cons (pv 0) (pa_cons (pv 1) pa_nil))))), ?_⟩
    exact ⟨_, rfl, _, rfl, a, C, nC, y, nm, gt, v, ds, rfl, h⟩
abbrev sEK : Stmt := inClass (top 47) 3
theorem scEK : FnScope ["self", "other"] ["self", "other"] (defScope sEK) := ⟨rfl, rfl, rfl, by decide +kernel, rfl, by decide +kernel, by decide +kernel⟩
theorem ok_EK {f fE cGt : Addr} {fd fdE : FuncData} (F : Fun K "__eq__" "Crowd.__eq__" sEK f fd) (n : Nat) (GE : FnOk P w K mg base CX0 2 fE fdE ["one", "other"] (spEqG K cGt n)) (TE : Called K mg "are_equal" ["one", "other"] fE fdE) : FnOk P w K mg base CX0 3 f fd ["self", "other"] (spEqG K cGt n) := by
  refine F.ok scEK (fun vs H Q E h => ?_) (fun cdv A outer s H vs Q E hr h => ?_)
  · obtain ⟨a, C, nC, y, nm, gt, v, ds, rfl, _⟩ := h
    rfl
  · obtain ⟨a, C, nC, y, nm, gt, v, ds, rfl, h⟩ := h
    refine ⟨_, (pss_one (ps_ret (pe_call GE (hr.mono (by first | decide | omega)) rfl TE.1 TE.2.1 TE.2.2 .nil pass0 (pa_cons (pv 0) (pa_cons (pv 1) pa_nil))))), ?_⟩
    exact ⟨_, rfl, _, rfl, a, C, nC, y, nm, gt, v, ds, rfl, h⟩
end
end Tr

/-! N5 -/
/-! ### what a made thread tells; == of the three kinds as one -/
namespace Tr
open PySem PySem.Spec PyProof.Rows L2 Rw NdefX SuX
/-- the fields behind the four of a body -/
def mr (way : Nat) (nm gt : Str) : List (Str × V) := if way = 0 then mW nm else mG nm gt
theorem mr_label (way : Nat) (nm gt : Str) (v : V) (l1 l2 l3 : Addr) : (f4 v l1 l2 l3 ++ mr way nm gt).lookup ("_label" : Str) = some (V.str nm) := by
  unfold mr
  split <;> rfl
theorem mr_gate (way : Nat) (hw : way ≠ 0) (nm gt : Str) (v : V) (l1 l2 l3 : Addr) : (f4 v l1 l2 l3 ++ mr way nm gt).lookup ("_gate" : Str) = some (V.str gt) := by
  unfold mr
  rw [if_neg hw]
  rfl
theorem mr_no (way : Nat) (nm gt : Str) (v : V) (l1 l2 l3 : Addr) : (f4 v l1 l2 l3 ++ mr way nm gt).lookup ("kind" : Str) = none := by
  unfold mr
  split <;> rfl
theorem mr_len (way : Nat) (nm gt : Str) (v : V) (l1 l2 l3 : Addr) : (f4 v l1 l2 l3 ++ mr way nm gt).length ≤ 10 := by
  unfold mr
  split <;> exact Nat.le_of_ble_eq_true rfl
def spSize (K : PySem.W.Frag) (C : Addr) : Sp := fun vs H Q _ => ∃ (a : Addr) (v : V) (ds : List D) (more : List (Str × V)), vs = [.ref a] ∧ IsThr K C H a v ds more ∧ Q (.int ((flat ds).length : Nat)) H
def spKind (k : Str) : Sp := fun vs H Q _ => ∃ a : Addr, vs = [.ref a] ∧ Q (.str k) H
def oddT : List String := ["NoneType", "str", "tuple", "list"]
/-- what of the text the three classes are -/
structure Thrs (K : PySem.W.Frag) (cw : Nat → Addr) (cGt cB : Addr) (nms : Nat → Str) : Prop where
  tc : ∀ i, i < 3 → ThrC K (cw i)
  cc : ∀ i, i < 3 → TCls K (cw i) (nms i)
  tB : ThrC K cB
  cnB : ∃ n, TCls K cB n
  ne : nms 1 ≠ nms 2
  kT : ∀ T ∈ oddT, PySem.W.kitOne K (.type T) (.ref (cw 0)) = some false ∧ PySem.W.kitOne K (.type T) (.ref cGt) = some false
  kB : PySem.W.kitOne K (.ref cB) (.ref (cw 0)) = some false ∧ PySem.W.kitOne K (.ref cB) (.ref cGt) = some false
  k0 : PySem.W.kitOne K (.ref (cw 0)) (.ref (cw 0)) = some true
  k1 : PySem.W.kitOne K (.ref (cw 1)) (.ref (cw 0)) = some false ∧ PySem.W.kitOne K (.ref (cw 2)) (.ref (cw 0)) = some false
  g0 : PySem.W.kitOne K (.ref (cw 0)) (.ref cGt) = some false
  g1 : PySem.W.kitOne K (.ref (cw 1)) (.ref cGt) = some true ∧ PySem.W.kitOne K (.ref (cw 2)) (.ref cGt) = some true
/-- of another kind than the way's threads -/
inductive Odd (K : PySem.W.Frag) (cw : Nat → Addr) (cB : Addr) (H : Hp) (way : Nat) : V → Prop
  | ty {y : V} {T : String} : TyX K H y (.type T) → T ∈ oddT → Odd K cw cB H way y
  | bd {b : Addr} {v : V} {ds : List D} {more : List (Str × V)} : IsThr K cB H b v ds more → Odd K cw cB H way (.ref b)
  | oth {b : Addr} {j : Nat} {v : V} {ds : List D} {more : List (Str × V)} : j < 3 → j ≠ way → IsThr K (cw j) H b v ds more → Odd K cw cB H way (.ref b)
def sameT (way : Nat) (nm gt : Str) (ds : List D) (nm' gt' : Str) (ds' : List D) : Bool := decide (nm = nm') && ((decide (way = 0) || decide (gt = gt')) && PyData.eqv (.tuple ds) (.tuple ds'))
def spEqT (K : PySem.W.Frag) (cw : Nat → Addr) (cB : Addr) (n way : Nat) : Sp := fun vs H Q _ => ∃ (a : Addr) (y : V) (nm gt : Str) (v : V) (ds : List D), vs = [.ref a, y] ∧ IsThr K (cw way) H a v ds (mr way nm gt) ∧ Fits n ds ∧
  ((Odd K cw cB H way y ∧ Q (.bl false) H) ∨ (∃ (b : Addr) (nm' gt' : Str) (v' : V) (ds' : List D), y = .ref b ∧ IsThr K (cw way) H b v' ds' (mr way nm' gt') ∧ Fits n ds' ∧ Q (.bl (sameT way nm gt ds nm' gt' ds')) H))
theorem eqT_W {K : PySem.W.Frag} {cw : Nat → Addr} {cGt cB : Addr} {nms : Nat → Str} (T : Thrs K cw cGt cB nms) {n : Nat} {vs : List V} {H : Hp} {Q : VK} {E : XK} (h : spEqT K cw cB n 0 vs H Q E) : spEqW K (cw 0) n vs H Q E := by
  obtain ⟨a, y, nm, gt, v, ds, rfl, ha, ft, h⟩ := h
  refine ⟨a, y, nm, v, ds, rfl, ha, ft, ?_⟩
  rcases h with ⟨o, q⟩ | ⟨b, nm', gt', v', ds', rfl, hb, ft', q⟩
  · refine .inl ?_
    cases o with
    | ty t m => exact ⟨_, t, (T.kT _ m).1, q⟩
    | bd hb => obtain ⟨n, c⟩ := T.cnB; exact ⟨_, hb.ty T.tB c, T.kB.1, q⟩
    | @oth b j v ds more hj hne hb =>
      refine ⟨_, hb.ty (T.tc j hj) (T.cc j hj), ?_, q⟩
      match j, hj, hne with
      | 1, _, _ => exact T.k1.1
      | 2, _, _ => exact T.k1.2
  · refine .inr ⟨b, nm', v', ds', rfl, hb, ft', ?_⟩
    have e : sameT 0 nm gt ds nm' gt' ds' = (decide (nm = nm') && PyData.eqv (.tuple ds) (.tuple ds')) := by
      unfold sameT
      rw [decide_eq_true (rfl : (0 : Nat) = 0), Bool.true_or, Bool.true_and]
    rw [← e]
    exact q
theorem eqT_G {K : PySem.W.Frag} {cw : Nat → Addr} {cGt cB : Addr} {nms : Nat → Str} (T : Thrs K cw cGt cB nms) {n way : Nat} (hw : way = 1 ∨ way = 2) {vs : List V} {H : Hp} {Q : VK} {E : XK} (h : spEqT K cw cB n way vs H Q E) : spEqG K cGt n vs H Q E := by
  obtain ⟨a, y, nm, gt, v, ds, rfl, ha, ft, h⟩ := h
  have w3 : way < 3 := by omega
  have w0 : way ≠ 0 := by omega
  have em : ∀ nm gt, mr way nm gt = mG nm gt := fun nm gt => if_neg w0
  have kg : PySem.W.kitOne K (.ref (cw way)) (.ref cGt) = some true := by
    rcases hw with rfl | rfl
    · exact T.g1.1
    · exact T.g1.2
  rw [em] at ha
  refine ⟨a, cw way, nms way, y, nm, gt, v, ds, rfl, T.tc way w3, T.cc way w3, ha, ft, ?_⟩
  rcases h with ⟨o, q⟩ | ⟨b, nm', gt', v', ds', rfl, hb, ft', q⟩
  · cases o with
    | ty t m => exact .inl ⟨_, t, (T.kT _ m).2, q⟩
    | bd hb => obtain ⟨n, c⟩ := T.cnB; exact .inl ⟨_, hb.ty T.tB c, T.kB.2, q⟩
    | @oth b j v' ds' more hj hne hb =>
      match j, hj, hne, hb with
      | 0, hj, _, hb => exact .inl ⟨_, hb.ty (T.tc 0 hj) (T.cc 0 hj), T.g0, q⟩
      | 1, hj, hne, hb =>
        refine .inr (.inl ⟨b, cw 1, nms 1, v', ds', more, rfl, T.tc 1 hj, T.cc 1 hj, T.g1.1, ?_, hb, q⟩)
        rcases hw with rfl | rfl
        · exact absurd rfl hne
        · exact fun e => T.ne e.symm
      | 2, hj, hne, hb =>
        refine .inr (.inl ⟨b, cw 2, nms 2, v', ds', more, rfl, T.tc 2 hj, T.cc 2 hj, T.g1.2, ?_, hb, q⟩)
        rcases hw with rfl | rfl
        · exact T.ne
        · exact absurd rfl hne
  · rw [em] at hb
    refine .inr (.inr ⟨b, nm', gt', v', ds', rfl, kg, hb, ft', ?_⟩)
    have e : sameT way nm gt ds nm' gt' ds' = (decide (nm = nm') && (decide (gt = gt') && PyData.eqv (.tuple ds) (.tuple ds'))) := by
      unfold sameT
      rw [decide_eq_false w0, Bool.false_or]
    rw [← e]
    exact q
section
variable {P : Program} {w : World} {K : PySem.W.Frag} {mg : Str → Option Value} {base : Heap}
abbrev sSize : Stmt := inClass (top 37) 2
theorem scSize : FnScope ["self"] ["self"] (defScope sSize) := ⟨rfl, rfl, rfl, by decide +kernel, rfl, by decide +kernel, by decide +kernel⟩
theorem ok_size {f C : Addr} {fd : FuncData} (F : Fun K "size" "Body.size" sSize f fd) (tc : ThrC K C) (m_len : mg "len" = none) : FnOk P w K mg base CX0 1 f fd ["self"] (spSize K C) := by
  refine F.ok scSize (fun vs H Q E h => ?_) (fun cdv A outer s H vs Q E hr h => ?_)
  · obtain ⟨a, v, ds, more, rfl, _⟩ := h
    rfl
  · obtain ⟨a, v, ds, more, rfl, ha, q⟩ := h
    refine ⟨_, (pss_one (ps_ret (pe_callB (call_len_K (K := K) rfl) (by rfl) m_len PySem.boot_len (pa_cons (pe_fld (pv 0) rfl) pa_nil)))), ?_⟩
    obtain ⟨dx, l1, l2, l3, ys, zs, us, h0, h1, h2, h3, _⟩ := ha
    refine ⟨_, rfl, a, C, dx, _, _, rfl, h0, tc.cl, tc.nL, rfl, l1, ys, rfl, .inl (SqL.of h2), ?_⟩
    rw [dpl h3]
    exact q
abbrev sLbW : Stmt := inClass (top 43) 1
theorem scLbW : FnScope ["self"] ["self"] (defScope sLbW) := ⟨rfl, rfl, rfl, by decide +kernel, rfl, by decide +kernel, by decide +kernel⟩
theorem ok_lbW {f C : Addr} {fd : FuncData} (F : Fun K "label" "Work.label" sLbW f fd) (tc : ThrC K C) : FnOk P w K mg base CX0 1 f fd ["self"] (getSp C "_label") := by
  obtain ⟨oc, od, kV, doc, pm, an, cdv, ct, osl, rfl, lk, hcd⟩ := F.ex
  exact fn_getter lk hcd scLbW rfl rfl tc.cl tc.nB
abbrev sLbU : Stmt := inClass (top 46) 1
theorem scLbU : FnScope ["self"] ["self"] (defScope sLbU) := ⟨rfl, rfl, rfl, by decide +kernel, rfl, by decide +kernel, by decide +kernel⟩
theorem ok_lbU {f C : Addr} {fd : FuncData} (F : Fun K "label" "Guest.label" sLbU f fd) (tc : ThrC K C) : FnOk P w K mg base CX0 1 f fd ["self"] (getSp C "_label") := by
  obtain ⟨oc, od, kV, doc, pm, an, cdv, ct, osl, rfl, lk, hcd⟩ := F.ex
  exact fn_getter lk hcd scLbU rfl rfl tc.cl tc.nB
abbrev sLbK : Stmt := inClass (top 47) 1
theorem scLbK : FnScope ["self"] ["self"] (defScope sLbK) := ⟨rfl, rfl, rfl, by decide +kernel, rfl, by decide +kernel, by decide +kernel⟩
theorem ok_lbK {f C : Addr} {fd : FuncData} (F : Fun K "label" "Crowd.label" sLbK f fd) (tc : ThrC K C) : FnOk P w K mg base CX0 1 f fd ["self"] (getSp C "_label") := by
  obtain ⟨oc, od, kV, doc, pm, an, cdv, ct, osl, rfl, lk, hcd⟩ := F.ex
  exact fn_getter lk hcd scLbK rfl rfl tc.cl tc.nB
abbrev sGate : Stmt := inClass (top 44) 1
theorem scGate : FnScope ["self"] ["self"] (defScope sGate) := ⟨rfl, rfl, rfl, by decide +kernel, rfl, by decide +kernel, by decide +kernel⟩
theorem ok_gate {f C : Addr} {fd : FuncData} (F : Fun K "gate" "Gated.gate" sGate f fd) (tc : ThrC K C) : FnOk P w K mg base CX0 1 f fd ["self"] (getSp C "_gate") := by
  obtain ⟨oc, od, kV, doc, pm, an, cdv, ct, osl, rfl, lk, hcd⟩ := F.ex
  exact fn_getter lk hcd scGate rfl rfl tc.cl tc.nG
abbrev sKdW : Stmt := inClass (top 43) 2
theorem scKdW : FnScope ["self"] ["self"] (defScope sKdW) := ⟨rfl, rfl, rfl, by decide +kernel, rfl, by decide +kernel, by decide +kernel⟩
theorem ok_kdW {f : Addr} {fd : FuncData} (F : Fun K "kind" "Work.kind" sKdW f fd) : FnOk P w K mg base CX0 1 f fd ["self"] (spKind "work") := by
  refine F.ok scKdW (fun vs H Q E h => ?_) (fun cdv A outer s H vs Q E hr h => ?_)
  · obtain ⟨a, rfl, _⟩ := h
    rfl
  · obtain ⟨a, rfl, q⟩ := h
    exact ⟨_, (pss_one (ps_ret pe_str)), q⟩
abbrev sKdU : Stmt := inClass (top 46) 2
theorem scKdU : FnScope ["self"] ["self"] (defScope sKdU) := ⟨rfl, rfl, rfl, by decide +kernel, rfl, by decide +kernel, by decide +kernel⟩
theorem ok_kdU {f : Addr} {fd : FuncData} (F : Fun K "kind" "Guest.kind" sKdU f fd) : FnOk P w K mg base CX0 1 f fd ["self"] (spKind "guest") := by
  refine F.ok scKdU (fun vs H Q E h => ?_) (fun cdv A outer s H vs Q E hr h => ?_)
  · obtain ⟨a, rfl, _⟩ := h
    rfl
  · obtain ⟨a, rfl, q⟩ := h
    exact ⟨_, (pss_one (ps_ret pe_str)), q⟩
abbrev sKdK : Stmt := inClass (top 47) 2
theorem scKdK : FnScope ["self"] ["self"] (defScope sKdK) := ⟨rfl, rfl, rfl, by decide +kernel, rfl, by decide +kernel, by decide +kernel⟩
theorem ok_kdK {f : Addr} {fd : FuncData} (F : Fun K "kind" "Crowd.kind" sKdK f fd) : FnOk P w K mg base CX0 1 f fd ["self"] (spKind "crowd") := by
  refine F.ok scKdK (fun vs H Q E h => ?_) (fun cdv A outer s H vs Q E hr h => ?_)
  · obtain ⟨a, rfl, _⟩ := h
    rfl
  · obtain ⟨a, rfl, q⟩ := h
    exact ⟨_, (pss_one (ps_ret pe_str)), q⟩
end
end Tr

/-! P11 -/
/-! ### the law's own look at a step -/
namespace Rw
open PySem PySem.Spec PyProof.Rows L2
theorem az_list : (("abcdefghijklmnopqrstuvwxyz" : Str).cps.toList : List Nat) = List.range' 97 26 := by decide +kernel
theorem lt1 (a b : Nat) : ([a] < [b]) ↔ a < b := by
  constructor
  · intro h
    rcases List.cons_lt_cons_iff.mp h with h | ⟨_, h⟩
    · exact h
    · exact absurd h (List.lt_irrefl _)
  · intro h
    exact List.cons_lt_cons_iff.mpr (.inl h)
theorem letB_az (c : Nat) : letB c = decide (c ∈ (("abcdefghijklmnopqrstuvwxyz" : Str).cps.toList : List Nat)) := by
  rw [az_list]
  unfold letB
  by_cases h1 : c < 97
  · rw [decide_eq_true ((lt1 c 97).mpr h1), if_neg (by decide), decide_eq_false]
    rw [List.mem_range'_1]
    omega
  · rw [decide_eq_false (fun e => h1 ((lt1 c 97).mp e)), if_pos (by rfl)]
    by_cases h2 : 122 < c
    · rw [decide_eq_true ((lt1 122 c).mpr h2), decide_eq_false]
      · rfl
      · rw [List.mem_range'_1]
        omega
    · rw [decide_eq_false (fun e => h2 ((lt1 122 c).mp e)), decide_eq_true]
      · rfl
      · rw [List.mem_range'_1]
        omega
/-- the signs that are no letters -/
def oddS (cs : List Nat) : List Str := (cs.filter fun c => !letB c).map fun c => ⟨#[c]⟩
theorem oddS_nil (cs : List Nat) : decide (oddS cs = []) = (cs.map letB).all id := by
  unfold oddS
  induction cs with
  | nil => rfl
  | cons c cs ih =>
    rw [List.map_cons, List.all_cons, ← ih, List.filter_cons]
    cases h : letB c with
    | true => rfl
    | false =>
      show decide ((c :: cs.filter _).map _ = []) = (false && _)
      rw [Bool.false_and, decide_eq_false]
      rw [List.map_cons]
      exact List.cons_ne_nil _ _
theorem oddS_snoc (cs : List Nat) (c : Nat) : oddS (cs ++ [c]) = if letB c = true then oddS cs else oddS cs ++ [⟨#[c]⟩] := by
  unfold oddS
  rw [List.filter_append, List.map_append]
  cases h : letB c with
  | true =>
    rw [if_pos rfl]
    have e : [c].filter (fun c => !letB c) = [] := by
      rw [List.filter_cons, h]
      rfl
    rw [e, List.map_nil, List.append_nil]
  | false =>
    rw [if_neg Bool.false_ne_true]
    have e : [c].filter (fun c => !letB c) = [c] := by
      rw [List.filter_cons, h]
      rfl
    rw [e]
    rfl
theorem oddS_len (cs : List Nat) : (oddS cs).length ≤ cs.length := by
  unfold oddS
  rw [List.length_map]
  exact List.length_filter_le _ _
theorem sOk_at {z : Str} (h : sOk z) : ∀ c ∈ z.cps.toList, c < 0x110000 := by
  intro c hc
  have h1 : z.cps.all (fun x => decide (x < 0x110000)) = true := h
  rw [← Array.all_toList] at h1
  exact of_decide_eq_true (List.all_eq_true.mp h1 c hc)
theorem sOk_one {c : Nat} (h : c < 0x110000) : sOk ⟨#[c]⟩ := by
  show (#[c] : Array Nat).all (fun x => decide (x < 0x110000)) = true
  rw [← Array.all_toList]
  exact List.all_eq_true.mpr fun x hx => by
    rcases List.mem_cons.mp hx with rfl | hx
    · exact decide_eq_true h
    · cases hx
theorem oddS_ok {z : Str} (h : sOk z) : ∀ n ∈ oddS z.cps.toList, sOk n := by
  intro n hn
  obtain ⟨c, hc, rfl⟩ := List.mem_map.mp hn
  exact sOk_one (sOk_at h c (List.mem_filter.mp hc).1)
theorem listD_shaped {ns : List Str} (h : ∀ n ∈ ns, sOk n) : SeqAt.shaped (.list (ns.map PyData.str)) = true := by
  obtain ⟨a, b⟩ := txt_lay ns h
  refine shaped_of (by simp only [PyData.canLay0]; exact a) ?_
  simp only [PyData.depth]
  omega
section
variable {P : Program} {w : World} {K : PySem.W.Frag} {mg : Str → Option Value} {base : Heap}
end
end Rw

/-! ### the law's look at a name -/
namespace Tr
open PySem PySem.Spec PyProof.Rows L2 Rw
def spLNm (K : PySem.W.Frag) : Sp := fun vs H Q _ => ∃ (v : V) (d : D), vs = [v] ∧ Dp K H v d ∧ goodD d = true ∧ ∀ H', Same H H' → Q (.bl (nameD d)) H'
section
variable {P : Program} {w : World} {K : PySem.W.Frag} {mg : Str → Option Value} {base : Heap}
abbrev sLNm : Stmt := top 59
theorem scLNm : FnScope ["_law_thing", "_law_sign"] ["_law_thing"] (defScope sLNm) := ⟨rfl, rfl, rfl, by decide +kernel, rfl, by decide +kernel, by decide +kernel⟩
theorem ok_lnm {f : Addr} {fd : FuncData} (F : Fun K "_law_is_name" "_law_is_name" sLNm f fd) (m_isinstance : mg "isinstance" = none) (m_str : mg "str" = none) (m_len : mg "len" = none) : FnOk P w K mg base CX0 1 f fd ["_law_thing"] (spLNm K) := by
  refine F.ok scLNm (fun vs H Q E h => ?_) (fun cdv A outer s H vs Q E hr h => ?_)
  · obtain ⟨v, d, rfl, _⟩ := h
    rfl
  · obtain ⟨v, d, rfl, hd, gd, q⟩ := h
    refine ⟨_, (pss_cons (ps_if (PW.pt (pw_or (pt_not (pt_val (pe_callB (call_isiKK (K := K) rfl) (by rfl) m_isinstance (by decide +kernel) (pa_cons (pv 0) (pa_cons (pe_bltn (v := .ty "str") (by rfl) m_str (by decide +kernel) rfl) pa_nil))))) (pw_or (pt_cmpR op_lt (pe_callB call_len_str (by rfl) m_len PySem.boot_len (pa_cons (pv 0) pa_nil)) pe_int (nomark _)) (pw_or1 (pt_cmpR op_gt (pe_callB call_len_str (by rfl) m_len PySem.boot_len (pa_cons (pv 0) pa_nil)) pe_int (nomark _))))))
       (pss_one (ps_ret pe_bl))
       pss_nil)
       (pss_one (ps_ret (pe_cmpR (Nm.op_eqDK (K := K) rfl hr.units) (pe_lc (own := [("_law_sign", 1)]) (g := gName 1)  (by rfl) scLNm.nd (pi_str (pv 0)) (blkOk_by (own := [("_law_sign", 1)]) (N := ["_law_thing", "_law_sign"]) (sc := defScope sLNm) (by decide +kernel)) (fun _ _ _ _ _ => (pg_name (i := 1) scLNm.nd rfl (Or.inl rfl))) (fun _ _ _ _ _ => (pts_one (pt_cmpR op_notIn_sign (pv 1) pe_str (by rfl)))) (fun _ _ _ _ _ => (pv 1))) (pe_lst pa_nil) (nomark _))))), ?_⟩
    refine ⟨_, rfl, _, _, _, _, _, rfl, .ty _, dp_ty hd, kit_str d, _, rfl, ?_⟩
    cases hst : isStr d with
    | false =>
      have e : nameD d = false := by
        cases d with
        | str _ => cases hst
        | _ => rfl
      rw [e] at q
      exact iteT (iteT (q H (Same.refl H)))
    | true =>
      obtain ⟨nm, rfl⟩ : ∃ z, d = .str z := by
        cases d with
        | str z => exact ⟨z, rfl⟩
        | _ => cases hst
      cases hd
      rw [goodD, Bool.and_eq_true] at gd
      have hl := of_decide_eq_true gd.2
      have so : sOk nm := gd.1
      rw [show nameD (.str nm) = nameB nm from rfl] at q
      unfold nameB at q
      refine iteF ?_
      refine ⟨_, rfl, nm, rfl, by rw [sizeLine_eq]; omega, _, _, rfl, rfl, _, rfl, ?_⟩
      by_cases h1 : (nm.length : Int) < 1
      · rw [decide_eq_false (show ¬ 1 ≤ nm.length by omega)] at q
        rw [decide_eq_true h1]
        exact iteT (iteT (q H (Same.refl H)))
      · rw [decide_eq_false h1]
        rw [decide_eq_true (show 1 ≤ nm.length by omega)] at q
        refine iteF ?_
        refine ⟨_, rfl, nm, rfl, by rw [sizeLine_eq]; omega, _, _, rfl, rfl, _, rfl, ?_⟩
        by_cases h2 : (nm.length : Int) > 8
        · rw [decide_eq_true h2]
          rw [decide_eq_false (show ¬ nm.length ≤ 8 by omega)] at q
          exact iteT (q H (Same.refl H))
        · rw [decide_eq_false h2]
          rw [decide_eq_true (show nm.length ≤ 8 by omega)] at q
          refine iteF ?_
          refine ⟨_, rfl, nm, rfl, fun D nD => lc_text (fun i H' => Same H H' ∧ H' D = some (.lst ((oddS (nm.cps.toList.take i)).map V.str))) ⟨same_upd nD, upd_same⟩ ?_ ?_⟩
          · rintro i c H2 hc ⟨s1, e1⟩
            have hi : i < nm.cps.size := (Array.getElem?_eq_some_iff.mp hc).1
            have e3 : nm.cps.toList[i]? = some c := by rw [Array.getElem?_toList]; exact hc
            have zl : nm.length = nm.cps.size := rfl
            refine ⟨rfl, _, rfl, c, _, rfl, rfl, _, rfl, ?_⟩
            rw [← letB_az]
            have on := oddS_snoc (nm.cps.toList.take i) c
            rw [← take_snoc e3] at on
            cases hb : letB c with
            | true =>
              rw [hb, if_pos rfl] at on
              refine iteF ?_
              rw [on]
              exact ⟨s1, e1⟩
            | false =>
              rw [hb, if_neg Bool.false_ne_true] at on
              refine iteT ⟨_, rfl, _, e1, ?_, same_updN nD s1, ?_⟩
              · have z1 := oddS_len (nm.cps.toList.take i)
                rw [List.length_take] at z1
                rw [List.length_map, sizeLine_eq]
                omega
              · rw [upd_same, on, List.map_append]
                rfl
          · rintro H2 ⟨s1, e1⟩
            rw [← Array.length_toList, List.take_length] at e1
            have zl : nm.length = nm.cps.size := rfl
            refine ⟨Nat.zero_le _, fun t nt => ?_⟩
            have s2 := same_upd (o := HO.lst []) nt
            refine ⟨.list ((oddS nm.cps.toList).map PyData.str), .list (([] : List Str).map PyData.str), .lst (SqL.of (s2 _ _ e1)) (dp_txts _), .lst (SqL.of upd_same) .nil, listD_shaped (oddS_ok so), listD_shaped (fun n hn => nomatch hn), ?_⟩
            have ev : PyData.eqv (.list ((oddS nm.cps.toList).map PyData.str)) (.list (([] : List Str).map PyData.str)) = (nm.cps.toList.map letB).all id := by
              rw [show PyData.eqv (.list ((oddS nm.cps.toList).map PyData.str)) (.list (([] : List Str).map PyData.str)) = PyData.eqvAll ((oddS nm.cps.toList).map PyData.str) (([] : List Str).map PyData.str) by simp only [PyData.eqv], eqvAll_txt, oddS_nil]
            rw [ev]
            exact q _ (s1.trans s2)

end
end Tr

/-! P12 -/
/-! ### several except clauses, each with a name -/
namespace L2
open PySem PySem.Spec PyProof.Rows
/-- one clause after the other; slot i is the name's -/
def wAsL (K : PySem.W.Frag) (i : Nat) (Wout : WX) (D : Ends) : List (Value × (Addr → Value → Option Addr → TS)) → WX
  | [] => Wout
  | (c, ts) :: r => fun cls d σ H => ∃ b, PySem.W.exmOne K cls c = some b ∧
      (b = true → ∀ x, H x = none → ts x cls d ⟨fun σ2 H2 => D.nx (σ2.set i none) H2, D.rt, fun σ2 H2 => D.bk (σ2.set i none) H2, fun σ2 H2 => D.ct (σ2.set i none) H2⟩ (σ.set i (some (.ref x))) H) ∧ (b = false → wAsL K i Wout D r cls d σ H)
inductive HdsAs (X : Cx) (n : Str) : List ExceptHandler → List (Value × (Addr → Value → Option Addr → TS)) → Prop
  | nil : HdsAs X n [] []
  | cons {x : Str} {c : Value} {ts : Addr → Value → Option Addr → TS} {q₀ : Stmt} {qs : List Stmt} {p1 p2 : Pos} {more : List ExceptHandler} {l : List (Value × (Addr → Value → Option Addr → TS))} (named : Names X x c)
      (run : ∀ (x : Addr) (ox : Obj) (cls : Value) (d : Option Addr) (pn : List (Addr × Obj)), Zc cls d ox → (∃ vs, ox.data = .fields vs) → PSs (X.suite x ((x, ox) :: pn)) (q₀ :: qs) (ts x cls d)) (r : HdsAs X n more l) :
      HdsAs X n (.ExceptHandler (some (.Name x p1)) (some n) (q₀ :: qs) p2 :: more) ((c, ts) :: l)
section
variable {X : Cx} {n : Str} {i : Nat} {body : List Stmt} {g₀ : ExceptHandler} {gs : List ExceptHandler} {l : List (Value × (Addr → Value → Option Addr → TS))} {pos : Pos} {tb : WX → TS} {Wout : WX}
theorem SP.ofTryL {xe : Value → Shared → Prop} {pins : List (Addr × Obj)} {D : Ends} {fl : Flow} {s1 : Shared} (ok : X.Ok) (h : SP (X.tr (X.pn ++ pins) xe) [] D fl s1) : SP X pins D fl s1 := by
  cases fl with
  | next => exact let ⟨σ1, H1, J, q⟩ := h; ⟨σ1, H1, J.ofTry ok, q⟩
  | brk => exact let ⟨σ1, H1, J, q⟩ := h; ⟨σ1, H1, J.ofTry ok, q⟩
  | cont => exact let ⟨σ1, H1, J, q⟩ := h; ⟨σ1, H1, J.ofTry ok, q⟩
  | ret u => exact let ⟨v, σ1, H1, J, r, q⟩ := h; ⟨v, σ1, H1, J.ofTry ok, r, q⟩
theorem ps_try_asL (hs : X.stack = X.env :: X.outer) (hf : X.env.frame = some X.env.locals) (hN : X.N.Nodup) (hi : X.N[i]? = some n) (hln : X.env.kindOf n = some .local) (tk : Takes X Wout)
    (hb : ∀ (W : WX) (pn : List (Addr × Obj)) (xe : Value → Shared → Prop), Takes (X.tr pn xe) W → PassesOwn (model X.prog X.w) X.A X.env xe → PSs (X.tr pn xe) body (tb W))
    (hh : HdsAs X n (g₀ :: gs) l) : PS X (.Try body (g₀ :: gs) [] [] pos) (fun D σ H => tb (wAsL X.K i Wout D l) D σ H) := by
  refine ⟨fun pins s σ H D I h => ?_⟩
  have okX := I.ok
  have framesX : X.A.frames = some (X.env :: X.outer) := okX.frames.trans (congrArg some hs)
  have localX : Loc X.env.scope n := Or.inl hln
  apply wpAny_Try_except
  have body_ := hb (wAsL X.K i Wout D l) (X.pn ++ pins) (fun e t1 => wpAny (model X.prog X.w) X.A (noteFrame e X.env) (fun _ t2 => wpAny (model X.prog X.w) X.A (setFlight e none) (fun _ t3 => wpAny (model X.prog X.w) X.A (handleBy e X.env (g₀ :: gs)) (SP X pins D) X.xe t3) X.xe t2) X.xe t1)
  refine wpAny_mono ((body_ (fun u t caught => ?_) PassesOwn.looking).run [] s σ H D (I.toTry _) h) (fun fl t1 fine => ?_) (fun _ _ z => z)
  · obtain ⟨x, B, sI, pinsI, σ1, H1, cls, d, rfl, JI, nb, up, sky, fresh, os, bare, wish⟩ := caught
    have J := JI.ofTry okX
    rw [hs] at sky
    change wpAny (model X.prog X.w) X.A (noteFrame (.ref x) X.env) _ _ _
    refine Sky.land Zc.steady framesX hf sky fun h5 fl5 up5 => ?_
    have J5 : Inv X pins σ1 H1 { t with heap := h5 } := J.landed nb fl5.1 (up.trans up5) os bare
    obtain ⟨ox5, vs5, at5, zc5, data5⟩ := fl5.there
    have outside : x ∉ frs (X.env :: X.outer) := fun hm => by
      obtain ⟨_, o', e', other⟩ := fl5.2.2.1.mem hm
      rw [at5] at e'
      cases e'
      exact other _ data5
    have notL : x ≠ X.env.locals := fun z => outside (List.mem_filterMap.mpr ⟨X.env, .head _, by rw [hf, z]⟩)
    have notF : x ∉ X.fs := fun hm => let ⟨e, he, q⟩ := List.mem_filterMap.mp hm; outside (List.mem_filterMap.mpr ⟨e, .tail _ he, q⟩)
    have S5 := J5.suite at5 data5 fresh notL notF
    have turn : ∀ {more : List ExceptHandler} {l' : List (Value × (Addr → Value → Option Addr → TS))}, HdsAs X n more l' → wAsL X.K i Wout D l' cls d σ1 H1 → wpAny (model X.prog X.w) X.A (handleBy (.ref x) X.env more) (SP X pins D) X.xe { t with heap := h5 } := by
      intro more l' hk
      induction hk with
      | nil =>
        intro out
        apply wpAny_handleBy_nil
        obtain ⟨_, _, _, ox, vs, T, oT, ts', e1, e2, e3, e4, _⟩ := id fl5
        unfold PySem.passOn
        refine wpAny_bind (wpAny_field e1 e3 e4 ?_)
        rw [if_neg (by simp : ¬ ((Value.ref T == Value.none) = true))]
        have leave : wpAny (model X.prog X.w) X.A (setFlight (.ref x) X.env.frame) (fun _ t4 => wpAny (model X.prog X.w) X.A (throw (.ref x) : Sem Flow) (SP X pins D) X.xe t4) X.xe { t with heap := h5 } := by
          rw [hf]
          exact HandSPX.setFlight_upZ fl5 fun h6 sky6 up6 => wpAny_throw (tk _ _ ⟨x, B, sI, pins, σ1, H1, cls, d, rfl, J, nb, (up.trans up5).trans up6, .inr (.inr (by rw [hs]; exact sky6)), fresh, os, bare, out⟩)
        first | exact wpAny_bind (wpAny_pure (wpAny_bind leave)) | exact wpAny_bind leave
      | @cons xn c ts q₀ qs p1 p2 rest l2 named run r ih =>
        rintro ⟨b, isb, yes, no⟩
        refine wpAny_handleBy_cons (codeAny_handlers_test ?_) (by intro q; cases q)
        have ofx : PySem.W.Looks (model X.prog X.w) h5 (typeOf (.ref x)) cls := fun A Q E s k q => wpAny_typeOf_ref (k _ _ at5) (zc5.1 ▸ q)
        have asks := PySem.W.exm_one (M := model X.prog X.w) J5.kIn ofx isb
        have class_ : ∀ {Q : Value → Shared → Prop} {E : Value → Shared → Prop}, Q c { t with heap := h5 } → wpAny (model X.prog X.w) (X.A.mark (some (.ref x))) (eval (.Name xn p1) X.env) Q E { t with heap := h5 } := fun q => by
          obtain ⟨gl, dbg, own | ⟨none_, blt, nn⟩⟩ := named
          · exact ld_glob (X := X.suite x ((x, ox5) :: (X.pn ++ pins))) S5 gl own q dbg
          · exact ld_blt (X := X.suite x ((x, ox5) :: (X.pn ++ pins))) S5 gl none_ blt q nn dbg
        refine class_ (asks.here ?_)
        cases b with
        | false =>
          change wpAny _ X.A (handleBy (.ref x) X.env rest) _ _ _
          exact ih (no rfl)
        | true =>
          apply codeAny_handlers_suite_as
          refine HandSPX.lands_againZ fl5 fun h6 fl6 up6 => ?_
          have J6 : Inv X pins σ1 H1 { t with heap := h6 } := J.landed nb fl6.1 ((up.trans up5).trans up6) os bare
          obtain ⟨ox6, vs6, at6, zc6, data6⟩ := fl6.there
          have S6 := J6.suite at6 data6 fresh notL notF
          refine store_ok (X := X.suite x ((x, ox6) :: (X.pn ++ pins))) (v := .ref x) S6 hN hi localX rfl (fun t7 S7 => ?_) (.inr hln)
          refine wpAny_mono ((run x ox6 cls d (X.pn ++ pins) zc6 ⟨_, data6⟩).run [] t7 _ H1 _ S7 (yes rfl x fresh)) (fun fl t8 fine => ?_) (fun _ _ z => z.elim)
          have gone : ∀ {σ8 : St} {H8 : Hp} {Q : Shared → Prop}, Inv (X.suite x ((x, ox6) :: (X.pn ++ pins))) [] σ8 H8 t8 → (∀ t9, Inv X pins (σ8.set i none) H8 t9 → Q t9) →
              wpAny (model X.prog X.w) X.A (do bindName X.env n .none; unbindBehindTheSuite X.env n p2) (fun _ t9 => Q t9) X.xe t8 := fun S8 hq => gone_ok (S8.unsuite okX) hN hi hln hq
          cases fl with
          | next => exact let ⟨_, _, S8, q⟩ := fine; gone S8 fun _ J9 => ⟨_, _, J9, q⟩
          | brk => exact let ⟨_, _, S8, q⟩ := fine; gone S8 fun _ J9 => ⟨_, _, J9, q⟩
          | cont => exact let ⟨_, _, S8, q⟩ := fine; gone S8 fun _ J9 => ⟨_, _, J9, q⟩
          | ret u => exact let ⟨_, _, _, S8, rr, q⟩ := fine; gone S8 fun _ J9 => ⟨_, _, _, J9, rr, q⟩
    exact turn hh wish
  · have fine2 := SP.ofTryL okX fine
    cases fl with
    | next => exact wpAny_execs_nil fine2
    | brk => exact fine2
    | cont => exact fine2
    | ret u => exact fine2
end
end L2

/-! ### what the law hears of a thread -/
namespace Tr
open PySem PySem.Spec PyProof.Rows L2 Rw NdefX SuX
mutual
theorem dq_of {K : PySem.W.Frag} {H : Hp} : ∀ (d : D) (v : V), Dp K H v d → Dq K H v d
  | .none, _, h => by cases h; exact .non
  | .bool _, _, h => by cases h; exact .bl _
  | .int _, _, h => by cases h; exact .int _
  | .str _, _, h => by cases h; exact .str _
  | .list ds, _, h => by
    cases h with
    | lst h1 h2 => exact .lst h1 (dqs_of ds _ h2)
  | .tuple ds, _, h => by
    cases h with
    | tup h1 h2 => exact .tup h1 (dqs_of ds _ h2)
  | .dict _, _, h => by cases h
theorem dqs_of {K : PySem.W.Frag} {H : Hp} : ∀ (ds : List D) (vs : List V), DpAll K H vs ds → DqAll K H vs ds
  | [], _, h => by cases h; exact .nil
  | d :: ds, _, h => by
    cases h with
    | cons h1 h2 => exact .cons (dq_of d _ h1) (dqs_of ds _ h2)
end
/-- a value given for a name -/
structure NmOk (d : D) : Prop where
  small : smallD d = true
  good : goodD d = true
  hd : d.hasDict = false
  sw : d.showable = true
  dp : d.depth ≤ 40
  sz : d.shown.length ≤ sizeLine
def vD : V → D
  | .int i => .int i
  | _ => .none
theorem vD_dp {K : PySem.W.Frag} {H : Hp} {r : V} (h : r = .non ∨ ∃ i : Nat, r = .int (i : Nat)) : Dp K H r (vD r) := by
  rcases h with rfl | ⟨i, rfl⟩
  · exact .non
  · exact .int _
theorem fB_r {d : D} {r : V} (h : faultB d = some r) : r = .non ∨ ∃ i : Nat, r = .int (i : Nat) := by
  cases d with
  | tuple ds =>
    have h : faultL ds = some r := h
    unfold faultL at h
    split at h
    · cases h; exact .inl rfl
    · split at h
      · cases h; exact .inr ⟨_, rfl⟩
      · split at h
        · cases h; exact .inl rfl
        · split at h
          · cases h; exact .inr ⟨_, rfl⟩
          · cases h
  | _ => cases h; exact .inl rfl
theorem fW_r {d : D} {r : V} (h : faultW d = some r) : r = .non ∨ ∃ i : Nat, r = .int (i : Nat) := by
  unfold faultW at h
  cases hb : faultB d with
  | some q => rw [hb] at h; cases h; exact fB_r hb
  | none =>
    rw [hb] at h
    cases d with
    | tuple ds =>
      have h : (pieceAt ds).map (fun i => V.int (i : Nat)) = some r := h
      cases hp : pieceAt ds with
      | none => rw [hp] at h; cases h
      | some i => rw [hp] at h; cases h; exact .inr ⟨_, rfl⟩
    | _ => cases h
def nmDt (z : D) : D := .list [.str "name", .str z.shown]
def itD (r : V) : D := .list [.str "item", vD r]
def crD (nd : D) (i : Nat) : D := .list [.str "crowd", nd, .int (i : Nat)]
/-- what is heard where nothing is made -/
def heardD (way : Nat) (nd gd d : D) : Option D :=
  if nameD nd = false then some (nmDt nd)
  else if way ≠ 0 ∧ nameD gd = false then some (nmDt gd)
  else if way < 2 then (faultW d).map itD
  else match faultB d with
    | some r => some (itD r)
    | none => (faultC d).map (crD nd)
def spHd6 (K : PySem.W.Frag) (cw : Nat → Addr) (n : Nat) : Sp := fun vs H Q _ => ∃ (way : Nat) (v1 v2 v3 : V) (nd gd d : D), vs = [.int way, v1, v2, v3] ∧ way < 3 ∧ Dp K H v1 nd ∧ Dp K H v2 gd ∧ Dp K H v3 d ∧ NmOk nd ∧ NmOk gd ∧ FitD n d ∧
  (∀ z, heardD way nd gd d = some z → ∀ H' r, Same H H' → Dp K H' r z → Q r H') ∧
  (heardD way nd gd d = none → ∀ nm gt ds, nd = .str nm → (way ≠ 0 → gd = .str gt) → d = .tuple ds → ∀ H' r, Same H H' → H r = none → IsThr K (cw way) H' r v3 ds (mr way nm gt) → Q (.ref r) H')
/-- the classes of errors, told apart -/
structure ErrsK (K : PySem.W.Frag) (CU CI CC : Addr) : Prop where
  uu : PySem.W.exmOne K (.ref CU) (.ref CU) = some true
  iu : PySem.W.exmOne K (.ref CI) (.ref CU) = some false
  ii : PySem.W.exmOne K (.ref CI) (.ref CI) = some true
  cu : PySem.W.exmOne K (.ref CC) (.ref CU) = some false
  ci : PySem.W.exmOne K (.ref CC) (.ref CI) = some false
  cc : PySem.W.exmOne K (.ref CC) (.ref CC) = some true
theorem left_same {x : Addr} {H H0 H' : Hp} (s0 : Same H H0) (nx : H x = none) (b : SameBut x H0 H') : Same H H' := fun a o e => b a o (ne_of_none e nx) (s0 a o e)
theorem str_of_name {nd : D} (h : nameD nd = true) : ∃ nm, nd = .str nm := by
  cases nd with
  | str z => exact ⟨z, rfl⟩
  | _ => cases h
theorem dec_int (a b : Nat) : decide (V.int (a : Int) = V.int (b : Int)) = decide (a = b) := by
  by_cases e : a = b
  · rw [decide_eq_true e, decide_eq_true (by rw [e])]
  · rw [decide_eq_false e, decide_eq_false fun z => e (by injection z with z; exact Int.ofNat.inj z)]
theorem nm1 {v z : V} {b : Bool} (h : nmF [(v, b)] = some z) : b = false := by
  cases b with
  | false => rfl
  | true => cases h
theorem nm1' {v : V} {b : Bool} (h : nmF [(v, b)] = none) : b = true := by
  cases b with
  | true => rfl
  | false => cases h
theorem nm2 {v v' z : V} {b b' : Bool} (h : nmF [(v, b), (v', b')] = some z) : (b = false ∧ z = v) ∨ (b = true ∧ b' = false ∧ z = v') := by
  cases b with
  | false => cases h; exact .inl ⟨rfl, rfl⟩
  | true =>
    cases b' with
    | false => cases h; exact .inr ⟨rfl, rfl, rfl⟩
    | true => cases h
theorem nm2' {v v' : V} {b b' : Bool} (h : nmF [(v, b), (v', b')] = none) : b = true ∧ b' = true := by
  cases b with
  | false => cases h
  | true =>
    cases b' with
    | false => cases h
    | true => exact ⟨rfl, rfl⟩
section
variable {P : Program} {w : World} {K : PySem.W.Frag} {mg : Str → Option Value} {base : Heap}
abbrev sHd : Stmt := top 58
theorem scHd : FnScope ["_law_way", "_law_name", "_law_gate", "_law_items", "e"] ["_law_way", "_law_name", "_law_gate", "_law_items"] (defScope sHd) := ⟨rfl, rfl, rfl, by decide +kernel, rfl, by decide +kernel, by decide +kernel⟩
theorem ok_hd {f fWI fUI fKI fEU fEI fEC CU CI CC cGt cB : Addr} {cw : Nat → Addr} {nms : Nat → Str} {fd fdW fdU fdK fdEU fdEI fdEC : FuncData} (F : Fun K "_law_heard" "_law_heard" sHd f fd) (n : Nat)
    (TU : Er P w K mg base "UnknownName" "name" CU fEU fdEU) (TI : Er P w K mg base "InvalidItem" "place" CI fEI fdEI) (TC : Er2 P w K mg base "NotACrowd" "name" "place" CC fEC fdEC) (X : ErrsK K CU CI CC)
    (gW : mg "Work" = some (.ref (cw 0))) (gU : mg "Guest" = some (.ref (cw 1))) (gK : mg "Crowd" = some (.ref (cw 2))) (mW : Mk K (cw 0) fWI) (mU : Mk K (cw 1) fUI) (mK : Mk K (cw 2) fKI)
    (GW : FnOk P w K mg base (L2.CX P w) (2 * n + 7) fWI fdW ["self", "name", "items"] (spWI K CU CI (cw 0) (n + 1))) (bW : Binds K fdW ["self", "name", "items"] [])
    (GU : FnOk P w K mg base (L2.CX P w) (2 * n + 8) fUI fdU ["self", "name", "gate", "items"] (spUI K CU CI (cw 1) (n + 1))) (bU : Binds K fdU ["self", "name", "gate", "items"] [])
    (GK : FnOk P w K mg base (L2.CX P w) (2 * n + 8) fKI fdK ["self", "name", "gate", "items"] (spKI K CU CI CC (cw 2) (n + 1))) (bK : Binds K fdK ["self", "name", "gate", "items"] [])
    (m_repr : mg "repr" = none) : FnOkG P w K mg base CX0 (2 * n + 10) f fd ["_law_way", "_law_name", "_law_gate", "_law_items"] (spHd6 K cw (n + 1)) := by
  refine F.okG scHd (fun vs H Q E h => ?_) (fun cdv A outer s H vs Q E hgd hr h => ?_)
  · obtain ⟨way, v1, v2, v3, nd, gd, d, rfl, _⟩ := h
    rfl
  · obtain ⟨way, v1, v2, v3, nd, gd, d, rfl, hway, h1, h2, h3, n1, n2, ft, qz, qm⟩ := h
    refine ⟨_, pss_one (ps_try_asL (i := 4) (l := _) rfl rfl scHd.nd rfl rfl takes0
      (fun W pn xe tk _ => pss_cons (ps_if (pt_cmpR op_eq (pv 0) pe_int (nomark _)) (pss_one (ps_ret (pe_makeT mW GW (hr.mono (by first | decide | omega)) rfl gW bW (fun σ => passAt tk σ) (pa_cons (pv 1) (pa_cons (pv 3) pa_nil))))) pss_nil)
        (pss_one (ps_ret (pe_ifExp (pt_cmpR op_eq (pv 0) pe_int (nomark _)) (pe_makeT mU GU (hr.mono (by first | decide | omega)) rfl gU bU (fun σ => passAt tk σ) (pa_cons (pv 1) (pa_cons (pv 2) (pa_cons (pv 3) pa_nil))))
          (pe_makeT mK GK (hr.mono (by first | decide | omega)) rfl gK bK (fun σ => passAt tk σ) (pa_cons (pv 1) (pa_cons (pv 2) (pa_cons (pv 3) pa_nil))))))))
      (.cons ⟨rfl, by decide, .inl TU.g⟩ (fun a oe cls dd pn hz hf => pss_one (ps_ret (pe_lst (pa_cons pe_str (pa_cons (pe_callB (call_reprDK (K := K) rfl hgd hr.units) (by rfl) m_repr (by decide +kernel) (pa_cons (pe_xf (xf_of TU.o) TU.no hz hf (pv 4)) pa_nil)) pa_nil)))))
        (.cons ⟨rfl, by decide, .inl TI.g⟩ (fun a oe cls dd pn hz hf => pss_one (ps_ret (pe_lst (pa_cons pe_str (pa_cons (pe_xf (xf_of TI.o) TI.no hz hf (pv 4)) pa_nil)))))
          (.cons ⟨rfl, by decide, .inl TC.g⟩ (fun a oe cls dd pn hz hf => pss_one (ps_ret (pe_lst (pa_cons pe_str (pa_cons (pe_xf (xf_of TC.o) TC.no1 hz hf (pv 4)) (pa_cons (pe_xf (xf_of TC.o) TC.no2 hz hf (pv 4)) pa_nil)))))) .nil)))), ?_⟩
    have bad : ∀ {H1 : Hp} {z : D} {v : V} {Q' : VK}, Same H H1 → NmOk z → Dp K H v z → heardD way nd gd d = some (nmDt z) → (∀ u H', Q u H' → Q' u H') → ∀ p, H1 p = none → Q' (.ref p) (upd H1 p (.lst [.str "name", .str z.shown])) := fun s1 nz hz e k p np => k _ _ (qz _ e _ _ (s1.trans (same_upd np)) (.lst (SqL.of upd_same) (.cons (.str _) (.cons (.str _) .nil))))
    have bit : ∀ {H1 : Hp} {r : V} {Q' : VK}, Same H H1 → (r = .non ∨ ∃ i : Nat, r = .int (i : Nat)) → heardD way nd gd d = some (itD r) → (∀ u H', Q u H' → Q' u H') → ∀ p, H1 p = none → Q' (.ref p) (upd H1 p (.lst [.str "item", r])) := fun s1 hz e k p np => k _ _ (qz _ e _ _ (s1.trans (same_upd np)) (.lst (SqL.of upd_same) (.cons (.str _) (.cons (vD_dp hz) .nil))))
    refine ⟨_, rfl, rfl, _, rfl, ?_⟩
    match way, hway with
    | 0, _ =>
      rw [show decide (V.int ((0 : Nat) : Int) = V.int 0) = true from decide_eq_true rfl]
      refine iteT ?_
      refine ⟨_, rfl, _, rfl, fun x dx nx ndx ne => ?_⟩
      have s0 : Same H (upd (upd H dx (.own x)) x (.ins (cw 0) dx [])) := fun b o e => by
        rw [upd_ne (ne_of_none e nx), upd_ne (ne_of_none e ndx)]
        exact e
      have e0 : (upd (upd H dx (.own x)) x (.ins (cw 0) dx [])) x = some (.ins (cw 0) dx []) := upd_same
      generalize upd (upd H dx (.own x)) x (.ins (cw 0) dx []) = H1 at s0 e0
      refine ⟨x, dx, v1, v3, nameD nd, d, rfl, e0, (dp_nv h1 n1.small).same s0, h3.same s0, ft, fun z hz t H2 lf => ⟨true, X.uu, fun _ e2 ne2 => ?_, fun z => nomatch z⟩, fun hz => ⟨fun r hr t H2 lf => ⟨false, X.iu, fun z => (nomatch z), fun _ => ⟨true, X.ii, fun _ e2 ne2 => ?_, fun z => nomatch z⟩⟩, fun hf ds eo H2 b2 th => ⟨rfl, ?_⟩⟩⟩
      · have hb : nameD nd = false := nm1 hz
        rw [hb] at hz
        cases hz
        obtain ⟨b2, nt, ht⟩ := lf
        have s2 := left_same s0 nx b2
        refine ⟨_, rfl, rfl, rfl, t, _, _, rfl, ht, rfl, _, nd, rfl, dq_of _ _ (h1.same s2), .inl n1.hd, n1.sw, n1.dp, n1.sz, by show 2 ≤ sizeLine; decide, fun p np => ?_⟩
        exact bad (Q' := Q) s2 n1 h1 (by unfold heardD; rw [if_pos hb]) (fun _ _ q => q) p np
      · have hb : nameD nd = true := nm1' hz
        obtain ⟨b2, nt, ht⟩ := lf
        have s2 := left_same s0 nx b2
        refine ⟨_, rfl, rfl, rfl, t, _, _, rfl, ht, rfl, by show 2 ≤ sizeLine; decide, fun p np => ?_⟩
        exact bit (Q' := Q) s2 (fW_r hr) (by unfold heardD; rw [if_neg (by rw [hb]; decide), if_neg (fun z => z.1 rfl), if_pos (by decide), hr]; rfl) (fun _ _ q => q) p np
      · have hb : nameD nd = true := nm1' hz
        obtain ⟨nm, rfl⟩ := str_of_name hb
        cases h1
        exact qm (by unfold heardD; rw [if_neg (by rw [hb]; decide), if_neg (fun z => z.1 rfl), if_pos (by decide), hf]; rfl) nm nm ds rfl (fun z => absurd rfl z) eo H2 x (left_same s0 nx b2) nx th
    | 1, _ =>
      rw [show decide (V.int ((1 : Nat) : Int) = V.int 0) = false from decide_eq_false (fun z => by cases z)]
      refine iteF ?_
      dsimp only [tNext]
      refine ⟨_, rfl, rfl, _, rfl, ?_⟩
      rw [show decide (V.int ((1 : Nat) : Int) = V.int 1) = true from decide_eq_true rfl]
      refine iteT ?_
      refine ⟨_, rfl, _, rfl, _, rfl, fun x dx nx ndx ne => ?_⟩
      have s0 : Same H (upd (upd H dx (.own x)) x (.ins (cw 1) dx [])) := fun b o e => by
        rw [upd_ne (ne_of_none e nx), upd_ne (ne_of_none e ndx)]
        exact e
      have e0 : (upd (upd H dx (.own x)) x (.ins (cw 1) dx [])) x = some (.ins (cw 1) dx []) := upd_same
      generalize upd (upd H dx (.own x)) x (.ins (cw 1) dx []) = H1 at s0 e0
      refine ⟨x, dx, v1, v2, v3, nameD nd, nameD gd, d, rfl, e0, (dp_nv h1 n1.small).same s0, (dp_nv h2 n2.small).same s0, h3.same s0, ft, fun z hz t H2 lf => ⟨true, X.uu, fun _ e2 ne2 => ?_, fun z => nomatch z⟩, fun hz => ⟨fun r hr t H2 lf => ⟨false, X.iu, fun z => (nomatch z), fun _ => ⟨true, X.ii, fun _ e2 ne2 => ?_, fun z => nomatch z⟩⟩, fun hf ds eo H2 b2 th => ⟨rfl, ?_⟩⟩⟩
      · rcases nm2 hz with ⟨hb, rfl⟩ | ⟨ha, hb, rfl⟩
        · obtain ⟨b2, nt, ht⟩ := lf
          have s2 := left_same s0 nx b2
          refine ⟨_, rfl, rfl, rfl, t, _, _, rfl, ht, rfl, _, nd, rfl, dq_of _ _ (h1.same s2), .inl n1.hd, n1.sw, n1.dp, n1.sz, by show 2 ≤ sizeLine; decide, fun p np => ?_⟩
          exact bad (Q' := Q) s2 n1 h1 (by unfold heardD; rw [if_pos hb]) (fun _ _ q => q) p np
        · obtain ⟨b2, nt, ht⟩ := lf
          have s2 := left_same s0 nx b2
          refine ⟨_, rfl, rfl, rfl, t, _, _, rfl, ht, rfl, _, gd, rfl, dq_of _ _ (h2.same s2), .inl n2.hd, n2.sw, n2.dp, n2.sz, by show 2 ≤ sizeLine; decide, fun p np => ?_⟩
          exact bad (Q' := Q) s2 n2 h2 (by unfold heardD; rw [if_neg (by rw [ha]; decide), if_pos ⟨by decide, hb⟩]) (fun _ _ q => q) p np
      · obtain ⟨ha, hb⟩ := nm2' hz
        obtain ⟨b2, nt, ht⟩ := lf
        have s2 := left_same s0 nx b2
        refine ⟨_, rfl, rfl, rfl, t, _, _, rfl, ht, rfl, by show 2 ≤ sizeLine; decide, fun p np => ?_⟩
        exact bit (Q' := Q) s2 (fW_r hr) (by unfold heardD; rw [if_neg (by rw [ha]; decide), if_neg (fun z => by rw [hb] at z; cases z.2), if_pos (by decide), hr]; rfl) (fun _ _ q => q) p np
      · obtain ⟨ha, hb⟩ := nm2' hz
        obtain ⟨nm, rfl⟩ := str_of_name ha
        obtain ⟨gt, rfl⟩ := str_of_name hb
        cases h1
        cases h2
        exact qm (by unfold heardD; rw [if_neg (by rw [ha]; decide), if_neg (fun z => by rw [hb] at z; cases z.2), if_pos (by decide), hf]; rfl) nm gt ds rfl (fun _ => rfl) eo H2 x (left_same s0 nx b2) nx th
    | 2, _ =>
      rw [show decide (V.int ((2 : Nat) : Int) = V.int 0) = false from decide_eq_false (fun z => by cases z)]
      refine iteF ?_
      dsimp only [tNext]
      refine ⟨_, rfl, rfl, _, rfl, ?_⟩
      rw [show decide (V.int ((2 : Nat) : Int) = V.int 1) = false from decide_eq_false (fun z => by cases z)]
      refine iteF ?_
      refine ⟨_, rfl, _, rfl, _, rfl, fun x dx nx ndx ne => ?_⟩
      have s0 : Same H (upd (upd H dx (.own x)) x (.ins (cw 2) dx [])) := fun b o e => by
        rw [upd_ne (ne_of_none e nx), upd_ne (ne_of_none e ndx)]
        exact e
      have e0 : (upd (upd H dx (.own x)) x (.ins (cw 2) dx [])) x = some (.ins (cw 2) dx []) := upd_same
      generalize upd (upd H dx (.own x)) x (.ins (cw 2) dx []) = H1 at s0 e0
      refine ⟨x, dx, v1, v2, v3, nameD nd, nameD gd, d, rfl, e0, (dp_nv h1 n1.small).same s0, (dp_nv h2 n2.small).same s0, h3.same s0, ft, fun z hz t H2 lf => ⟨true, X.uu, fun _ e2 ne2 => ?_, fun z => nomatch z⟩, fun hz => ⟨fun r hr t H2 lf => ⟨false, X.iu, fun z => (nomatch z), fun _ => ⟨true, X.ii, fun _ e2 ne2 => ?_, fun z => nomatch z⟩⟩, fun i hi t H2 lf => ⟨false, X.cu, fun z => (nomatch z), fun _ => ⟨false, X.ci, fun z => (nomatch z), fun _ => ⟨true, X.cc, fun _ e2 ne2 => ?_, fun z => nomatch z⟩⟩⟩, fun hf hc ds eo H2 b2 th => ⟨rfl, ?_⟩⟩⟩
      · rcases nm2 hz with ⟨hb, rfl⟩ | ⟨ha, hb, rfl⟩
        · obtain ⟨b2, nt, ht⟩ := lf
          have s2 := left_same s0 nx b2
          refine ⟨_, rfl, rfl, rfl, t, _, _, rfl, ht, rfl, _, nd, rfl, dq_of _ _ (h1.same s2), .inl n1.hd, n1.sw, n1.dp, n1.sz, by show 2 ≤ sizeLine; decide, fun p np => ?_⟩
          exact bad (Q' := Q) s2 n1 h1 (by unfold heardD; rw [if_pos hb]) (fun _ _ q => q) p np
        · obtain ⟨b2, nt, ht⟩ := lf
          have s2 := left_same s0 nx b2
          refine ⟨_, rfl, rfl, rfl, t, _, _, rfl, ht, rfl, _, gd, rfl, dq_of _ _ (h2.same s2), .inl n2.hd, n2.sw, n2.dp, n2.sz, by show 2 ≤ sizeLine; decide, fun p np => ?_⟩
          exact bad (Q' := Q) s2 n2 h2 (by unfold heardD; rw [if_neg (by rw [ha]; decide), if_pos ⟨by decide, hb⟩]) (fun _ _ q => q) p np
      · obtain ⟨ha, hb⟩ := nm2' hz
        obtain ⟨b2, nt, ht⟩ := lf
        have s2 := left_same s0 nx b2
        refine ⟨_, rfl, rfl, rfl, t, _, _, rfl, ht, rfl, by show 2 ≤ sizeLine; decide, fun p np => ?_⟩
        exact bit (Q' := Q) s2 (fB_r hr) (by unfold heardD; rw [if_neg (by rw [ha]; decide), if_neg (fun z => by rw [hb] at z; cases z.2), if_neg (by decide), hr]) (fun _ _ q => q) p np
      · obtain ⟨ha, hb⟩ := nm2' hz
        obtain ⟨nm, rfl⟩ := str_of_name ha
        cases h1
        obtain ⟨b2, nt, ht⟩ := lf
        have s2 := left_same s0 nx b2
        have fb : faultB d = none := by
          unfold faultC at hi
          cases hq : faultB d with
          | none => rfl
          | some q => rw [hq] at hi; cases hi
        refine ⟨_, rfl, rfl, rfl, t, _, _, rfl, ht, rfl, ?_⟩
        refine ⟨_, rfl, rfl, rfl, t, _, _, rfl, ht, rfl, ?_⟩
        refine ⟨by show 3 ≤ sizeLine; decide, fun p np => ?_⟩
        exact qz _ (by unfold heardD; rw [if_neg (by rw [ha]; decide), if_neg (fun z => by rw [hb] at z; cases z.2), if_neg (by decide), fb]; show (faultC d).map _ = _; rw [hi]; rfl) _ _ (s2.trans (same_upd np)) (.lst (SqL.of upd_same) (.cons (.str _) (.cons (.str _) (.cons (.int _) .nil))))
      · obtain ⟨ha, hb⟩ := nm2' hz
        obtain ⟨nm, rfl⟩ := str_of_name ha
        obtain ⟨gt, rfl⟩ := str_of_name hb
        cases h1
        cases h2
        exact qm (by unfold heardD; rw [if_neg (by rw [ha]; decide), if_neg (fun z => by rw [hb] at z; cases z.2), if_neg (by decide), hf]; show (faultC d).map _ = _; rw [hc]; rfl) nm gt ds rfl (fun _ => rfl) eo H2 x (left_same s0 nx b2) nx th
end
end Tr

/-! P13 -/
/-! ### what the law expects of a list -/
namespace Rw
open PySem PySem.Spec PyProof.Rows L2
def natsV (ns : List Nat) : List V := ns.map fun n => V.int (n : Nat)
def natsD (ns : List Nat) : List PyData := ns.map fun n => PyData.int (n : Nat)
theorem dp_nats {K : PySem.W.Frag} {H : Hp} : ∀ ns : List Nat, DpAll K H (natsV ns) (natsD ns)
  | [] => .nil
  | n :: ns => .cons (.int _) (dp_nats ns)
theorem nats_lay : ∀ ns : List Nat, PyData.canLayAll0 (natsD ns) = true ∧ PyData.depthAll (natsD ns) = 0
  | [] => ⟨rfl, rfl⟩
  | n :: ns => by
    obtain ⟨a, b⟩ := nats_lay ns
    refine ⟨?_, ?_⟩
    · show (PyData.canLay0 (.int n) && PyData.canLayAll0 (natsD ns)) = true
      rw [a]
      rfl
    · show max (PyData.depth (.int n)) (PyData.depthAll (natsD ns)) = 0
      rw [b, show PyData.depth (.int n) = 0 by simp only [PyData.depth]]
      rfl
theorem nats_shaped (ns : List Nat) : SeqAt.shaped (.list (natsD ns)) = true := by
  obtain ⟨a, b⟩ := nats_lay ns
  refine shaped_of (by simp only [PyData.canLay0]; exact a) ?_
  simp only [PyData.depth]
  omega
theorem eqv_nats_nil (ns : List Nat) : PyData.eqv (.list (natsD ns)) (.list (natsD [])) = decide (ns = []) := by
  rw [show PyData.eqv (.list (natsD ns)) (.list (natsD [])) = PyData.eqvAll (natsD ns) (natsD []) by simp only [PyData.eqv]]
  cases ns with
  | nil => rfl
  | cons n ns => rw [decide_eq_false (List.cons_ne_nil _ _)]; rfl
section
variable {P : Program} {w : World} {K : PySem.W.Frag} {mg : Str → Option Value} {base : Heap}
end
end Rw

/-! ### what the law expects of a thread -/
namespace Tr
open PySem PySem.Spec PyProof.Rows L2 Rw NdefX SuX
def goodB (ds : List D) : Prop := ds = [] ∨ faultL ds = none
def wds (ds : List D) : List Str := (flat ds).map wD
def oddAt (ds : List D) : List Nat := ((List.range (flat ds).length).filter fun i => !decide (((wds ds)[i]?.getD ("" : Str)) ∈ crowd5))
def dueD6 (way : Nat) (nd gd : D) (ds : List D) : D := (heardD way nd gd (.tuple ds)).getD (.list [])
def spDue6 (K : PySem.W.Frag) (n : Nat) : Sp := fun vs H Q _ => ∃ (way : Nat) (v1 v2 v3 : V) (nd gd : D) (ds : List D), vs = [.int way, v1, v2, v3] ∧ way < 3 ∧ Dp K H v1 nd ∧ Dp K H v2 gd ∧ Dp K H v3 (.tuple ds) ∧ NmOk nd ∧ NmOk gd ∧ Fits n ds ∧ goodB ds ∧
  ∀ H' r, Same H H' → Dp K H' r (dueD6 way nd gd ds) → Q r H'
theorem hd_nil {way : Nat} (hw : way < 3) {nd gd : D} (a : nameD nd = true) (b : way ≠ 0 → nameD gd = true) : heardD way nd gd (.tuple []) = some (itD .non) := by
  unfold heardD
  rw [if_neg (by rw [a]; decide), if_neg (fun z => by rw [b z.1] at z; cases z.2)]
  split
  · rfl
  · rfl
theorem hd_W {way : Nat} (hw : way < 2) {nd gd : D} {ds : List D} (a : nameD nd = true) (b : way ≠ 0 → nameD gd = true) (h : faultL ds = none) : heardD way nd gd (.tuple ds) = (pieceAt ds).map fun i => itD (.int (i : Nat)) := by
  unfold heardD
  rw [if_neg (by rw [a]; decide), if_neg (fun z => by rw [b z.1] at z; cases z.2), if_pos hw]
  unfold faultW
  rw [show faultB (.tuple ds) = none from h]
  show ((pieceAt ds).map _).map _ = _
  rw [Option.map_map]
  rfl
theorem hd_C {nd gd : D} {ds : List D} (a : nameD nd = true) (b : nameD gd = true) (h : faultL ds = none) : heardD 2 nd gd (.tuple ds) = (crowdAt ds).map (crD nd) := by
  unfold heardD
  rw [if_neg (by rw [a]; decide), if_neg (fun z => by rw [b] at z; cases z.2), if_neg (by decide)]
  unfold faultC
  rw [show faultB (.tuple ds) = none from h]
theorem flat_txt : ∀ ws : List Str, (ws.map V.str).all flatV = true
  | [] => rfl
  | w :: ws => by
    show (flatV (.str w) && (ws.map V.str).all flatV) = true
    rw [flat_txt ws]
    rfl
theorem mem_wds {ds : List D} {w : Str} : w ∈ wds ds ↔ ∃ d ∈ flat ds, wD d = w := by
  unfold wds
  rw [List.mem_map]
theorem piece_none {ds : List D} (h : ("piece" : Str) ∉ wds ds) : pieceAt ds = none := by
  unfold pieceAt
  rw [List.findIdx?_eq_none_iff]
  intro x hx
  exact decide_eq_false fun e => h (mem_wds.mpr ⟨x, hx, e⟩)
theorem piece_some {ds : List D} (h : ("piece" : Str) ∈ wds ds) : ∃ j, pieceAt ds = some j ∧ (wds ds)[j]? = some ("piece" : Str) ∧ ∀ m, m < j → (wds ds)[m]? ≠ some ("piece" : Str) := by
  obtain ⟨d, hd, e⟩ := mem_wds.mp h
  cases hp : pieceAt ds with
  | none =>
    unfold pieceAt at hp
    rw [List.findIdx?_eq_none_iff] at hp
    have z := hp d hd
    rw [decide_eq_true e] at z
    cases z
  | some j =>
    unfold pieceAt at hp
    rw [List.findIdx?_eq_some_iff_getElem] at hp
    obtain ⟨hj, h1, h2⟩ := hp
    refine ⟨j, rfl, ?_, fun m hm hz => ?_⟩
    · unfold wds
      rw [List.getElem?_map, List.getElem?_eq_getElem hj]
      exact congrArg some (of_decide_eq_true h1)
    · unfold wds at hz
      rw [List.getElem?_map, List.getElem?_eq_getElem (by omega)] at hz
      have z := h2 m hm
      exact z (decide_eq_true (Option.some.inj hz))
/-- the first of the places that are odd -/
theorem odd_first {ds : List D} {bs : List Nat} (h : bs = (List.range (flat ds).length).filter fun i => !decide (((wds ds)[i]?.getD ("" : Str)) ∈ crowd5)) : crowdAt ds = bs.head? := by
  subst h
  unfold crowdAt
  have e : ∀ l : List D, l.findIdx? (fun d => !decide (wD d ∈ crowd5)) = ((List.range l.length).filter fun i => !decide (((l.map wD)[i]?.getD ("" : Str)) ∈ crowd5)).head? := by
    intro l
    induction l with
    | nil => rfl
    | cons d l ih =>
      rw [List.findIdx?_cons, List.length_cons, List.range_succ_eq_map, List.filter_cons]
      have z0 : ((List.map wD (d :: l))[0]?.getD ("" : Str)) = wD d := rfl
      rw [z0]
      cases hb : !decide (wD d ∈ crowd5) with
      | true => rfl
      | false =>
        rw [if_neg Bool.false_ne_true, if_neg Bool.false_ne_true, List.filter_map, List.head?_map, ih]
        rfl
  exact e (flat ds)
section
variable {P : Program} {w : World} {K : PySem.W.Frag} {mg : Str → Option Value} {base : Heap}
abbrev sDu : Stmt := top 60
theorem scDu : FnScope ["_law_way", "_law_name", "_law_gate", "_law_items", "_law_thing", "_law_words", "_law_odd", "_law_row", "_law_at", "_law_word"] ["_law_way", "_law_name", "_law_gate", "_law_items"] (defScope sDu) := ⟨rfl, rfl, rfl, by decide +kernel, rfl, by decide +kernel, by decide +kernel⟩
theorem ok_du {f fN fZ fX : Addr} {fd fdN fdZ fdX : FuncData} (F : Fun K "_law_due" "_law_due" sDu f fd) (n : Nat) (hn : n ≤ 40)
    (GN : FnOk P w K mg base CX0 1 fN fdN ["_law_thing"] (spLNm K)) (TN : Called K mg "_law_is_name" ["_law_thing"] fN fdN)
    (GZ : FnOk P w K mg base CX0 (n + 2) fZ fdZ ["_law_items"] (spSz K n)) (TZ : Called K mg "_law_size" ["_law_items"] fZ fdZ)
    (GX : FnOk P w K mg base CX0 (n + 3) fX fdX ["_law_items", "_law_start", "_law_follow", "_law_held"] (spLF K n)) (TX : Called K mg "_law_flat" ["_law_items", "_law_start", "_law_follow", "_law_held"] fX fdX)
    (m_int : mg "int" = none) (m_repr : mg "repr" = none) (m_enumerate : mg "enumerate" = none) : FnOkG P w K mg base CX0 (n + 4) f fd ["_law_way", "_law_name", "_law_gate", "_law_items"] (spDue6 K n) := by
  refine F.okG scDu (fun vs H Q E h => ?_) (fun cdv A outer s H vs Q E hgd hr h => ?_)
  · obtain ⟨way, v1, v2, v3, nd, gd, ds, rfl, _⟩ := h
    rfl
  · obtain ⟨way, v1, v2, v3, nd, gd, ds, rfl, hway, h1, h2, h3, n1, n2, ft, gb, q⟩ := h
    refine ⟨_, (pss_cons (ps_for PassesOwn.never rfl (pi_list (pe_op op_cat (pe_lst (pa_cons (pv 1) pa_nil)) (pe_op op_rep (pe_lst (pa_cons (pv 2) pa_nil)) (pe_callTy call_int1 (by rfl) m_int (by decide +kernel) (pa_cons (pe_cmpR op_gt (pv 0) pe_int (nomark _)) pa_nil))))) (pg_name (i := 4) scDu.nd rfl (.inl rfl))
       (pss_one (ps_if (pt_not (pt_val (pe_call GN (hr.mono (by first | decide | omega)) rfl TN.1 TN.2.1 TN.2.2 .nil pass0 (pa_cons (pv 4) pa_nil))))
       (pss_one (ps_ret (pe_lst (pa_cons pe_str (pa_cons (pe_callB (call_reprDK (K := K) rfl hgd hr.units) (by rfl) m_repr (by decide +kernel) (pa_cons (pv 4) pa_nil)) pa_nil)))))
       pss_nil)))
       (pss_cons (ps_if (pt_cmpR (Nm.op_eqDK (K := K) rfl hr.units) (pv 3) (pe_tup pa_nil) (nomark _))
       (pss_one (ps_ret (pe_lst (pa_cons pe_str (pa_cons pe_non pa_nil)))))
       pss_nil)
       (pss_cons (ps_setLc (i := 5) (own := [("_law_row", 7)]) (g := gName 7) (tt := tYes) (by rfl) scDu.nd rfl rfl (sw_true rfl rfl rfl (by decide +kernel)) (pi_list (pe_call GX (hr.mono (by first | decide | omega)) rfl TX.1 TX.2.1 TX.2.2 .nil pass0 (pa_cons (pv 3) (pa_cons pe_int (pa_cons (pe_call GZ (hr.mono (by first | decide | omega)) rfl TZ.1 TZ.2.1 TZ.2.2 .nil pass0 (pa_cons (pv 3) pa_nil)) (pa_cons (pe_tup pa_nil) pa_nil)))))) (blkOk_by (own := [("_law_row", 7)]) (N := ["_law_way", "_law_name", "_law_gate", "_law_items", "_law_thing", "_law_words", "_law_odd", "_law_row", "_law_at", "_law_word"]) (sc := defScope sDu) (by decide +kernel)) (fun _ _ _ _ _ => (pg_name (i := 7) scDu.nd rfl (Or.inl rfl))) (fun _ _ _ _ _ => pts_nil) (fun _ _ _ _ _ => (pe_ix (ix_tupK (K := K) rfl) (pe_ix (ix_tupK (K := K) rfl) (pv 7) pe_int (fun _ _ => rfl)) pe_int (fun _ _ => rfl))))
       (pss_cons (ps_if (pt_cmpR op_lt (pv 0) pe_int (nomark _))
       (pss_one (ps_ret (pe_ifExp (pt_cmpR (op_in_seqKK (K := K) rfl) pe_str (pv 5) (by rfl))
       (pe_lst (pa_cons pe_str (pa_cons (pe_bm PySem.F.plainAttrs_list PySem.F.slot_list_index PySem.F.type_list_index mt_index (pv 5) (pa_cons pe_str pa_nil)) pa_nil)))
       (pe_lst pa_nil))))
       pss_nil)
       (pss_cons (ps_setLc (i := 6) (own := [("_law_at", 8), ("_law_word", 9)]) (g := gTup K 2 (gCons (gName 8) (gCons (gName 9) gNil)))  (by rfl) scDu.nd rfl rfl (sw_true rfl rfl rfl (by decide +kernel)) (pi_enum (by rfl) m_enumerate (pa_cons (pv 5) pa_nil)) (blkOk_by (own := [("_law_at", 8), ("_law_word", 9)]) (N := ["_law_way", "_law_name", "_law_gate", "_law_items", "_law_thing", "_law_words", "_law_odd", "_law_row", "_law_at", "_law_word"]) (sc := defScope sDu) (by decide +kernel)) (fun _ _ _ _ _ => (pg_tup rfl (pgs_cons (pg_name (i := 8) scDu.nd rfl (Or.inl rfl)) (pgs_cons (pg_name (i := 9) scDu.nd rfl (Or.inl rfl)) pgs_nil)))) (fun _ _ _ _ _ => (pts_one (pt_cmpR (op_notIn_seqKK (K := K) rfl) (pv 9) (pe_lst (pa_cons pe_str (pa_cons pe_str (pa_cons pe_str (pa_cons pe_str (pa_cons pe_str pa_nil)))))) (by rfl)))) (fun _ _ _ _ _ => (pv 8)))
       (pss_one (ps_ret (pe_ifExp (pt_cmpR (Nm.op_eqDK (K := K) rfl hr.units) (pv 6) (pe_lst pa_nil) (nomark _))
       (pe_lst pa_nil)
       (pe_lst (pa_cons pe_str (pa_cons (pv 1) (pa_cons (pe_ix (ix_listK (K := K) rfl) (pv 6) pe_int (fun _ _ => rfl)) pa_nil)))))))))))), ?_⟩
    refine ⟨_, rfl, (by show 1 ≤ sizeLine; decide), fun p1 np1 => ?_⟩
    have t1 := same_upd (o := HO.lst [v1]) np1
    refine ⟨_, rfl, (by show 1 ≤ sizeLine; decide), fun p2 np2 => ?_⟩
    have t2 := same_upd (o := HO.lst [v2]) np2
    refine ⟨_, rfl, _, _, rfl, rfl, .inr ⟨_, rfl, ?_⟩⟩
    obtain ⟨kb, hk1, hkb, hk0⟩ : ∃ k : Nat, k ≤ 1 ∧ (if decide ((way : Int) > 0) = true then (1 : Int) else 0) = k ∧ (k = 0 ↔ way = 0) := by
      by_cases e : way = 0
      · subst e
        exact ⟨0, by omega, rfl, by decide⟩
      · exact ⟨1, by omega, if_pos (decide_eq_true (show (way : Int) > 0 by omega)), by omega⟩
    rw [hkb]
    refine ⟨p2, kb, _, rfl, rfl, upd_same, by omega, by omega, ?_, fun p3 np3 => ?_⟩
    · show 1 * ((kb : Int)).toNat ≤ sizeLine
      rw [sizeLine_eq]
      omega
    have t3 := same_upd (o := HO.lst (List.replicate ((kb : Int)).toNat [v2]).flatten) np3
    obtain ⟨rest, hrest, hr0, hr1⟩ : ∃ rest : List V, (List.replicate ((kb : Int)).toNat [v2]).flatten = rest ∧ (way = 0 → rest = []) ∧ (way ≠ 0 → rest = [v2]) := by
      match kb, hk1, hk0 with
      | 0, _, hk0 => exact ⟨[], rfl, fun _ => rfl, fun z => absurd (hk0.mp rfl) z⟩
      | 1, _, hk0 => exact ⟨[v2], rfl, fun z => (nomatch hk0.mpr z), fun _ => rfl⟩
    have hrl : rest.length ≤ 1 := by
      by_cases e : way = 0
      · rw [hr0 e]; decide
      · rw [hr1 e]; exact Nat.le_refl _
    rw [hrest] at t3 ⊢
    refine ⟨p1, p3, _, _, rfl, rfl, (t2.trans t3) _ _ upd_same, upd_same, by rw [sizeLine_eq]; show 1 + rest.length ≤ _; omega, fun L nL => ?_⟩
    have s4 := ((t1.trans t2).trans t3).trans (same_upd (o := HO.lst ([v1] ++ rest)) nL)
    have hL : (upd (upd (upd (upd H p1 (.lst [v1])) p2 (.lst [v2])) p3 (.lst rest)) L (.lst ([v1] ++ rest))) L = some (.lst (v1 :: rest)) := upd_same
    generalize upd (upd (upd (upd H p1 (.lst [v1])) p2 (.lst [v2])) p3 (.lst rest)) L (.lst ([v1] ++ rest)) = H4 at s4 hL
    clear t1 t2 t3 np1 np2 np3 nL hkb hrest
    refine ⟨L, rfl, ⟨_, SqL.of hL⟩, for_list (K := K) (a := L) (xs := v1 :: rest)
      (fun i σ H' => ∃ t : Option V, σ = [some (.int way), some v1, some v2, some v3, t, none, none, none, none, none] ∧ Same H4 H' ∧ (1 ≤ i → nameD nd = true) ∧ (2 ≤ i → nameD gd = true))
      ⟨none, rfl, Same.refl _, fun z => absurd z (by decide), fun z => absurd z (by decide)⟩ (fun i σ H' _ ⟨_, _, s5, _⟩ => s5.seq (SqL.of hL)) ?_ ?_⟩
    · rintro i x σ H5 hxi ⟨t, rfl, s5, al1, al2⟩
      have s05 := s4.trans s5
      obtain ⟨z, hz, nz, hzc⟩ : ∃ z : D, Dp K H x z ∧ NmOk z ∧ ((i = 0 ∧ z = nd) ∨ (i = 1 ∧ z = gd ∧ way ≠ 0)) := by
        match i, hxi with
        | 0, hxi => cases hxi; exact ⟨nd, h1, n1, .inl ⟨rfl, rfl⟩⟩
        | i + 1, hxi =>
          have hxi : rest[i]? = some x := hxi
          by_cases e : way = 0
          · rw [hr0 e] at hxi; cases hxi
          · rw [hr1 e] at hxi
            match i, hxi with
            | 0, hxi => cases hxi; exact ⟨gd, h2, n2, .inr ⟨rfl, rfl, e⟩⟩
      refine ⟨_, rfl, x, z, rfl, hz.same s05, nz.good, fun H6 s6 => ⟨_, rfl, ?_⟩⟩
      have s06 := s05.trans s6
      cases hb : nameD z with
      | true =>
        refine iteF ⟨_, rfl, s5.trans s6, fun hi => ?_, fun hi => ?_⟩
        · rcases hzc with ⟨_, rfl⟩ | ⟨e, _, _⟩
          · exact hb
          · exact al1 (by omega)
        · rcases hzc with ⟨e, rfl⟩ | ⟨e, rfl, _⟩
          · omega
          · exact hb
      | false =>
        refine iteT ?_
        refine ⟨_, rfl, x, z, rfl, dq_of _ _ (hz.same s06), .inl nz.hd, nz.sw, nz.dp, nz.sz, (by show 2 ≤ sizeLine; decide), fun p np => ?_⟩
        refine q _ _ (s06.trans (same_upd np)) ?_
        have e : dueD6 way nd gd ds = nmDt z := by
          unfold dueD6 heardD
          rcases hzc with ⟨_, rfl⟩ | ⟨e, rfl, e0⟩
          · rw [if_pos hb]; rfl
          · rw [if_neg (by rw [al1 (by omega)]; decide), if_pos ⟨e0, hb⟩]; rfl
        rw [e]
        exact .lst (SqL.of upd_same) (.cons (.str _) (.cons (.str _) .nil))
    · rintro σ H5 ⟨t, rfl, s5, al1, al2⟩
      have s05 := s4.trans s5
      have a1 := al1 (by show 1 ≤ rest.length + 1; omega)
      have a2 : way ≠ 0 → nameD gd = true := fun e => al2 (by rw [hr1 e]; show 2 ≤ 2; decide)
      clear al1 al2
      dsimp only [tSeq]
      refine ⟨_, rfl, ?_⟩
      refine ⟨Nat.zero_le _, fun pz npz => ?_⟩
      have s6 := s05.trans (same_upd (o := HO.tup []) npz)
      refine ⟨.tuple ds, .tuple [], h3.same s6, .tup (SqT.of upd_same) .nil, fits_sh ft hn, nilT_shaped, _, rfl, ?_⟩
      rw [eqv_nilT]
      generalize upd H5 pz (.tup []) = H6 at s6
      clear s5 npz
      by_cases hne : ds = []
      · subst hne
        refine iteT ⟨(by show 2 ≤ sizeLine; decide), fun p np => ?_⟩
        refine q _ _ (s6.trans (same_upd np)) ?_
        unfold dueD6
        rw [hd_nil hway a1 a2]
        exact .lst (SqL.of upd_same) (.cons (.str _) (.cons .non .nil))
      · have hem : ds.isEmpty = false := by
          cases ds with
          | nil => exact absurd rfl hne
          | cons _ _ => rfl
        rw [hem]
        refine iteF ?_
        have hf : faultL ds = none := gb.resolve_left hne
        obtain ⟨ds', e1, hc, h8, _⟩ := fault_tup (d := .tuple ds) hf
        cases e1
        have br : ∀ d ∈ flat ds, BrOk d := fun e he => (br_flat hc e he).1
        cases h3 with
        | @tup pt xs _ hp ha =>
        refine ⟨_, rfl, _, rfl, H6, pt, xs, ds, rfl, Same.refl _, s6.tupS hp, ha.same s6, ft, br, fun H7 s7 => ?_⟩
        refine ⟨Nat.zero_le _, fun ph nph => ?_⟩
        have s8 := (s6.trans s7).trans (same_upd (o := HO.tup []) nph)
        have hph : (upd H7 ph (.tup [])) ph = some (.tup []) := upd_same
        generalize upd H7 ph (.tup []) = H8 at s8 hph
        clear s6 s7 nph
        refine ⟨H8, pt, 0, _, .ref ph, xs, ds, [], rfl, Same.refl _, s8.tupS hp, ha.same s8, ft, br, ⟨ph, rfl, SqT.of hph⟩, by show 0 + (flat ds).length ≤ 900; omega, fun H9 l ys s9 nl hl hy => ?_⟩
        refine ⟨l, rfl, ⟨_, SqL.of hl⟩, fun D nD => lc_list (K := K) (a := l) (xs := ys) (fun i H' => Same H9 H' ∧ H' D = some (.lst (((wds ds).take i).map V.str)))
          ⟨same_upd nD, upd_same⟩ (fun i H' _ h => h.1.seq (SqL.of hl)) ?_ ?_⟩
        · rintro i z H10 hzi ⟨s10, hD⟩
          obtain ⟨d, hd, p, x, rest', rfl, hpt, hx⟩ := hy.get hzi
          obtain ⟨wd, r, rfl, _⟩ := br d (List.mem_of_getElem? hd)
          cases hx with
          | @tup px xs' _ hpx hax =>
          cases hax with
          | @cons vh vt _ _ hh ht =>
          cases hh
          have hwi : (wds ds)[i]? = some wd := by
            unfold wds
            rw [List.getElem?_map, hd]
            rfl
          have hlt : i < (flat ds).length := (List.getElem?_eq_some_iff.mp hd).1
          have s910 := s9.trans s10
          refine ⟨rfl, _, rfl, p, _, 0, _, rfl, rfl, s10.tupS hpt, at0, px, _, 0, _, rfl, rfl, s910.tupS hpx, at0, _, hD, ?_, same_updN nD s10, ?_⟩
          · rw [List.length_map, List.length_take, sizeLine_eq]
            omega
          · rw [upd_same, take_snoc hwi, List.map_append]
            rfl
        · rintro H10 ⟨s10, hD⟩
          rw [hy.length, show (flat ds).length = (wds ds).length from (List.length_map ..).symm, List.take_length] at hD
          have s11 := ((s8.trans s9).trans s10)
          have lw : (wds ds).length ≤ 8 := by unfold wds; rw [List.length_map]; exact h8
          refine name_in ?_
          refine ⟨_, rfl, _, _, rfl, rfl, _, rfl, ?_⟩
          by_cases hw2 : (way : Int) < 2
          · rw [decide_eq_true hw2]
            refine iteT ?_
            have hd := hd_W (way := way) (by omega) a1 a2 hf
            refine ⟨_, rfl, D, _, rfl, .inl (SqL.of hD), rfl, flat_txt _, _, rfl, ?_⟩
            rw [inV_txt]
            by_cases hp : ("piece" : Str) ∈ wds ds
            · rw [show (if false = true then !decide (("piece" : Str) ∈ wds ds) else decide (("piece" : Str) ∈ wds ds)) = true from decide_eq_true hp]
              obtain ⟨j, e1, e2, e3⟩ := piece_some hp
              refine iteT ?_
              refine ⟨_, rfl, .inl ⟨rfl, _, SqL.of hD⟩, D, (wds ds).map V.str, .str "piece", j, .str "piece", rfl, rfl, SqL.of hD, rfl, flat_txt _, by rw [List.getElem?_map, e2]; rfl, rfl, fun m z' hm hz => ?_, ?_⟩
              · rw [List.getElem?_map] at hz
                cases hz2 : (wds ds)[m]? with
                | none => rw [hz2] at hz; cases hz
                | some u =>
                  rw [hz2] at hz
                  cases hz
                  exact decide_eq_false fun e => e3 m hm (by rw [hz2, e])
              refine ⟨(by show 2 ≤ sizeLine; decide), fun p np => ?_⟩
              refine q _ _ (s11.trans (same_upd np)) ?_
              unfold dueD6
              rw [hd, e1]
              exact .lst (SqL.of upd_same) (.cons (.str _) (.cons (.int _) .nil))
            · rw [show (if false = true then !decide (("piece" : Str) ∈ wds ds) else decide (("piece" : Str) ∈ wds ds)) = false from decide_eq_false hp]
              refine iteF ⟨Nat.zero_le _, fun p np => ?_⟩
              refine q _ _ (s11.trans (same_upd np)) ?_
              unfold dueD6
              rw [hd, piece_none hp]
              exact .lst (SqL.of upd_same) .nil
          · rw [decide_eq_false hw2]
            refine iteF ?_
            have ew : way = 2 := by omega
            subst ew
            dsimp only [tNext]
            refine ⟨_, rfl, D, _, rfl, SqL.of hD, fun D2 nD2 => lc_enum (K := K) (a := D) (xs := (wds ds).map V.str) (fun i H' => Same H10 H' ∧ H' D2 = some (.lst (natsV ((List.range i).filter fun i => !decide (((wds ds)[i]?.getD ("" : Str)) ∈ crowd5)))))
              ⟨same_upd nD2, upd_same⟩ (fun i H' _ h => h.1.seq (SqL.of hD)) ?_ ?_⟩
            · rintro i z H11 T hzi ⟨s11b, hD2⟩ nT
              have hz : ∃ wd, (wds ds)[i]? = some wd ∧ z = .str wd := by
                rw [List.getElem?_map] at hzi
                cases hq : (wds ds)[i]? with
                | none => rw [hq] at hzi; cases hzi
                | some u => rw [hq] at hzi; cases hzi; exact ⟨u, rfl, rfl⟩
              obtain ⟨wd, hwi, rfl⟩ := hz
              have hlt : i < (wds ds).length := (List.getElem?_eq_some_iff.mp hwi).1
              have u0 := same_upd (o := .tup [.int (i : Nat), .str wd]) nT
              have s30 := s11b.trans u0
              have hD2' := u0 _ _ hD2
              refine ⟨T, _, rfl, SqT.of upd_same, rfl, _, _, rfl, _, _, rfl, rfl, rfl, _, rfl, ?_⟩
              refine ⟨(by show 5 ≤ sizeLine; decide), fun c nc => ?_⟩
              have u1 := same_upd (o := HO.lst (crowd5.map V.str)) nc
              have s31 := s30.trans u1
              have hD3 := u1 _ _ hD2'
              refine ⟨c, crowd5.map V.str, rfl, .inl (SqL.of upd_same), rfl, rfl, _, rfl, ?_⟩
              rw [inV_txt]
              rw [List.range_succ, List.filter_append, show ([i].filter fun i => !decide (((wds ds)[i]?.getD ("" : Str)) ∈ crowd5)) = (if (!decide (wd ∈ crowd5)) = true then [i] else []) by rw [List.filter_cons, hwi]; rfl]
              cases hb : !decide (wd ∈ crowd5) with
              | true =>
                refine iteT ⟨_, rfl, _, hD3, ?_, same_updN nD2 s31, ?_⟩
                · unfold natsV
                  have z := List.length_filter_le (fun i => !decide (((wds ds)[i]?.getD ("" : Str)) ∈ crowd5)) (List.range i)
                  rw [List.length_range] at z
                  rw [List.length_map, sizeLine_eq]
                  omega
                · rw [upd_same]
                  unfold natsV
                  rw [List.map_append]
                  rfl
              | false =>
                refine iteF ⟨s31, ?_⟩
                rw [if_neg Bool.false_ne_true, List.append_nil]
                exact hD3
            · rintro H11 ⟨s11b, hD2⟩
              rw [List.length_map] at hD2
              have hfirst := odd_first (ds := ds) rfl
              rw [show (flat ds).length = (wds ds).length from (List.length_map ..).symm] at hfirst
              generalize ((List.range (wds ds).length).filter fun i => !decide (((wds ds)[i]?.getD ("" : Str)) ∈ crowd5)) = bs at hD2 hfirst
              have hd := hd_C (nd := nd) (gd := gd) a1 (a2 (by decide)) hf
              have s12 := s11.trans s11b
              try dsimp only
              refine name_in ?_
              refine ⟨_, rfl, Nat.zero_le _, fun e ne => ?_⟩
              have s4 := same_upd (o := HO.lst []) ne
              refine ⟨.list (natsD bs), .list [], .lst (SqL.of (s4 _ _ hD2)) (dp_nats bs), .lst (SqL.of upd_same) .nil, nats_shaped bs, nilL_shaped, _, rfl, ?_⟩
              rw [eqv_nilL]
              have s13 := s12.trans s4
              have hD4 := s4 _ _ hD2
              generalize upd H11 e (.lst []) = H12 at s4 s13 hD4
              cases bs with
              | nil =>
                refine iteT ⟨Nat.zero_le _, fun p np => ?_⟩
                refine q _ _ (s13.trans (same_upd np)) ?_
                unfold dueD6
                rw [hd, hfirst]
                exact .lst (SqL.of upd_same) .nil
              | cons b bs =>
                refine iteF ?_
                refine ⟨_, rfl, _, rfl, D2, _, 0, _, rfl, rfl, SqL.of hD4, at0, ?_⟩
                refine ⟨(by show 3 ≤ sizeLine; decide), fun p np => ?_⟩
                have s14 := s13.trans (same_upd (o := HO.lst [.str "crowd", v1, .int (b : Nat)]) np)
                refine q _ _ s14 ?_
                unfold dueD6
                rw [hd, hfirst]
                exact .lst (SqL.of upd_same) (.cons (.str _) (.cons (h1.same s14) (.cons (.int _) .nil)))
end
end Tr

/-! P14 -/
/-! ### mathematics behind the law's look at a made thread -/
namespace Tr
open PySem PySem.Spec PyProof.Rows L2 Rw NdefX SuX
def useD : D := .tuple [.str "use"]
theorem use_flatk : flatk useD = [] := by
  unfold useD
  rw [flatk] <;> intros <;> simp_all
theorem flat_use : flat [useD] = [useD] := by
  rw [flat, flat, use_flatk]
  rfl
theorem misl_use : misl [useD] 0 = [false] := by
  have h : shaped useD 0 = true := by
    unfold useD
    rw [shaped]
    exact decide_eq_true rfl
  have hk : misk useD 0 = [] := by
    unfold useD
    rw [misk] <;> intros <;> simp_all
  rw [misl, misl, h, if_pos rfl, hk]
  rfl
theorem use_fit {n : Nat} (h : 2 ≤ n) : Fits n [useD] := by
  refine ⟨by decide +kernel, ?_, by decide +kernel⟩
  show PyData.depthAll [useD] < n
  have e : PyData.depthAll [useD] = 1 := by decide +kernel
  omega
theorem good_app : ∀ as bs : List D, goodAll (as ++ bs) = (goodAll as && goodAll bs)
  | [], bs => rfl
  | a :: as, bs => by
    show goodAll (a :: (as ++ bs)) = _
    rw [goodAll, goodAll, good_app as bs, Bool.and_assoc]
theorem cnt_app : ∀ as bs : List D, cntAll (as ++ bs) = cntAll as + cntAll bs
  | [], bs => by show cntAll bs = 0 + cntAll bs; omega
  | a :: as, bs => by
    show cntAll (a :: (as ++ bs)) = _
    rw [cntAll, cntAll, cnt_app as bs]
    omega
theorem dep_app : ∀ as bs : List D, PyData.depthAll (as ++ bs) = max (PyData.depthAll as) (PyData.depthAll bs)
  | [], bs => by show PyData.depthAll bs = max (PyData.depthAll []) _; rw [PyData.depthAll]; omega
  | a :: as, bs => by
    show PyData.depthAll (a :: (as ++ bs)) = _
    rw [PyData.depthAll, PyData.depthAll, dep_app as bs]
    omega
theorem fits_use {n : Nat} {ds : List D} (h : Fits n ds) (c : cntAll ds ≤ 50000) (hn : 2 ≤ n) : Fits n (ds ++ [useD]) := by
  have u := use_fit hn
  refine ⟨by rw [good_app, h.good, u.good]; rfl, by rw [dep_app]; exact Nat.max_lt.mpr ⟨h.dep, u.dep⟩, ?_⟩
  rw [cnt_app]
  have e : cntAll [useD] = 2 := by decide +kernel
  omega
theorem wl_use : ∀ (ds : List D) (t ar : List Str), (∀ b ∈ wl ds t ar, b = false) → ∀ b ∈ wl (ds ++ [useD]) t ar, b = false
  | [], t, ar, _ => by
    have hk : ∀ ar, wlk useD ar = [] := by
      intro ar
      unfold useD
      rw [wlk] <;> intros <;> simp_all
    have hw : isWr useD [] ar t = false := by
      unfold isWr
      rw [if_neg (by decide), if_neg (by decide), decide_eq_false (by decide), Bool.false_and]
    show ∀ b ∈ wl [useD] t ar, b = false
    rw [wl, wl, hk, hw]
    intro b hb
    simpa using hb
  | d :: ds, t, ar, h => by
    rw [wl] at h
    show ∀ b ∈ wl (d :: (ds ++ [useD])) t ar, b = false
    rw [wl]
    intro b hb
    rw [List.mem_cons, List.mem_append] at hb
    rcases hb with rfl | hb | hb
    · have h0 := h _ List.mem_cons_self
      unfold isWr at h0 ⊢
      split
      · next e => rw [if_pos e] at h0; exact h0
      · next e =>
        rw [if_neg e] at h0
        split
        · next e2 =>
          rw [if_pos e2] at h0
          split
          · next e3 => rw [if_pos e3] at h0; exact h0
          · next e3 =>
            rw [if_neg e3] at h0
            rw [List.any_append]
            cases hq : ds.any fun z => PyData.eqv z (giveD (nmD d)) with
            | true => rfl
            | false => rw [hq] at h0; cases h0
        · next e2 => rw [if_neg e2] at h0; exact h0
    · exact h b (List.mem_cons_of_mem _ (List.mem_append_left _ hb))
    · exact wl_use ds _ _ (fun b hb => h b (List.mem_cons_of_mem _ (List.mem_append_right _ hb))) b hb
theorem findid_none {bs : List Bool} : bs.findIdx? id = none ↔ ∀ b ∈ bs, b = false := by
  rw [List.findIdx?_eq_none_iff]
  rfl
theorem faultL_none {ds : List D} : faultL ds = none ↔ ds ≠ [] ∧ (∀ b ∈ misl ds 0, b = false) ∧ (flat ds).length ≤ 8 ∧ ∀ b ∈ wl ds [] [], b = false := by
  unfold faultL
  constructor
  · intro h
    split at h
    · cases h
    · next he =>
      split at h
      · cases h
      · next hf =>
        split at h
        · cases h
        · next h8 =>
          split at h
          · cases h
          · next hw => exact ⟨fun e => he (by rw [e]; rfl), findid_none.mp hf, by omega, findid_none.mp hw⟩
  · rintro ⟨h1, h2, h3, h4⟩
    have he : ds.isEmpty = false := by
      cases ds with
      | nil => exact absurd rfl h1
      | cons _ _ => rfl
    rw [he, if_neg Bool.false_ne_true, findid_none.mpr h2]
    show (if 8 < (flat ds).length then some V.non else _) = none
    rw [if_neg (by omega), findid_none.mpr h4]
theorem fault_use {ds : List D} (h : faultL ds = none) (h7 : (flat ds).length ≤ 7) : faultL (ds ++ [useD]) = none := by
  rw [faultL_none] at h ⊢
  obtain ⟨h1, h2, h3, h4⟩ := h
  refine ⟨by simp, ?_, ?_, wl_use ds [] [] h4⟩
  · intro b hb
    rw [misl_app, List.mem_append, misl_use] at hb
    rcases hb with hb | hb
    · exact h2 b hb
    · simpa using hb
  · rw [flat_app, flat_use, List.length_append]
    show (flat ds).length + 1 ≤ 8
    omega
theorem pieceAt_use {ds : List D} : pieceAt (ds ++ [useD]) = pieceAt ds := by
  unfold pieceAt
  rw [flat_app, flat_use, List.findIdx?_append]
  have e : List.findIdx? (fun d => decide (wD d = ("piece" : Str))) [useD] = none := by decide +kernel
  rw [e]
  cases List.findIdx? (fun d => decide (wD d = ("piece" : Str))) (flat ds) <;> rfl
theorem crowd_use {ds : List D} : crowdAt (ds ++ [useD]) = crowdAt ds := by
  unfold crowdAt
  rw [flat_app, flat_use, List.findIdx?_append]
  have e : List.findIdx? (fun d => !decide (wD d ∈ crowd5)) [useD] = none := by decide +kernel
  rw [e]
  cases List.findIdx? (fun d => !decide (wD d ∈ crowd5)) (flat ds) <;> rfl
theorem hd_none {way : Nat} {nd gd : D} {ds : List D} (h : heardD way nd gd (.tuple ds) = none) : nameD nd = true ∧ (way ≠ 0 → nameD gd = true) ∧ faultL ds = none := by
  unfold heardD at h
  split at h
  · cases h
  · next h1 =>
    split at h
    · cases h
    · next h2 =>
      have a1 : nameD nd = true := by
        cases e : nameD nd with
        | true => rfl
        | false => exact absurd e h1
      have a2 : way ≠ 0 → nameD gd = true := fun hw => by
        cases e : nameD gd with
        | true => rfl
        | false => exact absurd ⟨hw, e⟩ h2
      refine ⟨a1, a2, ?_⟩
      split at h
      · cases e : faultB (.tuple ds) with
        | none => exact e
        | some r =>
          unfold faultW at h
          rw [e] at h
          cases h
      · cases e : faultB (.tuple ds) with
        | none => exact e
        | some r => rw [e] at h; cases h
theorem hd_name {way : Nat} (hw : way < 3) {nd nd' gd : D} {ds : List D} (h : heardD way nd gd (.tuple ds) = none) (a : nameD nd' = true) : heardD way nd' gd (.tuple ds) = none := by
  obtain ⟨a1, a2, hf⟩ := hd_none h
  by_cases w2 : way < 2
  · rw [hd_W w2 a1 a2 hf] at h
    rw [hd_W w2 a a2 hf, h]
  · obtain rfl : way = 2 := by omega
    rw [hd_C a1 (a2 (by decide)) hf] at h
    rw [hd_C a (a2 (by decide)) hf]
    cases hc : crowdAt ds with
    | none => rfl
    | some i => rw [hc] at h; cases h
theorem hd_use {way : Nat} (hw : way < 3) {nd gd : D} {ds : List D} (h : heardD way nd gd (.tuple ds) = none) (h7 : (flat ds).length ≤ 7) : heardD way nd gd (.tuple (ds ++ [useD])) = none := by
  obtain ⟨a1, a2, hf⟩ := hd_none h
  have hf2 := fault_use hf h7
  by_cases w2 : way < 2
  · rw [hd_W w2 a1 a2 hf] at h
    rw [hd_W w2 a1 a2 hf2, pieceAt_use, h]
  · obtain rfl : way = 2 := by omega
    rw [hd_C a1 (a2 (by decide)) hf] at h
    rw [hd_C a1 (a2 (by decide)) hf2, crowd_use, h]
theorem eqvAll_len : ∀ as bs : List D, as.length ≠ bs.length → PyData.eqvAll as bs = false
  | [], [], h => absurd rfl h
  | [], _ :: _, _ => by simp [PyData.eqvAll]
  | _ :: _, [], _ => by simp [PyData.eqvAll]
  | a :: as, b :: bs, h => by
    simp only [PyData.eqvAll]
    rw [eqvAll_len as bs (fun e => h (by rw [List.length_cons, List.length_cons, e])), Bool.and_false]
theorem eqv_len {as bs : List D} (h : as.length ≠ bs.length) : PyData.eqv (.tuple as) (.tuple bs) = false := by
  rw [show PyData.eqv (.tuple as) (.tuple bs) = PyData.eqvAll as bs by simp only [PyData.eqv]]
  exact eqvAll_len as bs h
/-- what is given for a name, for a gate -/
def oddN : List D := [.str "", .str "A", .str "a b", .str "abcdefghi", .none, .int 5, .tuple [.str "a"], .bool true, .list [.str "a"]]
def namL : List D := [.str "v", .str "abcdefgh", .str "use"] ++ oddN
def gatL : List D := [.str "a", .str "v", .str "gates"] ++ oddN
def nmOkB (d : D) : Bool := smallD d && goodD d && !d.hasDict && d.showable && decide (d.depth ≤ 40) && decide (d.shown.length ≤ 100) && PyData.canLay0 (nmDt d)
theorem nmOk_of {d : D} (h : nmOkB d = true) : NmOk d := by
  unfold nmOkB at h
  simp only [Bool.and_eq_true, Bool.not_eq_true', decide_eq_true_eq] at h
  obtain ⟨⟨⟨⟨⟨⟨h1, h2⟩, h3⟩, h4⟩, h5⟩, h6⟩, _⟩ := h
  exact ⟨h1, h2, h3, h4, h5, by rw [sizeLine_eq]; omega⟩
theorem namL_ok : (namL ++ gatL).all nmOkB = true := by decide +kernel
theorem nam_of {d : D} (h : d ∈ namL ∨ d ∈ gatL) : nmOkB d = true := List.all_eq_true.mp namL_ok d (List.mem_append.mpr h)
/-- the name that the law gives to another -/
def nextN (nm : Str) : Str := if nm.length < 8 then nm ++ "o" else "o"
theorem name_of {nm : Str} (h : PyData.str nm ∈ namL) (hn : nameD (.str nm) = true) : nm = "v" ∨ nm = "abcdefgh" ∨ nm = "use" := by
  simp only [namL, oddN, List.cons_append, List.nil_append, List.mem_cons, List.mem_nil_iff, or_false, PyData.str.injEq, reduceCtorEq, false_or] at h
  rcases h with h | h | h | rfl | rfl | rfl | rfl
  · exact .inl h
  · exact .inr (.inl h)
  · exact .inr (.inr h)
  all_goals exact absurd hn (by decide +kernel)
theorem next_ok {nm : Str} (h : nm = "v" ∨ nm = "abcdefgh" ∨ nm = "use") : nameD (.str (nextN nm)) = true ∧ nextN nm ≠ nm ∧ nmOkB (.str (nextN nm)) = true ∧ nm.length ≤ 8 ∧ (nextN nm).length ≤ 8 := by
  rcases h with rfl | rfl | rfl <;> decide +kernel
theorem dueD_sh {way : Nat} {nd gd : D} {ds : List D} (h1 : nd ∈ namL) (h2 : gd ∈ gatL) : SeqAt.shaped (dueD6 way nd gd ds) = true := by
  have lay1 : PyData.canLay0 (nmDt nd) = true := by
    have z := nam_of (.inl h1)
    unfold nmOkB at z
    exact (Bool.and_eq_true _ _ ▸ z).2
  have lay2 : PyData.canLay0 (nmDt gd) = true := by
    have z := nam_of (.inr h2)
    unfold nmOkB at z
    exact (Bool.and_eq_true _ _ ▸ z).2
  have it : ∀ r, SeqAt.shaped (itD r) = true := fun r => by
    unfold itD
    cases r <;> exact shaped_of (by simp only [vD, PyData.canLay0, PyData.canLayAll0]; decide +kernel) (by simp only [vD, PyData.depth, PyData.depthAll]; decide)
  unfold dueD6 heardD
  split
  · exact shaped_of lay1 (by show PyData.depth (nmDt nd) ≤ _; simp only [nmDt, PyData.depth, PyData.depthAll]; decide)
  · next hb =>
    split
    · exact shaped_of lay2 (by show PyData.depth (nmDt gd) ≤ _; simp only [nmDt, PyData.depth, PyData.depthAll]; decide)
    · split
      · cases faultW (.tuple ds) with
        | none => rfl
        | some r => exact it r
      · cases faultB (.tuple ds) with
        | some r => exact it r
        | none =>
          cases faultC (.tuple ds) with
          | none => rfl
          | some i =>
            have a1 : nameD nd = true := by
              cases e : nameD nd with
              | true => rfl
              | false => exact absurd e hb
            obtain ⟨nm, rfl⟩ := str_of_name a1
            show SeqAt.shaped (crD (.str nm) i) = true
            rcases name_of h1 a1 with rfl | rfl | rfl <;> exact shaped_of (by simp only [crD, PyData.canLay0, PyData.canLayAll0]; decide +kernel) (by simp only [crD, PyData.depth, PyData.depthAll]; decide)
theorem dueD_nil {way : Nat} {nd gd : D} {ds : List D} : (heardD way nd gd (.tuple ds) = none ∧ PyData.eqv (dueD6 way nd gd ds) (.list []) = true) ∨ (∃ z, heardD way nd gd (.tuple ds) = some z ∧ dueD6 way nd gd ds = z ∧ PyData.eqv (dueD6 way nd gd ds) (.list []) = false) := by
  cases h : heardD way nd gd (.tuple ds) with
  | none => exact .inl ⟨rfl, by unfold dueD6; rw [h]; rfl⟩
  | some z =>
    have e : dueD6 way nd gd ds = z := by unfold dueD6; rw [h]; rfl
    refine .inr ⟨z, rfl, e, ?_⟩
    rw [e]
    unfold heardD at h
    have fin : ∀ d l, z = .list (d :: l) → PyData.eqv z (.list []) = false := fun d l e => by rw [e, eqv_nilL]; rfl
    split at h
    · cases h; exact fin _ _ rfl
    · split at h
      · cases h; exact fin _ _ rfl
      · split at h
        · cases hw : faultW (.tuple ds) with
          | none => rw [hw] at h; cases h
          | some r => rw [hw] at h; cases h; exact fin _ _ rfl
        · cases hb : faultB (.tuple ds) with
          | some r => rw [hb] at h; cases h; exact fin _ _ rfl
          | none =>
            rw [hb] at h
            cases hc : faultC (.tuple ds) with
            | none => rw [hc] at h; cases h
            | some i => rw [hc] at h; cases h; exact fin _ _ rfl
end Tr

/-! P15 -/
/-! ### defs that ask a class's name first -/
namespace Nm
open PySem PySem.Spec PyProof.Rows L2
section
variable {X : Cx} {C : Addr} {n : Str} {pins : List (Addr × Obj)} {σ : LSt} {H : Hp} {s : Shared} {k : Nat} {f : Addr} {fd : FuncData} {ps : List Str} {sp : Sp} {Q : VK} {E : XK}
/-- x == y by an own __eq__, of two of the class -/
theorem cmpBack_ref {u : Value} {s' : Shared} {Q : Value → Shared → Prop} (h : Q u s') (nn : u ≠ .notImplemented) : PySem.W.CmpBack Q u s' := by
  cases u <;> first | exact h | exact (nn rfl).elim
theorem rel_nni {v : V} {u : Value} (r : RelV v u) : u ≠ .notImplemented := by
  rintro rfl
  cases v <;> first | (obtain ⟨_, e⟩ := r; cases e; done) | (cases r; done)
/-- x == y by an own __eq__ -/
def rEqOwn (K : PySem.W.Frag) (C : Addr) (sp : Sp) (E : XK) : R2 := fun x y H Q => ∃ (a dx : Addr) (fs : List (Str × V)) (T : Value), x = .ref a ∧ H a = some (.ins C dx fs) ∧ TyX K H y T ∧ PySem.W.notFirst K C T = true ∧ sp [.ref a, y] H Q E
theorem op_eqOwn {CX : CXT} {K : PySem.W.Frag} (hK : X.K = K) (hs : PySem.W.findIn K (.ref C) "__eq__" = some (some (.ref f))) (hf : PySem.W.isFn K (.ref f) = true) (F : FnOk X.prog X.w K X.mg X.base CX k f fd ps sp) (hr : Room k X.A) (hb : Binds K fd ps []) (hx : Passes CX X E) : OpR X (compareOp .Eq) (rEqOwn K C sp E) := by
  subst hK
  intro pins s σ H x y v u Q I rx ry h
  obtain ⟨a, dx, fs, T, rfl, ha, ty, hn, q⟩ := h
  obtain rfl : v = Value.ref a := rx
  obtain ⟨P, Z, pz, hne⟩ := kit_of I ry ty
  obtain ⟨mA, J, _⟩ := ins_get I.hok ha
  obtain ⟨od, J, _⟩ := J.look
  obtain ⟨m, hF⟩ := I.fr
  have un : X.A.units < cLine := by have := hr.un; omega
  show wpAny _ _ (richCompare .Eq _ _) _ _ _
  refine PySem.W.cmp_K un hF I.ok.mod.kin J (Z.ty _ _ I.kIn pz) hn hs hf (thn (run_fn (us := [.ref a, u]) (vs := [.ref a, y]) F hr hb .nil hx I (.cons rfl (.cons ry .nil)) q) fun r s' z => ?_)
  obtain ⟨v', H', I', rv, qv⟩ := z
  exact cmpBack_ref ⟨v', H', I', rv, qv⟩ (rel_nni rv)
end
end Nm

/-! ### the law's look at a thread -/
namespace Tr
open PySem PySem.Spec PyProof.Rows L2 Rw NdefX SuX
theorem pe_if {X : Cx} {e : Expr} {p : Prop} {t : TE} (h : p → PE X e t) : PE X e (fun σ H Q => p ∧ t σ H Q) := ⟨fun pins s σ H Q I ⟨hp, q⟩ => (h hp).run pins s σ H Q I q⟩
theorem passF {X : Cx} {P : Program} {w : World} : Passes (L2.CX P w) X (fun _ _ _ => False) := fun _ _ _ _ _ _ _ h => by
  obtain ⟨_, _, _, _, _, _, _, _, _, _, _, _, f⟩ := h
  exact f.elim
theorem ne_self (v : V) : (!decide (v = v)) = false := by rw [decide_eq_true rfl]; rfl
theorem ite_or {c : Bool} {A B : Prop} (h : B) (ha : c = true → B → A) : if c = true then A else B := by
  cases c with
  | true => exact (if_pos rfl : (if true = true then A else B) = A).symm ▸ ha rfl h
  | false => exact (if_neg Bool.false_ne_true : (if false = true then A else B) = B).symm ▸ h
theorem ite_to {c : Bool} {A B C : Prop} (h : C) (ha : c = true → C → A) (hb : c = false → C → B) : if c = true then A else B := by
  cases c with
  | true => exact (if_pos rfl : (if true = true then A else B) = A).symm ▸ ha rfl h
  | false => exact (if_neg Bool.false_ne_true : (if false = true then A else B) = B).symm ▸ hb rfl h
def kwd (way : Nat) : Str := if way = 0 then "work" else if way = 1 then "guest" else "crowd"
theorem kinds_at : ∀ {way : Nat}, way < 3 → atI [V.str "work", V.str "guest", V.str "crowd"] (way : Int) = some (.str (kwd way))
  | 0, _ => at0
  | 1, _ => at1
  | 2, _ => at2
/-- what the text has of the threads of one kind -/
structure KindF (P : Program) (w : World) (K : PySem.W.Frag) (mg : Str → Option Value) (cw : Nat → Addr) (cB : Addr) (n way : Nat) : Prop where
  lab : ∃ p g fd, PropOf K (cw way) "label" p g ∧ (∀ base, FnOk P w K mg base CX0 1 g fd ["self"] (getSp (cw way) "_label")) ∧ Binds K fd ["self"] []
  cod : ∃ p g fd, PropOf K (cw way) "code" p g ∧ (∀ base, FnOk P w K mg base CX0 1 g fd ["self"] (getSp (cw way) "_code")) ∧ Binds K fd ["self"] []
  siz : ∃ p g fd, PropOf K (cw way) "size" p g ∧ (∀ base, FnOk P w K mg base CX0 1 g fd ["self"] (spSize K (cw way))) ∧ Binds K fd ["self"] []
  gat : way ≠ 0 → ∃ p g fd, PropOf K (cw way) "gate" p g ∧ (∀ base, FnOk P w K mg base CX0 1 g fd ["self"] (getSp (cw way) "_gate")) ∧ Binds K fd ["self"] []
  knd : ∃ f fd, Meth K (cw way) "kind" f ∧ (∀ base, FnOk P w K mg base CX0 1 f fd ["self"] (spKind (kwd way))) ∧ Binds K fd ["self"] []
  eqf : ∃ f fd, (∀ base, FnOk P w K mg base CX0 3 f fd ["self", "other"] (spEqT K cw cB n way)) ∧ Binds K fd ["self", "other"] [] ∧ OwnEqC K (cw way) cB f
  ne : PySem.W.findIn K (.ref (cw way)) "__ne__" = some (some (.builtin "object.__ne__"))
  ob : PySem.W.subIn K (.ref (cw way)) (.type "object") = some true
  nl : PySem.W.kitOne K (.ref (cw way)) (.type "list") = some false
  nf : PySem.W.notFirst K (cw way) (.type "list") = true ∧ ∀ j, j < 3 → PySem.W.notFirst K (cw way) (.ref (cw j)) = true
/-- not equal -/
def RNo (K : PySem.W.Frag) (cw : Nat → Addr) (cB : Addr) (n way : Nat) : Eqv := fun x y H => ∃ (a : Addr) (nm gt : Str) (v : V) (ds : List D), x = .ref a ∧ IsThr K (cw way) H a v ds (mr way nm gt) ∧ Fits n ds ∧
  (Odd K cw cB H way y ∨ ∃ (b : Addr) (nm' gt' : Str) (v' : V) (ds' : List D), y = .ref b ∧ IsThr K (cw way) H b v' ds' (mr way nm' gt') ∧ Fits n ds' ∧ sameT way nm gt ds nm' gt' ds' = false)
theorem no_of {P : Program} {w : World} {K : PySem.W.Frag} {mg : Str → Option Value} {base : Heap} {CX : CXT} {k : Nat} {f : Addr} {fd : FuncData} {ps : List Str} {cw : Nat → Addr} {cB : Addr} {n way : Nat} (F : FnOk P w K mg base CX k f fd ps (spEqT K cw cB n way)) : FnOk P w K mg base CX k f fd ps (spNo (RNo K cw cB n way)) := by
  refine F.imp fun vs H Q E h => ?_
  obtain ⟨x, y, rfl, ⟨a, nm, gt, v, ds, rfl, ha, ft, h⟩, q⟩ := h
  refine ⟨a, y, nm, gt, v, ds, rfl, ha, ft, ?_⟩
  rcases h with o | ⟨b, nm', gt', v', ds', rfl, hb, ft', e⟩
  · exact .inl ⟨o, q H Ext.rfl'⟩
  · refine .inr ⟨b, nm', gt', v', ds', rfl, hb, ft', ?_⟩
    rw [e]
    exact q H Ext.rfl'
theorem hd_list {way : Nat} {nd gd d z : D} (h : heardD way nd gd d = some z) : ∃ l, z = .list l := by
  unfold heardD at h
  split at h
  · cases h; exact ⟨_, rfl⟩
  · split at h
    · cases h; exact ⟨_, rfl⟩
    · split at h
      · cases hw : faultW d with
        | none => rw [hw] at h; cases h
        | some r => rw [hw] at h; cases h; exact ⟨_, rfl⟩
      · cases hb : faultB d with
        | some r => rw [hb] at h; cases h; exact ⟨_, rfl⟩
        | none =>
          rw [hb] at h
          cases hc : faultC d with
          | none => rw [hc] at h; cases h
          | some i => rw [hc] at h; cases h; exact ⟨_, rfl⟩
def spRt (K : PySem.W.Frag) (n : Nat) : Sp := fun vs H Q _ => ∃ (way : Nat) (v1 v2 v3 : V) (nd gd : D) (ds : List D), vs = [.int way, v1, v2, v3] ∧ way < 3 ∧ Dp K H v1 nd ∧ Dp K H v2 gd ∧ Dp K H v3 (.tuple ds) ∧ nd ∈ namL ∧ gd ∈ gatL ∧ Fits n ds ∧ cntAll ds ≤ 50000 ∧ (ds = [] ∨ (faultL ds = none ∧ (flat ds).length ≤ 7)) ∧
  ∀ H', Same H H' → Q (.bl true) H'
section
variable {P : Program} {w : World} {K : PySem.W.Frag} {mg : Str → Option Value} {base : Heap}
abbrev sRt : Stmt := top 61
theorem scRt : FnScope ["_law_way", "_law_name", "_law_gate", "_law_items", "_law_due_here", "_law_found", "_law_twin", "_law_other", "_law_third", "_law_one"] ["_law_way", "_law_name", "_law_gate", "_law_items"] (defScope sRt) := ⟨rfl, rfl, rfl, by decide +kernel, rfl, by decide +kernel, by decide +kernel⟩
theorem ok_rt {f fD fH fZ fB cB cGt CI : Addr} {cw : Nat → Addr} {nms : Nat → Str} {fd fdD fdH fdZ fdB : FuncData} (F : Fun K "_law_right" "_law_right" sRt f fd) (n : Nat) (hn : n ≤ 39) (hn2 : 2 ≤ n) (T : Thrs K cw cGt cB nms) (KFs : ∀ way, way < 3 → KindF P w K mg cw cB n way)
    (GD : FnOkG P w K mg base CX0 (n + 4) fD fdD ["_law_way", "_law_name", "_law_gate", "_law_items"] (spDue6 K n)) (TD : Called K mg "_law_due" ["_law_way", "_law_name", "_law_gate", "_law_items"] fD fdD)
    (GH : FnOkG P w K mg base CX0 (2 * n + 10) fH fdH ["_law_way", "_law_name", "_law_gate", "_law_items"] (spHd6 K cw (n + 1))) (TH : Called K mg "_law_heard" ["_law_way", "_law_name", "_law_gate", "_law_items"] fH fdH)
    (GZ : FnOk P w K mg base CX0 (n + 2) fZ fdZ ["_law_items"] (spSz K n)) (TZ : Called K mg "_law_size" ["_law_items"] fZ fdZ)
    (gB : mg "Body" = some (.ref cB)) (mB : Mk K cB fB) (GB : FnOk P w K mg base (L2.CX P w) (2 * n + 6) fB fdB ["self", "items"] (spBg K CI (n + 1))) (bB : Binds K fdB ["self", "items"] [])
    (m_isinstance : mg "isinstance" = none) (m_list : mg "list" = none) (m_len : mg "len" = none) (m_range : mg "range" = none) : FnOkG P w K mg base CX0 (2 * n + 12) f fd ["_law_way", "_law_name", "_law_gate", "_law_items"] (spRt K n) := by
  refine F.okG scRt (fun vs H Q E h => ?_) (fun cdv A outer s H vs Q E hgd hr h => ?_)
  · obtain ⟨way, v1, v2, v3, nd, gd, ds, rfl, _⟩ := h
    rfl
  · obtain ⟨way, v1, v2, v3, nd, gd, ds, rfl, hway, h1, h2, h3, n1, n2, ft, cn, gb, q⟩ := h
    have KF := KFs way hway
    have tc := T.tc way hway
    obtain ⟨pL, gL, fdL, PL, FL, bL⟩ := KF.lab
    obtain ⟨pC, gC, fdC, PC, FC, bC⟩ := KF.cod
    obtain ⟨pZ, gZ, fdz, PZ, FZ, bZ⟩ := KF.siz
    obtain ⟨fK, fdK, MK, FK, bK⟩ := KF.knd
    obtain ⟨fE, fdE, FE, bE, EC⟩ := KF.eqf
    refine ⟨_, (pss_cons (ps_asg (pe_tup (pa_cons (pe_callG GD hgd (hr.mono (by first | decide | omega)) rfl TD.1 TD.2.1 TD.2.2 pass0 (pa_cons (pv 0) (pa_cons (pv 1) (pa_cons (pv 2) (pa_cons (pv 3) pa_nil))))) (pa_cons (pe_callG GH hgd (hr.mono (by first | decide | omega)) rfl TH.1 TH.2.1 TH.2.2 pass0 (pa_cons (pv 0) (pa_cons (pv 1) (pa_cons (pv 2) (pa_cons (pv 3) pa_nil))))) pa_nil))) (pg_tup rfl (pgs_cons (pg_name (i := 4) scRt.nd rfl (.inl rfl)) (pgs_cons (pg_name (i := 5) scRt.nd rfl (.inr rfl)) pgs_nil))))
       (pss_cons (ps_if (pt_cmpR (Nm.op_neDK (K := K) rfl hr.units) (pv 4) (pe_lst pa_nil) (nomark _))
       (pss_one (ps_ret (pe_cmpR (Nm.op_eqDK (K := K) rfl hr.units) (pv 5) (pv 4) (nomark _))))
       pss_nil)
       (pss_cons (ps_if (PW.pt (pw_or (pt_val (pe_callB (call_isiKK (K := K) rfl) (by rfl) m_isinstance (by decide +kernel) (pa_cons (pv 5) (pa_cons (pe_bltn (v := .ty "list") (by rfl) m_list (by decide +kernel) rfl) pa_nil)))) (pw_or (pt_cmpR op_ne (pe_prop (pv 5) tc.cl PL (FL _) (hr.mono (by first | decide | omega)) bL .nil pass0 rfl) (pv 1) (nomark _)) (pw_or1 (pt_cmpR op_ne (pe_meth0 (pv 5) tc.cl MK (FK _) (hr.mono (by first | decide | omega)) bK .nil pass0) (pe_ix (ix_listK (K := K) rfl) (pe_lst (pa_cons pe_str (pa_cons pe_str (pa_cons pe_str pa_nil)))) (pv 0) (fun _ _ => rfl)) (nomark _))))))
       (pss_one (ps_ret pe_bl))
       pss_nil)
       (pss_cons (ps_if (PW.pt (pw_or (pt_cmpR (Nm.op_neDK (K := K) rfl hr.units) (pe_prop (pv 5) tc.cl PC (FC _) (hr.mono (by first | decide | omega)) bC .nil pass0 rfl) (pv 3) (nomark _)) (pw_or (pt_cmpR op_ne (pe_prop (pv 5) tc.cl PZ (FZ _) (hr.mono (by first | decide | omega)) bZ .nil pass0 rfl) (pe_call GZ (hr.mono (by first | decide | omega)) rfl TZ.1 TZ.2.1 TZ.2.2 .nil pass0 (pa_cons (pv 3) pa_nil)) (nomark _)) (pw_or1 (PW.pt (pw_and (pt_cmpR op_gt (pv 0) pe_int (nomark _)) (pw_and1 (pt_cmpR op_ne (pe_if fun w0 => (match KF.gat w0 with | ⟨_, _, _, pp, ff, bb⟩ => pe_prop (C := cw way) (sp := getSp (cw way) "_gate") (dvs := []) (E := E0) (pv 5) tc.cl pp (ff _) (hr.mono (by first | decide | omega)) bb .nil pass0 rfl)) (pv 2) (nomark _)))))))))
       (pss_one (ps_ret pe_bl))
       pss_nil)
       (pss_cons (ps_set (i := 6) scRt.nd rfl (.inl rfl) (pe_callG GH hgd (hr.mono (by first | decide | omega)) rfl TH.1 TH.2.1 TH.2.2 pass0 (pa_cons (pv 0) (pa_cons (pv 1) (pa_cons (pv 2) (pa_cons (pv 3) pa_nil))))))
       (pss_cons (ps_set (i := 7) scRt.nd rfl (.inl rfl) (pe_callG GH hgd (hr.mono (by first | decide | omega)) rfl TH.1 TH.2.1 TH.2.2 pass0 (pa_cons (pv 0) (pa_cons (pe_ifExp (pt_cmpR op_lt (pe_callB call_len_str (by rfl) m_len PySem.boot_len (pa_cons (pv 1) pa_nil)) pe_int (nomark _))
       (pe_op op_add_str (pv 1) pe_str)
       pe_str) (pa_cons (pv 2) (pa_cons (pv 3) pa_nil))))))
       (pss_cons (ps_set (i := 8) scRt.nd rfl (.inl rfl) (pe_callG GH hgd (hr.mono (by first | decide | omega)) rfl TH.1 TH.2.1 TH.2.2 pass0 (pa_cons (pv 0) (pa_cons (pv 1) (pa_cons (pv 2) (pa_cons (pe_op op_catA (pv 3) (pe_tup (pa_cons (pe_tup (pa_cons pe_str pa_nil)) pa_nil))) pa_nil))))))
       (pss_cons (ps_if (PW.pt (pw_or (pt_cmpR (op_neOwn (FE _) EC.hs EC.hf KF.ne KF.ob bE pass0 (hr.mono (by first | decide | omega))) (pv 5) (pv 6) (nomark _)) (pw_or1 (pt_cmpR (op_inNo (eqN_own EC (no_of (FE _)) bE pass0) (hr.mono (by first | decide | omega))) (pv 5) (pe_lst (pa_cons (pv 7) (pa_cons (pv 8) (pa_cons (pv 3) (pa_cons (pv 1) (pa_cons pe_non (pa_cons (pe_make mB GB (hr.mono (by first | decide | omega)) rfl gB bB .nil passF (pa_cons (pv 3) pa_nil)) pa_nil))))))) (by rfl)))))
       (pss_one (ps_ret pe_bl))
       pss_nil)
       (pss_one (ps_ret (pe_cmpR (Nm.op_eqDK (K := K) rfl hr.units) (pe_lc (own := [("_law_one", 9)]) (g := gName 9)  (by rfl) scRt.nd (pi_range1 rfl m_range (pa_cons pe_int pa_nil)) (blkOk_by (own := [("_law_one", 9)]) (N := ["_law_way", "_law_name", "_law_gate", "_law_items", "_law_due_here", "_law_found", "_law_twin", "_law_other", "_law_third", "_law_one"]) (sc := defScope sRt) (by decide +kernel)) (fun _ _ _ _ _ => (pg_name (i := 9) scRt.nd rfl (Or.inl rfl))) (fun _ _ _ _ _ => (pts_one (PW.pt (pw_and (pt_cmpR op_ne (pv 9) (pv 0) (nomark _)) (pw_and1 (pt_cmpR (Nm.op_eqOwn (K := K) rfl EC.hs EC.hf (FE _) (hr.mono (by first | decide | omega)) bE pass0) (pv 5) (pe_callG GH hgd (hr.mono (by first | decide | omega)) rfl TH.1 TH.2.1 TH.2.2 pass0 (pa_cons (pv 9) (pa_cons (pv 1) (pa_cons (pv 2) (pa_cons (pv 3) pa_nil))))) (nomark _))))))) (fun _ _ _ _ _ => (pv 9))) (pe_lst pa_nil) (nomark _)))))))))))), ?_⟩
    have nk1 := nmOk_of (nam_of (.inl n1))
    have nk2 := nmOk_of (nam_of (.inr n2))
    have ft1 : FitD (n + 1) (.tuple ds) := FitD.wrap ft (by omega)
    have gb' : goodB ds := gb.imp id And.left
    refine ⟨_, rfl, _, rfl, _, rfl, _, rfl, way, v1, v2, v3, nd, gd, ds, rfl, hway, h1, h2, h3, nk1, nk2, ft, gb', fun H1 r1 s1 d1 => ?_⟩
    have dsh := dueD_sh (way := way) (ds := ds) n1 n2
    rcases dueD_nil (way := way) (nd := nd) (gd := gd) (ds := ds) with ⟨hz, ev⟩ | ⟨z, hz, ez, ev⟩
    · -- a thread is made
      refine ⟨_, rfl, _, rfl, _, rfl, _, rfl, way, v1, v2, v3, nd, gd, .tuple ds, rfl, hway, h1.same s1, h2.same s1, h3.same s1, nk1, nk2, ft1, fun z hz' => (by rw [hz] at hz'; cases hz'), fun _ nm gt ds' e1 e2 e3 H2 f1 s2 nf1 th => ?_⟩
      refine ⟨(by show 2 ≤ sizeLine; decide), fun p np => ?_⟩
      have s3 := same_upd (o := HO.tup [r1, .ref f1]) np
      have hp : (upd H2 p (.tup [r1, .ref f1])) p = some (.tup [r1, .ref f1]) := upd_same
      generalize upd H2 p (.tup [r1, .ref f1]) = H3 at s3 hp
      clear np
      refine ⟨p, _, rfl, SqT.of hp, rfl, _, _, rfl, _, _, rfl, rfl, ?_⟩
      refine ⟨_, rfl, Nat.zero_le _, fun e ne => ?_⟩
      have s4 := same_upd (o := HO.lst []) ne
      refine ⟨dueD6 way nd gd ds, .list [], d1.same (s2.trans (s3.trans s4)), .lst (SqL.of upd_same) .nil, dsh, nilL_shaped, _, rfl, ?_⟩
      rw [ev]
      refine iteF ?_
      generalize upd H3 e (.lst []) = H4 at s4
      clear ne
      have s24 := s3.trans s4
      have s14 := s2.trans s24
      have s04 := s1.trans s14
      clear s3 s4 hp
      have th4 := th.same s24
      subst e1
      cases e3
      cases h1
      have hnm := name_of n1 (hd_none hz).1
      dsimp only [tNext]
      obtain ⟨dx, l1, l2, l3, ys, zs, us, f0, f1', f2, f3, f4', f5, f6, f7⟩ := id th4
      refine ⟨_, rfl, _, _, _, _, _, rfl, .ty _, th4.ty tc (T.cc way hway), KF.nl, _, rfl, ?_⟩
      refine iteF ?_
      refine ⟨_, rfl, f1, dx, _, rfl, f0, f1, dx, _, .str nm, rfl, f0, mr_label way nm gt v3 l1 l2 l3, ?_⟩
      refine ⟨_, rfl, rfl, _, rfl, ?_⟩
      rw [ne_self]
      refine iteF ?_
      refine ⟨_, rfl, f1, dx, _, rfl, f0, mr_no way nm gt v3 l1 l2 l3, f1, rfl, ?_⟩
      refine ⟨(by show 3 ≤ sizeLine; decide), fun k nk => ?_⟩
      have s5 := same_upd (o := HO.lst [.str "work", .str "guest", .str "crowd"]) nk
      refine ⟨_, rfl, k, _, way, .str (kwd way), rfl, rfl, SqL.of upd_same, kinds_at hway, ?_⟩
      refine ⟨rfl, _, rfl, ?_⟩
      rw [ne_self]
      refine iteF ?_
      generalize upd H4 k (.lst [.str "work", .str "guest", .str "crowd"]) = H5 at s5
      clear nk
      have f0' := s5 _ _ f0
      have s05 := s04.trans s5
      dsimp only [tNext]
      have th5 := th4.same s5
      have h3' := h3
      cases h3' with
      | @tup pt xs _ hpt hax =>
      have hf := (hd_none hz).2.2
      obtain ⟨ds0, e0, hc0, h80, _⟩ := fault_tup (d := .tuple ds) hf
      cases e0
      have br : ∀ d ∈ flat ds, BrOk d := fun e he => (br_flat hc0 e he).1
      have shd := fits_sh ft (by omega : n ≤ 40)
      refine ⟨_, rfl, f1, dx, _, rfl, f0', f1, dx, _, .ref pt, rfl, f0', rfl, ?_⟩
      refine ⟨_, rfl, .tuple ds, .tuple ds, h3.same s05, h3.same s05, shd, shd, _, rfl, ?_⟩
      rw [SeqAt.eqv_refl _ (SeqAt.canLay_of_shaped shd)]
      refine iteF ?_
      refine ⟨_, rfl, f1, dx, _, rfl, f0', f1, .ref pt, ds, _, rfl, th5, ?_⟩
      refine ⟨_, rfl, H5, pt, xs, ds, rfl, Same.refl _, s05.tupS hpt, hax.same s05, ft, br, fun H6 s6 => ?_⟩
      refine ⟨rfl, _, rfl, ?_⟩
      rw [ne_self]
      refine iteF ?_
      have s06 := s05.trans s6
      have f06 := s6 _ _ f0'
      have th6 := th5.same s6
      refine ⟨_, rfl, _, _, rfl, rfl, _, rfl, ?_⟩
      refine ite_or ?_ fun hc hB => ?_
      rotate_left
      · have w0 : way ≠ 0 := by
          have := of_decide_eq_true hc
          omega
        obtain rfl : v2 = .str gt := by
          have z := h2
          rw [e2 w0] at z
          cases z
          rfl
        refine ⟨w0, _, rfl, f1, dx, _, rfl, f06, f1, dx, _, .str gt, rfl, f06, mr_gate way w0 nm gt _ l1 l2 l3, _, rfl, rfl, _, rfl, ?_⟩
        rw [ne_self]
        exact hB
      refine iteF ?_
      dsimp only [tNext]
      -- the twin
      refine ⟨_, rfl, _, rfl, _, rfl, _, rfl, way, .str nm, v2, .ref pt, .str nm, gd, .tuple ds, rfl, hway, .str _, h2.same s06, h3.same s06, nk1, nk2, ft1, fun z hz' => (by rw [hz] at hz'; cases hz'), fun _ nm2 gt2 ds2 e1' e2' e3' H7 g1 s7 ng1 th7 => ?_⟩
      cases e1'
      cases e3'
      refine name_in ?_
      dsimp only [tSeq]
      -- the other
      refine ⟨_, rfl, _, rfl, nm, rfl, ?_, _, _, rfl, rfl, _, rfl, ?_⟩
      · have := (next_ok hnm).2.2.2.1
        rw [sizeLine_eq]
        omega
      have nx := next_ok hnm
      have en1 : (nm.length : Int) < 8 → nm ++ "o" = nextN nm := fun h => by
        unfold nextN
        rw [if_pos (by omega)]
      have en2 : ¬ (nm.length : Int) < 8 → ("o" : Str) = nextN nm := fun h => by
        unfold nextN
        rw [if_neg (by omega)]
      have lz : nm.length + ("o" : Str).length ≤ sizeLine := by
        have := nx.2.2.2.1
        rw [sizeLine_eq, show ("o" : Str).length = 1 from rfl]
        omega
      refine ite_to (C := ?C) ?hC ?ha ?hb
      case ha =>
        intro hc hC
        refine ⟨_, rfl, nm, "o", rfl, rfl, lz, ?_⟩
        rw [en1 (of_decide_eq_true hc)]
        exact hC
      case hb =>
        intro hc hC
        rw [en2 (of_decide_eq_false hc)]
        exact hC
      have nk3 := nmOk_of nx.2.2.1
      have hzo := hd_name hway hz nx.1
      have s07 := s06.trans s7
      refine ⟨_, rfl, _, rfl, way, .str (nextN nm), v2, .ref pt, .str (nextN nm), gd, .tuple ds, rfl, hway, .str _, h2.same s07, h3.same s07, nk3, nk2, ft1, fun z hz' => (by rw [hzo] at hz'; cases hz'), fun _ nm3 gt3 ds3 e1' e2b e3' H8 g2 s8 ng2 th8 => ?_⟩
      cases e1'
      cases e3'
      refine name_in ?_
      dsimp only [tSeq]
      -- the third
      have s08 := s07.trans s8
      refine ⟨_, rfl, _, rfl, _, rfl, _, rfl, (by show 1 ≤ sizeLine; decide), fun u nu => ⟨(by show 1 ≤ sizeLine; decide), fun t nt => ?_⟩⟩
      have u1 := same_upd (o := HO.tup [.str "use"]) nu
      have u2 := same_upd (o := HO.tup [.ref u]) nt
      refine cat_any ((s08.trans (u1.trans u2)).tupS hpt) (SqT.of upd_same) ?_ fun H9 p9 s9 hp9 => ?_
      · have z1 := dpl hax
        have z2 := flat_ge ds
        show xs.length + 1 ≤ 1000
        omega
      have h7 : (flat ds).length ≤ 7 := by
        rcases gb with rfl | gb
        · cases hf
        · exact gb.2
      have d9 : Dp K H9 (.ref p9) (.tuple (ds ++ [useD])) := .tup hp9 (dp_app (hax.same (s08.trans (u1.trans (u2.trans s9)))) (.cons (.tup (SqT.of ((u2.trans s9) _ _ upd_same)) (.cons (.str _) .nil)) .nil))
      have s89 := u1.trans (u2.trans s9)
      have s09 := s08.trans s89
      clear u1 u2 s9 nu nt hp9
      have ft3' := fits_use ft cn hn2
      have ft3 : FitD (n + 1) (.tuple (ds ++ [useD])) := FitD.wrap ft3' (by rw [cnt_app]; have e : cntAll [useD] = 2 := by decide +kernel
                                                                            omega)
      have hzu := hd_use hway hz h7
      refine ⟨way, .str nm, v2, .ref p9, .str nm, gd, .tuple (ds ++ [useD]), rfl, hway, .str _, h2.same s09, d9, nk1, nk2, ft3, fun z hz' => (by rw [hzu] at hz'; cases hz'), fun _ nm4 gt4 ds4 e1' e2c e3' H10 g3 s10 ng3 th10 => ?_⟩
      cases e1'
      cases e3'
      refine name_in ?_
      dsimp only [tSeq]
      -- found != twin
      have s010 := s09.trans s10
      have s610 : Same H6 H10 := s7.trans (s8.trans (s89.trans s10))
      have s710 : Same H7 H10 := s8.trans (s89.trans s10)
      have s810 : Same H8 H10 := s89.trans s10
      have thF := th6.same s610
      have thT := th7.same s710
      have thO := th8.same s810
      have nOF : g2 ≠ f1 := fun e => by
        have z := (s7 _ _ f06)
        rw [← e, ng2] at z
        cases z
      have nUF : g3 ≠ f1 := fun e => by
        have z := (s7.trans (s8.trans s89)) _ _ f06
        rw [← e, ng3] at z
        cases z
      have fF := s610 _ _ f06
      obtain ⟨dy, gs, fT⟩ := thT.ins
      have same1 : sameT way nm gt ds nm gt2 ds = true := by
        unfold sameT
        rw [decide_eq_true rfl, SeqAt.eqv_refl _ (SeqAt.canLay_of_shaped shd)]
        by_cases w0 : way = 0
        · rw [decide_eq_true w0]; rfl
        · have e := e2 w0
          rw [e2' w0] at e
          cases e
          rw [decide_eq_true rfl, Bool.or_true]; rfl
      clear s7 s8 s89 s10 th6 th7 th8 ng1 ng2 ng3
      refine ⟨_, rfl, _, rfl, f1, g1, dx, dy, _, gs, rfl, rfl, fF, fT, f1, .ref g1, nm, gt, .ref pt, ds, rfl, thF, ft, .inr ⟨g1, nm, gt2, .ref pt, ds, rfl, thT, ft, _, rfl, _, rfl, ?_⟩⟩
      rw [same1]
      refine iteF ?_
      -- found in [..]
      refine ⟨_, rfl, _, rfl, _, rfl, _, rfl, _, rfl, _, rfl, fun xb dxb nxb ndxb neb => ?_⟩
      have sb0 : Same H10 (upd (upd H10 dxb (.own xb)) xb (.ins cB dxb [])) := fun b o e => by
        rw [upd_ne (ne_of_none e nxb), upd_ne (ne_of_none e ndxb)]
        exact e
      have eb0 : (upd (upd H10 dxb (.own xb)) xb (.ins cB dxb [])) xb = some (.ins cB dxb []) := upd_same
      generalize upd (upd H10 dxb (.own xb)) xb (.ins cB dxb []) = H11 at sb0 eb0
      refine ⟨xb, cB, dxb, .ref pt, .tuple ds, rfl, eb0, T.tB, h3.same (s010.trans sb0), ft1, fun hfb ds' eo H12 b12 thB => ⟨rfl, ?_⟩, fun r hr => (by rw [show faultB (.tuple ds) = none from hf] at hr; cases hr)⟩
      cases eo
      have s12 := left_same sb0 nxb b12
      refine ⟨(by show 6 ≤ sizeLine; decide), fun l nl => ?_⟩
      have s13 := same_upd (o := HO.lst [.ref g2, .ref g3, .ref pt, .str nm, .non, .ref xb]) nl
      have el : (upd H12 l (.lst [.ref g2, .ref g3, .ref pt, .str nm, .non, .ref xb])) l = some (.lst [.ref g2, .ref g3, .ref pt, .str nm, .non, .ref xb]) := upd_same
      generalize upd H12 l (.lst [.ref g2, .ref g3, .ref pt, .str nm, .non, .ref xb]) = H13 at s13 el
      clear nl nxb ndxb b12 sb0 eb0
      have s1013 := s12.trans s13
      have s013 := s010.trans s1013
      have thF3 := thF.same s1013
      have fF3 := s1013 _ _ fF
      have thO3 := thO.same s1013
      have thU3 := th10.same s1013
      have thB3 := thB.same s13
      refine ⟨l, _, rfl, el, fun z hz' H14 x14 => ?_, fun H14 x14 => ?_⟩
      · have x14 : Same H13 H14 := x14
        refine ⟨f1, dx, _, rfl, x14 _ _ fF3, ?_⟩
        have thF4 := thF3.same x14
        simp only [List.mem_cons, List.mem_nil_iff, or_false] at hz'
        rcases hz' with rfl | rfl | rfl | rfl | rfl | rfl
        · refine .inl ?_
          have th := thO3.same x14
          obtain ⟨dz, fz, ez⟩ := th.ins
          refine ⟨g2, dz, fz, rfl, nOF, ez, g2, nextN nm, gt3, .ref pt, ds, rfl, th, ft, .inr ⟨f1, nm, gt, .ref pt, ds, rfl, thF4, ft, ?_⟩⟩
          unfold sameT
          rw [decide_eq_false nx.2.1, Bool.false_and]
        · refine .inl ?_
          have th := thU3.same x14
          obtain ⟨dz, fz, ez⟩ := th.ins
          refine ⟨g3, dz, fz, rfl, nUF, ez, g3, nm, gt4, .ref p9, ds ++ [useD], rfl, th, ft3', .inr ⟨f1, nm, gt, .ref pt, ds, rfl, thF4, ft, ?_⟩⟩
          unfold sameT
          rw [eqv_len (by rw [List.length_append]; show ds.length + 1 ≠ ds.length; omega), Bool.and_false, Bool.and_false]
        · refine .inr (.inr (.inr (.inr ⟨pt, xs, rfl, (s013.trans x14).tupS hpt, f1, nm, gt, .ref pt, ds, rfl, thF4, ft, .inl ?_⟩)))
          exact .ty (T := "tuple") (dp_ty (h3.same (s013.trans x14))) (by decide)
        · refine .inr (.inr (.inr (.inl ⟨nm, rfl, f1, nm, gt, .ref pt, ds, rfl, thF4, ft, .inl ?_⟩)))
          exact .ty (.base (.str nm)) (by decide)
        · refine .inr (.inr (.inl ⟨rfl, f1, nm, gt, .ref pt, ds, rfl, thF4, ft, .inl ?_⟩))
          exact .ty (.base .non) (by decide)
        · refine .inr (.inl ?_)
          have th := thB3.same x14
          obtain ⟨dz, fz, ez⟩ := th.ins
          exact ⟨xb, dz, fz, rfl, ez, f1, nm, gt, .ref pt, ds, rfl, thF4, ft, .inl (.bd th)⟩
      have x14 : Same H13 H14 := x14
      refine ⟨_, rfl, iteF ?_⟩
      have s014 := s013.trans x14
      have thF4 := thF3.same x14
      have fF4 := x14 _ _ fF3
      clear thO3 thU3 thB3 el
      dsimp only [tNext]
      refine ⟨3, rfl, by decide, by decide, fun D nD => lc_range (lo := 0) (n := 3) (fun i H' => Same H14 H' ∧ H' D = some (.lst [])) ⟨same_upd nD, upd_same⟩ ?_ ?_⟩
      · rintro i H15 hi ⟨s15, hD⟩
        refine ⟨rfl, ?_⟩
        rw [Int.zero_add]
        refine ⟨_, rfl, _, rfl, rfl, _, rfl, ?_⟩
        by_cases hiw : i = way
        · subst hiw
          rw [ne_self]
          exact iteF ⟨s15, hD⟩
        · have hne : (!decide (V.int (i : Int) = V.int (way : Int))) = true := by
            rw [decide_eq_false (fun z => hiw (by injection z with z; exact Int.ofNat.inj z))]
            rfl
          rw [hne]
          refine iteT ?_
          have s015 := s014.trans s15
          have thF5 := thF4.same s15
          have fF5 := s15 _ _ fF4
          refine ⟨_, rfl, _, rfl, _, rfl, _, rfl, _, rfl, i, .str nm, v2, .ref pt, .str nm, gd, .tuple ds, rfl, hi, .str _, h2.same s015, h3.same s015, nk1, nk2, ft1, fun z hz' H16 r s16 d16 => ?_, fun hz' nm5 gt5 ds5 e1' e2d e3' H16 r s16 nr th16 => ?_⟩
          · obtain ⟨lz', rfl⟩ := hd_list hz'
            have ty := dp_ty d16
            refine ⟨f1, dx, _, .type "list", rfl, s16 _ _ fF5, ty, KF.nf.1, f1, r, nm, gt, .ref pt, ds, rfl, thF5.same s16, ft, .inl ⟨.ty (T := "list") ty (by decide), ?_⟩⟩
            exact ⟨_, rfl, iteF ⟨s15.trans s16, s16 _ _ hD⟩⟩
          · cases e1'
            cases e3'
            refine ⟨f1, dx, _, .ref (cw i), rfl, s16 _ _ fF5, th16.ty (T.tc i hi) (T.cc i hi), KF.nf.2 i hi, f1, .ref r, nm, gt, .ref pt, ds, rfl, thF5.same s16, ft, .inl ⟨.oth hi hiw th16, ?_⟩⟩
            exact ⟨_, rfl, iteF ⟨s15.trans s16, s16 _ _ hD⟩⟩
      · rintro H15 ⟨s15, hD⟩
        refine ⟨Nat.zero_le _, fun e ne => ?_⟩
        have s16 := same_upd (o := HO.lst []) ne
        refine ⟨.list [], .list [], .lst (SqL.of (s16 _ _ hD)) .nil, .lst (SqL.of upd_same) .nil, nilL_shaped, nilL_shaped, ?_⟩
        rw [eqv_nilL]
        exact q _ (s014.trans (s15.trans s16))
    · -- what is heard is what is due
      refine ⟨_, rfl, _, rfl, _, rfl, _, rfl, way, v1, v2, v3, nd, gd, .tuple ds, rfl, hway, h1.same s1, h2.same s1, h3.same s1, nk1, nk2, ft1, fun z' hz' H2 r2 s2 d2 => ?_, fun hn' => (by rw [hz] at hn'; cases hn')⟩
      rw [hz] at hz'
      cases hz'
      refine ⟨(by show 2 ≤ sizeLine; decide), fun p np => ?_⟩
      have s3 := s2.trans (same_upd (o := HO.tup [r1, r2]) np)
      have d2' := d2.same (same_upd (o := HO.tup [r1, r2]) np)
      have hp : (upd H2 p (.tup [r1, r2])) p = some (.tup [r1, r2]) := upd_same
      generalize upd H2 p (.tup [r1, r2]) = H3 at s3 d2' hp
      refine ⟨p, _, rfl, SqT.of hp, rfl, _, _, rfl, _, _, rfl, rfl, ?_⟩
      refine ⟨_, rfl, Nat.zero_le _, fun e ne => ?_⟩
      have s4 := same_upd (o := HO.lst []) ne
      refine ⟨dueD6 way nd gd ds, .list [], d1.same (s3.trans s4), .lst (SqL.of upd_same) .nil, dsh, nilL_shaped, _, rfl, ?_⟩
      rw [ev]
      refine iteT ?_
      refine ⟨_, rfl, _, rfl, z, dueD6 way nd gd ds, d2'.same s4, d1.same (s3.trans s4), ez ▸ dsh, dsh, ?_⟩
      rw [ez, SeqAt.eqv_refl _ (SeqAt.canLay_of_shaped (ez ▸ dsh))]
      exact q _ (s1.trans (s3.trans s4))
end
end Tr

/-! P16 -/
namespace Tr
open PySem PySem.Spec PyProof.Rows L2 Rw
abbrev sNum : Stmt := top 49
theorem scN : FnScope ["_law_cell", "_law_salt", "_law_sizes", "_law_whole", "_law_left", "_law_result", "_law_k", "_law_one"] ["_law_cell", "_law_salt", "_law_sizes"] (defScope sNum) := ⟨rfl, rfl, rfl, by decide +kernel, rfl, by decide +kernel, by decide +kernel⟩
/-- what the numbers are: as many as the sizes, each below its size -/
def Drawn (sz ns : List Int) : Prop := ns.length = sz.length ∧ ∀ (i : Nat) (n : Int), sz[i]? = some n → ∃ x : Int, ns[i]? = some x ∧ 0 ≤ x ∧ x < n
def spNum (K : PySem.W.Frag) : Sp := fun vs H Q _ => ∃ (cell salt : Int) (a : Addr) (sz : List Int), vs = [.int cell, .int salt, .ref a] ∧ SqL K H a (sz.map V.int) ∧ sz.length ≤ 450 ∧ (∀ n ∈ sz, 1 ≤ n ∧ n < 2 ^ 200) ∧ 0 ≤ salt ∧ salt ≤ 1000000 ∧
  ∀ H' p ns, Same H H' → H p = none → H' p = some (.lst (ns.map V.int)) → Drawn sz ns → Q (.ref p) H'
theorem map_more (ns : List Int) (x : Int) : some (HO.lst (ns.map V.int ++ [V.int x])) = some (HO.lst ((ns ++ [x]).map V.int)) := by
  rw [List.map_append]
  rfl
theorem drawn_more {sz ns : List Int} {i : Nat} {n x : Int} (h : Drawn (sz.take i) ns) (hn : sz[i]? = some n) (x0 : 0 ≤ x) (x1 : x < n) : Drawn (sz.take (i + 1)) (ns ++ [x]) := by
  obtain ⟨h1, h2⟩ := h
  have hi : i < sz.length := by
    obtain ⟨z, _⟩ := List.getElem?_eq_some_iff.mp hn
    exact z
  have e : sz.take (i + 1) = sz.take i ++ [n] := by
    rw [List.take_add_one, hn]
    rfl
  have l1 : (sz.take i).length = i := by
    rw [List.length_take]
    omega
  rw [e]
  refine ⟨by rw [List.length_append, List.length_append, h1]; rfl, fun j m hm => ?_⟩
  by_cases hj : j < i
  · rw [List.getElem?_append_left (by omega)] at hm
    obtain ⟨y, y1, y2⟩ := h2 j m hm
    exact ⟨y, by rw [List.getElem?_append_left (by omega)]; exact y1, y2⟩
  · rw [List.getElem?_append_right (by omega), l1] at hm
    have ej : j = i := by
      obtain ⟨z, _⟩ := List.getElem?_eq_some_iff.mp hm
      simp at z
      omega
    subst ej
    rw [Nat.sub_self] at hm
    have em : n = m := Option.some.inj hm
    subst em
    exact ⟨x, by rw [List.getElem?_append_right (by omega), h1, l1, Nat.sub_self]; rfl, x0, x1⟩
section
variable {P : Program} {w : World} {K : PySem.W.Frag} {mg : Str → Option Value} {base : Heap}
theorem ok_num {f : Addr} {fd : FuncData} {k : Nat} (F : Fun K "_law_numbers" "_law_numbers" sNum f fd) (m_max : mg "max" = none) (m_range : mg "range" = none) (m_len : mg "len" = none) :
    FnOk P w K mg base CX0 (k + 1) f fd ["_law_cell", "_law_salt", "_law_sizes"] (spNum K) := by
  refine F.ok scN (fun vs H Q E h => ?_) (fun cdv A outer s H vs Q E hr h => ?_)
  · obtain ⟨c, s, a, sz, rfl, _⟩ := h
    rfl
  · obtain ⟨cell, salt, a, sz, rfl, hS, hlen, hsz, hs0, hs1, q⟩ := h
    refine ⟨_, (pss_cons (ps_set (i := 3) scN.nd rfl (.inl rfl) (pe_callB (call_max2 rfl) (by rfl) m_max (by decide +kernel) (pa_cons (pv 0) (pa_cons (pe_op op_sub (pe_un un_neg pe_int) (pv 0)) pa_nil))))
       (pss_cons (ps_set (i := 4) scN.nd rfl (.inl rfl) (pv 3))
       (pss_cons (ps_set (i := 5) scN.nd rfl (.inl rfl) (pe_lst pa_nil))
       (pss_cons (ps_for PassesOwn.never rfl (pi_range1 rfl m_range (pa_cons (pe_callB call_len_seq (by rfl) m_len PySem.boot_len (pa_cons (pv 2) pa_nil)) pa_nil)) (pg_name (i := 6) scN.nd rfl (.inl rfl))
       (pss_one (ps_if (PW.pt (pw_and (pt_cmpR op_ge (pv 3) (pe_op op_pow pe_int pe_int) (nomark _)) (pw_and1 (pt_cmpR op_gt (pv 4) pe_int (nomark _)))))
       (pss_cons (ps_expr (pe_bm PySem.F.plainAttrs_list PySem.F.slot_list_append PySem.F.type_list_append mt_append (pv 5) (pa_cons (pe_op op_modN (pv 4) (pe_ix ix_list (pv 2) (pv 6) (fun _ _ => rfl))) pa_nil)))
       (pss_one (ps_set (i := 4) scN.nd rfl (.inl rfl) (pe_op op_fdivW (pv 4) (pe_ix ix_list (pv 2) (pv 6) (fun _ _ => rfl))))))
       (pss_cons (ps_set (i := 7) scN.nd rfl (.inl rfl) (pe_op op_mod (pe_op op_pow (pe_op op_add (pe_op op_add (pe_op op_mod (pv 3) pe_int) (pe_op op_mul pe_int (pv 1))) pe_int) pe_int) pe_int))
       (pss_cons (ps_set (i := 7) scN.nd rfl (.inl rfl) (pe_op op_mod (pe_op op_mul (pe_op op_add (pv 7) (pe_op op_mul pe_int (pe_op op_add (pv 6) pe_int))) (pe_op op_add (pv 6) pe_int)) pe_int))
       (pss_cons (ps_set (i := 7) scN.nd rfl (.inl rfl) (pe_op op_mod (pe_op op_mul (pe_op op_mod (pe_op op_pow (pv 7) pe_int) pe_int) pe_int) pe_int))
       (pss_one (ps_expr (pe_bm PySem.F.plainAttrs_list PySem.F.slot_list_append PySem.F.type_list_append mt_append (pv 5) (pa_cons (pe_op op_modN (pe_op op_fdiv (pv 7) pe_int) (pe_ix ix_list (pv 2) (pv 6) (fun _ _ => rfl))) pa_nil))))))))))
       (pss_one (ps_ret (pv 5))))))), ?_⟩
    -- whole
    refine ⟨_, rfl, _, rfl, _, rfl, _, _, rfl, rfl, _, _, rfl, ?_⟩
    generalize hwh : (if -1 - cell > cell then -1 - cell else cell) = whole
    -- left
    refine ⟨_, rfl, ?_⟩
    -- result
    refine ⟨Nat.zero_le _, fun o no => ?_⟩
    have s1 : Same H (upd H o (.lst [])) := same_upd no
    -- range(len(sizes))
    refine ⟨_, rfl, a, _, rfl, .inl (s1.seq hS), _, rfl, ?_, ?_, ?_⟩
    · omega
    · rw [List.length_map]; omega
    have hw : 0 ≤ whole := by
      rw [← hwh]
      split <;> omega
    refine for_range (lo := 0) (n := (((sz.map V.int).length : Nat) : Int).toNat)
      (fun i σ H' => ∃ (left : Int) (ns : List Int) (v6 v7 : Option V), σ = [some (.int cell), some (.int salt), some (.ref a), some (.int whole), some (.int left), some (.ref o), v6, v7] ∧ 0 ≤ left ∧ Same H H' ∧
        H' o = some (.lst (ns.map V.int)) ∧ Drawn (sz.take i) ns)
      ⟨whole, [], none, none, rfl, hw, s1, upd_same, rfl, fun i n e => by simp at e⟩ ?_ ?_
    · rintro i σ H' hi ⟨left, ns, v6, v7, rfl, hl, sm, ho, hd⟩
      have hi' : i < sz.length := by
        rw [List.length_map] at hi
        omega
      have hSi : SqL K H' a (sz.map V.int) := sm.seq hS
      obtain ⟨n, hn⟩ : ∃ n, sz[i]? = some n := ⟨_, List.getElem?_eq_getElem hi'⟩
      obtain ⟨n1, n2⟩ := hsz n (List.mem_of_getElem? hn)
      have hat : atI (sz.map V.int) ((0 : Int) + i) = some (V.int n) := by
        rw [Int.zero_add]
        refine atI_nat ?_
        rw [List.getElem?_map, hn]
        rfl
      have more : ∀ x, 0 ≤ x → x < n → Drawn (sz.take (i + 1)) (ns ++ [x]) := fun x x0 x1 => drawn_more hd hn x0 x1
      have nsl : ns.length = i := by
        have z := hd.1
        rw [List.length_take] at z
        omega
      have room : (ns.map V.int).length < sizeLine := by
        rw [List.length_map]
        exact small1000 (by omega)
      have stay : ∀ u, Same H (upd H' o u) := fun u b z e => by
        rw [upd_ne (ne_of_none e no)]
        exact sm b z e
      -- whole >= 10 ** 18 and left > 0
      refine ⟨_, rfl, _, _, rfl, rfl, ⟨by decide, by decide, by decide⟩, _, _, rfl, rfl, _, rfl, ?_⟩
      refine ite2 (fun c1 => ?_) (fun c1 => ?_)
      · refine ⟨_, rfl, _, _, rfl, rfl, _, rfl, ite2 (fun c2 => ?_) (fun c2 => ?_)⟩
        · refine ⟨_, rfl, .inl ⟨rfl, _, .inl (.inl ho)⟩, _, rfl, _, rfl, _, rfl, a, _, _, _, rfl, rfl, hSi, hat, _, _, rfl, rfl, (by omega), o, _, _, rfl, rfl, ho, room, ?_⟩
          refine ⟨_, rfl, _, rfl, _, rfl, a, _, _, _, rfl, rfl, (stay _).seq hS, hat, _, _, rfl, rfl, wide_div (by omega) (b := 200) (by omega) (by decide) (by decide), ?_⟩
          exact ⟨left / n, _, _, _, rfl, Int.ediv_nonneg hl (by omega), stay _, by rw [upd_same, map_more], more _ (Int.fmod_nonneg_of_pos _ (by omega)) (Int.fmod_lt_of_pos _ (by omega))⟩
        · refine ⟨_, rfl, _, _, rfl, rfl, (by show (0 : Int) < 2147483629; decide), _, rfl, _, _, rfl, rfl, .inl ⟨by decide, by decide⟩, _, _, rfl, rfl, _, _, rfl, rfl, _, _, rfl, rfl, ⟨by decide, by decide, by omega⟩, _, _, rfl, rfl, (by show (0 : Int) < 2147483647; decide), ?_⟩
          refine ⟨_, rfl, _, rfl, _, _, rfl, rfl, _, _, rfl, rfl, .inl ⟨by decide, by decide⟩, _, _, rfl, rfl, _, rfl, _, _, rfl, rfl, _, _, rfl, rfl, .inr ⟨by omega, by omega⟩, _, _, rfl, rfl, (by show (0 : Int) < 2147483629; decide), ?_⟩
          refine ⟨_, rfl, _, _, rfl, rfl, ⟨by decide, by decide, by omega⟩, _, _, rfl, rfl, (by show (0 : Int) < 2147483647; decide), _, _, rfl, rfl, .inr ⟨by decide, by decide⟩, _, _, rfl, rfl, (by show (0 : Int) < 2147483629; decide), ?_⟩
          refine ⟨_, rfl, .inl ⟨rfl, _, .inl (.inl ho)⟩, _, rfl, _, _, rfl, rfl, ⟨by decide, by decide⟩, _, rfl, _, rfl, a, _, _, _, rfl, rfl, hSi, hat, _, _, rfl, rfl, (by omega), o, _, _, rfl, rfl, ho, room, ?_⟩
          exact ⟨left, _, _, _, rfl, hl, stay _, by rw [upd_same, map_more], more _ (Int.fmod_nonneg_of_pos _ (by omega)) (Int.fmod_lt_of_pos _ (by omega))⟩
      · refine ⟨_, rfl, _, _, rfl, rfl, (by show (0 : Int) < 2147483629; decide), _, rfl, _, _, rfl, rfl, .inl ⟨by decide, by decide⟩, _, _, rfl, rfl, _, _, rfl, rfl, _, _, rfl, rfl, ⟨by decide, by decide, by omega⟩, _, _, rfl, rfl, (by show (0 : Int) < 2147483647; decide), ?_⟩
        refine ⟨_, rfl, _, rfl, _, _, rfl, rfl, _, _, rfl, rfl, .inl ⟨by decide, by decide⟩, _, _, rfl, rfl, _, rfl, _, _, rfl, rfl, _, _, rfl, rfl, .inr ⟨by omega, by omega⟩, _, _, rfl, rfl, (by show (0 : Int) < 2147483629; decide), ?_⟩
        refine ⟨_, rfl, _, _, rfl, rfl, ⟨by decide, by decide, by omega⟩, _, _, rfl, rfl, (by show (0 : Int) < 2147483647; decide), _, _, rfl, rfl, .inr ⟨by decide, by decide⟩, _, _, rfl, rfl, (by show (0 : Int) < 2147483629; decide), ?_⟩
        refine ⟨_, rfl, .inl ⟨rfl, _, .inl (.inl ho)⟩, _, rfl, _, _, rfl, rfl, ⟨by decide, by decide⟩, _, rfl, _, rfl, a, _, _, _, rfl, rfl, hSi, hat, _, _, rfl, rfl, (by omega), o, _, _, rfl, rfl, ho, room, ?_⟩
        exact ⟨left, _, _, _, rfl, hl, stay _, by rw [upd_same, map_more], more _ (Int.fmod_nonneg_of_pos _ (by omega)) (Int.fmod_lt_of_pos _ (by omega))⟩
    · rintro σ H' ⟨left, ns, v6, v7, rfl, hl, sm, ho, hd⟩
      have e : (((sz.map V.int).length : Nat) : Int).toNat = sz.length := by
        rw [List.length_map]
        omega
      rw [e, List.take_length] at hd
      exact ⟨_, rfl, q H' o ns sm no ho hd⟩
end

def spPool4 (K : PySem.W.Frag) : Sp := fun vs H Q _ => ∃ (cell salt many : Int), vs = [.int cell, .int salt, .int many] ∧ 0 ≤ salt ∧ salt ≤ 1000000 ∧ 0 ≤ many ∧ many ≤ 420 ∧ ∀ H' o q, Same H H' → H o = none → PoolAt H' o q → Q (.ref o) H'
section
variable {P : Program} {w : World} {K : PySem.W.Frag} {mg : Str → Option Value} {base : Heap}
abbrev sPool : Stmt := top 50
theorem scPool : FnScope ["_law_cell", "_law_salt", "_law_many"] ["_law_cell", "_law_salt", "_law_many"] (defScope sPool) := ⟨rfl, rfl, rfl, by decide +kernel, rfl, by decide +kernel, by decide +kernel⟩
theorem ok_pool {f fN : Addr} {fd fdN : FuncData} (F : Fun K "_law_pool" "_law_pool" sPool f fd) (GN : FnOk P w K mg base CX0 1 fN fdN ["_law_cell", "_law_salt", "_law_sizes"] (spNum K)) (TN : Called K mg "_law_numbers" ["_law_cell", "_law_salt", "_law_sizes"] fN fdN) :
    FnOk P w K mg base CX0 2 f fd ["_law_cell", "_law_salt", "_law_many"] (spPool4 K) := by
  refine F.ok scPool (fun vs H Q E h => ?_) (fun cdv A outer s H vs Q E hr h => ?_)
  · obtain ⟨cell, salt, many, rfl, _⟩ := h
    rfl
  · obtain ⟨cell, salt, many, rfl, h1, h2, h3, h4, q⟩ := h
    refine ⟨_, (pss_one (ps_ret (pe_lst (pa_cons (pe_call GN (hr.mono (by first | decide | omega)) rfl TN.1 TN.2.1 TN.2.2 .nil pass0 (pa_cons (pv 0) (pa_cons (pv 1) (pa_cons (pe_op op_rep (pe_lst (pa_cons pe_int pa_nil)) (pv 2)) pa_nil)))) (pa_cons pe_int pa_nil))))), ?_⟩
    refine ⟨_, rfl, _, rfl, by show 1 ≤ sizeLine; decide, fun z nz => ?_⟩
    have s1 := same_upd (o := HO.lst [V.int 420]) nz
    refine ⟨_, rfl, z, many, _, rfl, rfl, upd_same, by omega, by omega, ?_, fun y ny => ?_⟩
    · rw [sizeLine_eq]
      show 1 * many.toNat ≤ _
      omega
    have e0 : (List.replicate many.toNat [V.int 420]).flatten = (List.replicate many.toNat (420 : Int)).map V.int := by
      rw [List.map_replicate]
      induction many.toNat with
      | zero => rfl
      | succ n ih => rw [List.replicate_succ, List.replicate_succ, List.flatten_cons, ih]; rfl
    rw [e0]
    have s2 := same_upd (o := HO.lst ((List.replicate many.toNat (420 : Int)).map V.int)) ny
    refine ⟨cell, salt, y, _, rfl, SqL.of upd_same, by rw [List.length_replicate]; omega, fun n hn => ?_, h1, h2, fun H' p ns s3 _ hp dr => ?_⟩
    · rw [List.eq_of_mem_replicate hn]
      exact ⟨by decide, by decide⟩
    refine ⟨by show 2 ≤ sizeLine; decide, fun o no => ?_⟩
    have s4 := same_upd (o := HO.lst [V.ref p, V.int 0]) no
    have st := ((s1.trans s2).trans s3)
    have np : p ≠ o := ne_of_none hp no
    refine q _ o p (st.trans s4) (st.free no) ⟨0, ns, upd_same, np, s4 _ _ hp, ?_, fun n hn => ?_⟩
    · rw [dr.1, List.length_replicate]
      omega
    · obtain ⟨i, hi⟩ := List.getElem?_of_mem hn
      have hi2 : i < ns.length := (List.getElem?_eq_some_iff.mp hi).1
      have hi3 : i < (List.replicate many.toNat (420 : Int)).length := by rw [← dr.1]; exact hi2
      obtain ⟨x, x1, x2, x3⟩ := dr.2 i 420 (by rw [List.getElem?_eq_getElem hi3, List.getElem_replicate])
      rw [hi] at x1
      cases x1
      exact ⟨x2, by omega⟩
abbrev sDraw : Stmt := top 51
theorem scDraw : FnScope ["_law_pool_here", "_law_many", "_law_at"] ["_law_pool_here", "_law_many"] (defScope sDraw) := ⟨rfl, rfl, rfl, by decide +kernel, rfl, by decide +kernel, by decide +kernel⟩
theorem ok_draw {f : Addr} {fd : FuncData} (F : Fun K "_law_draw" "_law_draw" sDraw f fd) (m_len : mg "len" = none) (m_int : mg "int" = none) : FnOk P w K mg base CX0 1 f fd ["_law_pool_here", "_law_many"] (spDraw K) := by
  refine F.ok scDraw (fun vs H Q E h => ?_) (fun cdv A outer s H vs Q E hr h => ?_)
  · obtain ⟨o, q, many, rfl, _⟩ := h
    rfl
  · obtain ⟨o, p, many, rfl, ⟨at_, ns, ho, np, hp, hl, hn⟩, m1, m2, q⟩ := h
    refine ⟨_, (pss_cons (ps_set (i := 2) scDraw.nd rfl (.inl rfl) (pe_ix (ix_listK (K := K) rfl) (pv 0) pe_int (fun _ _ => rfl)))
       (pss_cons (ps_asg (pe_op op_add (pv 2) pe_int) (pg_sub (pv 0) pe_int set_list))
       (pss_one (ps_ret (pe_ifExp (pt_cmpR op_lt (pv 2) (pe_callB (call_len_K (K := K) rfl) (by rfl) m_len PySem.boot_len (pa_cons (pe_ix (ix_listK (K := K) rfl) (pv 0) pe_int (fun _ _ => rfl)) pa_nil)) (nomark _))
       (pe_op op_modN (pe_callTy call_int1 (by rfl) m_int (by decide +kernel) (pa_cons (pe_ix (ix_listK (K := K) rfl) (pe_ix (ix_listK (K := K) rfl) (pv 0) pe_int (fun _ _ => rfl)) (pv 2) (fun _ _ => rfl)) pa_nil)) (pv 1))
       pe_int))))), ?_⟩
    refine ⟨_, rfl, o, _, _, _, rfl, rfl, SqL.of ho, rfl, ?_⟩
    refine ⟨_, rfl, _, _, rfl, rfl, _, rfl, o, _, 1, 1, rfl, rfl, ho, rfl, ?_⟩
    have e1 : (upd H o (.lst ([V.ref p, V.int (at_ : Nat)].set 1 (.int ((at_ : Int) + 1))))) o = some (.lst [.ref p, .int ((at_ + 1 : Nat) : Int)]) := upd_same
    have b1 : SameBut o H (upd H o (.lst ([V.ref p, V.int (at_ : Nat)].set 1 (.int ((at_ : Int) + 1))))) := but_upd
    generalize upd H o (.lst ([V.ref p, V.int (at_ : Nat)].set 1 (.int ((at_ : Int) + 1)))) = H1 at e1 b1
    have hp1 := b1 _ _ np hp
    have P1 : PoolAt H1 o p := ⟨at_ + 1, ns, e1, np, hp1, hl, hn⟩
    refine ⟨_, rfl, _, rfl, o, _, _, _, rfl, rfl, SqL.of e1, rfl, p, _, rfl, .inl (SqL.of hp1), _, _, rfl, rfl, _, rfl, ?_⟩
    by_cases h : ((at_ : Nat) : Int) < ((ns.map V.int).length : Nat)
    · rw [decide_eq_true h]
      refine iteT ?_
      rw [List.length_map] at h
      have hi : at_ < ns.length := by omega
      have hx : (ns.map V.int)[at_]? = some (V.int ns[at_]) := by rw [List.getElem?_map, List.getElem?_eq_getElem hi]; rfl
      refine ⟨_, rfl, o, _, _, _, rfl, rfl, SqL.of e1, rfl, _, rfl, p, _, _, _, rfl, rfl, SqL.of hp1, atI_nat hx, ?_⟩
      refine .inl ⟨_, rfl, _, rfl, _, _, rfl, rfl, by omega, ?_⟩
      exact q H1 _ b1 P1 (Int.fmod_nonneg_of_pos _ (by omega)) (Int.fmod_lt_of_pos _ (by omega))
    · rw [decide_eq_false h]
      exact iteF (q H1 0 b1 P1 (Int.le_refl _) (by omega))
abbrev sPick : Stmt := top 52
theorem scPick : FnScope ["_law_pool_here", "_law_some"] ["_law_pool_here", "_law_some"] (defScope sPick) := ⟨rfl, rfl, rfl, by decide +kernel, rfl, by decide +kernel, by decide +kernel⟩
theorem ok_pick {f fD : Addr} {fd fdD : FuncData} (F : Fun K "_law_pick" "_law_pick" sPick f fd) (GD : FnOk P w K mg base CX0 1 fD fdD ["_law_pool_here", "_law_many"] (spDraw K)) (TD : Called K mg "_law_draw" ["_law_pool_here", "_law_many"] fD fdD) (m_len : mg "len" = none) : FnOk P w K mg base CX0 2 f fd ["_law_pool_here", "_law_some"] (spPick K) := by
  refine F.ok scPick (fun vs H Q E h => ?_) (fun cdv A outer s H vs Q E hr h => ?_)
  · obtain ⟨o, q, l, xs, rfl, _⟩ := h
    rfl
  · obtain ⟨o, pq, l, xs, rfl, hp, n, hx, ne, hz, q⟩ := h
    refine ⟨_, (pss_one (ps_ret (pe_ix (ix_listK (K := K) rfl) (pv 1) (pe_call GD (hr.mono (by first | decide | omega)) rfl TD.1 TD.2.1 TD.2.2 .nil pass0 (pa_cons (pv 0) (pa_cons (pe_callB (call_len_K (K := K) rfl) (by rfl) m_len PySem.boot_len (pa_cons (pv 1) pa_nil)) pa_nil))) (fun _ _ => rfl)))), ?_⟩
    have hpos : 0 < xs.length := List.length_pos_iff.mpr ne
    refine ⟨_, rfl, _, rfl, _, rfl, l, xs, rfl, .inl hx, o, pq, _, rfl, hp, by omega, by omega, fun H' i b hp' i0 i1 => ?_⟩
    have hi : i.toNat < xs.length := by omega
    refine ⟨l, xs, i, xs[i.toNat], rfl, rfl, Rw.sqL_but b n hx, ?_, q H' _ b hp' (List.getElem_mem hi)⟩
    have e : i = ((i.toNat : Nat) : Int) := by omega
    have z := atI_nat (xs := xs) (List.getElem?_eq_getElem hi)
    rw [← e] at z
    exact z
end
end Tr

/-! P17 -/
/-! ### what the law draws for a body -/
namespace Tr
open PySem PySem.Spec PyProof.Rows L2 Rw NdefX SuX
def crowdL : List D := [.tuple [.str "use"], .tuple [.str "start", .str "v"], .tuple [.str "start", .str "w"]]
def onesL : List D := crowdL ++ [.tuple [.str "cancel", .str "v"], .tuple [.str "cancel", .str "w"], .tuple [.str "set", .str "f"], .tuple [.str "clear", .str "f"]]
def tL : D := .tuple [.str "take", .str "l"]
def gL : D := .tuple [.str "give", .str "l"]
def t1D (x : D) : D := .tuple [.str "test", .str "f", .tuple [x], .tuple []]
def t2D (x : D) : D := .tuple [.str "test", .str "f", .tuple [], .tuple [x]]
def p1D (x : D) : D := .tuple [.str "piece", .str "l", .tuple [x]]
def chD (x : D) : D := .tuple [.str "choose", .tuple [x], .tuple []]
structure Lf (x : D) : Prop where
  fk : forkOf x = none
  sh : ∀ a, shaped x a = true
  wk : ∀ ar, wlk x ar = []
  good : goodD x = true
  dep : x.depth ≤ 1
  cnt : cntD x ≤ 3
  nt : wD x ≠ "take"
  ng : wD x ≠ "give"
  np : wD x ≠ "piece"
theorem lf1 : Lf (.tuple [.str "use"]) := ⟨by decide +kernel, fun a => by rw [shaped]; decide +kernel, fun ar => by rw [wlk] <;> intros <;> simp_all, by decide +kernel, by decide +kernel, by decide +kernel, by decide +kernel, by decide +kernel, by decide +kernel⟩
theorem lf2 {w n : Str} (h : (w, n) ∈ [(("start" : Str), ("v" : Str)), ("start", "w"), ("cancel", "v"), ("cancel", "w"), ("set", "f"), ("clear", "f")]) : Lf (.tuple [.str w, .str n]) := by
  simp only [List.mem_cons, List.mem_nil_iff, or_false, Prod.mk.injEq] at h
  rcases h with ⟨rfl, rfl⟩ | ⟨rfl, rfl⟩ | ⟨rfl, rfl⟩ | ⟨rfl, rfl⟩ | ⟨rfl, rfl⟩ | ⟨rfl, rfl⟩
  all_goals exact ⟨by decide +kernel, fun a => by rw [shaped]; decide +kernel, fun ar => by rw [wlk] <;> intros <;> simp_all, by decide +kernel, by decide +kernel, by decide +kernel, by decide +kernel, by decide +kernel, by decide +kernel⟩
theorem lf_of {x : D} (h : x ∈ onesL) : Lf x := by
  simp only [onesL, crowdL, List.cons_append, List.nil_append, List.mem_cons, List.mem_nil_iff, or_false] at h
  rcases h with rfl | rfl | rfl | rfl | rfl | rfl | rfl
  · exact lf1
  all_goals exact lf2 (by decide +kernel)
theorem cr_word {x : D} (h : x ∈ crowdL) : wordIn x = true := by
  simp only [crowdL, List.mem_cons, List.mem_nil_iff, or_false] at h
  rcases h with rfl | rfl | rfl <;> decide +kernel
section
variable {x : D} (h : Lf x)
include h
theorem Lf.flat : flat [x] = [x] := by
  rw [Tr.flat, Tr.flat, (fork_none h.fk).1]
  rfl
theorem Lf.misl (a : Nat) : misl [x] a = [false] := by
  rw [Tr.misl, Tr.misl, h.sh, if_pos rfl, (fork_none h.fk).2.1]
  rfl
theorem Lf.isWr (l : List D) (t : List Str) : isWr x l [] t = false := by
  unfold Tr.isWr
  rw [if_neg h.ng, if_neg h.nt, decide_eq_false h.np, Bool.false_and]
theorem Lf.wl (t : List Str) : wl [x] t [] = [false] := by
  rw [Tr.wl, Tr.wl, h.isWr, h.wk]
  rfl
end
/-- one item that stands alone -/
structure Sg (d : D) : Prop where
  good : goodD d = true
  dep : d.depth ≤ 6
  cnt : cntD d ≤ 20
  ms : ∀ b ∈ misl [d] 0, b = false
  nt : wD d ≠ "take"
  ng : wD d ≠ "give"
  wr : ∀ l, isWr d l [] [] = false
  wk : ∀ b ∈ wlk d [], b = false
  len : (flat [d]).length ≤ 2
theorem nil_facts : flat [] = [] ∧ (∀ a, misl [] a = []) ∧ ∀ t ar, wl [] t ar = [] := ⟨by rw [flat], fun a => by rw [misl], fun t ar => by rw [wl]⟩
theorem sg_one {x : D} (h : Lf x) : Sg x := ⟨h.good, Nat.le_trans h.dep (by decide), Nat.le_trans h.cnt (by decide), fun b hb => (by rw [h.misl] at hb; simpa using hb), h.nt, h.ng, fun l => h.isWr l [], fun b hb => (by rw [h.wk] at hb; cases hb), by rw [h.flat]; exact Nat.le_of_ble_eq_true rfl⟩
theorem one_bounds {x : D} (h : Lf x) : goodAll [x] = true ∧ PyData.depthAll [x] ≤ 1 ∧ cntAll [x] ≤ 3 := by
  refine ⟨?_, ?_, ?_⟩
  · rw [goodAll, h.good]; rfl
  · have := h.dep
    rw [PyData.depthAll, PyData.depthAll]; omega
  · have := h.cnt
    rw [cntAll, cntAll]; omega
theorem sg_of_fork {d : D} {y z : List D} (f : forkOf d = some (y, z)) (hs : shaped d 0 = true) (hw : wlk d [] = wl y [] [] ++ wl z [] []) (gd : goodD d = true) (dp : d.depth ≤ 6) (ct : cntD d ≤ 20) (nt : wD d ≠ "take") (ng : wD d ≠ "give") (np : wD d ≠ "piece")
    (my : ∀ b ∈ misl y 1, b = false) (mz : ∀ b ∈ misl z 1, b = false) (wy : ∀ b ∈ wl y [] [], b = false) (wz : ∀ b ∈ wl z [] [], b = false) (ln : (flat y).length + (flat z).length ≤ 1) : Sg d := by
  obtain ⟨f1, f2, _⟩ := fork_some f
  refine ⟨gd, dp, ct, ?_, nt, ng, fun l => ?_, ?_, ?_⟩
  · intro b hb
    rw [misl, misl, hs, if_pos rfl, f2] at hb
    simp only [Bool.not_true, List.append_nil, List.mem_cons, List.mem_append] at hb
    rcases hb with rfl | hb | hb
    · rfl
    · exact my b hb
    · exact mz b hb
  · unfold isWr
    rw [if_neg ng, if_neg nt, decide_eq_false np, Bool.false_and]
  · intro b hb
    rw [hw] at hb
    exact (List.mem_append.mp hb).elim (wy b) (wz b)
  · rw [flat, flat, f1, List.append_nil, List.length_cons, List.length_append]
    omega
theorem all_f {bs : List Bool} (e : bs = [false] ∨ bs = []) : ∀ b ∈ bs, b = false := by
  rcases e with rfl | rfl
  · intro b hb; simpa using hb
  · intro b hb; cases hb
section
variable {x : D} (h : Lf x)
include h
theorem dp2 {y z : List D} {n : D} {w : Str} (e : (y = [x] ∧ z = []) ∨ (y = [] ∧ z = [x])) (gn : goodD n = true) (gw : goodD (.str w) = true) (hd : n.depth ≤ 0) (hc : cntD n ≤ 1) : goodD (.tuple [.str w, n, .tuple y, .tuple z]) = true ∧ (PyData.tuple [.str w, n, .tuple y, .tuple z]).depth ≤ 4 ∧ cntD (.tuple [.str w, n, .tuple y, .tuple z]) ≤ 10 := by
  obtain ⟨o1, o2, o3⟩ := one_bounds h
  rcases e with ⟨rfl, rfl⟩ | ⟨rfl, rfl⟩ <;>
    exact ⟨by simp only [goodD, goodAll, Bool.and_true] at *; simp_all, by simp only [PyData.depth, PyData.depthAll] at *; omega, by simp only [cntD, cntAll] at *; omega⟩
theorem sg_t1 : Sg (t1D x) := by
  obtain ⟨g, d, c⟩ := dp2 h (n := .str "f") (w := "test") (.inl ⟨rfl, rfl⟩) (by decide +kernel) (by decide +kernel) (by simp [PyData.depth]) (by simp [cntD])
  refine sg_of_fork (y := [x]) (z := []) rfl ?_ ?_ g (Nat.le_trans d (by decide)) (Nat.le_trans c (by decide)) (by show ("test" : Str) ≠ "take"; decide +kernel) (by show ("test" : Str) ≠ "give"; decide +kernel) (by show ("test" : Str) ≠ "piece"; decide +kernel) (all_f (.inl (h.misl 1))) (all_f (.inr (nil_facts.2.1 _))) (all_f (.inl (h.wl []))) (all_f (.inr (nil_facts.2.2 _ _))) ?_
  · unfold t1D
    rw [shaped]
    show (decide (("test" : Str) ≠ "use") && !decide (("test" : Str) ∈ plain6) && !decide (("test" : Str) = "piece") && decide (0 < 3) && (decide (("test" : Str) = "test") && nameD (.str "f") && true && true)) = true
    decide +kernel
  · unfold t1D
    rw [wlk]
    rfl
  · rw [h.flat, nil_facts.1]; exact Nat.le_refl 1
theorem t2_shaped (a : Nat) (ha : a < 3) : shaped (t2D x) a = true := by
  unfold t2D
  rw [shaped, decide_eq_true ha]
  show (decide (("test" : Str) ≠ "use") && !decide (("test" : Str) ∈ plain6) && !decide (("test" : Str) = "piece") && true && (decide (("test" : Str) = "test") && nameD (.str "f") && true && true)) = true
  decide +kernel
theorem sg_t2 : Sg (t2D x) := by
  obtain ⟨g, d, c⟩ := dp2 h (n := .str "f") (w := "test") (.inr ⟨rfl, rfl⟩) (by decide +kernel) (by decide +kernel) (by simp [PyData.depth]) (by simp [cntD])
  refine sg_of_fork (y := []) (z := [x]) rfl (t2_shaped h 0 (by decide)) ?_ g (Nat.le_trans d (by decide)) (Nat.le_trans c (by decide)) (by show ("test" : Str) ≠ "take"; decide +kernel) (by show ("test" : Str) ≠ "give"; decide +kernel) (by show ("test" : Str) ≠ "piece"; decide +kernel) (all_f (.inr (nil_facts.2.1 _))) (all_f (.inl (h.misl 1))) (all_f (.inr (nil_facts.2.2 _ _))) (all_f (.inl (h.wl []))) ?_
  · unfold t2D
    rw [wlk]
    rfl
  · rw [h.flat, nil_facts.1]; exact Nat.le_refl 1
theorem sg_ch : Sg (chD x) := by
  obtain ⟨o1, o2, o3⟩ := one_bounds h
  refine sg_of_fork (y := [x]) (z := []) rfl ?_ ?_ ?_ ?_ ?_ (by show ("choose" : Str) ≠ "take"; decide +kernel) (by show ("choose" : Str) ≠ "give"; decide +kernel) (by show ("choose" : Str) ≠ "piece"; decide +kernel) (all_f (.inl (h.misl 1))) (all_f (.inr (nil_facts.2.1 _))) (all_f (.inl (h.wl []))) (all_f (.inr (nil_facts.2.2 _ _))) ?_
  · unfold chD
    rw [shaped]
    show (decide (("choose" : Str) ≠ "use") && !decide (("choose" : Str) ∈ plain6) && (if ("choose" : Str) = "piece" then _ else decide (0 < 3) && (decide (("choose" : Str) = "choose") && true && true))) = true
    rw [if_neg (by decide +kernel)]
    decide +kernel
  · unfold chD
    rw [wlk]
    rfl
  · unfold chD
    have : goodD (.str "choose") = true := by decide +kernel
    simp only [goodD, goodAll, Bool.and_true] at *
    simp_all
  · unfold chD
    simp only [PyData.depth, PyData.depthAll] at *
    omega
  · unfold chD
    simp only [cntD, cntAll] at *
    omega
  · rw [h.flat, nil_facts.1]; exact Nat.le_refl 1
end
/-- a piece of l around what may stand in one -/
theorem sg_p {ds : List D} (hi : innerP (.tuple ds) = true) (gd : goodAll ds = true) (dp : PyData.depthAll ds ≤ 4) (ct : cntAll ds ≤ 15) : Sg (.tuple [.str "piece", .str "l", .tuple ds]) := by
  have fk : forkOf (.tuple [.str "piece", .str "l", .tuple ds]) = none := by
    unfold forkOf
    rfl
  obtain ⟨f1, f2, _⟩ := fork_none fk
  refine ⟨?_, ?_, ?_, ?_, by show ("piece" : Str) ≠ "take"; decide +kernel, by show ("piece" : Str) ≠ "give"; decide +kernel, fun l => ?_, ?_, ?_⟩
  · have h1 : goodD (.str "piece") = true := by decide +kernel
    have h2 : goodD (.str "l") = true := by decide +kernel
    simp only [goodD, goodAll, Bool.and_true] at *
    simp_all
  · simp only [PyData.depth, PyData.depthAll] at *
    omega
  · simp only [cntD, cntAll] at *
    omega
  · have hs : shaped (.tuple [.str "piece", .str "l", .tuple ds]) 0 = true := by
      rw [shaped, hi]
      show (decide (("piece" : Str) ≠ "use") && !decide (("piece" : Str) ∈ plain6) && (if ("piece" : Str) = "piece" then nameD (.str "l") && true else _)) = true
      rw [if_pos rfl]
      decide +kernel
    intro b hb
    rw [misl, misl, hs, if_pos rfl, f2] at hb
    simpa using hb
  · unfold isWr
    rw [if_neg (by show ¬ ("piece" : Str) = "give"; decide +kernel), if_neg (by show ¬ ("piece" : Str) = "take"; decide +kernel), decide_eq_false (by simp : ¬ nmD _ ∈ ([] : List Str) ++ []), Bool.and_false]
  · intro b hb
    have e : wlk (.tuple [.str "piece", .str "l", .tuple ds]) [] = [] := by
      rw [wlk] <;> intros <;> simp_all
    rw [e] at hb
    cases hb
  · rw [flat, flat, f1]
    exact Nat.le_of_ble_eq_true rfl
theorem inner_of {ds : List D} (ne : ds ≠ []) (m : ∀ b ∈ misl ds 0, b = false) (l : (flat ds).length ≤ 4) (wd : ∀ d ∈ flat ds, wordIn d = true) : innerP (.tuple ds) = true := by
  rw [innerP]
  have he : ds.isEmpty = false := by
    cases ds with
    | nil => exact absurd rfl ne
    | cons _ _ => rfl
  have hm : (misl ds 0).contains true = false := by
    cases e : (misl ds 0).contains true with
    | false => rfl
    | true =>
      have := m true (List.contains_iff_mem.mp e)
      cases this
  rw [he, hm, decide_eq_true l, List.all_eq_true.mpr wd]
  rfl
theorem sg_p1 {x : D} (hx : x ∈ crowdL) : Sg (p1D x) := by
  have h := lf_of (List.mem_append_left _ hx : x ∈ onesL)
  obtain ⟨o1, o2, o3⟩ := one_bounds h
  refine sg_p (inner_of (List.cons_ne_nil _ _) (all_f (.inl (h.misl 0))) (by rw [h.flat]; exact Nat.le_of_ble_eq_true rfl) fun d hd => ?_) o1 (Nat.le_trans o2 (by decide)) (Nat.le_trans o3 (by decide))
  rw [h.flat] at hd
  rw [List.mem_singleton.mp hd]
  exact cr_word hx
theorem sg_p2 {x : D} (hx : x ∈ crowdL) : Sg (p1D (t2D x)) := by
  have h := lf_of (List.mem_append_left _ hx : x ∈ onesL)
  obtain ⟨g, d, c⟩ := dp2 h (n := .str "f") (w := "test") (.inr ⟨rfl, rfl⟩) (by decide +kernel) (by decide +kernel) (by simp [PyData.depth]) (by simp [cntD])
  have s2 := sg_t2 h
  have fl : flat [t2D x] = [t2D x, x] := by
    rw [flat, flat, (fork_some (d := t2D x) (x := []) (y := [x]) rfl).1, nil_facts.1, h.flat]
    rfl
  refine sg_p (inner_of (List.cons_ne_nil _ _) s2.ms (Nat.le_trans s2.len (by decide)) fun e he => ?_) ?_ ?_ ?_
  · rw [fl] at he
    simp only [List.mem_cons, List.mem_nil_iff, or_false] at he
    rcases he with rfl | rfl
    · show decide (("test" : Str) ∈ inner3) = true
      decide +kernel
    · exact cr_word hx
  · rw [goodAll, goodAll]
    rw [show goodD (t2D x) = true from g]
    rfl
  · rw [PyData.depthAll, PyData.depthAll]
    have : (t2D x).depth ≤ 4 := d
    omega
  · rw [cntAll, cntAll]
    have : cntD (t2D x) ≤ 10 := c
    omega
/-- a body put together of blocks -/
inductive Bod : List D → Prop
  | nil : Bod []
  | one {d : D} {ds : List D} : Sg d → Bod ds → Bod (d :: ds)
  | lock {x : D} {ds : List D} : Lf x → Bod ds → Bod (tL :: x :: gL :: ds)
theorem Bod.app {as bs : List D} (h : Bod as) (t : Bod bs) : Bod (as ++ bs) := by
  induction h with
  | nil => exact t
  | one s _ ih => exact .one s ih
  | lock s _ ih => exact .lock s ih
theorem tL_facts : shaped tL 0 = true ∧ misk tL 0 = [] ∧ (∀ ar, wlk tL ar = []) ∧ flatk tL = [] ∧ shaped gL 0 = true ∧ misk gL 0 = [] ∧ (∀ ar, wlk gL ar = []) ∧ flatk gL = [] := by
  obtain ⟨f1, f2, _⟩ := fork_none (d := tL) (by decide +kernel)
  obtain ⟨g1, g2, _⟩ := fork_none (d := gL) (by decide +kernel)
  refine ⟨?_, f2 0, fun ar => ?_, f1, ?_, g2 0, fun ar => ?_, g1⟩
  · unfold tL; rw [shaped]; decide +kernel
  · unfold tL; rw [wlk] <;> intros <;> simp_all
  · unfold gL; rw [shaped]; decide +kernel
  · unfold gL; rw [wlk] <;> intros <;> simp_all
theorem cons_misl (d : D) (ds : List D) (a : Nat) : misl (d :: ds) a = misl [d] a ++ misl ds a := misl_app [d] ds a
theorem Bod.ms {ds : List D} (h : Bod ds) : ∀ b ∈ misl ds 0, b = false := by
  induction h with
  | nil => rw [nil_facts.2.1]; intro b hb; cases hb
  | @one d ds s _ ih =>
    intro b hb
    rw [cons_misl, List.mem_append] at hb
    exact hb.elim (s.ms b) (ih b)
  | @lock x ds s _ ih =>
    obtain ⟨t1, t2, t3, t4, g1, g2, g3, g4⟩ := tL_facts
    intro b hb
    rw [cons_misl, cons_misl x, cons_misl gL, s.misl] at hb
    rw [misl, nil_facts.2.1, t1, if_pos rfl, t2, misl, nil_facts.2.1, g1, if_pos rfl, g2] at hb
    simp only [List.mem_append, List.mem_cons, List.append_nil, List.nil_append, List.mem_nil_iff, or_false, Bool.not_true] at hb
    rcases hb with rfl | rfl | rfl | hb
    · rfl
    · rfl
    · rfl
    · exact ih b hb
theorem Bod.wl {ds : List D} (h : Bod ds) : ∀ b ∈ wl ds [] [], b = false := by
  induction h with
  | nil => rw [nil_facts.2.2]; intro b hb; cases hb
  | @one d ds s _ ih =>
    intro b hb
    have bd : behindD d [] = [] := by
      unfold behindD
      rw [if_neg s.nt, if_neg s.ng]
    rw [Tr.wl, s.wr, bd, List.mem_cons, List.mem_append] at hb
    rcases hb with rfl | hb | hb
    · rfl
    · exact s.wk b hb
    · exact ih b hb
  | @lock x ds s _ ih =>
    obtain ⟨t1, t2, t3, t4, g1, g2, g3, g4⟩ := tL_facts
    intro b hb
    have b1 : behindD tL [] = [("l" : Str)] := by decide +kernel
    have b2 : behindD x [("l" : Str)] = [("l" : Str)] := by
      unfold behindD
      rw [if_neg s.nt, if_neg s.ng]
    have b3 : behindD gL [("l" : Str)] = [] := by decide +kernel
    have i1 : isWr tL (x :: gL :: ds) [] [] = false := by
      unfold isWr
      rw [if_neg (by decide +kernel), if_pos (by decide +kernel), if_neg (by simp : ¬ nmD tL ∈ ([] : List Str) ++ [])]
      have e : (x :: gL :: ds).any (fun z => PyData.eqv z (giveD (nmD tL))) = true := by
        rw [List.any_cons, List.any_cons, show PyData.eqv gL (giveD (nmD tL)) = true from SeqAt.eqv_refl gL (by decide +kernel)]
        simp
      rw [e]
      rfl
    have i3 : isWr gL ds [] [("l" : Str)] = false := by
      unfold isWr
      rw [if_pos (by decide +kernel)]
      decide +kernel
    rw [Tr.wl, i1, t3, b1, Tr.wl, s.isWr, s.wk, b2, Tr.wl, i3, g3, b3] at hb
    simp only [List.mem_append, List.mem_cons, List.nil_append, List.mem_nil_iff, or_false, false_or] at hb
    rcases hb with rfl | rfl | rfl | hb
    · rfl
    · rfl
    · rfl
    · exact ih b hb
theorem Bod.bounds {ds : List D} (h : Bod ds) : goodAll ds = true ∧ PyData.depthAll ds ≤ 6 ∧ cntAll ds ≤ 20 * ds.length := by
  induction h with
  | nil => exact ⟨by rw [goodAll], by rw [PyData.depthAll]; omega, by rw [cntAll]; omega⟩
  | @one d ds s _ ih =>
    obtain ⟨i1, i2, i3⟩ := ih
    refine ⟨by rw [goodAll, s.good, i1]; rfl, ?_, ?_⟩
    · have := s.dep
      rw [PyData.depthAll]; omega
    · have := s.cnt
      rw [cntAll, List.length_cons]; omega
  | @lock x ds s _ ih =>
    obtain ⟨i1, i2, i3⟩ := ih
    have q1 : goodD tL = true ∧ goodD gL = true ∧ tL.depth ≤ 1 ∧ gL.depth ≤ 1 ∧ cntD tL ≤ 3 ∧ cntD gL ≤ 3 := by decide +kernel
    obtain ⟨q1, q2, q3, q4, q5, q6⟩ := q1
    refine ⟨by rw [goodAll, goodAll, goodAll, q1, q2, s.good, i1]; rfl, ?_, ?_⟩
    · have := s.dep
      rw [PyData.depthAll, PyData.depthAll, PyData.depthAll]; omega
    · have := s.cnt
      rw [cntAll, cntAll, cntAll, List.length_cons, List.length_cons, List.length_cons]; omega
theorem Bod.br {ds : List D} (h : Bod ds) : ∀ d ∈ flat ds, BrOk d := by
  intro d hd
  refine (br_flat (a := 0) ?_ d hd).1
  cases e : (misl ds 0).contains true with
  | false => rfl
  | true =>
    have := h.ms true (List.contains_iff_mem.mp e)
    cases this
theorem Bod.fault {ds : List D} (h : Bod ds) (ne : ds ≠ []) (l : (flat ds).length ≤ 8) : faultL ds = none := faultL_none.mpr ⟨ne, h.ms, l, h.wl⟩
theorem Bod.fits {ds : List D} (h : Bod ds) (l : ds.length ≤ 100) {n : Nat} (hn : 7 ≤ n) : Fits n ds := by
  obtain ⟨a, b, c⟩ := h.bounds
  exact ⟨a, by omega, by omega⟩
end Tr

/-! P18 -/
/-! ### a block drawn -/
namespace Tr
open PySem PySem.Spec PyProof.Rows L2 Rw NdefX SuX
/-- a tuple of texts -/
def Tw (K : PySem.W.Frag) (H : Hp) (v : V) (d : D) : Prop := ∃ (t : Addr) (ws : List Str), v = .ref t ∧ d = .tuple (ws.map PyData.str) ∧ SqT K H t (ws.map V.str)
theorem Tw.same {K : PySem.W.Frag} {H H' : Hp} (s : Same H H') {v : V} {d : D} (h : Tw K H v d) : Tw K H' v d := let ⟨t, ws, a, b, c⟩ := h; ⟨t, ws, a, b, s.tupS c⟩
theorem Tw.updL {K : PySem.W.Frag} {H : Hp} {l : Addr} {xs : List V} {u : HO} (hl : H l = some (.lst xs)) {v : V} {d : D} (h : Tw K H v d) : Tw K (upd H l u) v d := let ⟨t, ws, a, b, c⟩ := h; ⟨t, ws, a, b, sqT_updL hl c⟩
theorem sqT_wh {K : PySem.W.Frag} {H : Hp} {o q t : Addr} {xs : List V} (p : PoolAt H o q) (h : SqT K H t xs) : SqT K (wh o H) t xs := by
  obtain ⟨a, ns, h1, _⟩ := p
  rcases h with (h | ⟨ob, h⟩) | h
  · exact .inl (.inl (wh_at (fun e => by rw [e, h1] at h; cases h) h))
  · exact .inl (.inr ⟨ob, wh_at (fun e => by rw [e, h1] at h; cases h) h⟩)
  · exact .inr h
theorem Tw.dp {K : PySem.W.Frag} {H : Hp} {o q : Addr} (p : PoolAt H o q) {v : V} {d : D} (h : Tw K H v d) : Dp K (wh o H) v d := by
  obtain ⟨t, ws, rfl, rfl, c⟩ := h
  exact .tup (sqT_wh p c) (dp_txts ws)
theorem newT {K : PySem.W.Frag} {H : Hp} {o qq t : Addr} {vs : List V} {ds : List D} (p : PoolAt H o qq) (nt : H t = none) (h : DpAll K (wh o H) vs ds) : Dp K (wh o (upd H t (.tup vs))) (.ref t) (.tuple ds) := .tup (SqT.of (wh_new p nt)) (h.same (wh_upd nt))
theorem newL {H : Hp} {o qq t : Addr} {vs : List V} (p : PoolAt H o qq) (nt : H t = none) : wh o (upd H t (.lst vs)) t = some (.lst vs) := wh_new p nt
theorem lock_len {x : D} (h : Lf x) : (flat [tL, x, gL]).length ≤ 3 := by
  have e : flat [tL, x, gL] = flat [tL] ++ (flat [x] ++ flat [gL]) := by
    rw [← flat_app, ← flat_app]
    rfl
  obtain ⟨_, _, _, t4, _, _, _, g4⟩ := tL_facts
  rw [e, h.flat, flat, flat, t4, flat, flat, g4]
  exact Nat.le_of_ble_eq_true rfl
def okOne (cr : Bool) (d : D) : Prop := d ∈ onesL ∧ (cr = true → d ∈ crowdL)
def Opt (K : PySem.W.Frag) (o : Addr) (m : Nat) (H : Hp) (l : Addr) (cr : Bool) : Prop := ∃ us ds, H l = some (.lst us) ∧ l ≠ o ∧ All2 (Tw K H) us ds ∧ ds ≠ [] ∧ ds.length ≤ m ∧ ∀ d ∈ ds, okOne cr d
theorem Opt.same {K : PySem.W.Frag} {o : Addr} {m : Nat} {H H' : Hp} {l : Addr} {cr : Bool} (s : Same H H') (h : Opt K o m H l cr) : Opt K o m H' l cr := let ⟨us, ds, a, n, b, c⟩ := h; ⟨us, ds, s _ _ a, n, b.mono fun _ _ z => z.same s, c⟩
def tw2 (x n : Str) : D := .tuple [.str x, .str n]
theorem ok_start {cr : Bool} {n : Str} (h : n = "v" ∨ n = "w") : okOne cr (tw2 "start" n) := by
  rcases h with rfl | rfl
  · exact ⟨by simp [onesL, crowdL, tw2], fun _ => by simp [crowdL, tw2]⟩
  · exact ⟨by simp [onesL, crowdL, tw2], fun _ => by simp [crowdL, tw2]⟩
theorem ok_use {cr : Bool} : okOne cr (.tuple [.str "use"]) := ⟨by simp [onesL, crowdL], fun _ => by simp [crowdL]⟩
theorem ok_cancel {n : Str} (h : n = "v" ∨ n = "w") : okOne false (tw2 "cancel" n) := by
  rcases h with rfl | rfl
  · exact ⟨by simp [onesL, tw2], fun z => nomatch z⟩
  · exact ⟨by simp [onesL, tw2], fun z => nomatch z⟩
theorem ok_mark {x : Str} (h : x = "set" ∨ x = "clear") : okOne false (tw2 x "f") := by
  rcases h with rfl | rfl
  · exact ⟨by simp [onesL, tw2], fun z => nomatch z⟩
  · exact ⟨by simp [onesL, tw2], fun z => nomatch z⟩
/-- names in a list, each put behind a word -/
theorem lc_tw {K : PySem.W.Frag} {H : Hp} {a : Addr} {ns : List Str} (x : Str) {tt : TT} {vs : List Nat} {σ : L2.St} {i : Nat} {te : TE} {D : Addr} {Qd : Hp → Prop} (nD : H D = none) (h0 : SqL K H a (ns.map V.str)) (ln : ns.length ≤ 10)
    (hg : ∀ (n : Str) (H' : Hp) (W : VK), (2 ≤ sizeLine → ∀ t, H' t = none → W (.ref t) (upd H' t (.tup [.str x, .str n]))) → te ((wipe σ vs).set i (some (.str n))) H' W) (hw : ∀ n : Str, wipe ((wipe σ vs).set i (some (.str n))) vs = wipe σ vs) (ht : ∀ σ H (W : Bool → Hp → Prop), W true H → tt σ H W)
    (hd : ∀ H' us, Same H H' → H' D = some (.lst us) → All2 (Tw K H') us (ns.map (tw2 x)) → Qd H') :
    ∃ W : Nat → Nat → Hp → Prop, (∃ m, W 0 m (upd H D (.lst []))) ∧ ∀ i' m H, W i' m H →
      ((Itl K a).stop i' H ∧ Qd H) ∨ ((Itl K a).go i' H ∧ ∃ Nx : Hp → Prop, (∀ H', Nx H' → ∃ m', m' < m ∧ W (i' + 1) m' H') ∧ ∀ x' H', (Itl K a).yld i' H x' H' → gName i x' (wipe σ vs) H' fun σ2 H2 => wipe σ2 vs = wipe σ vs ∧ tt σ2 H2 fun b H3 =>
        if b = true then te σ2 H3 fun y H4 => ∃ acc, H4 D = some (.lst acc) ∧ acc.length < sizeLine ∧ Nx (upd H4 D (.lst (acc ++ [y]))) else Nx H3) := by
  refine lc_list (K := K) (a := a) (xs := ns.map V.str) (fun j H' => Same H H' ∧ ∃ us, H' D = some (.lst us) ∧ All2 (Tw K H') us ((ns.take j).map (tw2 x)))
    ⟨same_upd nD, [], upd_same, .nil⟩ (fun j H' _ h => h.1.seq h0) ?_ ?_
  · rintro j z H' hz ⟨s1, us, hD, al⟩
    rw [List.getElem?_map] at hz
    cases hq : ns[j]? with
    | none => rw [hq] at hz; cases hz
    | some n =>
      rw [hq] at hz
      cases hz
      refine name_in ⟨hw n, ht _ _ _ (iteT (hg n H' _ fun _ t nt => ?_))⟩
      have s2 := same_upd (o := HO.tup [.str x, .str n]) nt
      refine ⟨us, s2 _ _ hD, ?_, same_updN nD (s1.trans s2), us ++ [.ref t], upd_same, ?_⟩
      · have z := al.length
        rw [List.length_map, List.length_take] at z
        rw [sizeLine_eq]
        omega
      · rw [take_snoc hq, List.map_append]
        refine All2.append ((al.mono fun _ _ q => q.same s2).mono fun _ _ q => q.updL (s2 _ _ hD)) (.cons ⟨t, [x, n], rfl, rfl, sqT_updL (s2 _ _ hD) (SqT.of upd_same)⟩ .nil)
  · rintro H' ⟨s1, us, hD, al⟩
    rw [List.length_map, List.take_length] at al
    exact hd H' us s1 hD al
def spBlk (K : PySem.W.Frag) : Sp := fun vs H Q _ => ∃ (o qq wl ml ll : Addr) (cr : Bool) (ws : List Str), vs = [.ref o, .ref wl, .ref ml, .ref ll, .bl cr] ∧ PoolAt H o qq ∧ wh o H wl = some (.lst (ws.map V.str)) ∧ wh o H ml = some (.lst [.str "f"]) ∧ wh o H ll = some (.lst [.str "l"]) ∧ (ws = [("v" : Str)] ∨ ws = [("v" : Str), "w"]) ∧
  ∀ H' l ys ds, SameBut o H H' → PoolAt H' o qq → wh o H' l = some (.lst ys) → DpAll K (wh o H') ys ds → Bod ds → ds ≠ [] → (flat ds).length ≤ 3 → Q (.ref l) H'
section
variable {P : Program} {w : World} {K : PySem.W.Frag} {mg : Str → Option Value} {base : Heap}
abbrev sBlk : Stmt := top 57
theorem scBlk : FnScope ["_law_pool_here", "_law_works", "_law_marks", "_law_locks", "_law_crowd", "_law_some", "_law_one", "_law_way", "_law_lock", "_law_name"] ["_law_pool_here", "_law_works", "_law_marks", "_law_locks", "_law_crowd"] (defScope sBlk) := ⟨rfl, rfl, rfl, by decide +kernel, rfl, by decide +kernel, by decide +kernel⟩
theorem ok_blk {f fP fD : Addr} {fd fdP fdD : FuncData} (F : Fun K "_law_block" "_law_block" sBlk f fd) (GP : FnOk P w K mg base CX0 2 fP fdP ["_law_pool_here", "_law_some"] (spPick K)) (TP : Called K mg "_law_pick" ["_law_pool_here", "_law_some"] fP fdP)
    (GD : FnOk P w K mg base CX0 1 fD fdD ["_law_pool_here", "_law_many"] (spDraw K)) (TD : Called K mg "_law_draw" ["_law_pool_here", "_law_many"] fD fdD) : FnOk P w K mg base CX0 3 f fd ["_law_pool_here", "_law_works", "_law_marks", "_law_locks", "_law_crowd"] (spBlk K) := by
  refine F.ok scBlk (fun vs H Q E h => ?_) (fun cdv A outer s H vs Q E hr h => ?_)
  · obtain ⟨o, qq, wl, ml, ll, cr, ws, rfl, _⟩ := h
    rfl
  · obtain ⟨o, qq, wl, ml, ll, cr, ws, rfl, hp, hw, hm, hl, hws, q⟩ := h
    refine ⟨_, (pss_cons (ps_set (i := 5) scBlk.nd rfl (.inl rfl) (pe_op op_cat (pe_lst (pa_cons (pe_tup (pa_cons pe_str pa_nil)) pa_nil)) (pe_lc (own := [("_law_name", 9)]) (g := gName 9) (tt := tYes) (by rfl) scBlk.nd (pi_list (pe_op op_rep (pv 1) pe_int)) (blkOk_by (own := [("_law_name", 9)]) (N := ["_law_pool_here", "_law_works", "_law_marks", "_law_locks", "_law_crowd", "_law_some", "_law_one", "_law_way", "_law_lock", "_law_name"]) (sc := defScope sBlk) (by decide +kernel)) (fun _ _ _ _ _ => (pg_name (i := 9) scBlk.nd rfl (Or.inl rfl))) (fun _ _ _ _ _ => pts_nil) (fun _ _ _ _ _ => (pe_tup (pa_cons pe_str (pa_cons (pv 9) pa_nil)))))))
       (pss_cons (ps_if (pt_not (pt_val (pv 4)))
       (pss_cons (ps_set (i := 5) scBlk.nd rfl (.inl rfl) (pe_op op_cat (pv 5) (pe_lst (pa_cons (pe_tup (pa_cons pe_str (pa_cons (pe_ix (ix_listK (K := K) rfl) (pv 1) (pe_un un_neg pe_int) (fun _ _ => rfl)) pa_nil))) pa_nil))))
       (pss_one (ps_set (i := 5) scBlk.nd rfl (.inl rfl) (pe_op op_cat (pe_op op_cat (pv 5) (pe_lc (own := [("_law_name", 9)]) (g := gName 9) (tt := tYes) (by rfl) scBlk.nd (pi_list (pv 2)) (blkOk_by (own := [("_law_name", 9)]) (N := ["_law_pool_here", "_law_works", "_law_marks", "_law_locks", "_law_crowd", "_law_some", "_law_one", "_law_way", "_law_lock", "_law_name"]) (sc := defScope sBlk) (by decide +kernel)) (fun _ _ _ _ _ => (pg_name (i := 9) scBlk.nd rfl (Or.inl rfl))) (fun _ _ _ _ _ => pts_nil) (fun _ _ _ _ _ => (pe_tup (pa_cons pe_str (pa_cons (pv 9) pa_nil)))))) (pe_lc (own := [("_law_name", 9)]) (g := gName 9) (tt := tYes) (by rfl) scBlk.nd (pi_list (pv 2)) (blkOk_by (own := [("_law_name", 9)]) (N := ["_law_pool_here", "_law_works", "_law_marks", "_law_locks", "_law_crowd", "_law_some", "_law_one", "_law_way", "_law_lock", "_law_name"]) (sc := defScope sBlk) (by decide +kernel)) (fun _ _ _ _ _ => (pg_name (i := 9) scBlk.nd rfl (Or.inl rfl))) (fun _ _ _ _ _ => pts_nil) (fun _ _ _ _ _ => (pe_tup (pa_cons pe_str (pa_cons (pv 9) pa_nil)))))))))
       pss_nil)
       (pss_cons (ps_par (i := 6) (j := 7) rfl scBlk.nd rfl rfl (by decide) rfl rfl (pa_cons (pe_call GP (hr.mono (by first | decide | omega)) rfl TP.1 TP.2.1 TP.2.2 .nil pass0 (pa_cons (pv 0) (pa_cons (pv 5) pa_nil))) (pa_cons (pe_call GD (hr.mono (by first | decide | omega)) rfl TD.1 TD.2.1 TD.2.2 .nil pass0 (pa_cons (pv 0) (pa_cons pe_int pa_nil))) pa_nil)) (by rfl))
       (pss_cons (ps_set (i := 8) scBlk.nd rfl (.inl rfl) (pe_ifExp (pt_cmpR (Nm.op_neDK (K := K) rfl hr.units) (pv 3) (pe_lst pa_nil) (nomark _))
       (pe_call GP (hr.mono (by first | decide | omega)) rfl TP.1 TP.2.1 TP.2.2 .nil pass0 (pa_cons (pv 0) (pa_cons (pv 3) pa_nil)))
       pe_str))
       (pss_cons (ps_if (PW.pt (pw_and (pt_cmpR op_lt (pv 7) pe_int (nomark _)) (pw_and1 (pt_cmpR (Nm.op_neDK (K := K) rfl hr.units) (pv 2) (pe_lst pa_nil) (nomark _)))))
       (pss_one (ps_ret (pe_lst (pa_cons (pe_ifExp (pt_cmpR op_eq (pv 7) pe_int (nomark _))
       (pe_tup (pa_cons pe_str (pa_cons (pe_ix (ix_listK (K := K) rfl) (pv 2) pe_int (fun _ _ => rfl)) (pa_cons (pe_tup (pa_cons (pv 6) pa_nil)) (pa_cons (pe_tup pa_nil) pa_nil)))))
       (pe_tup (pa_cons pe_str (pa_cons (pe_ix (ix_listK (K := K) rfl) (pv 2) pe_int (fun _ _ => rfl)) (pa_cons (pe_tup pa_nil) (pa_cons (pe_tup (pa_cons (pv 6) pa_nil)) pa_nil)))))) pa_nil))))
       pss_nil)
       (pss_cons (ps_if (PW.pt (pw_and (pt_cmpR op_eq (pv 7) pe_int (nomark _)) (pw_and (pt_cmpR (Nm.op_neDK (K := K) rfl hr.units) (pv 3) (pe_lst pa_nil) (nomark _)) (pw_and1 (pt_val (pv 4))))))
       (pss_one (ps_ret (pe_lst (pa_cons (pe_tup (pa_cons pe_str (pa_cons (pv 8) (pa_cons (pe_tup (pa_cons (pv 6) pa_nil)) pa_nil)))) pa_nil))))
       pss_nil)
       (pss_cons (ps_if (PW.pt (pw_and (pt_cmpR op_eq (pv 7) pe_int (nomark _)) (pw_and1 (pt_cmpR (Nm.op_neDK (K := K) rfl hr.units) (pv 3) (pe_lst pa_nil) (nomark _)))))
       (pss_one (ps_ret (pe_lst (pa_cons (pe_tup (pa_cons pe_str (pa_cons (pv 8) pa_nil))) (pa_cons (pv 6) (pa_cons (pe_tup (pa_cons pe_str (pa_cons (pv 8) pa_nil))) pa_nil))))))
       pss_nil)
       (pss_cons (ps_if (PW.pt (pw_and (pt_cmpR op_eq (pv 7) pe_int (nomark _)) (pw_and (pt_val (pv 4)) (pw_and (pt_cmpR (Nm.op_neDK (K := K) rfl hr.units) (pv 3) (pe_lst pa_nil) (nomark _)) (pw_and1 (pt_cmpR (Nm.op_neDK (K := K) rfl hr.units) (pv 2) (pe_lst pa_nil) (nomark _)))))))
       (pss_one (ps_ret (pe_lst (pa_cons (pe_tup (pa_cons pe_str (pa_cons (pv 8) (pa_cons (pe_tup (pa_cons (pe_tup (pa_cons pe_str (pa_cons (pe_ix (ix_listK (K := K) rfl) (pv 2) pe_int (fun _ _ => rfl)) (pa_cons (pe_tup pa_nil) (pa_cons (pe_tup (pa_cons (pv 6) pa_nil)) pa_nil))))) pa_nil)) pa_nil)))) pa_nil))))
       pss_nil)
       (pss_one (ps_ret (pe_ifExp (pt_cmpR op_eq (pv 7) pe_int (nomark _))
       (pe_lst (pa_cons (pe_tup (pa_cons pe_str (pa_cons (pe_tup (pa_cons (pv 6) pa_nil)) (pa_cons (pe_tup pa_nil) pa_nil)))) pa_nil))
       (pe_lst (pa_cons (pv 6) pa_nil))))))))))))), ?_⟩
    refine seqS_in (asg_via (fun v H' => ∃ l, v = .ref l ∧ Same H H' ∧ Opt K o 5 H' l cr) (fun Qx hQ => ?_) ?_)
    · refine ⟨by show 1 ≤ sizeLine; decide, fun u nu => ⟨by show 1 ≤ sizeLine; decide, fun l0 nl0 => ?_⟩⟩
      have s1 := same_upd (o := HO.tup [.str "use"]) nu
      have s2 := same_upd (o := HO.lst [.ref u]) nl0
      have s12 := s1.trans s2
      have e0 : (upd (upd H u (.tup [.str "use"])) l0 (.lst [.ref u])) l0 = some (.lst [.ref u]) := upd_same
      have eu : SqT K (upd (upd H u (.tup [.str "use"])) l0 (.lst [.ref u])) u [V.str "use"] := SqT.of (s2 _ _ upd_same)
      generalize upd (upd H u (.tup [.str "use"])) l0 (.lst [.ref u]) = H2 at s12 e0 eu
      clear s1 s2 nu nl0
      refine ⟨_, rfl, wl, 2, _, rfl, rfl, s12 _ _ (wh_sub _ _ hw), by decide, by decide, ?_, fun r nr => ?_⟩
      · rw [List.length_map, sizeLine_eq]
        rcases hws with rfl | rfl <;> decide
      have er : (List.replicate (2 : Int).toNat (ws.map V.str)).flatten = (ws ++ ws).map V.str := by
        rcases hws with rfl | rfl <;> rfl
      rw [er]
      have s3 := same_upd (o := HO.lst ((ws ++ ws).map V.str)) nr
      have er3 : (upd H2 r (.lst ((ws ++ ws).map V.str))) r = some (.lst ((ws ++ ws).map V.str)) := upd_same
      generalize upd H2 r (.lst ((ws ++ ws).map V.str)) = H3 at s3 er3
      refine ⟨r, rfl, ⟨_, SqL.of er3⟩, fun D nD => lc_tw (K := K) (ns := ws ++ ws) (i := 9) "start" nD (SqL.of er3) ?_ (fun n H' W h => ⟨_, rfl, by show 2 ≤ sizeLine; decide, fun t nt => h (by decide) t nt⟩) (fun _ => rfl) (fun _ _ _ h => h) (fun H4 us s4 hD al => ?_)⟩
      · rcases hws with rfl | rfl <;> exact Nat.le_of_ble_eq_true rfl
      have s34 := s3.trans s4
      have lus := al.length
      have l4 : (ws ++ ws).length ≤ 4 := by rcases hws with rfl | rfl <;> exact Nat.le_of_ble_eq_true rfl
      rw [List.length_map] at lus
      refine ⟨l0, D, _, _, rfl, rfl, s34 _ _ e0, hD, ?_, fun L nL => hQ _ _ ⟨L, rfl, ?_, ?_⟩⟩
      · rw [sizeLine_eq]
        show 1 + us.length ≤ _
        omega
      · exact (s12.trans s34).trans (same_upd nL)
      · have s5 := same_upd (o := HO.lst ([V.ref u] ++ us)) nL
        refine ⟨_, _, upd_same, pool_ne (hp.same (s12.trans s34)) nL, .cons ⟨u, ["use"], rfl, rfl, (s34.trans s5).tupS eu⟩ (al.mono fun _ _ z => z.same s5), List.cons_ne_nil _ _, ?_, ?_⟩
        · rw [List.length_cons, List.length_map]
          omega
        · intro d hd
          rcases List.mem_cons.mp hd with rfl | hd
          · exact ok_use
          · obtain ⟨n, hn, rfl⟩ := List.mem_map.mp hd
            refine ok_start ?_
            rcases hws with rfl | rfl <;> simp at hn
            · exact .inl hn
            · rcases hn with h | h | h | h
              · exact .inl h
              · exact .inr h
              · exact .inl h
              · exact .inr h
    · rintro v H1 ⟨l, rfl, s1, op⟩
      refine name_in ?_
      dsimp only
      refine seqS_in (ifS_join (fun σ' H' => ∃ l', σ' = [some (.ref o), some (.ref wl), some (.ref ml), some (.ref ll), some (.bl cr), some (.ref l'), none, none, none, none] ∧ Same H1 H' ∧ Opt K o 8 H' l' cr) ?hG ?h)
      case h =>
        intro done
        cases cr with
        | true => exact ⟨_, rfl, _, rfl, iteF (done _ _ ⟨l, rfl, Same.refl _, (let ⟨us, ds, a, n, b, c, d, e⟩ := op; ⟨us, ds, a, n, b, c, by omega, e⟩)⟩)⟩
        | false =>
          refine ⟨_, rfl, _, rfl, iteT ?_⟩
          refine seqS_in (asg_via (fun v H' => ∃ l, v = .ref l ∧ Same H1 H' ∧ Opt K o 6 H' l false) (fun Qx hQ => ?_) ?_)
          · obtain ⟨us, ds, e1, no, al, ne, le, ok⟩ := op
            obtain ⟨last, el, hlast⟩ : ∃ last : Str, atI (ws.map V.str) (-1) = some (V.str last) ∧ (last = "v" ∨ last = "w") := by
              rcases hws with rfl | rfl
              · exact ⟨"v", rfl, .inl rfl⟩
              · exact ⟨"w", rfl, .inr rfl⟩
            refine ⟨_, rfl, _, rfl, 1, rfl, wl, _, -1, _, rfl, rfl, SqL.of (s1 _ _ (wh_sub _ _ hw)), el, by show 2 ≤ sizeLine; decide, fun t nt => ⟨by show 1 ≤ sizeLine; decide, fun l1 nl1 => ?_⟩⟩
            have t1 := same_upd (o := HO.tup [.str "cancel", .str last]) nt
            have t2 := same_upd (o := HO.lst [.ref t]) nl1
            have lus := al.length
            refine ⟨l, l1, us, [.ref t], rfl, rfl, (t1.trans t2) _ _ e1, upd_same, ?_, fun L nL => hQ _ _ ⟨L, rfl, (t1.trans t2).trans (same_upd nL), ?_⟩⟩
            · rw [sizeLine_eq]
              show us.length + 1 ≤ _
              omega
            · have t3 := same_upd (o := HO.lst (us ++ [V.ref t])) nL
              refine ⟨_, ds ++ [tw2 "cancel" last], upd_same, pool_ne (hp.same (s1.trans (t1.trans t2))) nL, All2.append (al.mono fun _ _ z => z.same ((t1.trans t2).trans t3)) (.cons ⟨t, ["cancel", last], rfl, rfl, (t2.trans t3).tupS (SqT.of upd_same)⟩ .nil), by simp, ?_, ?_⟩
              · rw [List.length_append]
                show ds.length + 1 ≤ 6
                omega
              · intro d hd
                rcases List.mem_append.mp hd with hd | hd
                · exact ok d hd
                · rw [List.mem_singleton.mp hd]
                  exact ok_cancel hlast
          · rintro v H2 ⟨l2, rfl, s2, us, ds, e1, no, al, ne, le, ok⟩
            refine name_in ?_
            dsimp only
            have hm2 : H2 ml = some (.lst (([("f" : Str)]).map V.str)) := (s1.trans s2) _ _ (wh_sub _ _ hm)
            refine ⟨_, rfl, _, rfl, ml, rfl, ⟨_, SqL.of hm2⟩, fun D nD => lc_tw (K := K) (ns := [("f" : Str)]) (i := 9) "set" nD (SqL.of hm2) (by decide) (fun n H' W h => ⟨_, rfl, by show 2 ≤ sizeLine; decide, fun t nt => h (by decide) t nt⟩) (fun _ => rfl) (fun _ _ _ h => h) (fun H3 us3 s3 hD al3 => ?_)⟩
            have l3 := al3.length
            have lus := al.length
            rw [List.length_map] at l3
            refine ⟨l2, D, us, us3, rfl, rfl, s3 _ _ e1, hD, by rw [sizeLine_eq]; have : us3.length = 1 := l3
                                                                omega, fun L nL => ?_⟩
            have s4 := same_upd (o := HO.lst (us ++ us3)) nL
            have eL : (upd H3 L (.lst (us ++ us3))) L = some (.lst (us ++ us3)) := upd_same
            have al4 : All2 (Tw K (upd H3 L (.lst (us ++ us3)))) (us ++ us3) (ds ++ [("f" : Str)].map (tw2 "set")) := All2.append (al.mono fun _ _ z => z.same (s3.trans s4)) (al3.mono fun _ _ z => z.same s4)
            have hm4 := (s3.trans s4) _ _ hm2
            generalize upd H3 L (.lst (us ++ us3)) = H4 at s4 eL al4 hm4
            refine ⟨_, rfl, ml, rfl, ⟨_, SqL.of hm4⟩, fun D2 nD2 => lc_tw (K := K) (ns := [("f" : Str)]) (i := 9) "clear" nD2 (SqL.of hm4) (by decide) (fun n H' W h => ⟨_, rfl, by show 2 ≤ sizeLine; decide, fun t nt => h (by decide) t nt⟩) (fun _ => rfl) (fun _ _ _ h => h) (fun H5 us5 s5 hD5 al5 => ?_)⟩
            have l5 := al5.length
            rw [List.length_map] at l5
            have z3 : us3.length = 1 := l3
            have z5 : us5.length = 1 := l5
            refine ⟨L, D2, _, us5, rfl, rfl, s5 _ _ eL, hD5, by rw [List.length_append, sizeLine_eq]; omega, fun L2 nL2 => ?_⟩
            have s6 := same_upd (o := HO.lst ((us ++ us3) ++ us5)) nL2
            have s26 := s2.trans ((s3.trans s4).trans (s5.trans s6))
            refine name_in (done _ _ ⟨L2, rfl, s26, _, (ds ++ [("f" : Str)].map (tw2 "set")) ++ [("f" : Str)].map (tw2 "clear"), upd_same, pool_ne (hp.same (s1.trans (s2.trans ((s3.trans s4).trans s5)))) nL2, All2.append (al4.mono fun _ _ z => z.same (s5.trans s6)) (al5.mono fun _ _ z => z.same s6), by simp, ?_, ?_⟩)
            · rw [List.length_append, List.length_append]
              show ds.length + 1 + 1 ≤ 8
              omega
            · intro d hd
              rcases List.mem_append.mp hd with hd | hd
              · rcases List.mem_append.mp hd with hd | hd
                · exact ok d hd
                · rw [List.mem_singleton.mp hd]
                  exact ok_mark (.inl rfl)
              · rw [List.mem_singleton.mp hd]
                exact ok_mark (.inr rfl)
      case hG =>
        rintro σ H2 ⟨l2, rfl, s2, us, ds, e1, no, al, ne, le, ok⟩
        dsimp only
        have s02 := s1.trans s2
        have p2 := hp.same s02
        have lus := al.length
        refine seqS_in ⟨_, rfl, _, rfl, o, qq, l2, us, rfl, p2, no, SqL.of e1, fun e => ?_, by omega, fun H3 x b3 p3 hx => ?_⟩
        · rw [e] at lus
          exact ne (List.eq_nil_of_length_eq_zero lus.symm)
        obtain ⟨i, hi⟩ := List.getElem?_of_mem hx
        obtain ⟨d, hd, tw⟩ := al.get hi
        have okd := ok d (List.mem_of_getElem? hd)
        have lf := lf_of okd.1
        have dx := tw.dp p2
        refine ⟨_, rfl, o, qq, 7, rfl, p3, by decide, by decide, fun H4 k b4 p4 k0 k7 => ⟨_, _, rfl, ?_⟩⟩
        have b04 := (but_of s02).trans (b3.trans b4)
        have dx4 := dx.same (wh_but (b3.trans b4))
        have hl4 := wh_but b04 _ _ hl
        have hm4 := wh_but b04 _ _ hm
        clear b3 p3 dx tw hi hx al e1 lus
        dsimp only
        refine seqS_in (asg_via (fun v H' => v = .str "l" ∧ SameBut o H4 H' ∧ PoolAt H' o qq) (fun Qx hQ => ?_) ?_)
        · refine ⟨_, rfl, Nat.zero_le _, fun e ne => ?_⟩
          have s5 := same_upd (o := HO.lst []) ne
          refine ⟨.list [.str "l"], .list [], .lst (SqL.of (s5 _ _ (wh_sub _ _ hl4))) (.cons (.str _) .nil), .lst (SqL.of upd_same) .nil, by decide +kernel, nilL_shaped, _, rfl, ?_⟩
          rw [eqv_nilL]
          refine iteT ⟨_, rfl, _, rfl, o, qq, ll, [.str "l"], rfl, pool_upd p4 ne, wh_ne hl4, SqL.of (s5 _ _ (wh_sub _ _ hl4)), List.cons_ne_nil _ _, by decide, fun H5 x5 b5 p5 hx5 => hQ _ _ ⟨List.mem_singleton.mp hx5, (but_of s5).trans b5, p5⟩⟩
        rintro v5 H5 ⟨rfl, b5, p5⟩
        refine name_in ?_
        dsimp only
        have b05 := b04.trans b5
        have dx5 := dx4.same (wh_but b5)
        have hm5 := wh_but b5 _ _ hm4
        have hl5 := wh_but b5 _ _ hl4
        clear b04 b5 dx4 hm4 hl4 p4 b4
        have fin : ∀ {H8 : Hp} {L : Addr} {ys : List V} {ds : List D}, Same H5 H8 → PoolAt H8 o qq → wh o H8 L = some (.lst ys) → DpAll K (wh o H8) ys ds → Bod ds → ds ≠ [] → (flat ds).length ≤ 3 → Q (.ref L) H8 := fun s8 p8 e8 d8 bd ne8 l8 => q _ _ _ _ (b05.trans (but_of s8)) p8 e8 d8 bd ne8 l8
        have sgl : ∀ {z : D}, Sg z → Bod [z] ∧ [z] ≠ [] ∧ (flat [z]).length ≤ 3 := fun s => ⟨.one s .nil, List.cons_ne_nil _ _, Nat.le_trans s.len (by decide)⟩
        have hmS := wh_sub _ _ hm5
        have hlS := wh_sub _ _ hl5
        -- a test
        refine seqS_in (ifS_via (fun _ H' => Same H5 H') (fun QQ hQ => ?_) (fun b H6 s6 => ?_))
        · refine ⟨_, rfl, _, _, rfl, rfl, _, rfl, ite_any ⟨_, rfl, Nat.zero_le _, fun e ne => ⟨.list [.str _], .list [], .lst (SqL.of ((same_upd ne) _ _ hmS)) (.cons (.str _) .nil), .lst (SqL.of upd_same) .nil, by decide +kernel, nilL_shaped, _, rfl, hQ _ _ (same_upd ne)⟩⟩ (hQ _ _ (Same.refl _))⟩
        have p6 := p5.same s6
        have dx6 := dx5.same (wh_same s6)
        refine ite_any ?_ ?_
        · refine ⟨_, rfl, rfl, _, rfl, ite_any ?_ ?_⟩
          · refine ⟨_, rfl, ml, _, 0, _, rfl, rfl, SqL.of (s6 _ _ hmS), at0, _, rfl, by show 1 ≤ sizeLine; decide, fun t1 n1 => ⟨Nat.zero_le _, fun t2 n2 => ⟨by show 4 ≤ sizeLine; decide, fun t3 n3 => ⟨by show 1 ≤ sizeLine; decide, fun L nL => ?_⟩⟩⟩⟩
            have q1 := pool_upd (x := HO.tup [x]) p6 n1
            have h1 := newT p6 n1 (.cons dx6 .nil)
            have q2 := pool_upd (x := HO.tup []) q1 n2
            have h2 := newT (K := K) q1 n2 (vs := []) (ds := []) .nil
            have q3 := pool_upd (x := HO.tup [.str "test", .str "f", .ref t1, .ref t2]) q2 n3
            have h3 := newT q2 n3 (.cons (.str "test") (.cons (.str "f") (.cons (h1.same (wh_upd n2)) (.cons h2 .nil))))
            obtain ⟨r1, r2, r3⟩ := sgl (sg_t1 lf)
            exact fin ((s6.trans (same_upd n1)).trans ((same_upd n2).trans ((same_upd n3).trans (same_upd nL)))) (pool_upd q3 nL) (newL q3 nL) (.cons (h3.same (wh_upd nL)) .nil) r1 r2 r3
          · refine ⟨_, rfl, ml, _, 0, _, rfl, rfl, SqL.of (s6 _ _ hmS), at0, Nat.zero_le _, fun t2 n2 => ⟨_, rfl, by show 1 ≤ sizeLine; decide, fun t1 n1 => ⟨by show 4 ≤ sizeLine; decide, fun t3 n3 => ⟨by show 1 ≤ sizeLine; decide, fun L nL => ?_⟩⟩⟩⟩
            have q2 := pool_upd (x := HO.tup []) p6 n2
            have h2 := newT (K := K) p6 n2 (vs := []) (ds := []) .nil
            have q1 := pool_upd (x := HO.tup [x]) q2 n1
            have h1 := newT q2 n1 (.cons (dx6.same (wh_upd n2)) .nil)
            have q3 := pool_upd (x := HO.tup [.str "test", .str "f", .ref t2, .ref t1]) q1 n3
            have h3 := newT q1 n3 (.cons (.str "test") (.cons (.str "f") (.cons (h2.same (wh_upd n1)) (.cons h1 .nil))))
            obtain ⟨r1, r2, r3⟩ := sgl (sg_t2 lf)
            exact fin ((s6.trans (same_upd n2)).trans ((same_upd n1).trans ((same_upd n3).trans (same_upd nL)))) (pool_upd q3 nL) (newL q3 nL) (.cons (h3.same (wh_upd nL)) .nil) r1 r2 r3
        dsimp only [tNext]
        clear p6 dx6
        -- a piece
        refine seqS_in (ifS_via (fun b H' => Same H5 H' ∧ (b = true → cr = true)) (fun QQ hQ => ?_) ?_)
        · refine ⟨_, rfl, rfl, _, rfl, ite_any ⟨_, rfl, Nat.zero_le _, fun e ne => ⟨.list [.str _], .list [], .lst (SqL.of ((same_upd ne) _ _ (s6 _ _ hlS))) (.cons (.str _) .nil), .lst (SqL.of upd_same) .nil, by decide +kernel, nilL_shaped, _, rfl, ite_any ⟨_, rfl, cr, rfl, hQ _ _ ⟨s6.trans (same_upd ne), fun z => z⟩⟩ (hQ _ _ ⟨s6.trans (same_upd ne), fun z => nomatch z⟩)⟩⟩ (hQ _ _ ⟨s6, fun z => nomatch z⟩)⟩
        rintro b2 H7 ⟨s7, hb2⟩
        have p7 := p5.same s7
        have dx7 := dx5.same (wh_same s7)
        cases b2 with
        | true =>
          have oc := okd.2 (hb2 rfl)
          refine iteT ⟨_, rfl, _, rfl, by show 1 ≤ sizeLine; decide, fun t1 n1 => ⟨by show 3 ≤ sizeLine; decide, fun t3 n3 => ⟨by show 1 ≤ sizeLine; decide, fun L nL => ?_⟩⟩⟩
          have q1 := pool_upd (x := HO.tup [x]) p7 n1
          have h1 := newT p7 n1 (.cons dx7 .nil)
          have q3 := pool_upd (x := HO.tup [.str "piece", .str "l", .ref t1]) q1 n3
          have h3 := newT q1 n3 (.cons (.str "piece") (.cons (.str "l") (.cons h1 .nil)))
          obtain ⟨r1, r2, r3⟩ := sgl (sg_p1 oc)
          exact fin ((s7.trans (same_upd n1)).trans ((same_upd n3).trans (same_upd nL))) (pool_upd q3 nL) (newL q3 nL) (.cons (h3.same (wh_upd nL)) .nil) r1 r2 r3
        | false =>
        refine iteF ?_
        dsimp only [tNext]
        clear p7 dx7
        -- a lock taken and given
        refine seqS_in (ifS_via (fun _ H' => Same H5 H') (fun QQ hQ => ?_) (fun b H8 s8 => ?_))
        · refine ⟨_, rfl, rfl, _, rfl, ite_any ⟨_, rfl, Nat.zero_le _, fun e ne => ⟨.list [.str _], .list [], .lst (SqL.of ((same_upd ne) _ _ (s7 _ _ hlS))) (.cons (.str _) .nil), .lst (SqL.of upd_same) .nil, by decide +kernel, nilL_shaped, _, rfl, hQ _ _ (s7.trans (same_upd ne))⟩⟩ (hQ _ _ s7)⟩
        have p8 := p5.same s8
        have dx8 := dx5.same (wh_same s8)
        refine ite_any ?_ ?_
        · refine ⟨_, rfl, by show 2 ≤ sizeLine; decide, fun t1 n1 => ⟨_, rfl, _, rfl, by show 2 ≤ sizeLine; decide, fun t2 n2 => ⟨by show 3 ≤ sizeLine; decide, fun L nL => ?_⟩⟩⟩
          have q1 := pool_upd (x := HO.tup [.str "take", .str "l"]) p8 n1
          have h1 := newT (K := K) p8 n1 (.cons (.str "take") (.cons (.str "l") .nil))
          have q2 := pool_upd (x := HO.tup [.str "give", .str "l"]) q1 n2
          have h2 := newT (K := K) q1 n2 (.cons (.str "give") (.cons (.str "l") .nil))
          refine fin ((s8.trans (same_upd n1)).trans ((same_upd n2).trans (same_upd nL))) (pool_upd q2 nL) (newL q2 nL) (.cons ((h1.same (wh_upd n2)).same (wh_upd nL)) (.cons (((dx8.same (wh_upd n1)).same (wh_upd n2)).same (wh_upd nL)) (.cons (h2.same (wh_upd nL)) .nil))) (.lock lf .nil) (List.cons_ne_nil _ _) (lock_len lf)
        dsimp only [tNext]
        clear p8 dx8
        -- a test in a piece
        refine seqS_in (ifS_via (fun b H' => Same H5 H' ∧ (b = true → cr = true)) (fun QQ hQ => ?_) ?_)
        · refine ⟨_, rfl, rfl, _, rfl, ite_any ?_ (hQ _ _ ⟨s8, fun z => nomatch z⟩)⟩
          refine ⟨_, rfl, cr, rfl, ?_⟩
          cases hcr : cr with
          | false => exact iteF (hQ _ _ ⟨s8, fun z => nomatch z⟩)
          | true => exact iteT ⟨_, rfl, Nat.zero_le _, fun e ne => ⟨.list [.str _], .list [], .lst (SqL.of ((same_upd ne) _ _ (s8 _ _ hlS))) (.cons (.str _) .nil), .lst (SqL.of upd_same) .nil, by decide +kernel, nilL_shaped, _, rfl, ite_any ⟨_, rfl, Nat.zero_le _, fun g ng => ⟨.list [.str _], .list [], .lst (SqL.of ((same_upd ng) _ _ ((s8.trans (same_upd ne)) _ _ hmS))) (.cons (.str _) .nil), .lst (SqL.of upd_same) .nil, by decide +kernel, nilL_shaped, _, rfl, hQ _ _ ⟨(s8.trans (same_upd ne)).trans (same_upd ng), fun _ => hcr⟩⟩⟩ (hQ _ _ ⟨s8.trans (same_upd ne), fun z => nomatch z⟩)⟩⟩
        rintro b4 H9 ⟨s9, hb4⟩
        have p9 := p5.same s9
        have dx9 := dx5.same (wh_same s9)
        cases b4 with
        | true =>
          have oc := okd.2 (hb4 rfl)
          refine iteT ⟨_, rfl, _, rfl, ml, _, 0, _, rfl, rfl, SqL.of (s9 _ _ hmS), at0, Nat.zero_le _, fun t2 n2 => ⟨_, rfl, by show 1 ≤ sizeLine; decide, fun t1 n1 => ⟨by show 4 ≤ sizeLine; decide, fun t3 n3 => ⟨by show 1 ≤ sizeLine; decide, fun t4 n4 => ⟨by show 3 ≤ sizeLine; decide, fun t5 n5 => ⟨by show 1 ≤ sizeLine; decide, fun L nL => ?_⟩⟩⟩⟩⟩⟩
          have q2 := pool_upd (x := HO.tup []) p9 n2
          have h2 := newT (K := K) p9 n2 (vs := []) (ds := []) .nil
          have q1 := pool_upd (x := HO.tup [x]) q2 n1
          have h1 := newT q2 n1 (.cons (dx9.same (wh_upd n2)) .nil)
          have q3 := pool_upd (x := HO.tup [.str "test", .str "f", .ref t2, .ref t1]) q1 n3
          have h3 := newT q1 n3 (.cons (.str "test") (.cons (.str "f") (.cons (h2.same (wh_upd n1)) (.cons h1 .nil))))
          have q4 := pool_upd (x := HO.tup [.ref t3]) q3 n4
          have h4 := newT q3 n4 (.cons h3 .nil)
          have q5 := pool_upd (x := HO.tup [.str "piece", .str "l", .ref t4]) q4 n5
          have h5 := newT q4 n5 (.cons (.str "piece") (.cons (.str "l") (.cons h4 .nil)))
          obtain ⟨r1, r2, r3⟩ := sgl (sg_p2 oc)
          exact fin ((s9.trans (same_upd n2)).trans ((same_upd n1).trans ((same_upd n3).trans ((same_upd n4).trans ((same_upd n5).trans (same_upd nL)))))) (pool_upd q5 nL) (newL q5 nL) (.cons (h5.same (wh_upd nL)) .nil) r1 r2 r3
        | false =>
        refine iteF ?_
        dsimp only [tNext]
        -- a choose, or one alone
        refine ⟨_, rfl, rfl, _, rfl, ite_any ?_ ?_⟩
        · refine ⟨_, rfl, by show 1 ≤ sizeLine; decide, fun t1 n1 => ⟨Nat.zero_le _, fun t2 n2 => ⟨by show 3 ≤ sizeLine; decide, fun t3 n3 => ⟨by show 1 ≤ sizeLine; decide, fun L nL => ?_⟩⟩⟩⟩
          have q1 := pool_upd (x := HO.tup [x]) p9 n1
          have h1 := newT p9 n1 (.cons dx9 .nil)
          have q2 := pool_upd (x := HO.tup []) q1 n2
          have h2 := newT (K := K) q1 n2 (vs := []) (ds := []) .nil
          have q3 := pool_upd (x := HO.tup [.str "choose", .ref t1, .ref t2]) q2 n3
          have h3 := newT q2 n3 (.cons (.str "choose") (.cons (h1.same (wh_upd n2)) (.cons h2 .nil)))
          obtain ⟨r1, r2, r3⟩ := sgl (sg_ch lf)
          exact fin ((s9.trans (same_upd n1)).trans ((same_upd n2).trans ((same_upd n3).trans (same_upd nL)))) (pool_upd q3 nL) (newL q3 nL) (.cons (h3.same (wh_upd nL)) .nil) r1 r2 r3
        · refine ⟨_, rfl, by show 1 ≤ sizeLine; decide, fun L nL => ?_⟩
          obtain ⟨r1, r2, r3⟩ := sgl (sg_one lf)
          exact fin (s9.trans (same_upd nL)) (pool_upd p9 nL) (newL p9 nL) (.cons (dx9.same (wh_upd nL)) .nil) r1 r2 r3
end
end Tr

/-! P19 -/
/-! ### a body drawn -/
namespace Tr
open PySem PySem.Spec PyProof.Rows L2 Rw NdefX SuX
def spBdy (K : PySem.W.Frag) : Sp := fun vs H Q _ => ∃ (o qq wl ml ll : Addr) (cr : Bool) (ws : List Str) (most : Nat), vs = [.ref o, .ref wl, .ref ml, .ref ll, .int most, .bl cr] ∧ PoolAt H o qq ∧ wh o H wl = some (.lst (ws.map V.str)) ∧ wh o H ml = some (.lst [.str "f"]) ∧ wh o H ll = some (.lst [.str "l"]) ∧ (ws = [("v" : Str)] ∨ ws = [("v" : Str), "w"]) ∧ 1 ≤ most ∧ most ≤ 4 ∧
  ∀ H' v ds, SameBut o H H' → PoolAt H' o qq → Dp K (wh o H') v (.tuple ds) → Bod ds → ds ≠ [] → (flat ds).length ≤ max 3 most → Q v H'
section
variable {P : Program} {w : World} {K : PySem.W.Frag} {mg : Str → Option Value} {base : Heap}
abbrev sBdy : Stmt := top 56
theorem scBdy : FnScope ["_law_pool_here", "_law_works", "_law_marks", "_law_locks", "_law_most", "_law_crowd", "_law_found", "_law_turn", "_law_more"] ["_law_pool_here", "_law_works", "_law_marks", "_law_locks", "_law_most", "_law_crowd"] (defScope sBdy) := ⟨rfl, rfl, rfl, by decide +kernel, rfl, by decide +kernel, by decide +kernel⟩
theorem ok_bdy {f fB fD fZ : Addr} {fd fdB fdD fdZ : FuncData} (F : Fun K "_law_body" "_law_body" sBdy f fd) (n : Nat) (hn : 7 ≤ n) (GB : FnOk P w K mg base CX0 3 fB fdB ["_law_pool_here", "_law_works", "_law_marks", "_law_locks", "_law_crowd"] (spBlk K)) (TB : Called K mg "_law_block" ["_law_pool_here", "_law_works", "_law_marks", "_law_locks", "_law_crowd"] fB fdB)
    (GD : FnOk P w K mg base CX0 1 fD fdD ["_law_pool_here", "_law_many"] (spDraw K)) (TD : Called K mg "_law_draw" ["_law_pool_here", "_law_many"] fD fdD) (GZ : FnOk P w K mg base CX0 (n + 2) fZ fdZ ["_law_items"] (spSzL K n)) (TZ : Called K mg "_law_size" ["_law_items"] fZ fdZ)
    (m_range : mg "range" = none) (m_tuple : mg "tuple" = none) : FnOk P w K mg base CX0 (n + 4) f fd ["_law_pool_here", "_law_works", "_law_marks", "_law_locks", "_law_most", "_law_crowd"] (spBdy K) := by
  refine F.ok scBdy (fun vs H Q E h => ?_) (fun cdv A outer s H vs Q E hr h => ?_)
  · obtain ⟨o, qq, wl, ml, ll, cr, ws, most, rfl, _⟩ := h
    rfl
  · obtain ⟨o, qq, wl, ml, ll, cr, ws, most, rfl, hp, hw, hm, hl, hws, m1, m4, q⟩ := h
    refine ⟨_, (pss_cons (ps_set (i := 6) scBdy.nd rfl (.inl rfl) (pe_call GB (hr.mono (by first | decide | omega)) rfl TB.1 TB.2.1 TB.2.2 .nil pass0 (pa_cons (pv 0) (pa_cons (pv 1) (pa_cons (pv 2) (pa_cons (pv 3) (pa_cons (pv 5) pa_nil)))))))
       (pss_cons (ps_for PassesOwn.never rfl (pi_range1 rfl m_range (pa_cons (pe_call GD (hr.mono (by first | decide | omega)) rfl TD.1 TD.2.1 TD.2.2 .nil pass0 (pa_cons (pv 0) (pa_cons (pv 4) pa_nil))) pa_nil)) (pg_name (i := 7) scBdy.nd rfl (.inl rfl))
       (pss_cons (ps_set (i := 8) scBdy.nd rfl (.inl rfl) (pe_call GB (hr.mono (by first | decide | omega)) rfl TB.1 TB.2.1 TB.2.2 .nil pass0 (pa_cons (pv 0) (pa_cons (pv 1) (pa_cons (pv 2) (pa_cons (pv 3) (pa_cons (pv 5) pa_nil)))))))
       (pss_one (ps_if (pt_cmpR op_le (pe_call GZ (hr.mono (by first | decide | omega)) rfl TZ.1 TZ.2.1 TZ.2.2 .nil pass0 (pa_cons (pe_op op_cat (pv 6) (pv 8)) pa_nil)) (pv 4) (nomark _))
       (pss_one (ps_set (i := 6) scBdy.nd rfl (.inl rfl) (pe_op op_cat (pv 6) (pv 8))))
       pss_nil))))
       (pss_one (ps_ret (pe_callTy (call_tuple_K (K := K) rfl) (by rfl) m_tuple (by decide +kernel) (pa_cons (pv 6) pa_nil)))))), ?_⟩
    refine ⟨_, rfl, _, rfl, _, rfl, _, rfl, _, rfl, o, qq, wl, ml, ll, cr, ws, rfl, hp, hw, hm, hl, hws, fun H1 l ys ds b1 p1 e1 d1 bd1 ne1 l1 => ?_⟩
    refine name_in ?_
    dsimp only
    refine ⟨_, rfl, _, rfl, o, qq, _, rfl, p1, by omega, by omega, fun H2 k b2 p2 k0 k1 => ?_⟩
    refine ⟨k, rfl, by omega, by omega, for_range (lo := 0) (n := k.toNat)
      (fun i σ H' => ∃ (l : Addr) (ys : List V) (ds : List D) (t1 t2 : Option V), σ = [some (.ref o), some (.ref wl), some (.ref ml), some (.ref ll), some (.int most), some (.bl cr), some (.ref l), t1, t2] ∧ SameBut o H H' ∧ PoolAt H' o qq ∧ wh o H' l = some (.lst ys) ∧ DpAll K (wh o H') ys ds ∧ Bod ds ∧ ds ≠ [] ∧ (flat ds).length ≤ max 3 most)
      ⟨l, ys, ds, none, none, rfl, b1.trans b2, p2, wh_but b2 _ _ e1, d1.same (wh_but b2), bd1, ne1, Nat.le_trans l1 (Nat.le_max_left _ _)⟩ ?_ ?_⟩
    · rintro i σ H3 hi ⟨l, ys, ds, t1, t2, rfl, b3, p3, e3, d3, bd, ne, ln⟩
      refine name_in ?_
      dsimp only
      refine ⟨_, rfl, _, rfl, _, rfl, _, rfl, _, rfl, o, qq, wl, ml, ll, cr, ws, rfl, p3, wh_but b3 _ _ hw, wh_but b3 _ _ hm, wh_but b3 _ _ hl, hws, fun H4 l4 ys4 ds4 b4 p4 e4 d4 bd4 ne4 ln4 => ?_⟩
      refine name_in ?_
      dsimp only
      have e34 := wh_but b4 _ _ e3
      have d34 := d3.same (wh_but b4)
      have z1 := dpl d34
      have z2 := dpl d4
      have z3 := flat_ge ds
      have z4 := flat_ge ds4
      have len8 : ys.length + ys4.length ≤ sizeLine := by
        rw [sizeLine_eq]
        omega
      refine ⟨_, rfl, _, rfl, l, l4, ys, ys4, rfl, rfl, wh_sub _ _ e34, wh_sub _ _ e4, len8, fun L nL => ?_⟩
      have bd8 := bd.app bd4
      have dL : DpAll K (wh o (upd H4 L (.lst (ys ++ ys4)))) (ys ++ ys4) (ds ++ ds4) := (dp_app d34 d4).same (wh_upd nL)
      have pL := pool_upd (x := HO.lst (ys ++ ys4)) p4 nL
      have e34' := wh_upd (o := o) (x := HO.lst (ys ++ ys4)) nL _ _ e34
      have e4' := wh_upd (o := o) (x := HO.lst (ys ++ ys4)) nL _ _ e4
      have d34' := d34.same (wh_upd (o := o) (x := HO.lst (ys ++ ys4)) nL)
      have bL := but_of (x := o) (same_upd (o := HO.lst (ys ++ ys4)) nL)
      have eL : (upd H4 L (.lst (ys ++ ys4))) L = some (.lst (ys ++ ys4)) := upd_same
      generalize upd H4 L (.lst (ys ++ ys4)) = H5 at dL pL e34' e4' d34' bL eL
      refine ⟨wh o H5, L, _, ds ++ ds4, rfl, wh_sub, SqL.of eL, dL, bd8.fits (by rw [List.length_append]; omega) hn, bd8.br, fun H6 s6 => ?_⟩
      refine ⟨_, rfl, _, _, rfl, rfl, _, rfl, ?_⟩
      have b06 := b3.trans (b4.trans (bL.trans (but_of s6)))
      have p6 := pL.same s6
      have e36 := wh_same s6 _ _ e34'
      have e46 := wh_same s6 _ _ e4'
      have d36 := d34'.same (wh_same s6)
      have dL6 := dL.same (wh_same s6)
      by_cases hle : ((flat (ds ++ ds4)).length : Int) ≤ (most : Int)
      · rw [decide_eq_true hle]
        refine iteT ⟨_, rfl, _, rfl, l, l4, ys, ys4, rfl, rfl, wh_sub _ _ e36, wh_sub _ _ e46, len8, fun L2 nL2 => name_in ?_⟩
        refine ⟨L2, ys ++ ys4, ds ++ ds4, _, _, rfl, b06.trans (but_of (same_upd nL2)), pool_upd p6 nL2, wh_new p6 nL2, dL6.same (wh_upd nL2), bd8, by simp [ne], ?_⟩
        exact Nat.le_trans (Int.ofNat_le.mp hle) (Nat.le_max_right _ _)
      · rw [decide_eq_false hle]
        refine iteF ?_
        exact ⟨l, ys, ds, _, _, rfl, b06, p6, e36, d36, bd, ne, ln⟩
    · rintro σ H3 ⟨l, ys, ds, t1, t2, rfl, b3, p3, e3, d3, bd, ne, ln⟩
      refine ⟨_, rfl, l, ys, rfl, .inl ⟨SqL.of (wh_sub _ _ e3), fun t nt => ?_⟩⟩
      exact q _ _ _ (b3.trans (but_of (same_upd nt))) (pool_upd p3 nt) (newT p3 nt d3) bd ne ln
end
end Tr

/-! P20 -/
/-! ### the law -/
namespace Tr
open PySem PySem.Spec PyProof.Rows L2 Rw NdefX SuX
def spLaw (K : PySem.W.Frag) : Sp := fun vs H Q _ => ∃ (a : Addr) (ns : List Int), vs = [.ref a] ∧ SqL K H a (ns.map V.int) ∧ ns.length ≤ 63 ∧ ∀ H', Q (.bl true) H'
theorem dp_mem {K : PySem.W.Frag} {H : Hp} {x : V} : ∀ {xs : List V} {ds : List D}, DpAll K H xs ds → x ∈ xs → ∃ d, d ∈ ds ∧ Dp K H x d
  | _, _, .nil, h => nomatch h
  | _, _, .cons h t, m => by
    cases m with
    | head => exact ⟨_, List.mem_cons_self, h⟩
    | tail _ m =>
      obtain ⟨d, a, b⟩ := dp_mem t m
      exact ⟨d, List.mem_cons_of_mem _ a, b⟩
abbrev oddV (tp lp : Addr) : List V := [.str "", .str "A", .str "a b", .str "abcdefghi", .non, .int 5, .ref tp, .bl true, .ref lp]
/-- the odd things stand at lo -/
def OddAt (K : PySem.W.Frag) (H : Hp) (lo : Addr) : Prop := ∃ tp lp, H lo = some (.lst (oddV tp lp)) ∧ DpAll K H (oddV tp lp) oddN
theorem OddAt.same {K : PySem.W.Frag} {H H' : Hp} {lo : Addr} (s : Same H H') (h : OddAt K H lo) : OddAt K H' lo := let ⟨a, b, c, d⟩ := h; ⟨a, b, s _ _ c, d.same s⟩
abbrev namV (x1 x2 x3 : Str) (tp lp : Addr) : List V := (List.replicate (4 : Int).toNat [V.str x1, V.str x2, V.str x3]).flatten ++ oddV tp lp
/-- a name picked out of three, four times over, and the odd ones -/
theorem pick_nm {K : PySem.W.Frag} {H H3 : Hp} {o qq a3 tp lp : Addr} {x1 x2 x3 : Str} {L : List D} {Q : VK} {E : XK} (s : Same H H3) (p : PoolAt H o qq) (dp : DpAll K (wh o H) (oddV tp lp) oddN) (e3 : H3 a3 = some (.lst (namV x1 x2 x3 tp lp))) (n3 : a3 ≠ o)
    (h1 : PyData.str x1 ∈ L) (h2 : PyData.str x2 ∈ L) (h3 : PyData.str x3 ∈ L) (ho : ∀ d ∈ oddN, d ∈ L) (q : ∀ H' v d, SameBut o H H' → PoolAt H' o qq → Dp K (wh o H') v d → d ∈ L → Q v H') : spPick K [.ref o, .ref a3] H3 Q E := by
  refine ⟨o, qq, a3, _, rfl, p.same s, n3, SqL.of e3, by simp [namV], by show 12 + 9 ≤ 1000; decide, fun H' x b p' hx => ?_⟩
  have b' := (but_of (x := o) s).trans b
  rcases List.mem_append.mp hx with hx | hx
  · have hx : x = .str x1 ∨ x = .str x2 ∨ x = .str x3 := by
      obtain ⟨l, hl, hx⟩ := List.mem_flatten.mp hx
      rw [List.eq_of_mem_replicate hl] at hx
      simpa using hx
    rcases hx with rfl | rfl | rfl
    · exact q _ _ _ b' p' (.str _) h1
    · exact q _ _ _ b' p' (.str _) h2
    · exact q _ _ _ b' p' (.str _) h3
  · obtain ⟨d, hd, hdp⟩ := dp_mem dp hx
    exact q _ _ _ b' p' (hdp.same (wh_but b')) (ho d hd)
theorem odd_nam : (∀ d ∈ oddN, d ∈ namL) ∧ ∀ d ∈ oddN, d ∈ gatL := ⟨fun d h => List.mem_append_right _ h, fun d h => List.mem_append_right _ h⟩
theorem Bod.ok {ds : List D} (h : Bod ds) (l : (flat ds).length ≤ 7) : Fits 10 ds ∧ cntAll ds ≤ 50000 ∧ (ds = [] ∨ (faultL ds = none ∧ (flat ds).length ≤ 7)) := by
  have z := flat_ge ds
  have b := h.bounds
  refine ⟨h.fits (by omega) (by decide), by omega, ?_⟩
  by_cases e : ds = []
  · exact .inl e
  · exact .inr ⟨h.fault e (by omega), l⟩
section
variable {P : Program} {w : World} {K : PySem.W.Frag} {mg : Str → Option Value} {base : Heap}
abbrev sLaw : Stmt := top 62
theorem scLaw : FnScope ["_law_script", "_law_k", "_law_cell", "_law_pool_here", "_law_odd", "_law_turn", "_law_crowd", "_law_items", "_law_name", "_law_gate", "_law_way"] ["_law_script"] (defScope sLaw) := ⟨rfl, rfl, rfl, by decide +kernel, rfl, by decide +kernel, by decide +kernel⟩
theorem ok_law {f fPo fD fB fP fR : Addr} {fd fdPo fdD fdB fdP fdR : FuncData} (F : Fun K "law" "law" sLaw f fd)
    (GPo : FnOk P w K mg base CX0 2 fPo fdPo ["_law_cell", "_law_salt", "_law_many"] (spPool4 K)) (TPo : Called K mg "_law_pool" ["_law_cell", "_law_salt", "_law_many"] fPo fdPo)
    (GD : FnOk P w K mg base CX0 1 fD fdD ["_law_pool_here", "_law_many"] (spDraw K)) (TD : Called K mg "_law_draw" ["_law_pool_here", "_law_many"] fD fdD)
    (GP : FnOk P w K mg base CX0 2 fP fdP ["_law_pool_here", "_law_some"] (spPick K)) (TP : Called K mg "_law_pick" ["_law_pool_here", "_law_some"] fP fdP)
    (GB : FnOk P w K mg base CX0 14 fB fdB ["_law_pool_here", "_law_works", "_law_marks", "_law_locks", "_law_most", "_law_crowd"] (spBdy K)) (TB : Called K mg "_law_body" ["_law_pool_here", "_law_works", "_law_marks", "_law_locks", "_law_most", "_law_crowd"] fB fdB)
    (GR : FnOkG P w K mg base CX0 32 fR fdR ["_law_way", "_law_name", "_law_gate", "_law_items"] (spRt K 10)) (TR : Called K mg "_law_right" ["_law_way", "_law_name", "_law_gate", "_law_items"] fR fdR)
    (m_enumerate : mg "enumerate" = none) (m_int : mg "int" = none) (m_range : mg "range" = none) : FnOkG P w K mg base CX0 34 f fd ["_law_script"] (spLaw K) := by
  refine F.okG scLaw (fun vs H Q E h => ?_) (fun cdv A outer s H vs Q E hgd hr h => ?_)
  · obtain ⟨a, ns, rfl, _⟩ := h
    rfl
  · obtain ⟨a, ns, rfl, hS, hlen, q⟩ := h
    refine ⟨_, (pss_cons (ps_for PassesOwn.never rfl (pi_enum (by rfl) m_enumerate (pa_cons (pe_op op_cat (pe_slice sl_list (pv 0) po_none (po_some pe_int)) (pe_op op_rep (pe_lst (pa_cons pe_int pa_nil)) (pe_callTy call_int1 (by rfl) m_int (by decide +kernel) (pa_cons (pe_cmpR (Nm.op_eqDK (K := K) rfl hr.units) (pv 0) (pe_lst pa_nil) (nomark _)) pa_nil)))) pa_nil)) (pg_tup rfl (pgs_cons (pg_name (i := 1) scLaw.nd rfl (.inl rfl)) (pgs_cons (pg_name (i := 2) scLaw.nd rfl (.inl rfl)) pgs_nil)))
       (pss_cons (ps_set (i := 3) scLaw.nd rfl (.inl rfl) (pe_call GPo (hr.mono (by first | decide | omega)) rfl TPo.1 TPo.2.1 TPo.2.2 .nil pass0 (pa_cons (pv 2) (pa_cons (pe_op op_add pe_int (pv 1)) (pa_cons pe_int pa_nil)))))
       (pss_cons (ps_set (i := 4) scLaw.nd rfl (.inl rfl) (pe_lst (pa_cons pe_str (pa_cons pe_str (pa_cons pe_str (pa_cons pe_str (pa_cons pe_non (pa_cons pe_int (pa_cons (pe_tup (pa_cons pe_str pa_nil)) (pa_cons pe_bl (pa_cons (pe_lst (pa_cons pe_str pa_nil)) pa_nil)))))))))))
       (pss_one (ps_for PassesOwn.never rfl (pi_range1 rfl m_range (pa_cons pe_int pa_nil)) (pg_name (i := 5) scLaw.nd rfl (.inl rfl))
       (pss_cons (ps_set (i := 6) scLaw.nd rfl (.inl rfl) (pe_cmpR op_eq (pe_call GD (hr.mono (by first | decide | omega)) rfl TD.1 TD.2.1 TD.2.2 .nil pass0 (pa_cons (pv 3) (pa_cons pe_int pa_nil))) pe_int (nomark _)))
       (pss_cons (ps_set (i := 7) scLaw.nd rfl (.inl rfl) (pe_call GB (hr.mono (by first | decide | omega)) rfl TB.1 TB.2.1 TB.2.2 .nil pass0 (pa_cons (pv 3) (pa_cons (pe_lst (pa_cons pe_str (pa_cons pe_str pa_nil))) (pa_cons (pe_lst (pa_cons pe_str pa_nil)) (pa_cons (pe_lst (pa_cons pe_str pa_nil)) (pa_cons pe_int (pa_cons (pv 6) pa_nil))))))))
       (pss_cons (ps_if (pt_cmpR op_eq (pe_call GD (hr.mono (by first | decide | omega)) rfl TD.1 TD.2.1 TD.2.2 .nil pass0 (pa_cons (pv 3) (pa_cons pe_int pa_nil))) pe_int (nomark _))
       (pss_one (ps_set (i := 7) scLaw.nd rfl (.inl rfl) (pe_op op_catA (pv 7) (pe_call GB (hr.mono (by first | decide | omega)) rfl TB.1 TB.2.1 TB.2.2 .nil pass0 (pa_cons (pv 3) (pa_cons (pe_lst (pa_cons pe_str pa_nil)) (pa_cons (pe_lst (pa_cons pe_str pa_nil)) (pa_cons (pe_lst (pa_cons pe_str pa_nil)) (pa_cons pe_int (pa_cons (pe_not (pv 6)) pa_nil))))))))))
       pss_nil)
       (pss_cons (ps_set (i := 7) scLaw.nd rfl (.inl rfl) (pe_ifExp (pt_cmpR op_eq (pe_call GD (hr.mono (by first | decide | omega)) rfl TD.1 TD.2.1 TD.2.2 .nil pass0 (pa_cons (pv 3) (pa_cons pe_int pa_nil))) pe_int (nomark _))
       (pe_tup pa_nil)
       (pv 7)))
       (pss_cons (ps_set (i := 8) scLaw.nd rfl (.inl rfl) (pe_call GP (hr.mono (by first | decide | omega)) rfl TP.1 TP.2.1 TP.2.2 .nil pass0 (pa_cons (pv 3) (pa_cons (pe_op op_cat (pe_op op_rep (pe_lst (pa_cons pe_str (pa_cons pe_str (pa_cons pe_str pa_nil)))) pe_int) (pv 4)) pa_nil))))
       (pss_cons (ps_set (i := 9) scLaw.nd rfl (.inl rfl) (pe_call GP (hr.mono (by first | decide | omega)) rfl TP.1 TP.2.1 TP.2.2 .nil pass0 (pa_cons (pv 3) (pa_cons (pe_op op_cat (pe_op op_rep (pe_lst (pa_cons pe_str (pa_cons pe_str (pa_cons pe_str pa_nil)))) pe_int) (pv 4)) pa_nil))))
       (pss_one (ps_for PassesOwn.never rfl (pi_range1 rfl m_range (pa_cons pe_int pa_nil)) (pg_name (i := 10) scLaw.nd rfl (.inl rfl))
       (pss_one (ps_if (pt_not (pt_val (pe_callG GR hgd (hr.mono (by first | decide | omega)) rfl TR.1 TR.2.1 TR.2.2 pass0 (pa_cons (pv 10) (pa_cons (pv 8) (pa_cons (pv 9) (pa_cons (pv 7) pa_nil)))))))
       (pss_one (ps_ret pe_bl))
       pss_nil)))))))))))))))
       (pss_one (ps_ret pe_bl))), ?_⟩
    refine ⟨.ref a, rfl, 6, rfl, a, ns.map V.int, rfl, hS, fun c nc => ?_⟩
    have t0 := same_upd (o := HO.lst (cutV (ns.map V.int) none (some 6))) nc
    refine ⟨(by show 1 ≤ sizeLine; decide), fun l nl => ?_⟩
    have t1 := same_upd (o := HO.lst [V.int 7]) nl
    refine ⟨.ref a, rfl, (by show 0 ≤ sizeLine; decide), fun e ne => ?_⟩
    have t2 := same_upd (o := HO.lst []) ne
    refine ⟨.list (ns.map .int), .list [], .lst (((t0.trans t1).trans t2).seq hS) (dp_ints ns), .lst (SqL.of upd_same) .nil, shaped_ints ns, (by decide), ?_⟩
    generalize PyData.eqv (.list (ns.map .int)) (.list []) = b
    refine .inr ⟨b, rfl, ?_⟩
    have hb : ∃ k : Nat, k ≤ 1 ∧ (if b = true then (1 : Int) else 0) = k := by
      cases b
      · exact ⟨0, by decide, rfl⟩
      · exact ⟨1, by decide, rfl⟩
    obtain ⟨kb, hk1, hkb⟩ := hb
    rw [hkb]
    obtain ⟨ms, hms, hml⟩ := ints_of_cut ns 6 kb
    refine ⟨l, kb, _, rfl, rfl, t2 _ _ upd_same, by omega, by omega, ?_, fun r nr => ?_⟩
    · show 1 * ((kb : Int)).toNat ≤ sizeLine
      rw [sizeLine_eq]
      omega
    have t3 := same_upd (o := HO.lst (List.replicate ((kb : Int)).toNat [V.int 7]).flatten) nr
    refine ⟨c, r, _, _, rfl, rfl, ((t1.trans t2).trans t3) _ _ upd_same, upd_same, ?_, fun L nL => ?_⟩
    · have z : (cutV (ns.map V.int) none (some 6)).length ≤ (ns.map V.int).length := cutV_length _ _ _
      have z2 : (List.replicate ((kb : Int)).toNat [V.int 7]).flatten.length ≤ 1 := by
        match kb, hk1 with
        | 0, _ => decide
        | 1, _ => decide
      rw [List.length_map] at z
      rw [sizeLine_eq]
      omega
    have t4 := same_upd (o := HO.lst (cutV (ns.map V.int) none (some 6) ++ (List.replicate ((kb : Int)).toNat [V.int 7]).flatten)) nL
    have hms' : cutV (ns.map V.int) none (some 6) ++ (List.replicate ((kb : Int)).toNat [V.int 7]).flatten = ms.map V.int := hms
    rw [hms']
    rw [hms'] at t4
    have hml2 : ms.length ≤ 64 := by omega
    refine ⟨L, ms.map V.int, rfl, SqL.of upd_same, for_enum (K := K) (a := L) (xs := ms.map V.int)
      (fun i σ H' => ∃ v1 v2 v3 v4 v5 v6 v7 v8 v9 v10 : Option V, σ = [some (.ref a), v1, v2, v3, v4, v5, v6, v7, v8, v9, v10] ∧ H' L = some (.lst (ms.map V.int)))
      ⟨none, none, none, none, none, none, none, none, none, none, rfl, upd_same⟩ (fun i σ H' _ ⟨_, _, _, _, _, _, _, _, _, _, _, hL⟩ => SqL.of hL) ?_ ?_⟩
    · rintro i x σ H1 T1 hxi ⟨v1, v2, v3, v4, v5, v6, v7, v8, v9, v10, rfl, hL⟩ nT
      have hi : i < ms.length := by
        have z := (List.getElem?_eq_some_iff.mp hxi).1
        rw [List.length_map] at z
        exact z
      obtain ⟨cell, rfl⟩ : ∃ cell : Int, x = .int cell := by
        rw [List.getElem?_map] at hxi
        obtain ⟨y, _, hy⟩ := Option.map_eq_some_iff.mp hxi
        exact ⟨y, hy.symm⟩
      have u0 := same_upd (o := .tup [.int (i : Nat), .int cell]) nT
      refine ⟨T1, _, rfl, SqT.of upd_same, rfl, _, _, rfl, _, _, rfl, rfl, ?_⟩
      refine ⟨_, rfl, _, rfl, _, _, rfl, rfl, cell, 600 + (i : Nat), 120, rfl, by omega, by omega, by decide, by decide, fun H2 o qq s2 no p2 => name_in ?_⟩
      have s02 := u0.trans s2
      have hL2 := s02 _ _ hL
      have nLo : L ≠ o := ne_of_none (u0 _ _ hL) no
      -- the odd things
      refine ⟨by show 1 ≤ sizeLine; decide, fun tp n1 => ⟨by show 1 ≤ sizeLine; decide, fun lp n2 => ⟨by show 9 ≤ sizeLine; decide, fun lo n3 => name_in ?_⟩⟩⟩
      have q1 := pool_upd (x := HO.tup [.str "a"]) p2 n1
      have h1 := newT (K := K) p2 n1 (.cons (.str "a") .nil)
      have q2 := pool_upd (x := HO.lst [.str "a"]) q1 n2
      have h2 := newL (vs := [V.str "a"]) q1 n2
      have q3 := pool_upd (x := HO.lst (oddV tp lp)) q2 n3
      have h3 := newL (vs := oddV tp lp) q2 n3
      have w3 := wh_upd (o := o) (x := HO.lst (oddV tp lp)) n3
      have od : OddAt K (wh o (upd (upd (upd H2 tp (.tup [.str "a"])) lp (.lst [.str "a"])) lo (.lst (oddV tp lp)))) lo := ⟨tp, lp, h3, .cons (.str _) (.cons (.str _) (.cons (.str _) (.cons (.str _) (.cons .non (.cons (.int _) (.cons ((h1.same (wh_upd n2)).same w3) (.cons (.bl _) (.cons (.lst (SqL.of (w3 _ _ h2)) (.cons (.str _) .nil)) .nil))))))))⟩
      have hL3 := ((same_upd (o := HO.tup [.str "a"]) n1).trans ((same_upd (o := HO.lst [.str "a"]) n2).trans (same_upd (o := HO.lst (oddV tp lp)) n3))) _ _ hL2
      generalize upd (upd (upd H2 tp (.tup [.str "a"])) lp (.lst [.str "a"])) lo (.lst (oddV tp lp)) = H3 at q3 od hL3
      clear q1 q2 h1 h2 h3 w3 n1 n2 n3
      -- four turns
      refine ⟨4, rfl, by decide, by decide, for_range (lo := 0) (n := 4)
        (fun j σ H' => ∃ v5 v6 v7 v8 v9 v10 : Option V, σ = [some (.ref a), some (.int (i : Nat)), some (.int cell), some (.ref o), some (.ref lo), v5, v6, v7, v8, v9, v10] ∧ H' L = some (.lst (ms.map V.int)) ∧ PoolAt H' o qq ∧ OddAt K (wh o H') lo)
        ⟨v5, v6, v7, v8, v9, v10, rfl, hL3, q3, od⟩ ?_ ?_⟩
      · rintro j σ H4 hj ⟨v5, v6, v7, v8, v9, v10, rfl, hL4, p4, od4⟩
        refine name_in ?_
        dsimp only
        refine seqS_in (asg_via (fun v H' => ∃ cr, v = .bl cr ∧ SameBut o H4 H' ∧ PoolAt H' o qq) (fun Qx hQ => ?_) ?_)
        · refine ⟨_, rfl, o, qq, _, rfl, p4, by decide, by decide, fun H5 m b5 p5 m0 m1 => ⟨rfl, hQ _ _ ⟨_, rfl, b5, p5⟩⟩⟩
        rintro v H5 ⟨cr, rfl, b5, p5⟩
        refine name_in ?_
        dsimp only
        -- items
        refine seqS_in (asg_via (fun v H' => ∃ pt xs ds, v = .ref pt ∧ SqT K (wh o H') pt xs ∧ DpAll K (wh o H') xs ds ∧ Bod ds ∧ (flat ds).length ≤ 4 ∧ SameBut o H4 H' ∧ PoolAt H' o qq) (fun Qx hQ => ?_) ?_)
        · refine ⟨_, rfl, by show 2 ≤ sizeLine; decide, fun l1 n1 => ⟨by show 1 ≤ sizeLine; decide, fun l2 n2 => ⟨by show 1 ≤ sizeLine; decide, fun l3 n3 => ⟨_, rfl, ?_⟩⟩⟩⟩
          have r1 := pool_upd (x := HO.lst [.str "v", .str "w"]) p5 n1
          have g1 := newL (vs := [V.str "v", V.str "w"]) p5 n1
          have r2 := pool_upd (x := HO.lst [.str "f"]) r1 n2
          have g2 := newL (vs := [V.str "f"]) r1 n2
          have r3 := pool_upd (x := HO.lst [.str "l"]) r2 n3
          have g3 := newL (vs := [V.str "l"]) r2 n3
          have bb := but_of (x := o) ((same_upd (o := HO.lst [.str "v", .str "w"]) n1).trans ((same_upd (o := HO.lst [.str "f"]) n2).trans (same_upd (o := HO.lst [.str "l"]) n3)))
          refine ⟨o, qq, l1, l2, l3, cr, ["v", "w"], 4, rfl, r3, wh_upd n3 _ _ (wh_upd n2 _ _ g1), wh_upd n3 _ _ g2, g3, .inr rfl, by decide, by decide, fun H' v ds b p dp bd ne ln => ?_⟩
          cases dp with
          | @tup pt xs _ h1 h2 => exact hQ _ _ ⟨pt, xs, ds, rfl, h1, h2, bd, ln, b5.trans (bb.trans b), p⟩
        rintro v H6 ⟨pt, xs, ds, rfl, hpt, hxs, bd, ln, b6, p6⟩
        refine name_in ?_
        dsimp only
        -- some more
        refine seqS_in (ifS_join (fun σ' H' => ∃ pt xs ds, σ' = [some (.ref a), some (.int (i : Nat)), some (.int cell), some (.ref o), some (.ref lo), some (.int (0 + (j : Int))), some (.bl cr), some (.ref pt), v8, v9, v10] ∧ SqT K (wh o H') pt xs ∧ DpAll K (wh o H') xs ds ∧ Bod ds ∧ (flat ds).length ≤ 7 ∧ SameBut o H4 H' ∧ PoolAt H' o qq) ?hG ?h)
        case h =>
          intro done
          refine ⟨_, rfl, o, qq, _, rfl, p6, by decide, by decide, fun H7 m b7 p7 m0 m1 => ⟨rfl, _, rfl, ite_any ?_ ?_⟩⟩
          · refine ⟨_, rfl, _, rfl, by show 1 ≤ sizeLine; decide, fun l1 n1 => ⟨by show 1 ≤ sizeLine; decide, fun l2 n2 => ⟨by show 1 ≤ sizeLine; decide, fun l3 n3 => ⟨_, rfl, cr, rfl, ?_⟩⟩⟩⟩
            have r1 := pool_upd (x := HO.lst [.str "v"]) p7 n1
            have g1 := newL (vs := [V.str "v"]) p7 n1
            have r2 := pool_upd (x := HO.lst [.str "f"]) r1 n2
            have g2 := newL (vs := [V.str "f"]) r1 n2
            have r3 := pool_upd (x := HO.lst [.str "l"]) r2 n3
            have g3 := newL (vs := [V.str "l"]) r2 n3
            have bb := but_of (x := o) ((same_upd (o := HO.lst [.str "v"]) n1).trans ((same_upd (o := HO.lst [.str "f"]) n2).trans (same_upd (o := HO.lst [.str "l"]) n3)))
            refine ⟨o, qq, l1, l2, l3, !cr, ["v"], 2, rfl, r3, wh_upd n3 _ _ (wh_upd n2 _ _ g1), wh_upd n3 _ _ g2, g3, .inl rfl, by decide, by decide, fun H8 v8' ds8 b8 p8 dp8 bd8 ne8 ln8 => ?_⟩
            cases dp8 with
            | @tup pt8 xs8 _ h1 h2 =>
            have b68 := b7.trans (bb.trans b8)
            have w68 := wh_but b68
            have z1 := dpl hxs
            have z2 := dpl h2
            have z3 := flat_ge ds
            have z4 := flat_ge ds8
            have ln8 : (flat ds8).length ≤ 3 := ln8
            refine cat_any (wh_sub.tupS (w68.tupS hpt)) (wh_sub.tupS h1) (by omega) fun H9 p9 s9 hp9 => name_in (done _ _ ⟨p9, _, ds ++ ds8, rfl, sqT_wh (p8.same s9) hp9, dp_app (hxs.same ((w68).trans (wh_same s9))) (h2.same (wh_same s9)), bd.app bd8, ?_, b6.trans (b68.trans (but_of s9)), p8.same s9⟩)
            rw [flat_app, List.length_append]
            omega
          · exact done _ _ ⟨pt, xs, ds, rfl, (wh_but b7).tupS hpt, hxs.same (wh_but b7), bd, Nat.le_trans ln (by decide), b6.trans b7, p7⟩
        case hG =>
          rintro σ H7 ⟨pt, xs, ds, rfl, hpt, hxs, bd, ln, b7, p7⟩
          dsimp only
          refine seqS_in (asg_via (fun v H' => ∃ pt xs ds, v = .ref pt ∧ SqT K (wh o H') pt xs ∧ DpAll K (wh o H') xs ds ∧ Bod ds ∧ (flat ds).length ≤ 7 ∧ SameBut o H4 H' ∧ PoolAt H' o qq) (fun Qx hQ => ?_) ?_)
          · refine ⟨_, rfl, o, qq, _, rfl, p7, by decide, by decide, fun H8 m b8 p8 m0 m1 => ⟨rfl, _, rfl, ite_any ?_ ?_⟩⟩
            · refine ⟨Nat.zero_le _, fun e ne => hQ _ _ ⟨e, [], [], rfl, SqT.of (wh_new p8 ne), .nil, .nil, by rw [nil_facts.1]; exact Nat.zero_le _, b7.trans (b8.trans (but_of (same_upd ne))), pool_upd p8 ne⟩⟩
            · exact ⟨_, rfl, hQ _ _ ⟨pt, xs, ds, rfl, (wh_but b8).tupS hpt, hxs.same (wh_but b8), bd, ln, b7.trans b8, p8⟩⟩
          clear hpt hxs bd ln b7 p7
          rintro v H8 ⟨pt, xs, ds, rfl, hpt, hxs, bd, ln, b8, p8⟩
          refine name_in ?_
          dsimp only
          have od8 := od4.same (wh_but b8)
          -- a name
          refine seqS_in (asg_via (fun v H' => ∃ d, Dp K (wh o H') v d ∧ d ∈ namL ∧ SameBut o H8 H' ∧ PoolAt H' o qq) (fun Qx hQ => ?_) ?_)
          · obtain ⟨tp', lp', e2, dp⟩ := od8
            refine ⟨_, rfl, by show 3 ≤ sizeLine; decide, fun a1 n1 => ⟨a1, 4, _, rfl, rfl, upd_same, by decide, by decide, by show 3 * 4 ≤ sizeLine; decide, fun a2 n2 => ⟨_, rfl, a2, lo, _, oddV tp' lp', rfl, rfl, upd_same, ?_, by show 12 + 9 ≤ sizeLine; decide, fun a3 n3 => ?_⟩⟩⟩
            · exact (same_upd n2) _ _ ((same_upd n1) _ _ (wh_sub _ _ e2))
            · have s13 := (same_upd (o := HO.lst [.str "v", .str "abcdefgh", .str "use"]) n1).trans ((same_upd (o := HO.lst (List.replicate (4 : Int).toNat [V.str "v", V.str "abcdefgh", V.str "use"]).flatten) n2).trans (same_upd (o := HO.lst (namV "v" "abcdefgh" "use" tp' lp')) n3))
              refine pick_nm (E := E0) s13 p8 dp upd_same (pool_ne (p8.same ((same_upd n1).trans (same_upd n2))) n3) (L := namL) (by simp [namL]) (by simp [namL]) (by simp [namL]) odd_nam.1 fun H' v d b p d' m => hQ _ _ ⟨d, d', m, b, p⟩
          rintro v9' H9 ⟨nd, d9, m9, b9, p9⟩
          refine name_in ?_
          dsimp only
          have od9 := od8.same (wh_but b9)
          -- a gate
          refine seqS_in (asg_via (fun v H' => ∃ d, Dp K (wh o H') v d ∧ d ∈ gatL ∧ SameBut o H9 H' ∧ PoolAt H' o qq) (fun Qx hQ => ?_) ?_)
          · obtain ⟨tp', lp', e2, dp⟩ := od9
            refine ⟨_, rfl, by show 3 ≤ sizeLine; decide, fun a1 n1 => ⟨a1, 4, _, rfl, rfl, upd_same, by decide, by decide, by show 3 * 4 ≤ sizeLine; decide, fun a2 n2 => ⟨_, rfl, a2, lo, _, oddV tp' lp', rfl, rfl, upd_same, ?_, by show 12 + 9 ≤ sizeLine; decide, fun a3 n3 => ?_⟩⟩⟩
            · exact (same_upd n2) _ _ ((same_upd n1) _ _ (wh_sub _ _ e2))
            · have s13 := (same_upd (o := HO.lst [.str "a", .str "v", .str "gates"]) n1).trans ((same_upd (o := HO.lst (List.replicate (4 : Int).toNat [V.str "a", V.str "v", V.str "gates"]).flatten) n2).trans (same_upd (o := HO.lst (namV "a" "v" "gates" tp' lp')) n3))
              refine pick_nm (E := E0) s13 p9 dp upd_same (pool_ne (p9.same ((same_upd n1).trans (same_upd n2))) n3) (L := gatL) (by simp [gatL]) (by simp [gatL]) (by simp [gatL]) odd_nam.2 fun H' v d b p d' m => hQ _ _ ⟨d, d', m, b, p⟩
          rintro v10' H10 ⟨gd, d10, m10, b10, p10⟩
          refine name_in ?_
          dsimp only
          have od10 := od9.same (wh_but b10)
          have b810 := b9.trans b10
          have hL10 := (b8.trans b810) _ _ nLo hL4
          have dI : Dp K H10 (.ref pt) (.tuple ds) := .tup (wh_sub.tupS ((wh_but b810).tupS hpt)) ((hxs.same (wh_but b810)).same wh_sub)
          have dN : Dp K H10 v9' nd := (d9.same (wh_but b10)).same wh_sub
          have dG : Dp K H10 v10' gd := d10.same wh_sub
          obtain ⟨k1, k2, k3⟩ := bd.ok ln
          -- the three ways
          refine ⟨3, rfl, by decide, by decide, for_range (lo := 0) (n := 3)
            (fun k σ H' => ∃ v10 : Option V, σ = [some (.ref a), some (.int (i : Nat)), some (.int cell), some (.ref o), some (.ref lo), some (.int (0 + (j : Int))), some (.bl cr), some (.ref pt), some v9', some v10', v10] ∧ Same H10 H')
            ⟨_, rfl, Same.refl _⟩ ?_ ?_⟩
          · rintro k σ H11 hk ⟨v11, rfl, s11⟩
            refine name_in ?_
            dsimp only
            refine ⟨_, rfl, _, rfl, _, rfl, _, rfl, k, v9', v10', .ref pt, nd, gd, ds, by rw [Int.zero_add]; rfl, hk, dN.same s11, dG.same s11, dI.same s11, m9, m10, k1, k2, k3, fun H12 s12 => ⟨_, rfl, ?_⟩⟩
            exact iteF ⟨_, rfl, s11.trans s12⟩
          · rintro σ H11 ⟨v11, rfl, s11⟩
            exact ⟨_, _, _, _, _, _, rfl, s11 _ _ hL10, p10.same s11, od10.same (wh_same s11)⟩
      · rintro σ H4 ⟨v5, v6, v7, v8, v9, v10, rfl, hL4, _⟩
        exact ⟨_, _, _, _, _, _, _, _, _, _, rfl, hL4⟩
    · rintro σ H1 ⟨v1, v2, v3, v4, v5, v6, v7, v8, v9, v10, rfl, hL⟩
      exact q H1
end
end Tr

/-! P25 -/
/-! ### what the top has written -/
namespace Tr
open PySem PySem.Spec PyProof.Rows L2 Rw NdefX SuX
open PySem.W (findIn typeIn keepIn codeIn subIn nsIn hasDictIn mroIn specialIn takesIn kitOne isFn selfFirst makesIn plainGet plainOver exmOne notFirst)
def cdOkB (P : Program) (K : PySem.W.Frag) (cda : Addr) : Bool := match K.lookup cda with
  | some ⟨_, _, .fields vs, _⟩ => (match (vs[2]? : Option Value) with | some (.str file _) => ((P.main.file : Str) == file) | _ => false)
  | _ => false
theorem cd_of {P : Program} {K : PySem.W.Frag} {cda : Addr} (h : cdOkB P K cda = true) : ∃ ccl cdd vs ccs file tf, K.lookup cda = some ⟨ccl, cdd, .fields vs, ccs⟩ ∧ vs[2]? = some (.str file tf) ∧ ((P.main.file : Str) == file) = true := by
  unfold cdOkB at h
  split at h
  · next ccl cdd vs ccs e =>
    split at h
    · next file tf e2 => exact ⟨ccl, cdd, vs, ccs, file, tf, e, e2, h⟩
    · cases h
  · cases h
section
variable {P : Program} {w : World} {K : PySem.W.Frag} {mg : Str → Option Value} {base : Heap}
theorem ok_shapes {fI fS fM fF fN fK fB iw pw : Addr} {fdI fdS fdM fdF fdN fdK fdB : FuncData} (FI : Fun K "is_inner" "is_inner" sIn fI fdI) (FS : Fun K "is_shaped" "is_shaped" sSh fS fdS) (FM : Fun K "misshapen" "misshapen" sMis fM fdM)
    (TI : Called K mg "is_inner" ["value"] fI fdI) (TS : Called K mg "is_shaped" ["value", "around"] fS fdS) (TM : Called K mg "misshapen" ["items", "around"] fM fdM) (TF : Called K mg "flat" ["items"] fF fdF) (TN : Called K mg "is_name" ["value"] fN fdN) (TK : Called K mg "is_fork" ["value"] fK fdK) (TB : Called K mg "branches" ["item"] fB fdB)
    (GF : ∀ n, FnOk P w K mg base CX0 (n + 2) fF fdF ["items"] (spFlat K n)) (GN : FnOk P w K mg base CX0 1 fN fdN ["value"] (spName K)) (GK : FnOk P w K mg base CX0 2 fK fdK ["value"] (spFork K)) (GB : FnOk P w K mg base CX0 1 fB fdB ["item"] (spBr K))
    (m_isinstance : mg "isinstance" = none) (m_tuple : mg "tuple" = none) (m_all : mg "all" = none) (m_len : mg "len" = none) (m_str : mg "str" = none)
    (gI : mg "INNER_WORDS" = some (.ref iw)) (hI : ∀ H, SqT K H iw (inner3.map V.str)) {tI : Tok} (mI : mg "MOST_INNER" = some (.int 4 tI)) (gP : mg "PLAIN_WORDS" = some (.ref pw)) (hP : ∀ H, SqT K H pw (plain6.map V.str)) {tW : Tok} (mW : mg "MOST_WITHIN" = some (.int 3 tW)) :
    ∀ n, FnOk P w K mg base CX0 (2 * n + 3) fI fdI ["value"] (spInn K n) ∧ FnOk P w K mg base CX0 (2 * n + 3) fS fdS ["value", "around"] (spSh K n) ∧ FnOk P w K mg base CX0 (2 * n + 4) fM fdM ["items", "around"] (spMis K n) := by
  intro n
  induction n with
  | zero =>
    refine ⟨?_, ?_, ?_⟩
    · refine FI.ok scIn (fun vs H Q E h => ?_) (fun cdv A outer s H vs Q E hr h => ?_)
      · obtain ⟨v, d, rfl, _⟩ := h
        rfl
      · obtain ⟨v, d, rfl, _, ft, _⟩ := h
        exact absurd ft.dep (Nat.not_lt_zero _)
    · refine FS.ok scSh (fun vs H Q E h => ?_) (fun cdv A outer s H vs Q E hr h => ?_)
      · obtain ⟨v, d, a, rfl, _⟩ := h
        rfl
      · obtain ⟨v, d, a, rfl, _, ft, _⟩ := h
        exact absurd ft.dep (Nat.not_lt_zero _)
    · refine FM.ok scMis (fun vs H Q E h => ?_) (fun cdv A outer s H vs Q E hr h => ?_)
      · obtain ⟨p, xs, ds, a, rfl, _⟩ := h
        rfl
      · obtain ⟨p, xs, ds, a, rfl, _, _, ft, _⟩ := h
        exact absurd ft.dep (Nat.not_lt_zero _)
  | succ n ih =>
    obtain ⟨gI0, _, gM0⟩ := ih
    have a := ok_inn FI TM TF n gM0 (GF n) m_isinstance m_tuple m_all m_len gI hI mI
    have b := ok_sh FS TN TI TK n GN gI0 GK m_isinstance m_tuple m_str m_len gP hP mW
    exact ⟨a, b, ok_mis FM TM TS TB n b gM0 GB⟩
theorem ok_ways {fA fO fF fB : Addr} {fdA fdO fdF fdB : FuncData} (FA : Fun K "ways_along" "ways_along" sWA fA fdA) (FO : Fun K "ways_of" "ways_of" sWO fO fdO) (TA : Called K mg "ways_along" ["items", "start", "behind"] fA fdA) (TO : Called K mg "ways_of" ["item", "place", "follows"] fO fdO) (TF : Called K mg "flat" ["items"] fF fdF) (TB : Called K mg "branches" ["item"] fB fdB)
    (GF : ∀ n, FnOk P w K mg base CX0 (n + 2) fF fdF ["items"] (spFlat K n)) (GB : FnOk P w K mg base CX0 1 fB fdB ["item"] (spBr K)) (m_enumerate : mg "enumerate" = none) (m_len : mg "len" = none) :
    ∀ n, FnOk P w K mg base CX0 (2 * n + 3) fO fdO ["item", "place", "follows"] (spWO K n) ∧ FnOk P w K mg base CX0 (2 * n + 4) fA fdA ["items", "start", "behind"] (spWA K n) := by
  intro n
  induction n with
  | zero =>
    have a : FnOk P w K mg base CX0 (2 * 0 + 3) fO fdO ["item", "place", "follows"] (spWO K 0) := by
      refine FO.ok scWO (fun vs H Q E h => ?_) (fun cdv A outer s H vs Q E hr h => ?_)
      · obtain ⟨v, d, s, b, rfl, _⟩ := h
        rfl
      · obtain ⟨v, d, s, b, rfl, _, ft, _⟩ := h
        exact absurd ft.dep (Nat.not_lt_zero _)
    exact ⟨a, ok_wa FA TF TO 0 (GF 0) a m_enumerate m_len⟩
  | succ n ih =>
    have a := ok_wo FO TF TB TA n (GF n) GB ih.2 m_len
    exact ⟨a, ok_wa FA TF TO (n + 1) (GF (n + 1)) a m_enumerate m_len⟩
end
def cwf (cW cG cK : Addr) : Nat → Addr
  | 0 => cW
  | 1 => cG
  | _ => cK
def nmf : Nat → Str
  | 0 => "Work"
  | 1 => "Guest"
  | _ => "Crowd"
def kitB (K : PySem.W.Frag) (cI cC cU cB cW cGt cG cK : Addr) : Bool := (exmOne K (.ref cU) (.ref cU) == some true) && ((exmOne K (.ref cI) (.ref cU) == some false) && ((exmOne K (.ref cI) (.ref cI) == some true) && ((exmOne K (.ref cC) (.ref cU) == some false) && ((exmOne K (.ref cC) (.ref cI) == some false) && ((exmOne K (.ref cC) (.ref cC) == some true) && ((kitOne K (.type "NoneType") (.ref cW) == some false) && ((kitOne K (.type "NoneType") (.ref cGt) == some false) && ((kitOne K (.type "str") (.ref cW) == some false) && ((kitOne K (.type "str") (.ref cGt) == some false) && ((kitOne K (.type "tuple") (.ref cW) == some false) && ((kitOne K (.type "tuple") (.ref cGt) == some false) && ((kitOne K (.type "list") (.ref cW) == some false) && ((kitOne K (.type "list") (.ref cGt) == some false) && ((kitOne K (.ref cB) (.ref cW) == some false) && ((kitOne K (.ref cB) (.ref cGt) == some false) && ((kitOne K (.ref cW) (.ref cW) == some true) && ((kitOne K (.ref cG) (.ref cW) == some false) && ((kitOne K (.ref cK) (.ref cW) == some false) && ((kitOne K (.ref cW) (.ref cGt) == some false) && ((kitOne K (.ref cG) (.ref cGt) == some true) && ((kitOne K (.ref cK) (.ref cGt) == some true) && ((kitOne K (.ref cW) (.type "list") == some false) && ((subIn K (.ref cW) (.type "NoneType") == some false) && ((subIn K (.ref cW) (.type "str") == some false) && ((subIn K (.ref cW) (.type "tuple") == some false) && ((subIn K (.ref cW) (.ref cB) == some true) && ((subIn K (.ref cW) (.type "object") == some true) && ((notFirst K cW (.type "list") == true) && ((notFirst K cW (.ref cW) == true) && ((notFirst K cW (.ref cG) == true) && ((notFirst K cW (.ref cK) == true) && (((cB != cW) == true) && ((kitOne K (.ref cG) (.type "list") == some false) && ((subIn K (.ref cG) (.type "NoneType") == some false) && ((subIn K (.ref cG) (.type "str") == some false) && ((subIn K (.ref cG) (.type "tuple") == some false) && ((subIn K (.ref cG) (.ref cB) == some true) && ((subIn K (.ref cG) (.type "object") == some true) && ((notFirst K cG (.type "list") == true) && ((notFirst K cG (.ref cW) == true) && ((notFirst K cG (.ref cG) == true) && ((notFirst K cG (.ref cK) == true) && (((cB != cG) == true) && ((kitOne K (.ref cK) (.type "list") == some false) && ((subIn K (.ref cK) (.type "NoneType") == some false) && ((subIn K (.ref cK) (.type "str") == some false) && ((subIn K (.ref cK) (.type "tuple") == some false) && ((subIn K (.ref cK) (.ref cB) == some true) && ((subIn K (.ref cK) (.type "object") == some true) && ((notFirst K cK (.type "list") == true) && ((notFirst K cK (.ref cW) == true) && ((notFirst K cK (.ref cG) == true) && ((notFirst K cK (.ref cK) == true) && (((cB != cK) == true) && (((PySem.W.clsIn K cW).isSome == true) && (((PySem.W.clsIn K cGt).isSome == true) && (((PySem.W.clsIn K cG).isSome == true) && ((PySem.W.clsIn K cK).isSome == true))))))))))))))))))))))))))))))))))))))))))))))))))))))))))
theorem kit_of_B {K : PySem.W.Frag} {cI cC cU cB cW cGt cG cK : Addr} (h : kitB K cI cC cU cB cW cGt cG cK = true) : (exmOne K (.ref cU) (.ref cU) = some true) ∧ ((exmOne K (.ref cI) (.ref cU) = some false) ∧ ((exmOne K (.ref cI) (.ref cI) = some true) ∧ ((exmOne K (.ref cC) (.ref cU) = some false) ∧ ((exmOne K (.ref cC) (.ref cI) = some false) ∧ ((exmOne K (.ref cC) (.ref cC) = some true) ∧ ((kitOne K (.type "NoneType") (.ref cW) = some false) ∧ ((kitOne K (.type "NoneType") (.ref cGt) = some false) ∧ ((kitOne K (.type "str") (.ref cW) = some false) ∧ ((kitOne K (.type "str") (.ref cGt) = some false) ∧ ((kitOne K (.type "tuple") (.ref cW) = some false) ∧ ((kitOne K (.type "tuple") (.ref cGt) = some false) ∧ ((kitOne K (.type "list") (.ref cW) = some false) ∧ ((kitOne K (.type "list") (.ref cGt) = some false) ∧ ((kitOne K (.ref cB) (.ref cW) = some false) ∧ ((kitOne K (.ref cB) (.ref cGt) = some false) ∧ ((kitOne K (.ref cW) (.ref cW) = some true) ∧ ((kitOne K (.ref cG) (.ref cW) = some false) ∧ ((kitOne K (.ref cK) (.ref cW) = some false) ∧ ((kitOne K (.ref cW) (.ref cGt) = some false) ∧ ((kitOne K (.ref cG) (.ref cGt) = some true) ∧ ((kitOne K (.ref cK) (.ref cGt) = some true) ∧ ((kitOne K (.ref cW) (.type "list") = some false) ∧ ((subIn K (.ref cW) (.type "NoneType") = some false) ∧ ((subIn K (.ref cW) (.type "str") = some false) ∧ ((subIn K (.ref cW) (.type "tuple") = some false) ∧ ((subIn K (.ref cW) (.ref cB) = some true) ∧ ((subIn K (.ref cW) (.type "object") = some true) ∧ ((notFirst K cW (.type "list") = true) ∧ ((notFirst K cW (.ref cW) = true) ∧ ((notFirst K cW (.ref cG) = true) ∧ ((notFirst K cW (.ref cK) = true) ∧ (((cB != cW) = true) ∧ ((kitOne K (.ref cG) (.type "list") = some false) ∧ ((subIn K (.ref cG) (.type "NoneType") = some false) ∧ ((subIn K (.ref cG) (.type "str") = some false) ∧ ((subIn K (.ref cG) (.type "tuple") = some false) ∧ ((subIn K (.ref cG) (.ref cB) = some true) ∧ ((subIn K (.ref cG) (.type "object") = some true) ∧ ((notFirst K cG (.type "list") = true) ∧ ((notFirst K cG (.ref cW) = true) ∧ ((notFirst K cG (.ref cG) = true) ∧ ((notFirst K cG (.ref cK) = true) ∧ (((cB != cG) = true) ∧ ((kitOne K (.ref cK) (.type "list") = some false) ∧ ((subIn K (.ref cK) (.type "NoneType") = some false) ∧ ((subIn K (.ref cK) (.type "str") = some false) ∧ ((subIn K (.ref cK) (.type "tuple") = some false) ∧ ((subIn K (.ref cK) (.ref cB) = some true) ∧ ((subIn K (.ref cK) (.type "object") = some true) ∧ ((notFirst K cK (.type "list") = true) ∧ ((notFirst K cK (.ref cW) = true) ∧ ((notFirst K cK (.ref cG) = true) ∧ ((notFirst K cK (.ref cK) = true) ∧ (((cB != cK) = true) ∧ (((PySem.W.clsIn K cW).isSome = true) ∧ (((PySem.W.clsIn K cGt).isSome = true) ∧ (((PySem.W.clsIn K cG).isSome = true) ∧ ((PySem.W.clsIn K cK).isSome = true)))))))))))))))))))))))))))))))))))))))))))))))))))))))))) := by
  unfold kitB at h
  simp only [Bool.and_eq_true, beq_iff_eq] at h
  exact h
theorem all_mk {P : Program} {w : World} {K : PySem.W.Frag} {h : Heap} {mg : Str → Option Value} {fa : Addr} (X : K.In h) (G : h.Ns mainGlobals mg) (hfa : mg "law" = some (.ref fa))
    {cD : Addr}
    {nmI qI : Str} {NI : Addr} {bsI : List Value} {snI : List Str} {subI : List Value} {abI : Bool} {colI : Option Bool} {ddI : Option Addr} {m0I m1I m2I m3I m5I : Option Value} {cI fI : Addr}
    {nmC qC : Str} {NC : Addr} {bsC : List Value} {snC : List Str} {subC : List Value} {abC : Bool} {colC : Option Bool} {ddC : Option Addr} {m0C m1C m2C m3C m5C : Option Value} {cC fC : Addr}
    {nmU qU : Str} {NU : Addr} {bsU : List Value} {snU : List Str} {subU : List Value} {abU : Bool} {colU : Option Bool} {ddU : Option Addr} {m0U m1U m2U m3U m5U : Option Value} {cU fU : Addr}
    {cB cW cGt cG cK : Addr}
    {fBI fWI fGI fUI fKI : Addr}
    {odXB : Option Addr} {cdXB : ClassData} {slXB : Array (Option Value)} {tkXB : Tok}
    {odXW : Option Addr} {cdXW : ClassData} {slXW : Array (Option Value)} {tkXW : Tok}
    {odXG : Option Addr} {cdXG : ClassData} {slXG : Array (Option Value)} {tkXG : Tok}
    {odXK : Option Addr} {cdXK : ClassData} {slXK : Array (Option Value)} {tkXK : Tok}
    {fEW fEU fEK fKdW fKdU fKdK : Addr}
    {pLW pLU pLK pCo pSz pGa fLbW fLbU fLbK fCo fSize fGate : Addr} {rLW rLU rLK rCo rSz rGa : List Value}
    {ccWI cdaWI : Addr} {ocWI dcWI pmWI ctWI kVWI : Value} {odWI anWI : Option Addr} {slWI : Array (Option Value)} {clWI : Value} {cldWI : Option Addr} {cslWI : Array (Option Value)}
    {ccGI cdaGI : Addr} {ocGI dcGI pmGI ctGI kVGI : Value} {odGI anGI : Option Addr} {slGI : Array (Option Value)} {clGI : Value} {cldGI : Option Addr} {cslGI : Array (Option Value)}
    {ccUI cdaUI : Addr} {ocUI dcUI pmUI ctUI kVUI : Value} {odUI anUI : Option Addr} {slUI : Array (Option Value)} {clUI : Value} {cldUI : Option Addr} {cslUI : Array (Option Value)}
    {ccKI cdaKI : Addr} {ocKI dcKI pmKI ctKI kVKI : Value} {odKI anKI : Option Addr} {slKI : Array (Option Value)} {clKI : Value} {cldKI : Option Addr} {cslKI : Array (Option Value)}
    {aPW : Addr} {odPW : Option Addr} {kPW0 kPW1 kPW2 kPW3 kPW4 kPW5 : Tok} {nPW : Nat} {slPW : Array (Option Value)}
    {aIW : Addr} {odIW : Option Addr} {kIW0 kIW1 kIW2 : Tok} {nIW : Nat} {slIW : Array (Option Value)}
    {aCW : Addr} {odCW : Option Addr} {kCW0 kCW1 kCW2 kCW3 kCW4 : Tok} {nCW : Nat} {slCW : Array (Option Value)}
    {tL tM tN tW : Tok}
    {fName : Addr} {ocName dcName pmName cdName ctName kVName : Value} {odName anName : Option Addr} {slName : Array (Option Value)}
    {fTups : Addr} {ocTups dcTups pmTups cdTups ctTups kVTups : Value} {odTups anTups : Option Addr} {slTups : Array (Option Value)}
    {fFork : Addr} {ocFork dcFork pmFork cdFork ctFork kVFork : Value} {odFork anFork : Option Addr} {slFork : Array (Option Value)}
    {fBr : Addr} {ocBr dcBr pmBr cdBr ctBr kVBr : Value} {odBr anBr : Option Addr} {slBr : Array (Option Value)}
    {fBeh : Addr} {ocBeh dcBeh pmBeh cdBeh ctBeh kVBeh : Value} {odBeh anBeh : Option Addr} {slBeh : Array (Option Value)}
    {fFlat : Addr} {ocFlat dcFlat pmFlat cdFlat ctFlat kVFlat : Value} {odFlat anFlat : Option Addr} {slFlat : Array (Option Value)}
    {fInn : Addr} {ocInn dcInn pmInn cdInn ctInn kVInn : Value} {odInn anInn : Option Addr} {slInn : Array (Option Value)}
    {fShp : Addr} {ocShp dcShp pmShp cdShp ctShp kVShp : Value} {odShp anShp : Option Addr} {slShp : Array (Option Value)}
    {fMis : Addr} {ocMis dcMis pmMis cdMis ctMis kVMis : Value} {odMis anMis : Option Addr} {slMis : Array (Option Value)}
    {fWr : Addr} {ocWr dcWr pmWr cdWr ctWr kVWr : Value} {odWr anWr : Option Addr} {slWr : Array (Option Value)}
    {fWL : Addr} {ocWL dcWL pmWL cdWL ctWL kVWL : Value} {odWL anWL : Option Addr} {slWL : Array (Option Value)}
    {fHl : Addr} {ocHl dcHl pmHl cdHl ctHl kVHl : Value} {odHl anHl : Option Addr} {slHl : Array (Option Value)}
    {fEach : Addr} {ocEach dcEach pmEach cdEach ctEach kVEach : Value} {odEach anEach : Option Addr} {slEach : Array (Option Value)}
    {fCB : Addr} {ocCB dcCB pmCB cdCB ctCB kVCB : Value} {odCB anCB : Option Addr} {slCB : Array (Option Value)}
    {fWA : Addr} {ocWA dcWA pmWA cdWA ctWA kVWA : Value} {odWA anWA : Option Addr} {slWA : Array (Option Value)}
    {fWO : Addr} {ocWO dcWO pmWO cdWO ctWO kVWO : Value} {odWO anWO : Option Addr} {slWO : Array (Option Value)}
    {fAl : Addr} {ocAl dcAl pmAl cdAl ctAl kVAl : Value} {odAl anAl : Option Addr} {slAl : Array (Option Value)}
    {fEq : Addr} {ocEq dcEq pmEq cdEq ctEq kVEq : Value} {odEq anEq : Option Addr} {slEq : Array (Option Value)}
    {fCN : Addr} {ocCN dcCN pmCN cdCN ctCN kVCN : Value} {odCN anCN : Option Addr} {slCN : Array (Option Value)}
    {fCP : Addr} {ocCP dcCP pmCP cdCP ctCP kVCP : Value} {odCP anCP : Option Addr} {slCP : Array (Option Value)}
    {fCCr : Addr} {ocCCr dcCCr pmCCr cdCCr ctCCr kVCCr : Value} {odCCr anCCr : Option Addr} {slCCr : Array (Option Value)}
    {fNum : Addr} {ocNum dcNum pmNum cdNum ctNum kVNum : Value} {odNum anNum : Option Addr} {slNum : Array (Option Value)}
    {fPool : Addr} {ocPool dcPool pmPool cdPool ctPool kVPool : Value} {odPool anPool : Option Addr} {slPool : Array (Option Value)}
    {fDr : Addr} {ocDr dcDr pmDr cdDr ctDr kVDr : Value} {odDr anDr : Option Addr} {slDr : Array (Option Value)}
    {fPk : Addr} {ocPk dcPk pmPk cdPk ctPk kVPk : Value} {odPk anPk : Option Addr} {slPk : Array (Option Value)}
    {fTu : Addr} {ocTu dcTu pmTu cdTu ctTu kVTu : Value} {odTu anTu : Option Addr} {slTu : Array (Option Value)}
    {fSz : Addr} {ocSz dcSz pmSz cdSz ctSz kVSz : Value} {odSz anSz : Option Addr} {slSz : Array (Option Value)}
    {fLF : Addr} {ocLF dcLF pmLF cdLF ctLF kVLF : Value} {odLF anLF : Option Addr} {slLF : Array (Option Value)}
    {fBdy : Addr} {ocBdy dcBdy pmBdy cdBdy ctBdy kVBdy : Value} {odBdy anBdy : Option Addr} {slBdy : Array (Option Value)}
    {fBlk : Addr} {ocBlk dcBlk pmBlk cdBlk ctBlk kVBlk : Value} {odBlk anBlk : Option Addr} {slBlk : Array (Option Value)}
    {fHd : Addr} {ocHd dcHd pmHd cdHd ctHd kVHd : Value} {odHd anHd : Option Addr} {slHd : Array (Option Value)}
    {fLNm : Addr} {ocLNm dcLNm pmLNm cdLNm ctLNm kVLNm : Value} {odLNm anLNm : Option Addr} {slLNm : Array (Option Value)}
    {fDu : Addr} {ocDu dcDu pmDu cdDu ctDu kVDu : Value} {odDu anDu : Option Addr} {slDu : Array (Option Value)}
    {fRt : Addr} {ocRt dcRt pmRt cdRt ctRt kVRt : Value} {odRt anRt : Option Addr} {slRt : Array (Option Value)}
    {fL : Addr} {ocL dcL pmL cdL ctL kVL : Value} {odL anL : Option Addr} {slL : Array (Option Value)}
    {ocII dcII pmII cdII ctII kVII : Value} {odII anII : Option Addr} {slII : Array (Option Value)}
    {ocNC dcNC pmNC cdNC ctNC kVNC : Value} {odNC anNC : Option Addr} {slNC : Array (Option Value)}
    {ocUN dcUN pmUN cdUN ctUN kVUN : Value} {odUN anUN : Option Addr} {slUN : Array (Option Value)}
    {ocBI dcBI pmBI cdBI ctBI kVBI : Value} {odBI anBI : Option Addr} {slBI : Array (Option Value)}
    {ocCo dcCo pmCo cdCo ctCo kVCo : Value} {odCo anCo : Option Addr} {slCo : Array (Option Value)}
    {ocSize dcSize pmSize cdSize ctSize kVSize : Value} {odSize anSize : Option Addr} {slSize : Array (Option Value)}
    {ocLbW dcLbW pmLbW cdLbW ctLbW kVLbW : Value} {odLbW anLbW : Option Addr} {slLbW : Array (Option Value)}
    {ocLbU dcLbU pmLbU cdLbU ctLbU kVLbU : Value} {odLbU anLbU : Option Addr} {slLbU : Array (Option Value)}
    {ocLbK dcLbK pmLbK cdLbK ctLbK kVLbK : Value} {odLbK anLbK : Option Addr} {slLbK : Array (Option Value)}
    {ocGate dcGate pmGate cdGate ctGate kVGate : Value} {odGate anGate : Option Addr} {slGate : Array (Option Value)}
    {ocKdW dcKdW pmKdW cdKdW ctKdW kVKdW : Value} {odKdW anKdW : Option Addr} {slKdW : Array (Option Value)}
    {ocKdU dcKdU pmKdU cdKdU ctKdU kVKdU : Value} {odKdU anKdU : Option Addr} {slKdU : Array (Option Value)}
    {ocKdK dcKdK pmKdK cdKdK ctKdK kVKdK : Value} {odKdK anKdK : Option Addr} {slKdK : Array (Option Value)}
    {ocEW dcEW pmEW cdEW ctEW kVEW : Value} {odEW anEW : Option Addr} {slEW : Array (Option Value)}
    {ocEU dcEU pmEU cdEU ctEU kVEU : Value} {odEU anEU : Option Addr} {slEU : Array (Option Value)}
    {ocEK dcEK pmEK cdEK ctEK kVEK : Value} {odEK anEK : Option Addr} {slEK : Array (Option Value)}
    (aI : nsIn K mainGlobals "InvalidItem" = some (some (.ref cI)))
    (xI : K.lookup cI = some (excClassObj nmI qI cI NI bsI [.ref cD, .type "Exception", .type "BaseException", .type "object"] true snI subI abI colI ddI m0I m1I m2I m3I m5I "Exception.__new__"))
    (saI : findIn K (.ref cI) "__setattr__" = some (some (.builtin "object.__setattr__")))
    (gaI : findIn K (.ref cI) "__getattribute__" = some (some (.builtin "BaseException.__getattribute__")))
    (ggI : findIn K (.ref cI) "__getattr__" = some none)
    (nI_place : findIn K (.ref cI) "place" = some none)
    (iI : findIn K (.ref cI) "__init__" = some (some (.ref fI)))
    (tI : typeIn K (.ref fI) = some (.type "function"))
    (kCI : keepIn K (.ref cI) = true)
    (eCI : subIn K (.ref cI) (.type "BaseException") = some true)
    (tCI : typeIn K (.ref cI) = some (.type "type"))
    (hCI : hasDictIn K cI = true)
    (haI : findIn K (.ref cI) "__class__" = some (some (.builtin "object.__class__")))
    (hmI : mroIn K cI (.type "object") = some true)
    (aC : nsIn K mainGlobals "NotACrowd" = some (some (.ref cC)))
    (xC : K.lookup cC = some (excClassObj nmC qC cC NC bsC [.ref cD, .type "Exception", .type "BaseException", .type "object"] true snC subC abC colC ddC m0C m1C m2C m3C m5C "Exception.__new__"))
    (saC : findIn K (.ref cC) "__setattr__" = some (some (.builtin "object.__setattr__")))
    (gaC : findIn K (.ref cC) "__getattribute__" = some (some (.builtin "BaseException.__getattribute__")))
    (ggC : findIn K (.ref cC) "__getattr__" = some none)
    (nC_name : findIn K (.ref cC) "name" = some none)
    (nC_place : findIn K (.ref cC) "place" = some none)
    (iC : findIn K (.ref cC) "__init__" = some (some (.ref fC)))
    (tC : typeIn K (.ref fC) = some (.type "function"))
    (kCC : keepIn K (.ref cC) = true)
    (eCC : subIn K (.ref cC) (.type "BaseException") = some true)
    (tCC : typeIn K (.ref cC) = some (.type "type"))
    (hCC : hasDictIn K cC = true)
    (haC : findIn K (.ref cC) "__class__" = some (some (.builtin "object.__class__")))
    (hmC : mroIn K cC (.type "object") = some true)
    (aU : nsIn K mainGlobals "UnknownName" = some (some (.ref cU)))
    (xU : K.lookup cU = some (excClassObj nmU qU cU NU bsU [.type "LookupError", .type "Exception", .type "BaseException", .type "object"] true snU subU abU colU ddU m0U m1U m2U m3U m5U "LookupError.__new__"))
    (saU : findIn K (.ref cU) "__setattr__" = some (some (.builtin "object.__setattr__")))
    (gaU : findIn K (.ref cU) "__getattribute__" = some (some (.builtin "BaseException.__getattribute__")))
    (ggU : findIn K (.ref cU) "__getattr__" = some none)
    (nU_name : findIn K (.ref cU) "name" = some none)
    (iU : findIn K (.ref cU) "__init__" = some (some (.ref fU)))
    (tU : typeIn K (.ref fU) = some (.type "function"))
    (kCU : keepIn K (.ref cU) = true)
    (eCU : subIn K (.ref cU) (.type "BaseException") = some true)
    (tCU : typeIn K (.ref cU) = some (.type "type"))
    (hCU : hasDictIn K cU = true)
    (haU : findIn K (.ref cU) "__class__" = some (some (.builtin "object.__class__")))
    (hmU : mroIn K cU (.type "object") = some true)
    (hn : specialIn K (.builtin "object.__class__") "__get__" = some (some (.builtin "getset_descriptor.__get__")))
    (ht : takesIn K (.builtin "object.__class__") = some true)
    (aGt : nsIn K mainGlobals "Gated" = some (some (.ref cGt)))
    (inGt : findIn K (.ref cGt) "__init__" = some (some (.ref fGI)))
    (aXB : nsIn K mainGlobals "Body" = some (some (.ref cB)))
    (pgB : plainGet K cB Str.empty = true)
    (hdB : hasDictIn K cB = true)
    (poB : plainOver K cB = true)
    (sXB : findIn K (.ref cB) "__setattr__" = some (some (.builtin "object.__setattr__")))
    (vB_code : findIn K (.ref cB) "_code" = some none)
    (vB_listed : findIn K (.ref cB) "_listed" = some none)
    (vB_ways : findIn K (.ref cB) "_ways" = some none)
    (vB_held : findIn K (.ref cB) "_held" = some none)
    (vB_label : findIn K (.ref cB) "_label" = some none)
    (vB_gate : findIn K (.ref cB) "_gate" = some none)
    (mkB : makesIn K cB = true)
    (kXB : keepIn K (.ref cB) = true)
    (atB : PySem.W.findCls K (.ref cB) (.type "type") "__name__" = some (.get (.builtin "getset_descriptor.__get__") (.builtin "type.__name__") (.ref cB) (.type "type")))
    (obB : K.lookup cB = some ⟨.type "type", odXB, .cls cdXB, slXB⟩)
    (nameB : Str.ofString cdXB.name.toString = ("Body" : Str))
    (slotB : (slXB[2]?).join = some (.str "Body" tkXB))
    (pgcB : plainGet K cB "__class__" = true)
    (rdB : PySem.W.readsIn K cB (.type "type") = true)
    (hXB : findIn K (.ref cB) "__class__" = some (some (.builtin "object.__class__")))
    (hmB2 : mroIn K cB (.type "object") = some true)
    (inB : findIn K (.ref cB) "__init__" = some (some (.ref fBI)))
    (ifB : isFn K (.ref fBI) = true)
    (aXW : nsIn K mainGlobals "Work" = some (some (.ref cW)))
    (pgW : plainGet K cW Str.empty = true)
    (hdW : hasDictIn K cW = true)
    (poW : plainOver K cW = true)
    (sXW : findIn K (.ref cW) "__setattr__" = some (some (.builtin "object.__setattr__")))
    (vW_code : findIn K (.ref cW) "_code" = some none)
    (vW_listed : findIn K (.ref cW) "_listed" = some none)
    (vW_ways : findIn K (.ref cW) "_ways" = some none)
    (vW_held : findIn K (.ref cW) "_held" = some none)
    (vW_label : findIn K (.ref cW) "_label" = some none)
    (vW_gate : findIn K (.ref cW) "_gate" = some none)
    (mkW : makesIn K cW = true)
    (kXW : keepIn K (.ref cW) = true)
    (atW : PySem.W.findCls K (.ref cW) (.type "type") "__name__" = some (.get (.builtin "getset_descriptor.__get__") (.builtin "type.__name__") (.ref cW) (.type "type")))
    (obW : K.lookup cW = some ⟨.type "type", odXW, .cls cdXW, slXW⟩)
    (nameW : Str.ofString cdXW.name.toString = ("Work" : Str))
    (slotW : (slXW[2]?).join = some (.str "Work" tkXW))
    (pgcW : plainGet K cW "__class__" = true)
    (rdW : PySem.W.readsIn K cW (.type "type") = true)
    (hXW : findIn K (.ref cW) "__class__" = some (some (.builtin "object.__class__")))
    (hmW2 : mroIn K cW (.type "object") = some true)
    (inW : findIn K (.ref cW) "__init__" = some (some (.ref fWI)))
    (ifW : isFn K (.ref fWI) = true)
    (aXG : nsIn K mainGlobals "Guest" = some (some (.ref cG)))
    (pgG : plainGet K cG Str.empty = true)
    (hdG : hasDictIn K cG = true)
    (poG : plainOver K cG = true)
    (sXG : findIn K (.ref cG) "__setattr__" = some (some (.builtin "object.__setattr__")))
    (vG_code : findIn K (.ref cG) "_code" = some none)
    (vG_listed : findIn K (.ref cG) "_listed" = some none)
    (vG_ways : findIn K (.ref cG) "_ways" = some none)
    (vG_held : findIn K (.ref cG) "_held" = some none)
    (vG_label : findIn K (.ref cG) "_label" = some none)
    (vG_gate : findIn K (.ref cG) "_gate" = some none)
    (mkG : makesIn K cG = true)
    (kXG : keepIn K (.ref cG) = true)
    (atG : PySem.W.findCls K (.ref cG) (.type "type") "__name__" = some (.get (.builtin "getset_descriptor.__get__") (.builtin "type.__name__") (.ref cG) (.type "type")))
    (obG : K.lookup cG = some ⟨.type "type", odXG, .cls cdXG, slXG⟩)
    (nameG : Str.ofString cdXG.name.toString = ("Guest" : Str))
    (slotG : (slXG[2]?).join = some (.str "Guest" tkXG))
    (pgcG : plainGet K cG "__class__" = true)
    (rdG : PySem.W.readsIn K cG (.type "type") = true)
    (hXG : findIn K (.ref cG) "__class__" = some (some (.builtin "object.__class__")))
    (hmG2 : mroIn K cG (.type "object") = some true)
    (inG : findIn K (.ref cG) "__init__" = some (some (.ref fUI)))
    (ifG : isFn K (.ref fUI) = true)
    (aXK : nsIn K mainGlobals "Crowd" = some (some (.ref cK)))
    (pgK : plainGet K cK Str.empty = true)
    (hdK : hasDictIn K cK = true)
    (poK : plainOver K cK = true)
    (sXK : findIn K (.ref cK) "__setattr__" = some (some (.builtin "object.__setattr__")))
    (vK_code : findIn K (.ref cK) "_code" = some none)
    (vK_listed : findIn K (.ref cK) "_listed" = some none)
    (vK_ways : findIn K (.ref cK) "_ways" = some none)
    (vK_held : findIn K (.ref cK) "_held" = some none)
    (vK_label : findIn K (.ref cK) "_label" = some none)
    (vK_gate : findIn K (.ref cK) "_gate" = some none)
    (mkK : makesIn K cK = true)
    (kXK : keepIn K (.ref cK) = true)
    (atK : PySem.W.findCls K (.ref cK) (.type "type") "__name__" = some (.get (.builtin "getset_descriptor.__get__") (.builtin "type.__name__") (.ref cK) (.type "type")))
    (obK : K.lookup cK = some ⟨.type "type", odXK, .cls cdXK, slXK⟩)
    (nameK : Str.ofString cdXK.name.toString = ("Crowd" : Str))
    (slotK : (slXK[2]?).join = some (.str "Crowd" tkXK))
    (pgcK : plainGet K cK "__class__" = true)
    (rdK : PySem.W.readsIn K cK (.type "type") = true)
    (hXK : findIn K (.ref cK) "__class__" = some (some (.builtin "object.__class__")))
    (hmK2 : mroIn K cK (.type "object") = some true)
    (inK : findIn K (.ref cK) "__init__" = some (some (.ref fKI)))
    (ifK : isFn K (.ref fKI) = true)
    (eqW : findIn K (.ref cW) "__eq__" = some (some (.ref fEW)))
    (efW : isFn K (.ref fEW) = true)
    (neW : findIn K (.ref cW) "__ne__" = some (some (.builtin "object.__ne__")))
    (plW : findIn K (.ref cW) "label" = some (some (.ref pLW)))
    (pcW : findIn K (.ref cW) "code" = some (some (.ref pCo)))
    (pzW : findIn K (.ref cW) "size" = some (some (.ref pSz)))
    (kdW : findIn K (.ref cW) "kind" = some (some (.ref fKdW)))
    (kdfW : isFn K (.ref fKdW) = true)
    (eqG : findIn K (.ref cG) "__eq__" = some (some (.ref fEU)))
    (efG : isFn K (.ref fEU) = true)
    (neG : findIn K (.ref cG) "__ne__" = some (some (.builtin "object.__ne__")))
    (plG : findIn K (.ref cG) "label" = some (some (.ref pLU)))
    (pcG : findIn K (.ref cG) "code" = some (some (.ref pCo)))
    (pzG : findIn K (.ref cG) "size" = some (some (.ref pSz)))
    (paG : findIn K (.ref cG) "gate" = some (some (.ref pGa)))
    (kdG : findIn K (.ref cG) "kind" = some (some (.ref fKdU)))
    (kdfG : isFn K (.ref fKdU) = true)
    (eqK : findIn K (.ref cK) "__eq__" = some (some (.ref fEK)))
    (efK : isFn K (.ref fEK) = true)
    (neK : findIn K (.ref cK) "__ne__" = some (some (.builtin "object.__ne__")))
    (plK : findIn K (.ref cK) "label" = some (some (.ref pLK)))
    (pcK : findIn K (.ref cK) "code" = some (some (.ref pCo)))
    (pzK : findIn K (.ref cK) "size" = some (some (.ref pSz)))
    (paK : findIn K (.ref cK) "gate" = some (some (.ref pGa)))
    (kdK : findIn K (.ref cK) "kind" = some (some (.ref fKdK)))
    (kdfK : isFn K (.ref fKdK) = true)
    (g_pLW : specialIn K (.ref pLW) "__get__" = some (some (.builtin "property.__get__")))
    (t_pLW : takesIn K (.ref pLW) = some true)
    (r_pLW : PySem.W.recIn K pLW "property" = some (.ref fLbW :: rLW))
    (g_pLU : specialIn K (.ref pLU) "__get__" = some (some (.builtin "property.__get__")))
    (t_pLU : takesIn K (.ref pLU) = some true)
    (r_pLU : PySem.W.recIn K pLU "property" = some (.ref fLbU :: rLU))
    (g_pLK : specialIn K (.ref pLK) "__get__" = some (some (.builtin "property.__get__")))
    (t_pLK : takesIn K (.ref pLK) = some true)
    (r_pLK : PySem.W.recIn K pLK "property" = some (.ref fLbK :: rLK))
    (g_pCo : specialIn K (.ref pCo) "__get__" = some (some (.builtin "property.__get__")))
    (t_pCo : takesIn K (.ref pCo) = some true)
    (r_pCo : PySem.W.recIn K pCo "property" = some (.ref fCo :: rCo))
    (g_pSz : specialIn K (.ref pSz) "__get__" = some (some (.builtin "property.__get__")))
    (t_pSz : takesIn K (.ref pSz) = some true)
    (r_pSz : PySem.W.recIn K pSz "property" = some (.ref fSize :: rSz))
    (g_pGa : specialIn K (.ref pGa) "__get__" = some (some (.builtin "property.__get__")))
    (t_pGa : takesIn K (.ref pGa) = some true)
    (r_pGa : PySem.W.recIn K pGa "property" = some (.ref fGate :: rGa))
    (st : nsIn K cStatics "thirdparty.any" = some none)
    (suW1 : mroIn K cW (.ref cW) = some true)
    (suW2 : PySem.W.ks_superIn K cW cW "__init__" = some (some (.ref fBI)))
    (suG1 : mroIn K cG (.ref cGt) = some true)
    (suG2 : PySem.W.ks_superIn K cG cGt "__init__" = some (some (.ref fBI)))
    (suK1 : mroIn K cK (.ref cGt) = some true)
    (suK2 : PySem.W.ks_superIn K cK cGt "__init__" = some (some (.ref fBI)))
    (su2G1 : mroIn K cG (.ref cG) = some true)
    (su2G2 : PySem.W.ks_superIn K cG cG "__init__" = some (some (.ref fGI)))
    (su2K1 : mroIn K cK (.ref cK) = some true)
    (su2K2 : PySem.W.ks_superIn K cK cK "__init__" = some (some (.ref fGI)))
    (ty_fBI : typeIn K (.ref fBI) = some (.type "function"))
    (fi_fBI : PySem.W.fnIn K fBI = true)
    (ty_fGI : typeIn K (.ref fGI) = some (.type "function"))
    (fi_fGI : PySem.W.fnIn K fGI = true)
    (lWI : K.lookup fWI = some ⟨ocWI, odWI, .func (PySem.W.fnX "__init__" "Work.__init__" (defArgs sWI) (defBody sWI) (defScope sWI) [("__class__", ccWI)] .none kVWI dcWI pmWI anWI (.ref cdaWI) ctWI), slWI⟩)
    (cc_WI : codeIn K (.ref cdaWI) "Work.__init__" = true)
    (kfWI : keepIn K (.ref fWI) = true)
    (cl_WI : K.lookup ccWI = some ⟨clWI, cldWI, .cell (some (.ref cW)), cslWI⟩)
    (cd_WI : cdOkB P K cdaWI = true)
    (lGI : K.lookup fGI = some ⟨ocGI, odGI, .func (PySem.W.fnX "__init__" "Gated.__init__" (defArgs sGI) (defBody sGI) (defScope sGI) [("__class__", ccGI)] .none kVGI dcGI pmGI anGI (.ref cdaGI) ctGI), slGI⟩)
    (cc_GI : codeIn K (.ref cdaGI) "Gated.__init__" = true)
    (kfGI : keepIn K (.ref fGI) = true)
    (cl_GI : K.lookup ccGI = some ⟨clGI, cldGI, .cell (some (.ref cGt)), cslGI⟩)
    (cd_GI : cdOkB P K cdaGI = true)
    (lUI : K.lookup fUI = some ⟨ocUI, odUI, .func (PySem.W.fnX "__init__" "Guest.__init__" (defArgs sUI) (defBody sUI) (defScope sUI) [("__class__", ccUI)] .none kVUI dcUI pmUI anUI (.ref cdaUI) ctUI), slUI⟩)
    (cc_UI : codeIn K (.ref cdaUI) "Guest.__init__" = true)
    (kfUI : keepIn K (.ref fUI) = true)
    (cl_UI : K.lookup ccUI = some ⟨clUI, cldUI, .cell (some (.ref cG)), cslUI⟩)
    (cd_UI : cdOkB P K cdaUI = true)
    (lKI : K.lookup fKI = some ⟨ocKI, odKI, .func (PySem.W.fnX "__init__" "Crowd.__init__" (defArgs sKI) (defBody sKI) (defScope sKI) [("__class__", ccKI)] .none kVKI dcKI pmKI anKI (.ref cdaKI) ctKI), slKI⟩)
    (cc_KI : codeIn K (.ref cdaKI) "Crowd.__init__" = true)
    (kfKI : keepIn K (.ref fKI) = true)
    (cl_KI : K.lookup ccKI = some ⟨clKI, cldKI, .cell (some (.ref cK)), cslKI⟩)
    (cd_KI : cdOkB P K cdaKI = true)
    (sup0 : (P.main.scope.names.lookup ("super" : Str)).isSome = false)
    (gPW : nsIn K mainGlobals "PLAIN_WORDS" = some (some (.ref aPW)))
    (lPW : K.lookup aPW = some ⟨.type "tuple", odPW, .seq #[.str "start" kPW0, .str "cancel" kPW1, .str "set" kPW2, .str "clear" kPW3, .str "take" kPW4, .str "give" kPW5] nPW, slPW⟩)
    (gIW : nsIn K mainGlobals "INNER_WORDS" = some (some (.ref aIW)))
    (lIW : K.lookup aIW = some ⟨.type "tuple", odIW, .seq #[.str "use" kIW0, .str "start" kIW1, .str "test" kIW2] nIW, slIW⟩)
    (gCW : nsIn K mainGlobals "CROWD_WORDS" = some (some (.ref aCW)))
    (lCW : K.lookup aCW = some ⟨.type "tuple", odCW, .seq #[.str "use" kCW0, .str "start" kCW1, .str "test" kCW2, .str "choose" kCW3, .str "piece" kCW4] nCW, slCW⟩)
    (gML : nsIn K mainGlobals "MOST_LETTERS" = some (some (.int 8 tL)))
    (gMI : nsIn K mainGlobals "MOST_ITEMS" = some (some (.int 8 tM)))
    (gMN : nsIn K mainGlobals "MOST_INNER" = some (some (.int 4 tN)))
    (gMW : nsIn K mainGlobals "MOST_WITHIN" = some (some (.int 3 tW)))
    (aName : nsIn K mainGlobals "is_name" = some (some (.ref fName)))
    (aTups : nsIn K mainGlobals "are_tuples" = some (some (.ref fTups)))
    (aFork : nsIn K mainGlobals "is_fork" = some (some (.ref fFork)))
    (aBr : nsIn K mainGlobals "branches" = some (some (.ref fBr)))
    (aBeh : nsIn K mainGlobals "locks_behind" = some (some (.ref fBeh)))
    (aFlat : nsIn K mainGlobals "flat" = some (some (.ref fFlat)))
    (aInn : nsIn K mainGlobals "is_inner" = some (some (.ref fInn)))
    (aShp : nsIn K mainGlobals "is_shaped" = some (some (.ref fShp)))
    (aMis : nsIn K mainGlobals "misshapen" = some (some (.ref fMis)))
    (aWr : nsIn K mainGlobals "is_wrong" = some (some (.ref fWr)))
    (aWL : nsIn K mainGlobals "wrong_locks" = some (some (.ref fWL)))
    (aHl : nsIn K mainGlobals "held_along" = some (some (.ref fHl)))
    (aEach : nsIn K mainGlobals "check_each" = some (some (.ref fEach)))
    (aCB : nsIn K mainGlobals "check_body" = some (some (.ref fCB)))
    (aWA : nsIn K mainGlobals "ways_along" = some (some (.ref fWA)))
    (aWO : nsIn K mainGlobals "ways_of" = some (some (.ref fWO)))
    (aAl : nsIn K mainGlobals "are_alike" = some (some (.ref fAl)))
    (aEq : nsIn K mainGlobals "are_equal" = some (some (.ref fEq)))
    (aCN : nsIn K mainGlobals "check_name" = some (some (.ref fCN)))
    (aCP : nsIn K mainGlobals "check_pieceless" = some (some (.ref fCP)))
    (aCCr : nsIn K mainGlobals "check_crowd" = some (some (.ref fCCr)))
    (aNum : nsIn K mainGlobals "_law_numbers" = some (some (.ref fNum)))
    (aPool : nsIn K mainGlobals "_law_pool" = some (some (.ref fPool)))
    (aDr : nsIn K mainGlobals "_law_draw" = some (some (.ref fDr)))
    (aPk : nsIn K mainGlobals "_law_pick" = some (some (.ref fPk)))
    (aTu : nsIn K mainGlobals "_law_tuples" = some (some (.ref fTu)))
    (aSz : nsIn K mainGlobals "_law_size" = some (some (.ref fSz)))
    (aLF : nsIn K mainGlobals "_law_flat" = some (some (.ref fLF)))
    (aBdy : nsIn K mainGlobals "_law_body" = some (some (.ref fBdy)))
    (aBlk : nsIn K mainGlobals "_law_block" = some (some (.ref fBlk)))
    (aHd : nsIn K mainGlobals "_law_heard" = some (some (.ref fHd)))
    (aLNm : nsIn K mainGlobals "_law_is_name" = some (some (.ref fLNm)))
    (aDu : nsIn K mainGlobals "_law_due" = some (some (.ref fDu)))
    (aRt : nsIn K mainGlobals "_law_right" = some (some (.ref fRt)))
    (aL : nsIn K mainGlobals "law" = some (some (.ref fL)))
    (lName : K.lookup fName = some ⟨ocName, odName, .func (PySem.W.fnOf "is_name" "is_name" (defArgs sName) (defBody sName) (defScope sName) .none kVName dcName pmName anName cdName ctName), slName⟩)
    (ccName : codeIn K cdName "is_name" = true)
    (kfName : keepIn K (.ref fName) = true)
    (lTups : K.lookup fTups = some ⟨ocTups, odTups, .func (PySem.W.fnOf "are_tuples" "are_tuples" (defArgs sTups) (defBody sTups) (defScope sTups) .none kVTups dcTups pmTups anTups cdTups ctTups), slTups⟩)
    (ccTups : codeIn K cdTups "are_tuples" = true)
    (kfTups : keepIn K (.ref fTups) = true)
    (lFork : K.lookup fFork = some ⟨ocFork, odFork, .func (PySem.W.fnOf "is_fork" "is_fork" (defArgs sFork) (defBody sFork) (defScope sFork) .none kVFork dcFork pmFork anFork cdFork ctFork), slFork⟩)
    (ccFork : codeIn K cdFork "is_fork" = true)
    (kfFork : keepIn K (.ref fFork) = true)
    (lBr : K.lookup fBr = some ⟨ocBr, odBr, .func (PySem.W.fnOf "branches" "branches" (defArgs sBr) (defBody sBr) (defScope sBr) .none kVBr dcBr pmBr anBr cdBr ctBr), slBr⟩)
    (ccBr : codeIn K cdBr "branches" = true)
    (kfBr : keepIn K (.ref fBr) = true)
    (lBeh : K.lookup fBeh = some ⟨ocBeh, odBeh, .func (PySem.W.fnOf "locks_behind" "locks_behind" (defArgs sBeh) (defBody sBeh) (defScope sBeh) .none kVBeh dcBeh pmBeh anBeh cdBeh ctBeh), slBeh⟩)
    (ccBeh : codeIn K cdBeh "locks_behind" = true)
    (kfBeh : keepIn K (.ref fBeh) = true)
    (lFlat : K.lookup fFlat = some ⟨ocFlat, odFlat, .func (PySem.W.fnOf "flat" "flat" (defArgs sFlat) (defBody sFlat) (defScope sFlat) .none kVFlat dcFlat pmFlat anFlat cdFlat ctFlat), slFlat⟩)
    (ccFlat : codeIn K cdFlat "flat" = true)
    (kfFlat : keepIn K (.ref fFlat) = true)
    (lInn : K.lookup fInn = some ⟨ocInn, odInn, .func (PySem.W.fnOf "is_inner" "is_inner" (defArgs sIn) (defBody sIn) (defScope sIn) .none kVInn dcInn pmInn anInn cdInn ctInn), slInn⟩)
    (ccInn : codeIn K cdInn "is_inner" = true)
    (kfInn : keepIn K (.ref fInn) = true)
    (lShp : K.lookup fShp = some ⟨ocShp, odShp, .func (PySem.W.fnOf "is_shaped" "is_shaped" (defArgs sSh) (defBody sSh) (defScope sSh) .none kVShp dcShp pmShp anShp cdShp ctShp), slShp⟩)
    (ccShp : codeIn K cdShp "is_shaped" = true)
    (kfShp : keepIn K (.ref fShp) = true)
    (lMis : K.lookup fMis = some ⟨ocMis, odMis, .func (PySem.W.fnOf "misshapen" "misshapen" (defArgs sMis) (defBody sMis) (defScope sMis) .none kVMis dcMis pmMis anMis cdMis ctMis), slMis⟩)
    (ccMis : codeIn K cdMis "misshapen" = true)
    (kfMis : keepIn K (.ref fMis) = true)
    (lWr : K.lookup fWr = some ⟨ocWr, odWr, .func (PySem.W.fnOf "is_wrong" "is_wrong" (defArgs sWr) (defBody sWr) (defScope sWr) .none kVWr dcWr pmWr anWr cdWr ctWr), slWr⟩)
    (ccWr : codeIn K cdWr "is_wrong" = true)
    (kfWr : keepIn K (.ref fWr) = true)
    (lWL : K.lookup fWL = some ⟨ocWL, odWL, .func (PySem.W.fnOf "wrong_locks" "wrong_locks" (defArgs sWL) (defBody sWL) (defScope sWL) .none kVWL dcWL pmWL anWL cdWL ctWL), slWL⟩)
    (ccWL : codeIn K cdWL "wrong_locks" = true)
    (kfWL : keepIn K (.ref fWL) = true)
    (lHl : K.lookup fHl = some ⟨ocHl, odHl, .func (PySem.W.fnOf "held_along" "held_along" (defArgs sHl) (defBody sHl) (defScope sHl) .none kVHl dcHl pmHl anHl cdHl ctHl), slHl⟩)
    (ccHl : codeIn K cdHl "held_along" = true)
    (kfHl : keepIn K (.ref fHl) = true)
    (lEach : K.lookup fEach = some ⟨ocEach, odEach, .func (PySem.W.fnOf "check_each" "check_each" (defArgs sEach) (defBody sEach) (defScope sEach) .none kVEach dcEach pmEach anEach cdEach ctEach), slEach⟩)
    (ccEach : codeIn K cdEach "check_each" = true)
    (kfEach : keepIn K (.ref fEach) = true)
    (lCB : K.lookup fCB = some ⟨ocCB, odCB, .func (PySem.W.fnOf "check_body" "check_body" (defArgs sCB) (defBody sCB) (defScope sCB) .none kVCB dcCB pmCB anCB cdCB ctCB), slCB⟩)
    (ccCB : codeIn K cdCB "check_body" = true)
    (kfCB : keepIn K (.ref fCB) = true)
    (lWA : K.lookup fWA = some ⟨ocWA, odWA, .func (PySem.W.fnOf "ways_along" "ways_along" (defArgs sWA) (defBody sWA) (defScope sWA) .none kVWA dcWA pmWA anWA cdWA ctWA), slWA⟩)
    (ccWA : codeIn K cdWA "ways_along" = true)
    (kfWA : keepIn K (.ref fWA) = true)
    (lWO : K.lookup fWO = some ⟨ocWO, odWO, .func (PySem.W.fnOf "ways_of" "ways_of" (defArgs sWO) (defBody sWO) (defScope sWO) .none kVWO dcWO pmWO anWO cdWO ctWO), slWO⟩)
    (ccWO : codeIn K cdWO "ways_of" = true)
    (kfWO : keepIn K (.ref fWO) = true)
    (lAl : K.lookup fAl = some ⟨ocAl, odAl, .func (PySem.W.fnOf "are_alike" "are_alike" (defArgs sAl) (defBody sAl) (defScope sAl) .none kVAl dcAl pmAl anAl cdAl ctAl), slAl⟩)
    (ccAl : codeIn K cdAl "are_alike" = true)
    (kfAl : keepIn K (.ref fAl) = true)
    (lEq : K.lookup fEq = some ⟨ocEq, odEq, .func (PySem.W.fnOf "are_equal" "are_equal" (defArgs sEq) (defBody sEq) (defScope sEq) .none kVEq dcEq pmEq anEq cdEq ctEq), slEq⟩)
    (ccEq : codeIn K cdEq "are_equal" = true)
    (kfEq : keepIn K (.ref fEq) = true)
    (lCN : K.lookup fCN = some ⟨ocCN, odCN, .func (PySem.W.fnOf "check_name" "check_name" (defArgs sCN) (defBody sCN) (defScope sCN) .none kVCN dcCN pmCN anCN cdCN ctCN), slCN⟩)
    (ccCN : codeIn K cdCN "check_name" = true)
    (kfCN : keepIn K (.ref fCN) = true)
    (lCP : K.lookup fCP = some ⟨ocCP, odCP, .func (PySem.W.fnOf "check_pieceless" "check_pieceless" (defArgs sCP) (defBody sCP) (defScope sCP) .none kVCP dcCP pmCP anCP cdCP ctCP), slCP⟩)
    (ccCP : codeIn K cdCP "check_pieceless" = true)
    (kfCP : keepIn K (.ref fCP) = true)
    (lCCr : K.lookup fCCr = some ⟨ocCCr, odCCr, .func (PySem.W.fnOf "check_crowd" "check_crowd" (defArgs sCC) (defBody sCC) (defScope sCC) .none kVCCr dcCCr pmCCr anCCr cdCCr ctCCr), slCCr⟩)
    (ccCCr : codeIn K cdCCr "check_crowd" = true)
    (kfCCr : keepIn K (.ref fCCr) = true)
    (lNum : K.lookup fNum = some ⟨ocNum, odNum, .func (PySem.W.fnOf "_law_numbers" "_law_numbers" (defArgs sNum) (defBody sNum) (defScope sNum) .none kVNum dcNum pmNum anNum cdNum ctNum), slNum⟩)
    (ccNum : codeIn K cdNum "_law_numbers" = true)
    (kfNum : keepIn K (.ref fNum) = true)
    (lPool : K.lookup fPool = some ⟨ocPool, odPool, .func (PySem.W.fnOf "_law_pool" "_law_pool" (defArgs sPool) (defBody sPool) (defScope sPool) .none kVPool dcPool pmPool anPool cdPool ctPool), slPool⟩)
    (ccPool : codeIn K cdPool "_law_pool" = true)
    (kfPool : keepIn K (.ref fPool) = true)
    (lDr : K.lookup fDr = some ⟨ocDr, odDr, .func (PySem.W.fnOf "_law_draw" "_law_draw" (defArgs sDraw) (defBody sDraw) (defScope sDraw) .none kVDr dcDr pmDr anDr cdDr ctDr), slDr⟩)
    (ccDr : codeIn K cdDr "_law_draw" = true)
    (kfDr : keepIn K (.ref fDr) = true)
    (lPk : K.lookup fPk = some ⟨ocPk, odPk, .func (PySem.W.fnOf "_law_pick" "_law_pick" (defArgs sPick) (defBody sPick) (defScope sPick) .none kVPk dcPk pmPk anPk cdPk ctPk), slPk⟩)
    (ccPk : codeIn K cdPk "_law_pick" = true)
    (kfPk : keepIn K (.ref fPk) = true)
    (lTu : K.lookup fTu = some ⟨ocTu, odTu, .func (PySem.W.fnOf "_law_tuples" "_law_tuples" (defArgs sTu) (defBody sTu) (defScope sTu) .none kVTu dcTu pmTu anTu cdTu ctTu), slTu⟩)
    (ccTu : codeIn K cdTu "_law_tuples" = true)
    (kfTu : keepIn K (.ref fTu) = true)
    (lSz : K.lookup fSz = some ⟨ocSz, odSz, .func (PySem.W.fnOf "_law_size" "_law_size" (defArgs sSz) (defBody sSz) (defScope sSz) .none kVSz dcSz pmSz anSz cdSz ctSz), slSz⟩)
    (ccSz : codeIn K cdSz "_law_size" = true)
    (kfSz : keepIn K (.ref fSz) = true)
    (lLF : K.lookup fLF = some ⟨ocLF, odLF, .func (PySem.W.fnOf "_law_flat" "_law_flat" (defArgs sLF) (defBody sLF) (defScope sLF) .none kVLF dcLF pmLF anLF cdLF ctLF), slLF⟩)
    (ccLF : codeIn K cdLF "_law_flat" = true)
    (kfLF : keepIn K (.ref fLF) = true)
    (lBdy : K.lookup fBdy = some ⟨ocBdy, odBdy, .func (PySem.W.fnOf "_law_body" "_law_body" (defArgs sBdy) (defBody sBdy) (defScope sBdy) .none kVBdy dcBdy pmBdy anBdy cdBdy ctBdy), slBdy⟩)
    (ccBdy : codeIn K cdBdy "_law_body" = true)
    (kfBdy : keepIn K (.ref fBdy) = true)
    (lBlk : K.lookup fBlk = some ⟨ocBlk, odBlk, .func (PySem.W.fnOf "_law_block" "_law_block" (defArgs sBlk) (defBody sBlk) (defScope sBlk) .none kVBlk dcBlk pmBlk anBlk cdBlk ctBlk), slBlk⟩)
    (ccBlk : codeIn K cdBlk "_law_block" = true)
    (kfBlk : keepIn K (.ref fBlk) = true)
    (lHd : K.lookup fHd = some ⟨ocHd, odHd, .func (PySem.W.fnOf "_law_heard" "_law_heard" (defArgs sHd) (defBody sHd) (defScope sHd) .none kVHd dcHd pmHd anHd cdHd ctHd), slHd⟩)
    (ccHd : codeIn K cdHd "_law_heard" = true)
    (kfHd : keepIn K (.ref fHd) = true)
    (lLNm : K.lookup fLNm = some ⟨ocLNm, odLNm, .func (PySem.W.fnOf "_law_is_name" "_law_is_name" (defArgs sLNm) (defBody sLNm) (defScope sLNm) .none kVLNm dcLNm pmLNm anLNm cdLNm ctLNm), slLNm⟩)
    (ccLNm : codeIn K cdLNm "_law_is_name" = true)
    (kfLNm : keepIn K (.ref fLNm) = true)
    (lDu : K.lookup fDu = some ⟨ocDu, odDu, .func (PySem.W.fnOf "_law_due" "_law_due" (defArgs sDu) (defBody sDu) (defScope sDu) .none kVDu dcDu pmDu anDu cdDu ctDu), slDu⟩)
    (ccDu : codeIn K cdDu "_law_due" = true)
    (kfDu : keepIn K (.ref fDu) = true)
    (lRt : K.lookup fRt = some ⟨ocRt, odRt, .func (PySem.W.fnOf "_law_right" "_law_right" (defArgs sRt) (defBody sRt) (defScope sRt) .none kVRt dcRt pmRt anRt cdRt ctRt), slRt⟩)
    (ccRt : codeIn K cdRt "_law_right" = true)
    (kfRt : keepIn K (.ref fRt) = true)
    (lL : K.lookup fL = some ⟨ocL, odL, .func (PySem.W.fnOf "law" "law" (defArgs sLaw) (defBody sLaw) (defScope sLaw) .none kVL dcL pmL anL cdL ctL), slL⟩)
    (ccL : codeIn K cdL "law" = true)
    (kfL : keepIn K (.ref fL) = true)
    (lII : K.lookup fI = some ⟨ocII, odII, .func (PySem.W.fnOf "__init__" "InvalidItem.__init__" (defArgs sII) (defBody sII) (defScope sII) .none kVII dcII pmII anII cdII ctII), slII⟩)
    (ccII : codeIn K cdII "InvalidItem.__init__" = true)
    (kfII : keepIn K (.ref fI) = true)
    (lNC : K.lookup fC = some ⟨ocNC, odNC, .func (PySem.W.fnOf "__init__" "NotACrowd.__init__" (defArgs sNC) (defBody sNC) (defScope sNC) .none kVNC dcNC pmNC anNC cdNC ctNC), slNC⟩)
    (ccNC : codeIn K cdNC "NotACrowd.__init__" = true)
    (kfNC : keepIn K (.ref fC) = true)
    (lUN : K.lookup fU = some ⟨ocUN, odUN, .func (PySem.W.fnOf "__init__" "UnknownName.__init__" (defArgs sUN) (defBody sUN) (defScope sUN) .none kVUN dcUN pmUN anUN cdUN ctUN), slUN⟩)
    (ccUN : codeIn K cdUN "UnknownName.__init__" = true)
    (kfUN : keepIn K (.ref fU) = true)
    (lBI : K.lookup fBI = some ⟨ocBI, odBI, .func (PySem.W.fnOf "__init__" "Body.__init__" (defArgs sBI) (defBody sBI) (defScope sBI) .none kVBI dcBI pmBI anBI cdBI ctBI), slBI⟩)
    (ccBI : codeIn K cdBI "Body.__init__" = true)
    (kfBI : keepIn K (.ref fBI) = true)
    (lCo : K.lookup fCo = some ⟨ocCo, odCo, .func (PySem.W.fnOf "code" "Body.code" (defArgs sCo) (defBody sCo) (defScope sCo) .none kVCo dcCo pmCo anCo cdCo ctCo), slCo⟩)
    (ccCo : codeIn K cdCo "Body.code" = true)
    (kfCo : keepIn K (.ref fCo) = true)
    (lSize : K.lookup fSize = some ⟨ocSize, odSize, .func (PySem.W.fnOf "size" "Body.size" (defArgs sSize) (defBody sSize) (defScope sSize) .none kVSize dcSize pmSize anSize cdSize ctSize), slSize⟩)
    (ccSize : codeIn K cdSize "Body.size" = true)
    (kfSize : keepIn K (.ref fSize) = true)
    (lLbW : K.lookup fLbW = some ⟨ocLbW, odLbW, .func (PySem.W.fnOf "label" "Work.label" (defArgs sLbW) (defBody sLbW) (defScope sLbW) .none kVLbW dcLbW pmLbW anLbW cdLbW ctLbW), slLbW⟩)
    (ccLbW : codeIn K cdLbW "Work.label" = true)
    (kfLbW : keepIn K (.ref fLbW) = true)
    (lLbU : K.lookup fLbU = some ⟨ocLbU, odLbU, .func (PySem.W.fnOf "label" "Guest.label" (defArgs sLbU) (defBody sLbU) (defScope sLbU) .none kVLbU dcLbU pmLbU anLbU cdLbU ctLbU), slLbU⟩)
    (ccLbU : codeIn K cdLbU "Guest.label" = true)
    (kfLbU : keepIn K (.ref fLbU) = true)
    (lLbK : K.lookup fLbK = some ⟨ocLbK, odLbK, .func (PySem.W.fnOf "label" "Crowd.label" (defArgs sLbK) (defBody sLbK) (defScope sLbK) .none kVLbK dcLbK pmLbK anLbK cdLbK ctLbK), slLbK⟩)
    (ccLbK : codeIn K cdLbK "Crowd.label" = true)
    (kfLbK : keepIn K (.ref fLbK) = true)
    (lGate : K.lookup fGate = some ⟨ocGate, odGate, .func (PySem.W.fnOf "gate" "Gated.gate" (defArgs sGate) (defBody sGate) (defScope sGate) .none kVGate dcGate pmGate anGate cdGate ctGate), slGate⟩)
    (ccGate : codeIn K cdGate "Gated.gate" = true)
    (kfGate : keepIn K (.ref fGate) = true)
    (lKdW : K.lookup fKdW = some ⟨ocKdW, odKdW, .func (PySem.W.fnOf "kind" "Work.kind" (defArgs sKdW) (defBody sKdW) (defScope sKdW) .none kVKdW dcKdW pmKdW anKdW cdKdW ctKdW), slKdW⟩)
    (ccKdW : codeIn K cdKdW "Work.kind" = true)
    (kfKdW : keepIn K (.ref fKdW) = true)
    (lKdU : K.lookup fKdU = some ⟨ocKdU, odKdU, .func (PySem.W.fnOf "kind" "Guest.kind" (defArgs sKdU) (defBody sKdU) (defScope sKdU) .none kVKdU dcKdU pmKdU anKdU cdKdU ctKdU), slKdU⟩)
    (ccKdU : codeIn K cdKdU "Guest.kind" = true)
    (kfKdU : keepIn K (.ref fKdU) = true)
    (lKdK : K.lookup fKdK = some ⟨ocKdK, odKdK, .func (PySem.W.fnOf "kind" "Crowd.kind" (defArgs sKdK) (defBody sKdK) (defScope sKdK) .none kVKdK dcKdK pmKdK anKdK cdKdK ctKdK), slKdK⟩)
    (ccKdK : codeIn K cdKdK "Crowd.kind" = true)
    (kfKdK : keepIn K (.ref fKdK) = true)
    (lEW : K.lookup fEW = some ⟨ocEW, odEW, .func (PySem.W.fnOf "__eq__" "Work.__eq__" (defArgs sEW) (defBody sEW) (defScope sEW) .none kVEW dcEW pmEW anEW cdEW ctEW), slEW⟩)
    (ccEW : codeIn K cdEW "Work.__eq__" = true)
    (kfEW : keepIn K (.ref fEW) = true)
    (lEU : K.lookup fEU = some ⟨ocEU, odEU, .func (PySem.W.fnOf "__eq__" "Guest.__eq__" (defArgs sEU) (defBody sEU) (defScope sEU) .none kVEU dcEU pmEU anEU cdEU ctEU), slEU⟩)
    (ccEU : codeIn K cdEU "Guest.__eq__" = true)
    (kfEU : keepIn K (.ref fEU) = true)
    (lEK : K.lookup fEK = some ⟨ocEK, odEK, .func (PySem.W.fnOf "__eq__" "Crowd.__eq__" (defArgs sEK) (defBody sEK) (defScope sEK) .none kVEK dcEK pmEK anEK cdEK ctEK), slEK⟩)
    (ccEK : codeIn K cdEK "Crowd.__eq__" = true)
    (kfEK : keepIn K (.ref fEK) = true)
    (kb : kitB K cI cC cU cB cW cGt cG cK = true)
    (z_isinstance : nsIn K mainGlobals "isinstance" = some none)
    (z_str : nsIn K mainGlobals "str" = some none)
    (z_len : nsIn K mainGlobals "len" = some none)
    (z_all : nsIn K mainGlobals "all" = some none)
    (z_tuple : nsIn K mainGlobals "tuple" = some none)
    (z_enumerate : nsIn K mainGlobals "enumerate" = some none)
    (z_list : nsIn K mainGlobals "list" = some none)
    (z_max : nsIn K mainGlobals "max" = some none)
    (z_range : nsIn K mainGlobals "range" = some none)
    (z_int : nsIn K mainGlobals "int" = some none)
    (z_repr : nsIn K mainGlobals "repr" = some none)
    (z_sum : nsIn K mainGlobals "sum" = some none)
    (z_super : nsIn K mainGlobals "super" = some none)
    : ∃ fd : FuncData, (∀ (s : Shared) (v : Value), BindsTo s fd ⟨[v], []⟩ [("_law_script", v)]) ∧ ∀ base : Heap, K.In base → base.Ns mainGlobals mg → FnOkG P w K mg base CX0 34 fa fd ["_law_script"] (spLaw K) := by
  have e := hfa.symm.trans (PySem.W.mg_of X G aL)
  cases e
  obtain ⟨e_UU, e_IU, e_II, e_CU, e_CI, e_CC, k_NoneTypeW, k_NoneTypeGt, k_strW, k_strGt, k_tupleW, k_tupleGt, k_listW, k_listGt, k_BW, k_BGt, k_WW, k_GW, k_KW, k_WGt, k_GGt, k_KGt, kl_W, s_WNoneType, s_Wstr, s_Wtuple, s_WB, s_WO, n_WL, n_WW, n_WG, n_WK, d_W, kl_G, s_GNoneType, s_Gstr, s_Gtuple, s_GB, s_GO, n_GL, n_GW, n_GG, n_GK, d_G, kl_K, s_KNoneType, s_Kstr, s_Ktuple, s_KB, s_KO, n_KL, n_KW, n_KG, n_KK, d_K, dd_W, dd_Gt, dd_G, dd_K⟩ := kit_of_B kb
  have FName := fun_mk (st := sName) lName ccName kfName
  have FTups := fun_mk (st := sTups) lTups ccTups kfTups
  have FFork := fun_mk (st := sFork) lFork ccFork kfFork
  have FBr := fun_mk (st := sBr) lBr ccBr kfBr
  have FBeh := fun_mk (st := sBeh) lBeh ccBeh kfBeh
  have FFlat := fun_mk (st := sFlat) lFlat ccFlat kfFlat
  have FInn := fun_mk (st := sIn) lInn ccInn kfInn
  have FShp := fun_mk (st := sSh) lShp ccShp kfShp
  have FMis := fun_mk (st := sMis) lMis ccMis kfMis
  have FWr := fun_mk (st := sWr) lWr ccWr kfWr
  have FWL := fun_mk (st := sWL) lWL ccWL kfWL
  have FHl := fun_mk (st := sHl) lHl ccHl kfHl
  have FEach := fun_mk (st := sEach) lEach ccEach kfEach
  have FCB := fun_mk (st := sCB) lCB ccCB kfCB
  have FWA := fun_mk (st := sWA) lWA ccWA kfWA
  have FWO := fun_mk (st := sWO) lWO ccWO kfWO
  have FAl := fun_mk (st := sAl) lAl ccAl kfAl
  have FEq := fun_mk (st := sEq) lEq ccEq kfEq
  have FCN := fun_mk (st := sCN) lCN ccCN kfCN
  have FCP := fun_mk (st := sCP) lCP ccCP kfCP
  have FCCr := fun_mk (st := sCC) lCCr ccCCr kfCCr
  have FNum := fun_mk (st := sNum) lNum ccNum kfNum
  have FPool := fun_mk (st := sPool) lPool ccPool kfPool
  have FDr := fun_mk (st := sDraw) lDr ccDr kfDr
  have FPk := fun_mk (st := sPick) lPk ccPk kfPk
  have FTu := fun_mk (st := sTu) lTu ccTu kfTu
  have FSz := fun_mk (st := sSz) lSz ccSz kfSz
  have FLF := fun_mk (st := sLF) lLF ccLF kfLF
  have FBdy := fun_mk (st := sBdy) lBdy ccBdy kfBdy
  have FBlk := fun_mk (st := sBlk) lBlk ccBlk kfBlk
  have FHd := fun_mk (st := sHd) lHd ccHd kfHd
  have FLNm := fun_mk (st := sLNm) lLNm ccLNm kfLNm
  have FDu := fun_mk (st := sDu) lDu ccDu kfDu
  have FRt := fun_mk (st := sRt) lRt ccRt kfRt
  have FL := fun_mk (st := sLaw) lL ccL kfL
  have FII := fun_mk (st := sII) lII ccII kfII
  have FNC := fun_mk (st := sNC) lNC ccNC kfNC
  have FUN := fun_mk (st := sUN) lUN ccUN kfUN
  have FBI := fun_mk (st := sBI) lBI ccBI kfBI
  have FCo := fun_mk (st := sCo) lCo ccCo kfCo
  have FSize := fun_mk (st := sSize) lSize ccSize kfSize
  have FLbW := fun_mk (st := sLbW) lLbW ccLbW kfLbW
  have FLbU := fun_mk (st := sLbU) lLbU ccLbU kfLbU
  have FLbK := fun_mk (st := sLbK) lLbK ccLbK kfLbK
  have FGate := fun_mk (st := sGate) lGate ccGate kfGate
  have FKdW := fun_mk (st := sKdW) lKdW ccKdW kfKdW
  have FKdU := fun_mk (st := sKdU) lKdU ccKdU kfKdU
  have FKdK := fun_mk (st := sKdK) lKdK ccKdK kfKdK
  have FEW := fun_mk (st := sEW) lEW ccEW kfEW
  have FEU := fun_mk (st := sEU) lEU ccEU kfEU
  have FEK := fun_mk (st := sEK) lEK ccEK kfEK
  have FWI : FunS K "__init__" "Work.__init__" sWI fWI _ ccWI cdaWI := ⟨⟨_, _, _, _, _, _, _, _, rfl, lWI, cc_WI⟩, kfWI⟩
  have FGI : FunS K "__init__" "Gated.__init__" sGI fGI _ ccGI cdaGI := ⟨⟨_, _, _, _, _, _, _, _, rfl, lGI, cc_GI⟩, kfGI⟩
  have FUI : FunS K "__init__" "Guest.__init__" sUI fUI _ ccUI cdaUI := ⟨⟨_, _, _, _, _, _, _, _, rfl, lUI, cc_UI⟩, kfUI⟩
  have FKI : FunS K "__init__" "Crowd.__init__" sKI fKI _ ccKI cdaKI := ⟨⟨_, _, _, _, _, _, _, _, rfl, lKI, cc_KI⟩, kfKI⟩
  have z : ∀ {x : Str}, nsIn K mainGlobals x = some none → mg x = none := fun e => PySem.W.mg_none_of X G e
  have SWI : SupTop P K mg cdaWI ccWI cW := ⟨cd_of cd_WI, sup0, ⟨_, _, _, cl_WI⟩, Option.isSome_iff_exists.mp dd_W, z z_super⟩
  have SGI : SupTop P K mg cdaGI ccGI cGt := ⟨cd_of cd_GI, sup0, ⟨_, _, _, cl_GI⟩, Option.isSome_iff_exists.mp dd_Gt, z z_super⟩
  have SUI : SupTop P K mg cdaUI ccUI cG := ⟨cd_of cd_UI, sup0, ⟨_, _, _, cl_UI⟩, Option.isSome_iff_exists.mp dd_G, z z_super⟩
  have SKI : SupTop P K mg cdaKI ccKI cK := ⟨cd_of cd_KI, sup0, ⟨_, _, _, cl_KI⟩, Option.isSome_iff_exists.mp dd_K, z z_super⟩
  have CName : Called K mg "is_name" ["value"] fName _ := ⟨PySem.W.mg_of X G aName, kfName, FName.binds (ps := ["value"]) fun _ _ _ _ _ _ us hl => match us, hl with | [_], _ => rfl⟩
  have CTups : Called K mg "are_tuples" ["values"] fTups _ := ⟨PySem.W.mg_of X G aTups, kfTups, FTups.binds (ps := ["values"]) fun _ _ _ _ _ _ us hl => match us, hl with | [_], _ => rfl⟩
  have CFork : Called K mg "is_fork" ["value"] fFork _ := ⟨PySem.W.mg_of X G aFork, kfFork, FFork.binds (ps := ["value"]) fun _ _ _ _ _ _ us hl => match us, hl with | [_], _ => rfl⟩
  have CBr : Called K mg "branches" ["item"] fBr _ := ⟨PySem.W.mg_of X G aBr, kfBr, FBr.binds (ps := ["item"]) fun _ _ _ _ _ _ us hl => match us, hl with | [_], _ => rfl⟩
  have CBeh : Called K mg "locks_behind" ["item", "held"] fBeh _ := ⟨PySem.W.mg_of X G aBeh, kfBeh, FBeh.binds (ps := ["item", "held"]) fun _ _ _ _ _ _ us hl => match us, hl with | [_, _], _ => rfl⟩
  have CFlat : Called K mg "flat" ["items"] fFlat _ := ⟨PySem.W.mg_of X G aFlat, kfFlat, FFlat.binds (ps := ["items"]) fun _ _ _ _ _ _ us hl => match us, hl with | [_], _ => rfl⟩
  have CInn : Called K mg "is_inner" ["value"] fInn _ := ⟨PySem.W.mg_of X G aInn, kfInn, FInn.binds (ps := ["value"]) fun _ _ _ _ _ _ us hl => match us, hl with | [_], _ => rfl⟩
  have CShp : Called K mg "is_shaped" ["value", "around"] fShp _ := ⟨PySem.W.mg_of X G aShp, kfShp, FShp.binds (ps := ["value", "around"]) fun _ _ _ _ _ _ us hl => match us, hl with | [_, _], _ => rfl⟩
  have CMis : Called K mg "misshapen" ["items", "around"] fMis _ := ⟨PySem.W.mg_of X G aMis, kfMis, FMis.binds (ps := ["items", "around"]) fun _ _ _ _ _ _ us hl => match us, hl with | [_, _], _ => rfl⟩
  have CWr : Called K mg "is_wrong" ["item", "later", "around", "taken"] fWr _ := ⟨PySem.W.mg_of X G aWr, kfWr, FWr.binds (ps := ["item", "later", "around", "taken"]) fun _ _ _ _ _ _ us hl => match us, hl with | [_, _, _, _], _ => rfl⟩
  have CWL : Called K mg "wrong_locks" ["items", "around"] fWL _ := ⟨PySem.W.mg_of X G aWL, kfWL, FWL.binds (ps := ["items", "around"]) fun _ _ _ _ _ _ us hl => match us, hl with | [_, _], _ => rfl⟩
  have CHl : Called K mg "held_along" ["items", "around"] fHl _ := ⟨PySem.W.mg_of X G aHl, kfHl, FHl.binds (ps := ["items", "around"]) fun _ _ _ _ _ _ us hl => match us, hl with | [_, _], _ => rfl⟩
  have CEach : Called K mg "check_each" ["faults"] fEach _ := ⟨PySem.W.mg_of X G aEach, kfEach, FEach.binds (ps := ["faults"]) fun _ _ _ _ _ _ us hl => match us, hl with | [_], _ => rfl⟩
  have CCB : Called K mg "check_body" ["value"] fCB _ := ⟨PySem.W.mg_of X G aCB, kfCB, FCB.binds (ps := ["value"]) fun _ _ _ _ _ _ us hl => match us, hl with | [_], _ => rfl⟩
  have CWA : Called K mg "ways_along" ["items", "start", "behind"] fWA _ := ⟨PySem.W.mg_of X G aWA, kfWA, FWA.binds (ps := ["items", "start", "behind"]) fun _ _ _ _ _ _ us hl => match us, hl with | [_, _, _], _ => rfl⟩
  have CWO : Called K mg "ways_of" ["item", "place", "follows"] fWO _ := ⟨PySem.W.mg_of X G aWO, kfWO, FWO.binds (ps := ["item", "place", "follows"]) fun _ _ _ _ _ _ us hl => match us, hl with | [_, _, _], _ => rfl⟩
  have CAl : Called K mg "are_alike" ["one", "other"] fAl _ := ⟨PySem.W.mg_of X G aAl, kfAl, FAl.binds (ps := ["one", "other"]) fun _ _ _ _ _ _ us hl => match us, hl with | [_, _], _ => rfl⟩
  have CEq : Called K mg "are_equal" ["one", "other"] fEq _ := ⟨PySem.W.mg_of X G aEq, kfEq, FEq.binds (ps := ["one", "other"]) fun _ _ _ _ _ _ us hl => match us, hl with | [_, _], _ => rfl⟩
  have CCN : Called K mg "check_name" ["value"] fCN _ := ⟨PySem.W.mg_of X G aCN, kfCN, FCN.binds (ps := ["value"]) fun _ _ _ _ _ _ us hl => match us, hl with | [_], _ => rfl⟩
  have CCP : Called K mg "check_pieceless" ["items"] fCP _ := ⟨PySem.W.mg_of X G aCP, kfCP, FCP.binds (ps := ["items"]) fun _ _ _ _ _ _ us hl => match us, hl with | [_], _ => rfl⟩
  have CCCr : Called K mg "check_crowd" ["name", "items"] fCCr _ := ⟨PySem.W.mg_of X G aCCr, kfCCr, FCCr.binds (ps := ["name", "items"]) fun _ _ _ _ _ _ us hl => match us, hl with | [_, _], _ => rfl⟩
  have CNum : Called K mg "_law_numbers" ["_law_cell", "_law_salt", "_law_sizes"] fNum _ := ⟨PySem.W.mg_of X G aNum, kfNum, FNum.binds (ps := ["_law_cell", "_law_salt", "_law_sizes"]) fun _ _ _ _ _ _ us hl => match us, hl with | [_, _, _], _ => rfl⟩
  have CPool : Called K mg "_law_pool" ["_law_cell", "_law_salt", "_law_many"] fPool _ := ⟨PySem.W.mg_of X G aPool, kfPool, FPool.binds (ps := ["_law_cell", "_law_salt", "_law_many"]) fun _ _ _ _ _ _ us hl => match us, hl with | [_, _, _], _ => rfl⟩
  have CDr : Called K mg "_law_draw" ["_law_pool_here", "_law_many"] fDr _ := ⟨PySem.W.mg_of X G aDr, kfDr, FDr.binds (ps := ["_law_pool_here", "_law_many"]) fun _ _ _ _ _ _ us hl => match us, hl with | [_, _], _ => rfl⟩
  have CPk : Called K mg "_law_pick" ["_law_pool_here", "_law_some"] fPk _ := ⟨PySem.W.mg_of X G aPk, kfPk, FPk.binds (ps := ["_law_pool_here", "_law_some"]) fun _ _ _ _ _ _ us hl => match us, hl with | [_, _], _ => rfl⟩
  have CTu : Called K mg "_law_tuples" ["_law_item"] fTu _ := ⟨PySem.W.mg_of X G aTu, kfTu, FTu.binds (ps := ["_law_item"]) fun _ _ _ _ _ _ us hl => match us, hl with | [_], _ => rfl⟩
  have CSz : Called K mg "_law_size" ["_law_items"] fSz _ := ⟨PySem.W.mg_of X G aSz, kfSz, FSz.binds (ps := ["_law_items"]) fun _ _ _ _ _ _ us hl => match us, hl with | [_], _ => rfl⟩
  have CLF : Called K mg "_law_flat" ["_law_items", "_law_start", "_law_follow", "_law_held"] fLF _ := ⟨PySem.W.mg_of X G aLF, kfLF, FLF.binds (ps := ["_law_items", "_law_start", "_law_follow", "_law_held"]) fun _ _ _ _ _ _ us hl => match us, hl with | [_, _, _, _], _ => rfl⟩
  have CBdy : Called K mg "_law_body" ["_law_pool_here", "_law_works", "_law_marks", "_law_locks", "_law_most", "_law_crowd"] fBdy _ := ⟨PySem.W.mg_of X G aBdy, kfBdy, FBdy.binds (ps := ["_law_pool_here", "_law_works", "_law_marks", "_law_locks", "_law_most", "_law_crowd"]) fun _ _ _ _ _ _ us hl => match us, hl with | [_, _, _, _, _, _], _ => rfl⟩
  have CBlk : Called K mg "_law_block" ["_law_pool_here", "_law_works", "_law_marks", "_law_locks", "_law_crowd"] fBlk _ := ⟨PySem.W.mg_of X G aBlk, kfBlk, FBlk.binds (ps := ["_law_pool_here", "_law_works", "_law_marks", "_law_locks", "_law_crowd"]) fun _ _ _ _ _ _ us hl => match us, hl with | [_, _, _, _, _], _ => rfl⟩
  have CHd : Called K mg "_law_heard" ["_law_way", "_law_name", "_law_gate", "_law_items"] fHd _ := ⟨PySem.W.mg_of X G aHd, kfHd, FHd.binds (ps := ["_law_way", "_law_name", "_law_gate", "_law_items"]) fun _ _ _ _ _ _ us hl => match us, hl with | [_, _, _, _], _ => rfl⟩
  have CLNm : Called K mg "_law_is_name" ["_law_thing"] fLNm _ := ⟨PySem.W.mg_of X G aLNm, kfLNm, FLNm.binds (ps := ["_law_thing"]) fun _ _ _ _ _ _ us hl => match us, hl with | [_], _ => rfl⟩
  have CDu : Called K mg "_law_due" ["_law_way", "_law_name", "_law_gate", "_law_items"] fDu _ := ⟨PySem.W.mg_of X G aDu, kfDu, FDu.binds (ps := ["_law_way", "_law_name", "_law_gate", "_law_items"]) fun _ _ _ _ _ _ us hl => match us, hl with | [_, _, _, _], _ => rfl⟩
  have CRt : Called K mg "_law_right" ["_law_way", "_law_name", "_law_gate", "_law_items"] fRt _ := ⟨PySem.W.mg_of X G aRt, kfRt, FRt.binds (ps := ["_law_way", "_law_name", "_law_gate", "_law_items"]) fun _ _ _ _ _ _ us hl => match us, hl with | [_, _, _, _], _ => rfl⟩
  have bII := FII.binds (ps := ["self", "place"]) fun _ _ _ _ _ _ us hl => match us, hl with | [_, _], _ => rfl
  have bNC := FNC.binds (ps := ["self", "name", "place"]) fun _ _ _ _ _ _ us hl => match us, hl with | [_, _, _], _ => rfl
  have bUN := FUN.binds (ps := ["self", "name"]) fun _ _ _ _ _ _ us hl => match us, hl with | [_, _], _ => rfl
  have bBI := FBI.binds (ps := ["self", "items"]) fun _ _ _ _ _ _ us hl => match us, hl with | [_, _], _ => rfl
  have bCo := FCo.binds (ps := ["self"]) fun _ _ _ _ _ _ us hl => match us, hl with | [_], _ => rfl
  have bSize := FSize.binds (ps := ["self"]) fun _ _ _ _ _ _ us hl => match us, hl with | [_], _ => rfl
  have bLbW := FLbW.binds (ps := ["self"]) fun _ _ _ _ _ _ us hl => match us, hl with | [_], _ => rfl
  have bLbU := FLbU.binds (ps := ["self"]) fun _ _ _ _ _ _ us hl => match us, hl with | [_], _ => rfl
  have bLbK := FLbK.binds (ps := ["self"]) fun _ _ _ _ _ _ us hl => match us, hl with | [_], _ => rfl
  have bGate := FGate.binds (ps := ["self"]) fun _ _ _ _ _ _ us hl => match us, hl with | [_], _ => rfl
  have bKdW := FKdW.binds (ps := ["self"]) fun _ _ _ _ _ _ us hl => match us, hl with | [_], _ => rfl
  have bKdU := FKdU.binds (ps := ["self"]) fun _ _ _ _ _ _ us hl => match us, hl with | [_], _ => rfl
  have bKdK := FKdK.binds (ps := ["self"]) fun _ _ _ _ _ _ us hl => match us, hl with | [_], _ => rfl
  have bEW := FEW.binds (ps := ["self", "other"]) fun _ _ _ _ _ _ us hl => match us, hl with | [_, _], _ => rfl
  have bEU := FEU.binds (ps := ["self", "other"]) fun _ _ _ _ _ _ us hl => match us, hl with | [_, _], _ => rfl
  have bEK := FEK.binds (ps := ["self", "other"]) fun _ _ _ _ _ _ us hl => match us, hl with | [_, _], _ => rfl
  have bWI := FWI.binds (ps := ["self", "name", "items"]) fun _ _ _ _ _ us hl => match us, hl with | [_, _, _], _ => rfl
  have bGI := FGI.binds (ps := ["self", "name", "gate", "items"]) fun _ _ _ _ _ us hl => match us, hl with | [_, _, _, _], _ => rfl
  have bUI := FUI.binds (ps := ["self", "name", "gate", "items"]) fun _ _ _ _ _ us hl => match us, hl with | [_, _, _, _], _ => rfl
  have bKI := FKI.binds (ps := ["self", "name", "gate", "items"]) fun _ _ _ _ _ us hl => match us, hl with | [_, _, _, _], _ => rfl
  have oI : OexG K cI fI := ⟨⟨_, _, _, _, PySem.F.excBase_Exception, PySem.F.store_Exception, _, _, _, _, _, _, _, _, _, _, _, _, _, _, _, xI, by rfl⟩, saI, gaI, ggI, eCI, tCI, kCI, hCI, iI, tI, haI, hn, ht, hmI⟩
  have oC : OexG K cC fC := ⟨⟨_, _, _, _, PySem.F.excBase_Exception, PySem.F.store_Exception, _, _, _, _, _, _, _, _, _, _, _, _, _, _, _, xC, by rfl⟩, saC, gaC, ggC, eCC, tCC, kCC, hCC, iC, tC, haC, hn, ht, hmC⟩
  have oU : OexG K cU fU := ⟨⟨_, _, _, _, PySem.F.excBase_LookupError, PySem.F.store_LookupError, _, _, _, _, _, _, _, _, _, _, _, _, _, _, _, xU, by rfl⟩, saU, gaU, ggU, eCU, tCU, kCU, hCU, iU, tU, haU, hn, ht, hmU⟩
  have tcB : ThrC K cB := ⟨⟨pgB, hdB, poB, sXB⟩, vB_code, vB_listed, vB_ways, vB_held, vB_label, vB_gate⟩
  have ccB : TCls K cB "Body" := ⟨⟨rdB, atB, ⟨_, _, obB, rfl, rfl, nameB⟩, pgcB, hdB, hXB, hn, ht, hmB2, by show _ ≤ sizeLine; exact Nat.le_trans (Nat.le_of_ble_eq_true rfl : _ ≤ 8) (by decide)⟩, ⟨tkXB, fun o e => by
    rw [obB] at e
    cases e
    exact slotB⟩⟩
  have mB : Mk K cB fBI := ⟨mkB, inB, ifB, kXB⟩
  have tcW : ThrC K cW := ⟨⟨pgW, hdW, poW, sXW⟩, vW_code, vW_listed, vW_ways, vW_held, vW_label, vW_gate⟩
  have ccW : TCls K cW "Work" := ⟨⟨rdW, atW, ⟨_, _, obW, rfl, rfl, nameW⟩, pgcW, hdW, hXW, hn, ht, hmW2, by show _ ≤ sizeLine; exact Nat.le_trans (Nat.le_of_ble_eq_true rfl : _ ≤ 8) (by decide)⟩, ⟨tkXW, fun o e => by
    rw [obW] at e
    cases e
    exact slotW⟩⟩
  have mW : Mk K cW fWI := ⟨mkW, inW, ifW, kXW⟩
  have tcG : ThrC K cG := ⟨⟨pgG, hdG, poG, sXG⟩, vG_code, vG_listed, vG_ways, vG_held, vG_label, vG_gate⟩
  have ccG : TCls K cG "Guest" := ⟨⟨rdG, atG, ⟨_, _, obG, rfl, rfl, nameG⟩, pgcG, hdG, hXG, hn, ht, hmG2, by show _ ≤ sizeLine; exact Nat.le_trans (Nat.le_of_ble_eq_true rfl : _ ≤ 8) (by decide)⟩, ⟨tkXG, fun o e => by
    rw [obG] at e
    cases e
    exact slotG⟩⟩
  have mG : Mk K cG fUI := ⟨mkG, inG, ifG, kXG⟩
  have tcK : ThrC K cK := ⟨⟨pgK, hdK, poK, sXK⟩, vK_code, vK_listed, vK_ways, vK_held, vK_label, vK_gate⟩
  have ccK : TCls K cK "Crowd" := ⟨⟨rdK, atK, ⟨_, _, obK, rfl, rfl, nameK⟩, pgcK, hdK, hXK, hn, ht, hmK2, by show _ ≤ sizeLine; exact Nat.le_trans (Nat.le_of_ble_eq_true rfl : _ ≤ 8) (by decide)⟩, ⟨tkXK, fun o e => by
    rw [obK] at e
    cases e
    exact slotK⟩⟩
  have mK : Mk K cK fKI := ⟨mkK, inK, ifK, kXK⟩
  have suW : Sup K cW cW "__init__" fBI := ⟨suW1, suW2, ty_fBI, fi_fBI, st⟩
  have suG : Sup K cG cGt "__init__" fBI := ⟨suG1, suG2, ty_fBI, fi_fBI, st⟩
  have suK : Sup K cK cGt "__init__" fBI := ⟨suK1, suK2, ty_fBI, fi_fBI, st⟩
  have su2G : Sup K cG cG "__init__" fGI := ⟨su2G1, su2G2, ty_fGI, fi_fGI, st⟩
  have su2K : Sup K cK cK "__init__" fGI := ⟨su2K1, su2K2, ty_fGI, fi_fGI, st⟩
  have ES : ErrsK K cU cI cC := ⟨e_UU, e_IU, e_II, e_CU, e_CI, e_CC⟩
  have TH : Thrs K (cwf cW cG cK) cGt cB nmf := {
    tc := fun i hi => match i, hi with | 0, _ => tcW | 1, _ => tcG | 2, _ => tcK
    cc := fun i hi => match i, hi with | 0, _ => ccW | 1, _ => ccG | 2, _ => ccK
    tB := tcB, cnB := ⟨_, ccB⟩, ne := by decide +kernel
    kT := fun T hT => by
      simp only [oddT, List.mem_cons, List.mem_nil_iff, or_false] at hT
      rcases hT with rfl | rfl | rfl | rfl
      · exact ⟨k_NoneTypeW, k_NoneTypeGt⟩
      · exact ⟨k_strW, k_strGt⟩
      · exact ⟨k_tupleW, k_tupleGt⟩
      · exact ⟨k_listW, k_listGt⟩
    kB := ⟨k_BW, k_BGt⟩, k0 := k_WW, k1 := ⟨k_GW, k_KW⟩, g0 := k_WGt, g1 := ⟨k_GGt, k_KGt⟩ }
  have hP : ∀ H : Hp, SqT K H aPW (plain6.map V.str) := fun H => .inr ⟨_, _, _, lPW, rfl, rfl, by show 6 ≤ sizeLine; decide, .cons ⟨_, rfl⟩ (.cons ⟨_, rfl⟩ (.cons ⟨_, rfl⟩ (.cons ⟨_, rfl⟩ (.cons ⟨_, rfl⟩ (.cons ⟨_, rfl⟩ .nil)))))⟩
  have hI : ∀ H : Hp, SqT K H aIW (inner3.map V.str) := fun H => .inr ⟨_, _, _, lIW, rfl, rfl, by show 3 ≤ sizeLine; decide, .cons ⟨_, rfl⟩ (.cons ⟨_, rfl⟩ (.cons ⟨_, rfl⟩ .nil))⟩
  have hC5 : ∀ H : Hp, SqT K H aCW (crowd5.map V.str) := fun H => .inr ⟨_, _, _, lCW, rfl, rfl, by show 5 ≤ sizeLine; decide, .cons ⟨_, rfl⟩ (.cons ⟨_, rfl⟩ (.cons ⟨_, rfl⟩ (.cons ⟨_, rfl⟩ (.cons ⟨_, rfl⟩ .nil))))⟩
  refine ⟨PySem.W.fnOf "law" "law" (defArgs sLaw) (defBody sLaw) (defScope sLaw) .none kVL dcL pmL anL cdL ctL, fun s v => .of_eq rfl, fun base _ _ => ?_⟩
  have T : Er P w K mg base "InvalidItem" "place" cI fI _ := ⟨PySem.W.mg_of X G aI, oI, nI_place, ok_II FII, bII⟩
  have TU : Er P w K mg base "UnknownName" "name" cU fU _ := ⟨PySem.W.mg_of X G aU, oU, nU_name, ok_UN FUN, bUN⟩
  have TC : Er2 P w K mg base "NotACrowd" "name" "place" cC fC _ := ⟨PySem.W.mg_of X G aC, oC, nC_name, nC_place, ok_NC FNC, bNC⟩
  have gName := ok_name (P := P) (w := w) (base := base) FName (z z_isinstance) (z z_str) (z z_len) (z z_all) (PySem.W.mg_of X G gML)
  have gTups := ok_tups (P := P) (w := w) (base := base) FTups (z z_isinstance) (z z_tuple) (z z_all)
  have gFork := ok_fork FFork gName CName gTups CTups (z z_len)
  have gBr := ok_br (P := P) (w := w) (mg := mg) (base := base) FBr
  have gBeh := ok_beh (P := P) (w := w) (mg := mg) (base := base) FBeh
  have gFlat := ok_flat FFlat CFlat gBr CBr
  have gShapes := ok_shapes FInn FShp FMis CInn CShp CMis CFlat CName CFork CBr gFlat gName gFork gBr (z z_isinstance) (z z_tuple) (z z_all) (z z_len) (z z_str) (PySem.W.mg_of X G gIW) hI (PySem.W.mg_of X G gMN) (PySem.W.mg_of X G gPW) hP (PySem.W.mg_of X G gMW) 10
  have gWr := ok_wr (P := P) (w := w) (mg := mg) (base := base) FWr
  have gWL := ok_wlk FWL CWL gBr CBr gBeh CBeh gWr CWr (z z_enumerate) 10 (by decide)
  have gHl := ok_hl FHl CHl gBr CBr gBeh CBeh 10
  have gEach := ok_each FEach T (z z_enumerate)
  have gCB := ok_cb FCB 10 (by decide) T gShapes.2.2 CMis (gFlat 10) CFlat gWL CWL gEach CEach (z z_isinstance) (z z_tuple) (z z_len) (PySem.W.mg_of X G gMI)
  have gWays := ok_ways FWA FWO CWA CWO CFlat CBr gFlat gBr (z z_enumerate) (z z_len) 10
  have gBI := ok_BI FBI 10 gCB CCB (gFlat 10) CFlat gWays.2 CWA gHl CHl (z z_len)
  have gCN := ok_cn FCN TU gName CName
  have gCP := ok_cp FCP T 10 (gFlat 10) CFlat (z z_enumerate)
  have gCC := ok_cc FCCr TC 10 (gFlat 10) CFlat (z z_enumerate) (PySem.W.mg_of X G gCW) hC5
  have gWI := ok_WI FWI SWI 10 tcW suW gCN CCN gBI bBI gCP CCP
  have gGI := ok_GI FGI SGI 10 gCN CCN gBI bBI
  have gUI := ok_UI FUI SUI 10 tcG suG su2G gGI bGI gCP CCP
  have gKI := ok_KI FKI SKI 10 tcK suK su2K gGI bGI gCC CCCr
  have gAl : ∀ base, FnOk P w K mg base CX0 1 fAl _ ["one", "other"] (spAlG K) := fun base => ok_al FAl
  have gEq : ∀ base, FnOk P w K mg base CX0 2 fEq _ ["one", "other"] (spEqG K cGt 10) := fun base => ok_eq FEq 10 (by decide) (PySem.W.mg_of X G aGt) (gAl base) CAl (z z_isinstance)
  have gEW : ∀ base, FnOk P w K mg base CX0 3 fEW _ ["self", "other"] (spEqT K (cwf cW cG cK) cB 10 0) := fun base => ((ok_EW FEW 10 (by decide) tcW ccW k_WW (PySem.W.mg_of X G aXW) (gAl base) CAl (z z_isinstance)).mono (by decide)).imp fun vs H Q E h => eqT_W TH h
  have gEU : ∀ base, FnOk P w K mg base CX0 3 fEU _ ["self", "other"] (spEqT K (cwf cW cG cK) cB 10 1) := fun base => (ok_EU FEU 10 (gEq base) CEq).imp fun vs H Q E h => eqT_G TH (.inl rfl) h
  have gEK : ∀ base, FnOk P w K mg base CX0 3 fEK _ ["self", "other"] (spEqT K (cwf cW cG cK) cB 10 2) := fun base => (ok_EK FEK 10 (gEq base) CEq).imp fun vs H Q E h => eqT_G TH (.inr rfl) h
  have KF : ∀ way, way < 3 → KindF P w K mg (cwf cW cG cK) cB 10 way := fun way hw => match way, hw with
    | 0, _ => { lab := ⟨_, _, _, ⟨plW, g_pLW, t_pLW, ⟨_, r_pLW⟩⟩, fun base => ok_lbW FLbW tcW, bLbW⟩
                cod := ⟨_, _, _, ⟨pcW, g_pCo, t_pCo, ⟨_, r_pCo⟩⟩, fun base => ok_Co FCo tcW.cl tcW.nC, bCo⟩
                siz := ⟨_, _, _, ⟨pzW, g_pSz, t_pSz, ⟨_, r_pSz⟩⟩, fun base => ok_size FSize tcW (z z_len), bSize⟩
                gat := fun h => absurd rfl h
                knd := ⟨_, _, ⟨kdW, kdfW, kfKdW⟩, fun base => ok_kdW FKdW, bKdW⟩
                eqf := ⟨_, _, gEW, bEW, ⟨eqW, efW, s_WNoneType, s_Wstr, s_Wtuple, s_WB, bne_iff_ne.mp d_W⟩⟩
                ne := neW, ob := s_WO, nl := kl_W
                nf := ⟨n_WL, fun j hj => match j, hj with | 0, _ => n_WW | 1, _ => n_WG | 2, _ => n_WK⟩ }
    | 1, _ => { lab := ⟨_, _, _, ⟨plG, g_pLU, t_pLU, ⟨_, r_pLU⟩⟩, fun base => ok_lbU FLbU tcG, bLbU⟩
                cod := ⟨_, _, _, ⟨pcG, g_pCo, t_pCo, ⟨_, r_pCo⟩⟩, fun base => ok_Co FCo tcG.cl tcG.nC, bCo⟩
                siz := ⟨_, _, _, ⟨pzG, g_pSz, t_pSz, ⟨_, r_pSz⟩⟩, fun base => ok_size FSize tcG (z z_len), bSize⟩
                gat := fun _ => ⟨_, _, _, ⟨paG, g_pGa, t_pGa, ⟨_, r_pGa⟩⟩, fun base => ok_gate FGate tcG, bGate⟩
                knd := ⟨_, _, ⟨kdG, kdfG, kfKdU⟩, fun base => ok_kdU FKdU, bKdU⟩
                eqf := ⟨_, _, gEU, bEU, ⟨eqG, efG, s_GNoneType, s_Gstr, s_Gtuple, s_GB, bne_iff_ne.mp d_G⟩⟩
                ne := neG, ob := s_GO, nl := kl_G
                nf := ⟨n_GL, fun j hj => match j, hj with | 0, _ => n_GW | 1, _ => n_GG | 2, _ => n_GK⟩ }
    | 2, _ => { lab := ⟨_, _, _, ⟨plK, g_pLK, t_pLK, ⟨_, r_pLK⟩⟩, fun base => ok_lbK FLbK tcK, bLbK⟩
                cod := ⟨_, _, _, ⟨pcK, g_pCo, t_pCo, ⟨_, r_pCo⟩⟩, fun base => ok_Co FCo tcK.cl tcK.nC, bCo⟩
                siz := ⟨_, _, _, ⟨pzK, g_pSz, t_pSz, ⟨_, r_pSz⟩⟩, fun base => ok_size FSize tcK (z z_len), bSize⟩
                gat := fun _ => ⟨_, _, _, ⟨paK, g_pGa, t_pGa, ⟨_, r_pGa⟩⟩, fun base => ok_gate FGate tcK, bGate⟩
                knd := ⟨_, _, ⟨kdK, kdfK, kfKdK⟩, fun base => ok_kdK FKdK, bKdK⟩
                eqf := ⟨_, _, gEK, bEK, ⟨eqK, efK, s_KNoneType, s_Kstr, s_Ktuple, s_KB, bne_iff_ne.mp d_K⟩⟩
                ne := neK, ob := s_KO, nl := kl_K
                nf := ⟨n_KL, fun j hj => match j, hj with | 0, _ => n_KW | 1, _ => n_KG | 2, _ => n_KK⟩ }
  have gHd := ok_hd (cw := cwf cW cG cK) (cGt := cGt) (cB := cB) (nms := nmf) FHd 10 TU T TC ES (PySem.W.mg_of X G aXW) (PySem.W.mg_of X G aXG) (PySem.W.mg_of X G aXK) mW mG mK gWI bWI gUI bUI gKI bKI (z z_repr)
  have gTu := ok_tu (P := P) (w := w) (mg := mg) (base := base) FTu
  have gSz := ok_sz FSz CSz gTu CTu (z z_sum)
  have gLF := ok_lf FLF CLF gTu CTu CSz (fun n => (gSz n).1) (z z_enumerate) (z z_len)
  have gLNm := ok_lnm (P := P) (w := w) (base := base) FLNm (z z_isinstance) (z z_str) (z z_len)
  have gDu := ok_du FDu 10 (by decide) gLNm CLNm (gSz 10).1 CSz (gLF 10 (by decide)) CLF (z z_int) (z z_repr) (z z_enumerate)
  have gRt := ok_rt FRt 10 (by decide) (by decide) TH KF gDu CDu gHd CHd (gSz 10).1 CSz (PySem.W.mg_of X G aXB) mB gBI bBI (z z_isinstance) (z z_list) (z z_len) (z z_range)
  have gNum := ok_num (P := P) (w := w) (base := base) (k := 0) FNum (z z_max) (z z_range) (z z_len)
  have gPool := ok_pool FPool gNum CNum
  have gDr := ok_draw (P := P) (w := w) (base := base) FDr (z z_len) (z z_int)
  have gPk := ok_pick FPk gDr CDr (z z_len)
  have gBlk := ok_blk FBlk gPk CPk gDr CDr
  have gBdy := ok_bdy FBdy 10 (by decide) gBlk CBlk gDr CDr (gSz 10).2 CSz (z z_range) (z z_tuple)
  exact ok_law FL gPool CPool gDr CDr gPk CPk gBdy CBdy gRt CRt (z z_enumerate) (z z_int) (z z_range)
theorem walk {l : PySem.W.OpenLaw} {q : Program} {loose : List Str} {XP : (Str → Option Value) → Heap → Prop} {YP : World → Heap → Prop} {d : DefRec} {K : Params → PySem.W.Frag} (hn : l.most = some 63) (hdf : d.params.defaults = [])
    (hY : ∀ (w : World) (h : Heap), YP w h → (K w.params).In h)
    (F : ∀ (w : World) (mg : Str → Option Value) (fa : Addr) (h : Heap), (K w.params).In h → h.Ns mainGlobals mg → mg d.name = some (.ref fa) →
      ∃ fd : FuncData, (∀ (s : Shared) (u : Value), BindsTo s fd ⟨[u], []⟩ [("_law_script", u)]) ∧ ∀ base : Heap, (K w.params).In base → base.Ns mainGlobals mg → FnOkG l.prog w (K w.params) mg base CX0 34 fa fd ["_law_script"] (spLaw (K w.params))) :
    PySem.W.WalkO q loose XP YP l.row.toRowW d [] (fun f vs => PySem.call f vs) :=
  L2.walk_ofG (n := 63) (k := 34) (x := "_law_script") (CX := fun _ => CX0) (sp := fun w => spLaw (K w.params)) hn (by decide) hdf ⟨rfl, by decide, by decide⟩ hY F (fun _ _ a ns hl _ hS => ⟨a, ns, rfl, hS, hl, fun _ => rfl⟩) fun _ _ _ _ _ z => z
end Tr

/-! P26 -/
open PySem PySem.W PyProof.Rows
set_option maxRecDepth 100000 in
set_option maxHeartbeats 0 in
theorem PySem.Challenge.cw_takendown_k06_threads_made_or_refused_holds : PySem.Challenge.rw_takendown_k06_threads_made_or_refused.Holds := by
  w_on; o_law; k_head; (case hw => w_witness2)
  k_fill
  refine Tr.walk (l := PySem.Challenge.rw_takendown_k06_threads_made_or_refused) rfl rfl (fun w h Y => PySem.W.kIn_of Y) ?F
  case F =>
    intro w mg fa h KX G hmg
    refine' Tr.all_mk KX G hmg ?aI ?xI ?saI ?gaI ?ggI ?nI_place ?iI ?tI ?kCI ?eCI ?tCI ?hCI ?haI ?hmI ?aC ?xC ?saC ?gaC ?ggC ?nC_name ?nC_place ?iC ?tC ?kCC ?eCC ?tCC ?hCC ?haC ?hmC ?aU ?xU ?saU ?gaU ?ggU ?nU_name ?iU ?tU ?kCU ?eCU ?tCU ?hCU ?haU ?hmU ?hn ?ht ?aGt ?inGt ?aXB ?pgB ?hdB ?poB ?sXB ?vB_code ?vB_listed ?vB_ways ?vB_held ?vB_label ?vB_gate ?mkB ?kXB ?atB ?obB ?nameB ?slotB ?pgcB ?rdB ?hXB ?hmB2 ?inB ?ifB ?aXW ?pgW ?hdW ?poW ?sXW ?vW_code ?vW_listed ?vW_ways ?vW_held ?vW_label ?vW_gate ?mkW ?kXW ?atW ?obW ?nameW ?slotW ?pgcW ?rdW ?hXW ?hmW2 ?inW ?ifW ?aXG ?pgG ?hdG ?poG ?sXG ?vG_code ?vG_listed ?vG_ways ?vG_held ?vG_label ?vG_gate ?mkG ?kXG ?atG ?obG ?nameG ?slotG ?pgcG ?rdG ?hXG ?hmG2 ?inG ?ifG ?aXK ?pgK ?hdK ?poK ?sXK ?vK_code ?vK_listed ?vK_ways ?vK_held ?vK_label ?vK_gate ?mkK ?kXK ?atK ?obK ?nameK ?slotK ?pgcK ?rdK ?hXK ?hmK2 ?inK ?ifK ?eqW ?efW ?neW ?plW ?pcW ?pzW ?kdW ?kdfW ?eqG ?efG ?neG ?plG ?pcG ?pzG ?paG ?kdG ?kdfG ?eqK ?efK ?neK ?plK ?pcK ?pzK ?paK ?kdK ?kdfK ?g_pLW ?t_pLW ?r_pLW ?g_pLU ?t_pLU ?r_pLU ?g_pLK ?t_pLK ?r_pLK ?g_pCo ?t_pCo ?r_pCo ?g_pSz ?t_pSz ?r_pSz ?g_pGa ?t_pGa ?r_pGa ?st ?suW1 ?suW2 ?suG1 ?suG2 ?suK1 ?suK2 ?su2G1 ?su2G2 ?su2K1 ?su2K2 ?ty_fBI ?fi_fBI ?ty_fGI ?fi_fGI ?lWI ?cc_WI ?kfWI ?cl_WI ?cd_WI ?lGI ?cc_GI ?kfGI ?cl_GI ?cd_GI ?lUI ?cc_UI ?kfUI ?cl_UI ?cd_UI ?lKI ?cc_KI ?kfKI ?cl_KI ?cd_KI ?sup0 ?gPW ?lPW ?gIW ?lIW ?gCW ?lCW ?gML ?gMI ?gMN ?gMW ?aName ?aTups ?aFork ?aBr ?aBeh ?aFlat ?aInn ?aShp ?aMis ?aWr ?aWL ?aHl ?aEach ?aCB ?aWA ?aWO ?aAl ?aEq ?aCN ?aCP ?aCCr ?aNum ?aPool ?aDr ?aPk ?aTu ?aSz ?aLF ?aBdy ?aBlk ?aHd ?aLNm ?aDu ?aRt ?aL ?lName ?ccName ?kfName ?lTups ?ccTups ?kfTups ?lFork ?ccFork ?kfFork ?lBr ?ccBr ?kfBr ?lBeh ?ccBeh ?kfBeh ?lFlat ?ccFlat ?kfFlat ?lInn ?ccInn ?kfInn ?lShp ?ccShp ?kfShp ?lMis ?ccMis ?kfMis ?lWr ?ccWr ?kfWr ?lWL ?ccWL ?kfWL ?lHl ?ccHl ?kfHl ?lEach ?ccEach ?kfEach ?lCB ?ccCB ?kfCB ?lWA ?ccWA ?kfWA ?lWO ?ccWO ?kfWO ?lAl ?ccAl ?kfAl ?lEq ?ccEq ?kfEq ?lCN ?ccCN ?kfCN ?lCP ?ccCP ?kfCP ?lCCr ?ccCCr ?kfCCr ?lNum ?ccNum ?kfNum ?lPool ?ccPool ?kfPool ?lDr ?ccDr ?kfDr ?lPk ?ccPk ?kfPk ?lTu ?ccTu ?kfTu ?lSz ?ccSz ?kfSz ?lLF ?ccLF ?kfLF ?lBdy ?ccBdy ?kfBdy ?lBlk ?ccBlk ?kfBlk ?lHd ?ccHd ?kfHd ?lLNm ?ccLNm ?kfLNm ?lDu ?ccDu ?kfDu ?lRt ?ccRt ?kfRt ?lL ?ccL ?kfL ?lII ?ccII ?kfII ?lNC ?ccNC ?kfNC ?lUN ?ccUN ?kfUN ?lBI ?ccBI ?kfBI ?lCo ?ccCo ?kfCo ?lSize ?ccSize ?kfSize ?lLbW ?ccLbW ?kfLbW ?lLbU ?ccLbU ?kfLbU ?lLbK ?ccLbK ?kfLbK ?lGate ?ccGate ?kfGate ?lKdW ?ccKdW ?kfKdW ?lKdU ?ccKdU ?kfKdU ?lKdK ?ccKdK ?kfKdK ?lEW ?ccEW ?kfEW ?lEU ?ccEU ?kfEU ?lEK ?ccEK ?kfEK ?kb ?z_isinstance ?z_str ?z_len ?z_all ?z_tuple ?z_enumerate ?z_list ?z_max ?z_range ?z_int ?z_repr ?z_sum ?z_super
    (case aI => k_is)
    (case xI => k_is)
    (case saI => k_is)
    (case gaI => k_is)
    (case ggI => k_is)
    (case nI_place => k_is)
    (case iI => k_is)
    (case tI => k_is)
    (case kCI => k_is)
    (case eCI => k_is)
    (case tCI => k_is)
    (case hCI => k_is)
    (case haI => k_is)
    (case hmI => k_is)
    (case aC => k_is)
    (case xC => k_is)
    (case saC => k_is)
    (case gaC => k_is)
    (case ggC => k_is)
    (case nC_name => k_is)
    (case nC_place => k_is)
    (case iC => k_is)
    (case tC => k_is)
    (case kCC => k_is)
    (case eCC => k_is)
    (case tCC => k_is)
    (case hCC => k_is)
    (case haC => k_is)
    (case hmC => k_is)
    (case aU => k_is)
    (case xU => k_is)
    (case saU => k_is)
    (case gaU => k_is)
    (case ggU => k_is)
    (case nU_name => k_is)
    (case iU => k_is)
    (case tU => k_is)
    (case kCU => k_is)
    (case eCU => k_is)
    (case tCU => k_is)
    (case hCU => k_is)
    (case haU => k_is)
    (case hmU => k_is)
    (case hn => k_is)
    (case ht => k_is)
    (case aGt => k_is)
    (case inGt => k_is)
    (case aXB => k_is)
    (case pgB => k_is)
    (case hdB => k_is)
    (case poB => k_is)
    (case sXB => k_is)
    (case vB_code => k_is)
    (case vB_listed => k_is)
    (case vB_ways => k_is)
    (case vB_held => k_is)
    (case vB_label => k_is)
    (case vB_gate => k_is)
    (case mkB => k_is)
    (case kXB => k_is)
    (case atB => k_is)
    (case obB => k_is)
    (case nameB => kernel_rfl)
    (case slotB => exact rfl)
    (case pgcB => k_is)
    (case rdB => k_is)
    (case hXB => k_is)
    (case hmB2 => k_is)
    (case inB => k_is)
    (case ifB => k_is)
    (case aXW => k_is)
    (case pgW => k_is)
    (case hdW => k_is)
    (case poW => k_is)
    (case sXW => k_is)
    (case vW_code => k_is)
    (case vW_listed => k_is)
    (case vW_ways => k_is)
    (case vW_held => k_is)
    (case vW_label => k_is)
    (case vW_gate => k_is)
    (case mkW => k_is)
    (case kXW => k_is)
    (case atW => k_is)
    (case obW => k_is)
    (case nameW => kernel_rfl)
    (case slotW => exact rfl)
    (case pgcW => k_is)
    (case rdW => k_is)
    (case hXW => k_is)
    (case hmW2 => k_is)
    (case inW => k_is)
    (case ifW => k_is)
    (case aXG => k_is)
    (case pgG => k_is)
    (case hdG => k_is)
    (case poG => k_is)
    (case sXG => k_is)
    (case vG_code => k_is)
    (case vG_listed => k_is)
    (case vG_ways => k_is)
    (case vG_held => k_is)
    (case vG_label => k_is)
    (case vG_gate => k_is)
    (case mkG => k_is)
    (case kXG => k_is)
    (case atG => k_is)
    (case obG => k_is)
    (case nameG => kernel_rfl)
    (case slotG => exact rfl)
    (case pgcG => k_is)
    (case rdG => k_is)
    (case hXG => k_is)
    (case hmG2 => k_is)
    (case inG => k_is)
    (case ifG => k_is)
    (case aXK => k_is)
    (case pgK => k_is)
    (case hdK => k_is)
    (case poK => k_is)
    (case sXK => k_is)
    (case vK_code => k_is)
    (case vK_listed => k_is)
    (case vK_ways => k_is)
    (case vK_held => k_is)
    (case vK_label => k_is)
    (case vK_gate => k_is)
    (case mkK => k_is)
    (case kXK => k_is)
    (case atK => k_is)
    (case obK => k_is)
    (case nameK => kernel_rfl)
    (case slotK => exact rfl)
    (case pgcK => k_is)
    (case rdK => k_is)
    (case hXK => k_is)
    (case hmK2 => k_is)
    (case inK => k_is)
    (case ifK => k_is)
    (case eqW => k_is)
    (case efW => k_is)
    (case neW => k_is)
    (case plW => k_is)
    (case pcW => k_is)
    (case pzW => k_is)
    (case kdW => k_is)
    (case kdfW => k_is)
    (case eqG => k_is)
    (case efG => k_is)
    (case neG => k_is)
    (case plG => k_is)
    (case pcG => k_is)
    (case pzG => k_is)
    (case paG => k_is)
    (case kdG => k_is)
    (case kdfG => k_is)
    (case eqK => k_is)
    (case efK => k_is)
    (case neK => k_is)
    (case plK => k_is)
    (case pcK => k_is)
    (case pzK => k_is)
    (case paK => k_is)
    (case kdK => k_is)
    (case kdfK => k_is)
    (case g_pLW => k_is)
    (case t_pLW => k_is)
    (case r_pLW => k_is)
    (case g_pLU => k_is)
    (case t_pLU => k_is)
    (case r_pLU => k_is)
    (case g_pLK => k_is)
    (case t_pLK => k_is)
    (case r_pLK => k_is)
    (case g_pCo => k_is)
    (case t_pCo => k_is)
    (case r_pCo => k_is)
    (case g_pSz => k_is)
    (case t_pSz => k_is)
    (case r_pSz => k_is)
    (case g_pGa => k_is)
    (case t_pGa => k_is)
    (case r_pGa => k_is)
    (case st => k_is)
    (case suW1 => k_is)
    (case suW2 => kernel_rfl)
    (case suG1 => k_is)
    (case suG2 => kernel_rfl)
    (case suK1 => k_is)
    (case suK2 => kernel_rfl)
    (case su2G1 => k_is)
    (case su2G2 => kernel_rfl)
    (case su2K1 => k_is)
    (case su2K2 => kernel_rfl)
    (case ty_fBI => k_is)
    (case fi_fBI => k_is)
    (case ty_fGI => k_is)
    (case fi_fGI => k_is)
    (case lWI => k_is)
    (case cc_WI => k_is)
    (case kfWI => k_is)
    (case cl_WI => k_is)
    (case cd_WI => kernel_rfl)
    (case lGI => k_is)
    (case cc_GI => k_is)
    (case kfGI => k_is)
    (case cl_GI => k_is)
    (case cd_GI => kernel_rfl)
    (case lUI => k_is)
    (case cc_UI => k_is)
    (case kfUI => k_is)
    (case cl_UI => k_is)
    (case cd_UI => kernel_rfl)
    (case lKI => k_is)
    (case cc_KI => k_is)
    (case kfKI => k_is)
    (case cl_KI => k_is)
    (case cd_KI => kernel_rfl)
    (case sup0 => kernel_rfl)
    (case gPW => k_is)
    (case lPW => k_is)
    (case gIW => k_is)
    (case lIW => k_is)
    (case gCW => k_is)
    (case lCW => k_is)
    (case gML => k_is)
    (case gMI => k_is)
    (case gMN => k_is)
    (case gMW => k_is)
    (case aName => k_is)
    (case aTups => k_is)
    (case aFork => k_is)
    (case aBr => k_is)
    (case aBeh => k_is)
    (case aFlat => k_is)
    (case aInn => k_is)
    (case aShp => k_is)
    (case aMis => k_is)
    (case aWr => k_is)
    (case aWL => k_is)
    (case aHl => k_is)
    (case aEach => k_is)
    (case aCB => k_is)
    (case aWA => k_is)
    (case aWO => k_is)
    (case aAl => k_is)
    (case aEq => k_is)
    (case aCN => k_is)
    (case aCP => k_is)
    (case aCCr => k_is)
    (case aNum => k_is)
    (case aPool => k_is)
    (case aDr => k_is)
    (case aPk => k_is)
    (case aTu => k_is)
    (case aSz => k_is)
    (case aLF => k_is)
    (case aBdy => k_is)
    (case aBlk => k_is)
    (case aHd => k_is)
    (case aLNm => k_is)
    (case aDu => k_is)
    (case aRt => k_is)
    (case aL => k_is)
    (case lName => k_is)
    (case ccName => k_is)
    (case kfName => k_is)
    (case lTups => k_is)
    (case ccTups => k_is)
    (case kfTups => k_is)
    (case lFork => k_is)
    (case ccFork => k_is)
    (case kfFork => k_is)
    (case lBr => k_is)
    (case ccBr => k_is)
    (case kfBr => k_is)
    (case lBeh => k_is)
    (case ccBeh => k_is)
    (case kfBeh => k_is)
    (case lFlat => k_is)
    (case ccFlat => k_is)
    (case kfFlat => k_is)
    (case lInn => k_is)
    (case ccInn => k_is)
    (case kfInn => k_is)
    (case lShp => k_is)
    (case ccShp => k_is)
    (case kfShp => k_is)
    (case lMis => k_is)
    (case ccMis => k_is)
    (case kfMis => k_is)
    (case lWr => k_is)
    (case ccWr => k_is)
    (case kfWr => k_is)
    (case lWL => k_is)
    (case ccWL => k_is)
    (case kfWL => k_is)
    (case lHl => k_is)
    (case ccHl => k_is)
    (case kfHl => k_is)
    (case lEach => k_is)
    (case ccEach => k_is)
    (case kfEach => k_is)
    (case lCB => k_is)
    (case ccCB => k_is)
    (case kfCB => k_is)
    (case lWA => k_is)
    (case ccWA => k_is)
    (case kfWA => k_is)
    (case lWO => k_is)
    (case ccWO => k_is)
    (case kfWO => k_is)
    (case lAl => k_is)
    (case ccAl => k_is)
    (case kfAl => k_is)
    (case lEq => k_is)
    (case ccEq => k_is)
    (case kfEq => k_is)
    (case lCN => k_is)
    (case ccCN => k_is)
    (case kfCN => k_is)
    (case lCP => k_is)
    (case ccCP => k_is)
    (case kfCP => k_is)
    (case lCCr => k_is)
    (case ccCCr => k_is)
    (case kfCCr => k_is)
    (case lNum => k_is)
    (case ccNum => k_is)
    (case kfNum => k_is)
    (case lPool => k_is)
    (case ccPool => k_is)
    (case kfPool => k_is)
    (case lDr => k_is)
    (case ccDr => k_is)
    (case kfDr => k_is)
    (case lPk => k_is)
    (case ccPk => k_is)
    (case kfPk => k_is)
    (case lTu => k_is)
    (case ccTu => k_is)
    (case kfTu => k_is)
    (case lSz => k_is)
    (case ccSz => k_is)
    (case kfSz => k_is)
    (case lLF => k_is)
    (case ccLF => k_is)
    (case kfLF => k_is)
    (case lBdy => k_is)
    (case ccBdy => k_is)
    (case kfBdy => k_is)
    (case lBlk => k_is)
    (case ccBlk => k_is)
    (case kfBlk => k_is)
    (case lHd => k_is)
    (case ccHd => k_is)
    (case kfHd => k_is)
    (case lLNm => k_is)
    (case ccLNm => k_is)
    (case kfLNm => k_is)
    (case lDu => k_is)
    (case ccDu => k_is)
    (case kfDu => k_is)
    (case lRt => k_is)
    (case ccRt => k_is)
    (case kfRt => k_is)
    (case lL => k_is)
    (case ccL => k_is)
    (case kfL => k_is)
    (case lII => k_is)
    (case ccII => k_is)
    (case kfII => k_is)
    (case lNC => k_is)
    (case ccNC => k_is)
    (case kfNC => k_is)
    (case lUN => k_is)
    (case ccUN => k_is)
    (case kfUN => k_is)
    (case lBI => k_is)
    (case ccBI => k_is)
    (case kfBI => k_is)
    (case lCo => k_is)
    (case ccCo => k_is)
    (case kfCo => k_is)
    (case lSize => k_is)
    (case ccSize => k_is)
    (case kfSize => k_is)
    (case lLbW => k_is)
    (case ccLbW => k_is)
    (case kfLbW => k_is)
    (case lLbU => k_is)
    (case ccLbU => k_is)
    (case kfLbU => k_is)
    (case lLbK => k_is)
    (case ccLbK => k_is)
    (case kfLbK => k_is)
    (case lGate => k_is)
    (case ccGate => k_is)
    (case kfGate => k_is)
    (case lKdW => k_is)
    (case ccKdW => k_is)
    (case kfKdW => k_is)
    (case lKdU => k_is)
    (case ccKdU => k_is)
    (case kfKdU => k_is)
    (case lKdK => k_is)
    (case ccKdK => k_is)
    (case kfKdK => k_is)
    (case lEW => k_is)
    (case ccEW => k_is)
    (case kfEW => k_is)
    (case lEU => k_is)
    (case ccEU => k_is)
    (case kfEU => k_is)
    (case lEK => k_is)
    (case ccEK => k_is)
    (case kfEK => k_is)
    (case kb => kernel_rfl)
    (case z_isinstance => k_is)
    (case z_str => k_is)
    (case z_len => k_is)
    (case z_all => k_is)
    (case z_tuple => k_is)
    (case z_enumerate => k_is)
    (case z_list => k_is)
    (case z_max => k_is)
    (case z_range => k_is)
    (case z_int => k_is)
    (case z_repr => k_is)
    (case z_sum => k_is)
    (case z_super => k_is)
